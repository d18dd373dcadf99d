import PyProof.Rows.All
import Wide.All
import OpenK.KSplit
import OpenK.KNot
import OpenK.KApp
import KE.KPop
import KE.KListMore
import KE.RegKMod
import KE.KDictOf
import KE.KDictMeth
import KE.KEqSeq
import KE.KSlice
import KE.GnPush
import KE.KSorted
import KE.KJoinElse
import KE.RegTryLedger
import KE.KTops
import KE.RegKSuper
import KE.KSort
import KE.KDictLoop
import KE.RegLcTurns
import KE.RegLcAnyAll
import KE.KCat
import KE.KTemps
import KE.KTup
import KE.KxMul
import KE.KxSplit
import KE.KxIndex
import KE.KxText
import KE.KCells
import KE.KPassesOwn
import KE.RegKIsNot
import KE.KTempsTwo
import KE.KSetInts
import KE.KSortedL
import KE.KxBytes
import KE.KClos
import KE.KNestStore
import KE.KOwnIter
import KE.KStopIter
import KE.RegKBase
import KE.KDictOne
import KE.RegKMathG
import KE.KDictAny
import KE.RegKCallOwn
import KE.KSliceW
import KE.KxDecode
import KE.RegKMathGB
import KE.KLam
import KE.KDictBranch
import KE.KTree
import KE.KTreeB
import KE.KNestM
import KE.KDflt
import KE.KOwnIterCall
import KE.KSortedM
import KE.KTurns
import KE.KEqText
import KE.KxLen
import KE.RegKMathGC
import KE.KIsClose
import KE.KEqDict
import KE.KDisp
import KE.KDictAnyGet
import KE.KDictObj
import KE.KSetIn
import KE.KRevSl
import KE.KEqDeep
import KE.KAnyBase
import KE.KBoundM
import KE.KWhile
import KE.KRevIter
import KE.KCount
import KE.KTreeR
import KE.KxStill
import KE.KFinally
import KE.KTopLam
import KE.KWithOwn
import KE.KCases
import KE.KOpsOwn
import KE.KDictNew
import KE.KDictList
import KE.KDictIter
import KE.RegKUnpackStar
import KE.KSortAsk
import KE.KWhileD
import KE.KLcTest
import KE.KSumEnd
import KE.KPopAny
import KE.KGrown
import KE.KItemAt
import KE.KTextLit
import KE.KTupDict
import KE.KFmtOwn
import KE.KUnrMore
import KE.KMinKey
import KE.KTurnsDict
import KE.KExtendNil
import KE.KMethU
import KE.BytesMul
import KE.KCompFold
import KE.KDictSum
import KE.KDictName
import KE.KDictSym
import KE.KTurnsAny
import KE.KDictAnyTail
import KE.RegKStar
import KE.RegKParD
import KE.RegKTupTruth
import KE.RegKTupSum
import KE.KCallJoin
import KE.KMethJoin
import KE.KPathRangeEnd
import KE.KStateW
import KE.RegKParC
import KE.KxWritten
import KE.KxAdd
import KE.KxAffix
import KE.KxField
import KE.RegKIsAll
import KE.RegKMatchCls
import KE.KLcPair
import KE.RegKTryDeep
import KE.KJoinL
import KE.RegKNeg
import KE.KxPercentT
import KE.KBytesCut
import KE.KCellOne
import KE.KCompIf
import KE.KMenu
import KE.KxFormat
import KE.KTypeName
import KE.KCompText
import KE.BytesMulAny
import KE.KDictSymLen
import KE.KSortTup
import KE.KPairAssign
import KE.KTypeOf
import KE.KFinEnd
import KE.KMulAny
import KE.KBytesMenu
import KE.KTextDict
import KE.KPathShort
import KE.KSplitRange
import KE.KKinds
import KE.KxPart
import KE.KRangeItem
import KE.KDictLetter
import KE.KRangeNest
import KE.KSetAt
import KE.KWords
import KE.KxTruthy
import KE.KPairRows
import KE.KBytesMore
import KE.RegKStateDown
import KE.KItemsList
import KE.KRangePlain
import KE.KStateGiven
import KE.KBitsMul
import KE.KTextTable
import KE.KForList
import KE.KIdxIf
import KE.KAssignIn
import KE.KFirstTurn
import KE.KOwnRange
import KE.KLooksOwn
import KE.KDictWord
import KE.KStrOpen
import KE.KTurnsGround
import KE.KListEnd
import KE.KSearch
import KE.KFinFacts
import KE.RegKTryOn
import KE.KCenter
import KE.KStrWords
import KE.KStateTextK
import KE.KBools
import KE.KStateWGiven
import KE.KData
import KE.KCallTup
import KE.KTreeD
import KE.KTreeF
import KE.KEndWord
import KE.KStateBytes
import KE.KRangeEnd
import KE.KOf
import KE.KRepItem
import KE.KListLetter
import KE.KSliceSign
import KE.KCallBy
import KE.KToBytes
import KE.KPathText
import KE.KMinBuiltin
import KE.KFromBytes
import KE.KEqDat
import KE.KBytesUnr
import KE.KIsBytes
import KE.KCallRec
import KE.KEndW
import KE.RegLGe
import KE.RegLGeC
import Wide.FinOn
import Wide.FinOn
import Lean
import PyProof.EqAt
import PyProof.EqKinds
import PyProof.TupleCall
import KE.KTryMore
import KE.KRevSl
import KE.KSortTup
import KE.KRevIter
import PyProof.TupleOfGen
import KE.KUnpack
import PySem.Challenge.RW_manyleast_k47_rows_turned_and_widened
set_option Elab.async false
set_option linter.all false
set_option maxRecDepth 100000
set_option maxHeartbeats 4000000
namespace MyQ
open PySem PySem.W PyProof.Rows
def at_ (i : Nat) : Stmt := PySem.Challenge.pw_manyleast_k47_rows_turned_and_widened.main.body.getD i (.Pass ⟨0, 0, 0, 0⟩)
def vw : Program := { PySem.Challenge.pw_manyleast_k47_rows_turned_and_widened with main := { PySem.Challenge.pw_manyleast_k47_rows_turned_and_widened.main with body := [at_ 1, at_ 2, at_ 3, at_ 4, at_ 5, at_ 6, at_ 7, at_ 9, at_ 10, at_ 11, at_ 12, at_ 13, at_ 14, at_ 15, at_ 16, at_ 17, at_ 19, at_ 20, at_ 22, at_ 23, at_ 24, at_ 25, at_ 26, at_ 27, at_ 28, at_ 30, at_ 31, at_ 32, at_ 33, at_ 35, at_ 36, at_ 37, at_ 39, at_ 40, at_ 41, at_ 42, at_ 43, at_ 45, at_ 46, at_ 47, at_ 48, at_ 49, at_ 50, at_ 51, at_ 52, at_ 53, at_ 54, at_ 55, at_ 56] } }
set_option hygiene false
local macro_rules | `(tactic| o_head $H) => `(tactic| (refine holds_open (q := MyQ.vw) (loose := ([] : List PySem.Str)) (Xt := fun s => xlAt MyQ.vw ([] : List (PySem.Str × WData)) s && recOk (RowW.records (OpenRow.toRowW _)) s) (XP := XL MyQ.vw ([] : List (PySem.Str × WData))) (Yf := Hook.obs $H) (Ya := Hook.val $H) (YP := Hook.says $H) (N := 20000) ?hl (Hook.of $H) (Hook.keeps $H) (fun s e => xl_of s (Bool.and_eq_true_iff.mp e).1) XL.keeps (by rfl) (by rfl) (by rfl) (fun s e => recFacts_of (Bool.and_eq_true_iff.mp e).2) (by rfl) (by assumption) (by decide +kernel) ⟨rfl, rfl, rfl, rfl, rfl, by decide +kernel⟩ ?hw ?hc; (case hl => exact fun w => by kernel_rfl)))
set_option maxRecDepth 100000 in
set_option maxHeartbeats 0 in
open_top hd for PySem.Challenge.rw_manyleast_k47_rows_turned_and_widened
end MyQ
namespace L2
open PySem PySem.Spec PyProof.Rows
abbrev Key := Sum Int Str
def keyIs : Key → Value → Bool
  | .inl k, v => Value.isInt k v
  | .inr x, v => Value.isStrOf x v
def keyH (w : World) : Key → Int
  | .inl k => hashInt k
  | .inr x => hashStr w x
theorem keyIs_shape : ∀ {k : Key} {v : Value}, keyIs k v = true → (∃ i t, k = Sum.inl i ∧ v = Value.int i t) ∨ (∃ x t, k = Sum.inr x ∧ v = Value.str x t)
  | .inl i, v, h => by
    obtain ⟨t, e⟩ := Value.isInt_shape (k := i) (v := v) h
    exact .inl ⟨i, t, rfl, e⟩
  | .inr x, v, h => by
    obtain ⟨t, e⟩ := Value.isStrOf_shape (x := x) (v := v) h
    exact .inr ⟨x, t, rfl, e⟩
theorem key_ll (a b : Int) : decide ((Sum.inl a : Key) = Sum.inl b) = (a == b) := by
  by_cases e : a = b
  · subst e; simp
  · have h : ¬ (Sum.inl a : Key) = Sum.inl b := fun q => e (Sum.inl.inj q)
    rw [decide_eq_false h]
    exact (beq_eq_false_iff_ne.mpr e).symm
theorem key_rr (a b : Str) : decide ((Sum.inr a : Key) = Sum.inr b) = decide (a = b) := by
  by_cases e : a = b
  · subst e; simp
  · have h : ¬ (Sum.inr a : Key) = Sum.inr b := fun q => e (Sum.inr.inj q)
    rw [decide_eq_false h, decide_eq_false e]
theorem key_lr (a : Int) (b : Str) : decide ((Sum.inl a : Key) = Sum.inr b) = false := decide_eq_false (fun q => nomatch q)
theorem key_rl (a : Str) (b : Int) : decide ((Sum.inr a : Key) = Sum.inl b) = false := decide_eq_false (fun q => nomatch q)
def mixKind (prog : Program) (w : World) : PySem.KeyKind prog w Key where
  is := keyIs
  hash := keyH w
  inj := fun v a b ha hb => by
    rcases keyIs_shape ha with ⟨i, t, rfl, rfl⟩ | ⟨x, t, rfl, rfl⟩
    · rcases keyIs_shape hb with ⟨j, u, rfl, e⟩ | ⟨y, u, rfl, e⟩
      · injection e with e1 _; rw [e1]
      · exact nomatch e
    · rcases keyIs_shape hb with ⟨j, u, rfl, e⟩ | ⟨y, u, rfl, e⟩
      · exact nomatch e
      · injection e with e1 _; rw [e1]
  byValue := fun k v h => by
    rcases keyIs_shape h with ⟨i, t, rfl, rfl⟩ | ⟨x, t, rfl, rfl⟩ <;> rfl
  pyHash := fun hv h => by
    rcases keyIs_shape hv with ⟨i, t, rfl, rfl⟩ | ⟨x, t, rfl, rfl⟩
    · exact wpAny_pyHash_int h
    · exact wpAny_pyHash_str h
  eqBool := fun hu hv h => by
    rcases keyIs_shape hu with ⟨i, t, rfl, rfl⟩ | ⟨x, t, rfl, rfl⟩
    · rcases keyIs_shape hv with ⟨j, u, rfl, rfl⟩ | ⟨y, u, rfl, rfl⟩
      · rw [key_ll] at h; exact wpAny_eqBool_int h
      · rw [key_lr] at h; exact SeqAt.EqAt.int_str i t y u _ _ _ _ h
    · rcases keyIs_shape hv with ⟨j, u, rfl, rfl⟩ | ⟨y, u, rfl, rfl⟩
      · rw [key_rl] at h; exact SeqAt.EqAt.str_int x t j u _ _ _ _ h
      · rw [key_rr] at h; exact wpAny_eqBool_str h
  «strs» := fun k x t v h => by
    rcases keyIs_shape h with ⟨i, u, rfl, e⟩ | ⟨y, u, rfl, e⟩
    · exact nomatch e
    · injection e with e1 _
      subst e1
      cases v <;> rfl
end L2
namespace L2
open PySem PySem.Spec PyProof.Rows
inductive V where
  | non | bl (b : Bool) | int (i : Int) | str (x : Str) | byt (b : Array UInt8) | flt (b : UInt64) | ref (a : Addr) | ty (n : String)
  deriving DecidableEq
def RelV : V → Value → Prop
  | .non, u => u = Value.none
  | .bl b, u => u = Value.bool b
  | .int i, u => ∃ t, u = Value.int i t
  | .str x, u => ∃ t, u = Value.str x t
  | .byt b, u => ∃ t, u = Value.bytes b t
  | .flt b, u => ∃ t, u = Value.float b t
  | .ref a, u => u = Value.ref a
  | .ty n, u => u = Value.type n
abbrev Vals : List V → List Value → Prop := Paired RelV
theorem Vals.length {xs : List V} {us : List Value} (r : Vals xs us) : xs.length = us.length := Paired.length r
theorem Vals.get : ∀ {xs : List V} {us : List Value} {i : Nat} {x : V}, Vals xs us → xs[i]? = some x → ∃ u, us[i]? = some u ∧ RelV x u
  | _, _, _, _, .nil, e => by simp at e
  | _, _, 0, _, .cons r _, e => by simp at e; subst e; exact ⟨_, rfl, r⟩
  | _, _, i + 1, x, .cons _ t, e => by
    obtain ⟨u, h1, h2⟩ := Vals.get (i := i) (x := x) t (by simpa using e)
    exact ⟨u, by simpa using h1, h2⟩
theorem Vals.set {x : V} {u : Value} (r : RelV x u) : ∀ {xs : List V} {us : List Value} (i : Nat), Vals xs us → Vals (xs.set i x) (us.set i u)
  | _, _, _, .nil => .nil
  | _, _, 0, .cons _ t => .cons r t
  | _, _, i + 1, .cons q t => .cons q (Vals.set r i t)
theorem Vals.append : ∀ {xs ys : List V} {us ws : List Value}, Vals xs us → Vals ys ws → Vals (xs ++ ys) (us ++ ws)
  | _, _, _, _, .nil, s => s
  | _, _, _, _, .cons r t, s => .cons r (Vals.append t s)
theorem Vals.take : ∀ {xs : List V} {us : List Value} (n : Nat), Vals xs us → Vals (xs.take n) (us.take n)
  | _, _, 0, _ => .nil
  | _, _, _ + 1, .nil => .nil
  | _, _, n + 1, .cons r t => .cons r (Vals.take n t)
theorem Vals.drop : ∀ {xs : List V} {us : List Value} (n : Nat), Vals xs us → Vals (xs.drop n) (us.drop n)
  | _, _, 0, r => r
  | _, _, _ + 1, .nil => .nil
  | _, _, n + 1, .cons _ t => Vals.drop n t
def RelO : Option V → Option Value → Prop
  | some v, some u => RelV v u
  | none, none => True
  | _, _ => False
def KV {κ : Type} : List (κ × V) → List (κ × Value) → Prop := Paired fun (p : κ × V) (q : κ × Value) => p.1 = q.1 ∧ RelV p.2 q.2
def kV : Key → V
  | .inl i => .int i
  | .inr x => .str x
inductive HO where
  | lst (xs : List V)
  | tup (xs : List V)
  | dK (kvs : List (Key × V)) | dT (kvs : List (List Key × V))
  | set (S : Int → Bool) (n : Nat)
  | ins (C dx : Addr) (fs : List (Str × V))
  | own (x : Addr)
  | xd (fs : List (Str × V))
  | met (f x : Addr)
  | rng (lo hi : Int)
  | frz (o : Obj) (u : HO)
  | tbl (ps : Array Value)
  | ext (φ : Heap → Prop)
abbrev Hp := Addr → Option HO
def upd (H : Hp) (a : Addr) (o : HO) : Hp := fun b => if b = a then some o else H b
theorem upd_same {H : Hp} {a : Addr} {o : HO} : upd H a o a = some o := by unfold upd; rw [if_pos rfl]
theorem upd_ne {H : Hp} {a b : Addr} {o : HO} (h : b ≠ a) : upd H a o b = H b := by unfold upd; rw [if_neg h]
theorem upd_upd {H : Hp} {a : Addr} {o u : HO} : upd (upd H a o) a u = upd H a u := by
  funext b; unfold upd; split <;> rfl
theorem ne_of {H : Hp} {a b : Addr} {o u : HO} (h : H a = some o) (h' : H b = some u) (d : o ≠ u) : a ≠ b := by
  intro e; subst e; rw [h] at h'; exact d (Option.some.inj h')
theorem ne_of_none {H : Hp} {a b : Addr} {o : HO} (h : H a = some o) (h' : H b = none) : a ≠ b := by
  intro e; subst e; rw [h] at h'; cases h'
section
variable (P : Program) (w : World)
def ObjOk (H : Hp) (h : Heap) (a : Addr) : HO → Prop
  | .lst xs => xs.length ≤ sizeLine ∧ ∃ (its : List Value) (n : Nat), Vals xs its ∧ h.get? a = some { cls := .type "list", data := .seq its.toArray n }
  | .tup xs => xs.length ≤ sizeLine ∧ ∃ its : List Value, Vals xs its ∧ IsTup h a its.toArray
  | .dK kvs => kvs.length ≤ sizeLine ∧ (a == sysModules) = false ∧ ∃ vs, KV kvs vs ∧ h.DictOf (mixKind P w) a vs
  | .dT kvs => kvs.length ≤ sizeLine ∧ (a == sysModules) = false ∧ ∃ xs : List (List Key × Addr × Value),
      Paired (fun (p : List Key × V) (q : List Key × Addr × Value) => p.1 = q.1 ∧ H q.2.1 = some (.tup (p.1.map kV)) ∧ RelV p.2 q.2.2) kvs xs ∧
      ∃ o es ep, h.get? a = some o ∧ o.ExactDict ∧ o.data = .dict es ep ∧ es.toList = xs.map (entryOfKey (tupleKind (mixKind P w))) ∧ (xs.map (·.1)).Nodup
  | .set S n => h.SetOf (intKind P w) a S n
  | .ins C dx fs => H dx = some (.own a) ∧ fs.length ≤ 1000 ∧ dx ≠ a ∧ h.get? a = some (PySem.W.instObj C dx) ∧
      ∃ mA, h.Ns1 dx mA ∧ (∀ f, RelO (fs.lookup f) (mA f)) ∧ PySem.Within mA (fs.map (·.1))
  | .own _ => ∃ o, h.get? a = some o
  | .xd fs => ∃ mA, h.Ns1 a mA ∧ ∀ f, RelO (fs.lookup f) (mA f)
  | .rng lo hi => ∃ t u v, h.get? a = some { cls := .type "range", data := .fields #[.int lo t, .int hi u, .int 1 v] }
  | .frz o u => h.get? a = some o ∧ ObjOk H h a u
  | .tbl ps => h.get? a = some { cls := .none, data := .fields ps }
  | .met f x => h.get? a = some (PySem.W.methodObj (.ref f) (.ref x))
  | .ext φ => φ h ∧ (∃ o, h.get? a = some o) ∧ ∀ h1 h2 : Heap, φ h1 → (∀ o, h1.get? a = some o → h2.get? a = some o) → φ h2
def HOk (H : Hp) (h : Heap) : Prop := ∀ a o, H a = some o → ObjOk P w H h a o
end
section
variable {P : Program} {w : World} {H H' : Hp} {h h' : Heap} {a : Addr} {o : HO}
theorem ObjOk.lt (x : ObjOk P w H h a o) : a < h.objs.size := by
  cases o with
  | lst xs => obtain ⟨_, _, _, _, e⟩ := x; exact Heap.lt_size e
  | tup xs => obtain ⟨_, _, _, p⟩ := x; exact p.lt
  | dK kvs => obtain ⟨_, _, _, _, o, _, _, e, _⟩ := x; exact Heap.lt_size e
  | dT kvs => obtain ⟨_, _, _, _, o, _, _, e, _⟩ := x; exact Heap.lt_size e
  | set S n => obtain ⟨o, _, _, _, e, _⟩ := x; exact Heap.lt_size e
  | ins C dx fs => obtain ⟨_, _, _, e, _⟩ := x; exact Heap.lt_size e
  | own y => obtain ⟨_, e⟩ := x; exact Heap.lt_size e
  | xd fs => obtain ⟨_, ⟨_, _, _, e, _⟩, _⟩ := x; exact Heap.lt_size e
  | rng lo hi => obtain ⟨_, _, _, e⟩ := x; exact Heap.lt_size e
  | frz ob u => obtain ⟨e, _⟩ := x; exact Heap.lt_size e
  | tbl ps => exact Heap.lt_size (show h.get? a = some _ from x)
  | met f y => exact Heap.lt_size (show h.get? a = some _ from x)
  | ext φ => obtain ⟨_, ⟨_, e⟩, _⟩ := x; exact Heap.lt_size e
theorem Paired.mapP {α β : Type} {F G : α → β → Prop} : ∀ {l₁ : List α} {l₂ : List β}, Paired F l₁ l₂ → (∀ a b, F a b → G a b) → Paired G l₁ l₂
  | _, _, .nil, _ => .nil
  | _, _, .cons r t, f => .cons (f _ _ r) (Paired.mapP t f)
theorem ObjOk.stay (x : ObjOk P w H h a o) (k : ∀ b u, (b = a ∨ H b = some (.own a)) → h.get? b = some u → h'.get? b = some u)
    (ho : ∀ b, H b = some (.own a) → H' b = some (.own a)) (ht : ∀ b xs, H b = some (.tup xs) → H' b = some (.tup xs)) : ObjOk P w H' h' a o := by
  induction o with
  | lst xs => obtain ⟨z, its, n, r, e⟩ := x; exact ⟨z, its, n, r, k _ _ (.inl rfl) e⟩
  | tup xs => obtain ⟨z, its, r, ob, e, c⟩ := x; exact ⟨z, its, r, ob, k _ _ (.inl rfl) e, c⟩
  | dK kvs => obtain ⟨z, y, vs, r, ob, es, ep, e, c⟩ := x; exact ⟨z, y, vs, r, ob, es, ep, k _ _ (.inl rfl) e, c⟩
  | dT kvs =>
    obtain ⟨z, y, xs, r, ob, es, ep, e, c⟩ := x
    exact ⟨z, y, xs, Paired.mapP r fun p q z => ⟨z.1, ht _ _ z.2.1, z.2.2⟩, ob, es, ep, k _ _ (.inl rfl) e, c⟩
  | set S n => obtain ⟨ob, es, ep, t, e, c⟩ := x; exact ⟨ob, es, ep, t, k _ _ (.inl rfl) e, c⟩
  | ins C dx fs =>
    obtain ⟨d, z, ne, e, mA, ⟨od, es, ep, e2, c⟩, r⟩ := x
    exact ⟨ho _ d, z, ne, k _ _ (.inl rfl) e, mA, ⟨od, es, ep, k _ _ (.inr d) e2, c⟩, r⟩
  | own y => obtain ⟨ob, e⟩ := x; exact ⟨ob, k _ _ (.inl rfl) e⟩
  | xd fs => obtain ⟨mA, ⟨od, es, ep, e, c⟩, r⟩ := x; exact ⟨mA, ⟨od, es, ep, k _ _ (.inl rfl) e, c⟩, r⟩
  | rng lo hi => obtain ⟨t, u, v, e⟩ := x; exact ⟨t, u, v, k _ _ (.inl rfl) e⟩
  | frz ob u ih => obtain ⟨e, q⟩ := x; exact ⟨k _ _ (.inl rfl) e, ih q⟩
  | tbl ps =>
    have e : h.get? a = some { cls := .none, data := .fields ps } := x
    show h'.get? a = some { cls := .none, data := .fields ps }
    exact k a _ (.inl rfl) e
  | met f y =>
    have e : h.get? a = some (PySem.W.methodObj (.ref f) (.ref y)) := x
    show h'.get? a = some (PySem.W.methodObj (.ref f) (.ref y))
    exact k a _ (.inl rfl) e
  | ext φ => obtain ⟨p, ⟨o, e⟩, st⟩ := x; exact ⟨st _ _ p fun o q => k _ _ (.inl rfl) q, ⟨o, k _ _ (.inl rfl) e⟩, st⟩
theorem HOk.lt (x : HOk P w H h) (e : H a = some o) : a < h.objs.size := (x a o e).lt
theorem HOk.fresh (x : HOk P w H h) (e : h.objs.size ≤ a) : H a = none := by
  cases q : H a with
  | none => rfl
  | some u => exact absurd (Nat.lt_of_lt_of_le (x.lt q) e) (Nat.lt_irrefl _)
theorem HOk.kept (x : HOk P w H h) (k : ∀ b u, h.get? b = some u → h'.get? b = some u) : HOk P w H h' := fun a o e =>
  (x a o e).stay (fun b u _ q => k b u q) (fun _ q => q) fun _ _ q => q
theorem HOk.laid (x : HOk P w H h) (k : ∀ b u, h.get? b = some u → h'.get? b = some u) (hp : h.objs.size ≤ a) (new : ObjOk P w (upd H a o) h' a o) : HOk P w (upd H a o) h' := fun b u e => by
  have hn := x.fresh hp
  by_cases hb : b = a
  · subst hb; rw [upd_same] at e; cases e; exact new
  · rw [upd_ne hb] at e
    exact (x b u e).stay (fun c v _ q => k c v q) (fun c q => by rw [upd_ne (ne_of_none q hn)]; exact q) fun c xs q => by rw [upd_ne (ne_of_none q hn)]; exact q
end
def Rd (H : Hp) (a : Addr) (u : HO) : Prop := H a = some u ∨ ∃ o, H a = some (.frz o u)
theorem Rd.ok {P : Program} {w : World} {H : Hp} {h : Heap} {a : Addr} {u : HO} (r : Rd H a u) (x : HOk P w H h) : ObjOk P w H h a u := by
  rcases r with r | ⟨o, r⟩
  · exact x a u r
  · obtain ⟨_, q⟩ := x a _ r
    exact q
def Mut : Option HO → Prop
  | some (.lst _) => True
  | some (.dK _) => True
  | some (.dT _) => True
  | some (.set _ _) => True
  | some (.ins _ _ _) => True
  | some (.ext _) => True
  | _ => False
section
variable {P : Program} {w : World} {H : Hp} {h h' : Heap} {x e : Addr} {o' : HO}
theorem HOk.write (ok : HOk P w H h) (mu : Mut (H x)) (he : e = x ∨ H e = some (.own x)) (k : ∀ b u, b ≠ e → h.get? b = some u → h'.get? b = some u) (heo : ∃ u, h'.get? e = some u)
    (new : ObjOk P w (upd H x o') h' x o') : HOk P w (upd H x o') h' := fun b u q => by
  have nown : ∀ c y, H c = some (.own y) → c ≠ x := fun c y r z => by subst z; rw [r] at mu; exact mu
  have ntup : ∀ c xs, H c = some (.tup xs) → c ≠ x := fun c xs r z => by subst z; rw [r] at mu; exact mu
  by_cases hb : b = x
  · subst hb; rw [upd_same] at q; cases q; exact new
  · rw [upd_ne hb] at q
    by_cases hbe : b = e
    · have q' : H b = some (.own x) := by
        rcases he with z | z
        · exact absurd (hbe.trans z) hb
        · rw [hbe]; exact z
      rw [q] at q'; cases q'
      obtain ⟨v, hv⟩ := heo
      exact ⟨v, by rw [hbe]; exact hv⟩
    · refine (ok b u q).stay (fun c v hc r => k c v ?_ r) (fun c r => by rw [upd_ne (nown c b r)]; exact r) fun c xs r => by rw [upd_ne (ntup c xs r)]; exact r
      rcases hc with rfl | hc
      · exact hbe
      · rintro rfl
        rcases he with z | z
        · exact nown c b hc z
        · rw [hc] at z; cases z; exact hb rfl
end
structure Un (fs ex : List Addr) (H H' : Hp) (h h' : Heap) : Prop where
  keep : ∀ b o, h.get? b = some o → H b = none → b ∉ fs → b ∉ ex → h'.get? b = some o
  slot : ∀ b o, h.get? b = some o → H b = none → b ∈ fs → b ∉ ex → ∃ sl, h'.get? b = some { o with slots := sl }
  free : ∀ b o, h.get? b = some o → H b = none → b ∉ ex → H' b = none
  there : ∀ b o, h.get? b = some o → b ∉ ex → ∃ o', h'.get? b = some o'
  tups : ∀ b xs, H b = some (.tup xs) → H' b = some (.tup xs)
  frzs : ∀ b o u, H b = some (.frz o u) → H' b = some (.frz o u)
  tbls : ∀ b ps, H b = some (.tbl ps) → ∃ more, H' b = some (.tbl (ps ++ more))
section
variable {fs fs' ex ex' : List Addr} {H H1 H2 : Hp} {h h1 h2 h' : Heap} {a x e : Addr} {o : HO}
theorem Un.any (u : Un fs ex H H1 h h1) {b : Addr} {ob : Obj} (q : h.get? b = some ob) (n : H b = none) (hx : b ∉ ex) : ∃ sl, h1.get? b = some { ob with slots := sl } := by
  by_cases hb : b ∈ fs
  · exact u.slot b ob q n hb hx
  · exact ⟨ob.slots, u.keep b ob q n hb hx⟩
theorem Un.kept (k : ∀ b u, h.get? b = some u → h'.get? b = some u) : Un fs ex H H h h' :=
  ⟨fun b ob q _ _ _ => k b ob q, fun b ob q _ _ _ => ⟨ob.slots, k b ob q⟩, fun _ _ _ n _ => n, fun b ob q _ => ⟨ob, k b ob q⟩, fun _ _ q => q, fun _ _ _ q => q, fun _ ps q => ⟨#[], by rw [q]; simp⟩⟩
theorem Un.refl : Un fs ex H H h h := Un.kept fun _ _ q => q
theorem Un.laid (k : ∀ b u, h.get? b = some u → h'.get? b = some u) (hp : h.objs.size ≤ a) (hn : H a = none) : Un fs ex H (upd H a o) h h' where
  keep := fun b u q _ _ _ => k b u q
  slot := fun b u q _ _ _ => ⟨u.slots, k b u q⟩
  free := fun b u q n _ => by rw [upd_ne (Nat.ne_of_lt (Nat.lt_of_lt_of_le (Heap.lt_size q) hp))]; exact n
  there := fun b u q _ => ⟨u, k b u q⟩
  tups := fun b xs q => by rw [upd_ne (ne_of_none q hn)]; exact q
  frzs := fun b u xs q => by rw [upd_ne (ne_of_none q hn)]; exact q
  tbls := fun b ps q => ⟨#[], by rw [upd_ne (ne_of_none q hn), q]; simp⟩
theorem Un.write (mu : Mut (H x)) (he : e = x ∨ H e = some (.own x)) (k : ∀ b u, b ≠ e → h.get? b = some u → h'.get? b = some u) (heo : ∃ u, h'.get? e = some u) : Un fs ex H (upd H x o) h h' := by
  have hx : ∀ b, H b = none → b ≠ x := fun b n z => by subst z; rw [n] at mu; exact mu
  have hb : ∀ b, H b = none → b ≠ e := fun b n z => by
    subst z
    rcases he with r | r
    · exact hx b n r
    · rw [n] at r; cases r
  have hm : ∀ b u, H b = some u → ¬ Mut (some u) → b ≠ x := fun b u q nm z => by subst z; rw [q] at mu; exact nm mu
  refine ⟨fun b u q n _ _ => k b u (hb b n) q, fun b u q n _ _ => ⟨u.slots, k b u (hb b n) q⟩, fun b u q n _ => by rw [upd_ne (hx b n)]; exact n, fun b u q _ => ?_,
    fun b xs q => by rw [upd_ne (hm b _ q fun z => z)]; exact q, fun b u xs q => by rw [upd_ne (hm b _ q fun z => z)]; exact q, fun b ps q => ⟨#[], by rw [upd_ne (hm b _ q fun z => z), q]; simp⟩⟩
  by_cases hbe : b = e
  · subst hbe; exact heo
  · exact ⟨u, k b u hbe q⟩
end
def trk (h : Heap) (H : Hp) : List Addr := (List.range h.objs.size).filter fun a => (H a).isSome
def hidT (h : Heap) (H : Hp) : Heap := PySem.W.hideAll h (trk h H)
theorem hidT_size (h : Heap) (H : Hp) : (hidT h H).objs.size = h.objs.size := PySem.W.hideAll_size _ _
theorem hidT_get {h : Heap} {H : Hp} {b : Addr} {o : Obj} (e : h.get? b = some o) (n : H b = none) : (hidT h H).get? b = some o :=
  PySem.W.hideAll_get _ e fun hm => by
    have q : (H b).isSome = true := (List.mem_filter.mp hm).2
    rw [n] at q; simp at q
theorem of_hidT {h : Heap} {H : Hp} {b : Addr} {o : Obj} (e : (hidT h H).get? b = some o) : h.get? b = some o ∧ H b = none := by
  have e' : h.get? b = some o := PySem.W.of_hideAll (trk h H) e
  refine ⟨e', ?_⟩
  cases q : H b with
  | none => rfl
  | some x =>
    have hm : b ∈ trk h H := List.mem_filter.mpr ⟨List.mem_range.mpr (Heap.lt_size e'), by simp [q]⟩
    have z : (hidT h H).get? b = none := PySem.W.hideAll_none (trk h H) hm
    rw [z] at e; cases e
def allNews (g h : Heap) (L : Addr) : List (Addr × Obj) := (List.range h.objs.size).filterMap fun a => if a = L ∨ (g.get? a).isSome = true then none else (h.get? a).map fun o => (a, o)
def rest (g h : Heap) (L d : Addr) : List (Addr × Obj) := (allNews g h L).filter fun p => decide (p.1 ≠ d)
end L2
namespace L2
open PySem PySem.Spec PyProof.Rows
structure Mod (K : PySem.W.Frag) (mg : Str → Option Value) (base : Heap) : Prop where
  kin : K.In base
  glob : base.Ns mainGlobals mg
  blt : ∃ mb, base.Ns builtinsNs mb ∧ ∀ x : Str, x ≠ "__name__" → mb x = bootBuiltins x
  nolimit : base.NoLimit
structure Cx where
  prog : Program
  w : World
  K : PySem.W.Frag
  mg : Str → Option Value
  base : Heap
  A : Around
  N : List Str
  s₀ : Shared
  H₀ : Hp
  env : Env
  outer : List Env
  stack : List Env
  ex : List Addr
  fn : Str → Bool
  calm : Bool
  pn : List (Addr × Obj)
  xe : Value → Shared → Prop
def frs (l : List Env) : List Addr := l.filterMap (·.frame)
abbrev Cx.fs (X : Cx) : List Addr := frs X.outer
def Vis (sc : Scope) (x : Str) : Prop := sc.names.lookup x = some .local ∨ sc.names.lookup x = some .cell ∨ sc.names.lookup x = some .free
def Loc (sc : Scope) (x : Str) : Prop := sc.names.lookup x = some .local ∨ sc.names.lookup x = some .cell
def Look (env : Env) (h : Heap) (m : Str → Option Value) (x : Str) (u : Value) : Prop :=
  (env.kindOf x = some .local ∧ m x = some u) ∨ ((env.kindOf x = some .cell ∨ env.kindOf x = some .free) ∧ ∃ c, env.cells.lookup x = some c ∧ h.IsCell c (some u))
structure Cx.Ok (X : Cx) : Prop where
  mod : Mod X.K X.mg X.base
  kind : X.env.scope.kind = .function
  glob : X.env.globals = mainGlobals
  blt : X.env.builtins = builtinsNs
  above : X.s₀.heap.objs.size ≤ X.env.locals
  inj : ∀ x y c, X.env.cells.lookup x = some c → X.env.cells.lookup y = some c → x = y
  has : ∀ x, (X.env.kindOf x = some .cell ∨ X.env.kindOf x = some .free) → ∃ c, X.env.cells.lookup x = some c
  cab : ∀ x c, X.fn x = true → X.env.cells.lookup x = some c → X.s₀.heap.objs.size ≤ c
  hd : X.calm = true → X.A.handled = none
  frames : X.A.frames = some X.stack
  stk : X.stack = X.outer ∨ (X.stack = X.env :: X.outer ∧ X.env.frame = some X.env.locals)
  exf : ∀ b ∈ X.ex, b ≠ X.env.locals ∧ ∀ x c, X.env.cells.lookup x = some c → c ≠ b
  bs : ∀ b o, X.base.get? b = some o → X.s₀.heap.get? b = some o ∧ X.H₀ b = none
  bsz : X.base.objs.size ≤ X.s₀.heap.objs.size
  noex : ∀ b o, X.base.get? b = some o → b ∉ X.ex
  exfs : ∀ b ∈ X.ex, b ∉ X.fs
  funs : X.s₀.heap.FunFrames X.base X.outer
  frf : ∀ b ∈ X.fs, X.H₀ b = none
structure Inv (X : Cx) (pins : List (Addr × Obj)) (σ : List (Option V)) (H : Hp) (s : Shared) : Prop where
  ok : X.Ok
  os : s.os = X.s₀.os
  bare : AllBare s.gens
  base : Un X.fs X.ex X.H₀ H X.s₀.heap s.heap
  loc : ∃ m, s.heap.Ns X.env.locals m ∧ ∀ (i : Nat) (x : Str) (v : V), X.N[i]? = some x → σ[i]? = some (some v) → Vis X.env.scope x → ∃ u, RelV v u ∧ Look X.env s.heap m x u
  cell : ∀ x c, X.env.cells.lookup x = some c → ∃ v, s.heap.IsCell c v
  free : H X.env.locals = none
  freeC : ∀ x c, X.env.cells.lookup x = some c → H c = none
  pin : ∀ p ∈ X.pn ++ pins, s.heap.get? p.1 = some p.2 ∧ H p.1 = none ∧ p.1 ≠ X.env.locals ∧ p.1 ∉ X.fs ∧ ∀ v, p.2.data ≠ .cell v
  hok : HOk X.prog X.w H s.heap
  len : σ.length = X.N.length
section
variable {X : Cx} {pins : List (Addr × Obj)} {σ : List (Option V)} {H H' : Hp} {s : Shared} {h' : Heap}
theorem Cx.Ok.nofr (ok : X.Ok) {b : Addr} {o : Obj} (e : X.base.get? b = some o) : b ∉ X.fs := fun hb => by
  have := (ok.funs.mem hb).1
  rw [e] at this; cases this
theorem Inv.bs (I : Inv X pins σ H s) : ∀ b o, X.base.get? b = some o → s.heap.get? b = some o ∧ H b = none := fun b o e =>
  ⟨I.base.keep b o (I.ok.bs b o e).1 (I.ok.bs b o e).2 (I.ok.nofr e) (I.ok.noex b o e), I.base.free b o (I.ok.bs b o e).1 (I.ok.bs b o e).2 (I.ok.noex b o e)⟩
theorem Inv.bk (I : Inv X pins σ H s) : ∀ b o, X.base.get? b = some o → s.heap.get? b = some o := fun b o e => (I.bs b o e).1
theorem Inv.mod (I : Inv X pins σ H s) : Mod X.K X.mg X.base := I.ok.mod
theorem Inv.kIn (I : Inv X pins σ H s) : X.K.In s.heap := I.ok.mod.kin.keeps I.bk
theorem Inv.lt (I : Inv X pins σ H s) : X.env.locals < s.heap.objs.size := let ⟨_, hn, _⟩ := I.loc; hn.lt
theorem Inv.sz (I : Inv X pins σ H s) : X.s₀.heap.objs.size ≤ s.heap.objs.size := Nat.le_trans I.ok.above (Nat.le_of_lt I.lt)
theorem Inv.nofs (I : Inv X pins σ H s) {a : Addr} (h : s.heap.objs.size ≤ a) : a ∉ X.fs := fun hb => by
  obtain ⟨_, o, ho, _⟩ := I.ok.funs.mem hb
  exact absurd (Nat.lt_of_lt_of_le (Heap.lt_size ho) (Nat.le_trans I.sz h)) (Nat.lt_irrefl _)
theorem Inv.cne (I : Inv X pins σ H s) : ∀ x c, X.env.cells.lookup x = some c → c ≠ X.env.locals := fun x c e z => by
  obtain ⟨v, o, ho, hd⟩ := I.cell x c e
  obtain ⟨m, ⟨o', es, ep, ho', hd', _⟩, _⟩ := I.loc
  rw [z, ho'] at ho; cases ho; rw [hd'] at hd; cases hd
theorem Inv.funs (I : Inv X pins σ H s) : s.heap.FunFrames X.base X.outer := by
  have all : ∀ (l : List Env), (∀ b ∈ frs l, b ∈ X.fs) → X.s₀.heap.FunFrames X.base l → s.heap.FunFrames X.base l := by
    intro l
    induction l with
    | nil => intro _ _; trivial
    | cons env r ih =>
      intro hs hl
      obtain ⟨hk, ⟨L, o, hf, hn, ho, hd⟩, hr⟩ := hl
      have hL : L ∈ X.fs := hs L (by unfold frs; rw [List.filterMap_cons, hf]; exact List.mem_cons_self)
      obtain ⟨sl, e⟩ := I.base.slot L o ho (I.ok.frf L hL) hL fun z => I.ok.exfs L z hL
      exact ⟨hk, ⟨L, _, hf, hn, e, hd⟩, ih (fun b hb => hs b (by unfold frs; rw [List.filterMap_cons, hf]; exact List.mem_cons_of_mem _ hb)) hr⟩
  exact all X.outer (fun _ hb => hb) I.ok.funs
theorem Inv.stack (I : Inv X pins σ H s) : s.heap.FunFrames X.base X.stack := by
  rcases I.ok.stk with e | ⟨e, hf⟩
  · rw [e]; exact I.funs
  · rw [e]
    obtain ⟨m, hn, _⟩ := I.loc
    refine .cons (by rw [I.ok.kind]; decide) hf hn ?_ I.funs
    exact Heap.get?_none_of_le (Nat.le_trans I.ok.bsz I.ok.above)
theorem Inv.stkSub (I : Inv X pins σ H s) : ∀ b ∈ frs X.stack, b ∈ X.env.locals :: X.fs := fun b hb => by
  rcases I.ok.stk with e | ⟨e, hf⟩
  · rw [e] at hb; exact List.mem_cons_of_mem _ hb
  · rw [e] at hb
    unfold frs at hb
    rw [List.filterMap_cons, hf] at hb
    exact hb
theorem Inv.stkFree (I : Inv X pins σ H s) : ∀ b ∈ frs X.stack, H b = none := fun b hb => by
  rcases List.mem_cons.mp (I.stkSub b hb) with e | hb
  · rw [e]; exact I.free
  · obtain ⟨_, o, ho, _⟩ := I.ok.funs.mem hb
    exact I.base.free b o ho (I.ok.frf b hb) fun z => I.ok.exfs b z hb
theorem Inv.step {g' : Array GenState} {t' : Nat} {d' : Drawn} {ch : List Addr} (I : Inv X pins σ H s)
    (hch : ∀ b ∈ ch, (b ∈ X.ex ∨ X.s₀.heap.objs.size ≤ b) ∧ b ≠ X.env.locals ∧ (∀ x c, X.env.cells.lookup x = some c → c ≠ b) ∧ ∀ p ∈ X.pn ++ pins, p.1 ≠ b)
    (keep : ∀ b o, b ≠ X.env.locals → b ∉ X.fs → b ∉ ch → s.heap.get? b = some o → H b = none → h'.get? b = some o)
    (slot : ∀ b o, b ≠ X.env.locals → b ∈ X.fs → b ∉ ch → s.heap.get? b = some o → H b = none → ∃ sl, h'.get? b = some { o with slots := sl }) (free : ∀ b o, b ∉ ch → s.heap.get? b = some o → H b = none → H' b = none)
    (there : ∀ b o, b ∉ ch → s.heap.get? b = some o → ∃ o', h'.get? b = some o')
    (tups : ∀ b xs, H b = some (.tup xs) → H' b = some (.tup xs)) (frzs : ∀ b o u, H b = some (.frz o u) → H' b = some (.frz o u)) (tbls : ∀ b ps, H b = some (.tbl ps) → ∃ more, H' b = some (.tbl (ps ++ more)))
    (ns : ∀ m, s.heap.Ns X.env.locals m → h'.Ns X.env.locals m) (hok : HOk X.prog X.w H' h') (hg : AllBare g') :
    Inv X pins σ H' { s with heap := h', gens := g', drawn := d', toks := t' } := by
  have neL : ∀ b o, X.s₀.heap.get? b = some o → b ≠ X.env.locals := fun b o e => Nat.ne_of_lt (Nat.lt_of_lt_of_le (Heap.lt_size e) I.ok.above)
  have neC : ∀ b o, X.s₀.heap.get? b = some o → b ∉ X.ex → b ∉ ch := fun b o e hx hb => by
    rcases (hch b hb).1 with z | z
    · exact hx z
    · exact absurd (Nat.lt_of_lt_of_le (Heap.lt_size e) z) (Nat.lt_irrefl _)
  have cellK : ∀ x c, X.env.cells.lookup x = some c → ∀ v, s.heap.IsCell c v → h'.IsCell c v := fun x c e v ⟨o, ho, hd⟩ => by
    have nch : c ∉ ch := fun z => (hch c z).2.2.1 x c e rfl
    by_cases hc : c ∈ X.fs
    · obtain ⟨sl, q⟩ := slot c o (I.cne x c e) hc nch ho (I.freeC x c e)
      exact ⟨_, q, hd⟩
    · exact ⟨o, keep c o (I.cne x c e) hc nch ho (I.freeC x c e), hd⟩
  refine ⟨I.ok, I.os, hg, ⟨fun b o e n hb hx => ?_, fun b o e n hb hx => ?_, fun b o e n hx => ?_, fun b o e hx => ?_, fun b xs e => tups b xs (I.base.tups b xs e), fun b o xs e => frzs b o xs (I.base.frzs b o xs e), fun b ps e => ?_⟩, ?_, fun x c e => ?_, ?_, fun x c e => ?_, fun p hp => ?_, hok, I.len⟩
  · exact keep b o (neL b o e) hb (neC b o e hx) (I.base.keep b o e n hb hx) (I.base.free b o e n hx)
  · obtain ⟨sl, e1⟩ := I.base.slot b o e n hb hx
    obtain ⟨sl', e2⟩ := slot b _ (neL b o e) hb (neC b o e hx) e1 (I.base.free b o e n hx)
    exact ⟨sl', e2⟩
  · obtain ⟨o', e1⟩ := I.base.there b o e hx
    exact free b o' (neC b o e hx) e1 (I.base.free b o e n hx)
  · obtain ⟨o', e1⟩ := I.base.there b o e hx
    exact there b o' (neC b o e hx) e1
  · obtain ⟨m1, e1⟩ := I.base.tbls b ps e
    obtain ⟨m2, e2⟩ := tbls b _ e1
    exact ⟨m1 ++ m2, by rw [e2, Array.append_assoc]⟩
  · obtain ⟨m, hn, hl⟩ := I.loc
    refine ⟨m, ns m hn, fun i x v e1 e2 e3 => ?_⟩
    obtain ⟨u, r, l⟩ := hl i x v e1 e2 e3
    refine ⟨u, r, ?_⟩
    rcases l with l | ⟨k, c, e, z⟩
    · exact .inl l
    · exact .inr ⟨k, c, e, cellK x c e _ z⟩
  · obtain ⟨v, z⟩ := I.cell x c e
    exact ⟨v, cellK x c e v z⟩
  · obtain ⟨m, ⟨o, _, _, ho, _⟩, _⟩ := I.loc
    exact free _ o (fun z => (hch _ z).2.1 rfl) ho I.free
  · obtain ⟨v, o, ho, hd⟩ := I.cell x c e
    exact free c o (fun z => (hch c z).2.2.1 x c e rfl) ho (I.freeC x c e)
  · obtain ⟨e, n, ne, nf, d⟩ := I.pin p hp
    have nch : p.1 ∉ ch := fun z => (hch p.1 z).2.2.2 p hp rfl
    exact ⟨keep p.1 p.2 ne nf nch e n, free p.1 p.2 nch e n, ne, nf, d⟩
theorem Inv.un {t' : Nat} (I : Inv X pins σ H s) (u : Un X.fs [] H H' s.heap h') (hok : HOk X.prog X.w H' h') : Inv X pins σ H' { s with heap := h', toks := t' } := by
  obtain ⟨m, ⟨o, es, ep, ho, r⟩, _⟩ := id I.loc
  obtain ⟨sl, hL⟩ := u.any ho I.free (by simp)
  exact I.step (g' := s.gens) (d' := s.drawn) (ch := []) (fun _ z => nomatch z) (fun b o _ hb _ e n => u.keep b o e n hb (by simp)) (fun b o _ hb _ e n => u.slot b o e n hb (by simp)) (fun b o _ e n => u.free b o e n (by simp)) (fun b o _ e => u.there b o e (by simp)) u.tups u.frzs u.tbls (fun m' hm => by
    obtain ⟨o', es', ep', ho', r'⟩ := hm
    rw [ho] at ho'; cases ho'
    exact ⟨_, es', ep', hL, r'⟩) hok I.bare
theorem Inv.call {g' : Array GenState} {t' : Nat} {d' : Drawn} {ch : List Addr} (I : Inv X pins σ H s) (u : Un (frs X.stack) ch H H' s.heap h') (hok : HOk X.prog X.w H' h') (hg : AllBare g')
    (hch : ∀ b ∈ ch, (b ∈ X.ex ∨ X.s₀.heap.objs.size ≤ b) ∧ b ≠ X.env.locals ∧ (∀ x c, X.env.cells.lookup x = some c → c ≠ b) ∧ ∀ p ∈ X.pn ++ pins, p.1 ≠ b) :
    Inv X pins σ H' { s with heap := h', gens := g', drawn := d', toks := t' } := by
  obtain ⟨m, ⟨o, es, ep, ho, r⟩, _⟩ := id I.loc
  obtain ⟨sl, hL⟩ := u.any ho I.free fun z => (hch _ z).2.1 rfl
  exact I.step (ch := ch) hch (fun b o hL hb hc e n => u.keep b o e n (fun z => (List.mem_cons.mp (I.stkSub b z)).elim hL hb) hc) (fun b o _ _ hc e n => u.any e n hc) (fun b o hc e n => u.free b o e n hc) (fun b o hc e => u.there b o e hc) u.tups u.frzs u.tbls (fun m' hm => by
    obtain ⟨o', es', ep', ho', r'⟩ := hm
    rw [ho] at ho'; cases ho'
    exact ⟨_, es', ep', hL, r'⟩) hok hg
theorem Inv.turned {t' : Nat} {it : Addr} (I : Inv X pins σ H s) (k : ∀ b o, b ≠ it → s.heap.get? b = some o → h'.get? b = some o) (hn : H it = none) (hL : it ≠ X.env.locals)
    (h1 : it ∈ X.ex ∨ X.s₀.heap.objs.size ≤ it) (h2 : ∀ x c, X.env.cells.lookup x = some c → c ≠ it) (h3 : ∀ p ∈ X.pn ++ pins, p.1 ≠ it) : Inv X pins σ H { s with heap := h', toks := t' } := by
  have nit : ∀ b u, H b = some u → b ≠ it := fun b u e z => by rw [z, hn] at e; cases e
  refine I.step (g' := s.gens) (d' := s.drawn) (ch := [it]) (fun b hb => ?_) (fun b o _ _ hc e _ => k b o (fun z => hc (by simp [z])) e) (fun b o _ _ hc e _ => ⟨o.slots, k b o (fun z => hc (by simp [z])) e⟩) (fun _ _ _ _ n => n)
    (fun b o hc e => ⟨o, k b o (fun z => hc (by simp [z])) e⟩) (fun _ _ e => e) (fun _ _ _ e => e) (fun b ps e => ⟨#[], by rw [e]; simp⟩) (fun m hm => ?_) (fun b u e => ?_) I.bare
  · have e : b = it := by simpa using hb
    subst e
    exact ⟨h1, hL, h2, h3⟩
  · obtain ⟨o, es, ep, ho, r⟩ := hm
    exact ⟨o, es, ep, k _ o (Ne.symm hL) ho, r⟩
  · refine (I.hok b u e).stay (fun c v hc q => k c v ?_ q) (fun _ q => q) fun _ _ q => q
    rcases hc with z | z
    · rw [z]; exact nit b u e
    · exact nit c _ z
theorem Inv.tok (I : Inv X pins σ H s) (t : Nat) : Inv X pins σ H { s with toks := t } := I.un (h' := s.heap) (t' := t) Un.refl I.hok
theorem Inv.kept {t' : Nat} (I : Inv X pins σ H s) (k : ∀ b u, s.heap.get? b = some u → h'.get? b = some u) : Inv X pins σ H { s with heap := h', toks := t' } := I.un (Un.kept k) (I.hok.kept k)
theorem Inv.laid {a : Addr} {o : HO} {t' : Nat} (I : Inv X pins σ H s) (k : ∀ b u, s.heap.get? b = some u → h'.get? b = some u) (hp : s.heap.objs.size ≤ a) (new : ObjOk X.prog X.w (upd H a o) h' a o) :
    Inv X pins σ (upd H a o) { s with heap := h', toks := t' } := I.un (Un.laid k hp (I.hok.fresh hp)) (I.hok.laid k hp new)
theorem Inv.write {x e : Addr} {o : HO} {t' : Nat} (I : Inv X pins σ H s) (mu : Mut (H x)) (he : e = x ∨ H e = some (.own x)) (k : ∀ b u, b ≠ e → s.heap.get? b = some u → h'.get? b = some u) (heo : ∃ u, h'.get? e = some u)
    (new : ObjOk X.prog X.w (upd H x o) h' x o) : Inv X pins σ (upd H x o) { s with heap := h', toks := t' } := I.un (Un.write mu he k heo) (I.hok.write mu he k heo new)
theorem Inv.pins_of {pins' : List (Addr × Obj)} (I : Inv X pins σ H s) (h : ∀ p ∈ pins', s.heap.get? p.1 = some p.2 ∧ H p.1 = none ∧ p.1 ≠ X.env.locals ∧ p.1 ∉ X.fs ∧ ∀ v, p.2.data ≠ .cell v) : Inv X pins' σ H s :=
  ⟨I.ok, I.os, I.bare, I.base, I.loc, I.cell, I.free, I.freeC, fun p hp => (List.mem_append.mp hp).elim (fun z => I.pin p (List.mem_append_left _ z)) (h p), I.hok, I.len⟩
theorem nodup_ix {N : List Str} (hN : N.Nodup) {i j : Nat} {x : Str} (a : N[i]? = some x) (b : N[j]? = some x) : i = j := by
  obtain ⟨h1, e1⟩ := List.getElem?_eq_some_iff.mp a
  obtain ⟨h2, e2⟩ := List.getElem?_eq_some_iff.mp b
  exact (List.getElem_inj hN).mp (e1.trans e2.symm)
theorem store_ok2 {M : Model} {A : Around} {E : Value → Shared → Prop} {i : Nat} {x : Str} {v : V} {u : Value} {Q : Unit → Shared → Prop} (I : Inv X pins σ H s) (hN : X.N.Nodup) (hi : X.N[i]? = some x) (hx : Loc X.env.scope x) (r : RelV v u)
    (h : ∀ s', Inv X pins (σ.set i (some v)) H s' → (∃ a, Heap.SameBut a s.heap s'.heap ∧ (a = X.env.locals ∨ X.env.cells.lookup x = some a)) → Q () s') (hf : X.fn x = true ∨ X.env.scope.names.lookup x = some .local := by first | exact .inl rfl | exact .inr rfl | assumption) : wpAny M A (storeName X.env x u) Q E s := by
  obtain ⟨m, hn, hl⟩ := id I.loc
  have hcls : (X.env.scope.kind == .class || (X.env.scope.kind == .module && X.env.locals != X.env.globals)) = false := by rw [I.ok.kind]; rfl
  have hiσ : i < σ.length := by rw [I.len]; exact (List.getElem?_eq_some_iff.mp hi).1
  have cne := I.cne
  have tracked : ∀ {a : Addr} {h' : Heap}, (∃ o, s.heap.get? a = some o ∧ H a = none) → Heap.SameBut a s.heap h' → HOk X.prog X.w H h' := fun {a h'} ha hs b ob e => by
    obtain ⟨_, _, hfree⟩ := ha
    refine (I.hok b ob e).stay (fun c w' hc q => (hs.2 c ?_).trans q) (fun _ q => q) fun _ _ q => q
    rintro rfl
    rcases hc with rfl | hc
    · rw [hfree] at e; cases e
    · rw [hfree] at hc; cases hc
  rcases hx with hk | hk
  · refine wpAny_storeName_local hk hn (fun h' hn' hs => ?_) hcls
    obtain ⟨oL, _, _, hoL, _⟩ := id hn
    refine h _ ⟨I.ok, I.os, I.bare, ⟨fun b o e n hb hx => ?_, fun b o e n hb hx => ?_, I.base.free, fun b o e hx => ?_, I.base.tups, I.base.frzs, I.base.tbls⟩, ⟨_, hn', fun j y v' e1 e2 e3 => ?_⟩, fun y c e => ?_, I.free, I.freeC, fun p hp => ?_, tracked ⟨oL, hoL, I.free⟩ hs, by simpa using I.len⟩ ⟨_, hs, .inl rfl⟩
    · exact (hs.2 b (Nat.ne_of_lt (Nat.lt_of_lt_of_le (Heap.lt_size e) I.ok.above))).trans (I.base.keep b o e n hb hx)
    · obtain ⟨sl, e1⟩ := I.base.slot b o e n hb hx
      exact ⟨sl, (hs.2 b (Nat.ne_of_lt (Nat.lt_of_lt_of_le (Heap.lt_size e) I.ok.above))).trans e1⟩
    · obtain ⟨o', e1⟩ := I.base.there b o e hx
      exact ⟨o', (hs.2 b (Nat.ne_of_lt (Nat.lt_of_lt_of_le (Heap.lt_size e) I.ok.above))).trans e1⟩
    · by_cases hj : j = i
      · subst hj
        rw [hi] at e1; cases e1
        rw [List.getElem?_set_self hiσ] at e2
        cases e2
        exact ⟨u, r, .inl ⟨hk, by simp⟩⟩
      · rw [List.getElem?_set_ne (Ne.symm hj)] at e2
        obtain ⟨u', r', q⟩ := hl j y v' e1 e2 e3
        refine ⟨u', r', ?_⟩
        rcases q with ⟨k, e⟩ | ⟨k, c, e, z⟩
        · refine .inl ⟨k, ?_⟩
          have : y ≠ x := fun e => hj (nodup_ix hN e1 (e ▸ hi))
          simp [this, e]
        · exact .inr ⟨k, c, e, z.sameBut hs (cne y c e)⟩
    · obtain ⟨w', z⟩ := I.cell y c e
      exact ⟨w', z.sameBut hs (cne y c e)⟩
    · obtain ⟨e, n, ne, nf, d⟩ := I.pin p hp
      exact ⟨(hs.2 p.1 ne).trans e, n, ne, nf, d⟩
  · have hfn : X.fn x = true := by
      rcases hf with z | z
      · exact z
      · rw [z] at hk; cases hk
    obtain ⟨c, hc⟩ := I.ok.has x (.inl hk)
    obtain ⟨w', z⟩ := I.cell x c hc
    refine wpAny_storeName_cell I.ok.kind hk hc z (fun h' hc' hs => ?_)
    obtain ⟨oc, hoc, hocd⟩ := id z
    refine h { s with heap := h' } ⟨I.ok, I.os, I.bare, ⟨fun b o e n hb hx => ?_, fun b o e n hb hx => ?_, I.base.free, fun b o e hx => ?_, I.base.tups, I.base.frzs, I.base.tbls⟩, ⟨m, hn.sameBut hs (Ne.symm (cne x c hc)), fun j y v' e1 e2 e3 => ?_⟩, fun y c' e => ?_, I.free, I.freeC, fun p hp => ?_, tracked ⟨oc, hoc, I.freeC x c hc⟩ hs, by simpa using I.len⟩ ⟨c, hs, .inr hc⟩
    · exact (hs.2 b (Nat.ne_of_lt (Nat.lt_of_lt_of_le (Heap.lt_size e) (I.ok.cab x c hfn hc)))).trans (I.base.keep b o e n hb hx)
    · obtain ⟨sl, e1⟩ := I.base.slot b o e n hb hx
      exact ⟨sl, (hs.2 b (Nat.ne_of_lt (Nat.lt_of_lt_of_le (Heap.lt_size e) (I.ok.cab x c hfn hc)))).trans e1⟩
    · obtain ⟨o', e1⟩ := I.base.there b o e hx
      exact ⟨o', (hs.2 b (Nat.ne_of_lt (Nat.lt_of_lt_of_le (Heap.lt_size e) (I.ok.cab x c hfn hc)))).trans e1⟩
    · by_cases hj : j = i
      · subst hj
        rw [hi] at e1; cases e1
        rw [List.getElem?_set_self hiσ] at e2
        cases e2
        exact ⟨u, r, .inr ⟨.inl hk, c, hc, hc'⟩⟩
      · rw [List.getElem?_set_ne (Ne.symm hj)] at e2
        obtain ⟨u', r', q⟩ := hl j y v' e1 e2 e3
        refine ⟨u', r', ?_⟩
        rcases q with q | ⟨k, c', e, z'⟩
        · exact .inl q
        · refine .inr ⟨k, c', e, z'.sameBut hs ?_⟩
          rintro rfl
          exact hj (nodup_ix hN e1 (I.ok.inj _ _ _ e hc ▸ hi))
    · by_cases hcc : c' = c
      · subst hcc; exact ⟨_, hc'⟩
      · obtain ⟨w2, z2⟩ := I.cell y c' e
        exact ⟨w2, z2.sameBut hs hcc⟩
    · obtain ⟨e, n, ne, nf, d⟩ := I.pin p hp
      refine ⟨(hs.2 p.1 ?_).trans e, n, ne, nf, d⟩
      intro q
      rw [q, hoc] at e
      have q' : oc = p.2 := Option.some.inj e
      exact d w' (by rw [← q']; exact hocd)
theorem store_ok {M : Model} {A : Around} {E : Value → Shared → Prop} {i : Nat} {x : Str} {v : V} {u : Value} {Q : Unit → Shared → Prop} (I : Inv X pins σ H s) (hN : X.N.Nodup) (hi : X.N[i]? = some x) (hx : Loc X.env.scope x) (r : RelV v u)
    (h : ∀ s', Inv X pins (σ.set i (some v)) H s' → Q () s') (hf : X.fn x = true ∨ X.env.scope.names.lookup x = some .local := by first | exact .inl rfl | exact .inr rfl | assumption) : wpAny M A (storeName X.env x u) Q E s :=
  store_ok2 I hN hi hx r (fun s' I' _ => h s' I') hf
theorem Inv.call' {s' : Shared} {ch : List Addr} (I : Inv X pins σ H s) (ho : s'.os = s.os) (u : Un (frs X.stack) ch H H' s.heap s'.heap) (hok : HOk X.prog X.w H' s'.heap) (hg : AllBare s'.gens)
    (hch : ∀ b ∈ ch, (b ∈ X.ex ∨ X.s₀.heap.objs.size ≤ b) ∧ b ≠ X.env.locals ∧ (∀ x c, X.env.cells.lookup x = some c → c ≠ b) ∧ ∀ p ∈ X.pn ++ pins, p.1 ≠ b) : Inv X pins σ H' s' := by
  obtain ⟨h', g', d', t', o'⟩ := s'
  have e : o' = s.os := ho
  subst e
  exact I.call (g' := g') (t' := t') (d' := d') u hok hg hch
end
abbrev XK := Value → Option Addr → Hp → Prop
abbrev St := List (Option V)
abbrev VK := V → Hp → Prop
abbrev TE := St → Hp → VK → Prop
abbrev TT := St → Hp → (Bool → Hp → Prop) → Prop
abbrev TA := St → Hp → (List V → Hp → Prop) → Prop
structure Ends where
  nx : St → Hp → Prop
  rt : VK
  bk : St → Hp → Prop := fun _ _ => False
  ct : St → Hp → Prop := fun _ _ => False
abbrev TS := Ends → St → Hp → Prop
def EP (X : Cx) (pins : List (Addr × Obj)) (σ : St) (Q : VK) (u : Value) (s' : Shared) : Prop := ∃ v H', Inv X pins σ H' s' ∧ RelV v u ∧ Q v H'
def TP (X : Cx) (pins : List (Addr × Obj)) (σ : St) (Q : Bool → Hp → Prop) (b : Bool) (s' : Shared) : Prop := ∃ H', Inv X pins σ H' s' ∧ Q b H'
def AP (X : Cx) (pins : List (Addr × Obj)) (σ : St) (Q : List V → Hp → Prop) (us : List Value) (s' : Shared) : Prop := ∃ vs H', Inv X pins σ H' s' ∧ Vals vs us ∧ Q vs H'
def SP (X : Cx) (pins : List (Addr × Obj)) (D : Ends) (f : Flow) (s' : Shared) : Prop :=
  match f with
  | .next => ∃ σ' H', Inv X pins σ' H' s' ∧ D.nx σ' H'
  | .brk => ∃ σ' H', Inv X pins σ' H' s' ∧ D.bk σ' H'
  | .cont => ∃ σ' H', Inv X pins σ' H' s' ∧ D.ct σ' H'
  | .ret u => ∃ v σ' H', Inv X pins σ' H' s' ∧ RelV v u ∧ D.rt v H'
def PE (X : Cx) (e : Expr) (t : TE) : Prop :=
  ∀ (pins : List (Addr × Obj)) (s : Shared) (σ : St) (H : Hp) (Q : VK), Inv X pins σ H s → t σ H Q → wpAny (model X.prog X.w) X.A (eval e X.env) (EP X pins σ Q) X.xe s
def PT (X : Cx) (e : Expr) (t : TT) : Prop :=
  ∀ (pins : List (Addr × Obj)) (s : Shared) (σ : St) (H : Hp) (Q : Bool → Hp → Prop), Inv X pins σ H s → t σ H Q → wpAny (model X.prog X.w) X.A (isTrue e X.env (eval e X.env)) (TP X pins σ Q) X.xe s
def PW (X : Cx) (e : Expr) (t : TT) : Prop :=
  ∀ (whole : Sem Value) (pins : List (Addr × Obj)) (s : Shared) (σ : St) (H : Hp) (Q : Bool → Hp → Prop), Inv X pins σ H s → t σ H Q → wpAny (model X.prog X.w) X.A (isTrue e X.env whole) (TP X pins σ Q) X.xe s
theorem PW.pt {X : Cx} {e : Expr} {t : TT} (h : PW X e t) : PT X e t := h _
def PA (X : Cx) (es : List Expr) (t : TA) : Prop :=
  ∀ (pos : Pos) (pins : List (Addr × Obj)) (s : Shared) (σ : St) (H : Hp) (Q : List V → Hp → Prop), Inv X pins σ H s → t σ H Q → wpAny (model X.prog X.w) X.A (spliced (backTo pos (starEach es X.env))) (AP X pins σ Q) X.xe s
def PS (X : Cx) (st : Stmt) (t : TS) : Prop :=
  ∀ (pins : List (Addr × Obj)) (s : Shared) (σ : St) (H : Hp) (D : Ends), Inv X pins σ H s → t D σ H → wpAny (model X.prog X.w) X.A (exec st X.env) (SP X pins D) X.xe s
def PSs (X : Cx) (st : List Stmt) (t : TS) : Prop :=
  ∀ (pins : List (Addr × Obj)) (s : Shared) (σ : St) (H : Hp) (D : Ends), Inv X pins σ H s → t D σ H → wpAny (model X.prog X.w) X.A (execs st X.env) (SP X pins D) X.xe s
theorem thn {α : Type} {t : Sem α} {Q Q' : α → Shared → Prop} {M : Model} {A : Around} {E : Value → Shared → Prop} {s : Shared} (h : wpAny M A t Q E s) (hQ : ∀ a s, Q a s → Q' a s) : wpAny M A t Q' E s := wpAny_mono h hQ fun _ _ x => x
end L2
namespace L2
open PySem PySem.Spec PyProof.Rows
section
variable {X : Cx}
def tVar (i : Nat) : TE := fun σ H Q => ∃ v, σ[i]? = some (some v) ∧ Q v H
def tC (v : V) : TE := fun _ H Q => Q v H
theorem pe_var {i : Nat} {x : Str} {pos : Pos} (hN : X.N[i]? = some x) (hv : Vis X.env.scope x) (hd : (x == ("__debug__" : Str)) = false := by decide) (hcd : (x == ("__classdict__" : Str)) = false := by decide) : PE X (.Name x pos) (tVar i) := by
  intro pins s σ H Q I h
  obtain ⟨v, e, h⟩ := h
  obtain ⟨m, hn, hl⟩ := I.loc
  obtain ⟨u, r, l⟩ := hl i x v hN e hv
  have fin : EP X pins σ Q u s := ⟨v, H, I, r, h⟩
  rcases l with ⟨hk, hm⟩ | ⟨hk, c, hc, hcell⟩
  · exact wpAny_Name (wpAny_loadName_local I.ok.kind hk hn hm fin) hd
  · rcases hk with hk | hk
    · exact wpAny_Name (wpAny_loadName_cell I.ok.kind hk hc hcell fin) hd
    · exact wpAny_Name (wpAny_loadName_free I.ok.kind hk hc hcell fin hcd) hd
theorem pe_int {i j pos} : PE X (.Constant (.int i) j pos) (tC (.int i)) := fun _ _ _ H _ I h => wpAny_Constant_int ⟨.int i, H, I.tok _, ⟨_, rfl⟩, h⟩
theorem pe_bl {b j pos} : PE X (.Constant (.bool b) j pos) (tC (.bl b)) := fun _ _ _ H _ I h => Constant_bool ⟨.bl b, H, I, rfl, h⟩
theorem pe_non {j pos} : PE X (.Constant .none j pos) (tC .non) := fun _ _ _ H _ I h => Constant_none ⟨.non, H, I, rfl, h⟩
theorem pe_str {x j pos} : PE X (.Constant (.str x) j pos) (tC (.str x)) := fun _ _ _ H _ I h => Calls.Constant_str ⟨.str x, H, I.tok _, ⟨_, rfl⟩, h⟩
def Gl (X : Cx) (x : Str) : Prop := X.env.kindOf x = some .globalImplicit
theorem ld_glob {E : Value → Shared → Prop} {pins : List (Addr × Obj)} {s : Shared} {σ : St} {H : Hp} {x : Str} {u : Value} {pos : Pos} {Q : Value → Shared → Prop} (I : Inv X pins σ H s) (hg : Gl X x) (hm : X.mg x = some u) (h : Q u s)
    (hd : (x == ("__debug__" : Str)) = false := by decide) : wpAny (model X.prog X.w) X.A (eval (.Name x pos) X.env) Q E s :=
  Calls.Name_function_global I.ok.kind hg (Calls.loadGlobal_global (by rw [I.ok.glob]; exact I.mod.glob.keeps I.bk) hm h) hd
theorem ld_blt {E : Value → Shared → Prop} {pins : List (Addr × Obj)} {s : Shared} {σ : St} {H : Hp} {x : Str} {u : Value} {pos : Pos} {Q : Value → Shared → Prop} (I : Inv X pins σ H s) (hg : Gl X x) (hm : X.mg x = none) (hv : bootBuiltins x = some u) (h : Q u s)
    (hn : x ≠ "__name__" := by decide) (hd : (x == ("__debug__" : Str)) = false := by decide) : wpAny (model X.prog X.w) X.A (eval (.Name x pos) X.env) Q E s := by
  obtain ⟨mb, h1, h2⟩ := I.mod.blt
  exact Calls.Name_function_global I.ok.kind hg (Calls.loadGlobal_builtin (by rw [I.ok.glob]; exact I.mod.glob.keeps I.bk) hm (by rw [I.ok.blt]; exact h1.keeps I.bk) ((h2 x hn).trans hv) h) hd
theorem pe_glob {x : Str} {v : V} {u : Value} {pos : Pos} (hg : Gl X x) (hm : X.mg x = some u) (r : RelV v u) (hd : (x == ("__debug__" : Str)) = false := by decide) : PE X (.Name x pos) (tC v) :=
  fun _ _ _ H _ I h => ld_glob I hg hm ⟨v, H, I, r, h⟩ hd
theorem pe_bltn {x : Str} {v : V} {u : Value} {pos : Pos} (hg : Gl X x) (hm : X.mg x = none) (hv : bootBuiltins x = some u) (r : RelV v u) (hn : x ≠ "__name__" := by decide) (hd : (x == ("__debug__" : Str)) = false := by decide) : PE X (.Name x pos) (tC v) :=
  fun _ _ _ H _ I h => ld_blt I hg hm hv ⟨v, H, I, r, h⟩ hn hd
variable {a b : Expr} {ta tb : TE} {pos : Pos}
def tB (t : TE) : TT := fun σ H Q => t σ H fun x H1 => ∃ c, x = .bl c ∧ Q c H1
theorem pt_val {e : Expr} {t : TE} (h : PE X e t) (he : ∀ whole, isTrue e X.env whole = (do let v ← whole; standAt e.pos; holding [v] (truthy v)) := by intro _; rfl) : PT X e (tB t) := by
  intro pins s σ H Q I hw
  refine isTrue_plain (thn (h pins s σ H _ I hw) fun v s1 ⟨x, H1, I1, r1, q1⟩ => ?_) (he _)
  obtain ⟨d, rfl, q⟩ := q1
  cases r1
  exact wpAny_truthy_bool ⟨H1, I1, q⟩
variable {tA tB' : TT} {rest : List Expr}
def tOr (t u : TT) : TT := fun σ H Q => t σ H fun c H1 => if c = true then Q true H1 else u σ H1 Q
def tNot (t : TT) : TT := fun σ H Q => t σ H fun c H1 => Q (!c) H1
theorem pw_or1 (ha : PT X a tA) : PW X (.BoolOp .Or [a] pos) tA := by
  intro wh pins s σ H Q I h
  refine isTrue_or (thn (ha pins s σ H Q I h) fun c s1 e => ?_)
  cases c with
  | false => exact isTrue_or_nil e
  | true => exact e
theorem pw_or (ha : PT X a tA) (hb : PW X (.BoolOp .Or (b :: rest) pos) tB') : PW X (.BoolOp .Or (a :: b :: rest) pos) (tOr tA tB') := by
  intro wh pins s σ H Q I h
  refine isTrue_or (thn (ha pins s σ H _ I h) fun c s1 ⟨H1, I1, q1⟩ => ?_)
  cases c with
  | true => exact ⟨H1, I1, q1⟩
  | false => exact hb wh pins s1 σ H1 Q I1 q1
theorem pt_not (ha : PT X a tA) : PT X (.UnaryOp .Not a pos) (tNot tA) := by
  intro pins s σ H Q I h
  exact isTrue_not (ha pins s σ H (fun c H1 => Q (!c) H1) I h)
def tAndV (ta tb : TE) : TE := fun σ H Q => ta σ H fun x H1 => ∃ c, x = .bl c ∧ if c = true then tb σ H1 Q else Q (.bl false) H1
def tOrV (ta tb : TE) : TE := fun σ H Q => ta σ H fun x H1 => ∃ c, x = .bl c ∧ if c = true then Q (.bl true) H1 else tb σ H1 Q
def tNotV (ta : TE) : TE := fun σ H Q => ta σ H fun x H1 => ∃ c, x = .bl c ∧ Q (.bl (!c)) H1
theorem pe_one {op} {t : TE} (h : PE X a t) : PE X (.BoolOp op [a] pos) t := fun pins s σ H Q I hw => BoolOp_one (h pins s σ H Q I hw)
theorem pe_and (ha : PE X a ta) (hb : PE X (.BoolOp .And (b :: rest) pos) tb) : PE X (.BoolOp .And (a :: b :: rest) pos) (tAndV ta tb) := by
  intro pins s σ H Q I h
  refine BoolOp_and (thn (ha pins s σ H _ I h) fun v s1 ⟨x, H1, I1, r1, q1⟩ => ?_)
  obtain ⟨c, rfl, q1⟩ := q1
  cases r1
  refine wpAny_truthy_bool ?_
  cases c with
  | true => exact hb pins s1 σ H1 Q I1 q1
  | false => exact ⟨.bl false, H1, I1, rfl, q1⟩
theorem pe_or (ha : PE X a ta) (hb : PE X (.BoolOp .Or (b :: rest) pos) tb) : PE X (.BoolOp .Or (a :: b :: rest) pos) (tOrV ta tb) := by
  intro pins s σ H Q I h
  refine BoolOp_or (thn (ha pins s σ H _ I h) fun v s1 ⟨x, H1, I1, r1, q1⟩ => ?_)
  obtain ⟨c, rfl, q1⟩ := q1
  cases r1
  refine wpAny_truthy_bool ?_
  cases c with
  | false => exact hb pins s1 σ H1 Q I1 q1
  | true => exact ⟨.bl true, H1, I1, rfl, q1⟩
theorem pe_not (ha : PE X a ta) : PE X (.UnaryOp .Not a pos) (tNotV ta) := by
  intro pins s σ H Q I h
  refine UnaryOp_ (thn (ha pins s σ H _ I h) fun v s1 ⟨x, H1, I1, r1, q1⟩ => ?_)
  obtain ⟨c, rfl, q1⟩ := q1
  cases r1
  exact not_of (wpAny_truthy_bool ⟨.bl (!c), H1, I1, rfl, q1⟩)
def tIf (t : TT) (ta tb : TE) : TE := fun σ H Q => t σ H fun c H1 => if c = true then ta σ H1 Q else tb σ H1 Q
theorem pe_ifExp {c : Expr} (hc : PT X c tA) (ha : PE X a ta) (hb : PE X b tb) : PE X (.IfExp c a b pos) (tIf tA ta tb) := by
  intro pins s σ H Q I h
  refine wpAny_IfExp (thn (hc pins s σ H _ I h) fun d s1 ⟨H1, I1, q1⟩ => ?_)
  cases d with
  | true => exact ha pins s1 σ H1 Q I1 q1
  | false => exact hb pins s1 σ H1 Q I1 q1
end
end L2
namespace L2
open PySem PySem.Spec PyProof.Rows
def SqL (K : PySem.W.Frag) (H : Hp) (a : Addr) (xs : List V) : Prop :=
  Rd H a (.lst xs) ∨
    ∃ (o : Obj) (its : Array Value) (n : Nat), K.lookup a = some o ∧ o.cls = .type "list" ∧ o.dict = none ∧ o.data = .seq its n ∧ its.size ≤ sizeLine ∧ Vals xs its.toList
def SqT (K : PySem.W.Frag) (H : Hp) (a : Addr) (xs : List V) : Prop :=
  Rd H a (.tup xs) ∨
    ∃ (o : Obj) (its : Array Value) (n : Nat), K.lookup a = some o ∧ o.cls = .type "tuple" ∧ o.data = .seq its n ∧ its.size ≤ sizeLine ∧ Vals xs its.toList
def absV : Value → Option V
  | .none => some .non
  | .bool b => some (.bl b)
  | .int i _ => some (.int i)
  | .str x _ => some (.str x)
  | .bytes b _ => some (.byt b)
  | .float b _ => some (.flt b)
  | .ref a => some (.ref a)
  | .type n => some (.ty n)
  | _ => none
theorem RelV.abs {x : V} {u : Value} (r : RelV x u) : absV u = some x := by
  cases x with
  | non => cases r; rfl
  | bl _ => cases r; rfl
  | int _ => obtain ⟨t, rfl⟩ := r; rfl
  | str _ => obtain ⟨t, rfl⟩ := r; rfl
  | byt _ => obtain ⟨t, rfl⟩ := r; rfl
  | flt _ => obtain ⟨t, rfl⟩ := r; rfl
  | ref _ => cases r; rfl
  | ty _ => cases r; rfl
theorem RelV.inj {x y : V} {u : Value} (r : RelV x u) (q : RelV y u) : x = y := Option.some.inj (r.abs.symm.trans q.abs)
theorem Vals.inj : ∀ {xs ys : List V} {us : List Value}, Vals xs us → Vals ys us → xs = ys
  | _, _, _, .nil, .nil => rfl
  | _, _, _, .cons r t, .cons r' t' => by rw [r.inj r', Vals.inj t t']
section
variable {X : Cx} {pins : List (Addr × Obj)} {σ : St} {H : Hp} {s : Shared} {a : Addr} {xs ys : List V}
theorem SqL.of {K : PySem.W.Frag} (h : H a = some (.lst xs)) : SqL K H a xs := .inl (.inl h)
theorem SqT.of {K : PySem.W.Frag} (h : H a = some (.tup xs)) : SqT K H a xs := .inl (.inl h)
theorem Inv.list (I : Inv X pins σ H s) (h : SqL X.K H a xs) : ∃ its : List Value, Vals xs its ∧ PlainL s.heap a its.toArray ∧ xs.length ≤ sizeLine := by
  rcases h with h | ⟨o, its, n, hk, hc, hd, hs, hz, r⟩
  · obtain ⟨z, its, n, r, e⟩ := h.ok I.hok
    exact ⟨its, r, ⟨_, n, e, rfl, rfl, rfl⟩, z⟩
  · refine ⟨its.toList, r, ⟨o, n, I.kIn a o hk, hc, hd, by simpa using hs⟩, ?_⟩
    have e := r.length
    simp only [Array.length_toList] at e
    omega
theorem Inv.tuple (I : Inv X pins σ H s) (h : SqT X.K H a xs) : ∃ its : List Value, Vals xs its ∧ IsTup s.heap a its.toArray ∧ xs.length ≤ sizeLine := by
  rcases h with h | ⟨o, its, n, hk, hc, hs, hz, r⟩
  · obtain ⟨z, its, r, p⟩ := h.ok I.hok
    exact ⟨its, r, p, z⟩
  · refine ⟨its.toList, r, ⟨o, I.kIn a o hk, hc, n, by simpa using hs⟩, ?_⟩
    have e := r.length
    simp only [Array.length_toList] at e
    omega
theorem Inv.list_inj (I : Inv X pins σ H s) (h : SqL X.K H a xs) (h' : SqL X.K H a ys) : xs = ys := by
  obtain ⟨its, r, ⟨o, n, e, _, _, d⟩, _⟩ := I.list h
  obtain ⟨its', r', ⟨o', n', e', _, _, d'⟩, _⟩ := I.list h'
  rw [e] at e'; cases e'
  rw [d] at d'
  injection d' with d1 _
  have : its = its' := by simpa using congrArg Array.toList d1
  subst this
  exact r.inj r'
theorem Inv.tuple_inj (I : Inv X pins σ H s) (h : SqT X.K H a xs) (h' : SqT X.K H a ys) : xs = ys := by
  obtain ⟨its, r, ⟨o, e, _, n, d⟩, _⟩ := I.tuple h
  obtain ⟨its', r', ⟨o', e', _, n', d'⟩, _⟩ := I.tuple h'
  rw [e] at e'; cases e'
  rw [d] at d'
  injection d' with d1 _
  have : its = its' := by simpa using congrArg Array.toList d1
  subst this
  exact r.inj r'
end
abbrev Cx.wish (X : Cx) (E : Value → Shared → Prop) : Cx := { X with xe := E }
abbrev Cx.nox (X : Cx) : Cx := X.wish fun _ _ => False
theorem Cx.Ok.wish {X : Cx} (ok : X.Ok) (E : Value → Shared → Prop) : (X.wish E).Ok :=
  ⟨ok.mod, ok.kind, ok.glob, ok.blt, ok.above, ok.inj, ok.has, ok.cab, ok.hd, ok.frames, ok.stk, ok.exf, ok.bs, ok.bsz, ok.noex, ok.exfs, ok.funs, ok.frf⟩
theorem Cx.Ok.unwish {X : Cx} {E : Value → Shared → Prop} (ok : (X.wish E).Ok) : X.Ok :=
  ⟨ok.mod, ok.kind, ok.glob, ok.blt, ok.above, ok.inj, ok.has, ok.cab, ok.hd, ok.frames, ok.stk, ok.exf, ok.bs, ok.bsz, ok.noex, ok.exfs, ok.funs, ok.frf⟩
section
variable {X : Cx} {pins : List (Addr × Obj)} {σ : St} {H : Hp} {s : Shared} {E : Value → Shared → Prop}
theorem Inv.wish (I : Inv X pins σ H s) (E : Value → Shared → Prop) : Inv (X.wish E) pins σ H s := ⟨I.ok.wish E, I.os, I.bare, I.base, I.loc, I.cell, I.free, I.freeC, I.pin, I.hok, I.len⟩
theorem Inv.unwish (I : Inv (X.wish E) pins σ H s) : Inv X pins σ H s := ⟨I.ok.unwish, I.os, I.bare, I.base, I.loc, I.cell, I.free, I.freeC, I.pin, I.hok, I.len⟩
theorem SP.unwish {D : Ends} {f : Flow} {s' : Shared} (h : SP (X.wish E) pins D f s') : SP X pins D f s' := by
  cases f with
  | next => obtain ⟨σ', H', I, q⟩ := h; exact ⟨σ', H', I.unwish, q⟩
  | brk => obtain ⟨σ', H', I, q⟩ := h; exact ⟨σ', H', I.unwish, q⟩
  | cont => obtain ⟨σ', H', I, q⟩ := h; exact ⟨σ', H', I.unwish, q⟩
  | ret u => obtain ⟨v, σ', H', I, r, q⟩ := h; exact ⟨v, σ', H', I.unwish, r, q⟩
theorem PSs.nox {st : List Stmt} {t : TS} (h : PSs X.nox st t) : PSs X st t := fun pins s σ H D I hw =>
  wpAny_mono (h pins s σ H D (I.wish _) hw) (fun _ _ q => q.unwish) fun _ _ z => False.elim z
end
section
variable {X : Cx} {st : Stmt} {rest : List Stmt} {t u : TS} {e : Expr} {te : TE} {pos : Pos}
def tNext : TS := fun D σ H => D.nx σ H
def tSeq (t u : TS) : TS := fun D σ H => t { D with nx := u D } σ H
theorem pss_nil : PSs X [] tNext := fun _ _ σ H _ I h => wpAny_execs_nil ⟨σ, H, I, h⟩
theorem pss_cons (h1 : PS X st t) (h2 : PSs X rest u) : PSs X (st :: rest) (tSeq t u) := by
  intro pins s σ H D I h
  refine wpAny_execs_cons (thn (h1 pins s σ H { D with nx := u D } I h) fun f s1 q => ?_)
  cases f with
  | next =>
    obtain ⟨σ', H', I', q⟩ := q
    exact h2 pins s1 σ' H' D I' q
  | ret v => exact q
  | brk => exact q
  | cont => exact q
theorem pss_one (h1 : PS X st t) : PSs X [st] t := by
  intro pins s σ H D I h
  refine wpAny_execs_cons (thn (h1 pins s σ H D I h) fun f s1 q => ?_)
  cases f with
  | next => exact wpAny_execs_nil q
  | ret v => exact q
  | brk => exact q
  | cont => exact q
theorem Inv.quiet {pins : List (Addr × Obj)} {σ : St} {H : Hp} {s : Shared} (I : Inv X pins σ H s) : interactive X.env = false := by simp [interactive, I.ok.kind]
def tDrop (te : TE) : TS := fun D σ H => te σ H fun _ H1 => D.nx σ H1
theorem ps_expr (he : PE X e te) (hs : swapsWith e none pos.line X.env = pure false := by rfl) : PS X (.Expr e pos) (tDrop te) := by
  intro pins s σ H D I h
  exact wpAny_Expr_any (thn (he pins s σ H _ I h) fun v s1 ⟨x, H1, I1, r1, q1⟩ => ⟨σ, H1, I1, q1⟩) I.quiet hs
def tRet (te : TE) : TS := fun D σ H => te σ H D.rt
theorem ps_ret (he : PE X e te) : PS X (.Return (some e) pos) (tRet te) := by
  intro pins s σ H D I h
  exact wpAny_Return_some (thn (he pins s σ H _ I h) fun v s1 ⟨x, H1, I1, r1, q1⟩ => ⟨x, σ, H1, I1, r1, q1⟩)
def tIfS (c : TT) (t u : TS) : TS := fun D σ H => c σ H fun b H1 => if b = true then t D σ H1 else u D σ H1
theorem ps_if {c : Expr} {a b : List Stmt} {tc : TT} (hc : PT X c tc) (ha : PSs X a t) (hb : PSs X b u) : PS X (.If c a b pos) (tIfS tc t u) := by
  intro pins s σ H D I h
  refine wpAny_If (thn (hc pins s σ H _ I h) fun d s1 ⟨H1, I1, q1⟩ => ?_)
  cases d with
  | true => exact ha pins s1 σ H1 D I1 q1
  | false => exact hb pins s1 σ H1 D I1 q1
def tNever : TS := fun _ _ _ => False
theorem ps_never : PS X st tNever := fun _ _ _ _ _ _ h => h.elim
end
abbrev TG := V → St → Hp → (St → Hp → Prop) → Prop
abbrev TGs := List V → St → Hp → (St → Hp → Prop) → Prop
def PG (X : Cx) (target : Expr) (t : TG) : Prop :=
  ∀ (pins : List (Addr × Obj)) (s : Shared) (σ : St) (H : Hp) (v : V) (u : Value) (Q : St → Hp → Prop), Inv X pins σ H s → RelV v u → t v σ H Q →
    wpAny (model X.prog X.w) X.A (assign target X.env u) (fun _ s' => ∃ σ' H', Inv X pins σ' H' s' ∧ Q σ' H') X.xe s
def PGs (X : Cx) (ts : List Expr) (t : TGs) : Prop :=
  ∀ (pins : List (Addr × Obj)) (s : Shared) (σ : St) (H : Hp) (vs : List V) (us : List Value) (Q : St → Hp → Prop), Inv X pins σ H s → Vals vs us → t vs σ H Q →
    wpAny (model X.prog X.w) X.A (assignInOrder ((assignEach ts X.env).map (·.2)) us) (fun _ s' => ∃ σ' H', Inv X pins σ' H' s' ∧ Q σ' H') X.xe s
abbrev TSet := V → V → V → Hp → (Hp → Prop) → Prop
def PSet (X : Cx) (t : TSet) : Prop :=
  ∀ (pins : List (Addr × Obj)) (s : Shared) (σ : St) (H : Hp) (o i v : V) (ov iv u : Value) (Q : Hp → Prop), Inv X pins σ H s → RelV o ov → RelV i iv → RelV v u → t o i v H Q →
    wpAny (model X.prog X.w) X.A (setItem ov iv u) (fun _ s' => ∃ H', Inv X pins σ H' s' ∧ Q H') X.xe s
section
variable {X : Cx} {pos : Pos}
def gName (i : Nat) : TG := fun v σ H Q => Q (σ.set i (some v)) H
theorem pg_name {i : Nat} {x : Str} (hN : X.N.Nodup) (hi : X.N[i]? = some x) (hx : Loc X.env.scope x) (hf : X.fn x = true ∨ X.env.scope.names.lookup x = some .local := by first | exact .inl rfl | exact .inr rfl | assumption) : PG X (.Name x pos) (gName i) := by
  intro pins s σ H v u Q I r h
  exact wpAny_assign_Name (store_ok I hN hi hx r (fun s' I' => ⟨_, H, I', h⟩) hf)
def gNil : TGs := fun vs σ H Q => vs = [] ∧ Q σ H
def gCons (t : TG) (u : TGs) : TGs := fun vs σ H Q => ∃ v r, vs = v :: r ∧ t v σ H fun σ' H' => u r σ' H' Q
theorem pgs_nil : PGs X [] gNil := by
  intro pins s σ H vs us Q I r h
  obtain ⟨e, h⟩ := h
  subst e
  cases r
  exact assignInOrder_nil ⟨σ, H, I, h⟩
theorem pgs_cons {e : Expr} {es : List Expr} {t : TG} {u : TGs} (h1 : PG X e t) (h2 : PGs X es u)
    (hs : (assignEach (e :: es) X.env).map (·.2) = assign e X.env :: (assignEach es X.env).map (·.2) := by rfl) : PGs X (e :: es) (gCons t u) := by
  intro pins s σ H vs us Q I r h
  obtain ⟨v, vr, e1, h⟩ := h
  subst e1
  cases r with
  | cons r rr =>
    rw [hs]
    refine assignInOrder_cons (thn (h1 pins s σ H _ _ _ I r h) fun _ s1 ⟨σ1, H1, I1, q1⟩ => ?_)
    exact h2 pins s1 σ1 H1 _ _ Q I1 rr q1
def gTup (K : PySem.W.Frag) (n : Nat) (t : TGs) : TG := fun v σ H Q => ∃ a xs, v = .ref a ∧ SqT K H a xs ∧ xs.length = n ∧ t xs σ H Q
theorem pg_tup {es : List Expr} {k : Nat} {t : TGs} {n : Nat} (hc : X.calm = true) (h : PGs X es t)
    (hn : (assignEach es X.env).length = n := by rfl) (hst : (assignEach es X.env).findIdx? (·.1) = none := by rfl) : PG X (.Tuple es k pos) (gTup X.K n t) := by
  intro pins s σ H v u Q I r hw
  obtain ⟨a, xs, e1, hq, hl, hw⟩ := hw
  subst e1
  cases r
  obtain ⟨its, rv, ht, hz⟩ := I.tuple hq
  refine assign_Tuple_tuple (I.ok.hd hc) ht (by simp [hn, ← hl, rv.length]) hst fun h' hx => ?_
  have I1 : Inv X pins σ H { s with heap := h' } := I.kept (t' := s.toks) fun b o e => hx b o (Nat.ne_of_lt (Heap.lt_size e)) e
  exact h pins _ σ H xs _ Q I1 (by simpa using rv) hw
def gSub (to ti : TE) (t : TSet) : TG := fun v σ H Q => to σ H fun o H1 => ti σ H1 fun i H2 => t o i v H2 fun H3 => Q σ H3
theorem pg_sub {o i : Expr} {to ti : TE} {t : TSet} (ho : PE X o to) (hi : PE X i ti) (hs : PSet X t)
    (ha : ∀ v, assign (.Subscript o i pos) X.env v = (do
      let ov ← holding [v] (eval o X.env)
      let iv ← holding [v, ov] (eval i X.env)
      standAt pos
      holding [v, ov, iv] (setItem ov iv v)
      release [v, ov, iv] []) := by intro _; rfl) : PG X (.Subscript o i pos) (gSub to ti t) := by
  intro pins s σ H v u Q I r h
  rw [ha]
  refine wpAny_bind (wpAny_holding (thn (ho pins s σ H _ I h) fun ov s1 ⟨x, H1, I1, r1, q1⟩ => ?_))
  refine wpAny_bind (wpAny_holding (thn (hi pins s1 σ H1 _ I1 q1) fun iv s2 ⟨y, H2, I2, r2, q2⟩ => ?_))
  refine wpAny_bind (wpAny_standAt (wpAny_bind (wpAny_holding (thn (hs pins s2 σ H2 x y v ov iv u _ I2 r1 r2 r q2) fun _ s3 ⟨H3, I3, q3⟩ => ?_))))
  exact wpAny_release ⟨σ, H3, I3, q3⟩
def tAsg (te : TE) (g : TG) : TS := fun D σ H => te σ H fun x H1 => g x σ H1 D.nx
theorem ps_asg {tg e : Expr} {te : TE} {g : TG} (he : PE X e te) (hg : PG X tg g) (hs : swapsWithSole [tg] e pos.line X.env = pure false := by rfl) (hw : swappedStores [tg] e X.env = pure none := by rfl)
    (h1 : (assignEach [tg] X.env).map (·.2) = [assign tg X.env] := by rfl) : PS X (.Assign [tg] e pos) (tAsg te g) := by
  intro pins s σ H D I h
  refine wpAny_Assign_stores (thn (he pins s σ H _ I h) fun v s1 ⟨x, H1, I1, r1, q1⟩ => ?_) hs hw
  rw [h1]
  exact thn (hg pins s1 σ H1 x v _ I1 r1 q1) fun _ s2 q => q
theorem ps_set {i : Nat} {x : Str} {e : Expr} {te : TE} {pos' : Pos} (hN : X.N.Nodup) (hi : X.N[i]? = some x) (hx : Loc X.env.scope x) (he : PE X e te) (hs : swapsWith e (some (.Name x pos')) pos.line X.env = pure false := by rfl) (hf : X.fn x = true ∨ X.env.scope.names.lookup x = some .local := by first | exact .inl rfl | exact .inr rfl | assumption) :
    PS X (.Assign [.Name x pos'] e pos) (tAsg te (gName i)) := by
  intro pins s σ H D I h
  refine wpAny_Assign_Name (thn (he pins s σ H _ I h) fun v s1 ⟨y, H1, I1, r1, q1⟩ => ?_) hs
  exact store_ok I1 hN hi hx r1 (fun s2 I2 => ⟨_, H1, I2, q1⟩) hf
end
section
variable {X : Cx} {pos : Pos}
def tWhile (c : TT) (tb : TS) : TS := fun D σ H => ∃ W : Nat → St → Hp → Prop, (∃ m, W m σ H) ∧ ∀ m σ H, W m σ H →
  c σ H fun b H1 => if b = true then ∃ N : St → Hp → Prop, (∀ σ' H', N σ' H' → ∃ m', m' < m ∧ W m' σ' H') ∧ tb { D with nx := N, ct := N, bk := D.nx } σ H1 else D.nx σ H1
theorem ps_while {c : Expr} {body : List Stmt} {tc : TT} {tb : TS} (hp : PassesOwn (model X.prog X.w) X.A X.env X.xe) (hc : PT X c tc) (hb : PSs X body tb) : PS X (.While c body [] pos) (tWhile tc tb) := by
  intro pins s σ H D I h
  obtain ⟨W, ⟨m0, w0⟩, turn⟩ := h
  refine wpAny_While (codeAny_whileLoop (fun n s' => ∃ σ' H', Inv X pins σ' H' s' ∧ W n σ' H') ?_ m0 ⟨σ, H, I, w0⟩)
  rintro n s1 ⟨σ1, H1, I1, w1⟩
  refine wpAny_passesOwn hp (thn (hc pins s1 σ1 H1 _ I1 (turn n σ1 H1 w1)) fun b s2 ⟨H2, I2, q2⟩ => ?_)
  cases b with
  | true =>
    obtain ⟨N, hN, q2⟩ := q2
    rw [if_pos rfl]
    refine wpAny_passesOwn hp (thn (hb pins s2 σ1 H2 _ I2 q2) fun f s3 q3 => ?_)
    cases f with
    | next =>
      obtain ⟨σ3, H3, I3, n3⟩ := q3
      obtain ⟨m', hm, w3⟩ := hN σ3 H3 n3
      exact ⟨m', hm, σ3, H3, I3, w3⟩
    | cont =>
      obtain ⟨σ3, H3, I3, n3⟩ := q3
      obtain ⟨m', hm, w3⟩ := hN σ3 H3 n3
      exact ⟨m', hm, σ3, H3, I3, w3⟩
    | brk => exact q3
    | ret v => exact q3
  | false =>
    rw [if_neg Bool.false_ne_true]
    exact wpAny_execs_nil ⟨σ1, H2, I2, q2⟩
end
structure It where
  go : Nat → Hp → Prop
  yld : Nat → Hp → V → Hp → Prop
  stop : Nat → Hp → Prop
def FpOk (X : Cx) (pins : List (Addr × Obj)) (H : Hp) (b : Addr) : Prop :=
  H b = none ∧ b ≠ X.env.locals ∧ b ∉ X.fs ∧ (b ∈ X.ex ∨ X.s₀.heap.objs.size ≤ b) ∧ (∀ x c, X.env.cells.lookup x = some c → c ≠ b) ∧ ∀ p ∈ X.pn ++ pins, p.1 ≠ b
theorem Inv.fpOk {X : Cx} {pins : List (Addr × Obj)} {σ : St} {H H' : Hp} {s : Shared} {b : Addr} (I : Inv X pins σ H s) (hb : s.heap.objs.size ≤ b) (hn : H' b = none) : FpOk X pins H' b := by
  refine ⟨hn, Nat.ne_of_gt (Nat.lt_of_lt_of_le I.lt hb), I.nofs hb, .inr (Nat.le_trans I.sz hb), fun x c e z => ?_, fun p hp z => ?_⟩
  · obtain ⟨v, q⟩ := I.cell x c e
    exact absurd (Nat.lt_of_lt_of_le q.lt (by rw [z]; exact hb)) (Nat.lt_irrefl _)
  · exact absurd (Nat.lt_of_lt_of_le (Heap.lt_size (I.pin p hp).1) (by rw [z]; exact hb)) (Nat.lt_irrefl _)
structure Turn (P : Program) (w : World) (K : PySem.W.Frag) (tg : Expr) (J : It) (fp : List Addr) (it : Addr) (tn : Nat → Heap → Prop) : Prop where
  mem : it ∈ fp
  obj : ∀ i h, tn i h → ∀ b ∈ fp, ∃ o, h.get? b = some o ∧ ∀ v, o.data ≠ .cell v
  keep : ∀ i h h', tn i h → (∀ b ∈ fp, ∀ o, h.get? b = some o → h'.get? b = some o) → tn i h'
  item : ∀ (X : Cx), X.prog = P → X.w = w → X.K = K → X.calm = true → ∀ (i : Nat) (pins : List (Addr × Obj)) (s : Shared) (σ : St) (H : Hp) (E : Value → Shared → Prop), Inv X pins σ H s → (∀ b ∈ fp, FpOk X pins H b) → tn i s.heap → J.go i H →
    wpAny (model P w) X.A (pyNext (.ref it)) (fun r s1 => ∃ u, r = some u ∧
      wpAny (model P w) X.A (letOwnedTupleGo tg (.ref it) u) (fun _ s2 => ∃ x H', Inv X pins σ H' s2 ∧ RelV x u ∧ J.yld i H x H' ∧ tn (i + 1) s2.heap ∧ ∀ b ∈ fp, H' b = none) E s1) E s
  done : ∀ (X : Cx), X.prog = P → X.w = w → X.K = K → X.calm = true → ∀ (i : Nat) (pins : List (Addr × Obj)) (s : Shared) (σ : St) (H : Hp) (E : Value → Shared → Prop), Inv X pins σ H s → (∀ b ∈ fp, FpOk X pins H b) → tn i s.heap → J.stop i H →
    wpAny (model P w) X.A (pyNext (.ref it)) (fun r s1 => r = none ∧ Inv X pins σ H s1) E s
  self : ∀ (A : Around) (i : Nat) (s : Shared) (Q : Value → Shared → Prop) (E : Value → Shared → Prop), tn i s.heap → Q (.ref it) s → wpAny (model P w) A (pyIter (.ref it)) Q E s
abbrev TI := St → Hp → (It → Hp → Prop) → Prop
def PIE (X : Cx) (pins : List (Addr × Obj)) (σ : St) (tg : Expr) (R : It → Hp → Prop) (itv : Value) (s2 : Shared) : Prop :=
  ∃ (it : Addr) (fp : List Addr) (tn : Nat → Heap → Prop) (J : It) (H' : Hp), itv = .ref it ∧ Inv X pins σ H' s2 ∧ Turn X.prog X.w X.K tg J fp it tn ∧ tn 0 s2.heap ∧ (∀ b ∈ fp, FpOk X pins H' b) ∧ R J H'
def PI (X : Cx) (tg iter : Expr) (wi : TI) : Prop :=
  ∀ (pins : List (Addr × Obj)) (s : Shared) (σ : St) (H : Hp) (R : It → Hp → Prop), Inv X pins σ H s → wi σ H R →
    wpAny (model X.prog X.w) X.A (eval iter X.env) (fun v s1 => wpAny (model X.prog X.w) X.A (pyIter v) (PIE X pins σ tg R) X.xe s1) X.xe s
theorem go_of {M : Model} {A : Around} {E : Value → Shared → Prop} {s : Shared} {tg : Expr} {it : Addr} {u : Value} {o : Obj} {n : String} {vs : Array Value} {Q : Unit → Shared → Prop} (ho : s.heap.get? it = some o) (hc : o.cls = .type n) (hd : o.data = .fields vs)
    (hn : ["enumerate", "zip", "dict_itemiterator", "dict_reverseitemiterator", "odict_iterator", "itertools.zip_longest", "itertools.pairwise"].contains n = false) (hQ : Q () s) : wpAny M A (letOwnedTupleGo tg (.ref it) u) Q E s := by
  unfold letOwnedTupleGo
  cases tg <;> first
    | exact wpAny_pure hQ
    | (cases u <;> first
        | exact wpAny_pure hQ
        | (refine wpAny_bind (wpAny_load ho ?_)
           rw [hc, hd]
           show wpAny M A (if (["enumerate", "zip", "dict_itemiterator", "dict_reverseitemiterator", "odict_iterator", "itertools.zip_longest", "itertools.pairwise"].contains n && vs[0]? == some (rawInt _)) = true then _ else _) Q E s
           rw [if_neg (by intro h; rw [hn, Bool.false_and] at h; cases h)]
           exact wpAny_pure hQ))
def Itl (K : PySem.W.Frag) (a : Addr) : It :=
  ⟨fun i H => ∃ xs x, SqL K H a xs ∧ xs[i]? = some x, fun i H x H' => H' = H ∧ ∀ xs, SqL K H a xs → xs[i]? = some x, fun i H => ∃ xs, SqL K H a xs ∧ xs.length ≤ i⟩
def Itt (K : PySem.W.Frag) (a : Addr) : It :=
  ⟨fun i H => ∃ xs x, SqT K H a xs ∧ xs[i]? = some x, fun i H x H' => H' = H ∧ ∀ xs, SqT K H a xs → xs[i]? = some x, fun i H => ∃ xs, SqT K H a xs ∧ xs.length ≤ i⟩
def Itr (lo : Int) (n : Nat) : It := ⟨fun i _ => i < n, fun i H x H' => H' = H ∧ x = .int (lo + i), fun i _ => n ≤ i⟩
theorem turn_list {P : Program} {w : World} {K : PySem.W.Frag} {tg : Expr} (a it : Addr) : Turn P w K tg (Itl K a) [it] it (fun i h => h.IsListIter it a i) where
  mem := by simp
  obj := fun i h st b hb => by
    have e : b = it := by simpa using hb
    subst e
    obtain ⟨o, e, c, d⟩ := st
    exact ⟨o, e, fun v z => by rw [d] at z; cases z⟩
  keep := fun i h h' st k => st.at fun o e => k it (by simp) o e
  item := by
    intro X hP hw hK hc i pins s σ H E I hf st hg
    subst hP hw hK
    obtain ⟨xs, x, hq, hx⟩ := hg
    obtain ⟨its, rv, p, hz⟩ := I.list hq
    obtain ⟨u, hu, ru⟩ := rv.get hx
    obtain ⟨f0, f1, f2, f3, f4, f5⟩ := hf it (by simp)
    refine wpAny_pyNext_list_item st p.isList (x := u) (by simpa using hu) fun h' st' sb => ?_
    have I1 : Inv X pins σ H { s with heap := h' } := I.turned (t' := s.toks) (fun b o hb e => (sb.2 b hb).trans e) f0 f1 f3 f4 f5
    obtain ⟨o, e, c, d⟩ := id st'
    exact ⟨u, rfl, go_of (s := { s with heap := h' }) e c d (by decide) ⟨x, H, I1, ru, ⟨rfl, fun ys hy => by rw [I.list_inj hy hq]; exact hx⟩, st', fun b hb => (hf b hb).1⟩⟩
  done := by
    intro X hP hw hK hc i pins s σ H E I hf st hg
    subst hP hw hK
    obtain ⟨xs, hq, hx⟩ := hg
    obtain ⟨its, rv, p, hz⟩ := I.list hq
    obtain ⟨f0, f1, f2, f3, f4, f5⟩ := hf it (by simp)
    have hl := rv.length
    exact wpAny_pyNext_list_end (I.ok.hd hc) st p.isList (by simp; omega) fun h' eb => ⟨rfl, I.turned (t' := s.toks) (fun b o hb e => eb b o hb e) f0 f1 f3 f4 f5⟩
  self := fun _ _ _ _ _ st h => wpAny_pyIter_listiter st h
theorem turn_tuple {P : Program} {w : World} {K : PySem.W.Frag} {tg : Expr} (a it : Addr) : Turn P w K tg (Itt K a) [it] it (fun i h => h.IsTupleIter it a i) where
  mem := by simp
  obj := fun i h st b hb => by
    have e : b = it := by simpa using hb
    subst e
    obtain ⟨o, e, c, d⟩ := st
    exact ⟨o, e, fun v z => by rw [d] at z; cases z⟩
  keep := fun i h h' st k => st.at fun o e => k it (by simp) o e
  item := by
    intro X hP hw hK hc i pins s σ H E I hf st hg
    subst hP hw hK
    obtain ⟨xs, x, hq, hx⟩ := hg
    obtain ⟨its, rv, p, hz⟩ := I.tuple hq
    obtain ⟨u, hu, ru⟩ := rv.get hx
    obtain ⟨f0, f1, f2, f3, f4, f5⟩ := hf it (by simp)
    refine wpAny_pyNext_tuple_item st (show s.heap.IsTuple a its.toArray from p) (x := u) (by simpa using hu) fun h' st' sb => ?_
    have I1 : Inv X pins σ H { s with heap := h' } := I.turned (t' := s.toks) (fun b o hb e => (sb.2 b hb).trans e) f0 f1 f3 f4 f5
    obtain ⟨o, e, c, d⟩ := id st'
    exact ⟨u, rfl, go_of (s := { s with heap := h' }) e c d (by decide) ⟨x, H, I1, ru, ⟨rfl, fun ys hy => by rw [I.tuple_inj hy hq]; exact hx⟩, st', fun b hb => (hf b hb).1⟩⟩
  done := by
    intro X hP hw hK hc i pins s σ H E I hf st hg
    subst hP hw hK
    obtain ⟨xs, hq, hx⟩ := hg
    obtain ⟨its, rv, p, hz⟩ := I.tuple hq
    obtain ⟨f0, f1, f2, f3, f4, f5⟩ := hf it (by simp)
    have hl := rv.length
    exact wpAny_pyNext_tuple_end (I.ok.hd hc) st (show s.heap.IsTuple a its.toArray from p) (by simp; omega) fun h' eb => ⟨rfl, I.turned (t' := s.toks) (fun b o hb e => eb b o hb e) f0 f1 f3 f4 f5⟩
  self := fun _ _ _ _ _ st h => wpAny_pyIter_tupleiter st h
theorem turn_range {P : Program} {w : World} {K : PySem.W.Frag} {tg : Expr} (it : Addr) (lo : Int) (n : Nat) : Turn P w K tg (Itr lo n) [it] it (fun i h => IsRangeIter h it (lo + (i : Nat) * 1) ((n : Int) - (i : Nat)) 1) where
  mem := by simp
  obj := fun i h st b hb => by
    have e : b = it := by simpa using hb
    subst e
    exact ⟨_, st, fun v z => by
      have z' : Data.fields _ = Data.cell v := z
      cases z'⟩
  keep := fun i h h' st k => k it (by simp) _ st
  item := by
    intro X hP hw hK hc i pins s σ H E I hf st hg
    subst hP hw hK
    obtain ⟨f0, f1, f2, f3, f4, f5⟩ := hf it (by simp)
    have W := Walks.range (prog := X.prog) (w := X.w) (I.ok.hd hc) it lo 1 n
    refine W.item i s _ _ hg st fun v h' tk hv st' kk => ?_
    obtain ⟨t, rfl⟩ := hv
    have I1 : Inv X pins σ H { s with heap := h', toks := tk } := I.turned (fun b o hb e => kk b o (by simpa using hb) e) f0 f1 f3 f4 f5
    refine ⟨_, rfl, go_of (s := { s with heap := h', toks := tk }) (n := "range_iterator") st' rfl rfl (by decide) ⟨.int (lo + i), H, I1, ⟨t, ?_⟩, ⟨rfl, rfl⟩, st', fun b hb => (hf b hb).1⟩⟩
    rw [Int.mul_one]
  done := by
    intro X hP hw hK hc i pins s σ H E I hf st hg
    subst hP hw hK
    obtain ⟨f0, f1, f2, f3, f4, f5⟩ := hf it (by simp)
    exact wpAny_pyNext_range_end (I.ok.hd hc) st (by have : n ≤ i := hg; omega) fun h' eb => ⟨rfl, I.turned (t' := s.toks) (fun b o hb e => eb b o hb e) f0 f1 f3 f4 f5⟩
  self := fun _ _ _ _ _ st h => wpAny_pyIter_rangeiter st h
end L2
namespace L2
open PySem PySem.Spec PyProof.Rows
section
variable {X : Cx} {tg : Expr}
def iList (K : PySem.W.Frag) (tl : TE) : TI := fun σ H R => tl σ H fun x H1 => ∃ a, x = .ref a ∧ (∃ xs, SqL K H1 a xs) ∧ R (Itl K a) H1
def iTup (K : PySem.W.Frag) (tl : TE) : TI := fun σ H R => tl σ H fun x H1 => ∃ a, x = .ref a ∧ (∃ xs, SqT K H1 a xs) ∧ R (Itt K a) H1
theorem pi_list {l : Expr} {tl : TE} (hl : PE X l tl) : PI X tg l (iList X.K tl) := by
  intro pins s σ H R I h
  refine thn (hl pins s σ H _ I h) fun v s1 ⟨x, H1, I1, r1, q1⟩ => ?_
  obtain ⟨a, e, ⟨xs, hq⟩, q⟩ := q1
  subst e
  cases r1
  obtain ⟨its, rv, p, hz⟩ := I1.list hq
  refine wpAny_pyIter_list p.isList ?_
  refine ⟨s1.heap.objs.size, [s1.heap.objs.size], _, _, H1, rfl, I1.kept (t' := s1.toks) fun b o e => Heap.get?_push_of_some _ e, turn_list a _, ⟨_, Heap.get?_push_size _ rfl, rfl, rfl⟩, fun b hb => ?_, q⟩
  have e : b = s1.heap.objs.size := by simpa using hb
  subst e
  exact I1.fpOk (Nat.le_refl _) (I1.hok.fresh (Nat.le_refl _))
theorem pi_tup {l : Expr} {tl : TE} (hl : PE X l tl) : PI X tg l (iTup X.K tl) := by
  intro pins s σ H R I h
  refine thn (hl pins s σ H _ I h) fun v s1 ⟨x, H1, I1, r1, q1⟩ => ?_
  obtain ⟨a, e, ⟨xs, hq⟩, q⟩ := q1
  subst e
  cases r1
  obtain ⟨its, rv, p, hz⟩ := I1.tuple hq
  refine wpAny_pyIter_tuple (show s1.heap.IsTuple a its.toArray from p) ?_
  refine ⟨s1.heap.objs.size, [s1.heap.objs.size], _, _, H1, rfl, I1.kept (t' := s1.toks) fun b o e => Heap.get?_push_of_some _ e, turn_tuple a _, ⟨_, Heap.get?_push_size _ rfl, rfl, rfl⟩, fun b hb => ?_, q⟩
  have e : b = s1.heap.objs.size := by simpa using hb
  subst e
  exact I1.fpOk (Nat.le_refl _) (I1.hok.fresh (Nat.le_refl _))
theorem range_it {pins : List (Addr × Obj)} {σ : St} {H : Hp} {s : Shared} {R : It → Hp → Prop} {E : Value → Shared → Prop} {lo hi : Int} {t u v : Tok} {tk : Nat} (I : Inv X pins σ H s) (h1 : -(2 ^ 62) ≤ lo) (h2 : lo < 2 ^ 62) (h3 : -(2 ^ 62) ≤ hi) (h4 : hi < 2 ^ 62)
    (q : R (Itr lo (hi - lo).toNat) H) : wpAny (model X.prog X.w) X.A (pyIter (.ref s.heap.objs.size)) (PIE X pins σ tg R) E { s with heap := s.heap.push { cls := .type "range", data := .fields #[.int lo t, .int hi u, .int 1 v] }, toks := tk } := by
  refine wpAny_pyIter_range (IsRange.new ..) (small_one h1 h2 h3 h4) ?_
  have I1 : Inv X pins σ H { s with heap := s.heap.push { cls := .type "range", data := .fields #[.int lo t, .int hi u, .int 1 v] }, toks := tk } := I.kept fun b o e => Heap.get?_push_of_some _ e
  refine ⟨(s.heap.push { cls := .type "range", data := .fields #[.int lo t, .int hi u, .int 1 v] }).objs.size, [(s.heap.push { cls := .type "range", data := .fields #[.int lo t, .int hi u, .int 1 v] }).objs.size], _, _, H, rfl,
    I1.kept (t' := tk) fun b o e => Heap.get?_push_of_some _ e, turn_range _ lo (hi - lo).toNat, ?_, fun b hb => ?_, q⟩
  · have e1 : lo + ((0 : Nat) : Int) * 1 = lo := by simp
    have e2 : (((hi - lo).toNat : Nat) : Int) - ((0 : Nat) : Int) = Builtin.Range.rangeSize lo hi 1 := by rw [rangeSize_one]; split <;> omega
    show IsRangeIter _ _ (lo + ((0 : Nat) : Int) * 1) ((((hi - lo).toNat : Nat) : Int) - ((0 : Nat) : Int)) 1
    rw [e1, e2]
    exact Heap.get?_push_size _ rfl
  · have e : b = (s.heap.push { cls := .type "range", data := .fields #[.int lo t, .int hi u, .int 1 v] }).objs.size := by simpa using hb
    subst e
    exact I1.fpOk (Nat.le_refl _) (I1.hok.fresh (Nat.le_refl _))
def iRng1 (ta : TA) : TI := fun σ H R => ta σ H fun vs H1 => ∃ j : Int, vs = [.int j] ∧ -(2 ^ 62) ≤ j ∧ j < 2 ^ 62 ∧ R (Itr 0 j.toNat) H1
theorem pi_range1 {a : Expr} {ta : TA} {p pos : Pos} (hg : Gl X "range") (hm : X.mg "range" = none) (ha : PA X [a] ta) (hs : starEach [a] X.env = [(false, eval a X.env)] := by rfl) : PI X tg (.Call (.Name "range" p) [a] [] pos) (iRng1 ta) := by
  intro pins s σ H R I h
  refine Call_ (ld_blt I hg hm boot_range (PyProof.Rows.callWith_type1 (thn (ha pos pins s σ H _ I h) fun us s1 ⟨vs, H1, I1, r1, q1⟩ => ?_) hs rfl))
  obtain ⟨j, e, q1, q2, q⟩ := q1
  subst e
  cases r1 with
  | cons r rr =>
    cases rr
    obtain ⟨t, rfl⟩ := r
    exact call_range_1 (range_it I1 (by omega) (by omega) q1 q2 (by simpa using q))
def tFor (wi : TI) (g : TG) (tb : TS) : TS := fun D σ H => wi σ H fun J H1 => ∃ W : Nat → Nat → St → Hp → Prop, (∃ m, W 0 m σ H1) ∧ ∀ i m σ H, W i m σ H →
  (J.stop i H ∧ D.nx σ H) ∨ (J.go i H ∧ ∃ N : St → Hp → Prop, (∀ σ' H', N σ' H' → ∃ m', m' < m ∧ W (i + 1) m' σ' H') ∧ ∀ x H', J.yld i H x H' → g x σ H' fun σ2 H2 => tb { D with nx := N, ct := N, bk := D.nx } σ2 H2)
def pinsAt (fp : List Addr) (h : Heap) : List (Addr × Obj) := fp.filterMap fun b => (h.get? b).map fun o => (b, o)
theorem mem_pinsAt {fp : List Addr} {h : Heap} {b : Addr} {o : Obj} (hb : b ∈ fp) (e : h.get? b = some o) : (b, o) ∈ pinsAt fp h := List.mem_filterMap.mpr ⟨b, hb, by rw [e]; rfl⟩
theorem of_pinsAt {fp : List Addr} {h : Heap} {p : Addr × Obj} (hp : p ∈ pinsAt fp h) : p.1 ∈ fp ∧ h.get? p.1 = some p.2 := by
  obtain ⟨b, hb, e⟩ := List.mem_filterMap.mp hp
  cases q : h.get? b with
  | none => rw [q] at e; cases e
  | some o =>
    rw [q] at e
    have e' : (b, o) = p := Option.some.inj e
    subst e'
    exact ⟨hb, q⟩
theorem Inv.pinned {pins : List (Addr × Obj)} {σ : St} {H : Hp} {s : Shared} {fp : List Addr} (I : Inv X pins σ H s) (hf : ∀ b ∈ fp, FpOk X pins H b) (ho : ∀ b ∈ fp, ∃ o, s.heap.get? b = some o ∧ ∀ v, o.data ≠ .cell v) : Inv X (pins ++ pinsAt fp s.heap) σ H s :=
  I.pins_of fun p hp => (List.mem_append.mp hp).elim (fun z => I.pin p (List.mem_append_right _ z)) fun z => by
    obtain ⟨hb, e⟩ := of_pinsAt z
    obtain ⟨f0, f1, f2, _⟩ := hf p.1 hb
    obtain ⟨o, e', d⟩ := ho p.1 hb
    rw [e] at e'; cases e'
    exact ⟨e, f0, f1, f2, d⟩
theorem Inv.unpinned {pins pl : List (Addr × Obj)} {σ : St} {H : Hp} {s : Shared} (I : Inv X (pins ++ pl) σ H s) : Inv X pins σ H s := I.pins_of fun p hp => I.pin p (List.mem_append_right _ (List.mem_append_left _ hp))
theorem ps_for {iter : Expr} {body : List Stmt} {wi : TI} {g : TG} {tb : TS} {pos : Pos} (hp : PassesOwn (model X.prog X.w) X.A X.env X.xe) (hc : X.calm = true) (hi : PI X tg iter wi) (hg : PG X tg g) (hb : PSs X body tb)
    (hs : ∀ x, foldedSetIterable iter X.env x = pure x := by intro _; rfl) : PS X (.For tg iter body [] pos) (tFor wi g tb) := by
  intro pins s σ H D I h
  refine wpAny_For (thn (hi pins s σ H _ I h) fun v s1 h1 => thn h1 fun itv s2 h2 => ?_) hs
  obtain ⟨it, fp, tn, J, H2, e, I2, T, st2, f2, W, ⟨m0, w0⟩, turn⟩ := h2
  subst e
  have stat : ∀ {H' : Hp}, (∀ b ∈ fp, H' b = none) → ∀ b ∈ fp, FpOk X pins H' b := fun hn b hb => ⟨hn b hb, (f2 b hb).2⟩
  refine codeAny_forLoop_any (fun n s' => ∃ i σ' H', Inv X pins σ' H' s' ∧ tn i s'.heap ∧ (∀ b ∈ fp, H' b = none) ∧ W i n σ' H') ?_ m0 ⟨0, σ, H2, I2, st2, fun b hb => (f2 b hb).1, w0⟩
  rintro n s3 ⟨i, σ3, H3, I3, st3, fr3, w3⟩
  rcases turn i n σ3 H3 w3 with ⟨stop, qn⟩ | ⟨go, N, hN, step⟩
  · refine wpAny_passesOwn hp (thn (T.done X rfl rfl rfl hc i pins s3 σ3 H3 X.xe I3 (stat fr3) st3 stop) fun r s4 ⟨hr, I4⟩ => ?_)
    subst hr
    exact wpAny_execs_nil ⟨σ3, H3, I4, qn⟩
  · refine wpAny_passesOwn hp (thn (T.item X rfl rfl rfl hc i pins s3 σ3 H3 X.xe I3 (stat fr3) st3 go) fun r s4 ⟨u, hr, h4⟩ => ?_)
    subst hr
    refine wpAny_passesOwn hp (thn h4 fun _ s5 ⟨x, H5, I5, r5, y5, st5, fr5⟩ => ?_)
    have I5' := I5.pinned (stat fr5) (T.obj _ _ st5)
    refine wpAny_passesOwn hp (thn (hg _ s5 σ3 H5 x u _ I5' r5 (step x H5 y5)) fun _ s6 ⟨σ6, H6, I6, q6⟩ => ?_)
    refine wpAny_passesOwn hp (thn (hb _ s6 σ6 H6 _ I6 q6) fun f s7 q7 => ?_)
    have again : ∀ {σ7 : St} {H7 : Hp}, Inv X (pins ++ pinsAt fp s5.heap) σ7 H7 s7 → N σ7 H7 → ∃ m, m < n ∧ ∃ i σ' H', Inv X pins σ' H' s7 ∧ tn i s7.heap ∧ (∀ b ∈ fp, H' b = none) ∧ W i m σ' H' := fun {σ7 H7} I7 n7 => by
      obtain ⟨m', hm, w7⟩ := hN σ7 H7 n7
      refine ⟨m', hm, i + 1, σ7, H7, I7.unpinned, T.keep _ _ _ st5 fun b hb o e => (I7.pin (b, o) (List.mem_append_right _ (List.mem_append_right _ (mem_pinsAt hb e)))).1, fun b hb => ?_, w7⟩
      obtain ⟨o, e, d⟩ := T.obj _ _ st5 b hb
      exact (I7.pin (b, o) (List.mem_append_right _ (List.mem_append_right _ (mem_pinsAt hb e)))).2.1
    cases f with
    | next => obtain ⟨σ7, H7, I7, n7⟩ := q7; exact again I7 n7
    | cont => obtain ⟨σ7, H7, I7, n7⟩ := q7; exact again I7 n7
    | brk => obtain ⟨σ7, H7, I7, q7⟩ := q7; exact ⟨σ7, H7, I7.unpinned, q7⟩
    | ret v => obtain ⟨x7, σ7, H7, I7, r7, q7⟩ := q7; exact ⟨x7, σ7, H7, I7.unpinned, r7, q7⟩
end
theorem for_list {K : PySem.W.Frag} {a : Addr} {xs : List V} {g : TG} {tb : TS} {D : Ends} {σ : St} {H : Hp} (Pv : Nat → St → Hp → Prop) (h0 : Pv 0 σ H) (hl : ∀ i σ H, i ≤ xs.length → Pv i σ H → SqL K H a xs)
    (hs : ∀ i x σ H, xs[i]? = some x → Pv i σ H → g x σ H fun σ2 H2 => tb { D with nx := Pv (i + 1), ct := Pv (i + 1), bk := D.nx } σ2 H2) (hd : ∀ σ H, Pv xs.length σ H → D.nx σ H) :
    ∃ W : Nat → Nat → St → Hp → Prop, (∃ m, W 0 m σ H) ∧ ∀ i m σ H, W i m σ H →
      ((Itl K a).stop i H ∧ D.nx σ H) ∨ ((Itl K a).go i H ∧ ∃ N : St → Hp → Prop, (∀ σ' H', N σ' H' → ∃ m', m' < m ∧ W (i + 1) m' σ' H') ∧ ∀ x H', (Itl K a).yld i H x H' → g x σ H' fun σ2 H2 => tb { D with nx := N, ct := N, bk := D.nx } σ2 H2) := by
  refine ⟨fun i m σ H => m = xs.length - i ∧ i ≤ xs.length ∧ Pv i σ H, ⟨xs.length, by simp, Nat.zero_le _, h0⟩, ?_⟩
  rintro i m σ H ⟨rfl, hi, p⟩
  have q := hl i σ H hi p
  by_cases hlt : i < xs.length
  · refine .inr ⟨⟨xs, xs[i], q, by simp [hlt]⟩, Pv (i + 1), fun σ' H' p' => ⟨xs.length - (i + 1), by omega, rfl, hlt, p'⟩, fun x H' y => ?_⟩
    obtain ⟨e, y⟩ := y
    subst e
    exact hs i x σ _ (y xs q) p
  · have e : i = xs.length := by omega
    subst e
    exact .inl ⟨⟨xs, q, Nat.le_refl _⟩, hd σ H p⟩
theorem for_tup {K : PySem.W.Frag} {a : Addr} {xs : List V} {g : TG} {tb : TS} {D : Ends} {σ : St} {H : Hp} (Pv : Nat → St → Hp → Prop) (h0 : Pv 0 σ H) (hl : ∀ i σ H, i ≤ xs.length → Pv i σ H → SqT K H a xs)
    (hs : ∀ i x σ H, xs[i]? = some x → Pv i σ H → g x σ H fun σ2 H2 => tb { D with nx := Pv (i + 1), ct := Pv (i + 1), bk := D.nx } σ2 H2) (hd : ∀ σ H, Pv xs.length σ H → D.nx σ H) :
    ∃ W : Nat → Nat → St → Hp → Prop, (∃ m, W 0 m σ H) ∧ ∀ i m σ H, W i m σ H →
      ((Itt K a).stop i H ∧ D.nx σ H) ∨ ((Itt K a).go i H ∧ ∃ N : St → Hp → Prop, (∀ σ' H', N σ' H' → ∃ m', m' < m ∧ W (i + 1) m' σ' H') ∧ ∀ x H', (Itt K a).yld i H x H' → g x σ H' fun σ2 H2 => tb { D with nx := N, ct := N, bk := D.nx } σ2 H2) := by
  refine ⟨fun i m σ H => m = xs.length - i ∧ i ≤ xs.length ∧ Pv i σ H, ⟨xs.length, by simp, Nat.zero_le _, h0⟩, ?_⟩
  rintro i m σ H ⟨rfl, hi, p⟩
  have q := hl i σ H hi p
  by_cases hlt : i < xs.length
  · refine .inr ⟨⟨xs, xs[i], q, by simp [hlt]⟩, Pv (i + 1), fun σ' H' p' => ⟨xs.length - (i + 1), by omega, rfl, hlt, p'⟩, fun x H' y => ?_⟩
    obtain ⟨e, y⟩ := y
    subst e
    exact hs i x σ _ (y xs q) p
  · have e : i = xs.length := by omega
    subst e
    exact .inl ⟨⟨xs, q, Nat.le_refl _⟩, hd σ H p⟩
theorem for_range {lo : Int} {n : Nat} {g : TG} {tb : TS} {D : Ends} {σ : St} {H : Hp} (Pv : Nat → St → Hp → Prop) (h0 : Pv 0 σ H)
    (hs : ∀ i σ H, i < n → Pv i σ H → g (.int (lo + i)) σ H fun σ2 H2 => tb { D with nx := Pv (i + 1), ct := Pv (i + 1), bk := D.nx } σ2 H2) (hd : ∀ σ H, Pv n σ H → D.nx σ H) :
    ∃ W : Nat → Nat → St → Hp → Prop, (∃ m, W 0 m σ H) ∧ ∀ i m σ H, W i m σ H →
      ((Itr lo n).stop i H ∧ D.nx σ H) ∨ ((Itr lo n).go i H ∧ ∃ N : St → Hp → Prop, (∀ σ' H', N σ' H' → ∃ m', m' < m ∧ W (i + 1) m' σ' H') ∧ ∀ x H', (Itr lo n).yld i H x H' → g x σ H' fun σ2 H2 => tb { D with nx := N, ct := N, bk := D.nx } σ2 H2) := by
  refine ⟨fun i m σ H => m = n - i ∧ i ≤ n ∧ Pv i σ H, ⟨n, by simp, Nat.zero_le _, h0⟩, ?_⟩
  rintro i m σ H ⟨rfl, hi, p⟩
  by_cases hlt : i < n
  · refine .inr ⟨hlt, Pv (i + 1), fun σ' H' p' => ⟨n - (i + 1), by omega, rfl, hlt, p'⟩, fun x H' y => ?_⟩
    obtain ⟨e, y⟩ := y
    subst e y
    exact hs i σ _ hlt p
  · have e : i = n := by omega
    subst e
    exact .inl ⟨Nat.le_refl _, hd σ H p⟩
theorem while_by {c : TT} {tb : TS} {D : Ends} {σ : St} {H : Hp} (Pv : St → Hp → Prop) (μ : St → Hp → Nat) (h0 : Pv σ H)
    (hs : ∀ σ H, Pv σ H → c σ H fun b H1 => if b = true then tb { D with nx := fun σ' H' => Pv σ' H' ∧ μ σ' H' < μ σ H, ct := fun σ' H' => Pv σ' H' ∧ μ σ' H' < μ σ H, bk := D.nx } σ H1 else D.nx σ H1)
    (mono : ∀ σ H Q Q', (∀ b H1, Q b H1 → Q' b H1) → c σ H Q → c σ H Q') : tWhile c tb D σ H := by
  refine ⟨fun m σ H => m = μ σ H ∧ Pv σ H, ⟨_, rfl, h0⟩, ?_⟩
  rintro m σ H ⟨rfl, p⟩
  refine mono σ H _ _ (fun b H1 q => ?_) (hs σ H p)
  cases b with
  | true => exact ⟨_, fun σ' H' ⟨p', l⟩ => ⟨_, l, rfl, p'⟩, q⟩
  | false => exact q
end L2
namespace L2
open PySem PySem.Spec PyProof.Rows
abbrev R2 := V → V → Hp → VK → Prop
def OpR (X : Cx) (f : Value → Value → Sem Value) (r : R2) : Prop :=
  ∀ (pins : List (Addr × Obj)) (s : Shared) (σ : St) (H : Hp) (x y : V) (v u : Value) (Q : VK), Inv X pins σ H s → RelV x v → RelV y u → r x y H Q →
    wpAny (model X.prog X.w) X.A (f v u) (EP X pins σ Q) X.xe s
def UnR (X : Cx) (f : Value → Sem Value) (r : V → Hp → VK → Prop) : Prop :=
  ∀ (pins : List (Addr × Obj)) (s : Shared) (σ : St) (H : Hp) (x : V) (v : Value) (Q : VK), Inv X pins σ H s → RelV x v → r x H Q →
    wpAny (model X.prog X.w) X.A (f v) (EP X pins σ Q) X.xe s
def CallR (X : Cx) (f : Value) (r : List V → Hp → VK → Prop) : Prop :=
  ∀ (pins : List (Addr × Obj)) (s : Shared) (σ : St) (H : Hp) (xs : List V) (us : List Value) (Q : VK), Inv X pins σ H s → Vals xs us → r xs H Q →
    wpAny (model X.prog X.w) X.A (call f us) (EP X pins σ Q) X.xe s
def tOp (r : R2) (ta tb : TE) : TE := fun σ H Q => ta σ H fun x H1 => tb σ H1 fun y H2 => r x y H2 Q
def tUn (r : V → Hp → VK → Prop) (ta : TE) : TE := fun σ H Q => ta σ H fun x H1 => r x H1 Q
def rI (C : Int → Int → Prop) (g : Int → Int → V) : R2 := fun x y H Q => ∃ i j, x = .int i ∧ y = .int j ∧ C i j ∧ Q (g i j) H
def rI0 (g : Int → Int → V) : R2 := fun x y H Q => ∃ i j, x = .int i ∧ y = .int j ∧ Q (g i j) H
def rU (g : Int → V) : V → Hp → VK → Prop := fun x H Q => ∃ i, x = .int i ∧ Q (g i) H
section
variable {X : Cx} {a b c : Expr} {ta tb tc : TE} {pos : Pos}
theorem binT (ha : PE X a ta) (hb : PE X b tb) {pins : List (Addr × Obj)} {s : Shared} {σ : St} {H : Hp} {R : V → V → Hp → Prop} (I : Inv X pins σ H s)
    (h : ta σ H fun x H1 => tb σ H1 fun y H2 => R x y H2) {Q : Value → Shared → Prop} {f : Value → Value → Sem Value}
    (hf : ∀ v u s2 x y H2, Inv X pins σ H2 s2 → RelV x v → RelV y u → R x y H2 → wpAny (model X.prog X.w) X.A (f v u) Q X.xe s2) :
    wpAny (model X.prog X.w) X.A (eval a X.env) (fun v s₁ => wpAny (model X.prog X.w) X.A (eval b X.env) (fun u s₂ => wpAny (model X.prog X.w) X.A (f v u) Q X.xe s₂) X.xe s₁) X.xe s := by
  refine thn (ha pins s σ H _ I h) fun v s1 ⟨x, H1, I1, r1, q1⟩ => ?_
  refine thn (hb pins s1 σ H1 _ I1 q1) fun u s2 ⟨y, H2, I2, r2, q2⟩ => ?_
  exact hf v u s2 x y H2 I2 r1 r2 q2
theorem pe_op {op : Operator} {r : R2} (ho : OpR X (binaryOp op) r) (ha : PE X a ta) (hb : PE X b tb) : PE X (.BinOp a op b pos) (tOp r ta tb) := by
  intro pins s σ H Q I h
  exact wpAny_BinOp (binT ha hb I h fun v u s2 x y H2 I2 rx ry q => ho pins s2 σ H2 x y v u Q I2 rx ry q)
theorem pe_un {op : UnaryOp} {r : V → Hp → VK → Prop} (ho : UnR X (unaryOp op) r) (ha : PE X a ta) : PE X (.UnaryOp op a pos) (tUn r ta) := by
  intro pins s σ H Q I h
  exact UnaryOp_ (thn (ha pins s σ H _ I h) fun v s1 ⟨x, H1, I1, r1, q1⟩ => ho pins s1 σ H1 x v Q I1 r1 q1)
theorem opI {f : Value → Value → Sem Value} {C : Int → Int → Prop} {g : Int → Int → Int}
    (rule : ∀ (i j : Int) (t u : Tok) (s : Shared) (Q : Value → Shared → Prop) (E : Value → Shared → Prop), C i j → Q (.int (g i j) s.toks) { s with toks := s.toks + 1 } → wpAny (model X.prog X.w) X.A (f (.int i t) (.int j u)) Q E s) :
    OpR X f (rI C fun i j => .int (g i j)) := by
  intro pins s σ H x y v u Q I rx ry h
  obtain ⟨i, j, rfl, rfl, hc, q⟩ := h
  obtain ⟨t, rfl⟩ := rx
  obtain ⟨t', rfl⟩ := ry
  exact rule i j t t' s _ _ hc ⟨.int (g i j), H, I.tok _, ⟨_, rfl⟩, q⟩
theorem opI0 {f : Value → Value → Sem Value} {g : Int → Int → Int}
    (rule : ∀ (i j : Int) (t u : Tok) (s : Shared) (Q : Value → Shared → Prop) (E : Value → Shared → Prop), Q (.int (g i j) s.toks) { s with toks := s.toks + 1 } → wpAny (model X.prog X.w) X.A (f (.int i t) (.int j u)) Q E s) :
    OpR X f (rI0 fun i j => .int (g i j)) := by
  intro pins s σ H x y v u Q I rx ry h
  obtain ⟨i, j, rfl, rfl, q⟩ := h
  obtain ⟨t, rfl⟩ := rx
  obtain ⟨t', rfl⟩ := ry
  exact rule i j t t' s _ _ ⟨.int (g i j), H, I.tok _, ⟨_, rfl⟩, q⟩
theorem opB0 {f : Value → Value → Sem Value} {g : Int → Int → Bool}
    (rule : ∀ (i j : Int) (t u : Tok) (s : Shared) (Q : Value → Shared → Prop) (E : Value → Shared → Prop), Q (.bool (g i j)) s → wpAny (model X.prog X.w) X.A (f (.int i t) (.int j u)) Q E s) :
    OpR X f (rI0 fun i j => .bl (g i j)) := by
  intro pins s σ H x y v u Q I rx ry h
  obtain ⟨i, j, rfl, rfl, q⟩ := h
  obtain ⟨t, rfl⟩ := rx
  obtain ⟨t', rfl⟩ := ry
  exact rule i j t t' s _ _ ⟨.bl (g i j), H, I, rfl, q⟩
def CPow (i j : Int) : Prop := 0 ≤ j ∧ j ≤ 1000000 ∧ i.natAbs < 2 ^ 64
def CMul (i j : Int) : Prop := (-(2 ^ 64) < i ∧ i < 2 ^ 64) ∨ (-(2 ^ 64) < j ∧ j < 2 ^ 64)
theorem CMul.ok {i j : Int} (h : CMul i j) : IntMulOk i j := by
  rcases h with ⟨h1, h2⟩ | ⟨h1, h2⟩
  · exact .of_left (intBits_le_64 h1 h2)
  · exact .of_right (intBits_le_64 h1 h2)
theorem op_add : OpR X (binaryOp .Add) (rI0 fun i j => .int (i + j)) := opI0 fun _ _ _ _ _ _ _ q => add_int q
theorem op_sub : OpR X (binaryOp .Sub) (rI0 fun i j => .int (i - j)) := opI0 fun _ _ _ _ _ _ _ q => sub_int q
theorem op_mul : OpR X (binaryOp .Mult) (rI CMul fun i j => .int (i * j)) := opI fun _ _ _ _ _ _ _ hc q => mul_int q hc.ok
theorem op_mod : OpR X (binaryOp .Mod) (rI (fun _ j => 0 < j) fun i j => .int (i % j)) := opI fun i j _ _ _ _ _ hc q => by
  have h1 : (0 : Int) < j := hc
  exact mod_int' (by omega) (by rw [Int.fmod_eq_emod_of_nonneg i (by omega)]; exact q)
theorem op_pow : OpR X (binaryOp .Pow) (rI CPow fun i j => .int (i ^ j.toNat)) := opI fun _ _ _ _ _ _ _ hc q => pow_int_small hc.1 hc.2.1 hc.2.2 q
theorem op_shl : OpR X (binaryOp .LShift) (rI CPow fun i j => .int (i * 2 ^ j.toNat)) := opI fun _ _ _ _ _ _ _ hc q => lshift_int_small hc.1 hc.2.1 hc.2.2 q
theorem unI {f : Value → Sem Value} {g : Int → Int}
    (rule : ∀ (i : Int) (t : Tok) (s : Shared) (Q : Value → Shared → Prop) (E : Value → Shared → Prop), Q (.int (g i) s.toks) { s with toks := s.toks + 1 } → wpAny (model X.prog X.w) X.A (f (.int i t)) Q E s) :
    UnR X f (rU fun i => .int (g i)) := by
  intro pins s σ H x v Q I rx h
  obtain ⟨i, rfl, q⟩ := h
  obtain ⟨t, rfl⟩ := rx
  exact rule i t s _ _ ⟨.int (g i), H, I.tok _, ⟨_, rfl⟩, q⟩
theorem un_neg : UnR X (unaryOp .USub) (rU fun i => .int (-i)) := unI fun _ _ _ _ _ q => neg_int q
end
def scal : V → V → Bool
  | .non, .non => true | .non, .int _ => true | .int _, .non => true | .non, .bl _ => true | .bl _, .non => true | .non, .str _ => true | .str _, .non => true
  | .int _, .int _ => true | .bl _, .bl _ => true | .str _, .str _ => true | .byt _, .byt _ => true
  | .int _, .str _ => true | .str _, .int _ => true | .bl _, .str _ => true | .str _, .bl _ => true
  | _, _ => false
def rEq : R2 := fun x y H Q => scal x y = true ∧ Q (.bl (decide (x = y))) H
def rNe : R2 := fun x y H Q => scal x y = true ∧ Q (.bl (!decide (x = y))) H
theorem dec_int {i j : Int} : decide (V.int i = V.int j) = (i == j) := by
  rw [Bool.eq_iff_iff]
  simp
theorem dec_bl {i j : Bool} : decide (V.bl i = V.bl j) = (i == j) := by
  rw [Bool.eq_iff_iff]
  simp
theorem dec_str {i j : Str} : decide (V.str i = V.str j) = (i == j) := by
  rw [Bool.eq_iff_iff]
  simp
theorem dec_byt {i j : Array UInt8} : decide (V.byt i = V.byt j) = (i.toList == j.toList) := by
  rw [Bool.eq_iff_iff]
  cases i
  cases j
  simp
section
variable {X : Cx} {a b c : Expr} {ta tb tc : TE} {pos : Pos}
theorem fin_bl {pins : List (Addr × Obj)} {σ : St} {H : Hp} {s : Shared} {Q : VK} {k k' : Bool} (I : Inv X pins σ H s) (q : Q (.bl k) H) (e : k = k') : EP X pins σ Q (.bool k') s := by
  subst e
  exact ⟨.bl k, H, I, rfl, q⟩
theorem op_eq : OpR X (compareOp .Eq) rEq := by
  intro pins s σ H x y v u Q I rx ry h
  obtain ⟨hs, q⟩ := h
  cases x with
  | non =>
    cases rx
    cases y with
    | non => cases ry; exact PySem.EqNone.eq_none_none (fin_bl I q (by simp))
    | bl j => cases ry; exact PySem.EqNone.eq_none_bool (fin_bl I q (by simp))
    | int j => obtain ⟨t', rfl⟩ := ry; exact PySem.EqNone.eq_none_int (fin_bl I q (by simp))
    | str j => obtain ⟨t', rfl⟩ := ry; exact PySem.EqNone.eq_none_str (fin_bl I q (by simp))
    | _ => exact absurd (show false = true from hs) Bool.false_ne_true
  | bl i =>
    cases rx
    cases y with
    | non => cases ry; exact PySem.EqNone.eq_bool_none (fin_bl I q (by simp))
    | bl j => cases ry; exact eq_bool (fin_bl I q dec_bl)
    | str j => obtain ⟨t', rfl⟩ := ry; exact PySem.EqMixed.eq_bool_str (fin_bl I q (by simp))
    | _ => exact absurd (show false = true from hs) Bool.false_ne_true
  | int i =>
    obtain ⟨t, rfl⟩ := rx
    cases y with
    | non => cases ry; exact PySem.EqNone.eq_int_none (fin_bl I q (by simp))
    | int j => obtain ⟨t', rfl⟩ := ry; exact eq_int (fin_bl I q dec_int)
    | str j => obtain ⟨t', rfl⟩ := ry; exact PySem.EqMixed.eq_int_str (fin_bl I q (by simp))
    | _ => exact absurd (show false = true from hs) Bool.false_ne_true
  | str i =>
    obtain ⟨t, rfl⟩ := rx
    cases y with
    | non => cases ry; exact PySem.EqNone.eq_str_none (fin_bl I q (by simp))
    | bl j => cases ry; exact PySem.EqMixed.eq_str_bool (fin_bl I q (by simp))
    | int j => obtain ⟨t', rfl⟩ := ry; exact PySem.EqMixed.eq_str_int (fin_bl I q (by simp))
    | str j => obtain ⟨t', rfl⟩ := ry; exact eq_str (fin_bl I q dec_str)
    | _ => exact absurd (show false = true from hs) Bool.false_ne_true
  | byt i =>
    obtain ⟨t, rfl⟩ := rx
    cases y with
    | byt j => obtain ⟨t', rfl⟩ := ry; exact PySem.W.eq_bytes (fin_bl I q dec_byt)
    | _ => exact absurd (show false = true from hs) Bool.false_ne_true
  | _ => cases y <;> exact absurd (show false = true from hs) Bool.false_ne_true
theorem op_ne : OpR X (compareOp .NotEq) rNe := by
  intro pins s σ H x y v u Q I rx ry h
  obtain ⟨hs, q⟩ := h
  cases x with
  | non =>
    cases rx
    cases y with
    | non => cases ry; exact PySem.EqNone.ne_none_none (fin_bl I q (by simp))
    | bl j => cases ry; exact PySem.EqNone.ne_none_bool (fin_bl I q (by simp))
    | int j => obtain ⟨t', rfl⟩ := ry; exact PySem.EqNone.ne_none_int (fin_bl I q (by simp))
    | str j => obtain ⟨t', rfl⟩ := ry; exact PySem.EqNone.ne_none_str (fin_bl I q (by simp))
    | _ => exact absurd (show false = true from hs) Bool.false_ne_true
  | bl i =>
    cases rx
    cases y with
    | non => cases ry; exact PySem.EqNone.ne_bool_none (fin_bl I q (by simp))
    | bl j => cases ry; exact ne_bool (fin_bl I q (congrArg not dec_bl))
    | str j => obtain ⟨t', rfl⟩ := ry; exact PySem.EqMixed.ne_bool_str (fin_bl I q (by simp))
    | _ => exact absurd (show false = true from hs) Bool.false_ne_true
  | int i =>
    obtain ⟨t, rfl⟩ := rx
    cases y with
    | non => cases ry; exact PySem.EqNone.ne_int_none (fin_bl I q (by simp))
    | int j => obtain ⟨t', rfl⟩ := ry; exact ne_int (fin_bl I q (congrArg not dec_int))
    | str j => obtain ⟨t', rfl⟩ := ry; exact PySem.EqMixed.ne_int_str (fin_bl I q (by simp))
    | _ => exact absurd (show false = true from hs) Bool.false_ne_true
  | str i =>
    obtain ⟨t, rfl⟩ := rx
    cases y with
    | non => cases ry; exact PySem.EqNone.ne_str_none (fin_bl I q (by simp))
    | bl j => cases ry; exact PySem.EqMixed.ne_str_bool (fin_bl I q (by simp))
    | int j => obtain ⟨t', rfl⟩ := ry; exact PySem.EqMixed.ne_str_int (fin_bl I q (by simp))
    | str j => obtain ⟨t', rfl⟩ := ry; exact ne_str (fin_bl I q (congrArg not dec_str))
    | _ => exact absurd (show false = true from hs) Bool.false_ne_true
  | byt i =>
    obtain ⟨t, rfl⟩ := rx
    cases y with
    | byt j => obtain ⟨t', rfl⟩ := ry; exact PySem.W.ne_bytes (fin_bl I q (congrArg not dec_byt))
    | _ => exact absurd (show false = true from hs) Bool.false_ne_true
  | _ => cases y <;> exact absurd (show false = true from hs) Bool.false_ne_true
theorem op_lt : OpR X (compareOp .Lt) (rI0 fun i j => .bl (decide (i < j))) := opB0 fun _ _ _ _ _ _ _ q => lt_int q
theorem op_le : OpR X (compareOp .LtE) (rI0 fun i j => .bl (decide (i ≤ j))) := opB0 fun _ _ _ _ _ _ _ q => le_int q
theorem op_gt : OpR X (compareOp .Gt) (rI0 fun i j => .bl (decide (j < i))) := opB0 fun _ _ _ _ _ _ _ q => gt_int q
theorem op_ge : OpR X (compareOp .GtE) (rI0 fun i j => .bl (decide (j ≤ i))) := opB0 fun _ _ _ _ _ _ _ q => ge_int q
theorem op_isN : OpR X (compareOp .Is) (fun x y H Q => y = .non ∧ Q (.bl (decide (x = .non))) H) := by
  intro pins s σ H x y v u Q I rx ry h
  obtain ⟨rfl, q⟩ := h
  cases ry
  refine is_none_gen (fin_bl I q ?_)
  cases x <;> first
    | (cases rx; rfl)
    | (obtain ⟨t, rfl⟩ := rx; rfl)
theorem nomark (b : Expr) {op : CmpOp} (h : op ≠ .In := by decide) (h2 : op ≠ .NotIn := by decide) : behindInMarks op b = false := by
  have e1 : (op == CmpOp.In) = false := by cases op <;> first | rfl | exact absurd rfl h
  have e2 : (op == CmpOp.NotIn) = false := by cases op <;> first | rfl | exact absurd rfl h2
  cases b <;> simp [behindInMarks, e1, e2]
theorem pe_cmpR {op : CmpOp} {r : R2} (ho : OpR X (compareOp op) r) (ha : PE X a ta) (hb : PE X b tb) (hm : behindInMarks op b = false) : PE X (.Compare a [op] [b] pos) (tOp r ta tb) := by
  intro pins s σ H Q I h
  exact wpAny_Compare1 (binT ha hb I h fun v u s2 x y H2 I2 rx ry q => ho pins s2 σ H2 x y v u Q I2 rx ry q) hm
def tTest (t : TE) : TT := fun σ H Q => t σ H fun x H' => ∃ k, x = .bl k ∧ Q k H'
theorem pt_cmpR {op : CmpOp} {r : R2} (ho : OpR X (compareOp op) r) (ha : PE X a ta) (hb : PE X b tb) (hm : behindInMarks op b = false) : PT X (.Compare a [op] [b] pos) (tTest (tOp r ta tb)) := by
  intro pins s σ H Q I h
  refine wpAny_isTrue_Compare1 (thn (ha pins s σ H _ I h) fun v s1 ⟨x, H1, I1, r1, q1⟩ => thn (hb pins s1 σ H1 _ I1 q1) fun u s2 ⟨y, H2, I2, r2, q2⟩ =>
    thn (ho pins s2 σ H2 x y v u _ I2 r1 r2 q2) fun c s3 ⟨z, H3, I3, r3, k, e, q3⟩ => ?_) hm
  subst e
  cases r3
  exact wpAny_truthy_bool ⟨H3, I3, q3⟩
def tChain (r r' : R2) (ta tb tc : TE) : TE := fun σ H Q => ta σ H fun x H1 => tb σ H1 fun y H2 => r x y H2 fun z H3 => ∃ k, z = .bl k ∧
  (if k = true then tc σ H3 fun w' H4 => r' y w' H4 Q else Q (.bl false) H3)
theorem pe_chain {op op' : CmpOp} {r r' : R2} (ho : OpR X (compareOp op) r) (ho' : OpR X (compareOp op') r') (ha : PE X a ta) (hb : PE X b tb) (hc : PE X c tc)
    (hm : lastMarks [op, op'] [b, c] = false := by with_unfolding_all rfl) : PE X (.Compare a [op, op'] [b, c] pos) (tChain r r' ta tb tc) := by
  intro pins s σ H Q I h
  refine Compare_chain (thn (ha pins s σ H _ I h) fun v s1 ⟨x, H1, I1, r1, q1⟩ => chain_link (thn (hb pins s1 σ H1 _ I1 q1) fun u s2 ⟨y, H2, I2, r2, q2⟩ =>
    thn (ho pins s2 σ H2 x y v u _ I2 r1 r2 q2) fun d s3 ⟨z, H3, I3, r3, k, e, q3⟩ => ?_)) hm
  subst e
  cases r3
  refine wpAny_truthy_bool ?_
  cases k with
  | false => exact ite_ff ⟨.bl false, H3, I3, rfl, q3⟩
  | true => exact ite_tt (chain_last (thn (hc pins s3 σ H3 _ I3 q3) fun w' s4 ⟨z', H4, I4, r4, q4⟩ => ho' pins s4 σ H4 y z' u w' Q I4 r2 r4 q4))
theorem line63 : (sizeLine : Nat) < 2 ^ 63 := by rw [sizeLine_eq]; decide
theorem vals1 {x : V} {us : List Value} (r : Vals [x] us) : ∃ u, us = [u] ∧ RelV x u := by
  cases r with
  | cons r1 r2 => cases r2; exact ⟨_, rfl, r1⟩
theorem vals2 {x y : V} {us : List Value} (r : Vals [x, y] us) : ∃ u w', us = [u, w'] ∧ RelV x u ∧ RelV y w' := by
  cases r with
  | cons r1 r2 =>
    cases r2 with
    | cons r3 r4 => cases r4; exact ⟨_, _, rfl, r1, r3⟩
theorem call_max2 (hc : X.calm = true) : CallR X (.builtin "max") (fun xs H Q => ∃ i j, xs = [.int i, .int j] ∧ Q (.int (if j > i then j else i)) H) := by
  intro pins s σ H xs us Q I r h
  obtain ⟨i, j, rfl, q⟩ := h
  obtain ⟨u, w', rfl, ⟨t, rfl⟩, ⟨t', rfl⟩⟩ := vals2 r
  refine max_two_ints (I.ok.hd hc) fun h' tk k => ⟨_, H, I.kept k, ?_, q⟩
  by_cases hj : j > i
  · rw [if_pos hj, if_pos hj]; exact ⟨_, rfl⟩
  · rw [if_neg hj, if_neg hj]; exact ⟨_, rfl⟩
theorem call_min2 (hc : X.calm = true) : CallR X (.builtin "min") (fun xs H Q => ∃ i j, xs = [.int i, .int j] ∧ Q (.int (if j < i then j else i)) H) := by
  intro pins s σ H xs us Q I r h
  obtain ⟨i, j, rfl, q⟩ := h
  obtain ⟨u, w', rfl, ⟨t, rfl⟩, ⟨t', rfl⟩⟩ := vals2 r
  refine min_two_ints (I.ok.hd hc) fun h' tk k => ⟨_, H, I.kept k, ?_, q⟩
  by_cases hj : j < i
  · rw [if_pos hj, if_pos hj]; exact ⟨_, rfl⟩
  · rw [if_neg hj, if_neg hj]; exact ⟨_, rfl⟩
theorem call_int1 : CallR X (.type "int") (fun xs H Q => (∃ i, xs = [.int i] ∧ Q (.int i) H) ∨ ∃ k, xs = [.bl k] ∧ Q (.int (if k then 1 else 0)) H) := by
  intro pins s σ H xs us Q I r h
  rcases h with ⟨i, rfl, q⟩ | ⟨k, rfl, q⟩
  · obtain ⟨u, rfl, t, rfl⟩ := vals1 r
    exact call_int_int ⟨.int i, H, I, ⟨_, rfl⟩, q⟩
  · obtain ⟨u, rfl, r1⟩ := vals1 r
    cases r1
    exact call_int_bool ⟨.int (if k then 1 else 0), H, I.tok _, ⟨_, rfl⟩, q⟩
end
end L2
namespace L2
open PySem PySem.Spec PyProof.Rows
structure ObjM (h : Heap) (x dx C : Addr) (mA : Str → Option Value) : Prop where
  obj : h.get? x = some (PySem.W.instObj C dx)
  ns : h.Ns1 dx mA
  ne : dx ≠ x
theorem lookIn_ns {h : Heap} {dx : Addr} {mA : Str → Option Value} (n : h.Ns1 dx mA) : ∃ od, h.get? dx = some od ∧ ∀ name, PySem.W.lookIn name od = some (mA name) := by
  obtain ⟨o, es, ep, ho, hd, hk, _, hm⟩ := n
  refine ⟨o, ho, fun name => ?_⟩
  have e := hm name
  unfold nsFind findBy at e
  rw [← Array.find?_toList] at e
  unfold PySem.W.lookIn
  rw [hd]
  dsimp only
  split
  · rename_i y q
    rw [q] at e
    exact congrArg some e
  · rename_i q
    rw [q] at e
    have a : es.toList.any (·.refKey) = false := by
      rw [List.any_eq_false]
      intro y hy
      obtain ⟨z, t, hkey⟩ := hk y (Array.mem_toList_iff.mp hy)
      simp [DictEntry.refKey, hkey]
    have a' : ¬ es.toList.any (·.refKey) = true := by rw [a]; exact Bool.false_ne_true
    rw [if_neg a']
    exact congrArg some e
theorem ObjM.look {h : Heap} {x dx C : Addr} {mA : Str → Option Value} (I : ObjM h x dx C mA) : ∃ od, PySem.W.InstAt h x (PySem.W.instObj C dx) C (some od) ∧ ∀ name, PySem.W.lookIn name od = some (mA name) :=
  let ⟨od, ho, hl⟩ := lookIn_ns I.ns
  ⟨od, ⟨I.obj, rfl, rfl, ho⟩, hl⟩
section
variable {prog : Program} {w : World} {A : Around} {E : Value → Shared → Prop} {s : Shared} {K : PySem.W.Frag} {x dx C f : Addr} {mA : Str → Option Value} {name : Str} {v : Value}
end
section
variable {P : Program} {w : World} {H H' : Hp} {h h' : Heap} {a C dx : Addr} {fs fs' : List (Str × V)}
theorem ins_get (hok : HOk P w H h) (e : H a = some (.ins C dx fs)) : ∃ mA, ObjM h a dx C mA ∧ (∀ f, RelO (fs.lookup f) (mA f)) ∧ PySem.Within mA (fs.map (·.1)) ∧ fs.length ≤ 1000 ∧ H dx = some (.own a) := by
  obtain ⟨d, z, ne, ob, mA, n, r, q⟩ := (show ObjOk P w H h a (.ins C dx fs) from hok a _ e)
  exact ⟨mA, ⟨ob, n, ne⟩, r, q, z, d⟩
end
structure Cls (K : PySem.W.Frag) (C : Addr) : Prop where
  pg : PySem.W.plainGet K C Str.empty = true
  hd : PySem.W.hasDictIn K C = true
  po : PySem.W.plainOver K C = true
  sa : PySem.W.findIn K (.ref C) "__setattr__" = some (some (.builtin "object.__setattr__"))
theorem Cls.get {K : PySem.W.Frag} {C : Addr} (c : Cls K C) (f : Str) : PySem.W.plainGet K C f = true := c.pg
structure Con (K : PySem.W.Frag) (C : Addr) (f : Str) (v : V) (u : Value) : Prop where
  at_ : PySem.W.findIn K (.ref C) f = some (some u)
  rel : RelV v u
  get : PySem.W.specialIn K u "__get__" = some none
  cp : PySem.W.copiedNames.contains f = false
structure Meth (K : PySem.W.Frag) (C : Addr) (m : Str) (f : Addr) : Prop where
  at_ : PySem.W.findIn K (.ref C) m = some (some (.ref f))
  fn : PySem.W.isFn K (.ref f) = true
  kp : PySem.W.keepIn K (.ref f) = true
section
variable {X : Cx} {pins : List (Addr × Obj)} {σ : St} {H : Hp} {s : Shared} {a C dx : Addr} {fs : List (Str × V)} {f : Str} {v : V} {A : Around} {E : Value → Shared → Prop}
end
section
variable {X : Cx} {o e value : Expr} {f : Str} {pos pos' tpos : Pos} {ta tv : TE}
end
section
variable {X : Cx} {pins : List (Addr × Obj)} {σ : St} {H : Hp} {s : Shared} {A : Around} {E : Value → Shared → Prop} {Q : Value → Shared → Prop} {c : Value} {b : Bool}
inductive TyOf (K : PySem.W.Frag) (H : Hp) : V → Value → Prop where
  | non : TyOf K H .non (.type "NoneType")
  | bl (x : Bool) : TyOf K H (.bl x) (.type "bool")
  | int (i : Int) : TyOf K H (.int i) (.type "int")
  | str (x : Str) : TyOf K H (.str x) (.type "str")
  | flt (x : UInt64) : TyOf K H (.flt x) (.type "float")
  | lst {a : Addr} {xs : List V} (e : H a = some (.lst xs)) : TyOf K H (.ref a) (.type "list")
  | frz {a : Addr} {o : Obj} {xs : List V} (e : H a = some (.frz o (.lst xs))) : TyOf K H (.ref a) (.type "list")
  | tup {a : Addr} {xs : List V} (e : H a = some (.tup xs)) : TyOf K H (.ref a) (.type "tuple")
  | dK {a : Addr} {kvs : List (Key × V)} (e : H a = some (.dK kvs)) : TyOf K H (.ref a) (.type "dict")
  | dT {a : Addr} {kvs : List (List Key × V)} (e : H a = some (.dT kvs)) : TyOf K H (.ref a) (.type "dict")
  | ins {a C dx : Addr} {fs : List (Str × V)} (e : H a = some (.ins C dx fs)) (cl : Cls K C) (ha : PySem.W.findIn K (.ref C) "__class__" = some (some (.builtin "object.__class__")))
      (hn : PySem.W.specialIn K (.builtin "object.__class__") "__get__" = some (some (.builtin "getset_descriptor.__get__"))) (htk : PySem.W.takesIn K (.builtin "object.__class__") = some true)
      (hm : PySem.W.mroIn K C (.type "object") = some true) : TyOf K H (.ref a) (.ref C)
theorem isinst_ok {x : V} {u t : Value} (I : Inv X pins σ H s) (rx : RelV x u) (ty : TyOf X.K H x t) (e : PySem.W.kitOne X.K t c = some b) (h : ∀ tk, Q (.bool b) { s with toks := tk }) :
    wpAny (model X.prog X.w) A (call (.builtin "isinstance") [u, c]) Q E s := by
  cases ty with
  | non => cases (show u = Value.none from rx); exact PySem.W.kia_one PySem.W.kitx_none I.kIn True.intro e (fun z => nomatch z) h
  | bl y => cases (show u = Value.bool y from rx); exact PySem.W.kia_one PySem.W.kitx_bool I.kIn True.intro e (fun z => nomatch z) h
  | int i => obtain ⟨t, q⟩ := (show ∃ t, u = Value.int i t from rx); cases q; exact PySem.W.kia_one PySem.W.kitx_int I.kIn True.intro e (fun z => nomatch z) h
  | str y => obtain ⟨t, q⟩ := (show ∃ t, u = Value.str y t from rx); cases q; exact PySem.W.kia_one PySem.W.kitx_str I.kIn True.intro e (fun z => nomatch z) h
  | flt y => obtain ⟨t, q⟩ := (show ∃ t, u = Value.float y t from rx); cases q; exact PySem.W.kia_one PySem.W.kitx_float I.kIn True.intro e (fun z => nomatch z) h
  | @lst a xs ea =>
    cases (show u = Value.ref a from rx)
    obtain ⟨_, _, n, _, h1⟩ := (show ObjOk X.prog X.w H s.heap a (.lst xs) from I.hok a _ ea)
    exact PySem.W.kia_one PySem.W.kitx_list I.kIn ⟨_, h1, rfl⟩ e (fun z => nomatch z) h
  | @frz a ob xs ea =>
    cases (show u = Value.ref a from rx)
    obtain ⟨_, _, _, n, _, h1⟩ := (show ObjOk X.prog X.w H s.heap a (.frz ob (.lst xs)) from I.hok a _ ea)
    exact PySem.W.kia_one PySem.W.kitx_list I.kIn ⟨_, h1, rfl⟩ e (fun z => nomatch z) h
  | @tup a xs ea =>
    cases (show u = Value.ref a from rx)
    obtain ⟨_, _, _, p⟩ := (show ObjOk X.prog X.w H s.heap a (.tup xs) from I.hok a _ ea)
    obtain ⟨o, h1, h2, _⟩ := p
    exact PySem.W.kia_one PySem.W.kitx_tuple I.kIn ⟨o, h1, h2⟩ e (fun z => nomatch z) h
  | @dK a kvs ea =>
    cases (show u = Value.ref a from rx)
    obtain ⟨_, _, vs, _, p⟩ := (show ObjOk X.prog X.w H s.heap a (.dK kvs) from I.hok a _ ea)
    obtain ⟨o, es, ep, h1, h2, _⟩ := p
    exact PySem.W.kia_one PySem.W.kitx_dict I.kIn ⟨o, h1, h2.1⟩ e (fun z => nomatch z) h
  | @dT a kvs ea =>
    cases (show u = Value.ref a from rx)
    obtain ⟨_, _, xs, _, o, es, ep, h1, h2, _⟩ := (show ObjOk X.prog X.w H s.heap a (.dT kvs) from I.hok a _ ea)
    exact PySem.W.kia_one PySem.W.kitx_dict I.kIn ⟨o, h1, h2.1⟩ e (fun z => nomatch z) h
  | @ins a C dx fs ea cl ha hn htk hm =>
    cases (show u = Value.ref a from rx)
    obtain ⟨mA, O, _⟩ := ins_get I.hok ea
    obtain ⟨od, J, _⟩ := O.look
    exact PySem.W.kia_one (PySem.W.kitx_own (cl.get _) cl.hd ha hn htk hm) I.kIn J e (fun z => nomatch z) h
end
end L2
namespace L2
open PySem PySem.Spec PyProof.Rows
structure Room (k : Nat) (A : Around) : Prop where
  hd : A.handled = none
  dp : A.depth + 3 * k + 5 < recursionLimit
  un : A.units + 16 * k + 200 < cLine
theorem Room.mono {j k : Nat} {A : Around} (r : Room k A) (h : j ≤ k) : Room j A := ⟨r.hd, by have := r.dp; omega, by have := r.un; omega⟩
theorem Room.deeper {k : Nat} {A : Around} (r : Room (k + 1) A) (env : Env) : Room k (A.deeper env) :=
  ⟨r.hd, by have := r.dp; show A.depth + 1 + 3 * k + 5 < _; omega, by have := r.un; show A.units + 3 + 16 * k + 200 < _; omega⟩
theorem Room.depth {k : Nat} {A : Around} (r : Room k A) : A.depth < recursionLimit := by have := r.dp; omega
theorem Room.units {k : Nat} {A : Around} (r : Room k A) : A.units + 64 < cLine := by have := r.un; omega
def tNil : TA := fun _ H Q => Q [] H
def tCons (ta : TE) (tr : TA) : TA := fun σ H Q => ta σ H fun x H1 => tr σ H1 fun xs H2 => Q (x :: xs) H2
section
variable {X : Cx} {e : Expr} {es : List Expr} {te : TE} {t : TA} {pos : Pos}
theorem pa_nil : PA X [] tNil := fun _ _ _ _ H Q I h => Calls.spliced_nil ⟨[], H, I, .nil, h⟩
theorem pa_cons (ha : PE X e te) (hr : PA X es t) (hs : starEach (e :: es) X.env = (false, eval e X.env) :: starEach es X.env := by rfl) : PA X (e :: es) (tCons te t) := by
  intro pos pins s σ H Q I h
  rw [hs]
  show wpAny _ _ (spliced ((false, eval e X.env) :: backTo pos (starEach es X.env))) _ _ s
  refine Calls.spliced_cons (thn (ha pins s σ H _ I h) fun u s1 ⟨x, H1, I1, r1, q1⟩ => ?_)
  exact thn (hr pos pins s1 σ H1 _ I1 q1) fun us s2 ⟨xs, H2, I2, r2, q2⟩ => ⟨x :: xs, H2, I2, .cons r1 r2, q2⟩
def tTup (t : TA) : TE := fun σ H Q => t σ H fun xs H1 => xs.length ≤ sizeLine ∧ ∀ p, H1 p = none → Q (.ref p) (upd H1 p (.tup xs))
def tLst (t : TA) : TE := fun σ H Q => t σ H fun xs H1 => xs.length ≤ sizeLine ∧ ∀ p, H1 p = none → Q (.ref p) (upd H1 p (.lst xs))
theorem pe_tup {x1} (h : PA X es t) : PE X (.Tuple es x1 pos) (tTup t) := by
  intro pins s σ H Q I hq
  refine wpAny_Tuple_spliced (thn (h pos pins s σ H _ I hq) fun us s1 ⟨xs, H1, I1, r, z, q⟩ => ⟨by rw [← r.length]; exact z, ?_⟩)
  have hf : H1 s1.heap.objs.size = none := I1.hok.fresh (Nat.le_refl _)
  refine ⟨.ref s1.heap.objs.size, upd H1 s1.heap.objs.size (.tup xs), I1.laid (t' := s1.toks) (fun b u e => Heap.get?_push_of_some _ e) (Nat.le_refl _) ?_, rfl, q _ hf⟩
  exact ⟨z, us, r, ⟨_, Heap.get?_push_size _ rfl, rfl, _, rfl⟩⟩
theorem pe_lst (h : PA X es t) : PE X (.List es pos) (tLst t) := by
  intro pins s σ H Q I hq
  refine wpAny_List_spliced (thn (h pos pins s σ H _ I hq) fun us s1 ⟨xs, H1, I1, r, z, q⟩ => ⟨by rw [← r.length]; exact z, ?_⟩)
  have hf : H1 s1.heap.objs.size = none := I1.hok.fresh (Nat.le_refl _)
  refine ⟨.ref s1.heap.objs.size, upd H1 s1.heap.objs.size (.lst xs), I1.laid (t' := s1.toks) (fun b u e => Heap.get?_push_of_some _ e) (Nat.le_refl _) ?_, rfl, q _ hf⟩
  exact ⟨z, us, 0, r, Heap.get?_push_size _ rfl⟩
end
abbrev Sp := List V → Hp → VK → XK → Prop
abbrev CXT := List Env → Hp → Shared → XK → Value → Shared → Prop
structure Env0 (P : Program) (w : World) (K : PySem.W.Frag) (mg : Str → Option Value) (base : Heap) (A : Around) (outer : List Env) (s : Shared) (H : Hp) : Prop where
  frames : A.frames = some outer
  mod : Mod K mg base
  bs : ∀ b o, base.get? b = some o → s.heap.get? b = some o ∧ H b = none
  bsz : base.objs.size ≤ s.heap.objs.size
  funs : s.heap.FunFrames base outer
  frf : ∀ b ∈ frs outer, H b = none
  hok : HOk P w H s.heap
  bare : AllBare s.gens
def CE (outer : List Env) (P : Program) (w : World) (H : Hp) (s : Shared) (Q : VK) (u : Value) (s' : Shared) : Prop :=
  ∃ v H', s'.os = s.os ∧ AllBare s'.gens ∧ Un (frs outer) [] H H' s.heap s'.heap ∧ HOk P w H' s'.heap ∧ RelV v u ∧ Q v H'
def CR (CX : CXT) (outer : List Env) (P : Program) (w : World) (H : Hp) (s : Shared) (Q : VK) (E : XK) (r : Result) (s' : Shared) : Prop :=
  match r with
  | .ok (.ret u) => CE outer P w H s Q u s'
  | .ok _ => False
  | .error e => CX outer H s E e s'
structure FnOk (P : Program) (w : World) (K : PySem.W.Frag) (mg : Str → Option Value) (base : Heap) (CX : CXT) (k : Nat) (f : Addr) (fd : FuncData) (ps : List Str) (sp : Sp) : Prop where
  len : ∀ vs H Q E, sp vs H Q E → vs.length = ps.length
  run : ∀ (A : Around) (outer : List Env) (s : Shared) (H : Hp) (args : Args) (us : List Value) (vs : List V) (Q : VK) (E : XK), Room k A → Env0 P w K mg base A outer s H → BindsTo s fd args (ps.zip us) → Vals vs us → sp vs H Q E →
    codeAny (model P w) A (.call (.ref f) args) (CR CX outer P w H s Q E) s
theorem FnOk.mono {P : Program} {w : World} {K : PySem.W.Frag} {mg : Str → Option Value} {base : Heap} {CX : CXT} {j k : Nat} {f : Addr} {fd : FuncData} {ps : List Str} {sp : Sp} (F : FnOk P w K mg base CX j f fd ps sp) (h : j ≤ k) :
    FnOk P w K mg base CX k f fd ps sp := ⟨F.len, fun A outer s H args us vs Q E hr => F.run A outer s H args us vs Q E (hr.mono h)⟩
section
variable {X : Cx} {pins : List (Addr × Obj)} {σ : St} {H : Hp} {s s' : Shared}
theorem Inv.env0 (I : Inv X pins σ H s) : Env0 X.prog X.w X.K X.mg X.base X.A X.stack s H :=
  ⟨I.ok.frames, I.ok.mod, I.bs, Nat.le_trans I.ok.bsz I.sz, I.stack, I.stkFree, I.hok, I.bare⟩
theorem Inv.after {Q : VK} {u : Value} (I : Inv X pins σ H s) (h : CE X.stack X.prog X.w H s Q u s') : EP X pins σ Q u s' := by
  obtain ⟨v, H', os, bare, un, hok, r, q⟩ := h
  obtain ⟨hh, g, d, t, os'⟩ := s'
  obtain rfl : os' = s.os := os
  exact ⟨v, H', I.call (h' := hh) (g' := g) (d' := d) (t' := t) (ch := []) un hok bare (fun b z => absurd z (by simp)), r, q⟩
end
def tCall (sp : Sp) (dvs : List V) (E : XK) (t : TA) : TE := fun σ H Q => t σ H fun vs H1 => sp (vs ++ dvs) H1 Q E
def Binds (K : PySem.W.Frag) (fd : FuncData) (ps : List Str) (ds : List Value) : Prop :=
  ∀ (s : Shared) (us : List Value), K.In s.heap → (us ++ ds).length = ps.length → BindsTo s fd ⟨us, []⟩ (ps.zip (us ++ ds))
theorem Binds.all {K : PySem.W.Frag} {fd : FuncData} {ps : List Str} (h : ∀ us : List Value, us.length = ps.length → bindArgs fd ⟨us, []⟩ = pure (ps.zip us)) : Binds K fd ps [] := fun s us _ hl => by
  rw [List.append_nil] at hl ⊢
  exact .of_eq (h us hl)
def Passes (CX : CXT) (X : Cx) (E : XK) : Prop := ∀ (pins : List (Addr × Obj)) (σ : St) (H : Hp) (s : Shared) (e : Value) (s' : Shared), Inv X pins σ H s → CX X.stack H s E e s' → X.xe e s'
section
variable {X : Cx} {CX : CXT} {k : Nat} {f C : Addr} {fd : FuncData} {ps : List Str} {sp : Sp} {dvs : List V} {ds : List Value} {E : XK} {x m : Str} {p pos apos : Pos} {e o : Expr} {es : List Expr} {ta : TE} {t : TA}
theorem run_fn {pins : List (Addr × Obj)} {σ : St} {H : Hp} {s : Shared} {Q : VK} {us : List Value} {vs : List V} (F : FnOk X.prog X.w X.K X.mg X.base CX k f fd ps sp) (hr : Room k X.A) (hb : Binds X.K fd ps ds) (hd : Vals dvs ds) (hx : Passes CX X E)
    (I : Inv X pins σ H s) (r : Vals vs us) (h : sp (vs ++ dvs) H Q E) : wpAny (model X.prog X.w) X.A (call (.ref f) us) (EP X pins σ Q) X.xe s := by
  have r2 : Vals (vs ++ dvs) (us ++ ds) := r.append hd
  have hl : (us ++ ds).length = ps.length := by rw [← r2.length]; exact F.len _ _ _ _ h
  refine wpAny_call (codeAny_mono (F.run X.A X.stack s H ⟨us, []⟩ (us ++ ds) (vs ++ dvs) Q E hr I.env0 (hb s us I.kIn hl) r2 h) fun r s' hq => ?_)
  cases r with
  | error e => exact hx pins σ H s e s' I hq
  | ok fl =>
    cases fl with
    | ret u => exact I.after hq
    | next => exact False.elim hq
    | brk => exact False.elim hq
    | cont => exact False.elim hq
theorem pe_call (F : FnOk X.prog X.w X.K X.mg X.base CX k f fd ps sp) (hr : Room k X.A) (hg : Gl X x) (hm : X.mg x = some (.ref f)) (hk : PySem.W.keepIn X.K (.ref f) = true) (hb : Binds X.K fd ps ds) (hd : Vals dvs ds) (hx : Passes CX X E)
    (ha : PA X (e :: es) t) (hdb : (x == ("__debug__" : Str)) = false := by decide) (he : starEach (e :: es) X.env = (false, eval e X.env) :: starEach es X.env := by rfl) (hpl : (backTo pos (starEach es X.env)).any (·.1) = false := by rfl) :
    PE X (.Call (.Name x p) (e :: es) [] pos) (tCall sp dvs E t) := by
  intro pins s σ H Q I h
  refine wpAny_Call_Name_kw (ld_glob I hg hm ?_ hdb)
  refine PySem.W.callWith_K (h₀ := X.base) I.ok.mod.kin hk (thn (ha pos pins s σ H _ I h) fun us s1 ⟨vs, H1, I1, r, q⟩ => ⟨I1.kIn, ?_⟩) he hpl
  exact run_fn F hr hb hd hx I1 r q
structure Mk (K : PySem.W.Frag) (C f : Addr) : Prop where
  makes : PySem.W.makesIn K C = true
  init : PySem.W.findIn K (.ref C) "__init__" = some (some (.ref f))
  fn : PySem.W.isFn K (.ref f) = true
  kp : PySem.W.keepIn K (.ref C) = true
end
section
variable {X : Cx} {CX : CXT} {k : Nat} {f C : Addr} {fd : FuncData} {ps ks : List Str} {sp : Sp} {E : XK} {x m : Str} {p pos apos kpos : Pos} {e o : Expr} {es : List Expr} {kws : List Keyword} {te ta : TE} {t tk : TA} {nm : Option Str}
structure KBinds (K : PySem.W.Frag) (fd : FuncData) (ps ks : List Str) (g : List Value → List Value → List Value) (gV : List V → List V → List V) : Prop where
  to : ∀ (s : Shared) (us ws : List Value), K.In s.heap → (g us ws).length = ps.length → BindsTo s fd ⟨us, ks.zip ws⟩ (ps.zip (g us ws))
  rel : ∀ {vs : List V} {us : List Value} {zs : List V} {ws : List Value}, Vals vs us → Vals zs ws → Vals (gV vs zs) (g us ws)
variable {g : List Value → List Value → List Value} {gV : List V → List V → List V}
end
structure FnScope (N P : List Str) (sc : Scope) : Prop where
  kind : sc.kind = .function
  co : sc.isCoroutine = false
  gen : sc.isGenerator = false
  nd : N.Nodup
  pre : N.take P.length = P
  par : ∀ x ∈ P, sc.names.lookup x = some .local ∨ sc.names.lookup x = some .cell
  nofree : ∀ y ∈ sc.names, y.2 ≠ .free
theorem bindL_out {kindOf : Str → Option NameKind} {x : Str} : ∀ {binds : List (Str × Value)} {m : Str → Option Value}, (∀ v, (x, v) ∉ binds) → bindL kindOf binds m x = m x
  | [], _, _ => rfl
  | (n, v) :: r, m, h => by
    unfold bindL
    rw [bindL_out fun w hw => h w (List.mem_cons_of_mem _ hw)]
    split
    · have : x ≠ n := by rintro rfl; exact h v List.mem_cons_self
      simp [this]
    · rfl
theorem bindC_out {kindOf : Str → Option NameKind} {x : Str} : ∀ {binds : List (Str × Value)} {m : Str → Option Value}, (∀ v, (x, v) ∉ binds) → bindC kindOf binds m x = m x
  | [], _, _ => rfl
  | (n, v) :: r, m, h => by
    unfold bindC
    rw [bindC_out fun w hw => h w (List.mem_cons_of_mem _ hw)]
    split
    · rfl
    · have : x ≠ n := by rintro rfl; exact h v List.mem_cons_self
      simp [this]
theorem bindL_get {kindOf : Str → Option NameKind} {x : Str} {v : Value} : ∀ {P : List Str} {vs : List Value} {i : Nat} {m : Str → Option Value}, P.Nodup → P[i]? = some x → vs[i]? = some v → kindOf x = some .local →
    bindL kindOf (P.zip vs) m x = some v
  | [], _, _, _, _, h, _, _ => by simp at h
  | _ :: _, [], _, _, _, _, h, _ => by simp at h
  | p :: P, w :: vs, 0, m, nd, h1, h2, hk => by
    simp at h1 h2; subst h1; subst h2
    show bindL kindOf ((p, w) :: P.zip vs) m p = _
    unfold bindL
    rw [bindL_out fun v hv => (List.nodup_cons.mp nd).1 (List.of_mem_zip hv).1, if_pos hk]
    simp
  | p :: P, w :: vs, i + 1, m, nd, h1, h2, hk => by
    show bindL kindOf ((p, w) :: P.zip vs) m x = _
    unfold bindL
    exact bindL_get (i := i) (List.nodup_cons.mp nd).2 (by simpa using h1) (by simpa using h2) hk
theorem bindC_get {kindOf : Str → Option NameKind} {x : Str} {v : Value} : ∀ {P : List Str} {vs : List Value} {i : Nat} {m : Str → Option Value}, P.Nodup → P[i]? = some x → vs[i]? = some v → kindOf x ≠ some .local →
    bindC kindOf (P.zip vs) m x = some v
  | [], _, _, _, _, h, _, _ => by simp at h
  | _ :: _, [], _, _, _, _, h, _ => by simp at h
  | p :: P, w :: vs, 0, m, nd, h1, h2, hk => by
    simp at h1 h2; subst h1; subst h2
    show bindC kindOf ((p, w) :: P.zip vs) m p = _
    unfold bindC
    rw [bindC_out fun v hv => (List.nodup_cons.mp nd).1 (List.of_mem_zip hv).1, if_neg hk]
    simp
  | p :: P, w :: vs, i + 1, m, nd, h1, h2, hk => by
    show bindC kindOf ((p, w) :: P.zip vs) m x = _
    unfold bindC
    exact bindC_get (i := i) (List.nodup_cons.mp nd).2 (by simpa using h1) (by simpa using h2) hk
def start (N : List Str) (vs : List V) : St := vs.map some ++ List.replicate (N.length - vs.length) none
def cxOf (CX : CXT) (P : Program) (w : World) (K : PySem.W.Frag) (mg : Str → Option Value) (base : Heap) (N : List Str) (qual : Str) (scope : Scope) (f : Addr) (cd : Value) (A : Around) (outer : List Env) (s : Shared) (H : Hp) (E : XK) : Cx where
  prog := P
  w := w
  K := K
  mg := mg
  base := base
  A := A.deeper (envOfC qual scope s.heap.objs.size f cd)
  N := N
  s₀ := s
  H₀ := H
  env := envOfC qual scope s.heap.objs.size f cd
  outer := outer
  stack := envOfC qual scope s.heap.objs.size f cd :: outer
  ex := []
  calm := true
  fn := fun _ => true
  pn := []
  xe := fun e s' => wpAny (model P w) (A.deeper (envOfC qual scope s.heap.objs.size f cd)) (leaving (envOfC qual scope s.heap.objs.size f cd) e) (fun _ s'' => CX outer H s E e s'') (fun e' s'' => CX outer H s E e' s'') s'
theorem cell_has {sc : Scope} {n : Nat} {x : Str} (h : sc.names.lookup x = some .cell) : ∃ c, (cellsFrom n sc.names []).lookup x = some c := by
  have q := PySem.W.cellsFrom_some sc.names n [] (.inl h)
  exact Option.isSome_iff_exists.mp q
theorem inv_start {CX : CXT} {P : Program} {w : World} {K : PySem.W.Frag} {mg : Str → Option Value} {base : Heap} {N ps : List Str} {qual : Str} {scope : Scope} {f : Addr} {cd : Value} {A : Around} {outer : List Env} {s s1 : Shared} {H : Hp} {E : XK} {us : List Value} {vs : List V}
    (S : FnScope N ps scope) (hd : A.handled = none) (e0 : Env0 P w K mg base A outer s H) (hl : vs.length = ps.length) (r : Vals vs us)
    (x : InCallC s s.heap.objs.size (bindL (envOfC qual scope s.heap.objs.size f cd).kindOf (ps.zip us) fun _ => none) (cellsFrom (s.heap.objs.size + 1) scope.names []) (bindC (envOfC qual scope s.heap.objs.size f cd).kindOf (ps.zip us) fun _ => none) s1) :
    Inv (cxOf CX P w K mg base N qual scope f cd A outer s H E) [] (start N vs) H s1 := by
  have hpl : ps.length ≤ N.length := by have := congrArg List.length S.pre; rw [List.length_take] at this; omega
  obtain ⟨h1, tk, rfl, hk⟩ := x.done
  have noA : ∀ b : Addr, b ∉ (cxOf CX P w K mg base N qual scope f cd A outer s H E).ex := fun b z => absurd (show b ∈ ([] : List Addr) from z) (by simp)
  refine ⟨⟨e0.mod, S.kind, rfl, rfl, Nat.le_refl _, fun y z c h1 h2 => ?_, fun y hy => ?_, fun y c _ h => ?_, fun _ => hd, Around.frames_deeper e0.frames, .inr ⟨rfl, rfl⟩, fun b z => absurd z (noA b), e0.bs, e0.bsz, fun b _ _ => noA b, fun b z => absurd z (noA b), e0.funs, e0.frf⟩,
    rfl, e0.bare, Un.kept hk, ⟨_, x.toInCall.ns, fun i y v h1 h2 h3 => ?_⟩, fun y c h => ⟨_, x.cell y c h⟩, e0.hok.fresh (Nat.le_refl _), fun y c h => ?_, fun p hp => absurd (show p ∈ ([] : List (Addr × Obj)) from hp) (by simp), e0.hok.kept hk, ?_⟩
  · exact name_of_addr x.apart (PySem.mem_of_lookup h1) (PySem.mem_of_lookup h2)
  · have hy : scope.names.lookup y = some .cell ∨ scope.names.lookup y = some .free := hy
    rcases hy with hy | hy
    · exact cell_has hy
    · exact absurd rfl (S.nofree _ (PySem.mem_of_lookup hy))
  · exact Nat.le_of_lt (x.above y c (PySem.mem_of_lookup h))
  · have hi : i < vs.length := by
      unfold start at h2
      by_cases hi : i < vs.length
      · exact hi
      · rw [List.getElem?_append_right (by simpa using hi)] at h2
        rw [List.getElem?_replicate] at h2
        split at h2 <;> cases h2
    have ha : vs[i]? = some v := by
      unfold start at h2
      rw [List.getElem?_append_left (by simpa using hi), List.getElem?_map] at h2
      cases e : vs[i]? with
      | none => rw [e] at h2; cases h2
      | some a => rw [e] at h2; cases h2; rfl
    obtain ⟨u, hu, rv⟩ := r.get ha
    have hp : ps[i]? = some y := by
      rw [← S.pre, List.getElem?_take_of_lt (by omega)]; exact h1
    have ndP : ps.Nodup := by rw [← S.pre]; exact S.nd.sublist (List.take_sublist _ _)
    refine ⟨u, rv, ?_⟩
    rcases S.par y (List.mem_of_getElem? hp) with k | k
    · exact .inl ⟨k, bindL_get ndP hp hu k⟩
    · obtain ⟨c, e⟩ := cell_has (n := s.heap.objs.size + 1) k
      refine .inr ⟨.inl k, c, e, ?_⟩
      have q := x.cell y c e
      rw [bindC_get ndP hp hu (by show scope.names.lookup y ≠ _; rw [k]; decide)] at q
      exact q
  · exact e0.hok.fresh (Nat.le_of_lt (x.above y c (PySem.mem_of_lookup h)))
  · unfold start
    show _ = N.length
    rw [List.length_append, List.length_map, List.length_replicate]
    omega
theorem fn_of {CX : CXT} {P : Program} {w : World} {K : PySem.W.Frag} {mg : Str → Option Value} {base : Heap} {k : Nat} {f : Addr} {name qual : Str} {params : Arguments} {body : List Stmt} {scope : Scope} {dV kV doc pm cdv ct oc : Value} {an od : Option Addr}
    {osl : Array (Option Value)} {N ps : List Str} {sp : Sp} (lk : K.lookup f = some ⟨oc, od, .func (PySem.W.fnOf name qual params body scope dV kV doc pm an cdv ct), osl⟩) (hcd : PySem.W.codeIn K cdv qual = true) (S : FnScope N ps scope)
    (len : ∀ vs H Q E, sp vs H Q E → vs.length = ps.length)
    (hbody : ∀ (A : Around) (outer : List Env) (s : Shared) (H : Hp) (vs : List V) (Q : VK) (E : XK), Room k (A.deeper (envOfC qual scope s.heap.objs.size f cdv)) → sp vs H Q E →
      ∃ t, PSs (cxOf CX P w K mg base N qual scope f cdv A outer s H E) body t ∧ t { nx := fun _ H' => Q .non H', rt := Q } (start N vs) H) :
    FnOk P w K mg base CX (k + 1) f (PySem.W.fnOf name qual params body scope dV kV doc pm an cdv ct) ps sp := by
  refine ⟨len, fun A outer s H args us vs Q E hr e0 hb r hsp => ?_⟩
  have hl := len _ _ _ _ hsp
  have KX : K.In s.heap := e0.mod.kin.keeps fun b o e => (e0.bs b o e).1
  have lim : s.heap.NoLimit := e0.mod.nolimit.keeps fun b o e => (e0.bs b o e).1
  have hkind : ∀ y ∈ ps.zip us, scope.names.lookup y.1 = some .local ∨ (scope.names.lookup y.1 = some .cell ∧ ((cellsFrom (s.heap.objs.size + 1) scope.names []).lookup y.1).isSome = true) := fun ⟨n, v⟩ hy => by
    rcases S.par n (List.of_mem_zip hy).1 with q | q
    · exact .inl q
    · exact .inr ⟨q, PySem.W.cellsFrom_some _ _ _ (.inl q)⟩
  refine codeAny_call_function hr.depth (KX _ _ lk) rfl S.co S.gen rfl (PySem.W.codeRec_of KX hcd) (hb _ _ _ _ ?_)
  refine wpAny_newFunctionEnv_cells S.kind hkind fun env he s1 x => ?_
  subst he
  refine ⟨lim.keeps x.toInCall.keep, codeAny_func ?_⟩
  obtain ⟨t, ht, hq⟩ := hbody A outer s H vs Q E (hr.deeper _) hsp
  have I : Inv (cxOf CX P w K mg base N qual scope f cdv A outer s H E) [] (start N vs) H s1 := inv_start S hr.hd e0 hl r x
  refine wpAny_mono (ht [] s1 (start N vs) H _ I hq) (fun fl s' hs => ?_) fun e s' hs => hs
  have fin : ∀ {σ' : St} {H' : Hp} {v : V} {u : Value}, Inv (cxOf CX P w K mg base N qual scope f cdv A outer s H E) [] σ' H' s' → RelV v u → Q v H' → CE outer P w H s Q u s' :=
    fun {σ' H' v u} J rv q => ⟨v, H', J.os, J.bare, J.base, J.hok, rv, q⟩
  cases fl with
  | ret u =>
    obtain ⟨v, σ', H', J, rv, q⟩ := hs
    exact fin J rv q
  | next =>
    obtain ⟨σ', H', J, q⟩ := hs
    exact fin (v := V.non) (u := Value.none) J rfl q
  | brk =>
    obtain ⟨_, _, _, q⟩ := hs
    exact False.elim q
  | cont =>
    obtain ⟨_, _, _, q⟩ := hs
    exact False.elim q
end L2
namespace L2
open PySem PySem.Spec PyProof.Rows
section
variable {X : Cx} {x : Str} {p pos : Pos} {e : Expr} {es : List Expr} {t : TA} {id T : String} {r : List V → Hp → VK → Prop}
def tCB (r : List V → Hp → VK → Prop) (t : TA) : TE := fun σ H Q => t σ H fun vs H1 => r vs H1 Q
theorem pe_callB (hc : CallR X (.builtin id) r) (hg : Gl X x) (hm : X.mg x = none) (hv : bootBuiltins x = some (.builtin id)) (ha : PA X (e :: es) t) (hn : x ≠ "__name__" := by decide) (hdb : (x == ("__debug__" : Str)) = false := by decide)
    (he : starEach (e :: es) X.env = (false, eval e X.env) :: starEach es X.env := by rfl) (hpl : (backTo pos (starEach es X.env)).any (·.1) = false := by rfl) : PE X (.Call (.Name x p) (e :: es) [] pos) (tCB r t) := by
  intro pins s σ H Q I h
  refine wpAny_Call_Name_kw (ld_blt I hg hm hv ?_ hn hdb)
  exact PyProof.Rows.callWith_builtin1 (thn (ha pos pins s σ H _ I h) fun us s1 ⟨vs, H1, I1, r1, q1⟩ => hc pins s1 σ H1 vs us Q I1 r1 q1) he hpl
theorem pe_callTy (hc : CallR X (.type T) r) (hg : Gl X x) (hm : X.mg x = none) (hv : bootBuiltins x = some (.type T)) (ha : PA X (e :: es) t) (hn : x ≠ "__name__" := by decide) (hdb : (x == ("__debug__" : Str)) = false := by decide)
    (he : starEach (e :: es) X.env = (false, eval e X.env) :: starEach es X.env := by rfl) (hpl : (backTo pos (starEach es X.env)).any (·.1) = false := by rfl) : PE X (.Call (.Name x p) (e :: es) [] pos) (tCB r t) := by
  intro pins s σ H Q I h
  refine wpAny_Call_Name_kw (ld_blt I hg hm hv ?_ hn hdb)
  exact PyProof.Rows.callWith_type1 (thn (ha pos pins s σ H _ I h) fun us s1 ⟨vs, H1, I1, r1, q1⟩ => hc pins s1 σ H1 vs us Q I1 r1 q1) he hpl
end
end L2
namespace HT
open PySem PyProof.Rows
section
open PySem.SeqAt
open PySem.AutoSeq1 (wpAny_loadPart')
open PySem.MeetsSeq PySem.MeetsSeq2 PySem.MeetsSeq3
end
section
variable {prog : Program} {w : World} {A : Around} {E : Value → Shared → Prop} {s : Shared}
def sIx (n d : Nat) : Option Int → Nat
  | none => d
  | some v => if v < 0 then (v + (n : Int)).toNat else min v.toNat n
theorem sIx_none (n d : Nat) : sIx n d none = d := rfl
theorem sIx_nat (n d k : Nat) : sIx n d (some (k : Int)) = min k n := by
  show (if (k : Int) < 0 then ((k : Int) + (n : Int)).toNat else min (k : Int).toNat n) = min k n
  rw [if_neg (by omega), Int.toNat_natCast]
theorem sIx_le (n d : Nat) (hd : d ≤ n) (o : Option Int) : sIx n d o ≤ n := by
  cases o with
  | none => exact hd
  | some v =>
    show (if v < 0 then (v + (n : Int)).toNat else min v.toNat n) ≤ n
    by_cases hv : v < 0
    · rw [if_pos hv]; omega
    · rw [if_neg hv]; exact Nat.min_le_right _ _
theorem clip_eq (v : Int) (n d : Nat) : (if v < 0 then max (v + (n : Int)) 0 else min v (n : Int)) = ((sIx n d (some v) : Nat) : Int) := by
  show (if v < 0 then max (v + (n : Int)) 0 else min v (n : Int)) = (((if v < 0 then (v + (n : Int)).toNat else min v.toNat n) : Nat) : Int)
  by_cases hv : v < 0
  · simp only [if_pos hv]; omega
  · simp only [if_neg hv]; omega
theorem adjust_gen (lo hi : Option Int) (n : Nat) : Builtin.Slice.sliceAdjust lo hi 1 (n : Int) = (((sIx n 0 lo : Nat) : Int), ((sIx n n hi : Nat) : Int)) := by
  have h1 : ¬ ((1 : Int) < 0) := by omega
  unfold Builtin.Slice.sliceAdjust
  simp only [h1, if_false]
  refine Prod.ext ?_ ?_
  · cases lo with
    | none => rfl
    | some v => exact clip_eq v n 0
  · cases hi with
    | none => rfl
    | some v => exact clip_eq v n n
theorem places_gen (i j : Nat) : Builtin.Slice.slicePlaces (i : Int) (j : Int) 1 = j - i := by
  unfold Builtin.Slice.slicePlaces
  have h1 : (1 : Int) > 0 := by omega
  simp only [h1, if_true, Int.ediv_one]
  split <;> omega
theorem slicePart_ {v : Value} {o : Option Int} {Q : Option Int → Shared → Prop} (p : IsPart v o) (h : Q o s) : wpAny (model prog w) A (Builtin.Slice.slicePartIndex v) Q E s := by
  cases p with
  | none => exact slicePart_none h
  | int i t => exact slicePart_int h
theorem sliceApplied_gen {sl : Addr} {vl vu : Value} {lo hi : Option Int} {n : Nat} {Q : Int × Int × Nat → Shared → Prop} (hs : s.heap.IsSliceOf sl vl vu .none) (pl : IsPart vl lo) (pu : IsPart vu hi)
    (h : Q (((sIx n 0 lo : Nat) : Int), 1, sIx n n hi - sIx n 0 lo) s) : wpAny (model prog w) A (Builtin.Slice.sliceApplied (.ref sl) (pure (n : Int))) Q E s := by
  obtain ⟨os, hos, hcs, hds⟩ := id hs
  unfold Builtin.Slice.sliceApplied Builtin.Slice.sliceFields
  refine wpAny_bind (wpAny_bind (wpAny_field hos hds (x := vl) rfl (wpAny_bind (wpAny_field hos hds (x := vu) rfl (wpAny_bind (wpAny_field hos hds (x := .none) rfl (wpAny_pure ?_)))))))
  refine wpAny_bind (slicePart_none ?_)
  show wpAny _ _ (if ((1 : Int) == 0) = true then _ else _) _ _ s
  rw [if_neg (by decide)]
  refine wpAny_bind (slicePart_ pl (wpAny_bind (slicePart_ pu (wpAny_bind (wpAny_pure ?_)))))
  show wpAny _ _ (match Builtin.Slice.sliceAdjust lo hi 1 (n : Int) with | (lo, hi) => pure (lo, (1 : Int), Builtin.Slice.slicePlaces lo hi 1)) _ _ s
  rw [adjust_gen lo hi n]
  show wpAny _ _ (pure (((sIx n 0 lo : Nat) : Int), (1 : Int), Builtin.Slice.slicePlaces ((sIx n 0 lo : Nat) : Int) ((sIx n n hi : Nat) : Int) 1)) _ _ s
  rw [places_gen]
  exact wpAny_pure h
theorem pick_gen (xs : Array Value) (i k : Nat) : ((List.range k).filterMap fun (m : Nat) => xs[((i : Int) + (m : Int) * 1).toNat]?).toArray = ((xs.toList.drop i).take k).toArray := by
  have e : (fun (m : Nat) => xs[((i : Int) + (m : Int) * 1).toNat]?) = fun m => xs[i + m]? := by
    funext m
    have : ((i : Int) + (m : Int) * 1).toNat = i + m := by omega
    rw [this]
  rw [e]
  have := pick_run xs i k
  rw [List.filterMap_map] at this
  have e2 : ((fun x => xs[x]?) ∘ fun x => i + x) = fun m => xs[i + m]? := rfl
  rw [e2] at this
  rw [this]
theorem getItem_tuple_cut {t sl : Addr} {items : Array Value} {vl vu : Value} {lo hi : Option Int} {Q : Value → Shared → Prop} (ht : IsTup s.heap t items) (hs : s.heap.IsSliceOf sl vl vu .none) (pl : IsPart vl lo) (pu : IsPart vu hi)
    (hw : ¬ (sIx items.size 0 lo = 0 ∧ sIx items.size items.size hi = items.size))
    (h : Q (.ref s.heap.objs.size) { s with heap := s.heap.push { cls := .type "tuple", data := .seq ((items.toList.drop (sIx items.size 0 lo)).take (sIx items.size items.size hi - sIx items.size 0 lo)).toArray } })
    (hsz : items.size ≤ sizeLine) : wpAny (model prog w) A (getItem (.ref t) (.ref sl)) Q E s := by
  have htake : sizeOk (.seq ((items.toList.drop (sIx items.size 0 lo)).take (sIx items.size items.size hi - sIx items.size 0 lo)).toArray) := by
    show ((items.toList.drop (sIx items.size 0 lo)).take (sIx items.size items.size hi - sIx items.size 0 lo)).toArray.size ≤ sizeLine
    rw [List.size_toArray, List.length_take, List.length_drop, Array.length_toList]
    omega
  have hj : sIx items.size items.size hi ≤ items.size := sIx_le _ _ (Nat.le_refl _) hi
  obtain ⟨os, hos, hcs, hds⟩ := id hs
  have hTs : s.TypeIs (.ref sl) "slice" := ⟨os, hos, hcs⟩
  unfold getItem
  try with_reducible refine wpAny_holding ?_
  first | refine wpAny_bind (wpAny_pure ?_) | skip
  refine wpAny_bind (wpAny_sequenceKey ht.typeIs (by decide) ?_)
  refine wpAny_bind (wpAny_callSpecial?_slot (name := Str.ofString "__getitem__") ht.typeIs PyProof.Rows.slot_tuple_getitem
    (wpAny_call_entry PyProof.Rows.slot_tuple_getitem ht.typeIs entry_tuple_getitem ?_ (args_tuple_getitem _ _)))
  show wpAny _ _ (Builtin.Tuple.tupleItemsOf (.ref t) >>= _) _ _ s
  refine wpAny_bind (tupleItemsOf_ ht ?_)
  refine wpAny_bind (wpAny_typeOf hTs ?_)
  rw [if_pos (by decide)]
  refine wpAny_bind (sliceApplied_gen hs pl pu ?_)
  have hno : ¬ ((((sIx items.size 0 lo : Nat) : Int) == 0 && (1 : Int) == 1 && (sIx items.size items.size hi - sIx items.size 0 lo) == items.size) = true) := by
    intro q
    rw [Bool.and_eq_true, Bool.and_eq_true] at q
    have q1 : ((sIx items.size 0 lo : Nat) : Int) = 0 := eq_of_beq q.1.1
    have q2 : sIx items.size items.size hi - sIx items.size 0 lo = items.size := eq_of_beq q.2
    exact hw ⟨by omega, by omega⟩
  show wpAny _ _ (if (((sIx items.size 0 lo : Nat) : Int) == 0 && (1 : Int) == 1 && (sIx items.size items.size hi - sIx items.size 0 lo) == items.size) = true then _ else _) _ _ s
  rw [if_neg hno, pick_gen]
  first
    | exact wpAny_bind (m := Builtin.Tuple.tupleExact _) (wpAny_newObj_type (wpAny_pure ⟨_, rfl, wpAny_pure h⟩) htake)
    | exact wpAny_bind (m := Builtin.Tuple.tupleExact _) (wpAny_newObj_type (wpAny_bind (wpAny_pure (wpAny_pure ⟨_, rfl, wpAny_pure h⟩))) htake)
    | exact wpAny_bind (wpAny_bind (m := Builtin.Tuple.tupleExact _) (wpAny_newObj_type (wpAny_pure (wpAny_pure ⟨_, rfl, wpAny_pure h⟩)) htake))
    | exact wpAny_bind (wpAny_bind (m := Builtin.Tuple.tupleExact _) (wpAny_newObj_type (wpAny_pure ⟨_, rfl, wpAny_pure h⟩) htake))
end
end HT
namespace L2
open PySem PySem.Spec PyProof.Rows
abbrev TO := St → Hp → (Option Int → Hp → Prop) → Prop
def PO (X : Cx) (e : Option Expr) (t : TO) : Prop :=
  ∀ (pins : List (Addr × Obj)) (s : Shared) (σ : St) (H : Hp) (Q : Option Int → Hp → Prop), Inv X pins σ H s → t σ H Q →
    wpAny (model X.prog X.w) X.A (evalPart e X.env) (fun u s' => ∃ o H', Inv X pins σ H' s' ∧ IsPart u o ∧ Q o H') X.xe s
def tNoPart : TO := fun _ H Q => Q none H
def tPart (t : TE) : TO := fun σ H Q => t σ H fun x H1 => ∃ i, x = .int i ∧ Q (some i) H1
theorem intsAre_of {ns : List Int} : ∀ {us : List Value}, Vals (ns.map V.int) us → IntsAre us ns := by
  induction ns with
  | nil => intro us r; rw [List.map_nil] at r; cases r; exact .nil
  | cons n ns ih =>
    intro us r
    rw [List.map_cons] at r
    cases r with
    | cons r1 r2 =>
      obtain ⟨t, e⟩ := r1
      subst e
      exact .cons n t (ih r2)
section
variable {X : Cx} {e : Expr} {te : TE} {lo hi : Option Expr} {tl th : TO} {pos p2 : Pos}
theorem po_none : PO X none tNoPart := by
  intro pins s σ H Q I h
  rw [evalPart_none]
  exact wpAny_pure ⟨none, H, I, .none, h⟩
theorem po_some (h : PE X e te) : PO X (some e) (tPart te) := by
  intro pins s σ H Q I hw
  rw [evalPart_some]
  refine thn (h pins s σ H _ I hw) fun u s1 ⟨x, H1, I1, r1, q1⟩ => ?_
  obtain ⟨i, rfl, q⟩ := q1
  obtain ⟨t, rfl⟩ := r1
  exact ⟨some i, H1, I1, .int i t, q⟩
def SlR (X : Cx) (r : V → Option Int → Option Int → Hp → VK → Prop) : Prop :=
  ∀ (pins : List (Addr × Obj)) (s : Shared) (σ : St) (H : Hp) (x : V) (v vl vu : Value) (lo hi : Option Int) (sl : Addr) (Q : VK), Inv X pins σ H s → RelV x v → s.heap.IsSliceOf sl vl vu .none → IsPart vl lo → IsPart vu hi → r x lo hi H Q →
    ∃ T id, typeLookup (.type T) "__getitem__" = pure (some (.builtin id)) ∧ s.TypeIs v T ∧ wpAny (model X.prog X.w) X.A (getItem v (.ref sl)) (EP X pins σ Q) X.xe s
def tSl (r : V → Option Int → Option Int → Hp → VK → Prop) (te : TE) (tl th : TO) : TE := fun σ H Q => te σ H fun x H1 => tl σ H1 fun l H2 => th σ H2 fun u H3 => r x l u H3 Q
theorem pe_slice {r : V → Option Int → Option Int → Hp → VK → Prop} (hr : SlR X r) (he : PE X e te) (hl : PO X lo tl) (hu : PO X hi th) : PE X (.Subscript e (.Slice lo hi none p2) pos) (tSl r te tl th) := by
  intro pins s σ H Q I h
  refine Subscript_ (thn (he pins s σ H _ I h) fun v s1 ⟨x, H1, I1, r1, q1⟩ => ?_)
  refine wpAny_Slice (thn (hl pins s1 σ H1 _ I1 q1) fun vl s2 ⟨l, H2, I2, pl, q2⟩ => thn (hu pins s2 σ H2 _ I2 q2) fun vu s3 ⟨u, H3, I3, pu, q3⟩ => ?_)
  rw [evalPart_none]
  refine wpAny_pure ?_
  have I4 : Inv X pins σ H3 { s3 with heap := s3.heap.push { cls := .type "slice", data := .fields #[vl, vu, .none] } } := I3.kept (t' := s3.toks) fun b ob q => Heap.get?_push_of_some _ q
  obtain ⟨T, id, hT, ht, hg⟩ := hr pins { s3 with heap := s3.heap.push { cls := .type "slice", data := .fields #[vl, vu, .none] } } σ H3 x v vl vu l u s3.heap.objs.size Q I4 r1 (Heap.IsSliceOf.new ..) pl pu q3
  show wpAny (model X.prog X.w) X.A (subscriptTail e (.Slice lo hi none p2) v (.ref s3.heap.objs.size)) (EP X pins σ Q) X.xe { s3 with heap := s3.heap.push { cls := .type "slice", data := .fields #[vl, vu, .none] } }
  exact tail_any (ops := [.ref s3.heap.objs.size, v]) ht hT hg (by with_unfolding_all rfl)
def cutV (xs : List V) (lo hi : Option Int) : List V := (xs.drop (HT.sIx xs.length 0 lo)).take (HT.sIx xs.length xs.length hi - HT.sIx xs.length 0 lo)
theorem cutV_length (xs : List V) (lo hi : Option Int) : (cutV xs lo hi).length ≤ xs.length := by
  unfold cutV
  rw [List.length_take, List.length_drop]
  omega
theorem Vals.nil_iff {xs : List V} {us : List Value} (r : Vals xs us) : us = [] ↔ xs = [] := by
  cases r with
  | nil => simp
  | cons _ _ => simp
end
end L2
namespace L2
open PySem PySem.Spec PyProof.Rows
def ixN (n : Nat) (i : Int) : Option Nat := if 0 ≤ i then (if i < n then some i.toNat else none) else if -(n : Int) ≤ i then some (i + n).toNat else none
def atI {α : Type} (xs : List α) (i : Int) : Option α := (ixN xs.length i).bind fun j => xs[j]?
theorem ixN_seq {n : Nat} {i : Int} {j : Nat} (h : ixN n i = some j) : seqIndex? i n = some j ∧ j < n ∧ -(n : Int) ≤ i ∧ i < n := by
  unfold ixN at h
  by_cases h0 : 0 ≤ i
  · rw [if_pos h0] at h
    by_cases h1 : i < n
    · rw [if_pos h1] at h
      have e : i.toNat = j := Option.some.inj h
      exact ⟨by rw [seqIndex_of h0 h1, e], by omega, by omega, h1⟩
    · rw [if_neg h1] at h; cases h
  · rw [if_neg h0] at h
    by_cases h1 : -(n : Int) ≤ i
    · rw [if_pos h1] at h
      have e : (i + n).toNat = j := Option.some.inj h
      exact ⟨by rw [seqIndex_neg (by omega) h1, e], by omega, h1, by omega⟩
    · rw [if_neg h1] at h; cases h
theorem atI_get {α : Type} {xs : List α} {i : Int} {v : α} (h : atI xs i = some v) : ∃ j, seqIndex? i xs.length = some j ∧ xs[j]? = some v ∧ j < xs.length ∧ -(xs.length : Int) ≤ i ∧ i < xs.length := by
  unfold atI at h
  cases e : ixN xs.length i with
  | none => rw [e] at h; cases h
  | some j =>
    rw [e] at h
    obtain ⟨h1, h2, h3, h4⟩ := ixN_seq e
    exact ⟨j, h1, h, h2, h3, h4⟩
theorem atI_nat {α : Type} {xs : List α} {j : Nat} {v : α} (h : xs[j]? = some v) : atI xs (j : Int) = some v := by
  have hj : j < xs.length := (List.getElem?_eq_some_iff.mp h).1
  have e : ixN xs.length (j : Int) = some j := by
    unfold ixN
    rw [if_pos (by omega), if_pos (by omega)]; simp
  unfold atI; rw [e]; exact h
def PlainIx (b : Expr) : Prop := ∀ o i, subscripted b false o i = operate [o, i] (getItem o i)
def IxR (X : Cx) (r : R2) : Prop :=
  ∀ (value slice : Expr) (pins : List (Addr × Obj)) (s : Shared) (σ : St) (H : Hp) (x y : V) (v u : Value) (Q : VK), Inv X pins σ H s → RelV x v → RelV y u → r x y H Q →
    subscripted slice false v u = operate [v, u] (getItem v u) → wpAny (model X.prog X.w) X.A (subscriptTail value slice v u) (EP X pins σ Q) X.xe s
def MtR (X : Cx) (id : String) (r : V → List V → Hp → VK → Prop) : Prop :=
  ∀ (pins : List (Addr × Obj)) (s : Shared) (σ : St) (H : Hp) (x : V) (xs : List V) (v : Value) (us : List Value) (Q : VK), Inv X pins σ H s → RelV x v → Vals xs us → r x xs H Q →
    wpAny (model X.prog X.w) X.A (call (.builtin id) (v :: us)) (EP X pins σ Q) X.xe s
section
variable {X : Cx} {a b : Expr} {ta tb : TE} {pos : Pos}
theorem pe_ix {r : R2} (hr : IxR X r) (ha : PE X a ta) (hb : PE X b tb) (hs : PlainIx b) : PE X (.Subscript a b pos) (tOp r ta tb) := by
  intro pins s σ H Q I h
  exact Subscript_ (binT ha hb I h fun v u s2 x y H2 I2 rx ry q => hr a b pins s2 σ H2 x y v u Q I2 rx ry q (hs _ _))
def rIxL (K : PySem.W.Frag) : R2 := fun x y H Q => ∃ p xs i v, x = .ref p ∧ y = .int i ∧ SqL K H p xs ∧ atI xs i = some v ∧ Q v H
def rIxT (K : PySem.W.Frag) : R2 := fun x y H Q => ∃ p xs i v, x = .ref p ∧ y = .int i ∧ SqT K H p xs ∧ atI xs i = some v ∧ Q v H
theorem ix_list : IxR X (rIxL X.K) := by
  intro value slice pins s σ H x y v u Q I rx ry h hs
  obtain ⟨p, xs, i, z, rfl, rfl, hq, he, q⟩ := h
  cases rx
  obtain ⟨t, rfl⟩ := ry
  obtain ⟨its, r, pl, hz⟩ := I.list hq
  obtain ⟨j, h1, h2, h3, h4, h5⟩ := atI_get he
  obtain ⟨w, ew, rw'⟩ := r.get h2
  have hl := r.length
  have hn := line63
  have fin : EP X pins σ Q w s := ⟨z, H, I, rw', q⟩
  by_cases h0 : 0 ≤ i
  · have hj : i.toNat = j := by
      rw [seqIndex_of h0 h5] at h1
      exact Option.some.inj h1
    exact item_listR pl.isList h0 (by omega) (by rw [hj]; simpa using ew) fin hs
  · have hj : (i + (its.toArray.size : Int)).toNat = j := by
      rw [seqIndex_neg (by omega) h4] at h1
      rw [List.size_toArray, ← hl]
      exact Option.some.inj h1
    exact subscriptTail_builtinR (x := w) pl.isList.typeIs slot_list_getitem.lookup
      (wpAny_getItem_list_neg (Q := fun r s' => r = w ∧ EP X pins σ Q r s') pl.isList (by omega) (by rw [List.size_toArray] <;> omega) (by omega) (by rw [hj]; simpa using ew) ⟨rfl, fin⟩) hs
theorem ix_tup : IxR X (rIxT X.K) := by
  intro value slice pins s σ H x y v u Q I rx ry h hs
  obtain ⟨p, xs, i, z, rfl, rfl, hq, he, q⟩ := h
  cases rx
  obtain ⟨t, rfl⟩ := ry
  obtain ⟨its, r, pl, hz⟩ := I.tuple hq
  obtain ⟨j, h1, h2, h3, h4, h5⟩ := atI_get he
  obtain ⟨w, ew, rw'⟩ := r.get h2
  have hl := r.length
  have hn := line63
  have fin : EP X pins σ Q w s := ⟨z, H, I, rw', q⟩
  exact subscriptTail_builtinR (x := w) pl.typeIs slot_tuple_getitem.lookup
    (getItem_tuple (j := j) (Q := fun r s' => r = w ∧ EP X pins σ Q r s') pl (by omega) (by omega) (by rw [List.size_toArray, ← hl]; exact h1) (by simpa using ew) ⟨rfl, fin⟩) hs
theorem mapSeq_set (its : List Value) (n j : Nat) (u : Value) : Obj.mapSeq (·.setIfInBounds j u) { cls := .type "list", data := .seq its.toArray n } = { cls := .type "list", data := .seq (its.set j u).toArray n } := by
  simp [Obj.mapSeq]
theorem Inv.lst {pins : List (Addr × Obj)} {σ : St} {H : Hp} {s : Shared} {p : Addr} {xs : List V} (I : Inv X pins σ H s) (h : H p = some (.lst xs)) :
    ∃ (its : List Value) (n : Nat), Vals xs its ∧ s.heap.get? p = some { cls := .type "list", data := .seq its.toArray n } ∧ xs.length ≤ sizeLine := by
  obtain ⟨z, its, n, r, e⟩ := I.hok p _ h
  exact ⟨its, n, r, e, z⟩
theorem Inv.lstUpd {pins : List (Addr × Obj)} {σ : St} {H : Hp} {s : Shared} {p : Addr} {xs ys : List V} {its its' : List Value} {n n' : Nat} {f : Obj → Obj} (I : Inv X pins σ H s) (h : H p = some (.lst xs))
    (ho : s.heap.get? p = some { cls := .type "list", data := .seq its.toArray n }) (hf : f { cls := .type "list", data := .seq its.toArray n } = { cls := .type "list", data := .seq its'.toArray n' }) (r : Vals ys its') (hz : ys.length ≤ sizeLine) (t : Nat) :
    Inv X pins σ (upd H p (.lst ys)) { s with heap := s.heap.update p f, toks := t } := by
  have e : (s.heap.update p f).get? p = some { cls := .type "list", data := .seq its'.toArray n' } := by
    rw [Heap.get?_update_self f ho (by rw [hf] <;> rfl), hf]
  refine I.write (x := p) (e := p) (by rw [h]; trivial) (.inl rfl) (fun b u hb q => (Heap.get?_update_other _ _ (Ne.symm hb)).trans q) ⟨_, e⟩ ?_
  exact ⟨hz, its', n', r, e⟩
def rSetL : V → V → V → Hp → (Hp → Prop) → Prop := fun o i v H Q => ∃ p xs k j, o = .ref p ∧ i = .int k ∧ H p = some (.lst xs) ∧ ixN xs.length k = some j ∧ Q (upd H p (.lst (xs.set j v)))
theorem set_list : PSet X rSetL := by
  intro pins s σ H o i v ov iv u Q I ro ri rv h
  obtain ⟨p, xs, k, j, rfl, rfl, hp, hj, q⟩ := h
  cases ro
  obtain ⟨t, rfl⟩ := ri
  obtain ⟨its, n, r, ho, hz⟩ := I.lst hp
  obtain ⟨h1, h2, h3, h4⟩ := ixN_seq hj
  have hl := r.length
  have hn := line63
  have I' : Inv X pins σ (upd H p (.lst (xs.set j v))) { s with heap := s.heap.update p (Obj.mapSeq (·.setIfInBounds j u)) } :=
    I.lstUpd hp ho (mapSeq_set its n j u) (r.set rv j) (by rw [List.length_set]; exact hz) s.toks
  by_cases h0 : 0 ≤ k
  · have hk : k.toNat = j := by
      rw [seqIndex_of h0 h4] at h1
      exact Option.some.inj h1
    exact PySem.W.ki_setAt ho h0 (by omega) (by rw [List.size_toArray, ← hl]; exact h4) (by rw [hk]; exact ⟨_, I', q⟩)
  · have hk : (k + (its.toArray.size : Int)).toNat = j := by
      rw [seqIndex_neg (by omega) h3] at h1
      rw [List.size_toArray, ← hl]
      exact Option.some.inj h1
    exact PySem.W.ki_setBack ho (by omega) (by rw [List.size_toArray, ← hl]; exact h3) (by omega) (by rw [hk]; exact ⟨_, I', q⟩)
def flatV : V → Bool
  | .non => true
  | .bl _ => true
  | .int _ => true
  | .str _ => true
  | _ => false
def eqV : V → V → Bool
  | .non, .non => true
  | .bl a, .bl b => a == b
  | .bl a, .int b => (if a then 1 else 0) == b
  | .int a, .bl b => a == (if b then 1 else 0)
  | .int a, .int b => a == b
  | .str a, .str b => a == b
  | _, _ => false
theorem eqAt_V {A : Around} {s : Shared} {y x : V} {u v : Value} (ry : RelV y u) (rx : RelV x v) (fy : flatV y = true) (fx : flatV x = true) : SeqAt.EqAt A s u v (eqV y x) := by
  cases y with
  | non =>
    cases ry
    cases x with
    | non => cases rx; exact SeqAt.EqAt.same _
    | bl b => cases rx; exact SeqAt.EqAt.none_bool b
    | int b => obtain ⟨t, rfl⟩ := rx; exact SeqAt.EqAt.none_int b t
    | str b => obtain ⟨t, rfl⟩ := rx; exact SeqAt.EqAt.none_str b t
    | _ => exact absurd (show false = true from fx) Bool.false_ne_true
  | bl a =>
    cases ry
    cases x with
    | non => cases rx; exact SeqAt.EqAt.bool_none a
    | bl b => cases rx; exact SeqAt.EqAt.bool_bool a b
    | int b => obtain ⟨t, rfl⟩ := rx; exact SeqAt.EqAt.bool_int a b t
    | str b => obtain ⟨t, rfl⟩ := rx; exact SeqAt.EqAt.bool_str a b t
    | _ => exact absurd (show false = true from fx) Bool.false_ne_true
  | int a =>
    obtain ⟨t', rfl⟩ := ry
    cases x with
    | non => cases rx; exact SeqAt.EqAt.int_none a t'
    | bl b => cases rx; exact SeqAt.EqAt.int_bool a t' b
    | int b => obtain ⟨t, rfl⟩ := rx; exact SeqAt.EqAt.int_int a t' b t
    | str b => obtain ⟨t, rfl⟩ := rx; exact SeqAt.EqAt.int_str a t' b t
    | _ => exact absurd (show false = true from fx) Bool.false_ne_true
  | str a =>
    obtain ⟨t', rfl⟩ := ry
    cases x with
    | non => cases rx; exact SeqAt.EqAt.str_none a t'
    | bl b => cases rx; exact SeqAt.EqAt.str_bool a t' b
    | int b => obtain ⟨t, rfl⟩ := rx; exact SeqAt.EqAt.str_int a t' b t
    | str b => obtain ⟨t, rfl⟩ := rx; exact SeqAt.EqAt.str_str a t' b t
    | _ => exact absurd (show false = true from fx) Bool.false_ne_true
  | _ => exact absurd (show false = true from fy) Bool.false_ne_true
def eqU (x : V) (u : Value) : Bool := match u with
  | .none => eqV .non x
  | .bool b => eqV (.bl b) x
  | .int i _ => eqV (.int i) x
  | .str z _ => eqV (.str z) x
  | _ => false
theorem eqU_of {x y : V} {u : Value} (r : RelV y u) (f : flatV y = true) : eqU x u = eqV y x := by
  cases y with
  | non => cases r; rfl
  | bl b => cases r; rfl
  | int i => obtain ⟨t, rfl⟩ := r; rfl
  | str z => obtain ⟨t, rfl⟩ := r; rfl
  | _ => exact absurd (show false = true from f) Bool.false_ne_true
theorem mem_eqAt {A : Around} {s : Shared} {x : V} {v : Value} (rx : RelV x v) (fx : flatV x = true) : ∀ {xs : List V} {us : List Value}, Vals xs us → xs.all flatV = true → ∀ u ∈ us, SeqAt.EqAt A s u v (eqU x u)
  | _, _, .nil, _ => fun u hu => by cases hu
  | y :: xs, u :: us, .cons r t, f => fun u' hu => by
    rw [List.all_cons, Bool.and_eq_true] at f
    rcases List.mem_cons.mp hu with rfl | hu
    · rw [eqU_of r f.1]; exact eqAt_V r rx f.1 fx
    · exact mem_eqAt rx fx t f.2 u' hu
theorem call_len_seq : CallR X (.builtin "len") (fun xs H Q => ∃ p ys, xs = [.ref p] ∧ (SqL X.K H p ys ∨ SqT X.K H p ys) ∧ Q (.int ys.length) H) := by
  intro pins s σ H xs us Q I r h
  obtain ⟨p, ys, rfl, hq, q⟩ := h
  obtain ⟨u, rfl, rx⟩ := vals1 r
  cases rx
  have hn := line63
  rcases hq with hq | hq
  · obtain ⟨its, r', pl, hz⟩ := I.list hq
    have hlen := r'.length
    exact Calls.call_len_list pl.isList (by simp only [List.size_toArray] <;> omega) ⟨.int ys.length, H, I.tok _, ⟨s.toks + 1, by rw [List.size_toArray, hlen]⟩, q⟩
  · obtain ⟨its, r', pl, hz⟩ := I.tuple hq
    have hlen := r'.length
    exact len_tuple pl (by simp only [List.size_toArray] <;> omega) ⟨.int ys.length, H, I.tok _, ⟨s.toks + 1, by rw [List.size_toArray, hlen]⟩, q⟩
theorem call_list_of : CallR X (.type "list") (fun xs H Q => ∃ p ys, xs = [.ref p] ∧ (SqL X.K H p ys ∨ SqT X.K H p ys) ∧ ∀ l, H l = none → Q (.ref l) (upd H l (.lst ys))) := by
  intro pins s σ H xs us Q I r h
  obtain ⟨p, ys, rfl, hq, q⟩ := h
  obtain ⟨u, rfl, rx⟩ := vals1 r
  cases rx
  have fin : ∀ (its : List Value), Vals ys its → ys.length ≤ sizeLine → ∀ (h' : Heap) (c' : Nat), (∀ b o', s.heap.get? b = some o' → h'.get? b = some o') →
      h'.get? s.heap.objs.size = some { cls := .type "list", dict := none, data := .seq its.toArray c', slots := #[] } → EP X pins σ Q (.ref s.heap.objs.size) { s with heap := h' } := fun its r' hz h' c' kp e =>
    ⟨.ref s.heap.objs.size, _, I.laid (t' := s.toks) kp (Nat.le_refl _) (show ObjOk X.prog X.w _ h' _ (.lst ys) from ⟨hz, its, c', r', e⟩), rfl, q _ (I.hok.fresh (Nat.le_refl _))⟩
  rcases hq with hq | hq
  · obtain ⟨its, r', pl, hz⟩ := I.list hq
    have hlen := r'.length
    obtain ⟨o, ho, hc, n, hd⟩ := pl.isList
    exact call_list_seq p (.inl rfl) ho hc hd (fun h' c' kp e => fin its r' hz h' c' kp e) (by simp only [List.size_toArray] <;> omega)
  · obtain ⟨its, r', pl, hz⟩ := I.tuple hq
    have hlen := r'.length
    obtain ⟨o, ho, hc, n, hd⟩ := pl
    exact call_list_seq p (.inr rfl) ho hc hd (fun h' c' kp e => fin its r' hz h' c' kp e) (by simp only [List.size_toArray] <;> omega)
def tyV (K : PySem.W.Frag) (T : String) (x : V) (H : Hp) : Prop := match x with
  | .str _ => T = "str"
  | .int _ => T = "int"
  | .ref p => (T = "list" ∧ ∃ xs, SqL K H p xs) ∨ (T = "tuple" ∧ ∃ o, K.lookup p = some o ∧ o.cls = .type "tuple" ∧ o.dict = none) ∨
      (T = "dict" ∧ ((∃ kvs, H p = some (.dK kvs)) ∨ ∃ kvs, H p = some (.dT kvs))) ∨ (T = "set" ∧ ∃ S n, H p = some (.set S n))
  | _ => False
theorem tyV_is {pins : List (Addr × Obj)} {σ : St} {H : Hp} {s : Shared} {T : String} {x : V} {v : Value} (I : Inv X pins σ H s) (r : RelV x v) (ty : tyV X.K T x H) :
    s.TypeIs v T ∧ ∀ a, v = .ref a → ∃ ob, s.heap.get? a = some ob ∧ ob.dict = none := by
  cases x with
  | str z =>
    obtain ⟨t, rfl⟩ := r
    cases (show T = "str" from ty)
    exact ⟨typeIs_str s z t, fun _ e => nomatch e⟩
  | int i =>
    obtain ⟨t, rfl⟩ := r
    cases (show T = "int" from ty)
    exact ⟨typeIs_int s i t, fun _ e => nomatch e⟩
  | ref p =>
    cases r
    rcases ty with ⟨rfl, xs, hq⟩ | ⟨rfl, o, hk, hc, hd⟩ | ⟨rfl, hk⟩ | ⟨rfl, S, n, hk⟩
    · obtain ⟨its, _, pl, _⟩ := I.list hq
      refine ⟨pl.isList.typeIs, fun a e => ?_⟩
      cases e
      obtain ⟨o, n, e, c, hd, _⟩ := pl
      exact ⟨o, e, hd⟩
    · refine ⟨⟨o, I.kIn p o hk, hc⟩, fun a e => ?_⟩
      cases e
      exact ⟨o, I.kIn _ o hk, hd⟩
    · have z : ∃ o, s.heap.get? p = some o ∧ o.ExactDict := by
        rcases hk with ⟨kvs, hk⟩ | ⟨kvs, hk⟩
        · obtain ⟨_, _, _, _, o, _, _, e, ex, _⟩ := I.hok p _ hk
          exact ⟨o, e, ex⟩
        · obtain ⟨_, _, _, _, o, _, _, e, ex, _⟩ := I.hok p _ hk
          exact ⟨o, e, ex⟩
      obtain ⟨o, e, ex⟩ := z
      refine ⟨⟨o, e, ex.1⟩, fun a e2 => ?_⟩
      cases e2
      exact ⟨o, e, ex.2.1⟩
    · obtain ⟨o, _, _, _, e, ex, _⟩ := I.hok p _ hk
      refine ⟨⟨o, e, ex.1⟩, fun a e2 => ?_⟩
      cases e2
      exact ⟨o, e, ex.2.1⟩
  | _ => exact False.elim ty
def tBM (K : PySem.W.Frag) (T : String) (r : V → List V → Hp → VK → Prop) (to : TE) (t : TA) : TE := fun σ H Q => to σ H fun x H1 => tyV K T x H1 ∧ t σ H1 fun xs H2 => r x xs H2 Q
variable {o e : Expr} {es : List Expr} {to : TE} {t : TA} {name : Str} {apos cpos : Pos} {T id : String} {r : V → List V → Hp → VK → Prop}
theorem pe_bm (pa : PlainAttrs T) (slot : Slot T name id) (hty : typeOf (.builtin id) = pure (.type "method_descriptor")) (hm : MtR X id r) (ho : PE X o to) (ha : PA X (e :: es) t)
    (hbase : attributeBase o name X.env (eval o X.env) = eval o X.env := by rfl)
    (hfew : ((backTo cpos (starEach (e :: es) X.env)).all (fun x => !x.1) && (backToKw cpos (keywordEach [] X.env)).all (fun x => x.1.isSome)
      && decide ((e :: es).length + ([] : List Keyword).length + (if ([] : List Keyword).isEmpty then 0 else 1) < 30)) = true := by rfl)
    (hline : (apos.endLine == cpos.line) = true := by rfl) (hs : starEach (e :: es) X.env = (false, eval e X.env) :: starEach es X.env := by rfl) (hplain : (backTo cpos (starEach es X.env)).any (·.1) = false := by rfl) :
    PE X (.Call (.Attribute o name apos) (e :: es) [] cpos) (tBM X.K T r to t) := by
  intro pins s σ H Q I h
  refine wpAny_Call_method_late hbase hfew hline rfl (thn (ho pins s σ H _ I h) fun v s1 ⟨x, H1, I1, r1, ty, q1⟩ => ?_)
  obtain ⟨h1, h2⟩ := tyV_is I1 r1 ty
  refine ⟨T, id, pa, slot, hty, h1, h2, ?_⟩
  have hA := ha cpos pins s1 σ H1 _ I1 q1
  rw [hs] at hA ⊢
  refine Calls.callWith_builtin (by show (false || (backTo cpos (starEach es X.env)).any (·.1)) = false; rw [hplain] <;> rfl) (Calls.evalArgs_plain ?_)
  exact thn hA fun us s2 ⟨vs, H2, I2, r2, q2⟩ => hm pins s2 σ H2 x vs v us Q I2 r1 r2 q2
/- xs.append(e), list.index on a module's tuple .. are MtR facts of 06m -/
end
end L2
namespace L2
open PySem PySem.Spec PyProof.Rows
def MtM (X : Cx) (id : String) (r : V → List V → Hp → VK → Prop) : Prop :=
  ∀ (pins : List (Addr × Obj)) (s : Shared) (σ : St) (H : Hp) (x : V) (xs : List V) (v : Value) (us : List Value) (Q : VK), Inv X pins σ H s → RelV x v → Vals xs us → r x xs H Q →
    wpAny (model X.prog X.w) X.A (call (.builtin id) (v :: us)) (EP X pins σ Q) X.xe s
theorem Vals.one : ∀ {x : V} {us : List Value}, Vals [x] us → ∃ u, us = [u] ∧ RelV x u
  | _, _, .cons r .nil => ⟨_, rfl, r⟩
theorem Vals.reverse {xs : List V} {us : List Value} (h : Vals xs us) : Vals xs.reverse us.reverse := by
  induction h with
  | nil => exact .nil
  | cons r t ih => rw [List.reverse_cons, List.reverse_cons]; exact Vals.append ih (.cons r .nil)
theorem Vals.rep {xs : List V} {us : List Value} (h : Vals xs us) : ∀ k : Nat, Vals (List.replicate k xs).flatten (List.replicate k us).flatten
  | 0 => .nil
  | k + 1 => by
    rw [List.replicate_succ, List.replicate_succ, List.flatten_cons, List.flatten_cons]
    exact Vals.append h (Vals.rep h k)
theorem foldl_rep (its : List Value) : ∀ (k : Nat) (acc : List Value),
    List.foldl (fun x1 x2 => x1 ++ x2) acc.toArray (List.replicate k its.toArray) = (acc ++ (List.replicate k its).flatten).toArray
  | 0, acc => by simp
  | k + 1, acc => by
    have e : acc.toArray ++ its.toArray = (acc ++ its).toArray := by simp
    have e2 : (acc ++ its) ++ (List.replicate k its).flatten = acc ++ (List.replicate (k + 1) its).flatten := by
      rw [List.replicate_succ, List.flatten_cons, List.append_assoc]
    rw [← e2, ← foldl_rep its k (acc ++ its), ← e, List.replicate_succ, List.foldl_cons]
section
variable {X : Cx} {pins : List (Addr × Obj)} {σ : St} {H : Hp} {s : Shared} {l b : Addr} {xs ys zs : List V}
theorem Inv.lset {its its' : List Value} {n : Nat} {f : Array Value → Array Value} {t' : Nat} (I : Inv X pins σ H s) (hH : H l = some (.lst xs))
    (e : s.heap.get? l = some { cls := .type "list", data := .seq its.toArray n }) (hf : f its.toArray = its'.toArray) (hv : Vals ys its') (hz : ys.length ≤ sizeLine) :
    Inv X pins σ (upd H l (.lst ys)) { s with heap := s.heap.update l (Obj.mapSeq f), toks := t' } := by
  have q := PySem.IsL.update e f
  rw [hf] at q
  refine I.write (x := l) (e := l) (by rw [hH]; exact trivial) (.inl rfl) (fun b' u hb hu => (Heap.get?_update_other s.heap (Obj.mapSeq f) (Ne.symm hb)).trans hu) ⟨_, q⟩ ?_
  exact ⟨hz, its', _, hv, q⟩
theorem Inv.lnew {its : List Value} {t' : Nat} (I : Inv X pins σ H s) (hv : Vals ys its) (hz : ys.length ≤ sizeLine) :
    Inv X pins σ (upd H s.heap.objs.size (.lst ys)) { s with heap := s.heap.push { cls := .type "list", data := .seq its.toArray }, toks := t' } :=
  I.laid (fun _ _ q => Heap.get?_push_of_some _ q) (Nat.le_refl _) ⟨hz, its, 0, hv, Heap.get?_push_size _ rfl⟩
theorem Inv.fresh (I : Inv X pins σ H s) : H s.heap.objs.size = none := I.hok.fresh (Nat.le_refl _)
theorem Inv.lstM (I : Inv X pins σ H s) (hH : H l = some (.lst xs)) : xs.length ≤ sizeLine ∧ ∃ (its : List Value) (n : Nat), Vals xs its ∧ xs.length = its.length ∧ s.heap.get? l = some { cls := .type "list", data := .seq its.toArray n } := by
  obtain ⟨z, its, n, r, e⟩ := I.hok l _ hH
  exact ⟨z, its, n, r, r.length, e⟩
theorem notLongL {n : Nat} (h : n ≤ sizeLine) : Builtin.List.listTooLong n = false := by
  unfold Builtin.List.listTooLong
  exact decide_eq_false (by omega)
end
section
variable {X : Cx}
def rAppend : V → List V → Hp → VK → Prop := fun x vs H Q => ∃ l xs y, x = .ref l ∧ vs = [y] ∧ H l = some (.lst xs) ∧ xs.length < sizeLine ∧ Q .non (upd H l (.lst (xs ++ [y])))
theorem mt_append : MtM X "list.append" rAppend := by
  intro pins s σ H x vs v us Q I rx rv h
  obtain ⟨l, xs, y, rfl, rfl, hH, hz, q⟩ := h
  cases rx
  obtain ⟨u, rfl, ru⟩ := rv.one
  obtain ⟨z, its, n, r, hl, e⟩ := I.lstM hH
  refine call_meets F.slot_list_append ⟨_, e, rfl⟩ F.entry_list_append (F.args_list_append_2 _ _) (PySem.list_append l its.toArray n u (by rw [List.size_toArray]; omega)) ⟨e, ?_⟩
  refine ⟨.non, _, I.lset (its' := its ++ [u]) hH e (by simp) (r.append (.cons ru .nil)) ?_, rfl, q⟩
  rw [List.length_append, List.length_singleton]
  omega
def rRep : R2 := fun x y H Q => ∃ l k xs, x = .ref l ∧ y = .int k ∧ H l = some (.lst xs) ∧ -(2 ^ 63) ≤ k ∧ k < 2 ^ 63 ∧ xs.length * k.toNat ≤ sizeLine ∧
  ∀ p, H p = none → Q (.ref p) (upd H p (.lst (List.replicate k.toNat xs).flatten))
theorem len_rep {α : Type} (xs : List α) (k : Nat) : (List.replicate k xs).flatten.length = k * xs.length := by
  induction k with
  | zero => simp
  | succ k ih => rw [List.replicate_succ, List.flatten_cons, List.length_append, ih, Nat.succ_mul, Nat.add_comm]
theorem op_rep : OpR X (binaryOp .Mult) rRep := by
  intro pins s σ H x y v u Q I rx ry h
  obtain ⟨l, k, xs, rfl, rfl, hH, h1, h2, hz, q⟩ := h
  cases rx
  obtain ⟨t, rfl⟩ := ry
  obtain ⟨z, its, n, r, hl, e⟩ := I.lstM hH
  have hlen : its.toArray.size * k.toNat ≤ sizeLine := by rw [List.size_toArray, ← hl]; exact hz
  have hcap : ¬ its.toArray.size * k.toNat > (2 ^ 63 - 1) / 8 := by
    have : (sizeLine : Nat) ≤ (2 ^ 63 - 1) / 8 := by decide
    omega
  have hfit : ¬ (!Builtin.List.listFitsIndex k) = true := by
    rw [fitsIndex_both h1 h2]
    exact Bool.false_ne_true
  have hlong : ¬ Builtin.List.listTooLong (its.toArray.size * k.toNat) = true := by
    rw [notLongL hlen]
    exact Bool.false_ne_true
  have hnew : List.foldl (fun x1 x2 => x1 ++ x2) #[] (List.replicate (if its.toArray.isEmpty = true then 0 else k.toNat) its.toArray) = (List.replicate k.toNat its).flatten.toArray := by
    have f0 : ∀ m : Nat, List.foldl (fun x1 x2 => x1 ++ x2) #[] (List.replicate m its.toArray) = (List.replicate m its).flatten.toArray := fun m => by
      have := foldl_rep its m []
      rw [List.nil_append] at this
      exact this
    rw [f0]
    cases its with
    | nil => simp
    | cons a r' => rw [if_neg (by simp)]
  refine wpAny_binaryOp_repeat_ref (T := "list") (U := "int") (by decide) ⟨_, e, rfl⟩ (fun s' => typeIs_int s' k t) noFill_list_mul F.fills_int_mul F.slot_int_rmul repeat_list F.slot_int_index.lookup
    (call_meets F.slot_int_rmul (typeIs_int s k t) F.entry_int_rmul (F.args_int_rmul_2 _ _) (int___rmul___int_list k t l its.toArray n)
      ⟨e, rfl, ⟨_, e, rfl⟩, call_meets F.slot_list_mul ⟨_, e, rfl⟩ F.entry_list_mul (F.args_list_mul_2 _ _) (AutoListH.list___mul___list_int_3 l its.toArray n k t hfit hcap hlong) ⟨e, ?_⟩⟩)
  rw [hnew]
  exact ⟨.ref _, _, I.lnew (t' := s.toks) (r.rep k.toNat) (by rw [len_rep, Nat.mul_comm]; exact hz), rfl, q _ I.fresh⟩
end
section
variable {prog : Program} {w : World} {A : Around} {E : Value → Shared → Prop} {s : Shared}
set_option maxRecDepth 100000 in
end
section
variable {X : Cx}
end
end L2
namespace Att
open PySem PySem.W PySem.Calls PyProof.Rows
theorem ints_of_wellAll {P : Params} {h : Heap} : ∀ (ns : List Int) (vs : List Value), WellAll P h vs (ns.map WData.int) → IntsAre vs ns := by
  intro ns
  induction ns with
  | nil =>
    intro vs w
    rw [List.map_nil] at w
    cases w
    exact .nil
  | cons n ns ih =>
    intro vs w
    rw [List.map_cons] at w
    cases w with
    | cons a b =>
      cases a
      exact .cons _ _ (ih _ b)
theorem script_of {l : OpenLaw} {n : Nat} (hn : l.most = some n) {P : Params} {h : Heap} {args : List WData} {vals : List Value}
    (hpre : l.row.toRowW.claim.pre args = true) (hwl : WellAll P h vals args) :
    ∃ a vs ns, vals = [Value.ref a] ∧ args = [WData.list (ns.map WData.int)] ∧ h.get? a = some { cls := .type "list", data := .seq vs.toArray } ∧ IntsAre vs ns ∧ ns.length ≤ n := by
  have hsh : WShape.hasAll [] args [.list .int] = true := (pre_splitW hpre).1
  have hc : l.pre.holds [] { args := args } = true := (pre_splitW hpre).2
  obtain ⟨d, r, rfl, h1, h2⟩ := hasAllW_cons hsh
  obtain rfl := hasAllW_nil h2
  obtain ⟨xs, rfl, h3⟩ := hasW_list h1
  obtain ⟨ns, rfl⟩ := items_int h3
  have hlen : ns.length ≤ n := by
    unfold OpenLaw.pre at hc
    have h4 : (WTm.not (.lt (.lit (.int (n : Int))) (.len (.arg 0)))).holds [] { args := [.list (ns.map .int)] } = true := by
      have h4 := (holds_andW hc).1
      rw [hn] at h4
      exact h4
    have h5 := condW_of h4 (w_not (w_lt w_lit (w_len_list (w_arg rfl))))
    rw [List.length_map] at h5
    refine Nat.le_of_not_lt fun q => ?_
    have q' : (n : Int) < ((ns.length : Nat) : Int) := by omega
    first
      | (rw [decide_eq_true q'] at h5; exact absurd h5 (by decide))
      | (simp at h5; omega)
  cases hwl with
  | cons w1 w2 =>
    cases w2
    cases w1 with
    | list ho hall => exact ⟨_, _, ns, rfl, rfl, ho, ints_of_wellAll ns _ hall, hlen⟩
theorem post_true (l : OpenLaw) (args : List WData) : l.row.toRowW.claim.post args (.bool true) args = true :=
  postW_of (r := l.row.toRowW) (X := (true == true))
    (show WShape.has [] (.bool true) .bool = true by first | rfl | decide | simp [WShape.has, WShape.arms, WShape.armsAll])
    (show (WTm.eq .res (.lit (.bool true))).value [] { args := args, res := some (.bool true), after := args } = some (.bool (true == true)) from w_eq_bool (w_res rfl) w_lit) rfl
theorem attach_call {l : OpenLaw} {n : Nat} {q : Program} {loose : List Str} {XP : (Str → Option Value) → Heap → Prop} {YP : World → Heap → Prop} {d : DefRec}
    (hn : l.most = some n) (hdf : d.params.defaults = [])
    (call : ∀ (w : World) (s₀ s₁ : Shared) (mg mb : Str → Option Value) (fa : Addr) (o : Obj) (pm cd doc : Value) (a : Addr) (vs : List Value) (ns : List Int),
      Ground q loose [] XP w s₀ mg mb s₁.heap → YP w s₁.heap →
      s₁.heap.get? fa = some o → o.data = .func (docDef d.name d.params d.body d.scope pm cd doc) → s₁.heap.CodeRec cd d.name → mg d.name = some (.ref fa) →
      s₁.heap.get? a = some { cls := .type "list", data := .seq vs.toArray } → IntsAre vs ns → ns.length ≤ n → s₁.gens = #[] →
      codeAny (model l.prog w) callerA (.call (.ref fa) ⟨[.ref a], []⟩) (fun r s' => r = .ok (.ret (.bool true)) ∧ OldK s₁.heap s'.heap ∧ s'.os = s₁.os ∧ AllBare s'.gens) s₁) :
    WalkO q loose XP YP l.row.toRowW d [] (fun f vs => PySem.call f vs) := by
  intro w s₀ s₁ mg mb G Y fa o pm cd doc dV kV ho hd hcd hD hmg hg args vals as hpre hlay hrd hwl hlo
  obtain rfl : dV = .none := Dflts.none hD hdf
  obtain rfl : kV = .none := Dflts.noKw hD
  obtain ⟨a, vs, ns, rfl, rfl, hobj, hints, hlen⟩ := script_of hn hpre hwl
  refine enter_call (codeAny_mono (call w s₀ s₁ mg mb fa o pm cd doc a vs ns G Y ho (fd_plain hd) hcd hmg hobj hints hlen hg) fun r s' hq => ?_)
  obtain ⟨rfl, h2, h3, h4⟩ := hq
  exact ⟨.inl ⟨.bool true, .bool true, [], rfl, fun _ => rfl, .bool true, post_true l _, fun _ => ⟨List.Pairwise.nil, fun _ hm => (nomatch hm)⟩⟩, h2, h3, h4⟩
section
variable {prog : Program} {w : World} {A : Around} {E : Value → Shared → Prop} {s : Shared} {K : Frag}
end
end Att
namespace L2
open PySem PySem.Spec PyProof.Rows
theorem vals_ints : ∀ {vs : List Value} {ns : List Int}, IntsAre vs ns → Vals (ns.map V.int) vs
  | _, _, .nil => .nil
  | _, _, .cons n t h => .cons ⟨t, rfl⟩ (vals_ints h)
def Only (H : Hp) : Prop := ∀ b, H b = none ∨ ∃ o xs, H b = some (.frz o (.lst xs))
theorem law_call {P : Program} {w : World} {K : PySem.W.Frag} {mg mb : Str → Option Value} {CX : CXT} {k : Nat} {fa a : Addr} {fd : FuncData} {x : Str} {sp : Sp} {s₁ : Shared} {vs : List Value} {ns : List Int}
    (KX : K.In s₁.heap) (hns : s₁.heap.Ns mainGlobals mg) (hb : s₁.heap.Ns builtinsNs mb) (hbb : ∀ x : Str, x ≠ "__name__" → mb x = bootBuiltins x) (hlim : s₁.heap.NoLimit) (hg : s₁.gens = #[])
    (ha : s₁.heap.get? a = some { cls := .type "list", data := .seq vs.toArray }) (hi : IntsAre vs ns) (hl : ns.length ≤ sizeLine) (hr : Room k callerA)
    (F : ∀ base : Heap, K.In base → base.Ns mainGlobals mg → FnOk P w K mg base CX k fa fd [x] sp) (hbind : ∀ (s : Shared) (u : Value), BindsTo s fd ⟨[u], []⟩ [(x, u)])
    (hsp : ∀ H : Hp, Only H → SqL K H a (ns.map V.int) → sp [.ref a] H (fun v _ => v = .bl true) fun _ _ _ => False)
    (hCX : ∀ H e s', CX [] H s₁ (fun _ _ _ => False) e s' → False) :
    codeAny (model P w) callerA (.call (.ref fa) ⟨[.ref a], []⟩) (fun r s' => r = .ok (.ret (.bool true)) ∧ OldK s₁.heap s'.heap ∧ s'.os = s₁.os ∧ AllBare s'.gens) s₁ := by
  have rv := vals_ints hi
  have lenV := hi.length
  have core : ∀ H : Hp, Only H → SqL K H a (ns.map V.int) → HOk P w H s₁.heap → (∀ b, H b ≠ none → b = a) → (H a ≠ none → K.lookup a = none) →
      codeAny (model P w) callerA (.call (.ref fa) ⟨[.ref a], []⟩) (fun r s' => r = .ok (.ret (.bool true)) ∧ OldK s₁.heap s'.heap ∧ s'.os = s₁.os ∧ AllBare s'.gens) s₁ := by
    intro H hO hS hok hA hK
    have base_of : ∀ {b : Addr} {o : Obj}, s₁.heap.get? b = some o → H b = none → (hidT s₁.heap H).get? b = some o := fun e n => hidT_get e n
    have noA : ∀ {b : Addr} {o : Obj} {es : Array DictEntry} {ep : Nat}, s₁.heap.get? b = some o → o.data = .dict es ep → H b = none := fun {b o es ep} e d => by
      cases q : H b with
      | none => rfl
      | some u =>
        have e' : b = a := hA b (by rw [q]; simp)
        subst e'
        rw [ha] at e; cases e
        have d' : Data.seq vs.toArray _ = Data.dict es ep := d
        cases d'
    have nsK : ∀ {b : Addr} {m : Str → Option Value}, s₁.heap.Ns b m → (hidT s₁.heap H).Ns b m := fun {b m} ⟨o, es, ep, e, d, r⟩ => ⟨o, es, ep, base_of e (noA e d), d, r⟩
    have hKb : K.In (hidT s₁.heap H) := fun b o e => base_of (KX b o e) (by
      cases q : H b with
      | none => rfl
      | some u =>
        have e' : b = a := hA b (by rw [q]; simp)
        subst e'
        rw [hK (by rw [q]; simp)] at e; cases e)
    have hM : Mod K mg (hidT s₁.heap H) := ⟨hKb, nsK hns, ⟨mb, nsK hb, hbb⟩, let ⟨mc, h1, h2⟩ := hlim; ⟨mc, nsK h1, h2⟩⟩
    have e0 : Env0 P w K mg (hidT s₁.heap H) callerA [] s₁ H := ⟨rfl, hM, fun b o e => of_hidT e, Nat.le_of_eq (hidT_size _ _), trivial, fun b hb => absurd (show b ∈ ([] : List Addr) from hb) (by simp), hok, .of_eq hg⟩
    refine codeAny_mono ((F _ hKb (nsK hns)).run callerA [] s₁ H ⟨[.ref a], []⟩ [.ref a] [.ref a] _ _ hr e0 (hbind s₁ (.ref a)) (.cons rfl .nil) (hsp H hO hS)) fun r s' h => ?_
    cases r with
    | error e => exact (hCX H e s' h).elim
    | ok fl =>
      cases fl with
      | next => exact False.elim h
      | brk => exact False.elim h
      | cont => exact False.elim h
      | ret u =>
        obtain ⟨v, H', os, bare, un, hok', r', q⟩ := h
        have q' : v = .bl true := q
        subst q'
        obtain rfl : u = Value.bool true := r'
        refine ⟨rfl, OldK.of_keep fun b o e => ?_, os, bare⟩
        cases q : H b with
        | none => exact un.keep b o e q (by intro z; exact absurd (show b ∈ ([] : List Addr) from z) (by simp)) (by simp)
        | some u =>
          rcases hO b with z | ⟨ob, xs, z⟩
          · rw [q] at z; cases z
          · have z2 := un.frzs b ob _ z
            obtain ⟨e1, _⟩ := hok b _ z
            obtain ⟨e2, _⟩ := hok' b _ z2
            rw [e] at e1; cases e1
            exact e2
  cases hk : K.lookup a with
  | some o =>
    have e := KX a o hk
    rw [ha] at e
    cases e
    refine core (fun _ => none) (fun _ => .inl rfl) (.inr ⟨_, vs.toArray, _, hk, rfl, rfl, rfl, by rw [List.size_toArray, lenV]; exact hl, by simpa using rv⟩) (fun b u z => by have z' : (none : Option HO) = some u := z; cases z') (fun b z => absurd rfl z) fun z => absurd rfl z
  | none =>
    refine core (fun b => if b = a then some (.frz { cls := .type "list", data := .seq vs.toArray } (.lst (ns.map V.int))) else none) (fun b => ?_) (.inl (.inr ⟨{ cls := .type "list", data := .seq vs.toArray }, if_pos rfl⟩)) (fun b u z => ?_) (fun b z => ?_) fun _ => hk
    · by_cases hb : b = a
      · exact .inr ⟨_, _, if_pos hb⟩
      · exact .inl (if_neg hb)
    · by_cases hb : b = a
      · have z' := (if_pos hb).symm.trans z
        cases z'
        subst hb
        exact ⟨ha, by rw [List.length_map]; exact hl, vs, _, rv, ha⟩
      · have z' := (if_neg hb).symm.trans z
        cases z'
    · by_cases hb : b = a
      · exact hb
      · exact absurd (if_neg hb) z
end L2
namespace L2
open PySem PySem.Spec PyProof.Rows
abbrev KOf {K : PySem.W.Frag} {h : Heap} (_ : K.In h) : PySem.W.Frag := K
theorem walk_of {l : PySem.W.OpenLaw} {n k : Nat} {q : Program} {loose : List Str} {XP : (Str → Option Value) → Heap → Prop} {YP : World → Heap → Prop} {d : DefRec} {K : Params → PySem.W.Frag} {CX : World → CXT} {sp : World → Sp} {x : Str}
    (hn : l.most = some n) (hn2 : n ≤ sizeLine) (hdf : d.params.defaults = []) (hr : Room k callerA)
    (hY : ∀ (w : World) (h : Heap), YP w h → (K w.params).In h)
    (F : ∀ (w : World) (mg : Str → Option Value) (fa : Addr) (h : Heap), (K w.params).In h → h.Ns mainGlobals mg → mg d.name = some (.ref fa) →
      ∃ fd : FuncData, (∀ (s : Shared) (u : Value), BindsTo s fd ⟨[u], []⟩ [(x, u)]) ∧
        ∀ base : Heap, (K w.params).In base → base.Ns mainGlobals mg → FnOk l.prog w (K w.params) mg base (CX w) k fa fd [x] (sp w))
    (hsp : ∀ (w : World) (H : Hp) (a : Addr) (ns : List Int), ns.length ≤ n → Only H → SqL (K w.params) H a (ns.map V.int) → sp w [.ref a] H (fun v _ => v = .bl true) fun _ _ _ => False)
    (hCX : ∀ (w : World) (H : Hp) (s : Shared) (e : Value) (s' : Shared), CX w [] H s (fun _ _ _ => False) e s' → False) :
    PySem.W.WalkO q loose XP YP l.row.toRowW d [] (fun f vs => PySem.call f vs) := by
  refine Att.attach_call hn hdf fun w s₀ s₁ mg mb fa o pm cd doc a vs ns G Y ho hd hcd hmg hobj hints hlen hg => ?_
  have KX := hY w _ Y
  obtain ⟨fd, hb, hF⟩ := F w mg fa _ KX G.T.g hmg
  exact law_call KX G.T.g G.T.b G.T.builtins G.T.nolimit hg hobj hints (Nat.le_trans hlen hn2) hr hF hb (fun H hO hS => hsp w H a ns hlen hO hS) fun H e s' => hCX w H s₁ e s'
end L2
/- THE LAST THEOREM (shape; LID, My.* are yours):
   My.Adr: a structure of the addresses that your layer names (classes, functions); My.Txt K t: a structure (Prop) of the equations over K;
   My.txt_mk : {K} {implicit addresses ..} (e1 : nsIn K mainGlobals "law" = some (some (.ref f))) (e2 : K.lookup f = some ⟨oc, od, .func (fnOf "law" "law" params body scope dV kV doc pm an cdv ct), sl⟩) (e3 : codeIn K cdv "law" = true) .. : ∃ t, My.Txt K t
set_option maxRecDepth 100000 in
set_option maxHeartbeats 0 in
theorem PySem.Challenge.cw_LID_holds : PySem.Challenge.rw_LID.Holds := by
  w_on; o_law; k_head; (case hw => w_witness2)
  k_fill
  refine L2.walk_of (l := PySem.Challenge.rw_LID) (n := 63) (k := 40) (x := "script") (CX := fun w => ..) (sp := fun _ => My.sp_law) rfl (by decide) rfl ⟨rfl, by decide, by decide⟩ (fun w h Y => PySem.W.kIn_of Y) ?F ?S ?C
  case F =>
    intro w mg fa h KX G hmg
    have T : ∃ t, My.Txt (L2.KOf KX) t := by
      dsimp only [L2.KOf]                          -- K must stand as «<heap const> w.params» for k_is
      refine' My.txt_mk ?e1 ?e2 ?e3 ..
      (case e1 => PySem.W.k_is)                    -- in the order: a name -> its address -> its object -> its parts
      (case e2 => PySem.W.k_is)
      ..
    obtain ⟨t, T⟩ := T
    have e0 := hmg.symm.trans (PySem.W.mg_of KX G T.law)
    cases e0                                       -- fa is the law's own address
    exact ⟨_, fun s u => .of_eq rfl, fun base kb nb => My.law_fn T kb nb⟩     -- if «.of_eq rfl» comes too early: refine' ⟨_, ?b, fun base kb nb => My.law_fn T kb nb⟩; exact fun s u => .of_eq rfl
  case S => exact fun w H a ns hl hO hS => ..
  case C => exact ..
(the tactic k_is has no namespace: write k_is) -/
namespace L2
open PySem PySem.Spec PyProof.Rows
def defArgs (s : Stmt) : Arguments := match s with
  | .FunctionDef _ a _ _ _ _ _ _ _ _ => a
  | _ => { posonlyargs := [], args := [], vararg := none, kwonlyargs := [], kw_defaults := [], kwarg := none, defaults := [] }
def defBody (s : Stmt) : List Stmt := match s with
  | .FunctionDef _ _ b _ _ _ _ _ _ _ => b
  | _ => []
def defScope (s : Stmt) : Scope := match s with
  | .FunctionDef _ _ _ _ _ _ sc _ _ _ => sc
  | _ => { kind := .function, names := [], isGenerator := false, isCoroutine := false }
abbrev CX0 : CXT := fun _ _ _ _ _ _ => False
abbrev E0 : XK := fun _ _ _ => False
theorem pass0 {X : Cx} : Passes CX0 X E0 := fun _ _ _ _ _ _ _ h => h.elim
structure Fun (K : PySem.W.Frag) (x qual : Str) (st : Stmt) (f : Addr) (fd : FuncData) : Prop where
  ex : ∃ (oc : Value) (od : Option Addr) (kV doc pm : Value) (an : Option Addr) (cdv ct : Value) (osl : Array (Option Value)),
    fd = PySem.W.fnOf x qual (defArgs st) (defBody st) (defScope st) .none kV doc pm an cdv ct ∧ K.lookup f = some ⟨oc, od, .func fd, osl⟩ ∧ PySem.W.codeIn K cdv qual = true
  kp : PySem.W.keepIn K (.ref f) = true
section
variable {P : Program} {w : World} {K : PySem.W.Frag} {mg : Str → Option Value} {base : Heap}
theorem Fun.ok {x qual : Str} {st : Stmt} {f : Addr} {fd : FuncData} {N ps : List Str} {k : Nat} {sp : Sp} (F : Fun K x qual st f fd) (S : FnScope N ps (defScope st)) (len : ∀ vs H Q E, sp vs H Q E → vs.length = ps.length)
    (hbody : ∀ (cdv : Value) (A : Around) (outer : List Env) (s : Shared) (H : Hp) (vs : List V) (Q : VK) (E : XK), Room k (A.deeper (envOfC qual (defScope st) s.heap.objs.size f cdv)) → sp vs H Q E →
      ∃ t, PSs (cxOf CX0 P w K mg base N qual (defScope st) f cdv A outer s H E).nox (defBody st) t ∧ t { nx := fun _ H' => Q .non H', rt := Q } (start N vs) H) : FnOk P w K mg base CX0 (k + 1) f fd ps sp := by
  obtain ⟨oc, od, kV, doc, pm, an, cdv, ct, osl, rfl, lk, hcd⟩ := F.ex
  refine fn_of lk hcd S len fun A outer s H vs Q E hr hsp => ?_
  obtain ⟨t, h, q⟩ := hbody cdv A outer s H vs Q E hr hsp
  exact ⟨t, h.nox, q⟩
theorem fun_mk {x qual : Str} {st : Stmt} {f : Addr} {oc : Value} {od an : Option Addr} {osl : Array (Option Value)} {kV doc pm cdv ct : Value} (l : K.lookup f = some ⟨oc, od, .func (PySem.W.fnOf x qual (defArgs st) (defBody st) (defScope st) .none kV doc pm an cdv ct), osl⟩)
    (c : PySem.W.codeIn K cdv qual = true) (k : PySem.W.keepIn K (.ref f) = true) : Fun K x qual st f (PySem.W.fnOf x qual (defArgs st) (defBody st) (defScope st) .none kV doc pm an cdv ct) := ⟨⟨oc, od, kV, doc, pm, an, cdv, ct, osl, rfl, l, c⟩, k⟩
end
theorem small1000 {n : Nat} (h : n ≤ 1000) : n < sizeLine := Nat.lt_of_le_of_lt h (by decide)
section
variable {X : Cx}
theorem pv (i : Nat) {x : Str} {pos : Pos} (hN : X.N[i]? = some x := by rfl) (hv : Vis X.env.scope x := by first | exact Or.inl rfl | exact Or.inr (Or.inl rfl) | exact Or.inr (Or.inr rfl)) (hd : (x == ("__debug__" : Str)) = false := by decide)
    (hcd : (x == ("__classdict__" : Str)) = false := by decide) : PE X (.Name x pos) (tVar i) := pe_var hN hv hd hcd
end
theorem iteF {A B : Prop} (h : B) : if false = true then A else B := by
  rw [if_neg Bool.false_ne_true]
  exact h
theorem iteT {A B : Prop} (h : A) : if true = true then A else B := by
  rw [if_pos rfl]
  exact h
theorem ite2 {c A B : Prop} [Decidable c] (h1 : c → A) (h2 : ¬ c → B) : if c then A else B := by
  by_cases h : c
  · rw [if_pos h]
    exact h1 h
  · rw [if_neg h]
    exact h2 h
theorem iteNS {c A B : Prop} [Decidable c] (hc : c) (h : B) : if (!decide c) = true then A else B := by
  rw [decide_eq_true hc]
  exact iteF h
def Same (H H' : Hp) : Prop := ∀ b o, H b = some o → H' b = some o
theorem Same.refl (H : Hp) : Same H H := fun _ _ h => h
theorem Same.trans {H H1 H2 : Hp} (a : Same H H1) (b : Same H1 H2) : Same H H2 := fun c o h => b c o (a c o h)
theorem Same.seq {K : PySem.W.Frag} {H H' : Hp} {a : Addr} {xs : List V} (e : Same H H') (h : SqL K H a xs) : SqL K H' a xs := by
  rcases h with (h | ⟨o, h⟩) | h
  · exact .inl (.inl (e _ _ h))
  · exact .inl (.inr ⟨o, e _ _ h⟩)
  · exact .inr h
end L2
namespace L2
open PySem PySem.Spec PyProof.Rows
section
variable {κ : Type} [DecidableEq κ]
end
section
variable {P : Program} {w : World} {H : Hp} {h : Heap} {a : Addr}
end
section
variable {X : Cx} {pins : List (Addr × Obj)} {σ : St} {H : Hp} {s : Shared} {a : Addr} {y v : V} {u r : Value} {o : Option V} {A : Around} {E : Value → Shared → Prop}
end
section
variable {X : Cx} {pins : List (Addr × Obj)} {σ : St} {H : Hp} {s : Shared} {a : Addr} {kvs : List (Key × V)} {k : Key} {u : Value} {A : Around} {E : Value → Shared → Prop}
end
section
variable {X : Cx} {o i e value : Expr} {pos pos' tpos : Pos} {td ty tv : TE}
end
section
variable {X : Cx} {pos : Pos}
end
end L2
namespace L2
open PySem PySem.Spec PyProof.Rows
theorem same_new {H : Hp} {p : Addr} (h : H p = none) (o : HO) : Same H (upd H p o) := fun b u q => by rw [upd_ne (ne_of_none q h)]; exact q
structure Def (K : PySem.W.Frag) (mg : Str → Option Value) (x : Str) (st : Stmt) (ps : List Str) : Prop where
  ex : ∃ (f : Addr) (fd : FuncData), Fun K x x st f fd ∧ (∀ us : List Value, us.length = ps.length → bindArgs fd ⟨us, []⟩ = pure (ps.zip us)) ∧ mg x = some (.ref f)
theorem def_mk {K : PySem.W.Frag} {h : Heap} {mg : Str → Option Value} {x : Str} {st : Stmt} {ps : List Str} {f : Addr} {oc : Value} {od an : Option Addr} {osl : Array (Option Value)} {kV doc pm cdv ct : Value}
    (KX : K.In h) (G : h.Ns mainGlobals mg) (a : PySem.W.nsIn K mainGlobals x = some (some (.ref f)))
    (l : K.lookup f = some ⟨oc, od, .func (PySem.W.fnOf x x (defArgs st) (defBody st) (defScope st) .none kV doc pm an cdv ct), osl⟩)
    (c : PySem.W.codeIn K cdv x = true) (k : PySem.W.keepIn K (.ref f) = true)
    (b : ∀ (kV doc pm : Value) (an : Option Addr) (cdv ct : Value) (us : List Value), us.length = ps.length → bindArgs (PySem.W.fnOf x x (defArgs st) (defBody st) (defScope st) .none kV doc pm an cdv ct) ⟨us, []⟩ = pure (ps.zip us)) :
    Def K mg x st ps := ⟨f, _, fun_mk l c k, b kV doc pm an cdv ct, PySem.W.mg_of KX G a⟩
structure Cal (P : Program) (w : World) (K : PySem.W.Frag) (mg : Str → Option Value) (base : Heap) (k : Nat) (x : Str) (ps : List Str) (sp : Sp) : Prop where
  ex : ∃ (f : Addr) (fd : FuncData), FnOk P w K mg base CX0 k f fd ps sp ∧ Binds K fd ps [] ∧ PySem.W.keepIn K (.ref f) = true ∧ mg x = some (.ref f)
theorem Def.cal {P : Program} {w : World} {K : PySem.W.Frag} {mg : Str → Option Value} {base : Heap} {k : Nat} {x : Str} {st : Stmt} {ps : List Str} {sp : Sp} (d : Def K mg x st ps)
    (F : ∀ (f : Addr) (fd : FuncData), Fun K x x st f fd → FnOk P w K mg base CX0 k f fd ps sp) : Cal P w K mg base k x ps sp := by
  obtain ⟨f, fd, h1, h2, h3⟩ := d.ex
  exact ⟨f, fd, F f fd h1, .all h2, h1.kp, h3⟩
section
variable {X : Cx} {k : Nat} {x : Str} {ps : List Str} {sp : Sp} {p pos : Pos} {e : Expr} {es : List Expr} {t : TA}
theorem pe_fn (c : Cal X.prog X.w X.K X.mg X.base k x ps sp) (hr : Room k X.A) (hg : Gl X x) (ha : PA X (e :: es) t) (hdb : (x == ("__debug__" : Str)) = false := by decide)
    (he : starEach (e :: es) X.env = (false, eval e X.env) :: starEach es X.env := by rfl) (hpl : (backTo pos (starEach es X.env)).any (·.1) = false := by rfl) :
    PE X (.Call (.Name x p) (e :: es) [] pos) (tCall sp [] E0 t) := by
  obtain ⟨f, fd, F, B, kp, m⟩ := c.ex
  exact pe_call F hr hg m kp B .nil pass0 ha hdb he hpl
end
def spLaw (K : PySem.W.Frag) : Sp := fun vs H Q _ => ∃ (a : Addr) (ns : List Int), vs = [.ref a] ∧ SqL K H a (ns.map V.int) ∧ ns.length ≤ 63 ∧ Only H ∧ ∀ H', Q (.bl true) H'
theorem law_mk {P : Program} {w : World} {K : PySem.W.Frag} {mg : Str → Option Value} {k : Nat} {st : Stmt} {fa : Addr} (d : Def K mg "law" st ["_law_script"])
    (F : ∀ (base : Heap) (f : Addr) (fd : FuncData), Fun K "law" "law" st f fd → FnOk P w K mg base CX0 k f fd ["_law_script"] (spLaw K)) (hmg : mg "law" = some (.ref fa)) :
    ∃ fd : FuncData, (∀ (s : Shared) (u : Value), BindsTo s fd ⟨[u], []⟩ [("_law_script", u)]) ∧ ∀ base : Heap, K.In base → base.Ns mainGlobals mg → FnOk P w K mg base CX0 k fa fd ["_law_script"] (spLaw K) := by
  obtain ⟨f, fd, h1, h2, h3⟩ := d.ex
  have e := hmg.symm.trans h3
  cases e
  exact ⟨fd, fun s u => .of_eq (h2 [u] rfl), fun base _ _ => F base _ _ h1⟩
theorem walkL {l : PySem.W.OpenLaw} {k : Nat} {q : Program} {loose : List Str} {XP : (Str → Option Value) → Heap → Prop} {YP : World → Heap → Prop} {d : DefRec} {K : Params → PySem.W.Frag} (hr : Room k callerA) (hn : l.most = some 63) (hdf : d.params.defaults = [])
    (hY : ∀ (w : World) (h : Heap), YP w h → (K w.params).In h)
    (F : ∀ (w : World) (mg : Str → Option Value) (fa : Addr) (h : Heap), (K w.params).In h → h.Ns mainGlobals mg → mg d.name = some (.ref fa) →
      ∃ fd : FuncData, (∀ (s : Shared) (u : Value), BindsTo s fd ⟨[u], []⟩ [("_law_script", u)]) ∧ ∀ base : Heap, (K w.params).In base → base.Ns mainGlobals mg → FnOk l.prog w (K w.params) mg base CX0 k fa fd ["_law_script"] (spLaw (K w.params))) :
    PySem.W.WalkO q loose XP YP l.row.toRowW d [] (fun f vs => PySem.call f vs) :=
  walk_of (n := 63) (k := k) (x := "_law_script") (CX := fun _ => CX0) (sp := fun w => spLaw (K w.params)) hn (by decide) hdf hr hY F (fun _ _ a ns hl hO hS => ⟨a, ns, rfl, hS, hl, hO, fun _ => rfl⟩) fun _ _ _ _ _ z => z
section
variable {X : Cx}
theorem log2_small {n : Nat} (h : n < 10 ^ 60) : n.log2 < 9000 := by
  by_cases h0 : n = 0
  · subst h0; decide
  · have h1 : n.log2 < 200 := (Nat.log2_lt h0).mpr (Nat.lt_of_lt_of_le h (by decide))
    omega
theorem op_fdivB : OpR X (binaryOp .FloorDiv) (rI (fun _ j => 0 < j ∧ j < 10 ^ 60) fun i j => .int (i / j)) := opI fun i j _ _ _ _ _ hc q => by
  have h1 : (0 : Int) < j := hc.1
  have h2 : j < 10 ^ 60 := hc.2
  exact floordiv_int (by omega) (by rw [Int.fdiv_eq_ediv_of_nonneg i (by omega)]; exact q) (.inl (PyProof.noPylong_of_log2 (log2_small (by omega))))
theorem call_isi : CallR X (.builtin "isinstance") (fun xs H Q => ∃ x c t b, xs = [x, .ty c] ∧ TyOf X.K H x t ∧ PySem.W.kitOne X.K t (.type c) = some b ∧ Q (.bl b) H) := by
  intro pins s σ H xs us Q I r h
  obtain ⟨x, c, t, b, rfl, ty, e, q⟩ := h
  obtain ⟨u, w', rfl, ru, rw'⟩ := vals2 r
  cases rw'
  exact isinst_ok I ru ty e fun tk => ⟨.bl b, H, I.tok tk, rfl, q⟩
theorem op_catU : OpR X (binaryOp .Add) (fun x y H Q => ∃ a b xs ys, x = .ref a ∧ y = .ref b ∧ SqT X.K H a xs ∧ SqT X.K H b ys ∧ xs.length + ys.length ≤ sizeLine ∧
    ∀ p H', Same H H' → SqT X.K H' p (xs ++ ys) → (H a = some (.tup xs) → H b = some (.tup ys) → H' p = some (.tup (xs ++ ys))) → Q (.ref p) H') := by
  intro pins s σ H x y v u Q I rx ry h
  obtain ⟨a, b, xs, ys, rfl, rfl, ha, hb, hz, q1⟩ := h
  cases rx
  cases ry
  obtain ⟨its, r1, p1, _⟩ := I.tuple ha
  obtain ⟨its2, r2, p2, _⟩ := I.tuple hb
  have hz' : its.length + its2.length ≤ sizeLine := by rw [← r1.length, ← r2.length]; exact hz
  obtain ⟨⟨cls, dd, data, sl⟩, ho, hc, n, hd⟩ := id p1
  obtain ⟨⟨cls2, dd2, data2, sl2⟩, ho2, hc2, n2, hd2⟩ := id p2
  simp only at hc hd hc2 hd2
  subst hc hd hc2 hd2
  have e : its.toArray ++ its2.toArray = (its ++ its2).toArray := by simp
  by_cases hv : its = []
  · have hx : xs = [] := r1.nil_iff.mp hv
    subst hx
    exact concat_meets ⟨_, ho, rfl⟩ ⟨_, ho2, rfl⟩ noFill_tuple_add seq_tuple_add PySem.F.slot_tuple_add PySem.F.entry_tuple_add (PySem.F.args_tuple_add_2 _ _)
      (tuple_addW0 a b its.toArray its2.toArray n n2 dd dd2 sl sl2 (by simp [hv])) ⟨ho, ho2, ⟨.ref b, H, I, rfl, q1 b H (Same.refl H) (by simpa using hb) (fun _ z => by simpa using z)⟩⟩
  · by_cases hw : its2 = []
    · have hy : ys = [] := r2.nil_iff.mp hw
      subst hy
      exact concat_meets ⟨_, ho, rfl⟩ ⟨_, ho2, rfl⟩ noFill_tuple_add seq_tuple_add PySem.F.slot_tuple_add PySem.F.entry_tuple_add (PySem.F.args_tuple_add_2 _ _)
        (tuple_addW1 a b its.toArray its2.toArray n n2 dd dd2 sl sl2 (by simpa using hv) (by simp [hw])) ⟨ho, ho2, ⟨.ref a, H, I, rfl, q1 a H (Same.refl H) (by simpa using ha) (fun z _ => by simpa using z)⟩⟩
    · refine concat_meets ⟨_, ho, rfl⟩ ⟨_, ho2, rfl⟩ noFill_tuple_add seq_tuple_add PySem.F.slot_tuple_add PySem.F.entry_tuple_add (PySem.F.args_tuple_add_2 _ _)
        (tuple_addW2 a b its.toArray its2.toArray n n2 dd dd2 sl sl2 (by simpa using hv) (by simpa using hw) (by rw [List.size_toArray, List.size_toArray]; exact hz')) ⟨ho, ho2, ?_⟩
      rw [e]
      refine ⟨.ref s.heap.objs.size, _, I.laid (t' := s.toks) (o := .tup (xs ++ ys)) (fun b ob q => Heap.get?_push_of_some _ q) (Nat.le_refl _) ?_, rfl, q1 _ _ (same_new (I.hok.fresh (Nat.le_refl _)) _) (SqT.of upd_same) (fun _ _ => upd_same)⟩
      exact ⟨by rw [List.length_append]; exact hz, _, r1.append r2, IsTup.new _ _⟩
end
section
theorem bt_int : bootBuiltins "int" = some (.type "int") := by decide +kernel
theorem bt_bool : bootBuiltins "bool" = some (.type "bool") := by decide +kernel
theorem bt_str : bootBuiltins "str" = some (.type "str") := by decide +kernel
theorem bt_list : bootBuiltins "list" = some (.type "list") := by decide +kernel
theorem bt_tuple : bootBuiltins "tuple" = some (.type "tuple") := by decide +kernel
theorem bt_len : bootBuiltins "len" = some (.builtin "len") := by decide +kernel
theorem bt_isinstance : bootBuiltins "isinstance" = some (.builtin "isinstance") := by decide +kernel
theorem bt_max : bootBuiltins "max" = some (.builtin "max") := by decide +kernel
theorem bt_min : bootBuiltins "min" = some (.builtin "min") := by decide +kernel
theorem bt_sum : bootBuiltins "sum" = some (.builtin "sum") := by decide +kernel
theorem bt_sorted : bootBuiltins "sorted" = some (.builtin "sorted") := by decide +kernel
end
section
variable {K : PySem.W.Frag}
theorem kit_int_int : PySem.W.kitOne K (.type "int") (.type "int") = some true := by kernel_rfl
theorem kit_int_bool : PySem.W.kitOne K (.type "int") (.type "bool") = some false := by kernel_rfl
theorem kit_int_tuple : PySem.W.kitOne K (.type "int") (.type "tuple") = some false := by kernel_rfl
theorem kit_bool_int : PySem.W.kitOne K (.type "bool") (.type "int") = some true := by kernel_rfl
theorem kit_bool_bool : PySem.W.kitOne K (.type "bool") (.type "bool") = some true := by kernel_rfl
theorem kit_str_tuple : PySem.W.kitOne K (.type "str") (.type "tuple") = some false := by kernel_rfl
theorem kit_none_tuple : PySem.W.kitOne K (.type "NoneType") (.type "tuple") = some false := by kernel_rfl
theorem kit_tuple_tuple : PySem.W.kitOne K (.type "tuple") (.type "tuple") = some true := by kernel_rfl
end
def Keep (p : Addr) (H H' : Hp) : Prop := ∀ b o, b ≠ p → H b = some o → H' b = some o
theorem Keep.trans {p : Addr} {H H1 H2 : Hp} (a : Keep p H H1) (b : Keep p H1 H2) : Keep p H H2 := fun c o n h => b c o n (a c o n h)
theorem Keep.same {p : Addr} {H H' : Hp} (s : Same H H') : Keep p H H' := fun b o _ h => s b o h
theorem Keep.set (p : Addr) (H : Hp) (o : HO) : Keep p H (upd H p o) := fun b u n h => by rw [upd_ne n]; exact h
theorem Keep.new {p q : Addr} {H : Hp} (h : H q = none) (o : HO) : Keep p H (upd H q o) := .same (same_new h o)
theorem Same.seqT {K : PySem.W.Frag} {H H' : Hp} {a : Addr} {xs : List V} (e : Same H H') (h : SqT K H a xs) : SqT K H' a xs := by
  rcases h with (h | ⟨o, h⟩) | h
  · exact .inl (.inl (e _ _ h))
  · exact .inl (.inr ⟨o, e _ _ h⟩)
  · exact .inr h
theorem sz {n : Nat} (h : n ≤ 1000) : n ≤ sizeLine := Nat.le_of_lt (small1000 h)
theorem szb {n : Nat} (h : Nat.ble n 1000 = true) : n ≤ sizeLine := sz (Nat.le_of_ble_eq_true h)
theorem atI_ints {l : List Int} {i : Int} (h0 : 0 ≤ i) (h1 : i < (l.length : Int)) : ∃ v, v ∈ l ∧ atI (l.map V.int) i = some (.int v) := by
  have hk : i.toNat < l.length := by omega
  have ek : i = ((i.toNat : Nat) : Int) := by omega
  have q : atI (l.map V.int) ((i.toNat : Nat) : Int) = some (.int l[i.toNat]) := atI_nat (by rw [List.getElem?_map, List.getElem?_eq_getElem hk] <;> rfl)
  rw [← ek] at q
  exact ⟨l[i.toNat], List.getElem_mem hk, q⟩
end L2
namespace L2
open PySem PySem.Spec PyProof.Rows
def relN (scope sc0 : Scope) : List (Str × NameKind) := scope.names.map fun (n, k) => if (k == .free && sc0.kind == .function && sc0.names.lookup n == some .cell) then (n, .cell) else (n, k)
def CellsIn (env : Env) : List (Str × Addr) → Prop
  | [] => True
  | (n, c) :: r => env.cells.lookup n = some c ∧ CellsIn env r
theorem CellsIn.look {env : Env} : ∀ {cl : List (Str × Addr)} {n : Str} {c : Addr}, CellsIn env cl → cl.lookup n = some c → env.cells.lookup n = some c
  | [], _, _, _, h => by cases h
  | (m, d) :: r, n, c, hc, h => by
    rw [List.lookup_cons] at h
    cases hx : n == m with
    | true =>
      rw [hx] at h
      cases h
      rw [eq_of_beq hx]
      exact hc.1
    | false =>
      rw [hx] at h
      exact CellsIn.look hc.2 h
theorem look_of_mem {cl : List (Str × Addr)} {n : Str} (h : n ∈ cl.map (·.1)) : ∃ c, cl.lookup n = some c := by
  induction cl with
  | nil => cases h
  | cons p r ih =>
    obtain ⟨m, d⟩ := p
    rw [List.lookup_cons]
    cases hx : n == m with
    | true => exact ⟨d, rfl⟩
    | false =>
      rcases List.mem_cons.mp h with e | e
      · have e' : n = m := e
        rw [e', beq_self_eq_true] at hx
        cases hx
      · exact ih e
structure CompOk (scope sc0 : Scope) (x : Str) (N cn : List Str) : Prop where
  has : ∀ p ∈ relN scope sc0, (p.2 = .cell ∨ p.2 = .free) → p.1 ∈ cn
  nc : ∀ p ∈ scope.names, p.2 ≠ .cell
  names : ∀ p ∈ scope.names, p.2 = .local → scope.names.lookup p.1 = some .local
  hx : scope.names.lookup x = some .local
  hx' : (relN scope sc0).lookup x = some .local
  nd : (x :: N).Nodup
  frs : ∀ y ∈ N, (relN scope sc0).lookup y = some .cell ∧ sc0.names.lookup y = some .cell ∧ y ∈ cn
def compCx (X : Cx) (scope : Scope) (cl : List (Str × Addr)) (C : Addr) (x : Str) (N : List Str) (s₂ : Shared) (H₂ : Hp) (fp : List Addr) : Cx where
  prog := X.prog
  w := X.w
  K := X.K
  mg := X.mg
  base := X.base
  A := X.A
  N := x :: N
  s₀ := s₂
  H₀ := H₂
  env := compEnvC scope cl C X.env
  outer := X.stack
  stack := X.stack
  ex := fp
  fn := fun _ => false
  calm := X.calm
  pn := []
  xe := fun _ _ => False
def tComp (wi : TI) (te : TE) (fr : List Nat) : TE := fun σ H Q => wi σ H fun J H1 => ∀ D, H1 D = none → ∃ W : Nat → Nat → List V → Hp → Prop, (∃ m, W 0 m [] (upd H1 D (.lst []))) ∧
  ∀ i m ys H2, W i m ys H2 → H2 D = some (.lst ys) ∧ ((J.stop i H2 ∧ Q (.ref D) H2) ∨ (J.go i H2 ∧ ys.length < sizeLine ∧ ∃ N : V → Hp → Prop, (∀ y H3, N y H3 → H3 D = some (.lst ys) ∧ ∃ m', m' < m ∧ W (i + 1) m' (ys ++ [y]) (upd H3 D (.lst (ys ++ [y])))) ∧
    ∀ x H', J.yld i H2 x H' → te (some x :: fr.map fun j => (σ[j]?).getD none) H' N))
section
variable {prog : Program} {w : World} {A : Around} {R : Result → Shared → Prop} {s : Shared}
theorem compLoop_any {elt target iter : Expr} {scope : Scope} {pos : Pos} {it acc : Value} {env : Env} (I : Nat → Shared → Prop)
    (turn : ∀ n s, I n s → wpAny (model prog w) A (pyNext it) (fun r s₁ => match r with
      | none => R (.ok .next) s₁
      | some v => wpAny (model prog w) A (letOwnedTupleGo target it v) (fun _ s₁' => wpAny (model prog w) A (assign target env v) (fun _ s₂ => wpAny (model prog w) A (eval elt env) (fun x s₃ =>
          wpAny (model prog w) A (call (.builtin "list.append") [acc, x]) (fun _ s₄ => ∃ m, m < n ∧ I m s₄) (notedBy (model prog w) A env fun e s' => R (.error e) s') s₃)
          (notedBy (model prog w) A env fun e s' => R (.error e) s') s₂) (notedBy (model prog w) A env fun e s' => R (.error e) s') s₁') (notedBy (model prog w) A env fun e s' => R (.error e) s') s₁) (notedBy (model prog w) A env fun e s' => R (.error e) s') s)
    (n : Nat) (h : I n s) :
    codeAny (model prog w) A (.compLoop (.ListComp elt [⟨target, iter, [], 0⟩] scope pos) 0 it acc env) R s := by
  refine codeAny_loop rfl I (fun n s hI => ?_) n h
  show wpAny _ _ ((compTurn (.ListComp elt [⟨target, iter, [], 0⟩] scope pos) 0 it acc env).onRaise (fun x => do noteFrame x env; theTreesLotGoes x)) _ _ s
  refine wpAny_noted ?_
  rw [compTurn_list1]
  refine wpAny_bind (wpAny_standAt (wpAny_bind (wpAny_mono (turn n s hI) (fun r s₁ h₁ => ?_) fun _ _ h' => h')))
  cases r with
  | none => exact wpAny_pure h₁
  | some v =>
    exact wpAny_bind (wpAny_mono h₁ (fun _ s₁' h₁' => wpAny_bind (wpAny_mono h₁' (fun _ s₂ h₂ => wpAny_bind (wpAny_bind (wpAny_mono h₂ (fun x s₃ h₃ => wpAny_bind (wpAny_mono h₃
      (fun _ s₄ h₄ => wpAny_pure (wpAny_pure ⟨rfl, h₄⟩)) fun _ _ h' => h')) fun _ _ h' => h'))) fun _ _ h' => h')) fun _ _ h' => h')
end
theorem lookup_mem {α : Type} : ∀ {l : List (Str × α)} {x : Str} {a : α}, l.lookup x = some a → (x, a) ∈ l := fun h => PySem.mem_of_lookup h
theorem comp_core {X : Cx} {elt iter : Expr} {x : Str} {px pos : Pos} {scope sc0 : Scope} {cl : List (Str × Addr)} {cn N : List Str} {fr : List Nat} {te : TE} {pins : List (Addr × Obj)} {σ : St} {H2 : Hp} {s2 : Shared} {it : Addr} {fp : List Addr}
    {tn : Nat → Heap → Prop} {J : It} {RR : Value → Addr → Result → Shared → Prop} {R : Hp → Prop} {E : Value → Shared → Prop} {W : Nat → Nat → List V → Hp → Prop} {m0 : Nat}
    (hc : X.calm = true) (he : ∀ (C : Addr) (s₂ : Shared) (H₂ : Hp) (fp : List Addr), PE (compCx X scope cl C x N s₂ H₂ fp) elt te)
    (hcl : CellsIn X.env cl) (hcn : cl.map (·.1) = cn) (hsc : X.env.scope = sc0) (hk : scope.kind = .function) (hok : CompOk scope sc0 x N cn) (hfr : fr.map (fun j => X.N[j]?) = N.map some)
    (I2 : Inv X pins σ H2 s2) (T : Turn X.prog X.w X.K (.Name x px) J fp it tn) (st2 : tn 0 s2.heap) (f2 : ∀ b ∈ fp, FpOk X pins H2 b)
    (w0 : W 0 m0 [] (upd H2 s2.heap.objs.size (.lst [])))
    (turn : ∀ i m ys H, W i m ys H → H s2.heap.objs.size = some (.lst ys) ∧ ((J.stop i H ∧ R H) ∨ (J.go i H ∧ ys.length < sizeLine ∧ ∃ N : V → Hp → Prop,
      (∀ y H3, N y H3 → H3 s2.heap.objs.size = some (.lst ys) ∧ ∃ m', m' < m ∧ W (i + 1) m' (ys ++ [y]) (upd H3 s2.heap.objs.size (.lst (ys ++ [y])))) ∧
      ∀ x H', J.yld i H x H' → te (some x :: fr.map fun j => (σ[j]?).getD none) H' N)))
    (hRR : ∀ (C : Addr) (H6 : Hp) (s6 : Shared) (m6 : Str → Option Value), s6.heap.Ns C m6 → Inv X pins σ H6 s6 → FpOk X pins H6 C → R H6 → RR (.ref s2.heap.objs.size) C (.ok .next) s6) :
    wpAny (model X.prog X.w) X.A (newList []) (fun acc s₃ => wpAny (model X.prog X.w) X.A (newFunctionEnv scope X.env.globals cl [] X.env.qual none .none (some X.env)) (fun cenv s₄ =>
      codeAny (model X.prog X.w) X.A (.compStart (.ListComp elt [⟨.Name x px, iter, [], 0⟩] scope pos) 0 (.ref it) acc { cenv with scope := relabel scope X.env }) (RR acc cenv.locals) s₄) E s₃) E s2 := by
  refine wpAny_newObj_type (wpAny_newFunctionEnv hok.nc (by intro y hy; simp at hy) (fun h4 hns hsb => ?_) hk)
  dsimp only at hns hsb ⊢
  have rel : ∀ y, (compEnvC scope cl 0 X.env).scope.names.lookup y = (relN scope sc0).lookup y := fun y => by
    show (relabel scope X.env).names.lookup y = _
    unfold relabel relN Env.kindOf
    rw [hsc]
  generalize hD : s2.heap.objs.size = D at *
  have I3 : Inv X pins σ (upd H2 D (.lst [])) { s2 with heap := s2.heap.push { cls := .type "list", dict := none, data := .seq ([] : List Value).toArray } } :=
    I2.laid (t' := s2.toks) (fun b u e => Heap.get?_push_of_some _ e) (Nat.le_of_eq hD) ⟨Nat.zero_le _, [], 0, .nil, by rw [← hD]; exact Heap.get?_push_size _ rfl⟩
  have k23 : ∀ b u, s2.heap.get? b = some u → (s2.heap.push { cls := .type "list", dict := none, data := .seq ([] : List Value).toArray }).get? b = some u := fun b u e => Heap.get?_push_of_some _ e
  have hsz : s2.heap.objs.size ≤ (s2.heap.push { cls := .type "list", dict := none, data := .seq ([] : List Value).toArray }).objs.size := by rw [Heap.size_push]; exact Nat.le_succ _
  generalize hh3 : s2.heap.push { cls := .type "list", dict := none, data := .seq ([] : List Value).toArray } = h3 at *
  have k34 : ∀ b u, h3.get? b = some u → h4.get? b = some u := fun b u e => (hsb.2 b (Nat.ne_of_lt (Heap.lt_size e))).trans (Heap.get?_push_of_some _ e)
  generalize hC : h3.objs.size = C at *
  have I4 : Inv X pins σ (upd H2 D (.lst [])) { s2 with heap := h4, toks := s2.toks + ([] : List (Str × Value)).length } := I3.kept (t' := s2.toks + 0) k34
  generalize hH3 : upd H2 D (.lst []) = H3 at *
  have ltC : ∀ b o, s2.heap.get? b = some o → b < C := fun b o e => Nat.lt_of_lt_of_le (Heap.lt_size e) hsz
  have lenF : fr.length = N.length := by simpa using congrArg List.length hfr
  have fpo : ∀ b ∈ fp, b ≠ C ∧ b ∉ frs X.stack := fun b hb => by
    obtain ⟨o, e, _⟩ := T.obj 0 s2.heap st2 b hb
    refine ⟨Nat.ne_of_lt (ltC b o e), fun z => ?_⟩
    obtain ⟨_, n1, n2, _⟩ := f2 b hb
    rcases List.mem_cons.mp (I2.stkSub b z) with q | q
    · exact n1 q
    · exact n2 q
  have H3C : H3 C = none := I3.hok.fresh (Nat.le_of_eq hC)
  have okX : (compCx X scope cl C x N { s2 with heap := h3 } H3 fp).Ok := by
    refine ⟨I2.ok.mod, hk, I2.ok.glob, I2.ok.blt, Nat.le_of_eq hC, fun y z c e1 e2 => I2.ok.inj y z c (hcl.look e1) (hcl.look e2), fun y hy => ?_, fun y c z => (Bool.false_ne_true z).elim, fun z => I2.ok.hd z, I2.ok.frames, .inl rfl,
      fun b hb => ⟨(fpo b hb).1, fun y c e => (f2 b hb).2.2.2.2.1 y c (hcl.look e)⟩, fun b o e => I3.bs b o e, Nat.le_trans I2.ok.bsz I3.sz, fun b o e hb => ?_, fun b hb => (fpo b hb).2, I3.stack, I3.stkFree⟩
    · have hy' : (relN scope sc0).lookup y = some .cell ∨ (relN scope sc0).lookup y = some .free := by
        rcases hy with hy | hy
        · exact .inl ((rel y).symm.trans hy)
        · exact .inr ((rel y).symm.trans hy)
      have hm : y ∈ cn := by
        rcases hy' with q | q
        · exact hok.has (y, .cell) (lookup_mem q) (.inl rfl)
        · exact hok.has (y, .free) (lookup_mem q) (.inr rfl)
      exact look_of_mem (cl := cl) (n := y) (by rw [hcn]; exact hm)
    · rcases (f2 b hb).2.2.2.1 with z | z
      · exact I2.ok.noex b o e z
      · exact absurd (Nat.lt_of_lt_of_le (Heap.lt_size e) (Nat.le_trans I2.ok.bsz z)) (Nat.lt_irrefl _)
  have I5 : Inv (compCx X scope cl C x N { s2 with heap := h3 } H3 fp) [] (none :: fr.map fun j => (σ[j]?).getD none) H3 { s2 with heap := h4, toks := s2.toks + ([] : List (Str × Value)).length } := by
    refine ⟨okX, rfl, I4.bare, Un.kept k34, ⟨_, hns, fun i y v e1 e2 e3 => ?_⟩, fun y c e => I4.cell y c (hcl.look e), H3C, fun y c e => I4.freeC y c (hcl.look e), fun p hp => absurd (show p ∈ ([] : List (Addr × Obj)) from hp) (by simp), I4.hok, by simp [compCx, lenF]⟩
    cases i with
    | zero => cases e2
    | succ j =>
      have e1' : N[j]? = some y := e1
      have e2' : (fr.map fun j => (σ[j]?).getD none)[j]? = some (some v) := e2
      obtain ⟨k, ek⟩ : ∃ k, fr[j]? = some k := by
        have : j < fr.length := by rw [lenF]; exact (List.getElem?_eq_some_iff.mp e1').1
        exact ⟨fr[j], List.getElem?_eq_getElem this⟩
      rw [List.getElem?_map, ek] at e2'
      have e2'' : (σ[k]?).getD none = some v := Option.some.inj e2'
      have eσ : σ[k]? = some (some v) := by
        cases q : σ[k]? with
        | none => rw [q] at e2''; cases e2''
        | some o => rw [q] at e2''; exact congrArg some e2''
      have eN : X.N[k]? = some y := by
        have z := congrArg (fun l => l[j]?) hfr
        simp only [List.getElem?_map, ek, e1', Option.map_some] at z
        exact Option.some.inj z
      obtain ⟨r1, r2, r3⟩ := hok.frs y (List.mem_of_getElem? e1')
      obtain ⟨m, _, hl⟩ := I4.loc
      obtain ⟨u, ru, look⟩ := hl k y v eN eσ (.inr (.inl (by rw [hsc]; exact r2)))
      refine ⟨u, ru, .inr ⟨.inl ((rel y).trans r1), ?_⟩⟩
      rcases look with ⟨l1, _⟩ | ⟨_, c, l1, l2⟩
      · exfalso
        have l1' : X.env.scope.names.lookup y = some .local := l1
        rw [hsc, r2] at l1'
        cases l1'
      · obtain ⟨c', l3⟩ := look_of_mem (cl := cl) (n := y) (by rw [hcn]; exact r3)
        have l4 := hcl.look l3
        rw [l1] at l4
        cases l4
        exact ⟨c, l3, l2⟩
  have st4 : tn 0 h4 := T.keep 0 s2.heap h4 st2 fun b hb o e => k34 b o (k23 b o e)
  have fp5 : ∀ {H' : Hp}, (∀ b ∈ fp, H' b = none) → ∀ b ∈ fp, FpOk (compCx X scope cl C x N { s2 with heap := h3 } H3 fp) [] H' b := fun hn b hb =>
    ⟨hn b hb, (fpo b hb).1, (fpo b hb).2, .inl hb, fun y c e => (f2 b hb).2.2.2.2.1 y c (hcl.look e), fun p hp => absurd (show p ∈ ([] : List (Addr × Obj)) from hp) (by simp)⟩
  have fr3 : ∀ b ∈ fp, H3 b = none := fun b hb => by
    obtain ⟨o, e, _⟩ := T.obj 0 s2.heap st2 b hb
    have : b ≠ D := Nat.ne_of_lt (hD ▸ Heap.lt_size e)
    rw [← hH3, upd_ne this]
    exact (f2 b hb).1
  have hx' : Loc (compCx X scope cl C x N { s2 with heap := h3 } H3 fp).env.scope x := .inl ((rel x).trans hok.hx')
  have fin : ∀ (H6 : Hp) (s6 : Shared) (σ6 : St), Inv (compCx X scope cl C x N { s2 with heap := h3 } H3 fp) [] σ6 H6 s6 → Inv X pins σ H6 s6 ∧ FpOk X pins H6 C := by
    intro H6 s6 σ6 I6
    refine ⟨I3.call' (s' := s6) (ch := fp) I6.os ⟨I6.base.keep, I6.base.slot, I6.base.free, I6.base.there, I6.base.tups, I6.base.frzs, I6.base.tbls⟩ I6.hok I6.bare (fun b hb => ?_), I3.fpOk (Nat.le_of_eq hC) I6.free⟩
    obtain ⟨_, n1, _, n3, n4, n5⟩ := f2 b hb
    exact ⟨n3, n1, n4, n5⟩
  have loop : codeAny (model X.prog X.w) X.A (.compLoop (.ListComp elt [⟨.Name x px, iter, [], 0⟩] scope pos) 0 (.ref it) (.ref D) (compEnvC scope cl C X.env))
      (RR (.ref D) C) { s2 with heap := h4, toks := s2.toks + ([] : List (Str × Value)).length } := by
    refine compLoop_any (fun n s' => ∃ i v0 ys H', Inv (compCx X scope cl C x N { s2 with heap := h3 } H3 fp) [] (v0 :: fr.map fun j => (σ[j]?).getD none) H' s' ∧ tn i s'.heap ∧ (∀ b ∈ fp, H' b = none) ∧ W i n ys H') ?_ m0
      ⟨0, none, [], H3, I5, st4, fr3, w0⟩
    rintro n s6 ⟨i, v0, ys, H6, I6, st6, fr6, w6⟩
    obtain ⟨hDl, hw⟩ := turn i n ys H6 w6
    rcases hw with ⟨stop, qn⟩ | ⟨go, hlen, N', hN', step⟩
    · refine thn (T.done (compCx X scope cl C x N { s2 with heap := h3 } H3 fp) rfl rfl rfl hc i [] s6 _ H6 _ I6 (fp5 fr6) st6 stop) fun r s7 ⟨hr, I7⟩ => ?_
      subst hr
      obtain ⟨m7, hn7, _⟩ := I7.loc
      obtain ⟨J7, F7⟩ := fin H6 s7 _ I7
      exact hRR C H6 s7 m7 hn7 J7 F7 qn
    · refine thn (T.item (compCx X scope cl C x N { s2 with heap := h3 } H3 fp) rfl rfl rfl hc i [] s6 _ H6 _ I6 (fp5 fr6) st6 go) fun r s7 ⟨u, hr, h7⟩ => ?_
      subst hr
      refine thn h7 fun _ s8 ⟨x8, H8, I8, r8, y8, st8, fr8⟩ => ?_
      have I8' := I8.pinned (fp5 fr8) (T.obj _ _ st8)
      refine wpAny_assign_Name (store_ok (i := 0) I8' hok.nd rfl hx' r8 (fun s9 I9 => ?_) (.inr ((rel x).trans hok.hx')))
      have I9' : Inv (compCx X scope cl C x N { s2 with heap := h3 } H3 fp) ([] ++ pinsAt fp s8.heap) (some x8 :: fr.map fun j => (σ[j]?).getD none) H8 s9 := I9
      refine wpAny_mono (he C { s2 with heap := h3 } H3 fp _ s9 _ H8 _ I9' (step x8 H8 y8)) (fun y s10 h10 => ?_) fun _ _ z => False.elim z
      obtain ⟨y10, H10, I10, r10, n10⟩ := h10
      obtain ⟨hD10, m', hm, w10⟩ := hN' y10 H10 n10
      refine wpAny_mono (mt_append (X := compCx X scope cl C x N { s2 with heap := h3 } H3 fp) _ s10 _ H10 (.ref D) [y10] (.ref D) [y] (fun _ H' => H' = upd H10 D (.lst (ys ++ [y10]))) I10 rfl (.cons r10 .nil) ⟨D, ys, y10, rfl, rfl, hD10, hlen, rfl⟩) (fun _ s11 h11 => ?_) fun _ _ z => False.elim z
      obtain ⟨_, H11, I11, _, e11⟩ := h11
      subst e11
      refine ⟨m', hm, i + 1, some x8, ys ++ [y10], _, I11.unpinned, T.keep _ _ _ st8 fun b hb o e => (I11.pin (b, o) (List.mem_append_right _ (List.mem_append_right _ (mem_pinsAt hb e)))).1, fun b hb => ?_, w10⟩
      obtain ⟨o, e, d⟩ := T.obj _ _ st8 b hb
      exact (I11.pin (b, o) (List.mem_append_right _ (List.mem_append_right _ (mem_pinsAt hb e)))).2.1
  exact codeAny_compStart_list loop (T.self _ 0 _ _ _ st4 loop)
theorem Inv.let_go {X : Cx} {pins : List (Addr × Obj)} {σ : St} {H : Hp} {s : Shared} {C : Addr} {h' : Heap} (I : Inv X pins σ H s) (F : FpOk X pins H C) (sb : Heap.SameBut C s.heap h') : Inv X pins σ H { s with heap := h' } := by
  obtain ⟨f0, f1, _, f3, f4, f5⟩ := F
  exact I.turned (t' := s.toks) (fun b o hb e => (sb.2 b hb).trans e) f0 f1 f3 f4 f5
theorem pe_comp {X : Cx} {elt iter : Expr} {x : Str} {px pos : Pos} {scope sc0 : Scope} {cl : List (Str × Addr)} {cn N : List Str} {fr : List Nat} {wi : TI} {te : TE}
    (hc : X.calm = true) (hi : PI X (.Name x px) iter wi) (he : ∀ (C : Addr) (s₂ : Shared) (H₂ : Hp) (fp : List Addr), PE (compCx X scope cl C x N s₂ H₂ fp) elt te)
    (hclos : closureFor scope X.env = pure cl) (hcl : CellsIn X.env cl) (hcn : cl.map (·.1) = cn) (hsc : X.env.scope = sc0) (hk : scope.kind = .function) (hok : CompOk scope sc0 x N cn)
    (hfr : fr.map (fun j => X.N[j]?) = N.map some) (hs : ∀ v, foldedSetIterable iter X.env v = pure v := by intro _; rfl) :
    PE X (.ListComp elt [⟨.Name x px, iter, [], 0⟩] scope pos) (tComp wi te fr) := by
  intro pins s σ H Q I h
  rw [eval_ListComp]
  refine wpAny_comprehension_free (use := none) rfl hs hclos hk hok.names (thn (hi pins s σ H _ I h) fun v s1 h1 => thn h1 fun itv s2 h2 => ?_)
  obtain ⟨it, fp, tn, J, H2, e, I2, T, st2, f2, hq⟩ := h2
  subst e
  obtain ⟨W, ⟨m0, w0⟩, turn⟩ := hq s2.heap.objs.size (I2.hok.fresh (Nat.le_refl _))
  exact comp_core (RR := fun acc C => compPost (model X.prog X.w) X.A X.xe none (EP X pins σ Q) acc C) (R := fun H6 => Q (.ref s2.heap.objs.size) H6) hc he hcl hcn hsc hk hok hfr I2 T st2 f2 w0 turn
    fun C H6 s6 m6 hn I6 F6 q => ⟨m6, hn, fun h' sb => ⟨.ref s2.heap.objs.size, H6, I6.let_go F6 sb, rfl, q⟩⟩
def tSetComp (i : Nat) (wi : TI) (te : TE) (fr : List Nat) : TS := fun D σ H => tComp wi te fr σ H fun v H1 => D.nx (σ.set i (some v)) H1
theorem ps_setComp {X : Cx} {i : Nat} {y : Str} {py spos : Pos} {elt iter : Expr} {x : Str} {px pos : Pos} {scope sc0 : Scope} {cl : List (Str × Addr)} {cn N : List Str} {fr : List Nat} {wi : TI} {te : TE}
    (hN : X.N.Nodup) (hiN : X.N[i]? = some y) (hy : Loc X.env.scope y)
    (hc : X.calm = true) (hi : PI X (.Name x px) iter wi) (he : ∀ (C : Addr) (s₂ : Shared) (H₂ : Hp) (fp : List Addr), PE (compCx X scope cl C x N s₂ H₂ fp) elt te)
    (hclos : closureFor scope X.env = pure cl) (hcl : CellsIn X.env cl) (hcn : cl.map (·.1) = cn) (hsc : X.env.scope = sc0) (hk : scope.kind = .function) (hok : CompOk scope sc0 x N cn)
    (hfr : fr.map (fun j => X.N[j]?) = N.map some) (hsw : swapsWith (.ListComp elt [⟨.Name x px, iter, [], 0⟩] scope pos) (some (.Name y py)) spos.line X.env = pure true)
    (hf : X.fn y = true ∨ X.env.scope.names.lookup y = some .local) (hs : ∀ v, foldedSetIterable iter X.env v = pure v := by intro _; rfl) :
    PS X (.Assign [.Name y py] (.ListComp elt [⟨.Name x px, iter, [], 0⟩] scope pos) spos) (tSetComp i wi te fr) := by
  intro pins s σ H D I h
  rw [exec_Assign_Name_used _ _ _ _ hsw]
  refine wpAny_bind (wpAny_standAt (wpAny_bind ?_))
  show wpAny _ X.A (do let _ ← comprehension (.ListComp elt [⟨.Name x px, iter, [], 0⟩] scope pos) scope X.env _ (newList []) false (eval iter X.env) (some (assign (.Name y py) X.env))) _ _ s
  refine wpAny_bind (wpAny_mono (wpAny_comprehension_free (use := some (assign (.Name y py) X.env)) (Q := fun _ s' => SP X pins D .next s') rfl hs hclos hk hok.names
    (thn (hi pins s σ H _ I h) fun v s1 h1 => thn h1 fun itv s2 h2 => ?_)) (fun _ s' hq => wpAny_pure (wpAny_pure hq)) fun _ _ e => e)
  obtain ⟨it, fp, tn, J, H2, e, I2, T, st2, f2, hq⟩ := h2
  subst e
  obtain ⟨W, ⟨m0, w0⟩, turn⟩ := hq s2.heap.objs.size (I2.hok.fresh (Nat.le_refl _))
  refine comp_core (RR := fun acc C => compPost (model X.prog X.w) X.A X.xe (some (assign (.Name y py) X.env)) (fun _ s' => SP X pins D .next s') acc C) (R := fun H6 => D.nx (σ.set i (some (.ref s2.heap.objs.size))) H6) hc he hcl hcn hsc hk hok hfr I2 T st2 f2 w0 turn
    fun C H6 s6 m6 hn I6 F6 q => ?_
  show wpAny _ X.A (assign (.Name y py) X.env (.ref s2.heap.objs.size)) _ _ _
  refine wpAny_assign_Name (store_ok2 (v := .ref s2.heap.objs.size) I6 hN hiN hy rfl (fun s7 I7 ⟨a, sb, ha⟩ => ?_) hf)
  have neC : C ≠ a := by
    rcases ha with ha | ha
    · rw [ha]; exact F6.2.1
    · exact Ne.symm (F6.2.2.2.2.1 y a ha)
  exact ⟨m6, hn.sameBut sb neC, fun h' sb' => ⟨_, H6, I7.let_go F6 sb', q⟩⟩
theorem comp_range {lo : Int} {n : Nat} {T : V → Hp → (V → Hp → Prop) → Prop} {D : Addr} {H1 : Hp} {R : Hp → Prop} (hn : n ≤ sizeLine) (Pv : Nat → List V → Hp → Prop) (h0 : Pv 0 [] (upd H1 D (.lst [])))
    (hD : ∀ i ys H, Pv i ys H → H D = some (.lst ys) ∧ ys.length = i)
    (hs : ∀ i ys H, i < n → Pv i ys H → T (.int (lo + i)) H fun y H3 => H3 D = some (.lst ys) ∧ Pv (i + 1) (ys ++ [y]) (upd H3 D (.lst (ys ++ [y]))))
    (hd : ∀ ys H, Pv n ys H → R H) :
    ∃ W : Nat → Nat → List V → Hp → Prop, (∃ m, W 0 m [] (upd H1 D (.lst []))) ∧
      ∀ i m ys H2, W i m ys H2 → H2 D = some (.lst ys) ∧ (((Itr lo n).stop i H2 ∧ R H2) ∨ ((Itr lo n).go i H2 ∧ ys.length < sizeLine ∧ ∃ N : V → Hp → Prop, (∀ y H3, N y H3 → H3 D = some (.lst ys) ∧ ∃ m', m' < m ∧ W (i + 1) m' (ys ++ [y]) (upd H3 D (.lst (ys ++ [y])))) ∧
        ∀ x H', (Itr lo n).yld i H2 x H' → T x H' N)) := by
  refine ⟨fun i m ys H => m = n - i ∧ i ≤ n ∧ Pv i ys H, ⟨n, by simp, Nat.zero_le _, h0⟩, ?_⟩
  rintro i m ys H2 ⟨rfl, hi, p⟩
  obtain ⟨d1, d2⟩ := hD i ys H2 p
  refine ⟨d1, ?_⟩
  by_cases hlt : i < n
  · refine .inr ⟨hlt, by omega, fun y H3 => H3 D = some (.lst ys) ∧ Pv (i + 1) (ys ++ [y]) (upd H3 D (.lst (ys ++ [y]))), fun y H3 ⟨z1, z2⟩ => ⟨z1, n - (i + 1), by omega, rfl, hlt, z2⟩, fun x H' y => ?_⟩
    obtain ⟨e, y⟩ := y
    subst e y
    exact hs i ys _ hlt p
  · have e : i = n := by omega
    subst e
    exact .inl ⟨Nat.le_refl _, hd ys H2 p⟩
theorem comp_tup {K : PySem.W.Frag} {a : Addr} {xs : List V} {T : V → Hp → (V → Hp → Prop) → Prop} {D : Addr} {H1 : Hp} {R : Hp → Prop} (hn : xs.length ≤ sizeLine) (Pv : Nat → List V → Hp → Prop) (h0 : Pv 0 [] (upd H1 D (.lst [])))
    (hl : ∀ i ys H, Pv i ys H → SqT K H a xs) (hD : ∀ i ys H, Pv i ys H → H D = some (.lst ys) ∧ ys.length = i)
    (hs : ∀ i x ys H, xs[i]? = some x → Pv i ys H → T x H fun y H3 => H3 D = some (.lst ys) ∧ Pv (i + 1) (ys ++ [y]) (upd H3 D (.lst (ys ++ [y]))))
    (hd : ∀ ys H, Pv xs.length ys H → R H) :
    ∃ W : Nat → Nat → List V → Hp → Prop, (∃ m, W 0 m [] (upd H1 D (.lst []))) ∧
      ∀ i m ys H2, W i m ys H2 → H2 D = some (.lst ys) ∧ (((Itt K a).stop i H2 ∧ R H2) ∨ ((Itt K a).go i H2 ∧ ys.length < sizeLine ∧ ∃ N : V → Hp → Prop, (∀ y H3, N y H3 → H3 D = some (.lst ys) ∧ ∃ m', m' < m ∧ W (i + 1) m' (ys ++ [y]) (upd H3 D (.lst (ys ++ [y])))) ∧
        ∀ x H', (Itt K a).yld i H2 x H' → T x H' N)) := by
  refine ⟨fun i m ys H => m = xs.length - i ∧ i ≤ xs.length ∧ Pv i ys H, ⟨xs.length, by simp, Nat.zero_le _, h0⟩, ?_⟩
  rintro i m ys H2 ⟨rfl, hi, p⟩
  obtain ⟨d1, d2⟩ := hD i ys H2 p
  have q := hl i ys H2 p
  refine ⟨d1, ?_⟩
  by_cases hlt : i < xs.length
  · refine .inr ⟨⟨xs, xs[i], q, by simp [hlt]⟩, by omega, fun y H3 => H3 D = some (.lst ys) ∧ Pv (i + 1) (ys ++ [y]) (upd H3 D (.lst (ys ++ [y]))), fun y H3 ⟨z1, z2⟩ => ⟨z1, xs.length - (i + 1), by omega, rfl, hlt, z2⟩, fun x H' y => ?_⟩
    obtain ⟨e, y⟩ := y
    subst e
    exact hs i x ys _ (y xs q) p
  · have e : i = xs.length := by omega
    subst e
    exact .inl ⟨⟨xs, q, Nat.le_refl _⟩, hd ys H2 p⟩
end L2
namespace HT
open PySem PySem.Spec PyProof.Rows
section
variable {prog : Program} {w : World} {A : Around} {E : Value → Shared → Prop} {s : Shared}
theorem getItem_tuple_all {t sl : Addr} {items : Array Value} {vl vu : Value} {lo hi : Option Int} {Q : Value → Shared → Prop} (ht : IsTup s.heap t items) (hs : s.heap.IsSliceOf sl vl vu .none) (pl : IsPart vl lo) (pu : IsPart vu hi)
    (h0 : sIx items.size 0 lo = 0) (h1 : sIx items.size items.size hi = items.size) (h : Q (.ref t) s) : wpAny (model prog w) A (getItem (.ref t) (.ref sl)) Q E s := by
  obtain ⟨os, hos, hcs, hds⟩ := id hs
  have hTs : s.TypeIs (.ref sl) "slice" := ⟨os, hos, hcs⟩
  have hT : s.TypeIs (.ref t) "tuple" := ht.typeIs
  unfold getItem
  try with_reducible refine wpAny_holding ?_
  first | refine wpAny_bind (wpAny_pure ?_) | skip
  refine wpAny_bind (wpAny_sequenceKey ht.typeIs (by decide) ?_)
  refine wpAny_bind (wpAny_callSpecial?_slot (name := Str.ofString "__getitem__") ht.typeIs PyProof.Rows.slot_tuple_getitem
    (wpAny_call_entry PyProof.Rows.slot_tuple_getitem ht.typeIs entry_tuple_getitem ?_ (args_tuple_getitem _ _)))
  show wpAny _ _ (Builtin.Tuple.tupleItemsOf (.ref t) >>= _) _ _ s
  refine wpAny_bind (tupleItemsOf_ ht ?_)
  refine wpAny_bind (wpAny_typeOf hTs ?_)
  rw [if_pos (by decide)]
  refine wpAny_bind (sliceApplied_gen hs pl pu ?_)
  have hyes : ((((sIx items.size 0 lo : Nat) : Int) == 0 && (1 : Int) == 1 && (sIx items.size items.size hi - sIx items.size 0 lo) == items.size) = true) := by
    rw [h0, h1]; simp
  show wpAny _ _ (if (((sIx items.size 0 lo : Nat) : Int) == 0 && (1 : Int) == 1 && (sIx items.size items.size hi - sIx items.size 0 lo) == items.size) = true then _ else _) _ _ s
  rw [if_pos hyes]
  first
    | exact wpAny_bind (wpAny_typeOf hT (wpAny_pure ⟨_, rfl, wpAny_pure h⟩))
    | exact wpAny_pure ⟨_, rfl, wpAny_pure h⟩
    | exact wpAny_bind (wpAny_pure ⟨_, rfl, wpAny_pure h⟩)
    | (wp_walk; exact ⟨_, rfl, wpAny_pure h⟩)
    | (wp_walk; exact ⟨_, rfl, h⟩)
end
end HT
namespace L2
open PySem PySem.Spec PyProof.Rows
def TupF (H : Hp) (a : Addr) (xs : List V) : Prop := ∃ o : Obj, H a = some (.frz o (.tup xs)) ∧ o.cls = .type "tuple" ∧ o.dict = none
theorem TupF.sq {K : PySem.W.Frag} {H : Hp} {a : Addr} {xs : List V} (h : TupF H a xs) : SqT K H a xs := by
  obtain ⟨o, h, _⟩ := h
  exact .inl (.inr ⟨o, h⟩)
theorem TupF.same {H H' : Hp} {a : Addr} {xs : List V} (h : TupF H a xs) (s : Same H H') : TupF H' a xs := by
  obtain ⟨o, h, c⟩ := h
  exact ⟨o, s _ _ h, c⟩
section
variable {X : Cx}
theorem call_tupleF : CallR X (.type "tuple") (fun xs H Q => ∃ p ys, xs = [.ref p] ∧ SqL X.K H p ys ∧ ∀ l H', Same H H' → TupF H' l ys → Q (.ref l) H') := by
  intro pins s σ H xs us Q I r h
  obtain ⟨p, ys, rfl, hq, q⟩ := h
  obtain ⟨u, rfl, rx⟩ := vals1 r
  cases rx
  obtain ⟨its, r', pl, hz⟩ := I.list hq
  have hlen := r'.length
  refine call_tuple_list pl.isList (fun h' kp => ?_) (by simp only [List.size_toArray] <;> omega)
  have I1 : Inv X pins σ H { s with heap := h' } := I.kept (t' := s.toks) kp
  have I2 : Inv X pins σ (upd H h'.objs.size (.frz { cls := .type "tuple", data := .seq its.toArray } (.tup ys))) { s with heap := h'.push { cls := .type "tuple", data := .seq its.toArray } } :=
    I1.laid (t' := s.toks) (fun b o e => Heap.get?_push_of_some _ e) (Nat.le_refl _) (show ObjOk X.prog X.w _ _ _ (.frz _ (.tup ys)) from ⟨Heap.get?_push_size _ rfl, hz, its, r', IsTup.new _ _⟩)
  exact ⟨.ref h'.objs.size, _, I2, rfl, q _ _ (same_new (I1.hok.fresh (Nat.le_refl _)) _) ⟨_, upd_same, rfl, rfl⟩⟩
theorem cutV_all {xs : List V} {lo hi : Option Int} (h0 : HT.sIx xs.length 0 lo = 0) (h1 : HT.sIx xs.length xs.length hi = xs.length) : cutV xs lo hi = xs := by
  unfold cutV
  rw [h0, h1, List.drop_zero, Nat.sub_zero, List.take_length]
theorem sl_tupF : SlR X (fun x lo hi H Q => ∃ a xs, x = .ref a ∧ TupF H a xs ∧ ∀ p H', Same H H' → TupF H' p (cutV xs lo hi) → Q (.ref p) H') := by
  intro pins s σ H x v vl vu lo hi sl Q I rx hs pl pu h
  obtain ⟨a, xs, rfl, hx, q⟩ := h
  cases rx
  obtain ⟨its, r, ht, hz⟩ := I.tuple (hx.sq (K := X.K))
  have hlen : its.toArray.size = xs.length := by rw [List.size_toArray]; exact r.length.symm
  refine ⟨"tuple", _, PyProof.Rows.slot_tuple_getitem.lookup, ht.typeIs, ?_⟩
  by_cases hw : HT.sIx xs.length 0 lo = 0 ∧ HT.sIx xs.length xs.length hi = xs.length
  · refine HT.getItem_tuple_all ht hs pl pu (by rw [hlen]; exact hw.1) (by rw [hlen]; exact hw.2) ⟨.ref a, H, I, rfl, q a H (Same.refl H) ?_⟩
    rw [cutV_all hw.1 hw.2]
    exact hx
  · refine HT.getItem_tuple_cut ht hs pl pu (by rw [hlen]; exact hw) ?_ (by rw [hlen]; exact hz)
    rw [hlen]
    refine ⟨.ref s.heap.objs.size, _, I.laid (t' := s.toks) (o := .frz { cls := .type "tuple", data := .seq ((its.toArray.toList.drop (HT.sIx xs.length 0 lo)).take (HT.sIx xs.length xs.length hi - HT.sIx xs.length 0 lo)).toArray } (.tup (cutV xs lo hi))) (fun b ob q => Heap.get?_push_of_some _ q) (Nat.le_refl _) ?_, rfl,
      q _ _ (same_new (I.hok.fresh (Nat.le_refl _)) _) ⟨_, upd_same, rfl, rfl⟩⟩
    exact ⟨Heap.get?_push_size _ rfl, Nat.le_trans (cutV_length xs lo hi) hz, _, (r.drop (HT.sIx xs.length 0 lo)).take (HT.sIx xs.length xs.length hi - HT.sIx xs.length 0 lo), IsTup.new _ _⟩
theorem countP_eqU {x : V} : ∀ {xs : List V} {us : List Value}, Vals xs us → xs.all flatV = true → us.countP (eqU x) = xs.countP fun y => eqV y x
  | _, _, .nil, _ => rfl
  | y :: xs, u :: us, .cons r t, f => by
    rw [List.all_cons, Bool.and_eq_true] at f
    rw [List.countP_cons, List.countP_cons, eqU_of r f.1, countP_eqU t f.2]
theorem mt_countT : MtR X "tuple.count" (fun x xs H Q => ∃ a ys v, x = .ref a ∧ xs = [v] ∧ SqT X.K H a ys ∧ flatV v = true ∧ ys.all flatV = true ∧ Q (.int (ys.countP fun y => eqV y v : Nat)) H) := by
  intro pins s σ H x xs v us Q I rx rv h
  obtain ⟨a, ys, y, rfl, rfl, ha, f1, f2, q⟩ := h
  cases rx
  obtain ⟨u, rfl, ru⟩ := rv.one
  obtain ⟨its, r, p, hz⟩ := I.tuple ha
  obtain ⟨⟨cls, dd, data, sl⟩, ho, hc, n, hd⟩ := id p
  simp only at hc hd
  subst hc hd
  refine call_meets F.slot_tuple_count ⟨_, ho, rfl⟩ F.entry_tuple_count (F.args_tuple_count_2 _ _) (SeqAt.tuple_countAt a its.toArray n dd sl u (eqU y)) ⟨ho, fun z hz => mem_eqAt ru f1 r f2 z (by simpa using hz), ?_⟩
  refine ⟨.int (ys.countP fun y' => eqV y' y : Nat), H, I.tok _, ?_, q⟩
  rw [← countP_eqU r f2]
  exact ⟨_, rfl⟩
def tBMF (T : String) (r : V → List V → Hp → VK → Prop) (to : TE) (t : TA) : TE := fun σ H Q => to σ H fun x H1 => (∃ a o u, x = .ref a ∧ H1 a = some (.frz o u) ∧ o.cls = .type T ∧ o.dict = none) ∧ t σ H1 fun xs H2 => r x xs H2 Q
variable {o e : Expr} {es : List Expr} {to : TE} {t : TA} {name : Str} {apos cpos : Pos} {T id : String} {r : V → List V → Hp → VK → Prop}
theorem pe_bmF (pa : PlainAttrs T) (slot : Slot T name id) (hty : typeOf (.builtin id) = pure (.type "method_descriptor")) (hm : MtR X id r) (ho : PE X o to) (ha : PA X (e :: es) t)
    (hbase : attributeBase o name X.env (eval o X.env) = eval o X.env := by rfl)
    (hfew : ((backTo cpos (starEach (e :: es) X.env)).all (fun x => !x.1) && (backToKw cpos (keywordEach [] X.env)).all (fun x => x.1.isSome)
      && decide ((e :: es).length + ([] : List Keyword).length + (if ([] : List Keyword).isEmpty then 0 else 1) < 30)) = true := by rfl)
    (hline : (apos.endLine == cpos.line) = true := by rfl) (hs : starEach (e :: es) X.env = (false, eval e X.env) :: starEach es X.env := by rfl) (hplain : (backTo cpos (starEach es X.env)).any (·.1) = false := by rfl) :
    PE X (.Call (.Attribute o name apos) (e :: es) [] cpos) (tBMF T r to t) := by
  intro pins s σ H Q I h
  refine wpAny_Call_method_late hbase hfew hline rfl (thn (ho pins s σ H _ I h) fun v s1 ⟨x, H1, I1, r1, ty, q1⟩ => ?_)
  obtain ⟨a, ob, u, rfl, hH, hc, hd⟩ := ty
  cases r1
  obtain ⟨hg, _⟩ := I1.hok a _ hH
  refine ⟨T, id, pa, slot, hty, ⟨ob, hg, hc⟩, fun b eb => ?_, ?_⟩
  · cases eb
    exact ⟨ob, hg, hd⟩
  have hA := ha cpos pins s1 σ H1 _ I1 q1
  rw [hs] at hA ⊢
  refine Calls.callWith_builtin (by show (false || (backTo cpos (starEach es X.env)).any (·.1)) = false; rw [hplain] <;> rfl) (Calls.evalArgs_plain ?_)
  exact thn hA fun us s2 ⟨vs, H2, I2, r2, q2⟩ => hm pins s2 σ H2 (.ref a) vs (.ref a) us Q I2 rfl r2 q2
end
end L2
namespace L2
open PySem PySem.Spec PyProof.Rows
section
variable {X : Cx}
theorem op_neL (hu : X.A.units + 64 < cLine) : OpR X (compareOp .NotEq) (fun x y H Q => ∃ (a b : Addr) (ns ms : List Int), x = .ref a ∧ y = .ref b ∧ SqL X.K H a (ns.map V.int) ∧ SqL X.K H b (ms.map V.int) ∧ Q (.bl (!decide (ns = ms))) H) := by
  intro pins s σ H x y v u Q I rx ry h
  obtain ⟨a, b, ns, ms, rfl, rfl, ha, hb, q⟩ := h
  cases rx
  cases ry
  obtain ⟨its, r1, p1, _⟩ := I.list ha
  obtain ⟨its2, r2, p2, _⟩ := I.list hb
  exact PySem.W.ke_ne_ints p1.isList p2.isList (intsAre_of r1) (intsAre_of r2) hu ⟨.bl _, H, I, rfl, q⟩
end
end L2
namespace L2
open PySem PySem.Spec PyProof.Rows
theorem dict_mapF (o : Obj) (f : Array Value → Array Value) : (o.mapFields f).dict = o.dict := by
  rcases o with ⟨c, d, dt, sl⟩
  cases dt <;> rfl
def Exc (n : Nat) (h : Heap) (x : Addr) (cls : Value) (dd : Option Addr) (fl : Value) : Prop :=
  ∃ (oe : Obj) (vs : Array Value) (T : Addr) (oT : Obj) (ts : Array Value), (h.get? x = some oe ∧ oe.cls = cls ∧ oe.dict = dd ∧ oe.data = .fields vs ∧ vs[1]? = some (.ref T)) ∧
    (n ≤ T ∧ T ≠ x) ∧ h.get? T = some oT ∧ oT.data = .fields ts ∧ ts[3]? = some fl
structure Fly (n : Nat) (fs : List Addr) (x : Addr) (h h' : Heap) : Prop where
  keep : ∀ b o, h.get? b = some o → b < n → b ≠ x → b ∉ fs → h'.get? b = some o
  slot : ∀ b o, h.get? b = some o → b ∈ fs → ∃ sl, h'.get? b = some { o with slots := sl }
  there : ∀ b o, h.get? b = some o → ∃ o', h'.get? b = some o'
section
variable {n : Nat} {fs : List Addr} {x y : Addr} {h h1 h' : Heap}
theorem Fly.trans (a : Fly n fs x h h1) (b : Fly n fs x h1 h') : Fly n fs x h h' := by
  refine ⟨fun c o q l m k => b.keep c o (a.keep c o q l m k) l m k, fun c o q k => ?_, fun c o q => ?_⟩
  · obtain ⟨sl, e⟩ := a.slot c o q k
    obtain ⟨sl', e'⟩ := b.slot c _ e k
    exact ⟨sl', e'⟩
  · obtain ⟨o', e⟩ := a.there c o q
    exact b.there c o' e
theorem Fly.push (o : Obj) : Fly n fs x h (h.push o) :=
  ⟨fun _ _ q _ _ _ => Heap.get?_push_of_some _ q, fun _ ob q _ => ⟨ob.slots, Heap.get?_push_of_some _ q⟩, fun _ ob q => ⟨ob, Heap.get?_push_of_some _ q⟩⟩
theorem Fly.upd {o : Obj} {vs : Array Value} (f : Array Value → Array Value) (ho : h.get? y = some o) (hd : o.data = .fields vs) (hy : y = x ∨ n ≤ y) (hf : y ∉ fs) : Fly n fs x h (h.update y (Obj.mapFields f)) := by
  have oth : ∀ b ob, b ≠ y → h.get? b = some ob → (h.update y (Obj.mapFields f)).get? b = some ob := fun b ob m q => (Heap.get?_update_other _ _ (Ne.symm m)).trans q
  refine ⟨fun b ob q l m _ => oth b ob (fun z => ?_) q, fun b ob q k => ⟨ob.slots, oth b ob (fun z => hf (z ▸ k)) q⟩, fun b ob q => ?_⟩
  · rcases hy with e | e
    · exact m (z.trans e)
    · exact absurd (Nat.lt_of_lt_of_le l e) (by rw [z]; exact Nat.lt_irrefl _)
  · by_cases z : b = y
    · subst z
      exact ⟨_, Heap.get?_update_self _ ho (Obj.isFreed_of_fields (Obj.data_mapFields hd f))⟩
    · exact ⟨ob, oth b ob z q⟩
theorem Fly.slots (a : Heap.SlotsOnly fs h h') : Fly n fs x h h' := by
  refine ⟨fun b o q _ _ k => (a.2.1 b k).trans q, fun b o q _ => a.2.2 b o q, fun b o q => ?_⟩
  obtain ⟨sl, e⟩ := a.2.2 b o q
  exact ⟨_, e⟩
end
section
variable {M : Model} {A : Around} {E : Value → Shared → Prop} {s : Shared} {base : Heap} {env : Env} {outer : List Env} {L x : Addr} {n : Nat} {Q : Unit → Shared → Prop}
theorem frame_no {oe : Obj} {vs : Array Value} {h : Heap} {l : List Env} (hl : h.FunFrames base l) (he : h.get? x = some oe) (hd : oe.data = .fields vs) : x ∉ frs l := fun z => by
  obtain ⟨_, o, ho, nf⟩ := hl.mem z
  rw [he] at ho
  cases ho
  exact nf vs hd
theorem note_core {oe : Obj} {vs : Array Value} {head : Value} {b : Bool} (hfr : A.frames = some (env :: outer)) (hl : s.heap.FunFrames base (env :: outer)) (hf : env.frame = some L)
    (he : s.heap.get? x = some oe) (hd : oe.data = .fields vs) (hz : 1 < vs.size) (hn : n ≤ s.heap.objs.size)
    (h : ∀ h', Fly n (frs (env :: outer)) x s.heap h' → Exc n h' x oe.cls oe.dict (rawInt L) → Q () { s with heap := h' }) :
    wpAny M A (frameOf env >>= fun a => entryPlaceOf L b >>= fun pl => EntryCells.newEntry head a .none (rawInt L) .none pl >>= fun t => setField (.ref x) 1 t) Q E s := by
  have nx := frame_no hl he hd
  refine wpAny_bind (wpAny_frameOf_fun hfr hl hf fun h₁ a1 => wpAny_bind (wpAny_entryPlaceOf fun pl hp => ?_))
  unfold EntryCells.newEntry newFields
  refine wpAny_bind (wpAny_newObj_type ?_ (hp.sizeOk5 _ _ _ _ _))
  have e1 : h₁.get? x = some oe := (a1.2.1 x nx).trans he
  have hs : h₁.objs.size = s.heap.objs.size := a1.1
  generalize hto : ({ cls := .type "traceback", dict := none, data := .fields ([head, .ref L, .none, rawInt L, .none] ++ (if pl.isEmpty then List.replicate 6 Value.none else pl)).toArray } : Obj) = tb
  have e2 := Heap.get?_push_of_some (h := h₁) tb e1
  refine wpAny_setField e2 hd hz ?_
  have ne : h₁.objs.size ≠ x := Nat.ne_of_gt (Heap.lt_size e1)
  have hd3 := Obj.data_mapFields hd (·.setIfInBounds 1 (Value.ref h₁.objs.size))
  have e3 := Heap.get?_update_self (Obj.mapFields (·.setIfInBounds 1 (Value.ref h₁.objs.size))) e2 (Obj.isFreed_of_fields hd3)
  refine h _ ((Fly.slots a1).trans ((Fly.push tb).trans (.upd _ e2 hd (.inl rfl) nx))) ⟨_, _, h₁.objs.size, tb, _, ⟨e3, Obj.cls_mapFields _ _, dict_mapF _ _, hd3, by simp [hz]⟩, ⟨by rw [hs]; exact hn, ne⟩, ?_, by rw [← hto], ?_⟩
  · refine (Heap.get?_update_other _ _ (Ne.symm ne)).trans (Heap.get?_push_size h₁ ?_)
    rw [← hto]
    rfl
  · first | (simp; done) | (rcases hp with rfl | ⟨_, _, _, _, _, _, _, rfl⟩ <;> simp)
theorem note_first {oe : Obj} {vs : Array Value} (hfr : A.frames = some (env :: outer)) (hl : s.heap.FunFrames base (env :: outer)) (hf : env.frame = some L)
    (he : s.heap.get? x = some oe) (hd : oe.data = .fields vs) (h1 : vs[1]? = some .none) (hn : n ≤ s.heap.objs.size)
    (h : ∀ h', Fly n (frs (env :: outer)) x s.heap h' → Exc n h' x oe.cls oe.dict (rawInt L) → Q () { s with heap := h' }) : wpAny M A (noteFrame (.ref x) env) Q E s := by
  unfold noteFrame
  simp only [hf]
  refine wpAny_bind (wpAny_field he hd h1 ?_)
  rw [if_neg (by decide)]
  exact note_core hfr hl hf he hd (Array.getElem?_eq_some_iff.mp h1).1 hn h
theorem note_next {cls : Value} {dd : Option Addr} (hfr : A.frames = some (env :: outer)) (hl : s.heap.FunFrames base (env :: outer)) (hf : env.frame = some L) (ex : Exc n s.heap x cls dd .none)
    (h : ∀ h', Fly n (frs (env :: outer)) x s.heap h' → Exc n h' x cls dd (rawInt L) → Q () { s with heap := h' }) : wpAny M A (noteFrame (.ref x) env) Q E s := by
  obtain ⟨oe, vs, T, oT, ts, ⟨he, rfl, rfl, hd, h1⟩, ⟨nT, Tx⟩, hT, hdT, h3⟩ := ex
  unfold noteFrame
  simp only [hf]
  refine wpAny_bind (wpAny_field he hd h1 ?_)
  rw [if_pos (show (Value.ref T != Value.none) = true from by simp)]
  refine wpAny_bind (wpAny_field hT hdT h3 ?_)
  rw [if_neg (show ¬ ((Value.none == rawInt L) = true) from by simp [rawInt])]
  refine wpAny_bind (wpAny_setField hT hdT (Array.getElem?_eq_some_iff.mp h3).1 ?_)
  have tf := frame_no hl hT hdT
  have fl : Fly n (frs (env :: outer)) x s.heap (s.heap.update T (Obj.mapFields (·.setIfInBounds 3 Value.none))) := .upd _ hT hdT (.inr nT) tf
  have oth : ∀ c, c ≠ T → (s.heap.update T (Obj.mapFields (·.setIfInBounds 3 Value.none))).get? c = s.heap.get? c := fun c m => Heap.get?_update_other _ _ (Ne.symm m)
  refine note_core hfr (hl.of_keeps fun c o q nf => ⟨o, (oth c fun z => ?_).trans q, rfl⟩) hf ((oth x (Ne.symm Tx)).trans he) hd (Array.getElem?_eq_some_iff.mp h1).1 ?_ fun h' f e => h h' (fl.trans f) e
  · rw [z, hT] at q
    cases q
    exact nf ts hdT
  · have l1 := Heap.lt_size hT
    rw [Heap.size_update]
    exact Nat.le_trans nT (Nat.le_of_lt l1)
theorem flight {cls fl : Value} {dd : Option Addr} {fs : List Addr} (to : Option Addr) (hl : ∀ T oT ts, s.heap.get? T = some oT → oT.data = .fields ts → T ∉ fs) (ex : Exc n s.heap x cls dd fl)
    (h : ∀ h', Fly n fs x s.heap h' → Exc n h' x cls dd (to.elim .none fun f => rawInt f) → Q () { s with heap := h' }) : wpAny M A (setFlight (.ref x) to) Q E s := by
  obtain ⟨oe, vs, T, oT, ts, ⟨he, rfl, rfl, hd, h1⟩, ⟨nT, Tx⟩, hT, hdT, h3⟩ := ex
  have h3' := (Array.getElem?_eq_some_iff.mp h3).1
  unfold setFlight
  refine wpAny_bind (wpAny_field he hd h1 ?_)
  rw [if_pos (show (Value.ref T != Value.none) = true from by simp)]
  refine wpAny_setField hT hdT h3' (h _ (.upd _ hT hdT (.inr nT) (hl T oT ts hT hdT)) ⟨oe, vs, T, _, _, ⟨(Heap.get?_update_other _ _ Tx).trans he, rfl, rfl, hd, h1⟩, ⟨nT, Tx⟩, Heap.get?_update_self _ hT (Obj.isFreed_of_fields (Obj.data_mapFields hdT _)), Obj.data_mapFields hdT _, by simp [h3']⟩)
end
end L2
namespace L2
open PySem PySem.Spec PyProof.Rows
section
variable {P : Program} {w : World} {fs fs' : List Addr} {H₀ H : Hp} {h₀ h h' : Heap} {x : Addr} {n : Nat}
theorem Un.fly (u : Un fs [] H₀ H h₀ h) (f : Fly n fs' x h h') (hs : ∀ b ∈ fs', b ∈ fs ∨ h₀.get? b = none) (hx : h₀.get? x = none) (hn : h₀.objs.size ≤ n) : Un fs [] H₀ H h₀ h' := by
  have lt : ∀ b o, h₀.get? b = some o → b < n := fun b o q => Nat.lt_of_lt_of_le (Heap.lt_size q) hn
  have nx : ∀ b o, h₀.get? b = some o → b ≠ x := fun b o q z => by rw [z, hx] at q; cases q
  refine ⟨fun b o q m k z => f.keep b o (u.keep b o q m k z) (lt b o q) (nx b o q) (fun y => (hs b y).elim k fun y' => by rw [y'] at q; cases q), fun b o q m k z => ?_, u.free, fun b o q k => ?_, u.tups, u.frzs, u.tbls⟩
  · obtain ⟨sl, e⟩ := u.slot b o q m k z
    by_cases y : b ∈ fs'
    · obtain ⟨sl', e'⟩ := f.slot b _ e y
      exact ⟨sl', e'⟩
    · exact ⟨sl, f.keep b _ e (lt b o q) (nx b o q) y⟩
  · obtain ⟨o', e⟩ := u.there b o q k
    exact f.there b o' e
theorem HOk.fly (k : HOk P w H h) (f : Fly n fs' x h h') (hn : ∀ b u, H b = some u → b < n) (hx : H x = none) (hf : ∀ b ∈ fs', H b = none) : HOk P w H h' := fun a o e => by
  have kp : ∀ b u, H b = some u → ∀ ob, h.get? b = some ob → h'.get? b = some ob := fun b u q ob hb => f.keep b ob hb (hn b u q) (ne_of_none q hx) fun z => by rw [hf b z] at q; cases q
  refine (k a o e).stay (fun b u z q => ?_) (fun _ q => q) fun _ _ q => q
  rcases z with rfl | z
  · exact kp _ _ e u q
  · exact kp _ _ z u q
end
structure Out (P : Program) (w : World) (outer : List Env) (H : Hp) (s : Shared) (x : Addr) (cls : Value) (dd : Option Addr) (n : Nat) (H' : Hp) (fl : Value) (s' : Shared) : Prop where
  os : s'.os = s.os
  bare : AllBare s'.gens
  un : Un (frs outer) [] H H' s.heap s'.heap
  hok : HOk P w H' s'.heap
  exc : Exc n s'.heap x cls dd fl
  free : H' x = none
  new : s.heap.get? x = none
  old : s.heap.objs.size ≤ n
  low : ∀ b u, H' b = some u → b < n
def CX1 (P : Program) (w : World) : CXT := fun outer H s E e s' => ∃ (x : Addr) (cls : Value) (dd : Option Addr) (n : Nat) (H' : Hp), e = .ref x ∧ Out P w outer H s x cls dd n H' .none s' ∧ E cls dd H'
section
variable {X : Cx} {pins : List (Addr × Obj)} {σ : St} {H H' : Hp} {s s' : Shared} {x : Addr} {cls fl : Value} {dd : Option Addr} {n : Nat}
structure Away (X : Cx) (pins : List (Addr × Obj)) (σ : St) (H : Hp) (s : Shared) (x : Addr) (cls : Value) (dd : Option Addr) (n : Nat) (fl : Value) : Prop where
  inv : Inv X pins σ H s
  exc : Exc n s.heap x cls dd fl
  free : H x = none
  new : X.s₀.heap.get? x = none
  old : X.s₀.heap.objs.size ≤ n
  low : ∀ b u, H b = some u → b < n
  loc : X.env.locals < n
end
theorem leaves {X : Cx} {pins : List (Addr × Obj)} {σ : St} {H : Hp} {s : Shared} {x : Addr} {E : XK} {M : Model} (I : Inv X pins σ H s) (hex : X.ex = []) (hst : X.stack = X.env :: X.outer) (hfm : X.env.frame = some X.env.locals)
    (note : ∀ Q : Unit → Shared → Prop, (∀ cls dd n h', Fly n (frs X.stack) x s.heap h' → Exc n h' x cls dd (rawInt X.env.locals) → X.s₀.heap.objs.size ≤ n → (∀ b u, H b = some u → b < n) → E cls dd H → Q () { s with heap := h' }) →
      wpAny M X.A (noteFrame (.ref x) X.env) Q (fun _ _ => False) s)
    (hx : H x = none) (nx : X.s₀.heap.get? x = none) :
    wpAny M X.A (leaving X.env (.ref x)) (fun _ s'' => CX1 X.prog X.w X.outer X.H₀ X.s₀ E (.ref x) s'') (fun e s'' => CX1 X.prog X.w X.outer X.H₀ X.s₀ E e s'') s := by
  unfold leaving
  refine wpAny_bind (wpAny_mono (note _ fun cls dd n h' f e ho hl q => ?_) (fun _ _ z => z) fun _ _ z => z.elim)
  have fsm : ∀ b ∈ frs X.stack, H b = none := I.stkFree
  have hun : ∀ h'', Fly n (frs X.stack) x s.heap h'' → Un (frs X.outer) [] X.H₀ H X.s₀.heap h'' := fun h'' f2 => by
    have u := I.base
    rw [hex] at u
    refine u.fly f2 (fun b hb => ?_) nx ho
    rcases List.mem_cons.mp (I.stkSub b hb) with z | z
    · right
      rw [z]
      exact Heap.get?_none_of_le I.ok.above
    · exact .inl z
  have nr : ∀ T oT ts, h'.get? T = some oT → oT.data = .fields ts → T ∉ frs X.stack := fun T oT ts h1 h2 hb => by
    obtain ⟨_, o, h3, h4⟩ := I.stack.mem hb
    obtain ⟨sl, h5⟩ := f.slot T o h3 hb
    rw [h5] at h1
    cases h1
    exact h4 ts h2
  refine flight none nr e fun h'' f2 e2 => ?_
  have f3 := f.trans f2
  exact ⟨x, cls, dd, n, H, rfl, ⟨I.os, I.bare, hun h'' f3, I.hok.fly f3 hl hx fsm, e2, hx, nx, ho, hl⟩, q⟩
end L2
namespace L2
open PySem PySem.Spec PyProof.Rows
theorem ObjOk.some {P : Program} {w : World} {H : Hp} {h : Heap} {a : Addr} {o : HO} (x : ObjOk P w H h a o) : ∃ ob, h.get? a = some ob := by
  cases o with
  | lst xs => obtain ⟨_, _, _, _, e⟩ := x; exact ⟨_, e⟩
  | tup xs => obtain ⟨_, _, _, ob, e, _⟩ := x; exact ⟨ob, e⟩
  | dK kvs => obtain ⟨_, _, _, _, ob, _, _, e, _⟩ := x; exact ⟨ob, e⟩
  | dT kvs => obtain ⟨_, _, _, _, ob, _, _, e, _⟩ := x; exact ⟨ob, e⟩
  | set S n => obtain ⟨ob, _, _, _, e, _⟩ := x; exact ⟨ob, e⟩
  | ins C dx fs => obtain ⟨_, _, _, e, _⟩ := x; exact ⟨_, e⟩
  | own y => obtain ⟨ob, e⟩ := x; exact ⟨ob, e⟩
  | xd fs => obtain ⟨_, ⟨ob, _, _, e, _⟩, _⟩ := x; exact ⟨ob, e⟩
  | rng lo hi => obtain ⟨_, _, _, e⟩ := x; exact ⟨_, e⟩
  | frz ob u => obtain ⟨e, _⟩ := x; exact ⟨ob, e⟩
  | tbl ps => exact ⟨_, x⟩
  | met f y => exact ⟨_, x⟩
  | ext φ => obtain ⟨_, e, _⟩ := x; exact e
theorem Inv.newFree {X : Cx} {pins : List (Addr × Obj)} {σ : St} {H : Hp} {s : Shared} {a : Addr} (I : Inv X pins σ H s) (h : s.heap.get? a = none) : H a = none := by
  cases q : H a with
  | none => rfl
  | some o =>
    obtain ⟨ob, e⟩ := (I.hok a o q).some
    rw [h] at e
    cases e
theorem Inv.newOld {X : Cx} {pins : List (Addr × Obj)} {σ : St} {H : Hp} {s : Shared} {a : Addr} (I : Inv X pins σ H s) (hex : X.ex = []) (h : s.heap.get? a = none) : X.s₀.heap.get? a = none := by
  cases q : X.s₀.heap.get? a with
  | none => rfl
  | some o =>
    obtain ⟨ob, e⟩ := I.base.there a o q (by rw [hex]; simp)
    rw [h] at e
    cases e
theorem own_exc {K : PySem.W.Frag} {h : Heap} {mg : Str → Option Value} {x : Str} {C : Addr} {tl : List Value} {nw : String} (KX : K.In h) (m : mg x = some (.ref C)) (q : PySem.W.excIn K C tl nw = true) : OwnCls x C tl nw mg h := by
  refine ⟨m, ?_⟩
  unfold PySem.W.excIn at q
  split at q
  case h_2 => cases q
  rename_i dd cd sl lk
  split at q
  case h_2 => cases q
  rename_i c2 bm k0 k1 k2 k3 nm k5 hm hs
  simp only [Bool.and_eq_true, beq_iff_eq, Bool.not_eq_true'] at q
  obtain ⟨⟨⟨⟨⟨q1, q2⟩, q3⟩, q4⟩, q5⟩, q6⟩ := q
  subst q1 q2
  obtain ⟨a1, a2, a3, a4, a5, a6, a7, a8, a9, a10, a11⟩ := cd
  simp only at hm q3 q5 q6
  subst hm q3
  have z : sl = #[k0, k1, k2, k3, some (.builtin nm), k5] := Array.ext' hs
  subst z
  exact ⟨_, a4, _, _, _, _, _, _, _, _, _, _, _, _, _, _, _, KX _ _ lk, .of_isNs (PySem.W.isNs_of_in KX q5), PySem.W.nsMap_none_of_in KX q5 q6, PySem.W.tail_of_in KX q4⟩
structure Lv (X : Cx) (E : XK) : Prop where
  xe : X.xe = fun e s' => wpAny (model X.prog X.w) X.A (leaving X.env e) (fun _ s'' => CX1 X.prog X.w X.outer X.H₀ X.s₀ E e s'') (fun e' s'' => CX1 X.prog X.w X.outer X.H₀ X.s₀ E e' s'') s'
  ex : X.ex = []
  stack : X.stack = X.env :: X.outer
  frame : X.env.frame = some X.env.locals
  calm : X.calm = true
section
variable {X : Cx} {E : XK} {x : Str} {C : Addr} {e : Expr} {es : List Expr} {t : TA} {np cpos pos : Pos} {B nw it : String} {tl : List Value}
def tRaise (C : Addr) (E : XK) (t : TA) : TS := fun _ σ H => t σ H fun vs H1 => vs.length ≤ sizeLine ∧ E (.ref C) none H1
theorem ps_raise (l : Lv X E) (F : ExcBaseFacts B nw it tl) (O : OwnCls x C tl nw X.mg X.base) (hg : Gl X x) (ha : PA X (e :: es) t) (hdb : (x == ("__debug__" : Str)) = false := by decide)
    (he : starEach (e :: es) X.env = (false, eval e X.env) :: starEach es X.env := by rfl) (hpl : (backTo cpos (starEach es X.env)).any (·.1) = false := by rfl) :
    PS X (.Raise (some (.Call (.Name x np) (e :: es) [] cpos)) none pos) (tRaise C E t) := by
  intro pins s σ H D I h
  obtain ⟨bm, N, nm, q, bs, hdct, sn, sub, ab, col, dd, k0, k1, k2, k3, k5, mN, hC, hN, hni, T⟩ := O.obj
  have hp2 : (backTo cpos (starEach (e :: es) X.env)).any (·.1) = false := by
    rw [he]
    show (false || (backTo cpos (starEach es X.env)).any (·.1)) = false
    rw [hpl]
    rfl
  refine wpAny_Raise_call_subT F (C := C) (nm := nm) (q := q) (N := N) (bs := bs) (bm := bm) (hdct := hdct) (sn := sn) (sub := sub) (ab := ab) (col := col) (dd := dd) (k0 := k0) (k1 := k1) (k2 := k2) (k3 := k3) (k5 := k5) (mN := mN)
    (T.hasType F.hasBase) (I.ok.hd l.calm) hp2 hni (ld_glob I hg O.bound ⟨rfl, ?_⟩ hdb)
  have h0 := ha cpos pins s σ H _ I h
  rw [he] at h0 ⊢
  refine Calls.evalArgs_plain (thn h0 fun us s2 ⟨vs, H1, I1, r, q1, q2⟩ => ⟨rfl, ?_, I1.bk _ _ hC, hN.keeps I1.bk, T.keeps I1.bk, fun h' ex hm => ?_⟩)
  · show us.length ≤ sizeLine
    rw [← r.length]
    exact q1
  · have J : Inv X pins σ H1 { s2 with heap := h' } := I1.kept (t' := s2.toks) hm.keeps
    obtain ⟨tp, hx, _, _⟩ := hm.there
    rw [l.xe]
    have st := J.stack
    rw [l.stack] at st
    have hfr := J.ok.frames
    rw [l.stack] at hfr
    refine leaves J l.ex l.stack l.frame (fun Q hQ => ?_) (I1.newFree hm.new) (I1.newOld l.ex hm.new)
    rw [l.stack] at hQ
    exact note_first (n := h'.objs.size) hfr st l.frame hx rfl rfl (Nat.le_refl _) fun h'' f ec => hQ _ _ _ h'' f ec J.sz (fun b u z => J.hok.lt z) q2
end
end L2
namespace L2
open PySem PySem.Spec PyProof.Rows
def ExcO (x : Addr) (cls : Value) (dd : Option Addr) : HO := .ext fun h => ∃ o vs, h.get? x = some o ∧ o.cls = cls ∧ o.dict = dd ∧ o.data = .fields vs
theorem Exc.seen {P : Program} {w : World} {H : Hp} {n : Nat} {h : Heap} {x : Addr} {cls fl : Value} {dd : Option Addr} (e : Exc n h x cls dd fl) : ObjOk P w H h x (ExcO x cls dd) := by
  obtain ⟨oe, vs, T, oT, ts, ⟨he, h1, h2, h3, _⟩, _⟩ := e
  refine ⟨⟨oe, vs, he, h1, h2, h3⟩, ⟨oe, he⟩, fun h1 h2 ⟨o, us, z, r⟩ k => ⟨o, us, k o z, r⟩⟩
section
variable {P : Program} {w : World} {fs : List Addr} {H H' : Hp} {h h' : Heap} {x : Addr} {o : HO}
theorem Un.track (u : Un fs [] H H' h h') (hx : h.get? x = none) (hn : H x = none) : Un fs [] H (upd H' x o) h h' := by
  have nx : ∀ b ob, h.get? b = some ob → b ≠ x := fun b ob q z => by rw [z, hx] at q; cases q
  refine ⟨u.keep, u.slot, fun b ob q m k => ?_, u.there, fun b xs q => ?_, fun b ob v q => ?_, fun b ps q => ?_⟩
  · rw [upd_ne (nx b ob q)]
    exact u.free b ob q m k
  · rw [upd_ne (ne_of_none q hn)]
    exact u.tups b xs q
  · rw [upd_ne (ne_of_none q hn)]
    exact u.frzs b ob v q
  · rw [upd_ne (ne_of_none q hn)]
    exact u.tbls b ps q
theorem HOk.track (k : HOk P w H h) (hn : H x = none) (new : ObjOk P w (upd H x o) h x o) : HOk P w (upd H x o) h := fun b u e => by
  by_cases hb : b = x
  · subst hb
    rw [upd_same] at e
    cases e
    exact new
  · rw [upd_ne hb] at e
    exact (k b u e).stay (fun c v _ q => q) (fun c q => by rw [upd_ne (ne_of_none q hn)]; exact q) fun c xs q => by rw [upd_ne (ne_of_none q hn)]; exact q
end
abbrev Cx.hand (X : Cx) (x : Addr) : Cx := { X with A := X.A.mark (some (.ref x)), calm := false, xe := fun _ _ => False }
section
variable {X : Cx} {pins : List (Addr × Obj)} {σ : St} {H : Hp} {s : Shared} {x : Addr}
theorem Cx.Ok.hand (ok : X.Ok) : (X.hand x).Ok :=
  ⟨ok.mod, ok.kind, ok.glob, ok.blt, ok.above, ok.inj, ok.has, ok.cab, (fun z => nomatch z), ok.frames, ok.stk, ok.exf, ok.bs, ok.bsz, ok.noex, ok.exfs, ok.funs, ok.frf⟩
theorem Inv.hand (I : Inv X pins σ H s) : Inv (X.hand x) pins σ H s := ⟨I.ok.hand, I.os, I.bare, I.base, I.loc, I.cell, I.free, I.freeC, I.pin, I.hok, I.len⟩
theorem Inv.unhand (ok : X.Ok) (I : Inv (X.hand x) pins σ H s) : Inv X pins σ H s := ⟨ok, I.os, I.bare, I.base, I.loc, I.cell, I.free, I.freeC, I.pin, I.hok, I.len⟩
theorem gone_ok {M : Model} {A : Around} {E : Value → Shared → Prop} {i : Nat} {n : Str} {pos : Pos} {Q : Unit → Shared → Prop} (I : Inv X pins σ H s) (hN : X.N.Nodup) (hi : X.N[i]? = some n) (hk : X.env.scope.names.lookup n = some .local)
    (h : ∀ s', Inv X pins (σ.set i none) H s' → Q () s') : wpAny M A (bindName X.env n .none >>= fun _ => unbindBehindTheSuite X.env n pos) Q E s := by
  obtain ⟨m, hn, hl⟩ := id I.loc
  have hiσ : i < σ.length := by rw [I.len]; exact (List.getElem?_eq_some_iff.mp hi).1
  have hcls : (X.env.scope.kind == .class || (X.env.scope.kind == .module && X.env.locals != X.env.globals)) = false := by rw [I.ok.kind]; rfl
  have ab : ∀ b o, X.s₀.heap.get? b = some o → b ≠ X.env.locals := fun b o e => Nat.ne_of_lt (Nat.lt_of_lt_of_le (Heap.lt_size e) I.ok.above)
  refine wpAny_nameGoes_keeps hk hn hcls fun h' v hn' hs => h _ ⟨I.ok, I.os, I.bare, ⟨fun b o e n hb hx => ?_, fun b o e n hb hx => ?_, I.base.free, fun b o e hx => ?_, I.base.tups, I.base.frzs, I.base.tbls⟩, ⟨_, hn', fun j y v' e1 e2 e3 => ?_⟩, fun y c e => ?_, I.free, I.freeC, fun p hp => ?_, fun b ob e => ?_, by simpa using I.len⟩
  · exact (hs.2 b (ab b o e)).trans (I.base.keep b o e n hb hx)
  · obtain ⟨sl, e1⟩ := I.base.slot b o e n hb hx
    exact ⟨sl, (hs.2 b (ab b o e)).trans e1⟩
  · obtain ⟨o', e1⟩ := I.base.there b o e hx
    exact ⟨o', (hs.2 b (ab b o e)).trans e1⟩
  · by_cases hj : j = i
    · subst hj
      rw [List.getElem?_set_self hiσ] at e2
      cases e2
    · rw [List.getElem?_set_ne (Ne.symm hj)] at e2
      obtain ⟨u', r', q⟩ := hl j y v' e1 e2 e3
      refine ⟨u', r', ?_⟩
      rcases q with ⟨k, e⟩ | ⟨k, c, e, z⟩
      · refine .inl ⟨k, ?_⟩
        have : y ≠ n := fun e => hj (nodup_ix hN e1 (e ▸ hi))
        simp [this, e]
      · exact .inr ⟨k, c, e, z.sameBut hs (I.cne y c e)⟩
  · obtain ⟨w', z⟩ := I.cell y c e
    exact ⟨w', z.sameBut hs (I.cne y c e)⟩
  · obtain ⟨e, n, ne, nf, d⟩ := I.pin p hp
    exact ⟨(hs.2 p.1 ne).trans e, n, ne, nf, d⟩
  · refine (I.hok b ob e).stay (fun c w' hc q => (hs.2 c ?_).trans q) (fun _ q => q) fun _ _ q => q
    rintro rfl
    rcases hc with hc | hc
    · rw [← hc, I.free] at e
      cases e
    · rw [I.free] at hc
      cases hc
end
section
variable {X : Cx} {k i : Nat} {f C2 : Addr} {fd : FuncData} {ps : List Str} {sp : Sp} {fx cx n : Str} {p p2 pos cpos epos hpos : Pos} {e : Expr} {es : List Expr} {t : TA} {b₀ : Stmt} {suite : List Stmt} {u : TS}
theorem call_any {pins : List (Addr × Obj)} {s : Shared} {σ : St} {H : Hp} {Q : VK} {E : XK} {EX : Value → Shared → Prop} (F : FnOk X.prog X.w X.K X.mg X.base (CX1 X.prog X.w) k f fd ps sp) (hr : Room k X.A) (hg : Gl X fx) (hm : X.mg fx = some (.ref f))
    (hk : PySem.W.keepIn X.K (.ref f) = true) (hb : Binds X.K fd ps []) (ha : PA X.nox (e :: es) t) (I : Inv X pins σ H s) (h : t σ H fun vs H1 => sp vs H1 Q E)
    (hx : ∀ H1 s1 ev s', Inv X pins σ H1 s1 → CX1 X.prog X.w X.stack H1 s1 E ev s' → EX ev s') (hdb : (fx == ("__debug__" : Str)) = false := by decide)
    (he : starEach (e :: es) X.env = (false, eval e X.env) :: starEach es X.env := by rfl) (hpl : (backTo pos (starEach es X.env)).any (·.1) = false := by rfl) :
    wpAny (model X.prog X.w) X.A (eval (.Call (.Name fx p) (e :: es) [] pos) X.env) (EP X pins σ Q) EX s := by
  refine wpAny_Call_Name_kw (ld_glob I hg hm ?_ hdb)
  refine PySem.W.callWith_K (h₀ := X.base) I.ok.mod.kin hk (wpAny_mono (ha pos pins s σ H _ (I.wish _) h) (fun us s1 ⟨vs, H1, I1, r, q⟩ => ⟨I1.unwish.kIn, ?_⟩) fun _ _ z => z.elim) he hpl
  have J := I1.unwish
  have hl : us.length = ps.length := by rw [← r.length]; exact F.len _ _ _ _ q
  have hb' : BindsTo s1 fd ⟨us, []⟩ (ps.zip us) := by
    have z := hb s1 us J.kIn (by rw [List.append_nil]; exact hl)
    rwa [List.append_nil] at z
  refine wpAny_call (codeAny_mono (F.run X.A X.stack s1 H1 ⟨us, []⟩ us vs Q E hr J.env0 hb' r q) fun r s' hq => ?_)
  cases r with
  | error ev => exact hx H1 s1 ev s' J hq
  | ok fl =>
    cases fl with
    | ret v => exact J.after hq
    | next => exact False.elim hq
    | brk => exact False.elim hq
    | cont => exact False.elim hq
end
end L2
namespace L2
open PySem PySem.Spec PyProof.Rows
structure ECls (K : PySem.W.Frag) (C : Addr) : Prop where
  ga : PySem.W.findIn K (.ref C) "__getattribute__" = some (some (.builtin "BaseException.__getattribute__"))
  gh : PySem.W.findIn K (.ref C) "__getattr__" = some none
  sb : PySem.W.subIn K (.ref C) (.type "BaseException") = some true
  cl : PySem.W.isClsIn K C = true
  fi : PySem.W.findIn K (.ref C) "__class__" = some (some (.builtin "object.__class__"))
  sp : PySem.W.specialIn K (.builtin "object.__class__") "__get__" = some (some (.builtin "getset_descriptor.__get__"))
  tk : PySem.W.takesIn K (.builtin "object.__class__") = some true
  mr : PySem.W.mroIn K C (.type "object") = some true
section
variable {prog : Program} {w : World} {A : Around} {E : Value → Shared → Prop} {s : Shared} {K : PySem.W.Frag} {x C : Addr} {ox : Obj} {od : Option Obj}
theorem exc_found (c : ECls K C) : PySem.W.findObj K C od "__class__" = some (.bind (.builtin "getset_descriptor.__get__") (.builtin "object.__class__")) := by
  obtain ⟨cd, hcd⟩ := Option.isSome_iff_exists.mp (show (PySem.W.clsIn K C).isSome = true from c.cl)
  unfold PySem.W.findObj
  rw [hcd, Option.bind_some, c.fi, Option.bind_some]
  simp [c.sp, c.tk]
theorem exc_check {M : Model} {nv : Value} {Q : Unit → Shared → Prop} (c : ECls K C) (X : K.In s.heap) (I : PySem.W.InstAt s.heap x ox C od) (q : Q () s) : wpAny M A (checkBuiltinCall "BaseException.__getattribute__" ⟨[.ref x, nv], []⟩) Q E s := by
  have k1 : builtinKind "BaseException.__getattribute__" = some .slot := by decide +kernel
  have k2 : splitId "BaseException.__getattribute__" = some ("BaseException", "__getattribute__") := by decide +kernel
  have k3 := F.args_bexc_ga (.ref x) nv
  have L : PySem.W.Looks M s.heap (isInstance (.ref x) (.type "BaseException")) true := (I.type (M := M)).andThen (PySem.W.looks_subIn X c.sb)
  obtain ⟨hh, g, d, t, os⟩ := s
  simp only [checkBuiltinCall, k1, k2]
  refine wpAny_bind (L.at ?_)
  repeat (first | assumption | wp_step)
theorem exc_get {tok : Tok} {Q : Fin → Shared → Prop} (c : ECls K C) (X : K.In s.heap) (I : PySem.W.InstAt s.heap x ox C od) (q : Q (.done (.ret (.ref C))) s) :
    wpAny (model prog w) A (Builtin.«object.__getattribute__» ⟨[.ref x, .str "__class__" tok], []⟩) Q E s := by
  have L0 := I.type (M := model prog w)
  have L1 := PySem.W.looks_find (M := model prog w) X I (exc_found (od := od) c)
  have cg : ∀ (A : Around) (R : Result → Shared → Prop), R (.ok (.ret (.ref C))) s → codeAny (model prog w) A (.call (.builtin "getset_descriptor.__get__") ⟨[.builtin "object.__class__", .ref x, .ref C], []⟩) R s := fun A R r => PySem.W.class_get X I c.mr r
  obtain ⟨hh, g, d, t, os⟩ := s
  repeat (any_goals (first | assumption | with_reducible refine L0.at ?_ | with_reducible refine L1.at ?_ | wp_step))
  refine cg _ _ ?_
  repeat (any_goals (first | assumption | wp_step))
theorem exc_class {Q : Option Value → Shared → Prop} (c : ECls K C) (X : K.In s.heap) (I : PySem.W.InstAt s.heap x ox C od) (q : Q (some (.ref C)) { s with toks := s.toks + 1 }) : wpAny (model prog w) A (getAttr? (.ref x) "__class__") Q E s := by
  have L0 := I.type (M := model prog w)
  have L1 := PySem.W.looks_findIn (M := model prog w) X c.ga
  have L2 := PySem.W.looks_findIn (M := model prog w) X c.gh
  have f3 := F.attr_ValueError.ga.bind (.ref x)
  have f4 : (Value.builtin "BaseException.__getattribute__" == Value.builtin "object.__getattribute__") = false := by decide +kernel
  have f5 : (onTheHeap (Value.ref C) && Value.builtin "BaseException.__getattribute__" == Value.builtin "object.__getattribute__") = false := by rw [f4]; rfl
  have f6 : (false && onTheHeap (Value.builtin "BaseException.__getattribute__")) = false := rfl
  have cg : ∀ (A : Around) (tok : Tok) (R : Result → Shared → Prop), R (.ok (.ret (.ref C))) { s with toks := s.toks + 1 } → codeAny (model prog w) A (.call (.builtin "BaseException.__getattribute__") ⟨[.ref x, .str "__class__" tok], []⟩) R { s with toks := s.toks + 1 } := fun A tok R r =>
    codeAny_call_builtin F.attr_ValueError.ga.plain F.entry_bexc_ga (exc_check (s := { s with toks := s.toks + 1 }) c X I (exc_get (s := { s with toks := s.toks + 1 }) c X I r))
  obtain ⟨hh, g, d, t, os⟩ := s
  unfold getAttr? getAttrBy?
  repeat (any_goals (first | assumption | with_reducible refine L0.at ?_ | with_reducible refine L1.at ?_ | with_reducible refine L2.at ?_ | wp_step))
  refine cg _ _ _ ?_
  repeat (any_goals (first | assumption | wp_step))
end
theorem ECls.kit {K : PySem.W.Frag} {C x : Addr} (c : ECls K C) : PySem.W.KitX K (.ref x) (.ref C) (fun h => ∃ ox od, PySem.W.InstAt h x ox C od) := by
  obtain ⟨cd, hcd⟩ := Option.isSome_iff_exists.mp (show (PySem.W.clsIn K C).isSome = true from c.cl)
  have lk : ∃ c' d' sl', K.lookup C = some ⟨c', d', .cls cd, sl'⟩ := by
    unfold PySem.W.clsIn at hcd
    split at hcd
    · rename_i c' d' cd' sl' ho
      cases hcd
      exact ⟨_, _, _, ho⟩
    · cases hcd
  obtain ⟨c', d', sl', lk⟩ := lk
  refine ⟨fun _ _ _ ⟨_, _, I⟩ => I.type, fun M h X _ A Q E s k q => ?_, fun h tp dd its n sl X htp => ?_, fun {prog w A E Q s} X ⟨ox, od, I⟩ q => ?_⟩
  · unfold isType loadHead
    exact wpAny_bind (wpAny_loadPart (k _ _ (X _ _ lk)) (wpAny_pure q))
  · refine Bool.eq_false_iff.mpr fun q => ?_
    have e : C = tp := Value.ref.inj (beq_iff_eq.mp q)
    subst e
    have z := (X _ _ lk).symm.trans htp
    cases z
  · exact exc_class c X I q
def EAt (K : PySem.W.Frag) (H : Hp) (x C : Addr) : Prop := ECls K C ∧ ∃ dd, H x = some (ExcO x (.ref C) dd) ∧ ∀ dx, dd = some dx → ∃ o, H dx = some o
theorem Inv.eat {X : Cx} {pins : List (Addr × Obj)} {σ : St} {H : Hp} {s : Shared} {x C : Addr} (I : Inv X pins σ H s) (h : EAt X.K H x C) : ∃ ox od, PySem.W.InstAt s.heap x ox C od := by
  obtain ⟨_, dd, hx, hd⟩ := h
  obtain ⟨⟨o, vs, h1, h2, h3, h4⟩, _⟩ := (show ObjOk X.prog X.w H s.heap x (ExcO x (.ref C) dd) from I.hok x _ hx)
  have no : PySem.W.notCls o = true := by
    obtain ⟨a, b, c, d⟩ := o
    simp only at h4
    subst h4
    rfl
  cases dd with
  | none => exact ⟨o, none, h1, h2, no, by rw [h3]; trivial⟩
  | some dx =>
    obtain ⟨u, hu⟩ := hd dx rfl
    obtain ⟨od, ho⟩ := (I.hok dx u hu).some
    exact ⟨o, some od, h1, h2, no, by rw [h3]; exact ho⟩
inductive ClsV : V → Value → Prop where
  | own (D : Addr) : ClsV (.ref D) (.ref D)
  | ty (T : String) : ClsV (.ty T) (.type T)
theorem ClsV.eq {v : V} {c u : Value} (h : ClsV v c) (r : RelV v u) : u = c := by
  cases h with
  | own D => exact r
  | ty T => exact r
theorem ClsV.all : ∀ {vs : List V} {cs us : List Value}, Paired ClsV vs cs → Vals vs us → us = cs := by
  intro vs cs us h r
  induction h generalizing us with
  | nil => cases r; rfl
  | cons h1 _ ih =>
    cases r with
    | cons r1 r2 => rw [h1.eq r1, ih r2]
section
variable {X : Cx}
theorem call_isE {K : PySem.W.Frag} (hK : X.K = K) : CallR X (.builtin "isinstance") (fun xs H Q => ∃ x C v c b, xs = [.ref x, v] ∧ EAt K H x C ∧ ClsV v c ∧ PySem.W.kitOne K (.ref C) c = some b ∧ Q (.bl b) H) := by
  subst hK
  intro pins s σ H xs us Q I r h
  obtain ⟨x, C, v, c, b, rfl, ea, hv, e, q⟩ := h
  obtain ⟨u, w', rfl, ru, rw'⟩ := vals2 r
  cases ru
  cases hv.eq rw'
  exact PySem.W.kia_one ea.1.kit I.kIn (I.eat ea) e (fun z => nomatch z) fun tk => ⟨.bl b, H, I.tok tk, rfl, q⟩
theorem call_isET {K : PySem.W.Frag} (hK : X.K = K) : CallR X (.builtin "isinstance") (fun xs H Q => ∃ x C tp vs cs b, xs = [.ref x, .ref tp] ∧ EAt K H x C ∧ SqT K H tp vs ∧ Paired ClsV vs cs ∧ PySem.W.kitAny K (.ref C) cs = some b ∧ Q (.bl b) H) := by
  subst hK
  intro pins s σ H xs us Q I r h
  obtain ⟨x, C, tp, vs, cs, b, rfl, ea, ht, hv, e, q⟩ := h
  obtain ⟨u, w', rfl, ru, rw'⟩ := vals2 r
  cases ru
  cases rw'
  obtain ⟨its, r1, p1, _⟩ := I.tuple ht
  obtain ⟨⟨cls, dd, data, sl⟩, ho, hc, n, hd⟩ := id p1
  simp only at hc hd
  subst hc hd
  have z := ClsV.all hv r1
  subst z
  exact PySem.W.kia_tup ea.1.kit I.kIn (I.eat ea) ho e (fun z => nomatch z) fun tk => ⟨.bl b, H, I.tok tk, rfl, q⟩
end
end L2
namespace L2
open PySem PySem.Spec PyProof.Rows
section
variable {prog : Program} {w : World} {A : Around} {E : Value → Shared → Prop} {s : Shared}
theorem nextT_item {ia tp : Addr} {i : Nat} {us : Array Value} {u : Value} {Q : Value → Shared → Prop} (a1 : s.heap.IsTupleIter ia tp i) (a2 : s.heap.IsTuple tp us) (a3 : us[i]? = some u)
    (k : ∀ h', h'.IsTupleIter ia tp (i + 1) → Heap.SameBut ia s.heap h' → Q u { s with heap := h' }) : wpAny (model prog w) A (Builtin.SmallTypes.nextOf (.ref ia)) Q E s := by
  obtain ⟨o, b1, b2, b3⟩ := id a1
  obtain ⟨ot, c1, _, nt, c2⟩ := a2
  unfold Builtin.SmallTypes.nextOf
  refine wpAny_bind (wpAny_callSpecial?_slot (name := Str.ofString "__next__") a1.typeIs F.slot_tuple_iterator_next (wpAny_call_entry F.slot_tuple_iterator_next a1.typeIs F.entry_tuple_iterator_next ?_ (F.args_tuple_iterator_next_1 _)))
  show wpAny _ _ (field (.ref ia) 0 >>= _) _ _ s
  refine wpAny_bind (wpAny_field b1 b3 (x := .ref tp) rfl ?_)
  show wpAny _ _ (if (Value.ref tp == Value.none) = true then _ else _) _ _ s
  rw [if_neg (show ¬ ((Value.ref tp == Value.none) = true) from Bool.false_ne_true)]
  show wpAny _ _ (field (.ref ia) 1 >>= _) _ _ s
  refine wpAny_bind (wpAny_field b1 b3 (x := .int i 0) rfl ?_)
  show wpAny _ _ (seqItems? (.ref tp) >>= _) _ _ s
  refine wpAny_bind (wpAny_seqItems c1 c2 ?_)
  simp only [Int.toNat_natCast, a3]
  refine wpAny_bind (wpAny_setField b1 b3 (by simp) (wpAny_pure ⟨u, rfl, wpAny_pure (k _ ?_ (Heap.SameBut.update ..))⟩))
  exact ⟨_, Heap.get?_update_self _ b1 (Obj.isFreed_of_fields (Obj.data_mapFields b3 _)), (Obj.cls_mapFields ..).trans b2, by rw [Obj.data_mapFields b3]; simp [rawInt]⟩
theorem nextT_end {ia tp : Addr} {i : Nat} {us : Array Value} {Q : Value → Shared → Prop} (hh : A.handled = none) (a1 : s.heap.IsTupleIter ia tp i) (a2 : s.heap.IsTuple tp us) (a3 : us[i]? = none)
    (k : ∀ h' x, Heap.ExtBut ia s.heap h' → (∃ o, h'.get? x = some o ∧ o.cls = .type "StopIteration") → E (.ref x) { s with heap := h' }) : wpAny (model prog w) A (Builtin.SmallTypes.nextOf (.ref ia)) Q E s := by
  obtain ⟨o, b1, b2, b3⟩ := id a1
  obtain ⟨ot, c1, _, nt, c2⟩ := a2
  unfold Builtin.SmallTypes.nextOf
  refine wpAny_bind (wpAny_callSpecial?_slot (name := Str.ofString "__next__") a1.typeIs F.slot_tuple_iterator_next (wpAny_call_entry F.slot_tuple_iterator_next a1.typeIs F.entry_tuple_iterator_next ?_ (F.args_tuple_iterator_next_1 _)))
  show wpAny _ _ (field (.ref ia) 0 >>= _) _ _ s
  refine wpAny_bind (wpAny_field b1 b3 (x := .ref tp) rfl ?_)
  show wpAny _ _ (if (Value.ref tp == Value.none) = true then _ else _) _ _ s
  rw [if_neg (show ¬ ((Value.ref tp == Value.none) = true) from Bool.false_ne_true)]
  show wpAny _ _ (field (.ref ia) 1 >>= _) _ _ s
  refine wpAny_bind (wpAny_field b1 b3 (x := .int i 0) rfl ?_)
  show wpAny _ _ (seqItems? (.ref tp) >>= _) _ _ s
  refine wpAny_bind (wpAny_seqItems c1 c2 ?_)
  simp only [Int.toNat_natCast, a3]
  refine wpAny_bind (wpAny_rule (wpAny_bind (wpAny_setField b1 b3 (by simp) ?_)))
  show wpAny _ _ (newExc (.type "StopIteration") [] >>= fun _ => _) _ _ _
  refine wpAny_bind ?_
  simp only [newExc, newTuple]
  refine wpAny_bind (wpAny_newObj_type ?_ (by size_fits))
  refine wpAny_bind (m := firstArgMember _ _) (wpAny_of_eq (a := Value.none) (by first | rfl | simp [firstArgMember]) (wpAny_newObj_type ?_ (by size_fits)))
  simp only [raiseNew]
  refine wpAny_bind (wpAny_handled ?_)
  first | rw [show A.in1.handled = none from hh] | (rw [hh]; skip)
  exact wpAny_bind (wpAny_pure (wpAny_throw (k _ _ (((Heap.SameBut.update ..).extBut.push _).push _) ⟨_, Heap.get?_push_size _ rfl, rfl⟩)))
theorem enumT_item {en ia tp : Addr} {i : Nat} {us : Array Value} {u was : Value} {Q : Option Value → Shared → Prop} (e0 : IsEnum s.heap en ia i was) (a1 : s.heap.IsTupleIter ia tp i) (a2 : s.heap.IsTuple tp us) (a3 : us[i]? = some u) (ne : en ≠ ia)
    (k : ∀ h', IsEnumOut h' en ia ((i : Int) + 1) u s.heap.objs.size → h'.IsTupleIter ia tp (i + 1) → h'.get? s.heap.objs.size = some { cls := .type "tuple", data := .seq #[.int i s.toks, u] } →
      (∀ b o, b ≠ en → b ≠ ia → s.heap.get? b = some o → h'.get? b = some o) → Q (some (.ref s.heap.objs.size)) { s with heap := h', toks := s.toks + 1 }) :
    wpAny (model prog w) A (pyNext (.ref en)) Q E s := by
  have ty : s.TypeIs (.ref en) "enumerate" := ⟨_, e0, rfl⟩
  unfold pyNext
  refine wpAny_bind (wpAny_attempt (wpAny_callSpecial?_slot (name := Str.ofString "__next__") ty F.slot_enumerate_next (wpAny_call_entry F.slot_enumerate_next ty F.entry_enumerate_next ?_ (F.args_enumerate_next_1 _))))
  obtain ⟨h0, g, d, tk, os⟩ := s
  show wpAny _ _ (field (.ref en) 2 >>= _) _ _ _
  refine wpAny_bind (wpAny_field e0 rfl (x := .ref ia) rfl (wpAny_bind (nextT_item a1 a2 a3 fun h1 n1 s1 => ?_)))
  replace s1 : Heap.SameBut ia h0 h1 := s1
  have e1 : IsEnum h1 en ia i was := (s1.2 en ne).trans e0
  show wpAny _ _ (field (.ref en) 3 >>= _) _ _ ⟨h1, g, d, tk, os⟩
  refine wpAny_bind (wpAny_field e1 rfl (x := rawInt i) rfl ?_)
  show wpAny _ _ (field (.ref en) 4 >>= _) _ _ ⟨h1, g, d, tk, os⟩
  refine wpAny_bind (wpAny_field e1 rfl (x := .none) rfl ?_)
  show wpAny _ _ (mkInt i >>= _) _ _ ⟨h1, g, d, tk, os⟩
  refine wpAny_bind (wpAny_mkInt ?_)
  show wpAny _ _ (setField (.ref en) 3 (rawInt ((i : Int) + 1)) >>= _) _ _ ⟨h1, g, d, tk + 1, os⟩
  refine wpAny_bind (wpAny_setField_rec e1 (by simp) fun h2 e2 s2 => ?_)
  replace s2 : Heap.SameBut en h1 h2 := s2
  replace e2 : IsEnum h2 en ia ((i : Int) + 1) was := e2
  show wpAny _ _ (setField (.ref en) 4 .none >>= _) _ _ ⟨h2, g, d, tk + 1, os⟩
  refine wpAny_bind (wpAny_setField_rec e2 (by simp) fun h3 e3 s3 => ?_)
  replace s3 : Heap.SameBut en h2 h3 := s3
  replace e3 : IsEnum h3 en ia ((i : Int) + 1) was := e3
  show wpAny _ _ (newTuple [.int i tk, u] >>= _) _ _ ⟨h3, g, d, tk + 1, os⟩
  refine wpAny_bind (wpAny_newTuple ?_)
  have z3 : h3.objs.size = h0.objs.size := by rw [s3.1, s2.1, s1.1]
  have l0 : en < h0.objs.size := Heap.lt_size e0
  have ni : ia ≠ en := Ne.symm ne
  generalize hh4 : h3.push { cls := .type "tuple", data := .seq #[.int i tk, u] } = h4
  have e4 : IsEnum h4 en ia ((i : Int) + 1) was := by rw [← hh4]; exact Heap.get?_push_of_some _ e3
  have t4 : h4.get? h0.objs.size = some { cls := .type "tuple", data := .seq #[.int i tk, u] } := by rw [← hh4, ← z3]; exact Heap.get?_push_size _ rfl
  have k4 : ∀ b o, b ≠ en → b ≠ ia → h0.get? b = some o → h4.get? b = some o := fun b o m1 m2 q => by
    rw [← hh4]
    exact Heap.get?_push_of_some _ (s3.extBut b o m1 (s2.extBut b o m1 (s1.extBut b o m2 q)))
  have n4 : h4.IsTupleIter ia tp (i + 1) := by
    rw [← hh4]
    obtain ⟨o, q, r⟩ := (n1.extBut s2.extBut ni).extBut s3.extBut ni
    exact ⟨o, Heap.get?_push_of_some _ q, r⟩
  show wpAny _ _ (Builtin.SmallTypes.ownedTupleIsFree (.ref en) >>= _) _ _ ⟨h4, g, d, tk + 1, os⟩
  rw [z3]
  clear hh4
  refine wpAny_bind ?_
  unfold Builtin.SmallTypes.ownedTupleIsFree
  refine wpAny_bind (wpAny_field e4 rfl (x := .none) rfl (wpAny_pure ?_))
  simp only [if_true]
  refine wpAny_bind (wpAny_rule (wpAny_bind (wpAny_field e4 rfl (x := was) rfl (wpAny_bind (wpAny_setField_rec e4 (by simp) fun h5 e5 s5 => ?_)))))
  replace s5 : Heap.SameBut en h4 h5 := s5
  replace e5 : IsEnum h5 en ia ((i : Int) + 1) u := e5
  show wpAny _ _ (Builtin.SmallTypes.ownedTupleHandOut (.ref en) (.ref h0.objs.size) >>= _) _ _ ⟨h5, g, d, tk + 1, os⟩
  refine wpAny_bind ?_
  unfold Builtin.SmallTypes.ownedTupleHandOut
  refine wpAny_bind (wpAny_setField_rec e5 (by simp) fun h6 e6 s6 => ?_)
  replace s6 : Heap.SameBut en h5 h6 := s6
  replace e6 : IsEnumOut h6 en ia ((i : Int) + 1) u h0.objs.size := e6
  refine wpAny_setField_rec e6 (by simp) fun h7 e7 s7 => ?_
  replace s7 : Heap.SameBut en h6 h7 := s7
  replace e7 : IsEnumOut h7 en ia ((i : Int) + 1) u h0.objs.size := e7
  have up : ∀ b o, b ≠ en → h4.get? b = some o → h7.get? b = some o := fun b o m q => s7.extBut b o m (s6.extBut b o m (s5.extBut b o m q))
  refine wpAny_bind (wpAny_letGo (wpAny_pure ⟨_, rfl, wpAny_pure (k h7 e7 ?_ (up _ _ (Nat.ne_of_gt l0) t4) fun b o m1 m2 q => up b o m1 (k4 b o m1 m2 q))⟩))
  obtain ⟨o, q, r⟩ := n4
  exact ⟨o, up _ _ ni q, r⟩
theorem enumT_end {en ia tp : Addr} {i : Nat} {us : Array Value} {was : Value} {Q : Option Value → Shared → Prop} (hh : A.handled = none) (e0 : IsEnum s.heap en ia i was) (a1 : s.heap.IsTupleIter ia tp i) (a2 : s.heap.IsTuple tp us) (a3 : us[i]? = none)
    (k : ∀ h', Heap.ExtBut ia s.heap h' → Q none { s with heap := h' }) : wpAny (model prog w) A (pyNext (.ref en)) Q E s := by
  have ty : s.TypeIs (.ref en) "enumerate" := ⟨_, e0, rfl⟩
  unfold pyNext
  refine wpAny_bind (wpAny_attempt (wpAny_callSpecial?_slot (name := Str.ofString "__next__") ty F.slot_enumerate_next (wpAny_call_entry F.slot_enumerate_next ty F.entry_enumerate_next ?_ (F.args_enumerate_next_1 _))))
  show wpAny _ _ (field (.ref en) 2 >>= _) _ _ _
  refine wpAny_bind (wpAny_field e0 rfl (x := .ref ia) rfl (wpAny_bind (nextT_end hh a1 a2 a3 fun h' x q1 q2 => ?_)))
  obtain ⟨o, o1, o2⟩ := q2
  exact wpAny_bind (wpAny_isInstance (T := "StopIteration") (b := true) ⟨o, o1, o2⟩ isSubtype_stop (wpAny_pure (k _ q1)))
end
end L2
namespace L2
open PySem PySem.Spec PyProof.Rows
def Ite (K : PySem.W.Frag) (a : Addr) : It :=
  ⟨fun i H => ∃ xs x, SqT K H a xs ∧ xs[i]? = some x, fun i H x H' => ∃ p y, x = .ref p ∧ H p = none ∧ H' = upd H p (.tup [.int i, y]) ∧ ∀ xs, SqT K H a xs → xs[i]? = some y, fun i H => ∃ xs, SqT K H a xs ∧ xs.length ≤ i⟩
theorem two_small : 2 ≤ sizeLine := szb rfl
theorem turn_enumT {P : Program} {w : World} {K : PySem.W.Frag} {es : List Expr} {x1 : Nat} {pos : Pos} (a en ia : Addr) (ne : en ≠ ia) :
    Turn P w K (.Tuple es x1 pos) (Ite K a) [en, ia] en (fun i h => (∃ was, IsEnum h en ia (i : Nat) was) ∧ h.IsTupleIter ia a i) where
  mem := by simp
  obj := fun i h st b hb => by
    obtain ⟨⟨was, q1⟩, o, q2, q3, q4⟩ := st
    rcases List.mem_cons.mp hb with z | z
    · subst z
      exact ⟨_, q1, fun v y => by cases y⟩
    · have z' : b = ia := by simpa using z
      subst z'
      exact ⟨o, q2, fun v y => by rw [q4] at y; cases y⟩
  keep := fun i h h' st k => by
    obtain ⟨⟨was, q1⟩, o, q2, q3⟩ := st
    exact ⟨⟨was, k en (by simp) _ q1⟩, o, k ia (by simp) _ q2, q3⟩
  item := by
    intro X hP hw hK hc i pins s σ H E I hf st hg
    subst hP hw hK
    obtain ⟨⟨was, q1⟩, q2⟩ := st
    obtain ⟨xs, x, hq, hx⟩ := hg
    obtain ⟨its, rv, p, hz⟩ := I.tuple hq
    obtain ⟨u, hu, ru⟩ := rv.get hx
    refine enumT_item q1 q2 (show s.heap.IsTuple a its.toArray from p) (u := u) (by simpa using hu) ne fun h1 e1 n1 t1 k1 => ⟨_, rfl, ?_⟩
    refine wpAny_letOwnedTupleGo_enum e1 fun h2 e2 s2 => ?_
    replace s2 : Heap.SameBut en h1 h2 := s2
    have len : en < s.heap.objs.size := Heap.lt_size q1
    have t2 : h2.get? s.heap.objs.size = some { cls := .type "tuple", data := .seq #[.int i s.toks, u] } := (s2.2 _ (Nat.ne_of_gt len)).trans t1
    have kk : ∀ b o, b ≠ en → b ≠ ia → s.heap.get? b = some o → h2.get? b = some o := fun b o m1 m2 q => (s2.2 b m1).trans (k1 b o m1 m2 q)
    have fr : H s.heap.objs.size = none := I.hok.fresh (Nat.le_refl _)
    have f1 := hf en (by simp)
    have f2 := hf ia (by simp)
    have neq : ∀ b, H b ≠ none → b ≠ en ∧ b ≠ ia := fun b m => ⟨fun z => m (z ▸ f1.1), fun z => m (z ▸ f2.1)⟩
    have un : Un (frs X.stack) [en, ia] H (upd H s.heap.objs.size (.tup [.int i, x])) s.heap h2 := by
      have nn : ∀ b, b ∉ [en, ia] → b ≠ en ∧ b ≠ ia := fun b m => ⟨fun z => m (by simp [z]), fun z => m (by simp [z])⟩
      have np : ∀ b o, s.heap.get? b = some o → b ≠ s.heap.objs.size := fun b o q => Nat.ne_of_lt (Heap.lt_size q)
      exact ⟨fun b o q _ _ m => kk b o (nn b m).1 (nn b m).2 q, fun b o q _ _ m => ⟨o.slots, kk b o (nn b m).1 (nn b m).2 q⟩, fun b o q m _ => by rw [upd_ne (np b o q)]; exact m, fun b o q m => ⟨o, kk b o (nn b m).1 (nn b m).2 q⟩,
        fun b ys q => by rw [upd_ne (ne_of_none q fr)]; exact q, fun b o v q => by rw [upd_ne (ne_of_none q fr)]; exact q, fun b ps q => ⟨#[], by rw [upd_ne (ne_of_none q fr), q]; simp⟩⟩
    have hok : HOk X.prog X.w (upd H s.heap.objs.size (.tup [.int i, x])) h2 := fun b ob e => by
      by_cases hb : b = s.heap.objs.size
      · subst hb
        rw [upd_same] at e
        cases e
        exact ⟨two_small, [.int i s.toks, u], .cons ⟨_, rfl⟩ (.cons ru .nil), ⟨_, t2, rfl, _, rfl⟩⟩
      · rw [upd_ne hb] at e
        refine (I.hok b ob e).stay (fun c v z q => ?_) (fun c q => by rw [upd_ne (ne_of_none q fr)]; exact q) fun c ys q => by rw [upd_ne (ne_of_none q fr)]; exact q
        have m : H c ≠ none := by
          rcases z with rfl | z
          · rw [e]; exact fun y => nomatch y
          · rw [z]; exact fun y => nomatch y
        exact kk c v (neq c m).1 (neq c m).2 q
    have J : Inv X pins σ (upd H s.heap.objs.size (.tup [.int i, x])) { s with heap := h2, toks := s.toks + 1 } := by
      refine I.call' (s' := { s with heap := h2, toks := s.toks + 1 }) (ch := [en, ia]) rfl un hok I.bare fun b hb => ?_
      rcases List.mem_cons.mp hb with z | z
      · subst z
        exact ⟨f1.2.2.2.1, f1.2.1, f1.2.2.2.2.1, f1.2.2.2.2.2⟩
      · have z' : b = ia := by simpa using z
        subst z'
        exact ⟨f2.2.2.2.1, f2.2.1, f2.2.2.2.2.1, f2.2.2.2.2.2⟩
    refine ⟨.ref s.heap.objs.size, _, J, rfl, ⟨s.heap.objs.size, x, rfl, fr, rfl, fun ys hy => by rw [I.tuple_inj hy hq]; exact hx⟩, ⟨⟨u, ?_⟩, ?_⟩, fun b hb => ?_⟩
    · have : ((i + 1 : Nat) : Int) = (i : Int) + 1 := by omega
      rw [this]
      exact e2
    · obtain ⟨o, q, r⟩ := n1
      exact ⟨o, (s2.2 ia (Ne.symm ne)).trans q, r⟩
    · have hb' : b = en ∨ b = ia := by simpa using hb
      have lb : b < s.heap.objs.size := by
        rcases hb' with z | z
        · rw [z]; exact len
        · obtain ⟨o, q, _⟩ := q2
          rw [z]; exact Heap.lt_size q
      rw [upd_ne (Nat.ne_of_lt lb)]
      exact (hf b hb).1
  done := by
    intro X hP hw hK hc i pins s σ H E I hf st hg
    subst hP hw hK
    obtain ⟨⟨was, q1⟩, q2⟩ := st
    obtain ⟨xs, hq, hx⟩ := hg
    obtain ⟨its, rv, p, hz⟩ := I.tuple hq
    obtain ⟨f0, f1, f2, f3, f4, f5⟩ := hf ia (by simp)
    have hl := rv.length
    exact enumT_end (I.ok.hd hc) q1 q2 (show s.heap.IsTuple a its.toArray from p) (by simp; omega) fun h' eb => ⟨rfl, I.turned (t' := s.toks) (fun b o hb e => eb b o hb e) f0 f1 f3 f4 f5⟩
  self := fun _ _ _ _ _ st h => by
    obtain ⟨⟨was, q1⟩, _⟩ := st
    exact wpAny_pyIter_enum q1 h
theorem enum_newT (tp : Addr) (us : Array Value) (n : Nat) (dct : Option Addr) (sl : Array (Option Value)) :
    Meets (Builtin.«enumerate.__new__» ⟨[.type "enumerate", .ref tp], []⟩) (fun _ R s => s.heap.get? tp = some { cls := .type "tuple", dict := dct, data := .seq us n, slots := sl } ∧
      R (.ok (.ret (.ref (s.heap.push { cls := .type "tuple_iterator", data := .fields #[.ref tp, .int 0 0] }).objs.size)))
        { s with heap := (s.heap.push { cls := .type "tuple_iterator", data := .fields #[.ref tp, .int 0 0] }).push { cls := .type "enumerate", data := .fields #[.none, .bool false, .ref s.heap.objs.size, rawInt 0, .none, .none] } }) :=
  .of_wp fun prog w A R s z => by
    obtain ⟨hp, g, d, tk, os⟩ := s
    obtain ⟨z1, z2⟩ := z
    have sb := sub_enumerate
    have T : Heap.IsTuple (Shared.heap ⟨hp, g, d, tk, os⟩) tp us := ⟨_, z1, rfl, n, rfl⟩
    wp_walk using AutoSeq1.wpAny_loadPart' z1
    refine wpAny_stack_any fun st => wpAny_pure ?_
    split
    · rename_i c _ _ _ _ _
      cases (c == Value.type "enumerate")
      all_goals
        wp_walk using AutoSeq1.wpAny_loadPart' z1, wpAny_pyIter_tuple T
        exact ⟨_, rfl, z2⟩
    · wp_walk using AutoSeq1.wpAny_loadPart' z1, wpAny_pyIter_tuple T
      exact ⟨_, rfl, z2⟩
section
variable {prog : Program} {w : World} {A : Around} {E : Value → Shared → Prop} {s : Shared}
theorem call_enumT {tp : Addr} {us : Array Value} {Q : Value → Shared → Prop} (T : s.heap.IsTuple tp us)
    (k : ∀ h', IsEnum h' (s.heap.objs.size + 1) s.heap.objs.size 0 .none → h'.IsTupleIter s.heap.objs.size tp 0 → (∀ b o, s.heap.get? b = some o → h'.get? b = some o) → Q (.ref (s.heap.objs.size + 1)) { s with heap := h' }) :
    wpAny (model prog w) A (call (.type "enumerate") [.ref tp]) Q E s := by
  obtain ⟨⟨c, dct, dt, sl⟩, z1, z2, n, z3⟩ := T
  simp only at z2 z3
  subst z2 z3
  refine callType_new F.called_enumerate (by decide) (F.typeCall_enumerate_1 _) (F.newCall_enumerate_1 _) (fun obj => F.args_object_init_2 obj _) F.entry_enumerate_new (enum_newT tp us n dct sl) ⟨z1, ?_⟩
  generalize ho : ({ cls := .type "tuple_iterator", data := .fields #[.ref tp, .int 0 0] } : Obj) = o1
  have y1 : (s.heap.push o1).objs.size = s.heap.objs.size + 1 := Heap.size_push ..
  have y2 : ∀ o2 : Obj, o2.isFreed = false → ((s.heap.push o1).push o2).get? (s.heap.objs.size + 1) = some o2 := fun o2 f => by
    have := Heap.get?_push_size (s.heap.push o1) (o := o2) f
    rwa [y1] at this
  show _ ∧ _
  rw [y1]
  have y3 := y2 { cls := .type "enumerate", data := .fields #[.none, .bool false, .ref s.heap.objs.size, rawInt 0, .none, .none] } rfl
  refine ⟨⟨_, y3, rfl⟩, k _ y3 ⟨o1, Heap.get?_push_of_some _ (Heap.get?_push_size _ (by rw [← ho]; rfl)), by rw [← ho], by rw [← ho]; rfl⟩ fun b o q => Heap.get?_push_of_some _ (Heap.get?_push_of_some _ q)⟩
end
section
variable {X : Cx} {es : List Expr} {x1 : Nat} {tpos : Pos}
def iEnum (K : PySem.W.Frag) (ta : TA) : TI := fun σ H R => ta σ H fun vs H1 => ∃ a, vs = [.ref a] ∧ (∃ xs, SqT K H1 a xs) ∧ R (Ite K a) H1
theorem pi_enum {l : Expr} {ta : TA} {p pos : Pos} (hg : Gl X "enumerate") (hm : X.mg "enumerate" = none) (ha : PA X [l] ta) (hs : starEach [l] X.env = [(false, eval l X.env)] := by rfl) :
    PI X (.Tuple es x1 tpos) (.Call (.Name "enumerate" p) [l] [] pos) (iEnum X.K ta) := by
  intro pins s σ H R I h
  refine Call_ (ld_blt I hg hm boot_enumerate (PyProof.Rows.callWith_type1 (thn (ha pos pins s σ H _ I h) fun us s1 ⟨vs, H1, I1, r1, q1⟩ => ?_) hs rfl))
  obtain ⟨a, e, ⟨xs, hq⟩, q⟩ := q1
  subst e
  cases r1 with
  | cons r rr =>
    cases rr
    cases r
    obtain ⟨its, rv, p, hz⟩ := I1.tuple hq
    refine call_enumT (show s1.heap.IsTuple a its.toArray from p) fun h' e1 e2 k => wpAny_pyIter_enum e1 ?_
    have I2 : Inv X pins σ H1 { s1 with heap := h' } := I1.kept (t' := s1.toks) k
    refine ⟨s1.heap.objs.size + 1, [s1.heap.objs.size + 1, s1.heap.objs.size], _, _, H1, rfl, I2, turn_enumT a _ _ (Nat.succ_ne_self _), ⟨⟨_, e1⟩, e2⟩, fun b hb => ?_, q⟩
    have hb' : s1.heap.objs.size ≤ b := by
      have z : b = s1.heap.objs.size + 1 ∨ b = s1.heap.objs.size := by simpa using hb
      rcases z with z | z
      · rw [z]; exact Nat.le_succ _
      · rw [z]; exact Nat.le_refl _
    exact I1.fpOk hb' (I1.hok.fresh hb')
theorem for_enum {K : PySem.W.Frag} {a : Addr} {xs : List V} {g : TG} {tb : TS} {D : Ends} {σ : St} {H : Hp} (Pv : Nat → St → Hp → Prop) (h0 : Pv 0 σ H) (hl : ∀ i σ H, i ≤ xs.length → Pv i σ H → SqT K H a xs)
    (hs : ∀ i x σ H p, xs[i]? = some x → Pv i σ H → H p = none → g (.ref p) σ (upd H p (.tup [.int i, x])) fun σ2 H2 => tb { D with nx := Pv (i + 1), ct := Pv (i + 1), bk := D.nx } σ2 H2) (hd : ∀ σ H, Pv xs.length σ H → D.nx σ H) :
    ∃ W : Nat → Nat → St → Hp → Prop, (∃ m, W 0 m σ H) ∧ ∀ i m σ H, W i m σ H →
      ((Ite K a).stop i H ∧ D.nx σ H) ∨ ((Ite K a).go i H ∧ ∃ N : St → Hp → Prop, (∀ σ' H', N σ' H' → ∃ m', m' < m ∧ W (i + 1) m' σ' H') ∧ ∀ x H', (Ite K a).yld i H x H' → g x σ H' fun σ2 H2 => tb { D with nx := N, ct := N, bk := D.nx } σ2 H2) := by
  refine ⟨fun i m σ H => m = xs.length - i ∧ i ≤ xs.length ∧ Pv i σ H, ⟨xs.length, by simp, Nat.zero_le _, h0⟩, ?_⟩
  rintro i m σ H ⟨rfl, hi, p⟩
  have q := hl i σ H hi p
  by_cases hlt : i < xs.length
  · refine .inr ⟨⟨xs, xs[i], q, by simp [hlt]⟩, Pv (i + 1), fun σ' H' p' => ⟨xs.length - (i + 1), by omega, rfl, hlt, p'⟩, fun x H' y => ?_⟩
    obtain ⟨pp, yv, rfl, e2, rfl, y⟩ := y
    exact hs i yv σ _ pp (y xs q) p e2
  · have e : i = xs.length := by omega
    subst e
    exact .inl ⟨⟨xs, q, Nat.le_refl _⟩, hd σ H p⟩
end
end L2
namespace L2
open PySem PySem.Spec PyProof.Rows
theorem bt_ValueError : bootBuiltins "ValueError" = some (.type "ValueError") := by decide +kernel
structure CalX (P : Program) (w : World) (K : PySem.W.Frag) (mg : Str → Option Value) (base : Heap) (k : Nat) (x : Str) (ps : List Str) (sp : Sp) : Prop where
  ex : ∃ (f : Addr) (fd : FuncData), FnOk P w K mg base (CX1 P w) k f fd ps sp ∧ Binds K fd ps [] ∧ PySem.W.keepIn K (.ref f) = true ∧ mg x = some (.ref f)
section
variable {P : Program} {w : World} {K : PySem.W.Frag} {mg : Str → Option Value} {base : Heap} {k : Nat} {x : Str} {st : Stmt} {ps : List Str} {sp : Sp}
theorem Def.calx (d : Def K mg x st ps) (F : ∀ (f : Addr) (fd : FuncData), Fun K x x st f fd → FnOk P w K mg base (CX1 P w) k f fd ps sp) : CalX P w K mg base k x ps sp := by
  obtain ⟨f, fd, h1, h2, h3⟩ := d.ex
  exact ⟨f, fd, F f fd h1, .all h2, h1.kp, h3⟩
theorem CalX.cal {sp' : Sp} (c : CalX P w K mg base k x ps sp) (h : ∀ vs H Q E, sp' vs H Q E → sp vs H Q E0) : Cal P w K mg base k x ps sp' := by
  obtain ⟨f, fd, F, B, kp, m⟩ := c.ex
  refine ⟨f, fd, ⟨fun vs H Q E q => F.len vs H Q E0 (h vs H Q E q), fun A outer s H args us vs Q E hr he hb hv hs => codeAny_mono (F.run A outer s H args us vs Q E0 hr he hb hv (h _ _ _ _ hs)) fun r s' q => ?_⟩, B, kp, m⟩
  cases r with
  | error e =>
    obtain ⟨_, _, _, _, _, _, _, z⟩ := (show CX1 P w outer H s E0 e s' from q)
    exact z.elim
  | ok fl =>
    cases fl with
    | ret u => exact q
    | next => exact q
    | brk => exact q
    | cont => exact q
theorem Fun.okx {qual : Str} {f : Addr} {fd : FuncData} {N : List Str} (F : Fun K x qual st f fd) (S : FnScope N ps (defScope st)) (len : ∀ vs H Q E, sp vs H Q E → vs.length = ps.length)
    (hbody : ∀ (cdv : Value) (A : Around) (outer : List Env) (s : Shared) (H : Hp) (vs : List V) (Q : VK) (E : XK), Room k (A.deeper (envOfC qual (defScope st) s.heap.objs.size f cdv)) → sp vs H Q E →
      ∃ t, PSs (cxOf (CX1 P w) P w K mg base N qual (defScope st) f cdv A outer s H E) (defBody st) t ∧ t { nx := fun _ H' => Q .non H', rt := Q } (start N vs) H) : FnOk P w K mg base (CX1 P w) (k + 1) f fd ps sp := by
  obtain ⟨oc, od, kV, doc, pm, an, cdv, ct, osl, rfl, lk, hcd⟩ := F.ex
  exact fn_of lk hcd S len fun A outer s H vs Q E hr hsp => hbody cdv A outer s H vs Q E hr hsp
theorem lv_of {N : List Str} {qual : Str} {sc : Scope} {f : Addr} {cd : Value} {A : Around} {outer : List Env} {s : Shared} {H : Hp} {E : XK} : Lv (cxOf (CX1 P w) P w K mg base N qual sc f cd A outer s H E) E := ⟨rfl, rfl, rfl, rfl, rfl⟩
end
section
variable {X : Cx} {E : XK} {x : Str} {C : Addr} {e : Expr} {es : List Expr} {t : TA} {np cpos pos : Pos}
abbrev bmVE : List Value := [.type "ValueError", .type "Exception", .type "BaseException", .type "object"]
theorem ps_raiseK (l : Lv X E) (m : X.mg x = some (.ref C)) (q : PySem.W.excIn X.K C bmVE "ValueError.__new__" = true) (hg : Gl X x) (ha : PA X (e :: es) t) (hdb : (x == ("__debug__" : Str)) = false := by decide)
    (he : starEach (e :: es) X.env = (false, eval e X.env) :: starEach es X.env := by rfl) (hpl : (backTo cpos (starEach es X.env)).any (·.1) = false := by rfl) :
    PS X (.Raise (some (.Call (.Name x np) (e :: es) [] cpos)) none pos) (tRaise C E t) := fun pins s σ H D I h =>
  ps_raise l PySem.F.excBase_ValueError (own_exc I.mod.kin m q) hg ha hdb he hpl pins s σ H D I h
variable {k i : Nat} {C2 : Addr} {ps : List Str} {sp : Sp} {fx cx n : Str} {p p2 epos hpos : Pos} {b₀ : Stmt} {suite : List Stmt} {u : TS}
end
end L2
namespace L2
open PySem PySem.Spec PyProof.Rows
section
variable {prog : Program} {w : World} {A : Around} {E : Value → Shared → Prop} {h : Heap} {g : Array GenState} {d : Drawn} {t : Nat} {os : OsState}
variable {nm qn : Str} {C N : Addr} {bs bm tl : List Value} {hdct : Bool} {sn : List Str} {sub : List Value} {ab : Bool} {col : Option Bool} {dd : Option Addr} {k0 k1 k2 k3 k5 : Option Value} {B nw it : String}
end
end L2
namespace L2
open PySem PySem.Spec PyProof.Rows
section
variable {P : Program} {w : World} {fs : List Addr} {H H' : Hp} {h0 h h' : Heap} {x : Addr} {o : HO}
end
section
variable {X : Cx} {E : XK} {x : Str} {C f : Addr} {fd : FuncData} {ps : List Str} {sp : Sp} {k : Nat} {e : Expr} {es : List Expr} {t : TA} {np cpos pos : Pos}
end
end L2
namespace L2
open PySem PySem.Spec PyProof.Rows
section
variable {prog : Program} {w : World} {A : Around} {E : Value → Shared → Prop} {s : Shared} {K : PySem.W.Frag} {L : Addr} {v : Value} {name : Str} {pl : Sem Bool}
end
section
variable {prog : Program} {w : World} {A : Around} {E : Value → Shared → Prop} {h : Heap} {g : Array GenState} {d : Drawn} {t : Nat} {os : OsState}
variable {nm qn : Str} {C N x : Addr} {bs bm tl : List Value} {hdct : Bool} {sn : List Str} {sub : List Value} {ab : Bool} {col : Option Bool} {dd : Option Addr} {k0 k1 k2 k3 k5 : Option Value} {B nw it : String}
end
section
variable {X : Cx} {cx : Str} {C L f : Addr} {e : Expr} {es : List Expr} {t : TA} {p apos pos : Pos} {pl : Sem Bool}
end
end L2
namespace L2
open PySem PySem.Spec PyProof.Rows
open PySem.Builtin.ObjectAttr in
structure XFld (K : PySem.W.Frag) (C : Addr) (f : Str) : Prop where
  sa : PySem.W.findIn K (.ref C) "__setattr__" = some (some (.builtin "object.__setattr__"))
  na : PySem.W.findIn K (.ref C) f = some none
  hd : PySem.W.hasDictIn K C = true
section
variable {prog : Program} {w : World} {A : Around} {E : Value → Shared → Prop} {s : Shared} {K : PySem.W.Frag} {x C fI : Addr} {oe : Obj} {vs : Array Value} {name : Str} {v : Value}
end
end L2
namespace L2
open PySem PySem.Spec PyProof.Rows
section
variable {X : Cx} {o e value : Expr} {ta tv : TE} {C fI : Addr} {f : Str} {pos pos' : Pos}
end
end L2
namespace L2
open PySem PySem.Spec PyProof.Rows
end L2
namespace L2
open PySem PySem.Spec PyProof.Rows
def tCompIf (wi : TI) (tt : TT) (te : TE) (fr : List Nat) : TE := fun σ H Q => wi σ H fun J H1 => ∀ D, H1 D = none → ∃ W : Nat → Nat → List V → Hp → Prop, (∃ m, W 0 m [] (upd H1 D (.lst []))) ∧
  ∀ i m ys H2, W i m ys H2 → H2 D = some (.lst ys) ∧ ((J.stop i H2 ∧ Q (.ref D) H2) ∨ (J.go i H2 ∧ ys.length < sizeLine ∧ ∃ N : V → Hp → Prop, (∀ y H3, N y H3 → H3 D = some (.lst ys) ∧ ∃ m', m' < m ∧ W (i + 1) m' (ys ++ [y]) (upd H3 D (.lst (ys ++ [y])))) ∧
    ∀ x H', J.yld i H2 x H' → tt (some x :: fr.map fun j => (σ[j]?).getD none) H' fun b H3 => if b = true then te (some x :: fr.map fun j => (σ[j]?).getD none) H3 N else ∃ m', m' < m ∧ W (i + 1) m' ys H3))
section
variable {prog : Program} {w : World} {A : Around} {R : Result → Shared → Prop} {s : Shared}
abbrev nbOf (prog : Program) (w : World) (A : Around) (env : Env) (R : Result → Shared → Prop) : Value → Shared → Prop := notedBy (model prog w) A env fun e s' => R (.error e) s'
theorem compLoop_if {elt target iter cc : Expr} {scope : Scope} {pos : Pos} {it acc : Value} {env : Env} (I : Nat → Shared → Prop)
    (turn : ∀ n s, I n s → wpAny (model prog w) A (pyNext it) (fun r s₁ => match r with
      | none => R (.ok .next) s₁
      | some v => wpAny (model prog w) A (letOwnedTupleGo target it v) (fun _ s₁' => wpAny (model prog w) A (assign target env v) (fun _ s₂ => wpAny (model prog w) A (isTrue cc env (eval cc env)) (fun okb s₂' => if okb = true then
          wpAny (model prog w) A (eval elt env) (fun x s₃ => wpAny (model prog w) A (call (.builtin "list.append") [acc, x]) (fun _ s₄ => ∃ m, m < n ∧ I m s₄) (nbOf prog w A env R) s₃) (nbOf prog w A env R) s₂'
          else ∃ m, m < n ∧ I m s₂') (nbOf prog w A env R) s₂) (nbOf prog w A env R) s₁') (nbOf prog w A env R) s₁) (nbOf prog w A env R) s)
    (n : Nat) (h : I n s) :
    codeAny (model prog w) A (.compLoop (.ListComp elt [⟨target, iter, [cc], 0⟩] scope pos) 0 it acc env) R s := by
  refine codeAny_loop rfl I (fun n s hI => ?_) n h
  show wpAny _ _ ((compTurn (.ListComp elt [⟨target, iter, [cc], 0⟩] scope pos) 0 it acc env).onRaise (fun x => do noteFrame x env; theTreesLotGoes x)) _ _ s
  refine wpAny_noted ?_
  rw [compTurn_list]
  refine wpAny_bind (wpAny_standAt (wpAny_bind (wpAny_mono (turn n s hI) (fun r s₁ h₁ => ?_) fun _ _ h' => h')))
  cases r with
  | none => exact wpAny_pure h₁
  | some v =>
    refine wpAny_bind (wpAny_mono h₁ (fun _ s₁' h₁' => wpAny_bind (wpAny_mono h₁' (fun _ s₂ h₂ => wpAny_bind (wpAny_tests_one (wpAny_mono h₂ (fun okb s₂' h₂' => ?_) fun _ _ h' => h'))) fun _ _ h' => h')) fun _ _ h' => h')
    cases okb with
    | false => exact wpAny_pure ⟨rfl, h₂'⟩
    | true => exact wpAny_bind (wpAny_bind (wpAny_mono h₂' (fun x s₃ h₃ => wpAny_bind (wpAny_mono h₃ (fun _ s₄ h₄ => wpAny_pure (wpAny_pure ⟨rfl, h₄⟩)) fun _ _ h' => h')) fun _ _ h' => h'))
end
theorem comp_coreIf {X : Cx} {elt iter cc : Expr} {x : Str} {px pos : Pos} {scope sc0 : Scope} {cl : List (Str × Addr)} {cn N : List Str} {fr : List Nat} {tt : TT} {te : TE} {pins : List (Addr × Obj)} {σ : St} {H2 : Hp} {s2 : Shared} {it : Addr} {fp : List Addr}
    {tn : Nat → Heap → Prop} {J : It} {RR : Value → Addr → Result → Shared → Prop} {R : Hp → Prop} {E : Value → Shared → Prop} {W : Nat → Nat → List V → Hp → Prop} {m0 : Nat}
    (hc : X.calm = true) (he : ∀ (C : Addr) (s₂ : Shared) (H₂ : Hp) (fp : List Addr), PE (compCx X scope cl C x N s₂ H₂ fp) elt te) (hct : ∀ (C : Addr) (s₂ : Shared) (H₂ : Hp) (fp : List Addr), PT (compCx X scope cl C x N s₂ H₂ fp) cc tt)
    (hcl : CellsIn X.env cl) (hcn : cl.map (·.1) = cn) (hsc : X.env.scope = sc0) (hk : scope.kind = .function) (hok : CompOk scope sc0 x N cn) (hfr : fr.map (fun j => X.N[j]?) = N.map some)
    (I2 : Inv X pins σ H2 s2) (T : Turn X.prog X.w X.K (.Name x px) J fp it tn) (st2 : tn 0 s2.heap) (f2 : ∀ b ∈ fp, FpOk X pins H2 b)
    (w0 : W 0 m0 [] (upd H2 s2.heap.objs.size (.lst [])))
    (turn : ∀ i m ys H, W i m ys H → H s2.heap.objs.size = some (.lst ys) ∧ ((J.stop i H ∧ R H) ∨ (J.go i H ∧ ys.length < sizeLine ∧ ∃ N : V → Hp → Prop,
      (∀ y H3, N y H3 → H3 s2.heap.objs.size = some (.lst ys) ∧ ∃ m', m' < m ∧ W (i + 1) m' (ys ++ [y]) (upd H3 s2.heap.objs.size (.lst (ys ++ [y])))) ∧
      ∀ x H', J.yld i H x H' → tt (some x :: fr.map fun j => (σ[j]?).getD none) H' fun b H3 => if b = true then te (some x :: fr.map fun j => (σ[j]?).getD none) H3 N else ∃ m', m' < m ∧ W (i + 1) m' ys H3)))
    (hRR : ∀ (C : Addr) (H6 : Hp) (s6 : Shared) (m6 : Str → Option Value), s6.heap.Ns C m6 → Inv X pins σ H6 s6 → FpOk X pins H6 C → R H6 → RR (.ref s2.heap.objs.size) C (.ok .next) s6) :
    wpAny (model X.prog X.w) X.A (newList []) (fun acc s₃ => wpAny (model X.prog X.w) X.A (newFunctionEnv scope X.env.globals cl [] X.env.qual none .none (some X.env)) (fun cenv s₄ =>
      codeAny (model X.prog X.w) X.A (.compStart (.ListComp elt [⟨.Name x px, iter, [cc], 0⟩] scope pos) 0 (.ref it) acc { cenv with scope := relabel scope X.env }) (RR acc cenv.locals) s₄) E s₃) E s2 := by
  refine wpAny_newObj_type (wpAny_newFunctionEnv hok.nc (by intro y hy; simp at hy) (fun h4 hns hsb => ?_) hk)
  dsimp only at hns hsb ⊢
  have rel : ∀ y, (compEnvC scope cl 0 X.env).scope.names.lookup y = (relN scope sc0).lookup y := fun y => by
    show (relabel scope X.env).names.lookup y = _
    unfold relabel relN Env.kindOf
    rw [hsc]
  generalize hD : s2.heap.objs.size = D at *
  have I3 : Inv X pins σ (upd H2 D (.lst [])) { s2 with heap := s2.heap.push { cls := .type "list", dict := none, data := .seq ([] : List Value).toArray } } :=
    I2.laid (t' := s2.toks) (fun b u e => Heap.get?_push_of_some _ e) (Nat.le_of_eq hD) ⟨Nat.zero_le _, [], 0, .nil, by rw [← hD]; exact Heap.get?_push_size _ rfl⟩
  have k23 : ∀ b u, s2.heap.get? b = some u → (s2.heap.push { cls := .type "list", dict := none, data := .seq ([] : List Value).toArray }).get? b = some u := fun b u e => Heap.get?_push_of_some _ e
  have hsz : s2.heap.objs.size ≤ (s2.heap.push { cls := .type "list", dict := none, data := .seq ([] : List Value).toArray }).objs.size := by rw [Heap.size_push]; exact Nat.le_succ _
  generalize hh3 : s2.heap.push { cls := .type "list", dict := none, data := .seq ([] : List Value).toArray } = h3 at *
  have k34 : ∀ b u, h3.get? b = some u → h4.get? b = some u := fun b u e => (hsb.2 b (Nat.ne_of_lt (Heap.lt_size e))).trans (Heap.get?_push_of_some _ e)
  generalize hC : h3.objs.size = C at *
  have I4 : Inv X pins σ (upd H2 D (.lst [])) { s2 with heap := h4, toks := s2.toks + ([] : List (Str × Value)).length } := I3.kept (t' := s2.toks + 0) k34
  generalize hH3 : upd H2 D (.lst []) = H3 at *
  have ltC : ∀ b o, s2.heap.get? b = some o → b < C := fun b o e => Nat.lt_of_lt_of_le (Heap.lt_size e) hsz
  have lenF : fr.length = N.length := by simpa using congrArg List.length hfr
  have fpo : ∀ b ∈ fp, b ≠ C ∧ b ∉ frs X.stack := fun b hb => by
    obtain ⟨o, e, _⟩ := T.obj 0 s2.heap st2 b hb
    refine ⟨Nat.ne_of_lt (ltC b o e), fun z => ?_⟩
    obtain ⟨_, n1, n2, _⟩ := f2 b hb
    rcases List.mem_cons.mp (I2.stkSub b z) with q | q
    · exact n1 q
    · exact n2 q
  have H3C : H3 C = none := I3.hok.fresh (Nat.le_of_eq hC)
  have okX : (compCx X scope cl C x N { s2 with heap := h3 } H3 fp).Ok := by
    refine ⟨I2.ok.mod, hk, I2.ok.glob, I2.ok.blt, Nat.le_of_eq hC, fun y z c e1 e2 => I2.ok.inj y z c (hcl.look e1) (hcl.look e2), fun y hy => ?_, fun y c z => (Bool.false_ne_true z).elim, fun z => I2.ok.hd z, I2.ok.frames, .inl rfl,
      fun b hb => ⟨(fpo b hb).1, fun y c e => (f2 b hb).2.2.2.2.1 y c (hcl.look e)⟩, fun b o e => I3.bs b o e, Nat.le_trans I2.ok.bsz I3.sz, fun b o e hb => ?_, fun b hb => (fpo b hb).2, I3.stack, I3.stkFree⟩
    · have hy' : (relN scope sc0).lookup y = some .cell ∨ (relN scope sc0).lookup y = some .free := by
        rcases hy with hy | hy
        · exact .inl ((rel y).symm.trans hy)
        · exact .inr ((rel y).symm.trans hy)
      have hm : y ∈ cn := by
        rcases hy' with q | q
        · exact hok.has (y, .cell) (lookup_mem q) (.inl rfl)
        · exact hok.has (y, .free) (lookup_mem q) (.inr rfl)
      exact look_of_mem (cl := cl) (n := y) (by rw [hcn]; exact hm)
    · rcases (f2 b hb).2.2.2.1 with z | z
      · exact I2.ok.noex b o e z
      · exact absurd (Nat.lt_of_lt_of_le (Heap.lt_size e) (Nat.le_trans I2.ok.bsz z)) (Nat.lt_irrefl _)
  have I5 : Inv (compCx X scope cl C x N { s2 with heap := h3 } H3 fp) [] (none :: fr.map fun j => (σ[j]?).getD none) H3 { s2 with heap := h4, toks := s2.toks + ([] : List (Str × Value)).length } := by
    refine ⟨okX, rfl, I4.bare, Un.kept k34, ⟨_, hns, fun i y v e1 e2 e3 => ?_⟩, fun y c e => I4.cell y c (hcl.look e), H3C, fun y c e => I4.freeC y c (hcl.look e), fun p hp => absurd (show p ∈ ([] : List (Addr × Obj)) from hp) (by simp), I4.hok, by simp [compCx, lenF]⟩
    cases i with
    | zero => cases e2
    | succ j =>
      have e1' : N[j]? = some y := e1
      have e2' : (fr.map fun j => (σ[j]?).getD none)[j]? = some (some v) := e2
      obtain ⟨k, ek⟩ : ∃ k, fr[j]? = some k := by
        have : j < fr.length := by rw [lenF]; exact (List.getElem?_eq_some_iff.mp e1').1
        exact ⟨fr[j], List.getElem?_eq_getElem this⟩
      rw [List.getElem?_map, ek] at e2'
      have e2'' : (σ[k]?).getD none = some v := Option.some.inj e2'
      have eσ : σ[k]? = some (some v) := by
        cases q : σ[k]? with
        | none => rw [q] at e2''; cases e2''
        | some o => rw [q] at e2''; exact congrArg some e2''
      have eN : X.N[k]? = some y := by
        have z := congrArg (fun l => l[j]?) hfr
        simp only [List.getElem?_map, ek, e1', Option.map_some] at z
        exact Option.some.inj z
      obtain ⟨r1, r2, r3⟩ := hok.frs y (List.mem_of_getElem? e1')
      obtain ⟨m, _, hl⟩ := I4.loc
      obtain ⟨u, ru, look⟩ := hl k y v eN eσ (.inr (.inl (by rw [hsc]; exact r2)))
      refine ⟨u, ru, .inr ⟨.inl ((rel y).trans r1), ?_⟩⟩
      rcases look with ⟨l1, _⟩ | ⟨_, c, l1, l2⟩
      · exfalso
        have l1' : X.env.scope.names.lookup y = some .local := l1
        rw [hsc, r2] at l1'
        cases l1'
      · obtain ⟨c', l3⟩ := look_of_mem (cl := cl) (n := y) (by rw [hcn]; exact r3)
        have l4 := hcl.look l3
        rw [l1] at l4
        cases l4
        exact ⟨c, l3, l2⟩
  have st4 : tn 0 h4 := T.keep 0 s2.heap h4 st2 fun b hb o e => k34 b o (k23 b o e)
  have fp5 : ∀ {H' : Hp}, (∀ b ∈ fp, H' b = none) → ∀ b ∈ fp, FpOk (compCx X scope cl C x N { s2 with heap := h3 } H3 fp) [] H' b := fun hn b hb =>
    ⟨hn b hb, (fpo b hb).1, (fpo b hb).2, .inl hb, fun y c e => (f2 b hb).2.2.2.2.1 y c (hcl.look e), fun p hp => absurd (show p ∈ ([] : List (Addr × Obj)) from hp) (by simp)⟩
  have fr3 : ∀ b ∈ fp, H3 b = none := fun b hb => by
    obtain ⟨o, e, _⟩ := T.obj 0 s2.heap st2 b hb
    have : b ≠ D := Nat.ne_of_lt (hD ▸ Heap.lt_size e)
    rw [← hH3, upd_ne this]
    exact (f2 b hb).1
  have hx' : Loc (compCx X scope cl C x N { s2 with heap := h3 } H3 fp).env.scope x := .inl ((rel x).trans hok.hx')
  have fin : ∀ (H6 : Hp) (s6 : Shared) (σ6 : St), Inv (compCx X scope cl C x N { s2 with heap := h3 } H3 fp) [] σ6 H6 s6 → Inv X pins σ H6 s6 ∧ FpOk X pins H6 C := by
    intro H6 s6 σ6 I6
    refine ⟨I3.call' (s' := s6) (ch := fp) I6.os ⟨I6.base.keep, I6.base.slot, I6.base.free, I6.base.there, I6.base.tups, I6.base.frzs, I6.base.tbls⟩ I6.hok I6.bare (fun b hb => ?_), I3.fpOk (Nat.le_of_eq hC) I6.free⟩
    obtain ⟨_, n1, _, n3, n4, n5⟩ := f2 b hb
    exact ⟨n3, n1, n4, n5⟩
  have loop : codeAny (model X.prog X.w) X.A (.compLoop (.ListComp elt [⟨.Name x px, iter, [cc], 0⟩] scope pos) 0 (.ref it) (.ref D) (compEnvC scope cl C X.env))
      (RR (.ref D) C) { s2 with heap := h4, toks := s2.toks + ([] : List (Str × Value)).length } := by
    refine compLoop_if (fun n s' => ∃ i v0 ys H', Inv (compCx X scope cl C x N { s2 with heap := h3 } H3 fp) [] (v0 :: fr.map fun j => (σ[j]?).getD none) H' s' ∧ tn i s'.heap ∧ (∀ b ∈ fp, H' b = none) ∧ W i n ys H') ?_ m0
      ⟨0, none, [], H3, I5, st4, fr3, w0⟩
    rintro n s6 ⟨i, v0, ys, H6, I6, st6, fr6, w6⟩
    obtain ⟨hDl, hw⟩ := turn i n ys H6 w6
    rcases hw with ⟨stop, qn⟩ | ⟨go, hlen, N', hN', step⟩
    · refine thn (T.done (compCx X scope cl C x N { s2 with heap := h3 } H3 fp) rfl rfl rfl hc i [] s6 _ H6 _ I6 (fp5 fr6) st6 stop) fun r s7 ⟨hr, I7⟩ => ?_
      subst hr
      obtain ⟨m7, hn7, _⟩ := I7.loc
      obtain ⟨J7, F7⟩ := fin H6 s7 _ I7
      exact hRR C H6 s7 m7 hn7 J7 F7 qn
    · refine thn (T.item (compCx X scope cl C x N { s2 with heap := h3 } H3 fp) rfl rfl rfl hc i [] s6 _ H6 _ I6 (fp5 fr6) st6 go) fun r s7 ⟨u, hr, h7⟩ => ?_
      subst hr
      refine thn h7 fun _ s8 ⟨x8, H8, I8, r8, y8, st8, fr8⟩ => ?_
      have I8' := I8.pinned (fp5 fr8) (T.obj _ _ st8)
      refine wpAny_assign_Name (store_ok (i := 0) I8' hok.nd rfl hx' r8 (fun s9 I9 => ?_) (.inr ((rel x).trans hok.hx')))
      have I9' : Inv (compCx X scope cl C x N { s2 with heap := h3 } H3 fp) ([] ++ pinsAt fp s8.heap) (some x8 :: fr.map fun j => (σ[j]?).getD none) H8 s9 := I9
      refine wpAny_mono (hct C { s2 with heap := h3 } H3 fp _ s9 _ H8 _ I9' (step x8 H8 y8)) (fun okb s9b h9b => ?_) fun _ _ z => False.elim z
      obtain ⟨H9, I9b, n9⟩ := h9b
      cases okb with
      | false =>
        rw [if_neg Bool.false_ne_true] at n9 ⊢
        obtain ⟨m', hm, w9⟩ := n9
        refine ⟨m', hm, i + 1, some x8, ys, _, I9b.unpinned, T.keep _ _ _ st8 fun b hb o e => (I9b.pin (b, o) (List.mem_append_right _ (List.mem_append_right _ (mem_pinsAt hb e)))).1, fun b hb => ?_, w9⟩
        obtain ⟨o, e, d⟩ := T.obj _ _ st8 b hb
        exact (I9b.pin (b, o) (List.mem_append_right _ (List.mem_append_right _ (mem_pinsAt hb e)))).2.1
      | true =>
        rw [if_pos rfl] at n9 ⊢
        refine wpAny_mono (he C { s2 with heap := h3 } H3 fp _ s9b _ H9 _ I9b n9) (fun y s10 h10 => ?_) fun _ _ z => False.elim z
        obtain ⟨y10, H10, I10, r10, n10⟩ := h10
        obtain ⟨hD10, m', hm, w10⟩ := hN' y10 H10 n10
        refine wpAny_mono (mt_append (X := compCx X scope cl C x N { s2 with heap := h3 } H3 fp) _ s10 _ H10 (.ref D) [y10] (.ref D) [y] (fun _ H' => H' = upd H10 D (.lst (ys ++ [y10]))) I10 rfl (.cons r10 .nil) ⟨D, ys, y10, rfl, rfl, hD10, hlen, rfl⟩) (fun _ s11 h11 => ?_) fun _ _ z => False.elim z
        obtain ⟨_, H11, I11, _, e11⟩ := h11
        subst e11
        refine ⟨m', hm, i + 1, some x8, ys ++ [y10], _, I11.unpinned, T.keep _ _ _ st8 fun b hb o e => (I11.pin (b, o) (List.mem_append_right _ (List.mem_append_right _ (mem_pinsAt hb e)))).1, fun b hb => ?_, w10⟩
        obtain ⟨o, e, d⟩ := T.obj _ _ st8 b hb
        exact (I11.pin (b, o) (List.mem_append_right _ (List.mem_append_right _ (mem_pinsAt hb e)))).2.1
  exact codeAny_compStart_list loop (T.self _ 0 _ _ _ st4 loop)
theorem pe_compIf {X : Cx} {elt iter cc : Expr} {x : Str} {px pos : Pos} {scope sc0 : Scope} {cl : List (Str × Addr)} {cn N : List Str} {fr : List Nat} {wi : TI} {tt : TT} {te : TE}
    (hc : X.calm = true) (hi : PI X (.Name x px) iter wi) (he : ∀ (C : Addr) (s₂ : Shared) (H₂ : Hp) (fp : List Addr), PE (compCx X scope cl C x N s₂ H₂ fp) elt te) (hct : ∀ (C : Addr) (s₂ : Shared) (H₂ : Hp) (fp : List Addr), PT (compCx X scope cl C x N s₂ H₂ fp) cc tt)
    (hclos : closureFor scope X.env = pure cl) (hcl : CellsIn X.env cl) (hcn : cl.map (·.1) = cn) (hsc : X.env.scope = sc0) (hk : scope.kind = .function) (hok : CompOk scope sc0 x N cn)
    (hfr : fr.map (fun j => X.N[j]?) = N.map some) (hs : ∀ v, foldedSetIterable iter X.env v = pure v := by intro _; rfl) :
    PE X (.ListComp elt [⟨.Name x px, iter, [cc], 0⟩] scope pos) (tCompIf wi tt te fr) := by
  intro pins s σ H Q I h
  rw [eval_ListComp]
  refine wpAny_comprehension_free (use := none) rfl hs hclos hk hok.names (thn (hi pins s σ H _ I h) fun v s1 h1 => thn h1 fun itv s2 h2 => ?_)
  obtain ⟨it, fp, tn, J, H2, e, I2, T, st2, f2, hq⟩ := h2
  subst e
  obtain ⟨W, ⟨m0, w0⟩, turn⟩ := hq s2.heap.objs.size (I2.hok.fresh (Nat.le_refl _))
  exact comp_coreIf (RR := fun acc C => compPost (model X.prog X.w) X.A X.xe none (EP X pins σ Q) acc C) (R := fun H6 => Q (.ref s2.heap.objs.size) H6) hc he hct hcl hcn hsc hk hok hfr I2 T st2 f2 w0 turn
    fun C H6 s6 m6 hn I6 F6 q => ⟨m6, hn, fun h' sb => ⟨.ref s2.heap.objs.size, H6, I6.let_go F6 sb, rfl, q⟩⟩
theorem compIf_list {K : PySem.W.Frag} {a : Addr} {xs : List V} {p : V → Bool} {g : V → V} {Tt : V → Hp → (Bool → Hp → Prop) → Prop} {Te : V → Hp → (V → Hp → Prop) → Prop} {D : Addr} {H1 : Hp} {R : Hp → Prop}
    (ha : SqL K H1 a xs) (hD : H1 D = none) (hn : xs.length ≤ sizeLine) (hT : ∀ x ∈ xs, ∀ (H : Hp) (Q : Bool → Hp → Prop), Same H1 H → Q (p x) H → Tt x H Q) (hE : ∀ x ∈ xs, p x = true → ∀ (H : Hp) (Q : V → Hp → Prop), Same H1 H → Q (g x) H → Te x H Q)
    (hR : R (upd H1 D (.lst ((xs.filter p).map g)))) :
    ∃ W : Nat → Nat → List V → Hp → Prop, (∃ m, W 0 m [] (upd H1 D (.lst []))) ∧
      ∀ i m ys H2, W i m ys H2 → H2 D = some (.lst ys) ∧ (((Itl K a).stop i H2 ∧ R H2) ∨ ((Itl K a).go i H2 ∧ ys.length < sizeLine ∧ ∃ N : V → Hp → Prop, (∀ y H3, N y H3 → H3 D = some (.lst ys) ∧ ∃ m', m' < m ∧ W (i + 1) m' (ys ++ [y]) (upd H3 D (.lst (ys ++ [y])))) ∧
        ∀ x H', (Itl K a).yld i H2 x H' → Tt x H' fun b H3 => if b = true then Te x H3 N else ∃ m', m' < m ∧ W (i + 1) m' ys H3)) := by
  refine ⟨fun i m ys H => m = xs.length - i ∧ i ≤ xs.length ∧ ys = ((xs.take i).filter p).map g ∧ H = upd H1 D (.lst ys), ⟨xs.length, by simp, Nat.zero_le _, by simp, rfl⟩, ?_⟩
  rintro i m ys H2 ⟨rfl, hi, hy, rfl⟩
  have sm : Same H1 (upd H1 D (.lst ys)) := same_new hD _
  have q := sm.seq ha
  have hyl : ys.length ≤ i := by
    rw [hy, List.length_map]
    exact Nat.le_trans (List.length_filter_le _ _) (by rw [List.length_take]; exact Nat.min_le_left _ _)
  refine ⟨upd_same, ?_⟩
  by_cases hlt : i < xs.length
  · refine .inr ⟨⟨xs, xs[i], q, by simp [hlt]⟩, by omega, fun y H3 => H3 = upd H1 D (.lst ys) ∧ y = g xs[i] ∧ p xs[i] = true, fun y H3 ⟨z1, z2, z3⟩ => ⟨by rw [z1]; exact upd_same, xs.length - (i + 1), by omega, rfl, hlt, ?eq, by rw [z1, upd_upd]⟩, fun x H' y => ?st⟩
    case eq =>
      rw [List.take_succ_eq_append_getElem hlt, List.filter_append, List.map_append, ← hy, z2]
      simp [z3]
    case st =>
      obtain ⟨e, y⟩ := y
      subst e
      have hx : xs[i]? = some x := y xs q
      have hx' : xs[i] = x := by simpa [hlt] using hx
      have hm : x ∈ xs := by rw [← hx']; exact List.getElem_mem hlt
      refine hT x hm _ _ sm ?_
      by_cases hp : p x = true
      · rw [if_pos hp]
        exact hE x hm hp _ _ sm ⟨rfl, by rw [hx'], by rw [hx']; exact hp⟩
      · rw [if_neg hp]
        refine ⟨xs.length - (i + 1), by omega, rfl, hlt, ?_, rfl⟩
        rw [List.take_succ_eq_append_getElem hlt, List.filter_append, List.map_append, ← hy, hx']
        simp [hp]
  · have e : i = xs.length := by omega
    subst e
    refine .inl ⟨⟨xs, q, Nat.le_refl _⟩, ?_⟩
    rw [hy, List.take_length]
    exact hR
end L2
namespace L2
open PySem PySem.Spec PyProof.Rows
section
variable {P : Program} {w : World} {K : PySem.W.Frag} {mg : Str → Option Value} {base : Heap}
def prevSp (sp : Nat → Sp) : Nat → Sp
  | 0 => fun _ _ _ _ => False
  | e + 1 => sp e
theorem Def.recur {sp : Nat → Sp} {x : Str} {st : Stmt} {ps : List Str} (d : Def K mg x st ps) {k : Nat} (n : Nat)
    (step : ∀ e, e ≤ n → Cal P w K mg base (e + k) x ps (prevSp sp e) → ∀ (f : Addr) (fd : FuncData), Fun K x x st f fd → FnOk P w K mg base CX0 (e + (k + 1)) f fd ps (sp e)) :
    Cal P w K mg base (n + (k + 1)) x ps (fun vs H Q E => ∃ e, e ≤ n ∧ sp e vs H Q E) := by
  obtain ⟨f, fd, h1, h2, h3⟩ := d.ex
  have all : ∀ e, e ≤ n → FnOk P w K mg base CX0 (e + (k + 1)) f fd ps (sp e) := by
    intro e
    induction e with
    | zero => exact fun he => step 0 he ⟨f, fd, ⟨fun _ _ _ _ h => h.elim, fun _ _ _ _ _ _ _ _ _ _ _ _ _ h => h.elim⟩, .all h2, h1.kp, h3⟩ f fd h1
    | succ e ih => exact fun he => step (e + 1) he ⟨f, fd, (ih (by omega)).mono (by omega), .all h2, h1.kp, h3⟩ f fd h1
  refine ⟨f, fd, ⟨?_, ?_⟩, .all h2, h1.kp, h3⟩
  · rintro vs H Q E ⟨e, he, h⟩
    exact (all e he).len vs H Q E h
  · rintro A outer s H args us vs Q E hr he hb hv ⟨e, hle, h⟩
    exact (all e hle).run A outer s H args us vs Q E (hr.mono (by omega)) he hb hv h
end
theorem comp_listM {K : PySem.W.Frag} {a : Addr} {xs : List V} {g : V → V} {Te : V → Hp → (V → Hp → Prop) → Prop} {D : Addr} {H1 : Hp} {R : Hp → Prop}
    (ha : SqL K H1 a xs) (hD : H1 D = none) (hn : xs.length ≤ sizeLine) (hE : ∀ x ∈ xs, ∀ (H : Hp) (Q : V → Hp → Prop), Same H1 H → Q (g x) H → Te x H Q) (hR : R (upd H1 D (.lst (xs.map g)))) :
    ∃ W : Nat → Nat → List V → Hp → Prop, (∃ m, W 0 m [] (upd H1 D (.lst []))) ∧
      ∀ i m ys H2, W i m ys H2 → H2 D = some (.lst ys) ∧ (((Itl K a).stop i H2 ∧ R H2) ∨ ((Itl K a).go i H2 ∧ ys.length < sizeLine ∧ ∃ N : V → Hp → Prop, (∀ y H3, N y H3 → H3 D = some (.lst ys) ∧ ∃ m', m' < m ∧ W (i + 1) m' (ys ++ [y]) (upd H3 D (.lst (ys ++ [y])))) ∧
        ∀ x H', (Itl K a).yld i H2 x H' → Te x H' N)) := by
  refine ⟨fun i m ys H => m = xs.length - i ∧ i ≤ xs.length ∧ ys = (xs.take i).map g ∧ H = upd H1 D (.lst ys), ⟨xs.length, by simp, Nat.zero_le _, by simp, rfl⟩, ?_⟩
  rintro i m ys H2 ⟨rfl, hi, hy, rfl⟩
  have sm : Same H1 (upd H1 D (.lst ys)) := same_new hD _
  have q := sm.seq ha
  have hyl : ys.length ≤ i := by
    rw [hy, List.length_map, List.length_take]; exact Nat.min_le_left _ _
  refine ⟨upd_same, ?_⟩
  by_cases hlt : i < xs.length
  · refine .inr ⟨⟨xs, xs[i], q, by simp [hlt]⟩, by omega, fun y H3 => H3 = upd H1 D (.lst ys) ∧ y = g xs[i], fun y H3 ⟨z1, z2⟩ => ⟨by rw [z1]; exact upd_same, xs.length - (i + 1), by omega, rfl, hlt, ?eq, by rw [z1, upd_upd]⟩, fun x H' y => ?st⟩
    case eq =>
      rw [List.take_succ_eq_append_getElem hlt, List.map_append, ← hy, z2]
      rfl
    case st =>
      obtain ⟨e, y⟩ := y
      subst e
      have hx : xs[i]? = some x := y xs q
      have hx' : xs[i] = x := by simpa [hlt] using hx
      have hm : x ∈ xs := by rw [← hx']; exact List.getElem_mem hlt
      exact hE x hm _ _ sm ⟨rfl, by rw [hx']⟩
  · have e : i = xs.length := by omega
    subst e
    refine .inl ⟨⟨xs, q, Nat.le_refl _⟩, ?_⟩
    rw [hy, List.take_length]
    exact hR
section
variable {X : Cx}
theorem op_eqL (hu : X.A.units + 64 < cLine) : OpR X (compareOp .Eq) (fun x y H Q => ∃ (a b : Addr) (ns ms : List Int), x = .ref a ∧ y = .ref b ∧ SqL X.K H a (ns.map V.int) ∧ SqL X.K H b (ms.map V.int) ∧ Q (.bl (decide (ns = ms))) H) := by
  intro pins s σ H x y v u Q I rx ry h
  obtain ⟨a, b, ns, ms, rfl, rfl, ha, hb, q⟩ := h
  cases rx
  cases ry
  obtain ⟨its, r1, p1, _⟩ := I.list ha
  obtain ⟨its2, r2, p2, _⟩ := I.list hb
  exact PySem.W.ke_eq_ints p1.isList p2.isList (intsAre_of r1) (intsAre_of r2) hu ⟨.bl _, H, I, rfl, q⟩
def tRev (K : PySem.W.Frag) (te : TE) : TE := fun σ H Q => te σ H fun x H1 => ∃ a xs, x = .ref a ∧ SqL K H1 a xs ∧ ∀ p, H1 p = none → Q (.ref p) (upd H1 p (.lst xs.reverse))
theorem pe_rev {e : Expr} {te : TE} {p1 p2 p3 pos : Pos} {k : Nat} (he : PE X e te) : PE X (.Subscript e (.Slice none none (some (.UnaryOp .USub (.Constant (.int 1) k p1) p3)) p2) pos) (tRev X.K te) := by
  intro pins s σ H Q I h
  refine Subscript_ (thn (he pins s σ H _ I h) fun v s1 ⟨x, H1, I1, r1, q1⟩ => ?_)
  obtain ⟨a, xs, rfl, hx, q⟩ := q1
  cases r1
  have hst : PO X (some (.UnaryOp .USub (.Constant (.int 1) k p1) p3)) (tPart (tUn (rU fun i => .int (-i)) fun _ H Q => Q (.int 1) H)) := po_some (pe_un un_neg pe_int)
  refine wpAny_Slice (thn (po_none (X := X) pins s1 σ H1 (fun o H' => o = none ∧ H' = H1) I1 ⟨rfl, rfl⟩) fun vl s2 ⟨l, H2, I2, pl, el, e2⟩ => thn (po_none (X := X) pins s2 σ H2 (fun o H' => o = none ∧ H' = H1) I2 ⟨rfl, e2⟩) fun vu s3 ⟨u, H3, I3, pu, eu, e3⟩ =>
    thn (hst pins s3 σ H3 (fun o H' => o = some (-1) ∧ H' = H1) I3 ⟨_, rfl, ⟨_, rfl, rfl, e3⟩⟩) fun vk s4 ⟨kk, H4, I4, pk, ek, e4⟩ => ?_)
  subst el eu ek e4
  have I5 : Inv X pins σ H4 { s4 with heap := s4.heap.push { cls := .type "slice", data := .fields #[vl, vu, vk] } } := I4.kept (t' := s4.toks) fun b ob q => Heap.get?_push_of_some _ q
  obtain ⟨its, r, ht, hz⟩ := I5.list hx
  have hlen := r.length
  show wpAny (model X.prog X.w) X.A (subscriptTail e _ (.ref a) (.ref s4.heap.objs.size)) (EP X pins σ Q) X.xe { s4 with heap := s4.heap.push { cls := .type "slice", data := .fields #[vl, vu, vk] } }
  refine tail_any (ops := [.ref a, .ref s4.heap.objs.size]) ht.isList.typeIs slot_list_getitem.lookup ?_ (by with_unfolding_all rfl)
  refine wpAny_getItem_list_slice ht.isList (Heap.IsSliceOf.new ..) pl pu pk (by simp) ?_ (by rw [List.size_toArray] <;> omega)
  rw [PySem.W.krv_pick]
  refine ⟨.ref _, _, I5.laid (t' := s4.toks) (o := .lst xs.reverse) (fun b ob q => Heap.get?_push_of_some _ q) (Nat.le_refl _) ?_, rfl, q _ (I5.hok.fresh (Nat.le_refl _))⟩
  exact ⟨by rw [List.length_reverse]; exact hz, _, 0, r.reverse, Heap.get?_push_size _ rfl⟩
end
section
variable {X : Cx} {K : PySem.W.Frag}
theorem ix_tupK (h : X.K = K) : IxR X (rIxT K) := by subst h; exact ix_tup
theorem ix_listK (h : X.K = K) : IxR X (rIxL K) := by subst h; exact ix_list
end
inductive Tr where
  | non
  | many (n : Int)
  | part (ms : List Int) (l r : Tr)
def Tr.deep : Tr → Nat
  | .non => 0
  | .many _ => 0
  | .part _ l r => max l.deep r.deep + 1
def TreeAt (H : Hp) : V → Tr → Prop
  | v, .non => v = .non
  | v, .many n => ∃ a, v = .ref a ∧ H a = some (.tup [.str "many", .int n])
  | v, .part ms l r => ∃ a m x y, v = .ref a ∧ H a = some (.tup [.str "part", .ref m, x, y]) ∧ TupF H m (ms.map V.int) ∧ TreeAt H x l ∧ TreeAt H y r
def TKeep (H H' : Hp) : Prop := ∀ b xs, (H b = some (.tup xs) → H' b = some (.tup xs)) ∧ ∀ o, H b = some (.frz o (.tup xs)) → H' b = some (.frz o (.tup xs))
theorem TKeep.same {H H' : Hp} (s : Same H H') : TKeep H H' := fun _ _ => ⟨s _ _, fun _ => s _ _⟩
theorem TKeep.keep {H H' : Hp} {p : Addr} {ys : List V} (s : Keep p H H') (e : H p = some (.lst ys)) : TKeep H H' := fun _ _ => ⟨fun h => s _ _ (ne_of h e (by intro z; cases z)) h, fun _ h => s _ _ (ne_of h e (by intro z; cases z)) h⟩
theorem TKeep.set {H : Hp} {p : Addr} {ys zs : List V} (e : H p = some (.lst ys)) : TKeep H (upd H p (.lst zs)) := .keep (Keep.set p H _) e
theorem TupF.tk {H H' : Hp} {a : Addr} {xs : List V} (h : TupF H a xs) (s : TKeep H H') : TupF H' a xs := by
  obtain ⟨o, h, c⟩ := h
  exact ⟨o, (s _ _).2 o h, c⟩
theorem TreeAt.tk {H H' : Hp} (s : TKeep H H') : ∀ {t : Tr} {v : V}, TreeAt H v t → TreeAt H' v t
  | .non, _, h => h
  | .many _, _, ⟨a, e, h⟩ => ⟨a, e, (s _ _).1 h⟩
  | .part _ _ _, _, ⟨a, m, x, y, e, h, hm, hl, hr⟩ => ⟨a, m, x, y, e, (s _ _).1 h, hm.tk s, TreeAt.tk s hl, TreeAt.tk s hr⟩
theorem TreeAt.same {H H' : Hp} (s : Same H H') {t : Tr} {v : V} (h : TreeAt H v t) : TreeAt H' v t := h.tk (.same s)
section
variable {X : Cx}
theorem eqAt_tup {pins : List (Addr × Obj)} {σ : St} {H : Hp} {s : Shared} {A : Around} {a b : Addr} {xs ys : List V} (I : Inv X pins σ H s) (ha : SqT X.K H a xs) (hb : SqT X.K H b ys) (hl : xs.length = ys.length)
    (he : ∀ (j : Nat) (x y : V), xs[j]? = some x → ys[j]? = some y → ∀ u v, RelV x u → RelV y v → SeqAt.EqAt A.in1 s u v true) (hu : A.units < cLine) :
    SeqAt.RcAt A s (.ref a) (.ref b) true ∧ SeqAt.RcNeAt A s (.ref a) (.ref b) false := by
  obtain ⟨its, r1, p1, _⟩ := I.tuple ha
  obtain ⟨its2, r2, p2, _⟩ := I.tuple hb
  have l1 := r1.length
  have l2 := r2.length
  have hz : its.toArray.size = its2.toArray.size := by rw [List.size_toArray, List.size_toArray]; omega
  have el : ∀ (j : Nat) (h1 : j < its.toArray.size) (h2 : j < its2.toArray.size), SeqAt.EqAt A.in1 s its.toArray[j] its2.toArray[j] ((fun _ => true) j) := by
    intro j h1 h2
    have h1' : j < xs.length := by rw [List.size_toArray] at h1; omega
    have h2' : j < ys.length := by rw [List.size_toArray] at h2; omega
    obtain ⟨v1, e1, r1'⟩ := r1.get (i := j) (x := xs[j]) (List.getElem?_eq_getElem h1')
    obtain ⟨v2, e2, r2'⟩ := r2.get (i := j) (x := ys[j]) (List.getElem?_eq_getElem h2')
    have g1 : its.toArray[j] = v1 := by
      have := List.getElem?_eq_some_iff.mp e1
      simpa using this.2
    have g2 : its2.toArray[j] = v2 := by
      have := List.getElem?_eq_some_iff.mp e2
      simpa using this.2
    rw [g1, g2]
    exact he j _ _ (List.getElem?_eq_getElem h1') (List.getElem?_eq_getElem h2') _ _ r1' r2'
  have t0 : ((List.range (min its.toArray.size its2.toArray.size)).all (fun _ => true) && its.toArray.size == its2.toArray.size) = true := by
    rw [hz]; simp
  constructor
  · rw [← t0]
    exact SeqAt.RcAt.tuples p1 p2 hu el
  · have z := SeqAt.RcNeAt.tuples (e := fun _ => true) p1 p2 hu el
    rw [t0] at z
    exact z
theorem eqAt_ref {A : Around} {s : Shared} {a b : Addr} (h : SeqAt.RcAt A s (.ref a) (.ref b) true) : SeqAt.EqAt A s (.ref a) (.ref b) true := by
  by_cases e : a = b
  · subst e
    exact SeqAt.EqAt.same _
  · exact .of_refs e h
theorem eqAt_int {A : Around} {s : Shared} {i : Int} {u v : Value} (r1 : RelV (.int i) u) (r2 : RelV (.int i) v) : SeqAt.EqAt A s u v true := by
  have z := eqAt_V (A := A) (s := s) r1 r2 rfl rfl
  have e : eqV (.int i) (.int i) = true := by simp [eqV]
  rw [e] at z
  exact z
theorem eqAt_str {A : Around} {s : Shared} {i : Str} {u v : Value} (r1 : RelV (.str i) u) (r2 : RelV (.str i) v) : SeqAt.EqAt A s u v true := by
  have z := eqAt_V (A := A) (s := s) r1 r2 rfl rfl
  have e : eqV (.str i) (.str i) = true := by simp [eqV]
  rw [e] at z
  exact z
theorem eqAt_ints {pins : List (Addr × Obj)} {σ : St} {H : Hp} {s : Shared} {A : Around} {a b : Addr} {ns : List Int} (I : Inv X pins σ H s) (ha : SqT X.K H a (ns.map V.int)) (hb : SqT X.K H b (ns.map V.int)) (hu : A.units < cLine) :
    SeqAt.RcAt A s (.ref a) (.ref b) true ∧ SeqAt.RcNeAt A s (.ref a) (.ref b) false := by
  refine eqAt_tup I ha hb rfl (fun j x y h1 h2 u v r1 r2 => ?_) hu
  rw [h1] at h2
  cases h2
  rw [List.getElem?_map] at h1
  cases e : ns[j]? with
  | none => rw [e] at h1; cases h1
  | some n =>
    rw [e] at h1
    cases h1
    exact eqAt_int r1 r2
theorem tree_eqAt {pins : List (Addr × Obj)} {σ : St} {H : Hp} {s : Shared} (I : Inv X pins σ H s) : ∀ (t : Tr) (A : Around) (x y : V) (u v : Value), TreeAt H x t → TreeAt H y t → RelV x u → RelV y v → A.units + t.deep + 2 < cLine →
    SeqAt.EqAt A s u v true ∧ SeqAt.RcNeAt A s u v false ∧ SeqAt.RcAt A s u v true
  | .non, A, x, y, u, v, hx, hy, ru, rv, hu => by
    cases hx
    cases hy
    cases ru
    cases rv
    exact ⟨SeqAt.EqAt.same _, SeqAt.RcNeAt.none_none, SeqAt.RcAt.none_none⟩
  | .many n, A, x, y, u, v, ⟨a, ea, ha⟩, ⟨b, eb, hb⟩, ru, rv, hu => by
    subst ea eb
    cases ru
    cases rv
    have z := eqAt_tup (A := A) I (SqT.of ha) (SqT.of hb) rfl (fun j x y h1 h2 u v r1 r2 => by
      match j, h1, h2 with
      | 0, h1, h2 => cases h1; cases h2; exact eqAt_str r1 r2
      | 1, h1, h2 => cases h1; cases h2; exact eqAt_int r1 r2
      | j + 2, h1, h2 => cases h1) (by omega)
    exact ⟨eqAt_ref z.1, z.2, z.1⟩
  | .part ms l r, A, x, y, u, v, ⟨a, m, x1, y1, ea, ha, hm, hl, hr⟩, ⟨b, m', x2, y2, eb, hb, hm', hl', hr'⟩, ru, rv, hu => by
    subst ea eb
    cases ru
    cases rv
    have hd : (Tr.part ms l r).deep = max l.deep r.deep + 1 := rfl
    have hA : A.in1.units = A.units + 1 := rfl
    have z := eqAt_tup (A := A) I (SqT.of ha) (SqT.of hb) rfl (fun j x y h1 h2 u v r1 r2 => by
      match j, h1, h2 with
      | 0, h1, h2 => cases h1; cases h2; exact eqAt_str r1 r2
      | 1, h1, h2 =>
        cases h1; cases h2
        cases r1
        cases r2
        exact eqAt_ref (eqAt_ints I hm.sq hm'.sq (by omega)).1
      | 2, h1, h2 => cases h1; cases h2; exact (tree_eqAt I l A.in1 _ _ _ _ hl hl' r1 r2 (by omega)).1
      | 3, h1, h2 => cases h1; cases h2; exact (tree_eqAt I r A.in1 _ _ _ _ hr hr' r1 r2 (by omega)).1
      | j + 4, h1, h2 => cases h1) (by omega)
    exact ⟨eqAt_ref z.1, z.2, z.1⟩
theorem op_eqTr (hu : X.A.units + 64 < cLine) : OpR X (compareOp .Eq) (fun x y H Q => ∃ t : Tr, TreeAt H x t ∧ TreeAt H y t ∧ t.deep ≤ 60 ∧ Q (.bl true) H) := by
  intro pins s σ H x y v u Q I rx ry h
  obtain ⟨t, hx, hy, hd, q⟩ := h
  exact (tree_eqAt I t X.A x y v u hx hy rx ry (by omega)).2.2 _ _ _ _ ⟨.bl true, H, I, rfl, q⟩
end
end L2
namespace L2
open PySem PySem.Spec PyProof.Rows
def onI {α : Type} (f : Int → α) (d : α) : V → α
  | .int n => f n
  | _ => d
theorem filt_onI {p : Int → Bool} {g : Int → V} (ns : List Int) : (((ns.map V.int).filter (onI p false)).map (onI g .non)) = (ns.filter p).map g := by
  induction ns with
  | nil => rfl
  | cons n ns ih =>
    rw [List.map_cons, List.filter_cons, List.filter_cons]
    have e : onI p false (.int n) = p n := rfl
    rw [e]
    by_cases h : p n = true
    · rw [if_pos h, if_pos h, List.map_cons, List.map_cons, ih]; rfl
    · rw [if_neg h, if_neg h]; exact ih
section
variable {K : PySem.W.Frag} {a : Addr} {ns : List Int} {p : Int → Bool} {g : Int → V} {Tt : V → Hp → (Bool → Hp → Prop) → Prop} {Te : V → Hp → (V → Hp → Prop) → Prop} {D : Addr} {H1 : Hp} {R : Hp → Prop}
theorem compIf_ints (ha : SqL K H1 a (ns.map V.int)) (hD : H1 D = none) (hn : ns.length ≤ sizeLine) (hT : ∀ n ∈ ns, ∀ (H : Hp) (Q : Bool → Hp → Prop), Same H1 H → Q (p n) H → Tt (.int n) H Q)
    (hE : ∀ n ∈ ns, p n = true → ∀ (H : Hp) (Q : V → Hp → Prop), Same H1 H → Q (g n) H → Te (.int n) H Q) (hR : R (upd H1 D (.lst ((ns.filter p).map g)))) :
    ∃ W : Nat → Nat → List V → Hp → Prop, (∃ m, W 0 m [] (upd H1 D (.lst []))) ∧
      ∀ i m ys H2, W i m ys H2 → H2 D = some (.lst ys) ∧ (((Itl K a).stop i H2 ∧ R H2) ∨ ((Itl K a).go i H2 ∧ ys.length < sizeLine ∧ ∃ N : V → Hp → Prop, (∀ y H3, N y H3 → H3 D = some (.lst ys) ∧ ∃ m', m' < m ∧ W (i + 1) m' (ys ++ [y]) (upd H3 D (.lst (ys ++ [y])))) ∧
        ∀ x H', (Itl K a).yld i H2 x H' → Tt x H' fun b H3 => if b = true then Te x H3 N else ∃ m', m' < m ∧ W (i + 1) m' ys H3)) := by
  refine compIf_list (p := onI p false) (g := onI g .non) ha hD (by rw [List.length_map]; exact hn) (fun x hx H Q s q => ?_) (fun x hx hp H Q s q => ?_) (by rw [filt_onI]; exact hR)
  · obtain ⟨n, hm, rfl⟩ := List.mem_map.mp hx
    exact hT n hm H Q s q
  · obtain ⟨n, hm, rfl⟩ := List.mem_map.mp hx
    exact hE n hm hp H Q s q
theorem comp_ints (ha : SqL K H1 a (ns.map V.int)) (hD : H1 D = none) (hn : ns.length ≤ sizeLine) (hE : ∀ n ∈ ns, ∀ (H : Hp) (Q : V → Hp → Prop), Same H1 H → Q (g n) H → Te (.int n) H Q) (hR : R (upd H1 D (.lst (ns.map g)))) :
    ∃ W : Nat → Nat → List V → Hp → Prop, (∃ m, W 0 m [] (upd H1 D (.lst []))) ∧
      ∀ i m ys H2, W i m ys H2 → H2 D = some (.lst ys) ∧ (((Itl K a).stop i H2 ∧ R H2) ∨ ((Itl K a).go i H2 ∧ ys.length < sizeLine ∧ ∃ N : V → Hp → Prop, (∀ y H3, N y H3 → H3 D = some (.lst ys) ∧ ∃ m', m' < m ∧ W (i + 1) m' (ys ++ [y]) (upd H3 D (.lst (ys ++ [y])))) ∧
        ∀ x H', (Itl K a).yld i H2 x H' → Te x H' N)) := by
  refine comp_listM (g := onI g .non) ha hD (by rw [List.length_map]; exact hn) (fun x hx H Q s q => ?_) (by rw [List.map_map]; exact hR)
  obtain ⟨n, hm, rfl⟩ := List.mem_map.mp hx
  exact hE n hm H Q s q
end
theorem Keep.free {p l : Addr} {H H' : Hp} {o : HO} (k : Keep p H H') (hl : H' l = none) (hp : H' p = some o) : H l = none := by
  cases e : H l with
  | none => rfl
  | some u =>
    have n : l ≠ p := fun z => by rw [z, hp] at hl; cases hl
    rw [k l u n e] at hl
    cases hl
theorem Keep.own {p r : Addr} {H H' : Hp} {o : HO} (k : Keep p H H') (hr : H r = none) : Keep p H (upd H' r o) := fun c u hc z => by
  rw [upd_ne (ne_of_none z hr)]
  exact k c u hc z
theorem p2pos (L : Nat) : (0 : Int) < 2 ^ L := by
  induction L with
  | zero => decide
  | succ L ih => rw [Int.pow_succ]; omega
theorem p2le {L : Nat} (h : L ≤ 40) : (2 : Int) ^ L ≤ 1099511627776 := by
  have e : (2 : Int) ^ L = ((2 ^ L : Nat) : Int) := by simp
  have : 2 ^ L ≤ 2 ^ 40 := Nat.pow_le_pow_right (by decide) h
  rw [e]
  have e2 : (2 : Nat) ^ 40 = 1099511627776 := by decide
  omega
theorem p2half (e : Nat) : (2 : Int) ^ (e + 1) / 2 = 2 ^ e := by rw [Int.pow_succ]; omega
theorem p2succ (e : Nat) : (2 : Int) ^ (e + 1) = 2 ^ e + 2 ^ e := by rw [Int.pow_succ]; omega
theorem p2one {e : Nat} (h : (2 : Int) ^ e = 1) : e = 0 := by
  cases e with
  | zero => rfl
  | succ e => have := p2pos e; rw [p2succ] at h; omega
theorem shlOne (L : Nat) : (1 : Int) * 2 ^ ((L : Int)).toNat = 2 ^ L := by rw [Int.one_mul]; rfl
end L2
namespace L2
open PySem PySem.Spec PyProof.Rows
inductive Alk (K : PySem.W.Frag) (H : Hp) : Nat → V → V → Prop where
  | flat {n : Nat} {x : V} (h : flatV x = true) : Alk K H n x x
  | tup {n : Nat} {a b : Addr} {xs ys : List V} (ha : SqT K H a xs) (hb : SqT K H b ys) (hl : xs.length = ys.length) (h : ∀ (j : Nat) (x y : V), xs[j]? = some x → ys[j]? = some y → Alk K H n x y) : Alk K H (n + 1) (.ref a) (.ref b)
  | lst {n : Nat} {a b : Addr} {xs ys : List V} (ha : SqL K H a xs) (hb : SqL K H b ys) (hl : xs.length = ys.length) (h : ∀ (j : Nat) (x y : V), xs[j]? = some x → ys[j]? = some y → Alk K H n x y) : Alk K H (n + 1) (.ref a) (.ref b)
theorem eqV_self : ∀ {x : V}, flatV x = true → eqV x x = true := by
  intro x h
  cases x <;> simp [flatV] at h <;> simp [eqV]
section
variable {X : Cx}
theorem eqAt_lst {pins : List (Addr × Obj)} {σ : St} {H : Hp} {s : Shared} {A : Around} {a b : Addr} {xs ys : List V} (I : Inv X pins σ H s) (ha : SqL X.K H a xs) (hb : SqL X.K H b ys) (hl : xs.length = ys.length)
    (he : ∀ (j : Nat) (x y : V), xs[j]? = some x → ys[j]? = some y → ∀ u v, RelV x u → RelV y v → SeqAt.EqAt A.in1 s u v true) (hu : A.units < cLine) :
    SeqAt.RcAt A s (.ref a) (.ref b) true ∧ SeqAt.RcNeAt A s (.ref a) (.ref b) false := by
  obtain ⟨its, r1, p1, _⟩ := I.list ha
  obtain ⟨its2, r2, p2, _⟩ := I.list hb
  have l1 := r1.length
  have l2 := r2.length
  have hz : its.toArray.size = its2.toArray.size := by rw [List.size_toArray, List.size_toArray]; omega
  have el : ∀ (j : Nat) (h1 : j < its.toArray.size) (h2 : j < its2.toArray.size), SeqAt.EqAt A.in1 s its.toArray[j] its2.toArray[j] ((fun _ => true) j) := by
    intro j h1 h2
    have h1' : j < xs.length := by rw [List.size_toArray] at h1; omega
    have h2' : j < ys.length := by rw [List.size_toArray] at h2; omega
    obtain ⟨v1, e1, r1'⟩ := r1.get (i := j) (x := xs[j]) (List.getElem?_eq_getElem h1')
    obtain ⟨v2, e2, r2'⟩ := r2.get (i := j) (x := ys[j]) (List.getElem?_eq_getElem h2')
    have g1 : its.toArray[j] = v1 := by
      have := List.getElem?_eq_some_iff.mp e1
      simpa using this.2
    have g2 : its2.toArray[j] = v2 := by
      have := List.getElem?_eq_some_iff.mp e2
      simpa using this.2
    rw [g1, g2]
    exact he j _ _ (List.getElem?_eq_getElem h1') (List.getElem?_eq_getElem h2') _ _ r1' r2'
  have t0 : (List.range its.toArray.size).all (fun _ => true) = true := by simp
  constructor
  · rw [← t0]
    exact SeqAt.RcAt.lists p1.isList p2.isList hz hu el
  · have z := SeqAt.RcNeAt.lists (e := fun _ => true) p1.isList p2.isList hz hu el
    rw [t0] at z
    exact z
theorem alk_eqAt {pins : List (Addr × Obj)} {σ : St} {H : Hp} {s : Shared} (I : Inv X pins σ H s) {n : Nat} {x y : V} (h : Alk X.K H n x y) : ∀ (A : Around) (u v : Value), RelV x u → RelV y v → A.units + n + 1 < cLine → SeqAt.EqAt A s u v true := by
  induction h with
  | @flat n x hf =>
    intro A u v ru rv hu
    have z := eqAt_V (A := A) (s := s) ru rv hf hf
    rw [eqV_self hf] at z
    exact z
  | tup ha hb hl _ ih =>
    intro A u v ru rv hu
    cases ru
    cases rv
    exact eqAt_ref (eqAt_tup I ha hb hl (fun j x y h1 h2 u v r1 r2 => ih j x y h1 h2 A.in1 u v r1 r2 (by show A.units + 1 + _ + 1 < cLine; omega)) (by omega)).1
  | lst ha hb hl _ ih =>
    intro A u v ru rv hu
    cases ru
    cases rv
    exact eqAt_ref (eqAt_lst I ha hb hl (fun j x y h1 h2 u v r1 r2 => ih j x y h1 h2 A.in1 u v r1 r2 (by show A.units + 1 + _ + 1 < cLine; omega)) (by omega)).1
theorem alk_refs {pins : List (Addr × Obj)} {σ : St} {H : Hp} {s : Shared} (I : Inv X pins σ H s) {n : Nat} {a b : Addr} (h : Alk X.K H n (.ref a) (.ref b)) (A : Around) (hu : A.units + n + 1 < cLine) : SeqAt.RcAt A s (.ref a) (.ref b) true ∧ SeqAt.RcNeAt A s (.ref a) (.ref b) false := by
  cases h with
  | flat hf => exact absurd hf (by simp [flatV])
  | tup ha hb hl h => exact eqAt_tup I ha hb hl (fun j x y h1 h2 u v r1 r2 => alk_eqAt I (h j x y h1 h2) A.in1 u v r1 r2 (by show A.units + 1 + _ + 1 < cLine; omega)) (by omega)
  | lst ha hb hl h => exact eqAt_lst I ha hb hl (fun j x y h1 h2 u v r1 r2 => alk_eqAt I (h j x y h1 h2) A.in1 u v r1 r2 (by show A.units + 1 + _ + 1 < cLine; omega)) (by omega)
theorem op_neAlk (hu : X.A.units + 64 < cLine) : OpR X (compareOp .NotEq) (fun x y H Q => ∃ (n : Nat) (a b : Addr), x = .ref a ∧ y = .ref b ∧ Alk X.K H n (.ref a) (.ref b) ∧ n ≤ 60 ∧ Q (.bl false) H) := by
  intro pins s σ H x y v u Q I rx ry h
  obtain ⟨n, a, b, rfl, rfl, hk, hn, q⟩ := h
  cases rx
  cases ry
  exact (alk_refs I hk X.A (by omega)).2 _ _ _ _ ⟨.bl false, H, I, rfl, q⟩
end
end L2
namespace L2
open PySem PySem.Spec PyProof.Rows
structure CompOkG (scope sc0 : Scope) (N cn : List Str) : Prop where
  has : ∀ p ∈ relN scope sc0, (p.2 = .cell ∨ p.2 = .free) → p.1 ∈ cn
  nc : ∀ p ∈ scope.names, p.2 ≠ .cell
  names : ∀ p ∈ scope.names, p.2 = .local → scope.names.lookup p.1 = some .local
  frs : ∀ y ∈ N, (relN scope sc0).lookup y = some .cell ∧ sc0.names.lookup y = some .cell ∧ y ∈ cn
section
variable {prog : Program} {w : World} {A : Around} {R : Result → Shared → Prop} {s : Shared}
end
end L2
namespace L2
open PySem PySem.Spec PyProof.Rows
section
variable {n : Nat} {lo : Int} {p : Nat → Bool} {g : Nat → V} {Tt : V → Hp → (Bool → Hp → Prop) → Prop} {Te : V → Hp → (V → Hp → Prop) → Prop} {D : Addr} {H1 : Hp} {R : Hp → Prop}
end
end L2
namespace L2
open PySem PySem.Spec PyProof.Rows
section
variable {X : Cx}
theorem call_sumI (hc : X.calm = true) : CallR X (.builtin "sum") (fun xs H Q => ∃ (p : Addr) (ns : List Int), xs = [.ref p] ∧ SqL X.K H p (ns.map V.int) ∧ Q (.int ns.sum) H) := by
  intro pins s σ H xs us Q I r h
  obtain ⟨p, ns, rfl, hq, q⟩ := h
  obtain ⟨u, rfl, rx⟩ := vals1 r
  cases rx
  obtain ⟨its, r', pl, hz⟩ := I.list hq
  have hi := intsAre_of r'
  obtain ⟨ys, hx⟩ := hi.allInts.items
  have hl' : s.heap.IsList p (intItems ys) := hx ▸ pl.isList
  refine sum_intListG (I.ok.hd hc) hl' fun h' tk t' hk => ?_
  have e1 : ns = ys.toList.map (·.1) := by
    rw [← nums_intItems, ← hx]
    exact (show numsOf its.toArray.toList = ns from hi.numsOf).symm
  have e2 : preSum (numAt ys) ys.size = ns.sum := by
    rw [preSum_eq, List.take_of_length_le (by simp), e1]
  rw [e2]
  exact ⟨.int ns.sum, H, I.kept (t' := tk) hk, ⟨_, rfl⟩, q⟩
end
theorem comp_listP {K : PySem.W.Frag} {a : Addr} {xs : List V} {T : V → Hp → (V → Hp → Prop) → Prop} {D : Addr} {H1 : Hp} {R : Hp → Prop} (hn : xs.length ≤ sizeLine) (Pv : Nat → List V → Hp → Prop) (h0 : Pv 0 [] (upd H1 D (.lst [])))
    (hl : ∀ i ys H, Pv i ys H → SqL K H a xs) (hD : ∀ i ys H, Pv i ys H → H D = some (.lst ys) ∧ ys.length = i)
    (hs : ∀ i x ys H, xs[i]? = some x → Pv i ys H → T x H fun y H3 => H3 D = some (.lst ys) ∧ Pv (i + 1) (ys ++ [y]) (upd H3 D (.lst (ys ++ [y]))))
    (hd : ∀ ys H, Pv xs.length ys H → R H) :
    ∃ W : Nat → Nat → List V → Hp → Prop, (∃ m, W 0 m [] (upd H1 D (.lst []))) ∧
      ∀ i m ys H2, W i m ys H2 → H2 D = some (.lst ys) ∧ (((Itl K a).stop i H2 ∧ R H2) ∨ ((Itl K a).go i H2 ∧ ys.length < sizeLine ∧ ∃ N : V → Hp → Prop, (∀ y H3, N y H3 → H3 D = some (.lst ys) ∧ ∃ m', m' < m ∧ W (i + 1) m' (ys ++ [y]) (upd H3 D (.lst (ys ++ [y])))) ∧
        ∀ x H', (Itl K a).yld i H2 x H' → T x H' N)) := by
  refine ⟨fun i m ys H => m = xs.length - i ∧ i ≤ xs.length ∧ Pv i ys H, ⟨xs.length, by simp, Nat.zero_le _, h0⟩, ?_⟩
  rintro i m ys H2 ⟨rfl, hi, p⟩
  obtain ⟨d1, d2⟩ := hD i ys H2 p
  have q := hl i ys H2 p
  refine ⟨d1, ?_⟩
  by_cases hlt : i < xs.length
  · refine .inr ⟨⟨xs, xs[i], q, by simp [hlt]⟩, by omega, fun y H3 => H3 D = some (.lst ys) ∧ Pv (i + 1) (ys ++ [y]) (upd H3 D (.lst (ys ++ [y]))), fun y H3 ⟨z1, z2⟩ => ⟨z1, xs.length - (i + 1), by omega, rfl, hlt, z2⟩, fun x H' y => ?_⟩
    obtain ⟨e, y⟩ := y
    subst e
    exact hs i x ys _ (y xs q) p
  · have e : i = xs.length := by omega
    subst e
    exact .inl ⟨⟨xs, q, Nat.le_refl _⟩, hd ys H2 p⟩
end L2
namespace HT
open PySem PySem.Spec PyProof.Rows
section
open PySem.SeqAt
open PySem.AutoSeq1 (wpAny_loadPart')
open PySem.MeetsSeq PySem.MeetsSeq2 PySem.MeetsSeq3
theorem int_rmul_tuple (a : Int) (t : Tok) (l : Addr) (items : Array Value) (n : Nat) (dd : Option Addr) (sl : Array (Option Value)) :
    Meets (Builtin.«int.__rmul__» ⟨[.int a t, .ref l], []⟩) (fun _ R s => s.heap.get? l = some { cls := .type "tuple", dict := dd, data := .seq items n, slots := sl } ∧ R (.ok (.ret .notImplemented)) s) :=
  .of_wp fun prog w A R s h => by
    obtain ⟨hp, g, d, tk, os⟩ := s; obtain ⟨hl, h⟩ := h
    have f2 := PyProof.Rows.sub_tuple_int
    wp_walk using wpAny_loadPart' hl
    exact ⟨_, rfl, h⟩
theorem tuple_mul_one (l : Addr) (items : Array Value) (n : Nat) (dd : Option Addr) (sl : Array (Option Value)) (t : Tok) :
    Meets (Builtin.«tuple.__mul__» ⟨[.ref l, .int 1 t], []⟩) (fun _ R s => s.heap.get? l = some { cls := .type "tuple", dict := dd, data := .seq items n, slots := sl } ∧ R (.ok (.ret (.ref l))) s) :=
  .of_wp fun prog w A R s h => by
    obtain ⟨hp, g, d, tk, os⟩ := s; obtain ⟨hl, h⟩ := h
    wp_walk using wpAny_loadPart' hl
    exact ⟨_, rfl, h⟩
theorem tuple_mul_many (l : Addr) (items : Array Value) (n : Nat) (dd : Option Addr) (sl : Array (Option Value)) (k : Int) (t : Tok) (h0 : items.isEmpty = false) (h1 : (k == 1) = false) (k0 : 0 ≤ k) (k1 : k < 2 ^ 62) (hz : (items.size : Int) * k ≤ (sizeLine : Nat)) (hz2 : ¬ (List.foldl (fun x1 x2 => x1 ++ x2) #[] (List.replicate k.toNat items)).size > sizeLine) :
    Meets (Builtin.«tuple.__mul__» ⟨[.ref l, .int k t], []⟩) (fun _ R s => s.heap.get? l = some { cls := .type "tuple", dict := dd, data := .seq items n, slots := sl } ∧
      R (.ok (.ret (.ref s.heap.objs.size))) { s with heap := s.heap.push { cls := .type "tuple", data := .seq (List.foldl (fun x1 x2 => x1 ++ x2) #[] (List.replicate k.toNat items)) } }) :=
  .of_wp fun prog w A R s h => by
    obtain ⟨hp, g, d, tk, os⟩ := s; obtain ⟨hl, h⟩ := h
    have e1 : (items.isEmpty || k == 1) = false := by rw [h0, h1]; rfl
    have hfit : ¬ (decide (k < -2 ^ 63) || decide (k ≥ 2 ^ 63)) = true := by
      rw [decide_eq_false (by omega), decide_eq_false (by omega)]; decide
    have hbig : ¬ ((items.size : Int) * k > (2 ^ 63 - 1) / 8) := by
      have : ((sizeLine : Nat) : Int) ≤ (2 ^ 63 - 1) / 8 := by decide
      omega
    have hlong : ¬ Builtin.Tuple.tupleTooMany ((items.size : Int) * k) = true := by
      unfold Builtin.Tuple.tupleTooMany
      rw [decide_eq_false (by omega)]
      exact Bool.false_ne_true
    by_cases hk : k ≤ 0
    · have e2 : (decide (k ≤ 0) || items.isEmpty) = true := by rw [decide_eq_true hk]; rfl
      have e3 : k.toNat = 0 := by omega
      rw [e3] at h
      wp_walk using wpAny_loadPart' hl
      rw [if_neg hfit]
      wp_walk using wpAny_loadPart' hl
      exact ⟨_, rfl, h⟩
    · have e2 : ¬ (decide (k ≤ 0) || items.isEmpty) = true := by rw [decide_eq_false hk, h0]; decide
      wp_walk using wpAny_loadPart' hl
      rw [if_neg hfit]
      wp_walk using wpAny_loadPart' hl
      rw [if_neg hbig]
      wp_walk using wpAny_loadPart' hl
      exact ⟨_, rfl, h⟩
end
theorem noFill_tuple_mul : fillsNumberSlot (Value.type "tuple") "mul" = pure false := by with_unfolding_all rfl
theorem repeat_tuple : seqRepeat? (Value.type "tuple") = pure (some (Value.builtin "tuple.__mul__")) := by with_unfolding_all rfl
section
variable {prog : Program} {w : World} {A : Around} {E : Value → Shared → Prop} {s : Shared}
end
end HT
namespace L2
open PySem PySem.Spec PyProof.Rows
section
variable {X : Cx}
end
theorem compIf_tupP {K : PySem.W.Frag} {a : Addr} {xs : List V} {Tt : V → Hp → (Bool → Hp → Prop) → Prop} {Te : V → Hp → (V → Hp → Prop) → Prop} {D : Addr} {H1 : Hp} {R : Hp → Prop} (hn : xs.length ≤ sizeLine) (Pv : Nat → List V → Hp → Prop) (h0 : Pv 0 [] (upd H1 D (.lst [])))
    (hl : ∀ i ys H, Pv i ys H → SqT K H a xs) (hD : ∀ i ys H, Pv i ys H → H D = some (.lst ys) ∧ ys.length ≤ i)
    (hs : ∀ i x ys H, xs[i]? = some x → Pv i ys H → Tt x H fun b H3 => if b = true then Te x H3 (fun y H4 => H4 D = some (.lst ys) ∧ Pv (i + 1) (ys ++ [y]) (upd H4 D (.lst (ys ++ [y])))) else ∃ m', m' < xs.length - i ∧ m' = xs.length - (i + 1) ∧ i + 1 ≤ xs.length ∧ Pv (i + 1) ys H3)
    (hd : ∀ ys H, Pv xs.length ys H → R H) :
    ∃ W : Nat → Nat → List V → Hp → Prop, (∃ m, W 0 m [] (upd H1 D (.lst []))) ∧
      ∀ i m ys H2, W i m ys H2 → H2 D = some (.lst ys) ∧ (((Itt K a).stop i H2 ∧ R H2) ∨ ((Itt K a).go i H2 ∧ ys.length < sizeLine ∧ ∃ N : V → Hp → Prop, (∀ y H3, N y H3 → H3 D = some (.lst ys) ∧ ∃ m', m' < m ∧ W (i + 1) m' (ys ++ [y]) (upd H3 D (.lst (ys ++ [y])))) ∧
        ∀ x H', (Itt K a).yld i H2 x H' → Tt x H' fun b H3 => if b = true then Te x H3 N else ∃ m', m' < m ∧ W (i + 1) m' ys H3)) := by
  refine ⟨fun i m ys H => m = xs.length - i ∧ i ≤ xs.length ∧ Pv i ys H, ⟨xs.length, by simp, Nat.zero_le _, h0⟩, ?_⟩
  rintro i m ys H2 ⟨rfl, hi, p⟩
  obtain ⟨d1, d2⟩ := hD i ys H2 p
  have q := hl i ys H2 p
  refine ⟨d1, ?_⟩
  by_cases hlt : i < xs.length
  · refine .inr ⟨⟨xs, xs[i], q, by simp [hlt]⟩, by omega, fun y H3 => H3 D = some (.lst ys) ∧ Pv (i + 1) (ys ++ [y]) (upd H3 D (.lst (ys ++ [y]))), fun y H3 ⟨z1, z2⟩ => ⟨z1, xs.length - (i + 1), by omega, rfl, hlt, z2⟩, fun x H' y => ?_⟩
    obtain ⟨e, y⟩ := y
    subst e
    exact hs i x ys _ (y xs q) p
  · have e : i = xs.length := by omega
    subst e
    exact .inl ⟨⟨xs, q, Nat.le_refl _⟩, hd ys H2 p⟩
end L2
namespace L2
open PySem PySem.Spec PyProof.Rows
section
variable {X : Cx}
def tTupF (t : TA) : TE := fun σ H Q => t σ H fun xs H1 => xs.length ≤ sizeLine ∧ ∀ p H', Same H1 H' → TupF H' p xs → Q (.ref p) H'
theorem pe_tupF {es : List Expr} {t : TA} {pos : Pos} {x1} (h : PA X es t) : PE X (.Tuple es x1 pos) (tTupF t) := by
  intro pins s σ H Q I hq
  refine wpAny_Tuple_spliced (thn (h pos pins s σ H _ I hq) fun us s1 ⟨xs, H1, I1, r, z, q⟩ => ⟨by rw [← r.length]; exact z, ?_⟩)
  have hf : H1 s1.heap.objs.size = none := I1.hok.fresh (Nat.le_refl _)
  refine ⟨.ref s1.heap.objs.size, upd H1 s1.heap.objs.size (.frz { cls := .type "tuple", data := .seq us.toArray } (.tup xs)), I1.laid (t' := s1.toks) (fun b u e => Heap.get?_push_of_some _ e) (Nat.le_refl _) ?_, rfl, q _ _ (same_new hf _) ⟨_, upd_same, rfl, rfl⟩⟩
  exact ⟨Heap.get?_push_size _ rfl, z, us, r, ⟨_, Heap.get?_push_size _ rfl, rfl, _, rfl⟩⟩
end
end L2
namespace L2
open PySem PySem.Spec PyProof.Rows
section
variable {X : Cx}
variable {a b c d : Expr} {ta tb tc td : TE} {pos : Pos}
end
end L2
namespace L2
open PySem PySem.Spec PyProof.Rows
section
variable {X : Cx} {K : PySem.W.Frag}
theorem call_isP (hK : X.K = K) : CallR X (.builtin "isinstance") (fun xs H Q => ∃ x c t b, xs = [x, .ty c] ∧ (TyOf K H x t ∨ ∃ a ys, x = .ref a ∧ SqT K H a ys ∧ t = .type "tuple") ∧ PySem.W.kitOne K t (.type c) = some b ∧ Q (.bl b) H) := by
  subst hK
  intro pins s σ H xs us Q I r h
  obtain ⟨x, c, t, b, rfl, ty, e, q⟩ := h
  obtain ⟨u, w', rfl, ru, rw'⟩ := vals2 r
  cases rw'
  rcases ty with ty | ⟨a, ys, rfl, ht, rfl⟩
  · exact isinst_ok I ru ty e fun tk => ⟨.bl b, H, I.tok tk, rfl, q⟩
  · cases ru
    obtain ⟨its, r1, p1, _⟩ := I.tuple ht
    obtain ⟨o, h1, h2, _⟩ := id p1
    exact PySem.W.kia_one PySem.W.kitx_tuple I.kIn ⟨o, h1, h2⟩ e (fun z => nomatch z) fun tk => ⟨.bl b, H, I.tok tk, rfl, q⟩
theorem kit_int_is : PySem.W.kitAny K (.type "int") [.type "int", .type "str"] = some true := by kernel_rfl
theorem kit_str_is : PySem.W.kitAny K (.type "str") [.type "int", .type "str"] = some true := by kernel_rfl
theorem kit_str_bool : PySem.W.kitOne K (.type "str") (.type "bool") = some false := by kernel_rfl
theorem call_isIS (hK : X.K = K) : CallR X (.builtin "isinstance") (fun xs H Q => ∃ x tp, xs = [x, .ref tp] ∧ ((∃ n, x = .int n) ∨ ∃ y, x = .str y) ∧ SqT K H tp [.ty "int", .ty "str"] ∧ Q (.bl true) H) := by
  subst hK
  intro pins s σ H xs us Q I r h
  obtain ⟨x, tp, rfl, hx, ht, q⟩ := h
  obtain ⟨u, w', rfl, ru, rw'⟩ := vals2 r
  cases rw'
  obtain ⟨its, r1, p1, _⟩ := I.tuple ht
  obtain ⟨⟨cls, dd, data, sl⟩, ho, hc, n, hd⟩ := id p1
  simp only at hc hd
  subst hc hd
  have z : its = [.type "int", .type "str"] := by
    obtain ⟨u1, u2, rfl, q1, q2⟩ := vals2 r1
    cases q1
    cases q2
    rfl
  subst z
  rcases hx with ⟨n, rfl⟩ | ⟨y, rfl⟩
  · obtain ⟨t, rfl⟩ := ru
    exact PySem.W.kia_tup PySem.W.kitx_int I.kIn True.intro ho kit_int_is (fun z => nomatch z) fun tk => ⟨.bl true, H, I.tok tk, rfl, q⟩
  · obtain ⟨t, rfl⟩ := ru
    exact PySem.W.kia_tup PySem.W.kitx_str I.kIn True.intro ho kit_str_is (fun z => nomatch z) fun tk => ⟨.bl true, H, I.tok tk, rfl, q⟩
end
end L2
namespace L2
open PySem PySem.Spec PyProof.Rows
section
variable {X : Cx}
theorem op_repF : OpR X (binaryOp .Mult) (fun x y H Q => ∃ (a : Addr) (z : V) (k : Nat), x = .ref a ∧ y = .int k ∧ TupF H a [z] ∧ k ≤ 1000 ∧ ∀ p H', Same H H' → TupF H' p (List.replicate k z) → Q (.ref p) H') := by
  intro pins s σ H x y v u Q I rx ry h
  obtain ⟨a, z, k, rfl, rfl, ha, hk, q⟩ := h
  cases rx
  obtain ⟨t, rfl⟩ := ry
  have hq : SqT X.K H a [z] := ha.sq
  obtain ⟨its, r1, p1, _⟩ := I.tuple hq
  have hl1 : its.length = 1 := r1.length.symm
  obtain ⟨⟨cls, dd, data, sl⟩, ho, hc, n, hd⟩ := id p1
  simp only at hc hd
  subst hc hd
  have hT : s.TypeIs (.ref a) "tuple" := ⟨_, ho, rfl⟩
  by_cases h1 : k = 1
  · subst h1
    refine wpAny_binaryOp_repeat_ref (T := "tuple") (U := "int") (by decide) hT (fun s' => typeIs_int s' _ t) HT.noFill_tuple_mul F.fills_int_mul F.slot_int_rmul HT.repeat_tuple F.slot_int_index.lookup
      (call_meets F.slot_int_rmul (typeIs_int s _ t) F.entry_int_rmul (F.args_int_rmul_2 _ _) (HT.int_rmul_tuple _ t a its.toArray n dd sl)
        ⟨ho, rfl, hT, call_meets F.slot_tuple_mul hT F.entry_tuple_mul (F.args_tuple_mul_2 _ _) (HT.tuple_mul_one a its.toArray n dd sl t) ⟨ho, ?_⟩⟩)
    exact ⟨.ref a, H, I, rfl, q _ _ (Same.refl H) ha⟩
  · have e1 : ((k : Int) == 1) = false := by
      rw [beq_eq_false_iff_ne]
      omega
    have e0 : its.toArray.isEmpty = false := by
      cases its with
      | nil => cases hl1
      | cons _ _ => rfl
    have hnew : List.foldl (fun x1 x2 => x1 ++ x2) #[] (List.replicate k its.toArray) = (List.replicate k its).flatten.toArray := by
      have := foldl_rep its k []
      rw [List.nil_append] at this
      exact this
    have hzl : (sizeLine : Nat) ≥ 1000 := by decide
    refine wpAny_binaryOp_repeat_ref (T := "tuple") (U := "int") (by decide) hT (fun s' => typeIs_int s' _ t) HT.noFill_tuple_mul F.fills_int_mul F.slot_int_rmul HT.repeat_tuple F.slot_int_index.lookup
      (call_meets F.slot_int_rmul (typeIs_int s _ t) F.entry_int_rmul (F.args_int_rmul_2 _ _) (HT.int_rmul_tuple _ t a its.toArray n dd sl)
        ⟨ho, rfl, hT, call_meets F.slot_tuple_mul hT F.entry_tuple_mul (F.args_tuple_mul_2 _ _) (HT.tuple_mul_many a its.toArray n dd sl k t e0 e1 (by omega) (by omega) (by rw [List.size_toArray, hl1]; omega) (by rw [Int.toNat_natCast, hnew, List.size_toArray, len_rep, hl1]; omega)) ⟨ho, ?_⟩⟩)
    have er : (List.replicate k [z]).flatten = List.replicate k z := by
      induction k with
      | zero => rfl
      | succ m ih => simp [List.replicate_succ]
    rw [Int.toNat_natCast, hnew]
    have hr : Vals (List.replicate k z) (List.replicate k its).flatten := by
      rw [← er]
      exact r1.rep k
    refine ⟨.ref s.heap.objs.size, upd H s.heap.objs.size (.frz { cls := .type "tuple", data := .seq (List.replicate k its).flatten.toArray } (.tup (List.replicate k z))), I.laid (t' := s.toks) (fun b ob q => Heap.get?_push_of_some _ q) (Nat.le_refl _) ?_, rfl, q _ _ (same_new (I.hok.fresh (Nat.le_refl _)) _) ⟨_, upd_same, rfl, rfl⟩⟩
    exact ⟨Heap.get?_push_size _ rfl, by rw [List.length_replicate]; omega, _, hr, IsTup.new _ _⟩
end
end L2
namespace L2
open PySem PySem.Spec PyProof.Rows
section
variable {X : Cx} {i : Nat} {C2 : Addr} {cx n : Str} {p2 hpos pos : Pos} {b₀ : Stmt} {suite : List Stmt} {u : TS}
variable {k0 k1 k2 : Nat} {f0 f1 f2 : Str} {ps0 ps1 ps2 : List Str} {sp0 sp1 sp2 : Sp} {e0 e1 e2 : Expr} {es0 es1 es2 : List Expr} {t0 t1 t2 : TA} {np0 np1 np2 cp0 cp1 cp2 ep0 ep1 ep2 ip0 ip1 : Pos} {c0 c1 : Expr} {g0 g1 : TT}
theorem try_exc {pins : List (Addr × Obj)} {σ : St} {H1 : Hp} {s1 s' : Shared} {ev : Value} {D : Ends} (hst : X.stack = X.env :: X.outer) (hfm : X.env.frame = some X.env.locals)
    (hgc : Gl X cx) (hmc : X.mg cx = some (.ref C2)) (hN : X.N.Nodup) (hi : X.N[i]? = some n) (hkn : X.env.scope.names.lookup n = some .local) (hu : ∀ x, PSs (X.hand x) (b₀ :: suite) u) (hdc : (cx == ("__debug__" : Str)) = false) (ok : X.Ok) (I1 : Inv X pins σ H1 s1)
    (hx : CX1 X.prog X.w X.stack H1 s1 (fun cls dd H2 => PySem.W.exmOne X.K cls (.ref C2) = some true ∧ ∀ x, H2 x = none → u { nx := fun σ' H' => D.nx (σ'.set i none) H', rt := D.rt, bk := fun σ' H' => D.bk (σ'.set i none) H', ct := fun σ' H' => D.ct (σ'.set i none) H' } (σ.set i (some (.ref x))) (upd H2 x (ExcO x cls dd))) ev s') :
    wpAny (model X.prog X.w) X.A (noteFrame ev X.env) (fun _ s₂ => wpAny (model X.prog X.w) X.A (setFlight ev none) (fun _ s₃ => wpAny (model X.prog X.w) X.A (handleBy ev X.env [.ExceptHandler (some (.Name cx p2)) (some n) (b₀ :: suite) hpos]) (SP X pins D) X.xe s₃) X.xe s₂) X.xe s' := by
  obtain ⟨x, cls, dd, n1, H2, rfl, O, hm1, hq⟩ := hx
  have J1 : Inv X pins σ H2 s' := I1.call' (ch := []) O.os O.un O.hok O.bare fun b z => absurd z (by simp)
  have st := J1.stack
  rw [hst] at st
  have hfr := J1.ok.frames
  rw [hst] at hfr
  have nr : ∀ h', Fly n1 (frs X.stack) x s'.heap h' → ∀ T oT ts, h'.get? T = some oT → oT.data = .fields ts → T ∉ frs X.stack := fun h' f T oT ts h1 h2 hb => by
    obtain ⟨_, o, h3, h4⟩ := J1.stack.mem hb
    obtain ⟨sl, h5⟩ := f.slot T o h3 hb
    rw [h5] at h1
    cases h1
    exact h4 ts h2
  have later : ∀ (h' : Heap) (tk : Nat), Fly n1 (frs X.stack) x s'.heap h' → Inv X pins σ H2 { s' with heap := h', toks := tk } := fun h' tk f =>
    I1.call' (s' := { s' with heap := h', toks := tk }) (ch := []) O.os (O.un.fly f (fun b hb => .inl hb) O.new O.old) (O.hok.fly f O.low O.free J1.stkFree) O.bare fun b z => absurd z (by simp)
  refine note_next hfr st hfm O.exc fun h1 f1 e1 => ?_
  rw [← hst] at f1
  refine flight none (nr h1 f1) e1 fun h2 f2 e2 => ?_
  have f12 := f1.trans f2
  have J2 := later h2 s'.toks f12
  refine wpAny_handleBy_cons (codeAny_handlers_test ?_) (by intro q; cases q)
  have J2h : Inv (X.hand x) pins σ H2 { s' with heap := h2, toks := s'.toks } := J2.hand
  refine ld_glob J2h hgc hmc ?_ hdc
  have LT : PySem.W.Looks (model X.prog X.w) h2 (typeOf (.ref x)) cls := by
    obtain ⟨oe, vs, T, oT, ts, ⟨z1, z2, _⟩, _⟩ := e2
    rw [← z2]
    exact (PySem.W.Looks.ld z1).andThen .now
  refine (PySem.W.exm_one J2.kIn LT hm1).here ?_
  refine codeAny_handlers_suite_as (flight none (nr h2 f12) e2 fun h3 f3 e3 => ?_)
  have f13 := f12.trans f3
  have J3 : Inv X pins σ (upd H2 x (ExcO x cls dd)) { s' with heap := h3 } :=
    I1.call' (s' := { s' with heap := h3 }) (ch := []) O.os ((O.un.fly f13 (fun b hb => .inl hb) O.new O.old).track O.new (I1.newFree O.new)) ((O.hok.fly f13 O.low O.free J1.stkFree).track O.free e3.seen) O.bare fun b z => absurd z (by simp)
  refine store_ok (X := X.hand x) J3.hand hN hi (.inl hkn) (v := .ref x) rfl (fun s4 J4 => ?_) (.inr hkn)
  refine wpAny_mono (hu x pins s4 _ _ _ J4 (hq x O.free)) (fun fl s5 h5 => ?_) fun _ _ z => z.elim
  cases fl with
  | next =>
    obtain ⟨σ', H', J5, q5⟩ := h5
    exact gone_ok (J5.unhand ok) hN hi hkn fun s6 J6 => ⟨_, H', J6, q5⟩
  | brk =>
    obtain ⟨σ', H', J5, q5⟩ := h5
    exact gone_ok (J5.unhand ok) hN hi hkn fun s6 J6 => ⟨_, H', J6, q5⟩
  | cont =>
    obtain ⟨σ', H', J5, q5⟩ := h5
    exact gone_ok (J5.unhand ok) hN hi hkn fun s6 J6 => ⟨_, H', J6, q5⟩
  | ret v =>
    obtain ⟨xv, σ', H', J5, r5, q5⟩ := h5
    exact gone_ok (J5.unhand ok) hN hi hkn fun s6 J6 => ⟨xv, _, H', J6, r5, q5⟩
end
end L2
namespace L2
open PySem PySem.Spec PyProof.Rows
section
variable {X : Cx} {k i j : Nat} {C2 : Addr} {ps : List Str} {sp : Sp} {fx cx n y : Str} {p p2 yp cpos epos hpos pos : Pos} {e : Expr} {es : List Expr} {t : TA} {b₀ : Stmt} {suite : List Stmt} {u : TS}
def tTryS (K : PySem.W.Frag) (sp : Sp) (C2 : Addr) (j i : Nat) (t : TA) (u : TS) : TS := fun D σ H => t σ H fun vs H1 => sp vs H1 (fun v H2 => D.nx (σ.set j (some v)) H2) fun cls dd H2 =>
  PySem.W.exmOne K cls (.ref C2) = some true ∧ ∀ x, H2 x = none → u { nx := fun σ' H' => D.nx (σ'.set i none) H', rt := D.rt, bk := fun σ' H' => D.bk (σ'.set i none) H', ct := fun σ' H' => D.ct (σ'.set i none) H' } (σ.set i (some (.ref x))) (upd H2 x (ExcO x cls dd))
theorem ps_tryS (hst : X.stack = X.env :: X.outer) (hfm : X.env.frame = some X.env.locals) (c : CalX X.prog X.w X.K X.mg X.base k fx ps sp) (hr : Room k X.A) (hg : Gl X fx) (ha : PA X.nox (e :: es) t) (hgc : Gl X cx) (hmc : X.mg cx = some (.ref C2))
    (hN : X.N.Nodup) (hi : X.N[i]? = some n) (hkn : X.env.scope.names.lookup n = some .local) (hj : X.N[j]? = some y) (hy : X.env.scope.names.lookup y = some .local) (hu : ∀ x, PSs (X.hand x) (b₀ :: suite) u) (hdb : (fx == ("__debug__" : Str)) = false := by decide) (hdc : (cx == ("__debug__" : Str)) = false := by decide)
    (he : starEach (e :: es) X.env = (false, eval e X.env) :: starEach es X.env := by rfl) (hpl : (backTo cpos (starEach es X.env)).any (·.1) = false := by rfl)
    (hsw : swapsWith (.Call (.Name fx p) (e :: es) [] cpos) (some (.Name y yp)) epos.line X.env = pure false := by rfl) :
    PS X (.Try [.Assign [.Name y yp] (.Call (.Name fx p) (e :: es) [] cpos) epos] [.ExceptHandler (some (.Name cx p2)) (some n) (b₀ :: suite) hpos] [] [] pos) (tTryS X.K sp C2 j i t u) := by
  obtain ⟨f, fd, F, B, kp, m⟩ := c.ex
  intro pins s σ H D I h
  refine wpAny_Try_except (wpAny_execs_cons (wpAny_Assign_Name (wpAny_mono (call_any (EX := fun ev s1 => _) F hr hg m kp B ha I h (fun H1 s1 ev s' I1 hx => ?exc) hdb he hpl) (fun v s1 ⟨xv, H1, I1, r1, q1⟩ => ?nrm) fun _ _ z => z) hsw))
  case nrm => exact store_ok I1 hN hj (.inl hy) r1 (fun s2 I2 => wpAny_execs_nil (wpAny_execs_nil ⟨_, H1, I2, q1⟩)) (.inr hy)
  case exc => exact try_exc hst hfm hgc hmc hN hi hkn hu hdc I.ok I1 hx
end
end L2
namespace TS
open PySem PySem.W PyProof.Rows
abbrev M2 := StateT SortSt Sem
def gallop' : Bool → Keyed → Array Keyed → Nat → Nat → Nat → M2 (Option Nat) := sortPriv% PySem.Builtin.gallop
def mergeLo' : Array Keyed → Array Keyed → M2 (Array Keyed) := sortPriv% PySem.Builtin.mergeLo
def mergeHi' : Array Keyed → Array Keyed → M2 (Array Keyed) := sortPriv% PySem.Builtin.mergeHi
def setMG' : Nat → M2 Unit := sortPriv% PySem.Builtin.setMinGallop
section
variable {prog : Program} {w : World} {A : Around} {E : Value → Shared → Prop}
theorem c_for {β : Type} {f : Nat → β → M2 (ForInStep β)} {Q : β → SortSt → Shared → Prop} (I : Nat → β → SortSt → Shared → Prop) :
    ∀ (l : List Nat) (n : Nat) (b : β) (st : SortSt) (s : Shared), I n b st s → (∀ b st s, I (n + l.length) b st s → Q b st s) →
    (∀ k x b st s, n ≤ k → k < n + l.length → I k b st s → kasC (model prog w) A E (f x b) (fun r st' s' => match r with | .done b' => Q b' st' s' | .yield b' => I (k + 1) b' st' s') st s) →
    kasC (model prog w) A E (forIn l b f) Q st s
  | [], n, b, st, s, hi, hq, _ => kasC_nil (hq b st s hi)
  | x :: l, n, b, st, s, hi, hq, hs => by
    refine kasC_cons (wpAny_mono (hs n x b st s (Nat.le_refl _) (by simp) hi) (fun r s' h => ?_) fun _ _ e => e)
    obtain ⟨r, st'⟩ := r
    cases r with
    | done b' => exact h
    | yield b' =>
      refine c_for I l (n + 1) b' st' s' h (fun b st s hb => hq b st s (by simpa [Nat.add_assoc, Nat.add_comm, Nat.add_left_comm] using hb)) (fun k x b st s h1 h2 h3 => hs k x b st s (by omega) (by simp at h2 ⊢; omega) h3)
theorem c_range {β : Type} {f : Nat → β → M2 (ForInStep β)} {Q : β → SortSt → Shared → Prop} {n : Nat} {b : β} {st : SortSt} {s : Shared} (I : Nat → β → SortSt → Shared → Prop) (h0 : I 0 b st s) (hq : ∀ b st s, I n b st s → Q b st s)
    (hs : ∀ k x b st s, k < n → I k b st s → kasC (model prog w) A E (f x b) (fun r st' s' => match r with | .done b' => Q b' st' s' | .yield b' => I (k + 1) b' st' s') st s) : kasC (model prog w) A E (forIn [0:n] b f) Q st s := by
  refine kasC_range (c_for I (List.range' 0 (n - 0)) 0 b st s h0 (fun b st s h => hq b st s ?_) (fun k x b st s h1 h2 h3 => hs k x b st s ?_ h3))
  · simpa using h
  · simpa using h2
theorem c_rangeR {β : Type} {f : Nat → β → M2 (ForInStep β)} {Q : β → SortSt → Shared → Prop} {n : Nat} {b : β} {st : SortSt} {s : Shared} (I : Nat → β → SortSt → Shared → Prop) (R : β → SortSt → Shared → Prop) (h0 : I 0 b st s) (he : ∀ b st s, I n b st s → R b st s)
    (hs : ∀ k x b st s, k < n → I k b st s → kasC (model prog w) A E (f x b) (fun r st' s' => match r with | .done b' => R b' st' s' | .yield b' => I (k + 1) b' st' s') st s) (hR : ∀ b st s, R b st s → Q b st s) : kasC (model prog w) A E (forIn [0:n] b f) Q st s :=
  wpAny_mono (c_range I h0 he hs) (fun r s' h => hR _ _ _ h) fun _ _ e => e
theorem c_elem {arr : Array Keyed} {i : Nat} {Q : Keyed → SortSt → Shared → Prop} {st : SortSt} {s : Shared} (hi : i < arr.size) (h : Q (kas_item arr i) st s) : kasC (model prog w) A E (elem' arr i) Q st s := by
  rw [elem'_eq]
  have e : arr[i]? = some (kas_item arr i) := by
    unfold kas_item
    simp [Array.getD, hi]
  rw [e]
  exact kasC_pure h
def Good (prog : Program) (w : World) (A : Around) (E : Value → Shared → Prop) (κ : SortKind) (P : Keyed → Prop) (lt : Keyed → Keyed → Bool) (s : Shared) : Prop :=
  ∀ (x y : Keyed) (st : SortSt) (Q : Option Bool → SortSt → Shared → Prop), P x → P y → kindOf st = κ → Q (some (lt x y)) st s → kasC (model prog w) A E (lt' x y) Q st s
variable {κ : SortKind} {P : Keyed → Prop} {lt : Keyed → Keyed → Bool}
theorem gallop_ {s : Shared} (G : Good prog w A E κ P lt s) {left : Bool} {key : Keyed} {arr : Array Keyed} {base n hint k : Nat} {Q : Option Nat → SortSt → Shared → Prop} {st : SortSt} (hst : kindOf st = κ) (hk : P key) (hP : ∀ i, i < n → P (kas_item arr (base + i)))
    (hsz : base + n ≤ arr.size) (hh : hint < n) (hkn : k ≤ n) (hB : ∀ i, i < n → (if left = true then lt (kas_item arr (base + i)) key else !(lt key (kas_item arr (base + i)))) = decide (i < k)) (h : Q (some k) st s) :
    kasC (model prog w) A E (gallop' left key arr base n hint) Q st s := by
  have bey : ∀ (i : Nat) (Q' : Option Bool → SortSt → Shared → Prop), i < n → Q' (some (decide (i < k))) st s → kasC (model prog w) A E (do
      let x ← elem' arr (base + i)
      if left = true then lt' x key else do
        let r ← lt' key x
        pure (Option.map (fun x => !x) r)) Q' st s := by
    intro i Q' hi hq
    refine kasC_bind (c_elem (by omega) ?_)
    have hb := hB i hi
    cases left with
    | true =>
      rw [if_pos rfl] at hb ⊢
      exact G _ _ _ _ (hP i hi) hk hst (by rw [hb]; exact hq)
    | false =>
      rw [if_neg Bool.false_ne_true] at hb ⊢
      refine kasC_bind (G _ _ _ _ hk (hP i hi) hst (kasC_pure ?_))
      show Q' (some (!(lt key (kas_item arr (base + i))))) st s
      rw [hb]
      exact hq
  refine kasC_bind (bey hint _ hh ?_)
  dsimp only
  by_cases c : hint < k
  · rw [if_pos (decide_eq_true c)]
    refine kasC_bind (c_rangeR (fun t r st' s' => st' = st ∧ s' = s ∧ ∃ la of, r = (none, la, of) ∧ la < of ∧ hint + la < k ∧ t + 1 ≤ of) (fun r st' s' => st' = st ∧ s' = s ∧ ∃ la of, r = (none, la, of) ∧ la < of ∧ hint + la < k ∧ k ≤ hint + min of (n - hint))
      ⟨rfl, rfl, 0, 1, rfl, by omega, by omega, by omega⟩ ?_ ?_ ?_)
    · rintro r st' s' ⟨rfl, rfl, la, of, rfl, h1, h2, h3⟩
      exact ⟨rfl, rfl, la, of, rfl, h1, h2, by omega⟩
    · rintro t x r st' s' ht ⟨rfl, rfl, la, of, rfl, h1, h2, h3⟩
      dsimp only
      by_cases c2 : of ≥ n - hint
      · rw [if_pos c2]
        exact kasC_pure ⟨rfl, rfl, la, of, rfl, h1, h2, by omega⟩
      · rw [if_neg c2]
        refine kasC_bind (bey (hint + of) _ (by omega) ?_)
        dsimp only
        by_cases c3 : hint + of < k
        · rw [if_neg (by simp [c3])]
          exact kasC_pure ⟨rfl, rfl, of, 2 * of + 1, rfl, by omega, c3, by omega⟩
        · rw [if_pos (by simp [c3])]
          exact kasC_pure ⟨rfl, rfl, la, of, rfl, h1, h2, by omega⟩
    · rintro r st' s' ⟨rfl, rfl, la, of, rfl, h1, h2, h3⟩
      dsimp only
      refine kasC_bind (c_rangeR (fun t r st₂ s₂ => st₂ = st' ∧ s₂ = s' ∧ ∃ lo hi, r = (none, lo, hi) ∧ lo ≤ k ∧ k ≤ hi ∧ hi ≤ n ∧ (hi - lo) + t ≤ n) (fun r st₂ s₂ => st₂ = st' ∧ s₂ = s' ∧ ∃ lo, r = (none, lo, k)) ⟨rfl, rfl, _, _, rfl, by omega, by omega, by omega, by omega⟩ ?_ ?_ ?_)
      · rintro r st₂ s₂ ⟨rfl, rfl, lo, hi, rfl, g1, g2, g3, g4⟩
        obtain rfl : hi = k := by omega
        exact ⟨rfl, rfl, lo, rfl⟩
      · rintro t x r st₂ s₂ ht ⟨rfl, rfl, lo, hi, rfl, g1, g2, g3, g4⟩
        dsimp only
        by_cases c2 : lo ≥ hi
        · rw [if_pos c2]
          obtain rfl : hi = k := by omega
          exact kasC_pure ⟨rfl, rfl, lo, rfl⟩
        · rw [if_neg c2]
          refine kasC_bind (bey (lo + (hi - lo) / 2) _ (by omega) ?_)
          dsimp only
          by_cases c3 : lo + (hi - lo) / 2 < k
          · rw [if_pos (decide_eq_true c3)]
            exact kasC_pure ⟨rfl, rfl, _, _, rfl, by omega, by omega, by omega, by omega⟩
          · rw [if_neg (by simp [c3])]
            exact kasC_pure ⟨rfl, rfl, _, _, rfl, by omega, by omega, by omega, by omega⟩
      · rintro r st₂ s₂ ⟨rfl, rfl, lo, rfl⟩
        exact kasC_pure h
  · rw [if_neg (by simp [c])]
    refine kasC_bind (c_rangeR (fun t r st' s' => st' = st ∧ s' = s ∧ ∃ la of, r = (none, la, of) ∧ la < of ∧ k ≤ hint - la ∧ la ≤ hint ∧ t + 1 ≤ of) (fun r st' s' => st' = st ∧ s' = s ∧ ∃ la of, r = (none, la, of) ∧ la < of ∧ k ≤ hint - la ∧ la ≤ hint ∧ hint + 1 - min of (hint + 1) ≤ k)
      ⟨rfl, rfl, 0, 1, rfl, by omega, by omega, by omega, by omega⟩ ?_ ?_ ?_)
    · rintro r st' s' ⟨rfl, rfl, la, of, rfl, h1, h2, h3, h4⟩
      exact ⟨rfl, rfl, la, of, rfl, h1, h2, h3, by omega⟩
    · rintro t x r st' s' ht ⟨rfl, rfl, la, of, rfl, h1, h2, h3, h4⟩
      dsimp only
      by_cases c2 : of ≥ hint + 1
      · rw [if_pos c2]
        exact kasC_pure ⟨rfl, rfl, la, of, rfl, h1, h2, h3, by omega⟩
      · rw [if_neg c2]
        refine kasC_bind (bey (hint - of) _ (by omega) ?_)
        dsimp only
        by_cases c3 : hint - of < k
        · rw [if_pos (decide_eq_true c3)]
          exact kasC_pure ⟨rfl, rfl, la, of, rfl, h1, h2, h3, by omega⟩
        · rw [if_neg (by simp [c3])]
          exact kasC_pure ⟨rfl, rfl, of, 2 * of + 1, rfl, by omega, by omega, by omega, by omega⟩
    · rintro r st' s' ⟨rfl, rfl, la, of, rfl, h1, h2, h3, h4⟩
      dsimp only
      refine kasC_bind (c_rangeR (fun t r st₂ s₂ => st₂ = st' ∧ s₂ = s' ∧ ∃ lo hi, r = (none, lo, hi) ∧ lo ≤ k ∧ k ≤ hi ∧ hi ≤ n ∧ (hi - lo) + t ≤ n) (fun r st₂ s₂ => st₂ = st' ∧ s₂ = s' ∧ ∃ lo, r = (none, lo, k)) ⟨rfl, rfl, _, _, rfl, by omega, by omega, by omega, by omega⟩ ?_ ?_ ?_)
      · rintro r st₂ s₂ ⟨rfl, rfl, lo, hi, rfl, g1, g2, g3, g4⟩
        obtain rfl : hi = k := by omega
        exact ⟨rfl, rfl, lo, rfl⟩
      · rintro t x r st₂ s₂ ht ⟨rfl, rfl, lo, hi, rfl, g1, g2, g3, g4⟩
        dsimp only
        by_cases c2 : lo ≥ hi
        · rw [if_pos c2]
          obtain rfl : hi = k := by omega
          exact kasC_pure ⟨rfl, rfl, lo, rfl⟩
        · rw [if_neg c2]
          refine kasC_bind (bey (lo + (hi - lo) / 2) _ (by omega) ?_)
          dsimp only
          by_cases c3 : lo + (hi - lo) / 2 < k
          · rw [if_pos (decide_eq_true c3)]
            exact kasC_pure ⟨rfl, rfl, _, _, rfl, by omega, by omega, by omega, by omega⟩
          · rw [if_neg (by simp [c3])]
            exact kasC_pure ⟨rfl, rfl, _, _, rfl, by omega, by omega, by omega, by omega⟩
      · rintro r st₂ s₂ ⟨rfl, rfl, lo, rfl⟩
        exact kasC_pure h
end
section
variable {P : Keyed → Prop} {lt : Keyed → Keyed → Bool}
structure Tot (P : Keyed → Prop) (lt : Keyed → Keyed → Bool) : Prop where
  trans : ∀ x y z, P x → P y → P z → lt y x = false → lt z y = false → lt z x = false
  asym : ∀ x y, P x → P y → lt x y = true → lt y x = false
def Srt (lt : Keyed → Keyed → Bool) (l : List Keyed) : Prop := l.Pairwise fun x y => lt y x = false
structure MInv (lt : Keyed → Keyed → Bool) (al bl o : List Keyed) (i j : Nat) : Prop where
  perm : o.Perm (al.take i ++ bl.take j)
  srt : Srt lt o
  ba : ∀ x ∈ o, ∀ y ∈ al.drop i, lt y x = false
  bb : ∀ x ∈ o, ∀ y ∈ bl.drop j, lt y x = false
theorem MInv.zero (al bl : List Keyed) : MInv lt al bl [] 0 0 := ⟨by simp, .nil, fun x hx => absurd hx (by simp), fun x hx => absurd hx (by simp)⟩
theorem drop_split (l : List Keyed) (i k : Nat) : l.drop i = (l.drop i).take k ++ l.drop (i + k) := by
  rw [← List.drop_drop, List.take_append_drop]
theorem take_split (l : List Keyed) (i k : Nat) : l.take (i + k) = l.take i ++ (l.drop i).take k := List.take_add
theorem MInv.chunkA {al bl o : List Keyed} {i j : Nat} (m : MInv lt al bl o i j) (ha : Srt lt al) (k : Nat) (hc : ∀ x ∈ (al.drop i).take k, ∀ y ∈ bl.drop j, lt y x = false) : MInv lt al bl (o ++ (al.drop i).take k) (i + k) j := by
  have hd := drop_split al i k
  have hs : Srt lt (al.drop i) := List.Pairwise.sublist (List.drop_sublist i al) ha
  rw [hd] at hs
  have hs' := List.pairwise_append.mp hs
  have sub1 : ∀ y ∈ (al.drop i).take k, y ∈ al.drop i := fun y hy => List.mem_of_mem_take hy
  have sub2 : ∀ y ∈ al.drop (i + k), y ∈ al.drop i := fun y hy => by rw [hd]; exact List.mem_append_right _ hy
  refine ⟨?_, ?_, fun x hx y hy => ?_, fun x hx y hy => ?_⟩
  · rw [take_split]
    refine (m.perm.append_right _).trans ?_
    rw [List.append_assoc, List.append_assoc]
    exact List.Perm.append_left _ List.perm_append_comm
  · refine List.pairwise_append.mpr ⟨m.srt, ?_, fun x hx y hy => m.ba x hx y (sub1 y hy)⟩
    have := hs'.1
    simpa [List.take_take] using this
  · rcases List.mem_append.mp hx with h | h
    · exact m.ba x h y (sub2 y hy)
    · exact hs'.2.2 x (by simpa [List.take_take] using h) y hy
  · rcases List.mem_append.mp hx with h | h
    · exact m.bb x h y hy
    · exact hc x h y hy
theorem MInv.swap {al bl o : List Keyed} {i j : Nat} (m : MInv lt al bl o i j) : MInv lt bl al o j i := ⟨m.perm.trans List.perm_append_comm, m.srt, m.bb, m.ba⟩
theorem MInv.chunkB {al bl o : List Keyed} {i j : Nat} (m : MInv lt al bl o i j) (hb : Srt lt bl) (k : Nat) (hc : ∀ x ∈ (bl.drop j).take k, ∀ y ∈ al.drop i, lt y x = false) : MInv lt al bl (o ++ (bl.drop j).take k) i (j + k) :=
  (m.swap.chunkA hb k hc).swap
def Fin2 (lt : Keyed → Keyed → Bool) (al bl r : List Keyed) : Prop := r.Perm (al ++ bl) ∧ Srt lt r
theorem MInv.fin {al bl o : List Keyed} {i j : Nat} (m : MInv lt al bl o i j) (hi : al.length ≤ i) (hj : bl.length ≤ j) : Fin2 lt al bl o := by
  have p := m.perm
  rw [List.take_of_length_le hi, List.take_of_length_le hj] at p
  exact ⟨p, m.srt⟩
theorem MInv.doneB {al bl o : List Keyed} {i j : Nat} (m : MInv lt al bl o i j) (ha : Srt lt al) (hj : bl.length ≤ j) : Fin2 lt al bl (o ++ al.drop i ++ bl.drop j) := by
  have e : bl.drop j = [] := List.drop_of_length_le hj
  have z := m.chunkA ha al.length (fun x _ y hy => by rw [e] at hy; cases hy)
  rw [e, List.append_nil]
  have e2 : (al.drop i).take al.length = al.drop i := List.take_of_length_le (by rw [List.length_drop]; omega)
  rw [e2] at z
  exact z.fin (by omega) hj
theorem MInv.doneA {al bl o : List Keyed} {i j : Nat} (m : MInv lt al bl o i j) (hb : Srt lt bl) (hi : al.length ≤ i) : Fin2 lt al bl (o ++ al.drop i ++ bl.drop j) := by
  have e : al.drop i = [] := List.drop_of_length_le hi
  have z := m.chunkB hb bl.length (fun x _ y hy => by rw [e] at hy; cases hy)
  rw [e, List.append_nil]
  have e2 : (bl.drop j).take bl.length = bl.drop j := List.take_of_length_le (by rw [List.length_drop]; omega)
  rw [e2] at z
  exact z.fin hi (by omega)
theorem MInv.lastA {al bl o : List Keyed} {i j : Nat} (m : MInv lt al bl o i j) (ha : Srt lt al) (hb : Srt lt bl) (hl : ∀ x ∈ bl, ∀ y ∈ al.drop i, lt y x = false) : Fin2 lt al bl (o ++ bl.drop j ++ al.drop i) := by
  have z := m.chunkB hb bl.length (fun x hx y hy => hl x (List.mem_of_mem_drop (List.mem_of_mem_take hx)) y hy)
  have e2 : (bl.drop j).take bl.length = bl.drop j := List.take_of_length_le (by rw [List.length_drop]; omega)
  rw [e2] at z
  have z2 := z.doneB ha (by omega)
  have e3 : bl.drop (j + bl.length) = [] := List.drop_of_length_le (by omega)
  rw [e3, List.append_nil] at z2
  exact z2
theorem bound (B : Nat → Bool) : ∀ n, (∀ i j, i ≤ j → j < n → B j = true → B i = true) → ∃ k, k ≤ n ∧ ∀ i, i < n → B i = decide (i < k)
  | 0, _ => ⟨0, Nat.le_refl _, fun i hi => absurd hi (Nat.not_lt_zero _)⟩
  | n + 1, h => by
    obtain ⟨k, hk, hB⟩ := bound B n fun i j a b c => h i j a (by omega) c
    cases hn : B n with
    | true =>
      refine ⟨n + 1, Nat.le_refl _, fun i hi => ?_⟩
      rw [h i n (by omega) (by omega) hn, decide_eq_true hi]
    | false =>
      refine ⟨k, by omega, fun i hi => ?_⟩
      by_cases e : i = n
      · rw [e, hn, decide_eq_false (by omega)]
      · exact hB i (by omega)
theorem item_get {a : Array Keyed} {i : Nat} (h : i < a.size) : a.toList[i]? = some (kas_item a i) := by
  unfold kas_item
  simp [Array.getD, h]
theorem item_mem {a : Array Keyed} {i : Nat} (h : i < a.size) : kas_item a i ∈ a.toList := List.mem_of_getElem? (item_get h)
theorem drop_item {a : Array Keyed} {i : Nat} {y : Keyed} (h : y ∈ a.toList.drop i) : ∃ j, i ≤ j ∧ j < a.size ∧ y = kas_item a j := by
  obtain ⟨k, hk⟩ := List.mem_iff_getElem?.mp h
  rw [List.getElem?_drop] at hk
  have hl := (List.getElem?_eq_some_iff.mp hk).1
  have hl' : i + k < a.size := by simpa using hl
  refine ⟨i + k, by omega, hl', ?_⟩
  rw [item_get hl'] at hk
  exact (Option.some.inj hk).symm
theorem chunk_item {a : Array Keyed} {i k : Nat} {y : Keyed} (h : y ∈ (a.toList.drop i).take k) : ∃ j, i ≤ j ∧ j < i + k ∧ j < a.size ∧ y = kas_item a j := by
  obtain ⟨m, hm⟩ := List.mem_iff_getElem?.mp h
  rw [List.getElem?_take] at hm
  by_cases c : m < k
  · rw [if_pos c, List.getElem?_drop] at hm
    have hl := (List.getElem?_eq_some_iff.mp hm).1
    have hl' : i + m < a.size := by simpa using hl
    refine ⟨i + m, by omega, by omega, hl', ?_⟩
    rw [item_get hl'] at hm
    exact (Option.some.inj hm).symm
  · rw [if_neg c] at hm
    cases hm
theorem srt_item {a : Array Keyed} {i j : Nat} (T : Tot P lt) (h : Srt lt a.toList) (hP : ∀ x ∈ a.toList, P x) (hij : i < j) (hj : j < a.size) : lt (kas_item a j) (kas_item a i) = false := by
  have hi : i < a.size := by omega
  have z := List.pairwise_iff_getElem.mp h i j (by simpa using hi) (by simpa using hj) hij
  have e1 := (List.getElem?_eq_some_iff.mp (item_get hi)).2
  have e2 := (List.getElem?_eq_some_iff.mp (item_get hj)).2
  rw [e1, e2] at z
  exact z
end
end TS
namespace TS
open PySem PySem.W PyProof.Rows
section
variable {P : Keyed → Prop} {lt : Keyed → Keyed → Bool} {a b out : Array Keyed} {i j k : Nat}
abbrev AInv (lt : Keyed → Keyed → Bool) (a b out : Array Keyed) (i j : Nat) : Prop := MInv lt a.toList b.toList out.toList i j
abbrev FinA (lt : Keyed → Keyed → Bool) (a b r : Array Keyed) : Prop := Fin2 lt a.toList b.toList r.toList
theorem ext_list (h : k ≤ a.size) : (a.extract i k).toList = (a.toList.drop i).take (k - i) := by
  simp [List.extract_eq_take_drop]
theorem ext_all : (a.extract i a.size).toList = a.toList.drop i := by
  rw [ext_list (Nat.le_refl _)]
  exact List.take_of_length_le (by simp)
theorem one_chunk (h : i < a.size) : (a.toList.drop i).take 1 = [kas_item a i] := by
  have e := (List.getElem?_eq_some_iff.mp (item_get h))
  obtain ⟨h1, h2⟩ := e
  rw [List.drop_eq_getElem_cons h1, h2]
  rfl
theorem pushB (T : Tot P lt) (sb : Srt lt b.toList) (sa : Srt lt a.toList) (pa : ∀ x ∈ a.toList, P x) (pb : ∀ x ∈ b.toList, P x) (m : AInv lt a b out i j) (hi : i < a.size) (hj : j < b.size) (h : lt (kas_item b j) (kas_item a i) = true) : AInv lt a b (out.push (kas_item b j)) i (j + 1) := by
  have z := m.chunkB sb 1 (fun x hx y hy => by
    rw [one_chunk hj] at hx
    cases List.mem_singleton.mp hx
    obtain ⟨j', h1, h2, rfl⟩ := drop_item hy
    have q1 := T.asym _ _ (pb _ (item_mem hj)) (pa _ (item_mem hi)) h
    by_cases e : i = j'
    · rw [← e]; exact q1
    · exact T.trans _ _ _ (pb _ (item_mem hj)) (pa _ (item_mem hi)) (pa _ (item_mem h2)) q1 (srt_item T sa pa (by omega) h2))
  rw [one_chunk hj] at z
  simpa [AInv] using z
theorem pushA (T : Tot P lt) (sb : Srt lt b.toList) (sa : Srt lt a.toList) (pa : ∀ x ∈ a.toList, P x) (pb : ∀ x ∈ b.toList, P x) (m : AInv lt a b out i j) (hi : i < a.size) (h : j < b.size → lt (kas_item b j) (kas_item a i) = false) : AInv lt a b (out.push (kas_item a i)) (i + 1) j := by
  have z := m.chunkA sa 1 (fun x hx y hy => by
    rw [one_chunk hi] at hx
    cases List.mem_singleton.mp hx
    obtain ⟨j', h1, h2, rfl⟩ := drop_item hy
    have hj : j < b.size := by omega
    have q1 := h hj
    by_cases e : j = j'
    · rw [← e]; exact q1
    · exact T.trans _ _ _ (pa _ (item_mem hi)) (pb _ (item_mem hj)) (pb _ (item_mem h2)) q1 (srt_item T sb pb (by omega) h2))
  rw [one_chunk hi] at z
  simpa [AInv] using z
theorem exA (T : Tot P lt) (sa : Srt lt a.toList) (pa : ∀ x ∈ a.toList, P x) {key : Keyed} (hk : P key) (n : Nat) (hn : i + n ≤ a.size) : ∃ k, k ≤ n ∧ ∀ t, t < n → (if false = true then lt (kas_item a (i + t)) key else !(lt key (kas_item a (i + t)))) = decide (t < k) := by
  refine bound _ n fun t u htu hu h => ?_
  rw [if_neg Bool.false_ne_true] at h ⊢
  rw [Bool.not_eq_true'] at h ⊢
  by_cases e : t = u
  · rw [e]; exact h
  · exact T.trans _ _ _ (pa _ (item_mem (by omega))) (pa _ (item_mem (by omega))) hk (srt_item T sa pa (by omega) (by omega)) h
theorem exB (T : Tot P lt) (sb : Srt lt b.toList) (pb : ∀ x ∈ b.toList, P x) {key : Keyed} (hk : P key) (n : Nat) (hn : j + n ≤ b.size) : ∃ k, k ≤ n ∧ ∀ t, t < n → (if true = true then lt (kas_item b (j + t)) key else !(lt key (kas_item b (j + t)))) = decide (t < k) := by
  refine bound _ n fun t u htu hu h => ?_
  rw [if_pos rfl] at h ⊢
  by_cases e : t = u
  · rw [e]; exact h
  · cases c : lt (kas_item b (j + t)) key with
    | true => rfl
    | false =>
      have z := T.trans _ _ _ hk (pb _ (item_mem (by omega))) (pb _ (item_mem (by omega))) c (srt_item T sb pb (show j + t < j + u by omega) (by omega))
      rw [h] at z
      cases z
theorem galA (T : Tot P lt) (sb : Srt lt b.toList) (sa : Srt lt a.toList) (pa : ∀ x ∈ a.toList, P x) (pb : ∀ x ∈ b.toList, P x) (m : AInv lt a b out i j) (hi : i ≤ a.size) (hj : j < b.size) (hk : k ≤ a.size - i)
    (h : ∀ t, t < a.size - i → (if false = true then lt (kas_item a (i + t)) (kas_item b j) else !(lt (kas_item b j) (kas_item a (i + t)))) = decide (t < k)) :
    AInv lt a b (out ++ a.extract i (i + k)) (i + k) j ∧ (i + k < a.size → lt (kas_item b j) (kas_item a (i + k)) = true) := by
  constructor
  · have z := m.chunkA sa k (fun x hx y hy => by
      obtain ⟨i', g1, g2, g3, rfl⟩ := chunk_item hx
      obtain ⟨j', h1, h2, rfl⟩ := drop_item hy
      have q := h (i' - i) (by omega)
      rw [if_neg Bool.false_ne_true, show i + (i' - i) = i' by omega, decide_eq_true (by omega), Bool.not_eq_true'] at q
      by_cases e : j = j'
      · rw [← e]; exact q
      · exact T.trans _ _ _ (pa _ (item_mem g3)) (pb _ (item_mem hj)) (pb _ (item_mem h2)) q (srt_item T sb pb (by omega) h2))
    have e : (out ++ a.extract i (i + k)).toList = out.toList ++ (a.toList.drop i).take k := by
      rw [Array.toList_append, ext_list (by omega), show i + k - i = k by omega]
    show MInv lt _ _ (out ++ a.extract i (i + k)).toList _ _
    rw [e]
    exact z
  · intro hlt
    have q := h k (by omega)
    rw [if_neg Bool.false_ne_true, decide_eq_false (by omega), Bool.not_eq_false'] at q
    exact q
theorem galB (T : Tot P lt) (sb : Srt lt b.toList) (sa : Srt lt a.toList) (pa : ∀ x ∈ a.toList, P x) (pb : ∀ x ∈ b.toList, P x) (m : AInv lt a b out i j) (hi : i < a.size) (hj : j ≤ b.size) (hk : k ≤ b.size - j)
    (h : ∀ t, t < b.size - j → (if true = true then lt (kas_item b (j + t)) (kas_item a i) else !(lt (kas_item a i) (kas_item b (j + t)))) = decide (t < k)) :
    AInv lt a b (out ++ b.extract j (j + k)) i (j + k) ∧ (j + k < b.size → lt (kas_item b (j + k)) (kas_item a i) = false) := by
  constructor
  · have z := m.chunkB sb k (fun x hx y hy => by
      obtain ⟨j', g1, g2, g3, rfl⟩ := chunk_item hx
      obtain ⟨i', h1, h2, rfl⟩ := drop_item hy
      have q := h (j' - j) (by omega)
      rw [if_pos rfl, show j + (j' - j) = j' by omega, decide_eq_true (by omega)] at q
      have q1 := T.asym _ _ (pb _ (item_mem g3)) (pa _ (item_mem hi)) q
      by_cases e : i = i'
      · rw [← e]; exact q1
      · exact T.trans _ _ _ (pb _ (item_mem g3)) (pa _ (item_mem hi)) (pa _ (item_mem h2)) q1 (srt_item T sa pa (by omega) h2))
    have e : (out ++ b.extract j (j + k)).toList = out.toList ++ (b.toList.drop j).take k := by
      rw [Array.toList_append, ext_list (by omega), show j + k - j = k by omega]
    show MInv lt _ _ (out ++ b.extract j (j + k)).toList _ _
    rw [e]
    exact z
  · intro hlt
    have q := h k (by omega)
    rw [if_pos rfl, decide_eq_false (by omega)] at q
    exact q
theorem doneB (sa : Srt lt a.toList) (m : AInv lt a b out i j) (h : j = b.size) : FinA lt a b (out ++ a.extract i a.size ++ b.extract j b.size) := by
  have z := MInv.doneB m sa (by rw [h]; simp)
  show Fin2 lt _ _ (out ++ a.extract i a.size ++ b.extract j b.size).toList
  rw [Array.toList_append, Array.toList_append, ext_all, ext_all]
  exact z
theorem doneA (sb : Srt lt b.toList) (m : AInv lt a b out i j) (h : i = a.size) : FinA lt a b (out ++ a.extract i a.size ++ b.extract j b.size) := by
  have z := MInv.doneA m sb (by rw [h]; simp)
  show Fin2 lt _ _ (out ++ a.extract i a.size ++ b.extract j b.size).toList
  rw [Array.toList_append, Array.toList_append, ext_all, ext_all]
  exact z
theorem lastA (sa : Srt lt a.toList) (sb : Srt lt b.toList) (m : AInv lt a b out i j) (h : i + 1 = a.size) (hl : ∀ x ∈ b.toList, lt (kas_item a (a.size - 1)) x = false) : FinA lt a b (out ++ b.extract j b.size ++ a.extract i a.size) := by
  have z := MInv.lastA m sa sb (fun x hx y hy => by
    obtain ⟨i', g1, g2, rfl⟩ := drop_item hy
    have : i' = a.size - 1 := by omega
    rw [this]
    exact hl x hx)
  show Fin2 lt _ _ (out ++ b.extract j b.size ++ a.extract i a.size).toList
  rw [Array.toList_append, Array.toList_append, ext_all, ext_all]
  exact z
end
section
variable {prog : Program} {w : World} {A : Around} {E : Value → Shared → Prop} {κ : SortKind} {P : Keyed → Prop} {lt : Keyed → Keyed → Bool}
def Kp (st st' : SortSt) : Prop := kindOf st' = kindOf st ∧ arrOf st' = arrOf st ∧ pendingOf st' = pendingOf st ∧ failedOf st' = failedOf st
theorem Kp.refl (st : SortSt) : Kp st st := ⟨rfl, rfl, rfl, rfl⟩
theorem Kp.trans {a b c : SortSt} (h : Kp a b) (g : Kp b c) : Kp a c := ⟨g.1.trans h.1, g.2.1.trans h.2.1, g.2.2.1.trans h.2.2.1, g.2.2.2.trans h.2.2.2⟩
theorem setMG_ {g : Nat} {Q : Unit → SortSt → Shared → Prop} {st : SortSt} {s : Shared} (h : ∀ st', Kp st st' → Q () st' s) : kasC (model prog w) A E (setMG' g) Q st s := by
  refine kasC_modify (h _ ⟨rfl, rfl, rfl, rfl⟩)
theorem c_mg {α : Type} {X Y : Nat → M2 α} {Q : α → SortSt → Shared → Prop} {st : SortSt} {s : Shared} (hX : ∀ mg, X mg = Y (mg - 1)) (h : ∀ g, kasC (model prog w) A E (Y g) Q st s) :
    ∀ mg : Nat, kasC (model prog w) A E (if mg > 1 then X mg else Y mg) Q st s := by
  intro mg
  by_cases c : mg > 1
  · rw [if_pos c, hX]
    exact h _
  · rw [if_neg c]
    exact h _
end
end TS
namespace TS
open PySem PySem.W PyProof.Rows
section
variable {prog : Program} {w : World} {A : Around} {E : Value → Shared → Prop} {κ : SortKind} {P : Keyed → Prop} {lt : Keyed → Keyed → Bool}
theorem mergeLo_ {s : Shared} (G : Good prog w A E κ P lt s) (T : Tot P lt) {a b : Array Keyed} {Q : Array Keyed → SortSt → Shared → Prop} {st : SortSt} (hst : kindOf st = κ) (pa : ∀ x ∈ a.toList, P x) (pb : ∀ x ∈ b.toList, P x) (sa : Srt lt a.toList) (sb : Srt lt b.toList)
    (na : 0 < a.size) (nb : 0 < b.size) (h0 : lt (kas_item b 0) (kas_item a 0) = true) (hl : ∀ x ∈ b.toList, lt (kas_item a (a.size - 1)) x = false) (h : ∀ r st', Kp st st' → FinA lt a b r → Q r st' s) : kasC (model prog w) A E (mergeLo' a b) Q st s := by
  have m0 : AInv lt a b (#[] : Array Keyed) 0 0 := MInv.zero _ _
  have m1 := pushB T sb sa pa pb m0 na nb h0
  refine kasC_bind (kasC_lift (wpAny_rule ?_))
  refine kasC_bind (c_elem nb ?_)
  dsimp only
  by_cases c1 : 1 = b.size
  · rw [if_pos (by simp [← c1])]
    exact kasC_pure (h _ _ (Kp.refl _) (doneB sa m1 c1))
  rw [if_neg (by simpa using c1)]
  by_cases c2 : 0 + 1 = a.size
  · rw [if_pos (by simp [← c2])]
    exact kasC_pure (h _ _ (Kp.refl _) (lastA sa sb m1 c2 hl))
  rw [if_neg (by simpa using c2)]
  refine kasC_bind (kasC_get ?_)
  refine kasC_bind (c_rangeR (fun t r st' s' => Kp st st' ∧ s' = s ∧ ∃ out i j mg, r = (none, out, i, j, mg) ∧ AInv lt a b out i j ∧ i + 1 < a.size ∧ j < b.size ∧ t ≤ i + j)
    (fun r st' s' => Kp st st' ∧ s' = s ∧ ∃ res z, r = (some res, z) ∧ FinA lt a b res) ⟨Kp.refl _, rfl, _, _, _, _, rfl, m1, by omega, by omega, by omega⟩ ?_ ?_ ?_)
  · rintro r st' s' ⟨_, _, out, i, j, mg, _, _, h1, h2, h3⟩
    omega
  · rintro t x r st' s' ht ⟨K1, rfl, out, i, j, mg, rfl, m, hi, hj, hij⟩
    dsimp only
    refine kasC_bind (c_rangeR (fun u r st₂ s₂ => st₂ = st' ∧ s₂ = s' ∧ ∃ out₂ i₂ j₂ ac bc, r = (none, out₂, i₂, j₂, ac, bc) ∧ AInv lt a b out₂ i₂ j₂ ∧ i₂ + 1 < a.size ∧ j₂ < b.size ∧ u + (i + j) ≤ i₂ + j₂)
      (fun r st₂ s₂ => st₂ = st' ∧ s₂ = s' ∧ ((∃ res z, r = (some res, z) ∧ FinA lt a b res) ∨ ∃ out₂ i₂ j₂ ac bc, r = (none, out₂, i₂, j₂, ac, bc) ∧ AInv lt a b out₂ i₂ j₂ ∧ i₂ + 1 < a.size ∧ j₂ < b.size ∧ i + j ≤ i₂ + j₂))
      ⟨rfl, rfl, _, _, _, _, _, rfl, m, hi, hj, by omega⟩ ?_ ?_ ?_)
    · rintro r st₂ s₂ ⟨_, _, out₂, i₂, j₂, ac, bc, _, _, h1, h2, h3⟩
      omega
    · rintro u x r st₂ s₂ hu ⟨rfl, rfl, out₂, i₂, j₂, ac, bc, rfl, m₂, hi₂, hj₂, hu₂⟩
      dsimp only
      refine kasC_bind (c_elem hj₂ (kasC_bind (c_elem (show i₂ < a.size by omega) ?_)))
      refine kasC_bind (G _ _ _ _ (pb _ (item_mem hj₂)) (pa _ (item_mem (show i₂ < a.size by omega))) (K1.1.trans hst) ?_)
      dsimp only
      cases hb : lt (kas_item b j₂) (kas_item a i₂) with
      | true =>
        rw [if_pos rfl]
        refine kasC_bind (c_elem hj₂ ?_)
        have m₃ := pushB T sb sa pa pb m₂ (by omega) hj₂ hb
        by_cases d1 : j₂ + 1 = b.size
        · rw [if_pos (by simp [← d1])]
          exact kasC_pure ⟨rfl, rfl, .inl ⟨_, _, rfl, doneB sa m₃ d1⟩⟩
        rw [if_neg (by simpa using d1)]
        by_cases d2 : bc + 1 ≥ mg
        · rw [if_pos d2]
          exact kasC_pure ⟨rfl, rfl, .inr ⟨_, _, _, _, _, rfl, m₃, hi₂, by omega, by omega⟩⟩
        · rw [if_neg d2]
          exact kasC_pure ⟨rfl, rfl, _, _, _, _, _, rfl, m₃, hi₂, by omega, by omega⟩
      | false =>
        rw [if_neg Bool.false_ne_true]
        refine kasC_bind (c_elem (show i₂ < a.size by omega) ?_)
        have m₃ := pushA T sb sa pa pb m₂ (by omega) (fun _ => hb)
        by_cases d1 : i₂ + 1 + 1 = a.size
        · rw [if_pos (by simp [← d1])]
          exact kasC_pure ⟨rfl, rfl, .inl ⟨_, _, rfl, lastA sa sb m₃ d1 hl⟩⟩
        rw [if_neg (by simpa using d1)]
        by_cases d2 : ac + 1 ≥ mg
        · rw [if_pos d2]
          exact kasC_pure ⟨rfl, rfl, .inr ⟨_, _, _, _, _, rfl, m₃, by omega, hj₂, by omega⟩⟩
        · rw [if_neg d2]
          exact kasC_pure ⟨rfl, rfl, _, _, _, _, _, rfl, m₃, by omega, hj₂, by omega⟩
    · rintro r st₂ s₂ ⟨rfl, rfl, hr⟩
      rcases hr with ⟨res, z, rfl, hf⟩ | ⟨out₂, i₂, j₂, ac, bc, rfl, m₂, hi₂, hj₂, hu₂⟩
      · exact kasC_pure ⟨K1, rfl, _, _, rfl, hf⟩
      dsimp only
      refine kasC_bind (kasC_lift (wpAny_rule ?_))
      refine kasC_bind (c_rangeR (fun u r st₃ s₃ => Kp st st₃ ∧ s₃ = s₂ ∧ ∃ out₃ i₃ j₃ mg ac bc, r = (none, out₃, i₃, j₃, mg, ac, bc) ∧ AInv lt a b out₃ i₃ j₃ ∧ i₃ + 1 < a.size ∧ j₃ < b.size ∧ u + (i₂ + j₂) ≤ i₃ + j₃)
        (fun r st₃ s₃ => Kp st st₃ ∧ s₃ = s₂ ∧ ((∃ res z, r = (some res, z) ∧ FinA lt a b res) ∨ ∃ out₃ i₃ j₃ mg ac bc, r = (none, out₃, i₃, j₃, mg, ac, bc) ∧ AInv lt a b out₃ i₃ j₃ ∧ i₃ + 1 < a.size ∧ j₃ < b.size ∧ i₂ + j₂ + 1 ≤ i₃ + j₃))
        ⟨K1, rfl, _, _, _, _, _, _, rfl, m₂, hi₂, hj₂, by omega⟩ ?_ ?_ ?_)
      · rintro r st₃ s₃ ⟨_, _, out₃, i₃, j₃, mg, ac, bc, _, _, h1, h2, h3⟩
        omega
      · rintro u x r st₃ s₃ hu ⟨K3, rfl, out₃, i₃, j₃, mg, ac, bc, rfl, m₃, hi₃, hj₃, hu₃⟩
        dsimp only
        obtain ⟨k, hk, hB⟩ := exA T sa pa (pb _ (item_mem hj₃)) (a.size - i₃) (i := i₃) (by omega)
        obtain ⟨m₄, hk4⟩ := galA T sb sa pa pb m₃ (by omega) hj₃ hk hB
        have key : ∀ st₄, Kp st st₄ → kindOf st₄ = κ := fun st₄ K4 => K4.1.trans hst
        revert mg
        refine c_mg ?_ fun mgx => ?_
        · intro _; rfl
        refine kasC_bind (setMG_ fun st₄ K4 => ?_)
        have K5 := K3.trans K4
        refine kasC_bind (c_elem hj₃ ?_)
        refine kasC_bind (gallop_ G (key _ K5) (pb _ (item_mem hj₃)) (fun t ht => pa _ (item_mem (by omega))) (by omega) (by omega) hk hB ?_)
        dsimp only
        by_cases hk0 : k > 0
        · rw [if_pos hk0]
          by_cases d1 : i₃ + k + 1 = a.size
          · rw [if_pos (by simp [← d1])]
            exact kasC_pure ⟨K5, rfl, .inl ⟨_, _, rfl, lastA sa sb m₄ d1 hl⟩⟩
          rw [if_neg (by simpa using d1)]
          by_cases d2 : i₃ + k = a.size
          · rw [if_pos (by simp [← d2])]
            exact kasC_pure ⟨K5, rfl, .inl ⟨_, _, rfl, doneA sb m₄ d2⟩⟩
          rw [if_neg (by simpa using d2)]
          refine kasC_bind (c_elem hj₃ ?_)
          have m₅ := pushB T sb sa pa pb m₄ (show i₃ + k < a.size by omega) hj₃ (hk4 (by omega))
          by_cases d3 : j₃ + 1 = b.size
          · rw [if_pos (by simp [← d3])]
            exact kasC_pure ⟨K5, rfl, .inl ⟨_, _, rfl, doneB sa m₅ d3⟩⟩
          rw [if_neg (by simpa using d3)]
          have hi5 : i₃ + k < a.size := by omega
          refine kasC_bind (c_elem hi5 ?_)
          obtain ⟨k2, hk2, hB2⟩ := exB T sb pb (pa _ (item_mem hi5)) (b.size - (j₃ + 1)) (j := j₃ + 1) (by omega)
          obtain ⟨m₆, hk6⟩ := galB T sb sa pa pb m₅ hi5 (by omega) hk2 hB2
          refine kasC_bind (gallop_ G (key _ K5) (pa _ (item_mem hi5)) (fun t ht => pb _ (item_mem (by omega))) (by omega) (by omega) hk2 hB2 ?_)
          dsimp only
          by_cases hk20 : k2 > 0
          · rw [if_pos hk20]
            by_cases d4 : j₃ + 1 + k2 = b.size
            · rw [if_pos (by simp [← d4])]
              exact kasC_pure ⟨K5, rfl, .inl ⟨_, _, rfl, doneB sa m₆ d4⟩⟩
            rw [if_neg (by simpa using d4)]
            refine kasC_bind (c_elem hi5 ?_)
            have m₇ := pushA T sb sa pa pb m₆ hi5 (fun hh => hk6 hh)
            by_cases d5 : i₃ + k + 1 + 1 = a.size
            · rw [if_pos (by simp [← d5])]
              exact kasC_pure ⟨K5, rfl, .inl ⟨_, _, rfl, lastA sa sb m₇ d5 hl⟩⟩
            rw [if_neg (by simpa using d5)]
            by_cases d6 : (decide (k < 7) && decide (k2 < 7)) = true
            · rw [if_pos d6]
              exact kasC_pure ⟨K5, rfl, .inr ⟨_, _, _, _, _, _, rfl, m₇, by omega, by omega, by omega⟩⟩
            · rw [if_neg d6]
              exact kasC_pure ⟨K5, rfl, _, _, _, _, _, _, rfl, m₇, by omega, by omega, by omega⟩
          · rw [if_neg hk20]
            have ek2 : k2 = 0 := by omega
            subst ek2
            refine kasC_bind (c_elem hi5 ?_)
            have m₇ := pushA T sb sa pa pb m₅ hi5 (fun hh => hk6 hh)
            by_cases d5 : i₃ + k + 1 + 1 = a.size
            · rw [if_pos (by simp [← d5])]
              exact kasC_pure ⟨K5, rfl, .inl ⟨_, _, rfl, lastA sa sb m₇ d5 hl⟩⟩
            rw [if_neg (by simpa using d5)]
            by_cases d6 : (decide (k < 7) && decide (0 < 7)) = true
            · rw [if_pos d6]
              exact kasC_pure ⟨K5, rfl, .inr ⟨_, _, _, _, _, _, rfl, m₇, by omega, by omega, by omega⟩⟩
            · rw [if_neg d6]
              exact kasC_pure ⟨K5, rfl, _, _, _, _, _, _, rfl, m₇, by omega, by omega, by omega⟩
        · rw [if_neg hk0]
          have ek : k = 0 := by omega
          subst ek
          refine kasC_bind (c_elem hj₃ ?_)
          have m₅ := pushB T sb sa pa pb m₃ (show i₃ < a.size by omega) hj₃ (hk4 (by omega))
          by_cases d3 : j₃ + 1 = b.size
          · rw [if_pos (by simp [← d3])]
            exact kasC_pure ⟨K5, rfl, .inl ⟨_, _, rfl, doneB sa m₅ d3⟩⟩
          rw [if_neg (by simpa using d3)]
          have hi5 : i₃ < a.size := by omega
          refine kasC_bind (c_elem hi5 ?_)
          obtain ⟨k2, hk2, hB2⟩ := exB T sb pb (pa _ (item_mem hi5)) (b.size - (j₃ + 1)) (j := j₃ + 1) (by omega)
          obtain ⟨m₆, hk6⟩ := galB T sb sa pa pb m₅ hi5 (by omega) hk2 hB2
          refine kasC_bind (gallop_ G (key _ K5) (pa _ (item_mem hi5)) (fun t ht => pb _ (item_mem (by omega))) (by omega) (by omega) hk2 hB2 ?_)
          dsimp only
          by_cases hk20 : k2 > 0
          · rw [if_pos hk20]
            by_cases d4 : j₃ + 1 + k2 = b.size
            · rw [if_pos (by simp [← d4])]
              exact kasC_pure ⟨K5, rfl, .inl ⟨_, _, rfl, doneB sa m₆ d4⟩⟩
            rw [if_neg (by simpa using d4)]
            refine kasC_bind (c_elem hi5 ?_)
            have m₇ := pushA T sb sa pa pb m₆ hi5 (fun hh => hk6 hh)
            by_cases d5 : i₃ + 1 + 1 = a.size
            · rw [if_pos (by simp [← d5])]
              exact kasC_pure ⟨K5, rfl, .inl ⟨_, _, rfl, lastA sa sb m₇ d5 hl⟩⟩
            rw [if_neg (by simpa using d5)]
            by_cases d6 : (decide (0 < 7) && decide (k2 < 7)) = true
            · rw [if_pos d6]
              exact kasC_pure ⟨K5, rfl, .inr ⟨_, _, _, _, _, _, rfl, m₇, by omega, by omega, by omega⟩⟩
            · rw [if_neg d6]
              exact kasC_pure ⟨K5, rfl, _, _, _, _, _, _, rfl, m₇, by omega, by omega, by omega⟩
          · rw [if_neg hk20]
            have ek2 : k2 = 0 := by omega
            subst ek2
            refine kasC_bind (c_elem hi5 ?_)
            have m₇ := pushA T sb sa pa pb m₅ hi5 (fun hh => hk6 hh)
            by_cases d5 : i₃ + 1 + 1 = a.size
            · rw [if_pos (by simp [← d5])]
              exact kasC_pure ⟨K5, rfl, .inl ⟨_, _, rfl, lastA sa sb m₇ d5 hl⟩⟩
            rw [if_neg (by simpa using d5)]
            by_cases d6 : (decide (0 < 7) && decide (0 < 7)) = true
            · rw [if_pos d6]
              exact kasC_pure ⟨K5, rfl, .inr ⟨_, _, _, _, _, _, rfl, m₇, by omega, by omega, by omega⟩⟩
            · rw [if_neg d6]
              exact kasC_pure ⟨K5, rfl, _, _, _, _, _, _, rfl, m₇, by omega, by omega, by omega⟩
      · rintro r st₃ s₃ ⟨K3, rfl, hr⟩
        rcases hr with ⟨res, z, rfl, hf⟩ | ⟨out₃, i₃, j₃, mg, ac, bc, rfl, m₃, hi₃, hj₃, hu₃⟩
        · exact kasC_pure ⟨K3, rfl, _, _, rfl, hf⟩
        dsimp only
        refine kasC_bind (setMG_ fun st₄ K4 => ?_)
        exact kasC_pure ⟨K3.trans K4, rfl, _, _, _, _, rfl, m₃, hi₃, hj₃, by omega⟩
  · rintro r st' s' ⟨K1, rfl, res, z, rfl, hf⟩
    exact kasC_pure (h _ _ K1 hf)
end
end TS
namespace TS
open PySem PySem.W PyProof.Rows
section
variable {P : Keyed → Prop} {lt : Keyed → Keyed → Bool}
structure HInv (lt : Keyed → Keyed → Bool) (al bl o : List Keyed) (i j : Nat) : Prop where
  perm : o.Perm (al.drop i ++ bl.drop j)
  srt : Srt lt o
  ba : ∀ x ∈ al.take i, ∀ y ∈ o, lt y x = false
  bb : ∀ x ∈ bl.take j, ∀ y ∈ o, lt y x = false
theorem HInv.swap {al bl o : List Keyed} {i j : Nat} (m : HInv lt al bl o i j) : HInv lt bl al o j i := ⟨m.perm.trans List.perm_append_comm, m.srt, m.bb, m.ba⟩
theorem HInv.chunkA {al bl o : List Keyed} {i j : Nat} (m : HInv lt al bl o i j) (ha : Srt lt al) (at_ : Nat) (h : at_ ≤ i) (hi : i ≤ al.length) (hc : ∀ x ∈ bl.take j, ∀ y ∈ (al.take i).drop at_, lt y x = false) : HInv lt al bl ((al.take i).drop at_ ++ o) at_ j := by
  have hs : Srt lt (al.take i) := List.Pairwise.sublist (List.take_sublist i al) ha
  have e0 : (al.take i).take at_ = al.take at_ := by rw [List.take_take, Nat.min_eq_left h]
  have e1 : al.take i = al.take at_ ++ (al.take i).drop at_ := by rw [← e0, List.take_append_drop]
  have hs2 := hs
  rw [e1] at hs2
  have hs' := List.pairwise_append.mp hs2
  have e2 : al.drop at_ = (al.take i).drop at_ ++ al.drop i := by
    have z : al = al.take i ++ al.drop i := (List.take_append_drop i al).symm
    have z2 := congrArg (List.drop at_) z
    rw [List.drop_append_of_le_length (by rw [List.length_take]; omega)] at z2
    exact z2
  have sub1 : ∀ y ∈ (al.take i).drop at_, y ∈ al.take i := fun y hy => List.mem_of_mem_drop hy
  have sub2 : ∀ y ∈ al.take at_, y ∈ al.take i := fun y hy => by rw [e1]; exact List.mem_append_left _ hy
  refine ⟨?_, ?_, fun x hx y hy => ?_, fun x hx y hy => ?_⟩
  · rw [e2, List.append_assoc]
    exact m.perm.append_left _
  · exact List.pairwise_append.mpr ⟨hs'.2.1, m.srt, fun x hx y hy => m.ba x (sub1 x hx) y hy⟩
  · rcases List.mem_append.mp hy with h' | h'
    · exact hs'.2.2 x hx y h'
    · exact m.ba x (sub2 x hx) y h'
  · rcases List.mem_append.mp hy with h' | h'
    · exact hc x hx y h'
    · exact m.bb x hx y h'
theorem HInv.chunkB {al bl o : List Keyed} {i j : Nat} (m : HInv lt al bl o i j) (hb : Srt lt bl) (at_ : Nat) (h : at_ ≤ j) (hj : j ≤ bl.length) (hc : ∀ x ∈ al.take i, ∀ y ∈ (bl.take j).drop at_, lt y x = false) : HInv lt al bl ((bl.take j).drop at_ ++ o) i at_ :=
  (m.swap.chunkA hb at_ h hj hc).swap
theorem HInv.zero (al bl : List Keyed) : HInv lt al bl [] al.length bl.length := ⟨by simp, .nil, fun x hx y hy => absurd hy (by simp), fun x hx y hy => absurd hy (by simp)⟩
theorem HInv.fin {al bl o : List Keyed} (m : HInv lt al bl o 0 0) : Fin2 lt al bl o := ⟨by simpa using m.perm, m.srt⟩
variable {a b out : Array Keyed} {i j k : Nat}
abbrev BInv (lt : Keyed → Keyed → Bool) (a b out : Array Keyed) (i j : Nat) : Prop := HInv lt a.toList b.toList out.reverse.toList i j
theorem ext0 (h : i ≤ a.size) : (a.extract k i).toList = (a.toList.take i).drop k := by
  rw [ext_list h, List.drop_take]
theorem take_item {x : Keyed} (h : x ∈ a.toList.take i) : ∃ t, t < i ∧ t < a.size ∧ x = kas_item a t := by
  obtain ⟨m, hm⟩ := List.mem_iff_getElem?.mp h
  rw [List.getElem?_take] at hm
  by_cases c : m < i
  · rw [if_pos c] at hm
    have hl := (List.getElem?_eq_some_iff.mp hm).1
    have hl' : m < a.size := by simpa using hl
    refine ⟨m, c, hl', ?_⟩
    rw [item_get hl'] at hm
    exact (Option.some.inj hm).symm
  · rw [if_neg c] at hm
    cases hm
theorem mid_item {x : Keyed} (h : x ∈ (a.toList.take i).drop k) : ∃ t, k ≤ t ∧ t < i ∧ t < a.size ∧ x = kas_item a t := by
  obtain ⟨m, hm⟩ := List.mem_iff_getElem?.mp h
  rw [List.getElem?_drop, List.getElem?_take] at hm
  by_cases c : k + m < i
  · rw [if_pos c] at hm
    have hl := (List.getElem?_eq_some_iff.mp hm).1
    have hl' : k + m < a.size := by simpa using hl
    refine ⟨k + m, by omega, c, hl', ?_⟩
    rw [item_get hl'] at hm
    exact (Option.some.inj hm).symm
  · rw [if_neg c] at hm
    cases hm
theorem one_last (h0 : 0 < i) (h : i ≤ a.size) : (a.toList.take i).drop (i - 1) = [kas_item a (i - 1)] := by
  obtain ⟨t, rfl⟩ : ∃ t, i = t + 1 := ⟨i - 1, by omega⟩
  have e := item_get (a := a) (i := t) (by omega)
  rw [Nat.add_sub_cancel, List.take_add_one, e, List.drop_append_of_le_length (by simp; omega), List.drop_of_length_le (by rw [List.length_take]; omega)]
  rfl
theorem hgalA (T : Tot P lt) (sb : Srt lt b.toList) (sa : Srt lt a.toList) (pa : ∀ x ∈ a.toList, P x) (pb : ∀ x ∈ b.toList, P x) (m : BInv lt a b out i j) (hi : i ≤ a.size) (hj0 : 0 < j) (hj : j ≤ b.size) (hk : k ≤ i)
    (h : ∀ t, k ≤ t → t < i → lt (kas_item b (j - 1)) (kas_item a t) = true) : BInv lt a b (out ++ (a.extract k i).reverse) k j := by
  have z := m.chunkA sa k hk (by simpa using hi) (fun x hx y hy => by
    obtain ⟨j', h1, h2, rfl⟩ := take_item hx
    obtain ⟨t, g1, g2, g3, rfl⟩ := mid_item hy
    have q := T.asym _ _ (pb _ (item_mem (by omega))) (pa _ (item_mem g3)) (h t g1 g2)
    by_cases e : j' = j - 1
    · rw [e]; exact q
    · exact T.trans _ _ _ (pb _ (item_mem h2)) (pb _ (item_mem (by omega))) (pa _ (item_mem g3)) (srt_item T sb pb (by omega) (by omega)) q)
  have e : (out ++ (a.extract k i).reverse).reverse.toList = (a.toList.take i).drop k ++ out.reverse.toList := by
    rw [← ext0 hi]
    simp
  show HInv lt _ _ (out ++ (a.extract k i).reverse).reverse.toList _ _
  rw [e]
  exact z
theorem hgalB (T : Tot P lt) (sb : Srt lt b.toList) (sa : Srt lt a.toList) (pa : ∀ x ∈ a.toList, P x) (pb : ∀ x ∈ b.toList, P x) (m : BInv lt a b out i j) (hi0 : 0 < i) (hi : i ≤ a.size) (hj : j ≤ b.size) (hk : k ≤ j)
    (h : ∀ t, k ≤ t → t < j → lt (kas_item b t) (kas_item a (i - 1)) = false) : BInv lt a b (out ++ (b.extract k j).reverse) i k := by
  have z := m.chunkB sb k hk (by simpa using hj) (fun x hx y hy => by
    obtain ⟨i', h1, h2, rfl⟩ := take_item hx
    obtain ⟨t, g1, g2, g3, rfl⟩ := mid_item hy
    have q := h t g1 g2
    by_cases e : i' = i - 1
    · rw [e]; exact q
    · exact T.trans _ _ _ (pa _ (item_mem h2)) (pa _ (item_mem (by omega))) (pb _ (item_mem g3)) (srt_item T sa pa (by omega) (by omega)) q)
  have e : (out ++ (b.extract k j).reverse).reverse.toList = (b.toList.take j).drop k ++ out.reverse.toList := by
    rw [← ext0 hj]
    simp
  show HInv lt _ _ (out ++ (b.extract k j).reverse).reverse.toList _ _
  rw [e]
  exact z
theorem push_one (h0 : 0 < i) (h : i ≤ a.size) : out ++ (a.extract (i - 1) i).reverse = out.push (kas_item a (i - 1)) := by
  apply Array.toList_inj.mp
  rw [Array.toList_append, Array.toList_reverse, ext0 h, one_last h0 h]
  simp
theorem hpushA (T : Tot P lt) (sb : Srt lt b.toList) (sa : Srt lt a.toList) (pa : ∀ x ∈ a.toList, P x) (pb : ∀ x ∈ b.toList, P x) (m : BInv lt a b out i j) (hi0 : 0 < i) (hi : i ≤ a.size) (hj0 : 0 < j) (hj : j ≤ b.size) (h : lt (kas_item b (j - 1)) (kas_item a (i - 1)) = true) : BInv lt a b (out.push (kas_item a (i - 1))) (i - 1) j := by
  rw [← push_one hi0 hi]
  exact hgalA T sb sa pa pb m hi hj0 hj (by omega) fun t h1 h2 => by
    have : t = i - 1 := by omega
    rw [this]; exact h
theorem hpushB (T : Tot P lt) (sb : Srt lt b.toList) (sa : Srt lt a.toList) (pa : ∀ x ∈ a.toList, P x) (pb : ∀ x ∈ b.toList, P x) (m : BInv lt a b out i j) (hi0 : 0 < i) (hi : i ≤ a.size) (hj0 : 0 < j) (hj : j ≤ b.size) (h : lt (kas_item b (j - 1)) (kas_item a (i - 1)) = false) : BInv lt a b (out.push (kas_item b (j - 1))) i (j - 1) := by
  rw [← push_one hj0 hj]
  exact hgalB T sb sa pa pb m hi0 hi hj (by omega) fun t h1 h2 => by
    have : t = j - 1 := by omega
    rw [this]; exact h
theorem hdoneA (sb : Srt lt b.toList) (m : BInv lt a b out i j) (hj : j ≤ b.size) (h : i = 0) : FinA lt a b (a.extract 0 i ++ b.extract 0 j ++ out.reverse) := by
  subst h
  have z := (m.chunkB sb 0 (Nat.zero_le _) (by simpa using hj) (fun x hx => absurd hx (by simp))).fin
  show Fin2 lt _ _ (a.extract 0 0 ++ b.extract 0 j ++ out.reverse).toList
  rw [Array.toList_append, Array.toList_append, ext0 hj, ext0 (Nat.zero_le _)]
  simpa using z
theorem hdoneB (sa : Srt lt a.toList) (m : BInv lt a b out i j) (hi : i ≤ a.size) (h : j = 0) : FinA lt a b (a.extract 0 i ++ b.extract 0 j ++ out.reverse) := by
  subst h
  have z := (m.chunkA sa 0 (Nat.zero_le _) (by simpa using hi) (fun x hx => absurd hx (by simp))).fin
  show Fin2 lt _ _ (a.extract 0 i ++ b.extract 0 0 ++ out.reverse).toList
  rw [Array.toList_append, Array.toList_append, ext0 hi, ext0 (Nat.zero_le _)]
  simpa using z
theorem hfirst (sa : Srt lt a.toList) (sb : Srt lt b.toList) (m : BInv lt a b out i j) (hi : i ≤ a.size) (hj : j ≤ b.size) (h : j = 1) (hf : ∀ x ∈ a.toList, lt x (kas_item b 0) = false) : FinA lt a b (b.extract 0 j ++ a.extract 0 i ++ out.reverse) := by
  subst h
  have z := m.chunkA sa 0 (Nat.zero_le _) (by simpa using hi) (fun x hx y hy => by
    obtain ⟨t, h1, h2, rfl⟩ := take_item hx
    have : t = 0 := by omega
    subst this
    exact hf y (List.mem_of_mem_take (List.mem_of_mem_drop hy)))
  have z2 := (z.chunkB sb 0 (Nat.zero_le _) (by simpa using hj) (fun x hx => absurd hx (by simp))).fin
  show Fin2 lt _ _ (b.extract 0 1 ++ a.extract 0 i ++ out.reverse).toList
  rw [Array.toList_append, Array.toList_append, ext0 hi, ext0 hj]
  simpa using z2
end
section
variable {prog : Program} {w : World} {A : Around} {E : Value → Shared → Prop} {κ : SortKind} {P : Keyed → Prop} {lt : Keyed → Keyed → Bool}
theorem mergeHi_ {s : Shared} (G : Good prog w A E κ P lt s) (T : Tot P lt) {a b : Array Keyed} {Q : Array Keyed → SortSt → Shared → Prop} {st : SortSt} (hst : kindOf st = κ) (pa : ∀ x ∈ a.toList, P x) (pb : ∀ x ∈ b.toList, P x) (sa : Srt lt a.toList) (sb : Srt lt b.toList)
    (na : 0 < a.size) (nb : 0 < b.size) (hl : lt (kas_item b (b.size - 1)) (kas_item a (a.size - 1)) = true) (hf : ∀ x ∈ a.toList, lt x (kas_item b 0) = false) (h : ∀ r st', Kp st st' → FinA lt a b r → Q r st' s) : kasC (model prog w) A E (mergeHi' a b) Q st s := by
  have m0 : BInv lt a b (#[] : Array Keyed) a.size b.size := by
    have z := HInv.zero (lt := lt) a.toList b.toList
    simpa [BInv] using z
  have m1 := hpushA T sb sa pa pb m0 na (Nat.le_refl _) nb (Nat.le_refl _) hl
  refine kasC_bind (kasC_lift (wpAny_rule ?_))
  refine kasC_bind (c_elem (show a.size - 1 < a.size by omega) ?_)
  dsimp only
  by_cases c1 : a.size - 1 = 0
  · rw [if_pos (by simp [c1])]
    exact kasC_pure (h _ _ (Kp.refl _) (hdoneA sb m1 (Nat.le_refl _) c1))
  rw [if_neg (by simpa using c1)]
  by_cases c2 : b.size = 1
  · rw [if_pos (by simp [c2])]
    exact kasC_pure (h _ _ (Kp.refl _) (hfirst sa sb m1 (by omega) (Nat.le_refl _) c2 hf))
  rw [if_neg (by simpa using c2)]
  refine kasC_bind (kasC_get ?_)
  refine kasC_bind (c_rangeR (fun t r st' s' => Kp st st' ∧ s' = s ∧ ∃ i j out mg, r = (none, i, j, out, mg) ∧ BInv lt a b out i j ∧ 1 ≤ i ∧ i ≤ a.size ∧ 2 ≤ j ∧ j ≤ b.size ∧ t + i + j ≤ a.size + b.size)
    (fun r st' s' => Kp st st' ∧ s' = s ∧ ∃ res z, r = (some res, z) ∧ FinA lt a b res) ⟨Kp.refl _, rfl, _, _, _, _, rfl, m1, by omega, by omega, by omega, by omega, by omega⟩ ?_ ?_ ?_)
  · rintro r st' s' ⟨_, _, i, j, out, mg, _, _, h1, h2, h3, h4, h5⟩
    omega
  · rintro t x r st' s' ht ⟨K1, rfl, i, j, out, mg, rfl, m, hi0, hi, hj0, hj, hij⟩
    dsimp only
    refine kasC_bind (c_rangeR (fun u r st₂ s₂ => st₂ = st' ∧ s₂ = s' ∧ ∃ i₂ j₂ out₂ ac bc, r = (none, i₂, j₂, out₂, ac, bc) ∧ BInv lt a b out₂ i₂ j₂ ∧ 1 ≤ i₂ ∧ i₂ ≤ a.size ∧ 2 ≤ j₂ ∧ j₂ ≤ b.size ∧ u + i₂ + j₂ ≤ i + j)
      (fun r st₂ s₂ => st₂ = st' ∧ s₂ = s' ∧ ((∃ res z, r = (some res, z) ∧ FinA lt a b res) ∨ ∃ i₂ j₂ out₂ ac bc, r = (none, i₂, j₂, out₂, ac, bc) ∧ BInv lt a b out₂ i₂ j₂ ∧ 1 ≤ i₂ ∧ i₂ ≤ a.size ∧ 2 ≤ j₂ ∧ j₂ ≤ b.size ∧ i₂ + j₂ ≤ i + j))
      ⟨rfl, rfl, _, _, _, _, _, rfl, m, hi0, hi, hj0, hj, by omega⟩ ?_ ?_ ?_)
    · rintro r st₂ s₂ ⟨_, _, i₂, j₂, out₂, ac, bc, _, _, h1, h2, h3, h4, h5⟩
      omega
    · rintro u x r st₂ s₂ hu ⟨rfl, rfl, i₂, j₂, out₂, ac, bc, rfl, m₂, hi₂0, hi₂, hj₂0, hj₂, hu₂⟩
      dsimp only
      have ja : j₂ - 1 < b.size := by omega
      have ia : i₂ - 1 < a.size := by omega
      refine kasC_bind (c_elem ja (kasC_bind (c_elem ia ?_)))
      refine kasC_bind (G _ _ _ _ (pb _ (item_mem ja)) (pa _ (item_mem ia)) (K1.1.trans hst) ?_)
      dsimp only
      cases hb : lt (kas_item b (j₂ - 1)) (kas_item a (i₂ - 1)) with
      | true =>
        rw [if_pos rfl]
        refine kasC_bind (c_elem ia ?_)
        have m₃ := hpushA T sb sa pa pb m₂ (by omega) hi₂ (by omega) hj₂ hb
        by_cases d1 : i₂ - 1 = 0
        · rw [if_pos (by simp [d1])]
          exact kasC_pure ⟨rfl, rfl, .inl ⟨_, _, rfl, hdoneA sb m₃ hj₂ d1⟩⟩
        rw [if_neg (by simpa using d1)]
        by_cases d2 : ac + 1 ≥ mg
        · rw [if_pos d2]
          exact kasC_pure ⟨rfl, rfl, .inr ⟨_, _, _, _, _, rfl, m₃, by omega, by omega, by omega, by omega, by omega⟩⟩
        · rw [if_neg d2]
          exact kasC_pure ⟨rfl, rfl, _, _, _, _, _, rfl, m₃, by omega, by omega, by omega, by omega, by omega⟩
      | false =>
        rw [if_neg Bool.false_ne_true]
        refine kasC_bind (c_elem ja ?_)
        have m₃ := hpushB T sb sa pa pb m₂ (by omega) hi₂ (by omega) hj₂ hb
        by_cases d1 : j₂ - 1 = 1
        · rw [if_pos (by simp [d1])]
          exact kasC_pure ⟨rfl, rfl, .inl ⟨_, _, rfl, hfirst sa sb m₃ hi₂ (by omega) d1 hf⟩⟩
        rw [if_neg (by simpa using d1)]
        by_cases d2 : bc + 1 ≥ mg
        · rw [if_pos d2]
          exact kasC_pure ⟨rfl, rfl, .inr ⟨_, _, _, _, _, rfl, m₃, by omega, by omega, by omega, by omega, by omega⟩⟩
        · rw [if_neg d2]
          exact kasC_pure ⟨rfl, rfl, _, _, _, _, _, rfl, m₃, by omega, by omega, by omega, by omega, by omega⟩
    · rintro r st₂ s₂ ⟨rfl, rfl, hr⟩
      rcases hr with ⟨res, z, rfl, hfin⟩ | ⟨i₂, j₂, out₂, ac, bc, rfl, m₂, hi₂0, hi₂, hj₂0, hj₂, hu₂⟩
      · exact kasC_pure ⟨K1, rfl, _, _, rfl, hfin⟩
      dsimp only
      refine kasC_bind (kasC_lift (wpAny_rule ?_))
      refine kasC_bind (c_rangeR (fun u r st₃ s₃ => Kp st st₃ ∧ s₃ = s₂ ∧ ∃ i₃ j₃ out₃ mg ac bc, r = (none, i₃, j₃, out₃, mg, ac, bc) ∧ BInv lt a b out₃ i₃ j₃ ∧ 1 ≤ i₃ ∧ i₃ ≤ a.size ∧ 2 ≤ j₃ ∧ j₃ ≤ b.size ∧ u + i₃ + j₃ ≤ i₂ + j₂)
        (fun r st₃ s₃ => Kp st st₃ ∧ s₃ = s₂ ∧ ((∃ res z, r = (some res, z) ∧ FinA lt a b res) ∨ ∃ i₃ j₃ out₃ mg ac bc, r = (none, i₃, j₃, out₃, mg, ac, bc) ∧ BInv lt a b out₃ i₃ j₃ ∧ 1 ≤ i₃ ∧ i₃ ≤ a.size ∧ 2 ≤ j₃ ∧ j₃ ≤ b.size ∧ 1 + i₃ + j₃ ≤ i₂ + j₂))
        ⟨K1, rfl, _, _, _, _, _, _, rfl, m₂, hi₂0, hi₂, hj₂0, hj₂, by omega⟩ ?_ ?_ ?_)
      · rintro r st₃ s₃ ⟨_, _, i₃, j₃, out₃, mg, ac, bc, _, _, h1, h2, h3, h4, h5⟩
        omega
      · rintro u x r st₃ s₃ hu ⟨K3, rfl, i₃, j₃, out₃, mg, ac, bc, rfl, m₃, hi₃0, hi₃, hj₃0, hj₃, hu₃⟩
        dsimp only
        have ja : j₃ - 1 < b.size := by omega
        obtain ⟨k, hk, hB⟩ := exA T sa pa (pb _ (item_mem ja)) i₃ (i := 0) (by omega)
        have gA : ∀ t, t < k → lt (kas_item b (j₃ - 1)) (kas_item a t) = false := fun t ht => by
          have q := hB t (by omega)
          rw [if_neg Bool.false_ne_true, Nat.zero_add, decide_eq_true ht, Bool.not_eq_true'] at q
          exact q
        have gB : ∀ t, k ≤ t → t < i₃ → lt (kas_item b (j₃ - 1)) (kas_item a t) = true := fun t h1 h2 => by
          have q := hB t h2
          rw [if_neg Bool.false_ne_true, Nat.zero_add, decide_eq_false (by omega), Bool.not_eq_false'] at q
          exact q
        have m₄ := hgalA T sb sa pa pb m₃ hi₃ (by omega) hj₃ hk gB
        have key : ∀ st₄, Kp st st₄ → kindOf st₄ = κ := fun st₄ K4 => K4.1.trans hst
        revert mg
        refine c_mg ?_ fun mgx => ?_
        · intro _; rfl
        refine kasC_bind (setMG_ fun st₄ K4 => ?_)
        have K5 := K3.trans K4
        refine kasC_bind (c_elem ja ?_)
        refine kasC_bind (gallop_ G (key _ K5) (pb _ (item_mem ja)) (fun t ht => pa _ (item_mem (by omega))) (by omega) (by omega) hk hB ?_)
        dsimp only
        by_cases hz : i₃ - k > 0
        · rw [if_pos hz]
          by_cases d1 : k = 0
          · rw [if_pos (by simp [d1])]
            exact kasC_pure ⟨K5, rfl, .inl ⟨_, _, rfl, hdoneA sb m₄ hj₃ d1⟩⟩
          rw [if_neg (by simpa using d1)]
          refine kasC_bind (c_elem (show j₃ - 1 < b.size by omega) ?_)
          have m₅ := hpushB T sb sa pa pb m₄ (show 0 < k by omega) (by omega) (by omega) (by omega) (gA (k - 1) (by omega))
          by_cases d3 : j₃ - 1 = 1
          · rw [if_pos (by simp [d3])]
            exact kasC_pure ⟨K5, rfl, .inl ⟨_, _, rfl, hfirst sa sb m₅ (by omega) (by omega) d3 hf⟩⟩
          rw [if_neg (by simpa using d3)]
          have hi5 : k - 1 < a.size := by omega
          refine kasC_bind (c_elem hi5 ?_)
          obtain ⟨k2, hk2, hB2⟩ := exB T sb pb (pa _ (item_mem hi5)) (j₃ - 1) (j := 0) (by omega)
          have gA2 : ∀ t, t < k2 → lt (kas_item b t) (kas_item a (k - 1)) = true := fun t ht => by
            have q := hB2 t (by omega)
            rw [if_pos rfl, Nat.zero_add, decide_eq_true ht] at q
            exact q
          have gB2 : ∀ t, k2 ≤ t → t < j₃ - 1 → lt (kas_item b t) (kas_item a (k - 1)) = false := fun t h1 h2 => by
            have q := hB2 t h2
            rw [if_pos rfl, Nat.zero_add, decide_eq_false (by omega)] at q
            exact q
          refine kasC_bind (gallop_ G (key _ K5) (pa _ (item_mem hi5)) (fun t ht => pb _ (item_mem (by omega))) (by omega) (by omega) hk2 hB2 ?_)
          dsimp only
          by_cases hz2 : j₃ - 1 - k2 > 0
          · rw [if_pos hz2]
            have m₆ := hgalB T sb sa pa pb m₅ (show 0 < k by omega) (by omega) (by omega) (show k2 ≤ j₃ - 1 by omega) (fun t h1 h2 => gB2 t h1 h2)
            by_cases d4 : k2 = 1
            · rw [if_pos (by simp [d4])]
              exact kasC_pure ⟨K5, rfl, .inl ⟨_, _, rfl, hfirst sa sb m₆ (by omega) (by omega) d4 hf⟩⟩
            rw [if_neg (by simpa using d4)]
            by_cases d5 : k2 = 0
            · rw [if_pos (by simp [d5])]
              exact kasC_pure ⟨K5, rfl, .inl ⟨_, _, rfl, hdoneB sa m₆ (by omega) d5⟩⟩
            rw [if_neg (by simpa using d5)]
            refine kasC_bind (c_elem hi5 ?_)
            have m₇ := hpushA T sb sa pa pb m₆ (show 0 < k by omega) (by omega) (by omega) (by omega) (gA2 (k2 - 1) (by omega))
            by_cases d6 : k - 1 = 0
            · rw [if_pos (by simp [d6])]
              exact kasC_pure ⟨K5, rfl, .inl ⟨_, _, rfl, hdoneA sb m₇ (by omega) d6⟩⟩
            rw [if_neg (by simpa using d6)]
            by_cases d7 : (decide (i₃ - k < 7) && decide (j₃ - 1 - k2 < 7)) = true
            · rw [if_pos d7]
              exact kasC_pure ⟨K5, rfl, .inr ⟨_, _, _, _, _, _, rfl, m₇, by omega, by omega, by omega, by omega, by omega⟩⟩
            · rw [if_neg d7]
              exact kasC_pure ⟨K5, rfl, _, _, _, _, _, _, rfl, m₇, by omega, by omega, by omega, by omega, by omega⟩
          · rw [if_neg hz2]
            refine kasC_bind (c_elem hi5 ?_)
            have m₇ := hpushA T sb sa pa pb m₅ (show 0 < k by omega) (by omega) (by omega) (by omega) (gA2 (j₃ - 1 - 1) (by omega))
            by_cases d6 : k - 1 = 0
            · rw [if_pos (by simp [d6])]
              exact kasC_pure ⟨K5, rfl, .inl ⟨_, _, rfl, hdoneA sb m₇ (by omega) d6⟩⟩
            rw [if_neg (by simpa using d6)]
            by_cases d7 : (decide (i₃ - k < 7) && decide (j₃ - 1 - k2 < 7)) = true
            · rw [if_pos d7]
              exact kasC_pure ⟨K5, rfl, .inr ⟨_, _, _, _, _, _, rfl, m₇, by omega, by omega, by omega, by omega, by omega⟩⟩
            · rw [if_neg d7]
              exact kasC_pure ⟨K5, rfl, _, _, _, _, _, _, rfl, m₇, by omega, by omega, by omega, by omega, by omega⟩
        · rw [if_neg hz]
          have ek : i₃ = k := by omega
          refine kasC_bind (c_elem (show j₃ - 1 < b.size by omega) ?_)
          have m₅ := hpushB T sb sa pa pb m₃ (show 0 < i₃ by omega) (by omega) (by omega) (by omega) (gA (i₃ - 1) (by omega))
          by_cases d3 : j₃ - 1 = 1
          · rw [if_pos (by simp [d3])]
            exact kasC_pure ⟨K5, rfl, .inl ⟨_, _, rfl, hfirst sa sb m₅ (by omega) (by omega) d3 hf⟩⟩
          rw [if_neg (by simpa using d3)]
          have hi5 : i₃ - 1 < a.size := by omega
          refine kasC_bind (c_elem hi5 ?_)
          obtain ⟨k2, hk2, hB2⟩ := exB T sb pb (pa _ (item_mem hi5)) (j₃ - 1) (j := 0) (by omega)
          have gA2 : ∀ t, t < k2 → lt (kas_item b t) (kas_item a (i₃ - 1)) = true := fun t ht => by
            have q := hB2 t (by omega)
            rw [if_pos rfl, Nat.zero_add, decide_eq_true ht] at q
            exact q
          have gB2 : ∀ t, k2 ≤ t → t < j₃ - 1 → lt (kas_item b t) (kas_item a (i₃ - 1)) = false := fun t h1 h2 => by
            have q := hB2 t h2
            rw [if_pos rfl, Nat.zero_add, decide_eq_false (by omega)] at q
            exact q
          refine kasC_bind (gallop_ G (key _ K5) (pa _ (item_mem hi5)) (fun t ht => pb _ (item_mem (by omega))) (by omega) (by omega) hk2 hB2 ?_)
          dsimp only
          by_cases hz2 : j₃ - 1 - k2 > 0
          · rw [if_pos hz2]
            have m₆ := hgalB T sb sa pa pb m₅ (show 0 < i₃ by omega) (by omega) (by omega) (show k2 ≤ j₃ - 1 by omega) (fun t h1 h2 => gB2 t h1 h2)
            by_cases d4 : k2 = 1
            · rw [if_pos (by simp [d4])]
              exact kasC_pure ⟨K5, rfl, .inl ⟨_, _, rfl, hfirst sa sb m₆ (by omega) (by omega) d4 hf⟩⟩
            rw [if_neg (by simpa using d4)]
            by_cases d5 : k2 = 0
            · rw [if_pos (by simp [d5])]
              exact kasC_pure ⟨K5, rfl, .inl ⟨_, _, rfl, hdoneB sa m₆ (by omega) d5⟩⟩
            rw [if_neg (by simpa using d5)]
            refine kasC_bind (c_elem hi5 ?_)
            have m₇ := hpushA T sb sa pa pb m₆ (show 0 < i₃ by omega) (by omega) (by omega) (by omega) (gA2 (k2 - 1) (by omega))
            by_cases d6 : i₃ - 1 = 0
            · rw [if_pos (by simp [d6])]
              exact kasC_pure ⟨K5, rfl, .inl ⟨_, _, rfl, hdoneA sb m₇ (by omega) d6⟩⟩
            rw [if_neg (by simpa using d6)]
            by_cases d7 : (decide (i₃ - k < 7) && decide (j₃ - 1 - k2 < 7)) = true
            · rw [if_pos d7]
              exact kasC_pure ⟨K5, rfl, .inr ⟨_, _, _, _, _, _, rfl, m₇, by omega, by omega, by omega, by omega, by omega⟩⟩
            · rw [if_neg d7]
              exact kasC_pure ⟨K5, rfl, _, _, _, _, _, _, rfl, m₇, by omega, by omega, by omega, by omega, by omega⟩
          · rw [if_neg hz2]
            refine kasC_bind (c_elem hi5 ?_)
            have m₇ := hpushA T sb sa pa pb m₅ (show 0 < i₃ by omega) (by omega) (by omega) (by omega) (gA2 (j₃ - 1 - 1) (by omega))
            by_cases d6 : i₃ - 1 = 0
            · rw [if_pos (by simp [d6])]
              exact kasC_pure ⟨K5, rfl, .inl ⟨_, _, rfl, hdoneA sb m₇ (by omega) d6⟩⟩
            rw [if_neg (by simpa using d6)]
            by_cases d7 : (decide (i₃ - k < 7) && decide (j₃ - 1 - k2 < 7)) = true
            · rw [if_pos d7]
              exact kasC_pure ⟨K5, rfl, .inr ⟨_, _, _, _, _, _, rfl, m₇, by omega, by omega, by omega, by omega, by omega⟩⟩
            · rw [if_neg d7]
              exact kasC_pure ⟨K5, rfl, _, _, _, _, _, _, rfl, m₇, by omega, by omega, by omega, by omega, by omega⟩
      · rintro r st₃ s₃ ⟨K3, rfl, hr⟩
        rcases hr with ⟨res, z, rfl, hfin⟩ | ⟨i₃, j₃, out₃, mg, ac, bc, rfl, m₃, hi₃0, hi₃, hj₃0, hj₃, hu₃⟩
        · exact kasC_pure ⟨K3, rfl, _, _, rfl, hfin⟩
        dsimp only
        refine kasC_bind (setMG_ fun st₄ K4 => ?_)
        exact kasC_pure ⟨K3.trans K4, rfl, _, _, _, _, rfl, m₃, hi₃0, hi₃, hj₃0, hj₃, by omega⟩
  · rintro r st' s' ⟨K1, rfl, res, z, rfl, hfin⟩
    exact kasC_pure (h _ _ K1 hfin)
end
end TS
namespace TS
open PySem PySem.W PyProof.Rows
section
variable {prog : Program} {w : World} {A : Around} {E : Value → Shared → Prop}
theorem c_upto {β : Type} {f : Nat → β → M2 (ForInStep β)} {R : β → SortSt → Shared → Prop} (I : Nat → β → SortSt → Shared → Prop) :
    ∀ (m a : Nat) (b : β) (st : SortSt) (s : Shared), I a b st s → (∀ b st s, I (a + m) b st s → R b st s) →
    (∀ k b st s, a ≤ k → k < a + m → I k b st s → kasC (model prog w) A E (f k b) (fun r st' s' => match r with | .done b' => R b' st' s' | .yield b' => I (k + 1) b' st' s') st s) →
    kasC (model prog w) A E (forIn (List.range' a m) b f) R st s
  | 0, a, b, st, s, hi, hq, _ => kasC_nil (hq b st s hi)
  | m + 1, a, b, st, s, hi, hq, hs => by
    rw [List.range'_succ]
    refine kasC_cons (wpAny_mono (hs a b st s (Nat.le_refl _) (by omega) hi) (fun r s' h => ?_) fun _ _ e => e)
    obtain ⟨r, st'⟩ := r
    cases r with
    | done b' => exact h
    | yield b' => exact c_upto I m (a + 1) b' st' s' h (fun b st s hb => hq b st s (by rw [show a + (m + 1) = a + 1 + m by omega]; exact hb)) (fun k b st s h1 h2 h3 => hs k b st s (by omega) (by omega) h3)
theorem c_between {β : Type} {f : Nat → β → M2 (ForInStep β)} {Q : β → SortSt → Shared → Prop} {a n : Nat} {b : β} {st : SortSt} {s : Shared} (han : a ≤ n) (I : Nat → β → SortSt → Shared → Prop) (R : β → SortSt → Shared → Prop) (h0 : I a b st s) (he : ∀ b st s, I n b st s → R b st s)
    (hs : ∀ k b st s, a ≤ k → k < n → I k b st s → kasC (model prog w) A E (f k b) (fun r st' s' => match r with | .done b' => R b' st' s' | .yield b' => I (k + 1) b' st' s') st s) (hR : ∀ b st s, R b st s → Q b st s) : kasC (model prog w) A E (forIn [a:n] b f) Q st s := by
  refine kasC_range (wpAny_mono (c_upto I (n - a) a b st s h0 (fun b st s h => he b st s (by rw [show a + (n - a) = n by omega] at h; exact h)) (fun k b st s h1 h2 h3 => hs k b st s h1 (by omega) h3)) (fun r s' h => hR _ _ _ h) fun _ _ e => e)
end
section
variable {P : Keyed → Prop} {lt : Keyed → Keyed → Bool}
theorem item_eq {xs ys : Array Keyed} {i j : Nat} (h : xs[i]? = ys[j]?) : kas_item xs i = kas_item ys j := by
  unfold kas_item
  rw [Array.getD_eq_getD_getElem?, Array.getD_eq_getD_getElem?, h]
theorem item_bubble {xs : Array Keyed} {src d : Nat} (hs : src < xs.size) (hd : d ≤ src) (t : Nat) : kas_item (bubble xs src d) t = if t = src - d then kas_item xs src else if src - d < t ∧ t ≤ src then kas_item xs (t - 1) else kas_item xs t := by
  have e := getElem?_bubble hs d hd t
  by_cases h1 : t = src - d
  · rw [if_pos h1] at e ⊢; exact item_eq e
  · rw [if_neg h1] at e ⊢
    by_cases h2 : src - d < t ∧ t ≤ src
    · rw [if_pos h2] at e ⊢; exact item_eq e
    · rw [if_neg h2] at e ⊢; exact item_eq e
theorem item_mirror {xs : Array Keyed} {i j : Nat} (hj : j ≤ xs.size) (t : Nat) : kas_item (mirror xs i j ((j - i) / 2)) t = if i ≤ t ∧ t < j then kas_item xs (i + j - 1 - t) else kas_item xs t := by
  have e := getElem?_mirror_all (i := i) hj t
  by_cases h1 : i ≤ t ∧ t < j
  · rw [if_pos h1] at e ⊢; exact item_eq e
  · rw [if_neg h1] at e ⊢; exact item_eq e
structure Loc (xs ys : Array Keyed) (lo hi : Nat) : Prop where
  size : ys.size = xs.size
  perm : ys.Perm xs
  out : ∀ t, t < lo ∨ hi ≤ t → ys[t]? = xs[t]?
theorem Loc.refl (xs : Array Keyed) (lo hi : Nat) : Loc xs xs lo hi := ⟨rfl, Array.Perm.refl _, fun _ _ => rfl⟩
theorem Loc.trans {xs ys zs : Array Keyed} {lo hi : Nat} (a : Loc xs ys lo hi) (b : Loc ys zs lo hi) : Loc xs zs lo hi := ⟨b.size.trans a.size, b.perm.trans a.perm, fun t ht => (b.out t ht).trans (a.out t ht)⟩
theorem Loc.wide {xs ys : Array Keyed} {lo hi lo' hi' : Nat} (a : Loc xs ys lo hi) (h1 : lo' ≤ lo) (h2 : hi ≤ hi') : Loc xs ys lo' hi' := ⟨a.size, a.perm, fun t ht => a.out t (by omega)⟩
theorem Loc.good {xs ys : Array Keyed} {lo hi : Nat} (a : Loc xs ys lo hi) (h : ∀ x ∈ xs.toList, P x) : ∀ x ∈ ys.toList, P x := fun x hx => h x ((Array.perm_iff_toList_perm.mp a.perm).mem_iff.mp hx)
theorem loc_bubble {xs : Array Keyed} {src d : Nat} (hs : src < xs.size) (hd : d ≤ src) : Loc xs (bubble xs src d) (src - d) (src + 1) := ⟨bubble_size _ _ _, bubble_perm _ _ _, fun t ht => by
  rw [getElem?_bubble hs d hd t]
  by_cases h1 : t = src - d
  · omega
  · rw [if_neg h1, if_neg (by omega)]⟩
theorem loc_mirror {xs : Array Keyed} {i j : Nat} (hj : j ≤ xs.size) : Loc xs (mirror xs i j ((j - i) / 2)) i j := ⟨mirror_size _ _ _ _, mirror_perm _ _ _ _, fun t ht => by
  rw [getElem?_mirror_all hj t, if_neg (by omega)]⟩
def Asc (lt : Keyed → Keyed → Bool) (xs : Array Keyed) (lo n : Nat) : Prop := ∀ p q, p < q → q < n → lt (kas_item xs (lo + q)) (kas_item xs (lo + p)) = false
def Su (st st' : SortSt) : Prop := kindOf st' = kindOf st ∧ pendingOf st' = pendingOf st ∧ failedOf st' = failedOf st
theorem Su.refl (st : SortSt) : Su st st := ⟨rfl, rfl, rfl⟩
theorem Su.trans {a b c : SortSt} (h : Su a b) (g : Su b c) : Su a c := ⟨g.1.trans h.1, g.2.1.trans h.2.1, g.2.2.trans h.2.2⟩
theorem ins_asc (T : Tot P lt) {xs : Array Keyed} {lo k l : Nat} (hp : ∀ x ∈ xs.toList, P x) (hz : lo + k < xs.size) (hl : l ≤ k) (hs : Asc lt xs lo k) (h1 : ∀ t, t < l → lt (kas_item xs (lo + k)) (kas_item xs (lo + t)) = false) (h2 : ∀ t, l ≤ t → t < k → lt (kas_item xs (lo + k)) (kas_item xs (lo + t)) = true) :
    Asc lt (bubble xs (lo + k) (lo + k - (lo + l))) lo (k + 1) := by
  have pm : ∀ t, t ≤ k → P (kas_item xs (lo + t)) := fun t ht => hp _ (item_mem (by omega))
  intro p q hpq hq
  rw [item_bubble hz (by omega), item_bubble hz (by omega)]
  by_cases q1 : q = l
  · rw [if_pos (by omega), if_neg (by omega), if_neg (by omega)]
    exact h1 p (by omega)
  · rw [if_neg (show ¬ lo + q = lo + k - (lo + k - (lo + l)) by omega)]
    by_cases q2 : l < q
    · rw [if_pos (show lo + k - (lo + k - (lo + l)) < lo + q ∧ lo + q ≤ lo + k by omega), show lo + q - 1 = lo + (q - 1) by omega]
      by_cases p1 : p = l
      · rw [if_pos (by omega)]
        exact T.asym _ _ (pm k (Nat.le_refl _)) (pm (q - 1) (by omega)) (h2 (q - 1) (by omega) (by omega))
      · rw [if_neg (by omega)]
        by_cases p2 : l < p
        · rw [if_pos (by omega), show lo + p - 1 = lo + (p - 1) by omega]
          exact hs (p - 1) (q - 1) (by omega) (by omega)
        · rw [if_neg (by omega)]
          exact hs p (q - 1) (by omega) (by omega)
    · rw [if_neg (by omega), if_neg (by omega), if_neg (by omega)]
      exact hs p q hpq (by omega)
end
section
variable {prog : Program} {w : World} {A : Around} {E : Value → Shared → Prop} {κ : SortKind} {P : Keyed → Prop} {lt : Keyed → Keyed → Bool}
theorem c_ltAt {s : Shared} (G : Good prog w A E κ P lt s) {i j : Nat} {Q : Option Bool → SortSt → Shared → Prop} {st : SortSt} (hst : kindOf st = κ) (hp : ∀ x ∈ (arrOf st).toList, P x) (hi : i < (arrOf st).size) (hj : j < (arrOf st).size)
    (h : Q (some (lt (kas_item (arrOf st) i) (kas_item (arrOf st) j))) st s) : kasC (model prog w) A E (ltAt' i j) Q st s := by
  rw [ltAt'_eq]
  refine kasC_bind (kasC_get (kasC_bind (c_elem hi (kasC_bind (c_elem hj ?_)))))
  exact G _ _ _ _ (hp _ (item_mem hi)) (hp _ (item_mem hj)) hst h
theorem c_move {k l : Nat} {Q : Unit → SortSt → Shared → Prop} {st : SortSt} {s : Shared} (h : ∀ st', Su st st' → arrOf st' = bubble (arrOf st) k (k - l) → Q () st' s) : kasC (model prog w) A E (moveDown' k l) Q st s := by
  rw [moveDown'_eq]
  exact kasC_modify (h _ ⟨rfl, rfl, rfl⟩ rfl)
theorem c_rev {i j : Nat} {Q : Unit → SortSt → Shared → Prop} {st : SortSt} {s : Shared} (h : ∀ st', Su st st' → arrOf st' = mirror (arrOf st) i j ((j - i) / 2) → Q () st' s) : kasC (model prog w) A E (reverseSlice' i j) Q st s := by
  rw [reverseSlice'_eq]
  exact kasC_modify (h _ ⟨rfl, rfl, rfl⟩ rfl)
theorem binarySort_ {s : Shared} (G : Good prog w A E κ P lt s) (T : Tot P lt) {lo n ok : Nat} {Q : Bool → SortSt → Shared → Prop} {st : SortSt} (hst : kindOf st = κ) (hp : ∀ x ∈ (arrOf st).toList, P x) (hn : lo + n ≤ (arrOf st).size) (hok : ok ≤ n) (h1 : 1 ≤ n) (hs : Asc lt (arrOf st) lo ok)
    (h : ∀ st', Su st st' → Loc (arrOf st) (arrOf st') lo (lo + n) → Asc lt (arrOf st') lo n → Q true st' s) : kasC (model prog w) A E (binarySort' lo n ok) Q st s := by
  refine kasC_bind (c_between (show max ok 1 ≤ n by omega) (fun k r st' s' => s' = s ∧ r = (none, ()) ∧ Su st st' ∧ Loc (arrOf st) (arrOf st') lo (lo + n) ∧ Asc lt (arrOf st') lo k) (fun r st' s' => s' = s ∧ r = (none, ()) ∧ Su st st' ∧ Loc (arrOf st) (arrOf st') lo (lo + n) ∧ Asc lt (arrOf st') lo n)
    ⟨rfl, rfl, Su.refl _, Loc.refl _ _ _, fun p q h1 h2 => hs p q h1 (by omega)⟩ (fun _ _ _ h => h) ?_ ?_)
  · rintro k r st' s' hk1 hk2 ⟨rfl, rfl, S1, L1, A1⟩
    dsimp only
    have hp' := L1.good hp
    have hz : (arrOf st').size = (arrOf st).size := L1.size
    refine kasC_bind (c_rangeR (fun u r st₂ s₂ => st₂ = st' ∧ s₂ = s' ∧ ∃ l r', r = (none, l, r') ∧ l ≤ r' ∧ r' ≤ k ∧ (r' - l) + u ≤ k ∧ (∀ t, t < l → lt (kas_item (arrOf st') (lo + k)) (kas_item (arrOf st') (lo + t)) = false) ∧ ∀ t, r' ≤ t → t < k → lt (kas_item (arrOf st') (lo + k)) (kas_item (arrOf st') (lo + t)) = true)
      (fun r st₂ s₂ => st₂ = st' ∧ s₂ = s' ∧ ∃ l r', r = (none, l, r') ∧ l ≤ k ∧ (∀ t, t < l → lt (kas_item (arrOf st') (lo + k)) (kas_item (arrOf st') (lo + t)) = false) ∧ ∀ t, l ≤ t → t < k → lt (kas_item (arrOf st') (lo + k)) (kas_item (arrOf st') (lo + t)) = true)
      ⟨rfl, rfl, 0, k, rfl, by omega, by omega, by omega, fun t ht => absurd ht (Nat.not_lt_zero _), fun t h1 h2 => by omega⟩ ?_ ?_ ?_)
    · rintro r st₂ s₂ ⟨rfl, rfl, l, r', rfl, g1, g2, g3, g4, g5⟩
      exact ⟨rfl, rfl, l, r', rfl, by omega, g4, fun t h1 h2 => g5 t (by omega) h2⟩
    · rintro u x r st₂ s₂ hu ⟨rfl, rfl, l, r', rfl, g1, g2, g3, g4, g5⟩
      dsimp only
      by_cases c : l ≥ r'
      · rw [if_pos c]
        exact kasC_pure ⟨rfl, rfl, l, r', rfl, by omega, g4, fun t h1 h2 => g5 t (by omega) h2⟩
      rw [if_neg c]
      refine kasC_bind (c_ltAt G (S1.1.trans hst) hp' (by omega) (by omega) ?_)
      dsimp only
      have pm : ∀ t, t ≤ k → P (kas_item (arrOf st₂) (lo + t)) := fun t ht => hp' _ (item_mem (by omega))
      cases hl : lt (kas_item (arrOf st₂) (lo + k)) (kas_item (arrOf st₂) (lo + (l + r') / 2)) with
      | true =>
        rw [if_pos rfl]
        refine kasC_pure ⟨rfl, rfl, _, _, rfl, by omega, by omega, by omega, g4, fun t h1 h2 => ?_⟩
        by_cases e : t = (l + r') / 2
        · rw [e]; exact hl
        · cases c2 : lt (kas_item (arrOf st₂) (lo + k)) (kas_item (arrOf st₂) (lo + t)) with
          | true => rfl
          | false =>
            have z := T.trans _ _ _ (pm ((l + r') / 2) (by omega)) (pm t (by omega)) (pm k (Nat.le_refl _)) (A1 _ _ (by omega) h2) c2
            rw [hl] at z
            cases z
      | false =>
        rw [if_neg Bool.false_ne_true]
        refine kasC_pure ⟨rfl, rfl, _, _, rfl, by omega, by omega, by omega, fun t ht => ?_, g5⟩
        by_cases e : t = (l + r') / 2
        · rw [e]; exact hl
        · exact T.trans _ _ _ (pm t (by omega)) (pm ((l + r') / 2) (by omega)) (pm k (Nat.le_refl _)) (A1 _ _ (by omega) (by omega)) hl
    · rintro r st₂ s₂ ⟨rfl, rfl, l, r', rfl, g1, g4, g5⟩
      dsimp only
      refine kasC_bind (c_move fun st₃ S3 e3 => kasC_pure ⟨rfl, rfl, S1.trans S3, ?_, ?_⟩)
      · rw [e3]
        exact L1.trans ((loc_bubble (by omega) (by omega)).wide (by omega) (by omega))
      · rw [e3]
        exact ins_asc T hp' (by omega) g1 A1 g4 g5
  · rintro r st' s' ⟨rfl, rfl, S1, L1, A1⟩
    exact kasC_pure (h _ S1 L1 A1)
end
end TS
namespace TS
open PySem PySem.W PyProof.Rows
section
variable {P : Keyed → Prop} {lt : Keyed → Keyed → Bool}
def Desc (lt : Keyed → Keyed → Bool) (xs : Array Keyed) (lo n : Nat) : Prop := ∀ p q, p < q → q < n → lt (kas_item xs (lo + p)) (kas_item xs (lo + q)) = false
def EqT (lt : Keyed → Keyed → Bool) (xs : Array Keyed) (lo i m : Nat) : Prop := ∀ p q, i ≤ p → p < m → i ≤ q → q < m → lt (kas_item xs (lo + p)) (kas_item xs (lo + q)) = false
theorem desc_snoc (T : Tot P lt) {xs : Array Keyed} {lo m : Nat} (hp : ∀ x ∈ xs.toList, P x) (hz : lo + m < xs.size) (h : Desc lt xs lo m) (h1 : 0 < m → lt (kas_item xs (lo + m - 1)) (kas_item xs (lo + m)) = false) : Desc lt xs lo (m + 1) := by
  have pm : ∀ t, t ≤ m → P (kas_item xs (lo + t)) := fun t ht => hp _ (item_mem (by omega))
  intro p q hpq hq
  by_cases e : q = m
  · have z := h1 (by omega)
    rw [show lo + m - 1 = lo + (m - 1) by omega] at z
    rw [e]
    by_cases e2 : p = m - 1
    · rw [e2]; exact z
    · exact T.trans _ _ _ (pm m (Nat.le_refl _)) (pm (m - 1) (by omega)) (pm p (by omega)) z (h p (m - 1) (by omega) (by omega))
  · exact h p q hpq (by omega)
theorem asc_snoc (T : Tot P lt) {xs : Array Keyed} {lo m : Nat} (hp : ∀ x ∈ xs.toList, P x) (hz : lo + m < xs.size) (h : Asc lt xs lo m) (h1 : 0 < m → lt (kas_item xs (lo + m)) (kas_item xs (lo + m - 1)) = false) : Asc lt xs lo (m + 1) := by
  have pm : ∀ t, t ≤ m → P (kas_item xs (lo + t)) := fun t ht => hp _ (item_mem (by omega))
  intro p q hpq hq
  by_cases e : q = m
  · have z := h1 (by omega)
    rw [show lo + m - 1 = lo + (m - 1) by omega] at z
    rw [e]
    by_cases e2 : p = m - 1
    · rw [e2]; exact z
    · exact T.trans _ _ _ (pm p (by omega)) (pm (m - 1) (by omega)) (pm m (Nat.le_refl _)) (h p (m - 1) (by omega) (by omega)) z
  · exact h p q hpq (by omega)
theorem it_mirror {xs : Array Keyed} {lo i m t : Nat} (hz : lo + m ≤ xs.size) (ht : t < m) : kas_item (mirror xs (lo + i) (lo + m) ((lo + m - (lo + i)) / 2)) (lo + t) = if i ≤ t then kas_item xs (lo + (i + m - 1 - t)) else kas_item xs (lo + t) := by
  rw [item_mirror hz]
  by_cases c : i ≤ t
  · rw [if_pos (by omega), if_pos c, show lo + i + (lo + m) - 1 - (lo + t) = lo + (i + m - 1 - t) by omega]
  · rw [if_neg (by omega), if_neg c]
theorem desc_mirror {xs : Array Keyed} {lo i m : Nat} (hz : lo + m ≤ xs.size) (h : Desc lt xs lo m) (he : EqT lt xs lo i m) : Desc lt (mirror xs (lo + i) (lo + m) ((lo + m - (lo + i)) / 2)) lo m := by
  intro p q hpq hq
  rw [it_mirror hz (by omega), it_mirror hz hq]
  by_cases c1 : i ≤ p
  · rw [if_pos c1, if_pos (by omega)]
    exact he _ _ (by omega) (by omega) (by omega) (by omega)
  · rw [if_neg c1]
    by_cases c2 : i ≤ q
    · rw [if_pos c2]
      exact h _ _ (by omega) (by omega)
    · rw [if_neg c2]
      exact h p q hpq hq
theorem asc_mirror {xs : Array Keyed} {lo m : Nat} (hz : lo + m ≤ xs.size) (h : Desc lt xs lo m) : Asc lt (mirror xs lo (lo + m) ((lo + m - lo) / 2)) lo m := by
  have e : mirror xs lo (lo + m) ((lo + m - lo) / 2) = mirror xs (lo + 0) (lo + m) ((lo + m - (lo + 0)) / 2) := rfl
  rw [e]
  intro p q hpq hq
  rw [it_mirror hz hq, it_mirror hz (by omega), if_pos (Nat.zero_le _), if_pos (Nat.zero_le _)]
  exact h _ _ (by omega) (by omega)
end
section
variable {prog : Program} {w : World} {A : Around} {E : Value → Shared → Prop} {κ : SortKind} {P : Keyed → Prop} {lt : Keyed → Keyed → Bool}
theorem countRun_ {s : Shared} (G : Good prog w A E κ P lt s) (T : Tot P lt) {lo nrem : Nat} {Q : Option Nat → SortSt → Shared → Prop} {st : SortSt} (hst : kindOf st = κ) (hp : ∀ x ∈ (arrOf st).toList, P x) (hn : lo + nrem ≤ (arrOf st).size) (h1 : 1 ≤ nrem)
    (h : ∀ n st', 1 ≤ n → n ≤ nrem → Su st st' → Loc (arrOf st) (arrOf st') lo (lo + nrem) → Asc lt (arrOf st') lo n → Q (some n) st' s) : kasC (model prog w) A E (countRun' lo nrem) Q st s := by
  have irr : ∀ x, P x → lt x x = false := fun x hx => by
    cases c : lt x x with
    | false => rfl
    | true => exact c.symm.trans (T.asym x x hx hx c)
  refine kasC_bind (c_between (show 1 ≤ nrem by omega) (fun k r st₉ s₉ => st₉ = st ∧ s₉ = s ∧ r = (none, k) ∧ Asc lt (arrOf st) lo k) (fun r st₉ s₉ => st₉ = st ∧ s₉ = s ∧ ∃ k, r = (none, k) ∧ 1 ≤ k ∧ k ≤ nrem ∧ Asc lt (arrOf st) lo k ∧ (k = nrem ∨ lt (kas_item (arrOf st) (lo + k)) (kas_item (arrOf st) (lo + k - 1)) = true))
    ⟨rfl, rfl, rfl, fun p q a b => absurd b (by omega)⟩ (fun r st₉ s₉ ⟨e1, e2, e3, e4⟩ => ⟨e1, e2, nrem, e3, by omega, Nat.le_refl _, e4, .inl rfl⟩) ?_ ?_)
  · rintro k r st₉ s₉ hk1 hk2 ⟨rfl, rfl, rfl, A9⟩
    dsimp only
    refine kasC_bind (c_ltAt G hst hp (by omega) (by omega) ?_)
    dsimp only
    cases hl : lt (kas_item (arrOf st₉) (lo + k)) (kas_item (arrOf st₉) (lo + k - 1)) with
    | true =>
      rw [if_pos rfl]
      exact kasC_pure ⟨rfl, rfl, k, rfl, hk1, by omega, A9, .inr hl⟩
    | false =>
      rw [if_neg Bool.false_ne_true]
      exact kasC_pure ⟨rfl, rfl, rfl, asc_snoc T hp (by omega) A9 fun _ => hl⟩
  · rintro r st₁ s₁ ⟨rfl, rfl, n, rfl, g1, g2, A1, hbr⟩
    dsimp only
    by_cases c1 : n = nrem
    · rw [if_pos (by simp [c1])]
      exact kasC_pure (h n _ g1 g2 (Su.refl _) (Loc.refl _ _ _) A1)
    rw [if_neg (by simpa using c1)]
    have hbr' : lt (kas_item (arrOf st₁) (lo + n)) (kas_item (arrOf st₁) (lo + n - 1)) = true := by
      rcases hbr with z | z
      · exact absurd z c1
      · exact z
    have pm1 : ∀ t, t ≤ n → P (kas_item (arrOf st₁) (lo + t)) := fun t ht => hp _ (item_mem (by omega))
    rw [show lo + n - 1 = lo + (n - 1) by omega] at hbr'
    have hge1 := T.asym _ _ (pm1 n (Nat.le_refl _)) (pm1 (n - 1) (by omega)) hbr'
    by_cases c2 : n > 1
    · rw [if_pos c2]
      refine kasC_bind (c_ltAt G hst hp (by omega) (by omega) ?_)
      dsimp only
      cases hl0 : lt (kas_item (arrOf st₁) lo) (kas_item (arrOf st₁) (lo + n - 1)) with
      | true =>
        rw [if_pos rfl]
        exact kasC_pure (h n _ g1 g2 (Su.refl _) (Loc.refl _ _ _) A1)
      | false =>
        rw [if_neg Bool.false_ne_true]
        rw [show lo + n - 1 = lo + (n - 1) by omega] at hl0
        have hl0' : lt (kas_item (arrOf st₁) (lo + 0)) (kas_item (arrOf st₁) (lo + (n - 1))) = false := hl0
        have E1 : EqT lt (arrOf st₁) lo 0 n := fun p q _ hp1 _ hq1 => by
          have z1 : lt (kas_item (arrOf st₁) (lo + (n - 1))) (kas_item (arrOf st₁) (lo + q)) = false := by
            by_cases e : q = n - 1
            · rw [e]; exact irr _ (pm1 (n - 1) (by omega))
            · exact A1 _ _ (by omega) (by omega)
          have z2 : lt (kas_item (arrOf st₁) (lo + p)) (kas_item (arrOf st₁) (lo + 0)) = false := by
            by_cases e : p = 0
            · rw [e]; exact irr _ (pm1 0 (by omega))
            · exact A1 _ _ (by omega) (by omega)
          have z3 := T.trans _ _ _ (pm1 q (by omega)) (pm1 (n - 1) (by omega)) (pm1 0 (by omega)) z1 hl0'
          exact T.trans _ _ _ (pm1 q (by omega)) (pm1 0 (by omega)) (pm1 p (by omega)) z3 z2
        refine kasC_bind (c_rev fun st₂ S2 e2 => ?_)
        have L2 : Loc (arrOf st₁) (arrOf st₂) lo (lo + nrem) := by
          rw [e2]
          exact (loc_mirror (by omega)).wide (Nat.le_refl _) (by omega)
        have D2 : Desc lt (arrOf st₂) lo (n + 1) := by
          have D1 := desc_mirror (i := 0) (show lo + n ≤ (arrOf st₁).size by omega) (fun p q a b => E1 p q (Nat.zero_le _) (by omega) (Nat.zero_le _) b) E1
          have hp2 := (loc_mirror (xs := arrOf st₁) (i := lo) (j := lo + n) (by omega)).good hp
          have z1 : kas_item (mirror (arrOf st₁) lo (lo + n) ((lo + n - lo) / 2)) (lo + n) = kas_item (arrOf st₁) (lo + n) := by
            rw [item_mirror (by omega), if_neg (by omega)]
          rw [e2]
          refine desc_snoc T hp2 (by rw [mirror_size]; omega) D1 fun _ => ?_
          have z2 := it_mirror (xs := arrOf st₁) (lo := lo) (i := 0) (m := n) (t := n - 1) (by omega) (by omega)
          rw [if_pos (Nat.zero_le _)] at z2
          rw [show lo + n - 1 = lo + (n - 1) by omega, z1]
          have z3 : kas_item (mirror (arrOf st₁) lo (lo + n) ((lo + n - lo) / 2)) (lo + (n - 1)) = kas_item (arrOf st₁) (lo + (0 + n - 1 - (n - 1))) := z2
          rw [z3]
          exact T.trans _ _ _ (pm1 n (Nat.le_refl _)) (pm1 (n - 1) (by omega)) (pm1 _ (by omega)) hge1 (E1 _ _ (Nat.zero_le _) (by omega) (Nat.zero_le _) (by omega))
        refine kasC_bind (kasC_lift (wpAny_rule ?_))
        refine kasC_bind (c_between (show n + 1 ≤ nrem by omega) (fun k r st₄ s₄ => s₄ = s₁ ∧ Su st₁ st₄ ∧ Loc (arrOf st₁) (arrOf st₄) lo (lo + nrem) ∧ ∃ q, r = (none, k, q) ∧ q + 1 ≤ k ∧ Desc lt (arrOf st₄) lo k ∧ EqT lt (arrOf st₄) lo (k - (q + 1)) k)
          (fun r st₄ s₄ => s₄ = s₁ ∧ Su st₁ st₄ ∧ Loc (arrOf st₁) (arrOf st₄) lo (lo + nrem) ∧ ∃ m q, r = (none, m, q) ∧ q + 1 ≤ m ∧ m ≤ nrem ∧ Desc lt (arrOf st₄) lo m ∧ EqT lt (arrOf st₄) lo (m - (q + 1)) m)
          ⟨rfl, S2, L2, 0, rfl, by omega, D2, fun p q h1 h2 h3 h4 => by
            have ep : p = n := by omega
            have eq' : q = n := by omega
            rw [ep, eq']
            exact irr _ (L2.good hp _ (item_mem (by have := L2.size; omega)))⟩ (fun r st₄ s₄ ⟨e1, e2, e3, q, e4, e5, e6, e7⟩ => ⟨e1, e2, e3, nrem, q, e4, e5, Nat.le_refl _, e6, e7⟩) ?_ ?_)
        · rintro k r st₄ s₄ hk1 hk2 ⟨rfl, S4, L4, q, rfl, hq, D4, E4⟩
          dsimp only
          have hz4 := L4.size
          have hp4 := L4.good hp
          have hk4 : kindOf st₄ = κ := S4.1.trans hst
          have pm : ∀ t, t ≤ k → P (kas_item (arrOf st₄) (lo + t)) := fun t ht => hp4 _ (item_mem (by omega))
          refine kasC_bind (c_ltAt G hk4 hp4 (by omega) (by omega) ?_)
          dsimp only
          cases hl : lt (kas_item (arrOf st₄) (lo + k)) (kas_item (arrOf st₄) (lo + k - 1)) with
          | true =>
            rw [if_pos rfl]
            rw [show lo + k - 1 = lo + (k - 1) by omega] at hl
            have hge := T.asym _ _ (pm k (Nat.le_refl _)) (pm (k - 1) (by omega)) hl
            by_cases hq0 : q > 0
            · rw [if_pos hq0]
              refine kasC_bind (c_rev fun st₅ S5 e5 => kasC_pure ⟨rfl, S4.trans S5, ?_, 0, rfl, by omega, ?_, fun p q' h1 h2 h3 h4 => ?_⟩)
              · rw [e5]
                exact L4.trans ((loc_mirror (by omega)).wide (by omega) (by omega))
              · rw [e5, show lo + k - (q + 1) = lo + (k - (q + 1)) by omega]
                have D5 := desc_mirror (by omega) D4 E4
                have hp5 := (loc_mirror (xs := arrOf st₄) (i := lo + (k - (q + 1))) (j := lo + k) (by omega)).good hp4
                have z1 : kas_item (mirror (arrOf st₄) (lo + (k - (q + 1))) (lo + k) ((lo + k - (lo + (k - (q + 1)))) / 2)) (lo + k) = kas_item (arrOf st₄) (lo + k) := by
                  rw [item_mirror (by omega), if_neg (by omega)]
                refine desc_snoc T hp5 (by rw [mirror_size]; omega) D5 fun _ => ?_
                rw [show lo + k - 1 = lo + (k - 1) by omega, z1, it_mirror (by omega) (by omega), if_pos (by omega)]
                exact T.trans _ _ _ (pm k (Nat.le_refl _)) (pm (k - 1) (by omega)) (pm _ (by omega)) hge (E4 _ _ (by omega) (by omega) (by omega) (by omega))
              · have ep : p = k := by omega
                have eq' : q' = k := by omega
                rw [ep, eq']
                refine irr _ ?_
                have L5 : Loc (arrOf st₄) (arrOf st₅) (lo + k - (q + 1)) (lo + k) := by
                  rw [e5]
                  exact loc_mirror (by omega)
                exact L5.good hp4 _ (item_mem (by have := L5.size; omega))
            · rw [if_neg hq0]
              refine kasC_pure ⟨rfl, S4, L4, 0, rfl, by omega, desc_snoc T hp4 (by omega) D4 fun _ => ?_, fun p q' h1 h2 h3 h4 => ?_⟩
              · rw [show lo + k - 1 = lo + (k - 1) by omega]
                exact hge
              · have ep : p = k := by omega
                have eq' : q' = k := by omega
                rw [ep, eq']
                exact irr _ (pm k (Nat.le_refl _))
          | false =>
            rw [if_neg Bool.false_ne_true]
            refine kasC_bind (c_ltAt G hk4 hp4 (by omega) (by omega) ?_)
            dsimp only
            cases hl2 : lt (kas_item (arrOf st₄) (lo + k - 1)) (kas_item (arrOf st₄) (lo + k)) with
            | true =>
              rw [if_pos rfl]
              exact kasC_pure ⟨rfl, S4, L4, k, q, rfl, hq, by omega, D4, E4⟩
            | false =>
              rw [if_neg Bool.false_ne_true]
              refine kasC_pure ⟨rfl, S4, L4, q + 1, rfl, by omega, desc_snoc T hp4 (by omega) D4 fun _ => hl2, fun p q' h1 h2 h3 h4 => ?_⟩
              rw [show lo + k - 1 = lo + (k - 1) by omega] at hl hl2
              by_cases ep : p = k
              · by_cases eq' : q' = k
                · rw [ep, eq']
                  exact irr _ (pm k (Nat.le_refl _))
                · rw [ep]
                  exact T.trans _ _ _ (pm q' (by omega)) (pm (k - 1) (by omega)) (pm k (Nat.le_refl _)) (E4 _ _ (by omega) (by omega) (by omega) (by omega)) hl
              · by_cases eq' : q' = k
                · rw [eq']
                  exact T.trans _ _ _ (pm k (Nat.le_refl _)) (pm (k - 1) (by omega)) (pm p (by omega)) hl2 (E4 _ _ (by omega) (by omega) (by omega) (by omega))
                · exact E4 _ _ (by omega) (by omega) (by omega) (by omega)
        · rintro r st₄ s₄ ⟨rfl, S4, L4, m, q, rfl, hq, hm, D4, E4⟩
          dsimp only
          have hz4 := L4.size
          have hp4 := L4.good hp
          by_cases hq0 : q > 0
          · rw [if_pos hq0]
            refine kasC_bind (c_rev fun st₅ S5 e5 => ?_)
            have L5 : Loc (arrOf st₁) (arrOf st₅) lo (lo + nrem) := by
              rw [e5]
              exact L4.trans ((loc_mirror (by omega)).wide (by omega) (by omega))
            have D5 : Desc lt (arrOf st₅) lo m := by
              rw [e5, show lo + m - (q + 1) = lo + (m - (q + 1)) by omega]
              exact desc_mirror (by omega) D4 E4
            have hz5 := L5.size
            refine kasC_bind (c_rev fun st₆ S6 e6 => ?_)
            have L6 : Loc (arrOf st₁) (arrOf st₆) lo (lo + nrem) := by
              rw [e6]
              exact L5.trans ((loc_mirror (by omega)).wide (Nat.le_refl _) (by omega))
            have A6 : Asc lt (arrOf st₆) lo m := by
              rw [e6]
              exact asc_mirror (by omega) D5
            have hz6 := L6.size
            have hp6 := L6.good hp
            have hk6 : kindOf st₆ = κ := ((S4.trans S5).trans S6).1.trans hst
            refine kasC_bind (c_between (show m ≤ nrem by omega) (fun k r st₉ s₉ => st₉ = st₆ ∧ s₉ = s₄ ∧ r = (none, k) ∧ Asc lt (arrOf st₆) lo k) (fun r st₉ s₉ => st₉ = st₆ ∧ s₉ = s₄ ∧ ∃ k, r = (none, k) ∧ m ≤ k ∧ k ≤ nrem ∧ Asc lt (arrOf st₆) lo k ∧ (k = nrem ∨ lt (kas_item (arrOf st₆) (lo + k)) (kas_item (arrOf st₆) (lo + k - 1)) = true))
              ⟨rfl, rfl, rfl, A6⟩ (fun r st₉ s₉ ⟨e1, e2, e3, e4⟩ => ⟨e1, e2, nrem, e3, by omega, Nat.le_refl _, e4, .inl rfl⟩) ?_ ?_)
            · rintro k r st₉ s₉ hk1 hk2 ⟨rfl, rfl, rfl, A9⟩
              dsimp only
              refine kasC_bind (c_ltAt G hk6 hp6 (by omega) (by omega) ?_)
              dsimp only
              cases hl : lt (kas_item (arrOf st₉) (lo + k)) (kas_item (arrOf st₉) (lo + k - 1)) with
              | true =>
                rw [if_pos rfl]
                exact kasC_pure ⟨rfl, rfl, k, rfl, hk1, by omega, A9, .inr hl⟩
              | false =>
                rw [if_neg Bool.false_ne_true]
                exact kasC_pure ⟨rfl, rfl, rfl, asc_snoc T hp6 (by omega) A9 fun _ => hl⟩
            · rintro r st₇ s₇ ⟨rfl, rfl, k, rfl, g1, g2, g3, _⟩
              exact kasC_pure (h k _ (by omega) g2 ((S4.trans S5).trans S6) L6 g3)
          · rw [if_neg hq0]
            refine kasC_bind (c_rev fun st₆ S6 e6 => ?_)
            have L6 : Loc (arrOf st₁) (arrOf st₆) lo (lo + nrem) := by
              rw [e6]
              exact L4.trans ((loc_mirror (by omega)).wide (Nat.le_refl _) (by omega))
            have A6 : Asc lt (arrOf st₆) lo m := by
              rw [e6]
              exact asc_mirror (by omega) D4
            have hz6 := L6.size
            have hp6 := L6.good hp
            have hk6 : kindOf st₆ = κ := (S4.trans S6).1.trans hst
            refine kasC_bind (c_between (show m ≤ nrem by omega) (fun k r st₉ s₉ => st₉ = st₆ ∧ s₉ = s₄ ∧ r = (none, k) ∧ Asc lt (arrOf st₆) lo k) (fun r st₉ s₉ => st₉ = st₆ ∧ s₉ = s₄ ∧ ∃ k, r = (none, k) ∧ m ≤ k ∧ k ≤ nrem ∧ Asc lt (arrOf st₆) lo k ∧ (k = nrem ∨ lt (kas_item (arrOf st₆) (lo + k)) (kas_item (arrOf st₆) (lo + k - 1)) = true))
              ⟨rfl, rfl, rfl, A6⟩ (fun r st₉ s₉ ⟨e1, e2, e3, e4⟩ => ⟨e1, e2, nrem, e3, by omega, Nat.le_refl _, e4, .inl rfl⟩) ?_ ?_)
            · rintro k r st₉ s₉ hk1 hk2 ⟨rfl, rfl, rfl, A9⟩
              dsimp only
              refine kasC_bind (c_ltAt G hk6 hp6 (by omega) (by omega) ?_)
              dsimp only
              cases hl : lt (kas_item (arrOf st₉) (lo + k)) (kas_item (arrOf st₉) (lo + k - 1)) with
              | true =>
                rw [if_pos rfl]
                exact kasC_pure ⟨rfl, rfl, k, rfl, hk1, by omega, A9, .inr hl⟩
              | false =>
                rw [if_neg Bool.false_ne_true]
                exact kasC_pure ⟨rfl, rfl, rfl, asc_snoc T hp6 (by omega) A9 fun _ => hl⟩
            · rintro r st₇ s₇ ⟨rfl, rfl, k, rfl, g1, g2, g3, _⟩
              exact kasC_pure (h k _ (by omega) g2 (S4.trans S6) L6 g3)
    · rw [if_neg c2]
      have en : n = 1 := by omega
      have D2 : Desc lt (arrOf st₁) lo (n + 1) := by
        refine desc_snoc T hp (by omega) (fun p q a b => absurd b (by omega)) fun _ => ?_
        rw [show lo + n - 1 = lo + (n - 1) by omega]
        exact hge1
      have S2 := Su.refl st₁
      have L2 := Loc.refl (arrOf st₁) lo (lo + nrem)
      refine kasC_bind (kasC_lift (wpAny_rule ?_))
      refine kasC_bind (c_between (show n + 1 ≤ nrem by omega) (fun k r st₄ s₄ => s₄ = s₁ ∧ Su st₁ st₄ ∧ Loc (arrOf st₁) (arrOf st₄) lo (lo + nrem) ∧ ∃ q, r = (none, k, q) ∧ q + 1 ≤ k ∧ Desc lt (arrOf st₄) lo k ∧ EqT lt (arrOf st₄) lo (k - (q + 1)) k)
        (fun r st₄ s₄ => s₄ = s₁ ∧ Su st₁ st₄ ∧ Loc (arrOf st₁) (arrOf st₄) lo (lo + nrem) ∧ ∃ m q, r = (none, m, q) ∧ q + 1 ≤ m ∧ m ≤ nrem ∧ Desc lt (arrOf st₄) lo m ∧ EqT lt (arrOf st₄) lo (m - (q + 1)) m)
        ⟨rfl, S2, L2, 0, rfl, by omega, D2, fun p q h1 h2 h3 h4 => by
          have ep : p = n := by omega
          have eq' : q = n := by omega
          rw [ep, eq']
          exact irr _ (L2.good hp _ (item_mem (by have := L2.size; omega)))⟩ (fun r st₄ s₄ ⟨e1, e2, e3, q, e4, e5, e6, e7⟩ => ⟨e1, e2, e3, nrem, q, e4, e5, Nat.le_refl _, e6, e7⟩) ?_ ?_)
      · rintro k r st₄ s₄ hk1 hk2 ⟨rfl, S4, L4, q, rfl, hq, D4, E4⟩
        dsimp only
        have hz4 := L4.size
        have hp4 := L4.good hp
        have hk4 : kindOf st₄ = κ := S4.1.trans hst
        have pm : ∀ t, t ≤ k → P (kas_item (arrOf st₄) (lo + t)) := fun t ht => hp4 _ (item_mem (by omega))
        refine kasC_bind (c_ltAt G hk4 hp4 (by omega) (by omega) ?_)
        dsimp only
        cases hl : lt (kas_item (arrOf st₄) (lo + k)) (kas_item (arrOf st₄) (lo + k - 1)) with
        | true =>
          rw [if_pos rfl]
          rw [show lo + k - 1 = lo + (k - 1) by omega] at hl
          have hge := T.asym _ _ (pm k (Nat.le_refl _)) (pm (k - 1) (by omega)) hl
          by_cases hq0 : q > 0
          · rw [if_pos hq0]
            refine kasC_bind (c_rev fun st₅ S5 e5 => kasC_pure ⟨rfl, S4.trans S5, ?_, 0, rfl, by omega, ?_, fun p q' h1 h2 h3 h4 => ?_⟩)
            · rw [e5]
              exact L4.trans ((loc_mirror (by omega)).wide (by omega) (by omega))
            · rw [e5, show lo + k - (q + 1) = lo + (k - (q + 1)) by omega]
              have D5 := desc_mirror (by omega) D4 E4
              have hp5 := (loc_mirror (xs := arrOf st₄) (i := lo + (k - (q + 1))) (j := lo + k) (by omega)).good hp4
              have z1 : kas_item (mirror (arrOf st₄) (lo + (k - (q + 1))) (lo + k) ((lo + k - (lo + (k - (q + 1)))) / 2)) (lo + k) = kas_item (arrOf st₄) (lo + k) := by
                rw [item_mirror (by omega), if_neg (by omega)]
              refine desc_snoc T hp5 (by rw [mirror_size]; omega) D5 fun _ => ?_
              rw [show lo + k - 1 = lo + (k - 1) by omega, z1, it_mirror (by omega) (by omega), if_pos (by omega)]
              exact T.trans _ _ _ (pm k (Nat.le_refl _)) (pm (k - 1) (by omega)) (pm _ (by omega)) hge (E4 _ _ (by omega) (by omega) (by omega) (by omega))
            · have ep : p = k := by omega
              have eq' : q' = k := by omega
              rw [ep, eq']
              refine irr _ ?_
              have L5 : Loc (arrOf st₄) (arrOf st₅) (lo + k - (q + 1)) (lo + k) := by
                rw [e5]
                exact loc_mirror (by omega)
              exact L5.good hp4 _ (item_mem (by have := L5.size; omega))
          · rw [if_neg hq0]
            refine kasC_pure ⟨rfl, S4, L4, 0, rfl, by omega, desc_snoc T hp4 (by omega) D4 fun _ => ?_, fun p q' h1 h2 h3 h4 => ?_⟩
            · rw [show lo + k - 1 = lo + (k - 1) by omega]
              exact hge
            · have ep : p = k := by omega
              have eq' : q' = k := by omega
              rw [ep, eq']
              exact irr _ (pm k (Nat.le_refl _))
        | false =>
          rw [if_neg Bool.false_ne_true]
          refine kasC_bind (c_ltAt G hk4 hp4 (by omega) (by omega) ?_)
          dsimp only
          cases hl2 : lt (kas_item (arrOf st₄) (lo + k - 1)) (kas_item (arrOf st₄) (lo + k)) with
          | true =>
            rw [if_pos rfl]
            exact kasC_pure ⟨rfl, S4, L4, k, q, rfl, hq, by omega, D4, E4⟩
          | false =>
            rw [if_neg Bool.false_ne_true]
            refine kasC_pure ⟨rfl, S4, L4, q + 1, rfl, by omega, desc_snoc T hp4 (by omega) D4 fun _ => hl2, fun p q' h1 h2 h3 h4 => ?_⟩
            rw [show lo + k - 1 = lo + (k - 1) by omega] at hl hl2
            by_cases ep : p = k
            · by_cases eq' : q' = k
              · rw [ep, eq']
                exact irr _ (pm k (Nat.le_refl _))
              · rw [ep]
                exact T.trans _ _ _ (pm q' (by omega)) (pm (k - 1) (by omega)) (pm k (Nat.le_refl _)) (E4 _ _ (by omega) (by omega) (by omega) (by omega)) hl
            · by_cases eq' : q' = k
              · rw [eq']
                exact T.trans _ _ _ (pm k (Nat.le_refl _)) (pm (k - 1) (by omega)) (pm p (by omega)) hl2 (E4 _ _ (by omega) (by omega) (by omega) (by omega))
              · exact E4 _ _ (by omega) (by omega) (by omega) (by omega)
      · rintro r st₄ s₄ ⟨rfl, S4, L4, m, q, rfl, hq, hm, D4, E4⟩
        dsimp only
        have hz4 := L4.size
        have hp4 := L4.good hp
        by_cases hq0 : q > 0
        · rw [if_pos hq0]
          refine kasC_bind (c_rev fun st₅ S5 e5 => ?_)
          have L5 : Loc (arrOf st₁) (arrOf st₅) lo (lo + nrem) := by
            rw [e5]
            exact L4.trans ((loc_mirror (by omega)).wide (by omega) (by omega))
          have D5 : Desc lt (arrOf st₅) lo m := by
            rw [e5, show lo + m - (q + 1) = lo + (m - (q + 1)) by omega]
            exact desc_mirror (by omega) D4 E4
          have hz5 := L5.size
          refine kasC_bind (c_rev fun st₆ S6 e6 => ?_)
          have L6 : Loc (arrOf st₁) (arrOf st₆) lo (lo + nrem) := by
            rw [e6]
            exact L5.trans ((loc_mirror (by omega)).wide (Nat.le_refl _) (by omega))
          have A6 : Asc lt (arrOf st₆) lo m := by
            rw [e6]
            exact asc_mirror (by omega) D5
          have hz6 := L6.size
          have hp6 := L6.good hp
          have hk6 : kindOf st₆ = κ := ((S4.trans S5).trans S6).1.trans hst
          refine kasC_bind (c_between (show m ≤ nrem by omega) (fun k r st₉ s₉ => st₉ = st₆ ∧ s₉ = s₄ ∧ r = (none, k) ∧ Asc lt (arrOf st₆) lo k) (fun r st₉ s₉ => st₉ = st₆ ∧ s₉ = s₄ ∧ ∃ k, r = (none, k) ∧ m ≤ k ∧ k ≤ nrem ∧ Asc lt (arrOf st₆) lo k ∧ (k = nrem ∨ lt (kas_item (arrOf st₆) (lo + k)) (kas_item (arrOf st₆) (lo + k - 1)) = true))
            ⟨rfl, rfl, rfl, A6⟩ (fun r st₉ s₉ ⟨e1, e2, e3, e4⟩ => ⟨e1, e2, nrem, e3, by omega, Nat.le_refl _, e4, .inl rfl⟩) ?_ ?_)
          · rintro k r st₉ s₉ hk1 hk2 ⟨rfl, rfl, rfl, A9⟩
            dsimp only
            refine kasC_bind (c_ltAt G hk6 hp6 (by omega) (by omega) ?_)
            dsimp only
            cases hl : lt (kas_item (arrOf st₉) (lo + k)) (kas_item (arrOf st₉) (lo + k - 1)) with
            | true =>
              rw [if_pos rfl]
              exact kasC_pure ⟨rfl, rfl, k, rfl, hk1, by omega, A9, .inr hl⟩
            | false =>
              rw [if_neg Bool.false_ne_true]
              exact kasC_pure ⟨rfl, rfl, rfl, asc_snoc T hp6 (by omega) A9 fun _ => hl⟩
          · rintro r st₇ s₇ ⟨rfl, rfl, k, rfl, g1, g2, g3, _⟩
            exact kasC_pure (h k _ (by omega) g2 ((S4.trans S5).trans S6) L6 g3)
        · rw [if_neg hq0]
          refine kasC_bind (c_rev fun st₆ S6 e6 => ?_)
          have L6 : Loc (arrOf st₁) (arrOf st₆) lo (lo + nrem) := by
            rw [e6]
            exact L4.trans ((loc_mirror (by omega)).wide (Nat.le_refl _) (by omega))
          have A6 : Asc lt (arrOf st₆) lo m := by
            rw [e6]
            exact asc_mirror (by omega) D4
          have hz6 := L6.size
          have hp6 := L6.good hp
          have hk6 : kindOf st₆ = κ := (S4.trans S6).1.trans hst
          refine kasC_bind (c_between (show m ≤ nrem by omega) (fun k r st₉ s₉ => st₉ = st₆ ∧ s₉ = s₄ ∧ r = (none, k) ∧ Asc lt (arrOf st₆) lo k) (fun r st₉ s₉ => st₉ = st₆ ∧ s₉ = s₄ ∧ ∃ k, r = (none, k) ∧ m ≤ k ∧ k ≤ nrem ∧ Asc lt (arrOf st₆) lo k ∧ (k = nrem ∨ lt (kas_item (arrOf st₆) (lo + k)) (kas_item (arrOf st₆) (lo + k - 1)) = true))
            ⟨rfl, rfl, rfl, A6⟩ (fun r st₉ s₉ ⟨e1, e2, e3, e4⟩ => ⟨e1, e2, nrem, e3, by omega, Nat.le_refl _, e4, .inl rfl⟩) ?_ ?_)
          · rintro k r st₉ s₉ hk1 hk2 ⟨rfl, rfl, rfl, A9⟩
            dsimp only
            refine kasC_bind (c_ltAt G hk6 hp6 (by omega) (by omega) ?_)
            dsimp only
            cases hl : lt (kas_item (arrOf st₉) (lo + k)) (kas_item (arrOf st₉) (lo + k - 1)) with
            | true =>
              rw [if_pos rfl]
              exact kasC_pure ⟨rfl, rfl, k, rfl, hk1, by omega, A9, .inr hl⟩
            | false =>
              rw [if_neg Bool.false_ne_true]
              exact kasC_pure ⟨rfl, rfl, rfl, asc_snoc T hp6 (by omega) A9 fun _ => hl⟩
          · rintro r st₇ s₇ ⟨rfl, rfl, k, rfl, g1, g2, g3, _⟩
            exact kasC_pure (h k _ (by omega) g2 (S4.trans S6) L6 g3)
end
end TS
namespace TS
open PySem PySem.W PyProof.Rows
section
variable {P : Keyed → Prop} {lt : Keyed → Keyed → Bool}
theorem set_list : ∀ (l : List Keyed) (xs : Array Keyed) (b off : Nat), b + off + l.length ≤ xs.size →
    ((l.zipIdx off).foldl (fun a x => a.setIfInBounds (b + x.snd) x.fst) xs).toList = xs.toList.take (b + off) ++ l ++ xs.toList.drop (b + off + l.length)
  | [], xs, b, off, h => by simp
  | x :: l, xs, b, off, h => by
    rw [List.length_cons] at h
    rw [List.zipIdx_cons, List.foldl_cons]
    have ih := set_list l (xs.setIfInBounds (b + off) x) b (off + 1) (by rw [Array.size_setIfInBounds]; omega)
    rw [ih, Array.toList_setIfInBounds]
    have hl : b + off < xs.toList.length := by simp; omega
    have tl : (xs.toList.take (b + off)).length = b + off := by rw [List.length_take]; omega
    have es : xs.toList.set (b + off) x = xs.toList.take (b + off) ++ x :: xs.toList.drop (b + off + 1) := by rw [List.set_eq_take_append_cons_drop, if_pos hl]
    have e1 : (xs.toList.set (b + off) x).take (b + (off + 1)) = xs.toList.take (b + off) ++ [x] := by
      rw [es, List.take_append, tl, List.take_of_length_le (by omega), show b + (off + 1) - (b + off) = 1 by omega]
      rfl
    have e2 : (xs.toList.set (b + off) x).drop (b + (off + 1) + l.length) = xs.toList.drop (b + off + (x :: l).length) := by
      rw [List.drop_set, if_pos (by omega), List.length_cons]
      congr 1
      omega
    rw [e1, e2, List.append_assoc, List.append_assoc, List.append_assoc]
    rfl
theorem item_ext {xs : Array Keyed} {b e t : Nat} (he : e ≤ xs.size) (ht : b + t < e) : kas_item (xs.extract b e) t = kas_item xs (b + t) := by
  refine item_eq ?_
  rw [Array.getElem?_extract, if_pos (by omega)]
theorem ext_size {xs : Array Keyed} {b e : Nat} (he : e ≤ xs.size) : (xs.extract b e).size = e - b := by
  rw [Array.size_extract]
  omega
theorem srt_of {xs : Array Keyed} (h : ∀ p q, p < q → q < xs.size → lt (kas_item xs q) (kas_item xs p) = false) : Srt lt xs.toList := by
  refine List.pairwise_iff_getElem.mpr fun i j hi hj hij => ?_
  have hj' : j < xs.size := by simpa using hj
  have hi' : i < xs.size := by simpa using hi
  have e1 := (List.getElem?_eq_some_iff.mp (item_get hi')).2
  have e2 := (List.getElem?_eq_some_iff.mp (item_get hj')).2
  rw [e1, e2]
  exact h i j hij hj'
theorem mem_item {xs : Array Keyed} {y : Keyed} (h : y ∈ xs.toList) : ∃ t, t < xs.size ∧ y = kas_item xs t := by
  obtain ⟨j, _, h2, h3⟩ := drop_item (i := 0) (a := xs) (by simpa using h)
  exact ⟨j, h2, h3⟩
end
section
variable {prog : Program} {w : World} {A : Around} {E : Value → Shared → Prop} {κ : SortKind} {P : Keyed → Prop} {lt : Keyed → Keyed → Bool}
theorem c_set {st₁ st : SortSt} {Q : PUnit → SortSt → Shared → Prop} {s : Shared} (h : Q ⟨⟩ st₁ s) : kasC (model prog w) A E (set st₁ : M2 PUnit) Q st s := by
  unfold kasC
  rw [StateT.run_set]
  exact wpAny_pure h
theorem mergeAt_ {s : Shared} (G : Good prog w A E κ P lt s) (T : Tot P lt) {i sa na pw sb nb pw2 : Nat} {Q : Bool → SortSt → Shared → Prop} {st : SortSt} (hst : kindOf st = κ) (hf : failedOf st = none) (hp : ∀ x ∈ (arrOf st).toList, P x)
    (h1 : (pendingOf st)[i]? = some (sa, na, pw)) (h2 : (pendingOf st)[i + 1]? = some (sb, nb, pw2)) (hsb : sb = sa + na) (hna : 0 < na) (hnb : 0 < nb) (hz : sb + nb ≤ (arrOf st).size) (A1 : Asc lt (arrOf st) sa na) (A2 : Asc lt (arrOf st) sb nb)
    (h : ∀ st' : SortSt, kindOf st' = κ → failedOf st' = none → pendingOf st' = ((pendingOf st).setIfInBounds i (sa, na + nb, pw)).eraseIdxIfInBounds (i + 1) → Loc (arrOf st) (arrOf st') sa (sb + nb) → Asc lt (arrOf st') sa (na + nb) → Q true st' s) :
    kasC (model prog w) A E (mergeAt' i) Q st s := by
  have irr : ∀ x, P x → lt x x = false := fun x hx => by
    cases c : lt x x with
    | false => rfl
    | true => exact c.symm.trans (T.asym x x hx hx c)
  have p1 : ∀ t, t < na → P (kas_item (arrOf st) (sa + t)) := fun t ht => hp _ (item_mem (by omega))
  have p2 : ∀ t, t < nb → P (kas_item (arrOf st) (sb + t)) := fun t ht => hp _ (item_mem (by omega))
  refine kasC_bind (kasC_get ?_)
  dsimp only
  rw [h1, h2]
  dsimp only
  refine kasC_bind (c_set ?_)
  refine kasC_bind (c_elem (show sb < (arrOf st).size by omega) ?_)
  have pk : P (kas_item (arrOf st) sb) := p2 0 hnb
  obtain ⟨k, hk, hB⟩ : ∃ k, k ≤ na ∧ ∀ t, t < na → (if false = true then lt (kas_item (arrOf st) (sa + t)) (kas_item (arrOf st) sb) else !(lt (kas_item (arrOf st) sb) (kas_item (arrOf st) (sa + t)))) = decide (t < k) := by
    refine bound _ na fun t u htu hu hh => ?_
    rw [if_neg Bool.false_ne_true, Bool.not_eq_true'] at hh ⊢
    by_cases e : t = u
    · rw [e]; exact hh
    · exact T.trans _ _ _ (p1 t (by omega)) (p1 u hu) pk (A1 t u (by omega) hu) hh
  have B1 : ∀ t, t < k → lt (kas_item (arrOf st) sb) (kas_item (arrOf st) (sa + t)) = false := fun t ht => by
    have q := hB t (by omega)
    rw [if_neg Bool.false_ne_true, decide_eq_true ht, Bool.not_eq_true'] at q
    exact q
  have B2 : ∀ t, k ≤ t → t < na → lt (kas_item (arrOf st) sb) (kas_item (arrOf st) (sa + t)) = true := fun t g1 g2 => by
    have q := hB t g2
    rw [if_neg Bool.false_ne_true, decide_eq_false (by omega), Bool.not_eq_false'] at q
    exact q
  have C1 : ∀ t, t < nb → lt (kas_item (arrOf st) (sb + t)) (kas_item (arrOf st) sb) = false := fun t ht => by
    by_cases e : t = 0
    · rw [e]; exact irr _ pk
    · exact A2 0 t (by omega) ht
  refine kasC_bind (gallop_ G hst pk (fun t ht => p1 t ht) (show sa + na ≤ (arrOf st).size by omega) hna hk hB ?_)
  dsimp only
  have key : ∀ t, t < k → ∀ u, u < nb → lt (kas_item (arrOf st) (sb + u)) (kas_item (arrOf st) (sa + t)) = false := fun t ht u hu =>
    T.trans _ _ _ (p1 t (by omega)) pk (p2 u hu) (B1 t ht) (C1 u hu)
  by_cases c1 : na - k = 0
  · rw [if_pos (by simp [c1])]
    refine kasC_pure (h _ hst hf rfl (Loc.refl _ _ _) fun p q hpq hq => ?_)
    by_cases q1 : q < na
    · exact A1 p q hpq q1
    · have eq1 : sa + q = sb + (q - na) := by omega
      by_cases p3 : p < na
      · rw [eq1]
        exact key p (by omega) (q - na) (by omega)
      · rw [eq1, show sa + p = sb + (p - na) by omega]
        exact A2 _ _ (by omega) (by omega)
  rw [if_neg (by simpa using c1)]
  have elast : sa + k + (na - k) - 1 = sa + (na - 1) := by omega
  rw [elast]
  have pl : P (kas_item (arrOf st) (sa + (na - 1))) := p1 _ (by omega)
  refine kasC_bind (c_elem (show sa + (na - 1) < (arrOf st).size by omega) ?_)
  obtain ⟨k2, hk2, hB2⟩ : ∃ k2, k2 ≤ nb ∧ ∀ t, t < nb → (if true = true then lt (kas_item (arrOf st) (sb + t)) (kas_item (arrOf st) (sa + (na - 1))) else !(lt (kas_item (arrOf st) (sa + (na - 1))) (kas_item (arrOf st) (sb + t)))) = decide (t < k2) := by
    refine bound _ nb fun t u htu hu hh => ?_
    rw [if_pos rfl] at hh ⊢
    by_cases e : t = u
    · rw [e]; exact hh
    · cases c : lt (kas_item (arrOf st) (sb + t)) (kas_item (arrOf st) (sa + (na - 1))) with
      | true => rfl
      | false =>
        have z := T.trans _ _ _ pl (p2 t (by omega)) (p2 u hu) c (A2 t u (by omega) hu)
        rw [hh] at z
        cases z
  have B3 : ∀ t, t < k2 → lt (kas_item (arrOf st) (sb + t)) (kas_item (arrOf st) (sa + (na - 1))) = true := fun t ht => by
    have q := hB2 t (by omega)
    rw [if_pos rfl, decide_eq_true ht] at q
    exact q
  have B4 : ∀ t, k2 ≤ t → t < nb → lt (kas_item (arrOf st) (sb + t)) (kas_item (arrOf st) (sa + (na - 1))) = false := fun t g1 g2 => by
    have q := hB2 t g2
    rw [if_pos rfl, decide_eq_false (by omega)] at q
    exact q
  have key2 : ∀ t, t < na → ∀ u, k2 ≤ u → u < nb → lt (kas_item (arrOf st) (sb + u)) (kas_item (arrOf st) (sa + t)) = false := fun t ht u g1 g2 => by
    by_cases e : t = na - 1
    · rw [e]; exact B4 u g1 g2
    · exact T.trans _ _ _ (p1 t ht) pl (p2 u g2) (A1 t (na - 1) (by omega) (by omega)) (B4 u g1 g2)
  refine kasC_bind (gallop_ G hst pl (fun t ht => p2 t ht) (show sb + nb ≤ (arrOf st).size by omega) (by omega) hk2 hB2 ?_)
  dsimp only
  by_cases c2 : k2 = 0
  · rw [if_pos (by simp [c2])]
    refine kasC_pure (h _ hst hf rfl (Loc.refl _ _ _) fun p q hpq hq => ?_)
    by_cases q1 : q < na
    · exact A1 p q hpq q1
    · have eq1 : sa + q = sb + (q - na) := by omega
      by_cases p3 : p < na
      · rw [eq1]
        exact key2 p p3 (q - na) (by omega) (by omega)
      · rw [eq1, show sa + p = sb + (p - na) by omega]
        exact A2 _ _ (by omega) (by omega)
  rw [if_neg (by simpa using c2)]
  have xz : ((arrOf st).extract (sa + k) sb).size = na - k := by rw [ext_size (by omega)]; omega
  have yz : ((arrOf st).extract sb (sb + k2)).size = k2 := by rw [ext_size (by omega)]; omega
  have xi : ∀ t, t < na - k → kas_item ((arrOf st).extract (sa + k) sb) t = kas_item (arrOf st) (sa + (k + t)) := fun t ht => by
    rw [item_ext (by omega) (by omega), show sa + k + t = sa + (k + t) by omega]
  have yi : ∀ t, t < k2 → kas_item ((arrOf st).extract sb (sb + k2)) t = kas_item (arrOf st) (sb + t) := fun t ht => item_ext (by omega) (by omega)
  have xm : ∀ z ∈ ((arrOf st).extract (sa + k) sb).toList, ∃ t, k ≤ t ∧ t < na ∧ z = kas_item (arrOf st) (sa + t) := fun z hz' => by
    obtain ⟨t, g1, rfl⟩ := mem_item hz'
    rw [xz] at g1
    exact ⟨k + t, by omega, by omega, xi t g1⟩
  have ym : ∀ z ∈ ((arrOf st).extract sb (sb + k2)).toList, ∃ t, t < k2 ∧ z = kas_item (arrOf st) (sb + t) := fun z hz' => by
    obtain ⟨t, g1, rfl⟩ := mem_item hz'
    rw [yz] at g1
    exact ⟨t, g1, yi t g1⟩
  have px : ∀ z ∈ ((arrOf st).extract (sa + k) sb).toList, P z := fun z hz' => by
    obtain ⟨t, g1, g2, rfl⟩ := xm z hz'
    exact p1 t g2
  have py : ∀ z ∈ ((arrOf st).extract sb (sb + k2)).toList, P z := fun z hz' => by
    obtain ⟨t, g1, rfl⟩ := ym z hz'
    exact p2 t (by omega)
  have sx : Srt lt ((arrOf st).extract (sa + k) sb).toList := srt_of fun p q g1 g2 => by
    rw [xz] at g2
    rw [xi p (by omega), xi q g2]
    exact A1 _ _ (by omega) (by omega)
  have sy : Srt lt ((arrOf st).extract sb (sb + k2)).toList := srt_of fun p q g1 g2 => by
    rw [yz] at g2
    rw [yi p (by omega), yi q g2]
    exact A2 _ _ (by omega) (by omega)
  have xl : (arrOf st).toList.take (sa + k) ++ (((arrOf st).extract (sa + k) sb).toList ++ ((arrOf st).extract sb (sb + k2)).toList) ++ (arrOf st).toList.drop (sb + k2) = (arrOf st).toList := by
    rw [ext0 (show sb ≤ (arrOf st).size by omega), ext0 (show sb + k2 ≤ (arrOf st).size by omega)]
    generalize (arrOf st).toList = l
    have e1 : l.take sb = l.take (sa + k) ++ (l.take sb).drop (sa + k) := by
      have : (l.take sb).take (sa + k) = l.take (sa + k) := by rw [List.take_take, Nat.min_eq_left (by omega)]
      rw [← this, List.take_append_drop]
    have e2 : l.take (sb + k2) = l.take sb ++ (l.take (sb + k2)).drop sb := by
      have : (l.take (sb + k2)).take sb = l.take sb := by rw [List.take_take, Nat.min_eq_left (by omega)]
      rw [← this, List.take_append_drop]
    rw [← List.append_assoc, ← e1, ← e2, List.take_append_drop]
  have fin : ∀ (r : Array Keyed) (st₂ : SortSt), arrOf st₂ = arrOf st → FinA lt ((arrOf st).extract (sa + k) sb) ((arrOf st).extract sb (sb + k2)) r →
      Loc (arrOf st) (List.foldl (fun a x => a.setIfInBounds (sa + k + x.snd) x.fst) (arrOf st₂) r.toList.zipIdx) sa (sb + nb) ∧ Asc lt (List.foldl (fun a x => a.setIfInBounds (sa + k + x.snd) x.fst) (arrOf st₂) r.toList.zipIdx) sa (na + nb) := by
    intro r st₂ K2 F
    rw [K2]
    have rz : r.toList.length = na - k + k2 := by
      rw [F.1.length_eq, List.length_append, Array.length_toList, Array.length_toList, xz, yz]
    have ys := set_list r.toList (arrOf st) (sa + k) 0 (by omega)
    generalize List.foldl (fun a x => a.setIfInBounds (sa + k + x.snd) x.fst) (arrOf st) r.toList.zipIdx = zs at ys ⊢
    rw [Nat.add_zero, rz, show sa + k + (na - k + k2) = sb + k2 by omega] at ys
    have tl : ((arrOf st).toList.take (sa + k)).length = sa + k := by rw [List.length_take, Array.length_toList]; omega
    have gl : ∀ t, zs[t]? = if t < sa + k then (arrOf st)[t]? else if t < sb + k2 then r.toList[t - (sa + k)]? else (arrOf st)[t]? := fun t => by
      rw [← Array.getElem?_toList, ys]
      by_cases g1 : t < sa + k
      · rw [if_pos g1, List.append_assoc, List.getElem?_append_left (by omega), List.getElem?_take, if_pos g1, Array.getElem?_toList]
      · rw [if_neg g1]
        by_cases g2 : t < sb + k2
        · rw [if_pos g2, List.getElem?_append_left (by rw [List.length_append]; omega), List.getElem?_append_right (by omega), tl]
        · rw [if_neg g2, List.getElem?_append_right (by rw [List.length_append]; omega), List.getElem?_drop, List.length_append, tl, rz, Array.getElem?_toList]
          congr 1
          omega
    have pz : zs.toList.Perm (arrOf st).toList := by
      rw [ys]
      refine List.Perm.trans ?_ (List.Perm.of_eq xl)
      exact (List.Perm.append_left _ F.1).append_right _
    have zz : zs.size = (arrOf st).size := by
      have := pz.length_eq
      simpa using this
    refine ⟨⟨zz, Array.perm_iff_toList_perm.mpr pz, fun t ht => ?_⟩, fun p q hpq hq => ?_⟩
    · rw [gl t]
      by_cases g1 : t < sa + k
      · rw [if_pos g1]
      · rw [if_neg g1, if_neg (by omega)]
    · have rm : ∀ t, k ≤ t → t < na + k2 → kas_item zs (sa + t) = kas_item r (t - k) ∧ ((∃ u, k ≤ u ∧ u < na ∧ kas_item zs (sa + t) = kas_item (arrOf st) (sa + u)) ∨ ∃ u, u < k2 ∧ kas_item zs (sa + t) = kas_item (arrOf st) (sb + u)) := fun t g1 g2 => by
        have e := gl (sa + t)
        rw [if_neg (by omega), if_pos (by omega), show sa + t - (sa + k) = t - k by omega, Array.getElem?_toList] at e
        have e2 := item_eq e
        refine ⟨e2, ?_⟩
        have hm := item_mem (a := r) (i := t - k) (by rw [← Array.length_toList, rz]; omega)
        rcases List.mem_append.mp (F.1.mem_iff.mp hm) with z | z
        · obtain ⟨u, a1, a2, a3⟩ := xm _ z
          exact .inl ⟨u, a1, a2, e2.trans a3⟩
        · obtain ⟨u, a1, a3⟩ := ym _ z
          exact .inr ⟨u, a1, e2.trans a3⟩
      have lowi : ∀ t, t < k → kas_item zs (sa + t) = kas_item (arrOf st) (sa + t) := fun t ht => item_eq (by rw [gl, if_pos (by omega)])
      have hii : ∀ t, na + k2 ≤ t → kas_item zs (sa + t) = kas_item (arrOf st) (sb + (t - na)) := fun t ht => by
        refine item_eq ?_
        rw [gl, if_neg (by omega), if_neg (by omega), show sb + (t - na) = sa + t by omega]
      by_cases p3 : p < k
      · rw [lowi p p3]
        by_cases q1 : q < k
        · rw [lowi q q1]
          exact A1 p q hpq (by omega)
        · by_cases q2 : q < na + k2
          · rcases (rm q (by omega) q2).2 with ⟨u, a1, a2, a3⟩ | ⟨u, a1, a3⟩
            · rw [a3]
              exact A1 p u (by omega) a2
            · rw [a3]
              exact key p p3 u (by omega)
          · rw [hii q (by omega)]
            exact key p p3 _ (by omega)
      · by_cases p4 : p < na + k2
        · by_cases q2 : q < na + k2
          · rw [(rm p (by omega) p4).1, (rm q (by omega) q2).1]
            have z := List.pairwise_iff_getElem.mp F.2 (p - k) (q - k) (by omega) (by omega) (by omega)
            have e1 := (List.getElem?_eq_some_iff.mp (item_get (a := r) (i := p - k) (by rw [← Array.length_toList, rz]; omega))).2
            have e2 := (List.getElem?_eq_some_iff.mp (item_get (a := r) (i := q - k) (by rw [← Array.length_toList, rz]; omega))).2
            rw [e1, e2] at z
            exact z
          · rw [hii q (by omega)]
            rcases (rm p (by omega) p4).2 with ⟨u, a1, a2, a3⟩ | ⟨u, a1, a3⟩
            · rw [a3]
              exact key2 u a2 _ (by omega) (by omega)
            · rw [a3]
              exact A2 u _ (by omega) (by omega)
        · rw [hii p (by omega), hii q (by omega)]
          exact A2 _ _ (by omega) (by omega)
  have x0 : kas_item ((arrOf st).extract (sa + k) sb) 0 = kas_item (arrOf st) (sa + k) := xi 0 (by omega)
  have y0 : kas_item ((arrOf st).extract sb (sb + k2)) 0 = kas_item (arrOf st) sb := yi 0 (by omega)
  have xe : kas_item ((arrOf st).extract (sa + k) sb) (((arrOf st).extract (sa + k) sb).size - 1) = kas_item (arrOf st) (sa + (na - 1)) := by
    rw [xz, xi _ (by omega)]
    congr 1
    omega
  have ye : kas_item ((arrOf st).extract sb (sb + k2)) (((arrOf st).extract sb (sb + k2)).size - 1) = kas_item (arrOf st) (sb + (k2 - 1)) := by
    rw [yz, yi _ (by omega)]
  by_cases c3 : na - k ≤ k2
  · rw [if_pos c3]
    refine kasC_bind (mergeLo_ G T hst px py sx sy (show 0 < ((arrOf st).extract (sa + k) sb).size by rw [xz]; omega) (show 0 < ((arrOf st).extract sb (sb + k2)).size by rw [yz]; omega) (by rw [x0, y0]; exact B2 k (Nat.le_refl _) (by omega)) (fun z hz' => ?_) fun r st₂ K2 F => ?_)
    · rw [xe]
      obtain ⟨t, g1, rfl⟩ := ym z hz'
      exact T.asym _ _ (p2 t (by omega)) pl (B3 t g1)
    · obtain ⟨f1, f2⟩ := fin r st₂ K2.2.1 F
      refine kasC_bind (kasC_modify (kasC_bind (kasC_get (kasC_pure ?_))))
      have ef : failedOf st₂ = none := K2.2.2.2.trans hf
      show Q (failedOf st₂).isNone _ s
      rw [ef]
      exact h _ (K2.1.trans hst) ef K2.2.2.1 f1 f2
  · rw [if_neg c3]
    refine kasC_bind (mergeHi_ G T hst px py sx sy (show 0 < ((arrOf st).extract (sa + k) sb).size by rw [xz]; omega) (show 0 < ((arrOf st).extract sb (sb + k2)).size by rw [yz]; omega) (by rw [xe, ye]; exact B3 _ (by omega)) (fun z hz' => ?_) fun r st₂ K2 F => ?_)
    · rw [y0]
      obtain ⟨t, g1, g2, rfl⟩ := xm z hz'
      exact T.asym _ _ pk (p1 t g2) (B2 t g1 g2)
    · obtain ⟨f1, f2⟩ := fin r st₂ K2.2.1 F
      refine kasC_bind (kasC_modify (kasC_bind (kasC_get (kasC_pure ?_))))
      have ef : failedOf st₂ = none := K2.2.2.2.trans hf
      show Q (failedOf st₂).isNone _ s
      rw [ef]
      exact h _ (K2.1.trans hst) ef K2.2.2.1 f1 f2
end
end TS
namespace TS
open PySem PySem.W PyProof.Rows
section
variable {P : Keyed → Prop} {lt : Keyed → Keyed → Bool}
abbrev pr (p : Nat × Nat × Nat) : Nat × Nat := (p.1, p.2.1)
def Runs (lt : Keyed → Keyed → Bool) (xs : Array Keyed) : Nat → List (Nat × Nat) → Nat → Prop
  | b, [], e => b = e
  | b, (s, l) :: r, e => s = b ∧ 0 < l ∧ Asc lt xs b l ∧ Runs lt xs (b + l) r e
theorem Runs.le {xs : Array Keyed} : ∀ {l : List (Nat × Nat)} {b e : Nat}, Runs lt xs b l e → b + l.length ≤ e
  | [], b, e, h => by
    have : b = e := h
    simp [this]
  | (s, l) :: r, b, e, ⟨_, h1, _, h2⟩ => by
    have := h2.le
    rw [List.length_cons]
    omega
theorem Runs.app {xs : Array Keyed} : ∀ {l1 l2 : List (Nat × Nat)} {b e : Nat}, Runs lt xs b (l1 ++ l2) e ↔ ∃ m, Runs lt xs b l1 m ∧ Runs lt xs m l2 e
  | [], l2, b, e => ⟨fun h => ⟨b, rfl, h⟩, fun ⟨m, h1, h2⟩ => by
      have : b = m := h1
      rw [this]; exact h2⟩
  | (s, l) :: r, l2, b, e => ⟨fun ⟨h1, h2, h3, h4⟩ => by
      obtain ⟨m, g1, g2⟩ := Runs.app.mp h4
      exact ⟨m, ⟨h1, h2, h3, g1⟩, g2⟩, fun ⟨m, ⟨h1, h2, h3, h4⟩, g⟩ => ⟨h1, h2, h3, Runs.app.mpr ⟨m, h4, g⟩⟩⟩
theorem Asc.same {xs ys : Array Keyed} {b l : Nat} (h : ∀ t, b ≤ t → t < b + l → kas_item ys t = kas_item xs t) (a : Asc lt xs b l) : Asc lt ys b l := fun p q h1 h2 => by
  rw [h _ (by omega) (by omega), h _ (by omega) (by omega)]
  exact a p q h1 h2
theorem Runs.same {xs ys : Array Keyed} : ∀ {l : List (Nat × Nat)} {b e : Nat}, (∀ t, b ≤ t → t < e → kas_item ys t = kas_item xs t) → Runs lt xs b l e → Runs lt ys b l e
  | [], b, e, _, h => h
  | (s, l) :: r, b, e, h, ⟨h1, h2, h3, h4⟩ => by
    have hl := h4.le
    exact ⟨h1, h2, h3.same fun t g1 g2 => h t g1 (by omega), h4.same fun t g1 g2 => h t (by omega) g2⟩
theorem Loc.item {xs ys : Array Keyed} {lo hi t : Nat} (a : Loc xs ys lo hi) (h : t < lo ∨ hi ≤ t) : kas_item ys t = kas_item xs t := item_eq (a.out t h)
theorem two_split {α : Type} {l : List α} {i : Nat} (h : i + 1 < l.length) : ∃ l1 a b l2, l = l1 ++ a :: b :: l2 ∧ l1.length = i ∧ l[i]? = some a ∧ l[i + 1]? = some b := by
  have h0 : i < l.length := by omega
  refine ⟨l.take i, l[i], l[i + 1], l.drop (i + 2), ?_, by rw [List.length_take]; omega, List.getElem?_eq_getElem h0, List.getElem?_eq_getElem h⟩
  rw [← List.drop_eq_getElem_cons h, ← List.drop_eq_getElem_cons h0, List.take_append_drop]
theorem erase_two {α : Type} (l1 l2 : List α) (a b v : α) : ((l1 ++ a :: b :: l2).set l1.length v).eraseIdx (l1.length + 1) = l1 ++ v :: l2 := by
  induction l1 with
  | nil => rfl
  | cons x l1 ih => simpa using ih
theorem modify_pr (pd : Array (Nat × Nat × Nat)) (i : Nat) (f : Nat × Nat × Nat → Nat × Nat × Nat) (hf : ∀ x, pr (f x) = pr x) : (pd.modify i f).toList.map pr = pd.toList.map pr := by
  apply List.ext_getElem?
  intro j
  rw [List.getElem?_map, List.getElem?_map, Array.getElem?_toList, Array.getElem?_toList, Array.getElem?_modify]
  by_cases c : i = j
  · rw [if_pos c]
    cases pd[j]? with
    | none => rfl
    | some x => simp [hf x]
  · rw [if_neg c]
end
section
variable {prog : Program} {w : World} {A : Around} {E : Value → Shared → Prop} {κ : SortKind} {P : Keyed → Prop} {lt : Keyed → Keyed → Bool}
theorem ite_lt {c : Prop} [Decidable c] {a b n : Nat} (h1 : a + 1 < n) (h2 : b + 1 < n) : (if c then a else b) + 1 < n := by split <;> assumption
theorem c_iteT {α : Type} {c : Prop} [Decidable c] {x y : M2 α} {Q : α → SortSt → Shared → Prop} {st : SortSt} {s : Shared} (hc : c) (h : kasC (model prog w) A E x Q st s) : kasC (model prog w) A E (if c then x else y) Q st s := by rw [if_pos hc]; exact h
theorem c_iteF {α : Type} {c : Prop} [Decidable c] {x y : M2 α} {Q : α → SortSt → Shared → Prop} {st : SortSt} {s : Shared} (hc : ¬ c) (h : kasC (model prog w) A E y Q st s) : kasC (model prog w) A E (if c then x else y) Q st s := by rw [if_neg hc]; exact h
theorem mergeRuns_ {s : Shared} (G : Good prog w A E κ P lt s) (T : Tot P lt) {i lo : Nat} {Q : Bool → SortSt → Shared → Prop} {st : SortSt} (hst : kindOf st = κ) (hf : failedOf st = none) (hp : ∀ x ∈ (arrOf st).toList, P x)
    (hi : i + 1 < (pendingOf st).size) (hlo : lo ≤ (arrOf st).size) (hr : Runs lt (arrOf st) 0 ((pendingOf st).toList.map pr) lo)
    (h : ∀ st' : SortSt, kindOf st' = κ → failedOf st' = none → (pendingOf st').size + 1 = (pendingOf st).size → Loc (arrOf st) (arrOf st') 0 lo → Runs lt (arrOf st') 0 ((pendingOf st').toList.map pr) lo → Q true st' s) :
    kasC (model prog w) A E (mergeAt' i) Q st s := by
  obtain ⟨l1, ⟨sa, na, pw⟩, ⟨sb, nb, pw2⟩, l2, e, el, g1, g2⟩ := two_split (l := (pendingOf st).toList) (i := i) (by simpa using hi)
  rw [Array.getElem?_toList] at g1 g2
  rw [e, List.map_append, List.map_cons, List.map_cons] at hr
  obtain ⟨m, r1, rfl, na0, A1, hsb, nb0, A2, r2⟩ := Runs.app.mp hr
  have hsb' : sb = sa + na := hsb
  have na0' : 0 < na := na0
  have nb0' : 0 < nb := nb0
  have r2' : Runs lt (arrOf st) (sa + na + nb) (l2.map pr) lo := r2
  have hl2 := r2'.le
  have A2' : Asc lt (arrOf st) sb nb := by rw [hsb']; exact A2
  refine mergeAt_ G T hst hf hp g1 g2 hsb' na0' nb0' (by omega) A1 A2' fun st' k1 k2 k3 L A3 => ?_
  have ep : (pendingOf st').toList = l1 ++ (sa, na + nb, pw) :: l2 := by
    rw [k3, Array.toList_eraseIdxIfInBounds, Array.toList_setIfInBounds, e, ← el]
    exact erase_two l1 l2 _ _ _
  refine h st' k1 k2 ?_ (L.wide (Nat.zero_le _) (by omega)) ?_
  · rw [← Array.length_toList, ← Array.length_toList, ep, e]
    simp
    omega
  · rw [ep, List.map_append, List.map_cons]
    refine Runs.app.mpr ⟨sa, r1.same fun t _ ht => L.item (.inl ht), rfl, (show 0 < na + nb by omega), A3, ?_⟩
    show Runs lt (arrOf st') (sa + (na + nb)) (l2.map pr) lo
    rw [← Nat.add_assoc]
    exact r2'.same fun t ht _ => L.item (.inr (by omega))
theorem sortRuns_ {s : Shared} (G : Good prog w A E κ P lt s) (T : Tot P lt) {Q : Unit → SortSt → Shared → Prop} {st : SortSt} (hst : kindOf st = κ) (hf : failedOf st = none) (hpd : pendingOf st = #[]) (hp : ∀ x ∈ (arrOf st).toList, P x) (hn : 1 ≤ (arrOf st).size)
    (h : ∀ st' : SortSt, failedOf st' = none → (arrOf st').Perm (arrOf st) → Asc lt (arrOf st') 0 (arrOf st').size → Q () st' s) : kasC (model prog w) A E sortRuns' Q st s := by
  refine kasC_bind (kasC_get ?_)
  try dsimp only
  refine kasC_bind (c_rangeR (fun t r st' s' => s' = s ∧ kindOf st' = κ ∧ failedOf st' = none ∧ Loc (arrOf st) (arrOf st') 0 (arrOf st).size ∧ ∃ lo, r = (none, lo) ∧ lo ≤ (arrOf st).size ∧ t ≤ lo ∧ Runs lt (arrOf st') 0 ((pendingOf st').toList.map pr) lo)
    (fun r st' s' => s' = s ∧ kindOf st' = κ ∧ failedOf st' = none ∧ Loc (arrOf st) (arrOf st') 0 (arrOf st).size ∧ r = (none, (arrOf st).size) ∧ Runs lt (arrOf st') 0 ((pendingOf st').toList.map pr) (arrOf st).size)
    ⟨rfl, hst, hf, Loc.refl _ _ _, 0, rfl, Nat.zero_le _, Nat.zero_le _, by rw [hpd]; exact rfl⟩ ?_ ?_ ?_)
  · rintro r st' s' ⟨e1, e2, e3, e4, lo, e5, e6, e7, e8⟩
    have e7' : (arrOf st).size ≤ lo := e7
    have el : lo = (arrOf st).size := by omega
    subst el
    exact ⟨e1, e2, e3, e4, e5, e8⟩
  · rintro t x r st' s' ht ⟨rfl, k1, f1, L1, lo, rfl, hlo, htl, R1⟩
    try dsimp only
    have hz1 := L1.size
    have hp1 := L1.good hp
    by_cases c1 : lo ≥ (arrOf st).size
    · rw [if_pos c1]
      have el : lo = (arrOf st).size := by omega
      subst el
      exact kasC_pure ⟨rfl, k1, f1, L1, rfl, R1⟩
    rw [if_neg c1]
    refine kasC_bind (countRun_ G T k1 hp1 (show lo + ((arrOf st).size - lo) ≤ (arrOf st').size by omega) (show 1 ≤ (arrOf st).size - lo by omega) fun fo st₂ fo1 fo2' S2 L2' A2 => ?_)
    try dsimp only
    have fo2 : fo ≤ (arrOf st).size - lo := fo2'
    have L2 : Loc (arrOf st') (arrOf st₂) lo (lo + ((arrOf st).size - lo)) := L2'
    have L12 : Loc (arrOf st) (arrOf st₂) 0 (arrOf st).size := L1.trans (L2.wide (Nat.zero_le _) (by omega))
    have k2 : kindOf st₂ = κ := S2.1.trans k1
    have f2 : failedOf st₂ = none := S2.2.2.trans f1
    have R2 : Runs lt (arrOf st₂) 0 ((pendingOf st₂).toList.map pr) lo := by
      rw [S2.2.1]
      exact R1.same fun t _ ht => L2.item (.inl ht)
    have hz2 := L12.size
    by_cases c2 : fo < minRun' (arrOf st).size (arrOf st).size 0
    · refine c_iteT c2 ?_
      refine kasC_bind (kasC_lift (wpAny_rule ?_))
      refine kasC_bind (binarySort_ G T k2 (L12.good hp) (show lo + (min ((arrOf st).size - lo) (minRun' (arrOf st).size (arrOf st).size 0)) ≤ (arrOf st₂).size by omega) (show fo ≤ (min ((arrOf st).size - lo) (minRun' (arrOf st).size (arrOf st).size 0)) by omega) (show 1 ≤ (min ((arrOf st).size - lo) (minRun' (arrOf st).size (arrOf st).size 0)) by omega) A2 fun st₃ S3 L3' A3' => ?_)
      have L3 : Loc (arrOf st₂) (arrOf st₃) lo (lo + (min ((arrOf st).size - lo) (minRun' (arrOf st).size (arrOf st).size 0))) := L3'
      have A3 : Asc lt (arrOf st₃) lo (min ((arrOf st).size - lo) (minRun' (arrOf st).size (arrOf st).size 0)) := A3'
      have kS : kindOf st₃ = κ := S3.1.trans k2
      have fS : failedOf st₃ = none := S3.2.2.trans f2
      have LS : Loc (arrOf st) (arrOf st₃) 0 (arrOf st).size := L12.trans (L3.wide (Nat.zero_le _) (by omega))
      have RS : Runs lt (arrOf st₃) 0 ((pendingOf st₃).toList.map pr) lo := by
        rw [S3.2.1]
        exact R2.same fun t _ ht => L3.item (.inl ht)
      have Am := A3
      have hm : 0 < (min ((arrOf st).size - lo) (minRun' (arrOf st).size (arrOf st).size 0)) := by omega
      refine c_iteF (by simp) ?_
      refine kasC_bind (kasC_get ?_)
      try dsimp only
      cases hb : (pendingOf st₃).back? with
      | none =>
        refine kasC_bind (kasC_modify (kasC_pure ⟨rfl, kS, fS, LS, lo + (min ((arrOf st).size - lo) (minRun' (arrOf st).size (arrOf st).size 0)), rfl, (show lo + (min ((arrOf st).size - lo) (minRun' (arrOf st).size (arrOf st).size 0)) ≤ (arrOf st).size by omega), (show t + 1 ≤ lo + (min ((arrOf st).size - lo) (minRun' (arrOf st).size (arrOf st).size 0)) by omega), ?_⟩))
        show Runs lt (arrOf st₃) 0 (((pendingOf st₃).push (lo, (min ((arrOf st).size - lo) (minRun' (arrOf st).size (arrOf st).size 0)), 0)).toList.map pr) (lo + (min ((arrOf st).size - lo) (minRun' (arrOf st).size (arrOf st).size 0)))
        rw [Array.toList_push, List.map_append]
        exact Runs.app.mpr ⟨lo, RS, rfl, hm, Am, rfl⟩
      | some x =>
        obtain ⟨s1, n1, z1⟩ := x
        try dsimp only
        refine kasC_bind (c_rangeR (fun u r st₄ s₄ => s₄ = s' ∧ r = (none, ()) ∧ kindOf st₄ = κ ∧ failedOf st₄ = none ∧ Loc (arrOf st) (arrOf st₄) 0 (arrOf st).size ∧ Runs lt (arrOf st₄) 0 ((pendingOf st₄).toList.map pr) lo ∧ Asc lt (arrOf st₄) lo (min ((arrOf st).size - lo) (minRun' (arrOf st).size (arrOf st).size 0)))
          (fun r st₄ s₄ => s₄ = s' ∧ r = (none, ()) ∧ kindOf st₄ = κ ∧ failedOf st₄ = none ∧ Loc (arrOf st) (arrOf st₄) 0 (arrOf st).size ∧ Runs lt (arrOf st₄) 0 ((pendingOf st₄).toList.map pr) lo ∧ Asc lt (arrOf st₄) lo (min ((arrOf st).size - lo) (minRun' (arrOf st).size (arrOf st).size 0)))
          ⟨rfl, rfl, kS, fS, LS, RS, Am⟩ (fun _ _ _ z => z) ?_ ?_)
        · rintro u x r st₄ s₄ hu ⟨rfl, rfl, k4, f4, L4, R4, A4⟩
          try dsimp only
          refine kasC_bind (kasC_get ?_)
          try dsimp only
          have hz4 := L4.size
          have stop : kasC (model prog w) A E (pure (ForInStep.done ((none : Option Unit), ())) : M2 _) (fun r st' s' => match r with
              | .done b' => s' = s₄ ∧ b' = (none, ()) ∧ kindOf st' = κ ∧ failedOf st' = none ∧ Loc (arrOf st) (arrOf st') 0 (arrOf st).size ∧ Runs lt (arrOf st') 0 ((pendingOf st').toList.map pr) lo ∧ Asc lt (arrOf st') lo (min ((arrOf st).size - lo) (minRun' (arrOf st).size (arrOf st).size 0))
              | .yield b' => s' = s₄ ∧ b' = (none, ()) ∧ kindOf st' = κ ∧ failedOf st' = none ∧ Loc (arrOf st) (arrOf st') 0 (arrOf st).size ∧ Runs lt (arrOf st') 0 ((pendingOf st').toList.map pr) lo ∧ Asc lt (arrOf st') lo (min ((arrOf st).size - lo) (minRun' (arrOf st).size (arrOf st).size 0))) st₄ s₄ := kasC_pure ⟨rfl, rfl, k4, f4, L4, R4, A4⟩
          by_cases c5 : (pendingOf st₄).size > 1
          · rw [if_pos c5]
            cases h5 : (pendingOf st₄)[(pendingOf st₄).size - 2]? with
            | none => exact stop
            | some y =>
              obtain ⟨y1, y2, older⟩ := y
              try dsimp only
              split
              · exact stop
              · refine kasC_bind (mergeRuns_ G T k4 f4 (L4.good hp) (show (pendingOf st₄).size - 2 + 1 < (pendingOf st₄).size by omega) (by omega) R4 fun st₅ k5 f5 _ L5 R5 => ?_)
                exact kasC_pure ⟨rfl, rfl, k5, f5, L4.trans (L5.wide (Nat.le_refl _) (by omega)), R5, A4.same fun t g1 _ => L5.item (.inr g1)⟩
          · rw [if_neg c5]
            exact stop
        · rintro r st₄ s₄ ⟨rfl, rfl, k4, f4, L4, R4, A4⟩
          try dsimp only
          refine kasC_bind (kasC_modify (kasC_bind (kasC_modify (kasC_pure ⟨rfl, k4, f4, L4, lo + (min ((arrOf st).size - lo) (minRun' (arrOf st).size (arrOf st).size 0)), rfl, (show lo + (min ((arrOf st).size - lo) (minRun' (arrOf st).size (arrOf st).size 0)) ≤ (arrOf st).size by omega), (show t + 1 ≤ lo + (min ((arrOf st).size - lo) (minRun' (arrOf st).size (arrOf st).size 0)) by omega), ?_⟩))))
          show Runs lt (arrOf st₄) 0 (((Array.modify (pendingOf st₄) _ _).push (lo, (min ((arrOf st).size - lo) (minRun' (arrOf st).size (arrOf st).size 0)), 0)).toList.map pr) (lo + (min ((arrOf st).size - lo) (minRun' (arrOf st).size (arrOf st).size 0)))
          rw [Array.toList_push, List.map_append, modify_pr]
          · exact Runs.app.mpr ⟨lo, R4, rfl, hm, A4, rfl⟩
          · exact fun _ => rfl
    · refine c_iteF c2 ?_
      have kS := k2
      have fS := f2
      have LS := L12
      have RS := R2
      have Am := A2
      have hm : 0 < fo := fo1
      have hm2 : lo + fo ≤ (arrOf st).size := by omega
      refine kasC_bind (kasC_get ?_)
      try dsimp only
      cases hb : (pendingOf st₂).back? with
      | none =>
        refine kasC_bind (kasC_modify (kasC_pure ⟨rfl, kS, fS, LS, lo + fo, rfl, (show lo + fo ≤ (arrOf st).size by omega), (show t + 1 ≤ lo + fo by omega), ?_⟩))
        show Runs lt (arrOf st₂) 0 (((pendingOf st₂).push (lo, fo, 0)).toList.map pr) (lo + fo)
        rw [Array.toList_push, List.map_append]
        exact Runs.app.mpr ⟨lo, RS, rfl, hm, Am, rfl⟩
      | some x =>
        obtain ⟨s1, n1, z1⟩ := x
        try dsimp only
        refine kasC_bind (c_rangeR (fun u r st₄ s₄ => s₄ = s' ∧ r = (none, ()) ∧ kindOf st₄ = κ ∧ failedOf st₄ = none ∧ Loc (arrOf st) (arrOf st₄) 0 (arrOf st).size ∧ Runs lt (arrOf st₄) 0 ((pendingOf st₄).toList.map pr) lo ∧ Asc lt (arrOf st₄) lo fo)
          (fun r st₄ s₄ => s₄ = s' ∧ r = (none, ()) ∧ kindOf st₄ = κ ∧ failedOf st₄ = none ∧ Loc (arrOf st) (arrOf st₄) 0 (arrOf st).size ∧ Runs lt (arrOf st₄) 0 ((pendingOf st₄).toList.map pr) lo ∧ Asc lt (arrOf st₄) lo fo)
          ⟨rfl, rfl, kS, fS, LS, RS, Am⟩ (fun _ _ _ z => z) ?_ ?_)
        · rintro u x r st₄ s₄ hu ⟨rfl, rfl, k4, f4, L4, R4, A4⟩
          try dsimp only
          refine kasC_bind (kasC_get ?_)
          try dsimp only
          have hz4 := L4.size
          have stop : kasC (model prog w) A E (pure (ForInStep.done ((none : Option Unit), ())) : M2 _) (fun r st' s' => match r with
              | .done b' => s' = s₄ ∧ b' = (none, ()) ∧ kindOf st' = κ ∧ failedOf st' = none ∧ Loc (arrOf st) (arrOf st') 0 (arrOf st).size ∧ Runs lt (arrOf st') 0 ((pendingOf st').toList.map pr) lo ∧ Asc lt (arrOf st') lo fo
              | .yield b' => s' = s₄ ∧ b' = (none, ()) ∧ kindOf st' = κ ∧ failedOf st' = none ∧ Loc (arrOf st) (arrOf st') 0 (arrOf st).size ∧ Runs lt (arrOf st') 0 ((pendingOf st').toList.map pr) lo ∧ Asc lt (arrOf st') lo fo) st₄ s₄ := kasC_pure ⟨rfl, rfl, k4, f4, L4, R4, A4⟩
          by_cases c5 : (pendingOf st₄).size > 1
          · rw [if_pos c5]
            cases h5 : (pendingOf st₄)[(pendingOf st₄).size - 2]? with
            | none => exact stop
            | some y =>
              obtain ⟨y1, y2, older⟩ := y
              try dsimp only
              split
              · exact stop
              · refine kasC_bind (mergeRuns_ G T k4 f4 (L4.good hp) (show (pendingOf st₄).size - 2 + 1 < (pendingOf st₄).size by omega) (by omega) R4 fun st₅ k5 f5 _ L5 R5 => ?_)
                exact kasC_pure ⟨rfl, rfl, k5, f5, L4.trans (L5.wide (Nat.le_refl _) (by omega)), R5, A4.same fun t g1 _ => L5.item (.inr g1)⟩
          · rw [if_neg c5]
            exact stop
        · rintro r st₄ s₄ ⟨rfl, rfl, k4, f4, L4, R4, A4⟩
          try dsimp only
          refine kasC_bind (kasC_modify (kasC_bind (kasC_modify (kasC_pure ⟨rfl, k4, f4, L4, lo + fo, rfl, (show lo + fo ≤ (arrOf st).size by omega), (show t + 1 ≤ lo + fo by omega), ?_⟩))))
          show Runs lt (arrOf st₄) 0 (((Array.modify (pendingOf st₄) _ _).push (lo, fo, 0)).toList.map pr) (lo + fo)
          rw [Array.toList_push, List.map_append, modify_pr]
          · exact Runs.app.mpr ⟨lo, R4, rfl, hm, A4, rfl⟩
          · exact fun _ => rfl
  · rintro r st' s' ⟨rfl, k1, f1, L1, rfl, R1⟩
    try dsimp only
    have hz1 := L1.size
    refine kasC_bind (c_rangeR (fun t r st₂ s₂ => s₂ = s' ∧ r = (none, ()) ∧ kindOf st₂ = κ ∧ failedOf st₂ = none ∧ Loc (arrOf st) (arrOf st₂) 0 (arrOf st).size ∧ Runs lt (arrOf st₂) 0 ((pendingOf st₂).toList.map pr) (arrOf st).size ∧ (pendingOf st₂).size + t ≤ (arrOf st).size)
      (fun r st₂ s₂ => s₂ = s' ∧ r = (none, ()) ∧ failedOf st₂ = none ∧ Loc (arrOf st) (arrOf st₂) 0 (arrOf st).size ∧ Runs lt (arrOf st₂) 0 ((pendingOf st₂).toList.map pr) (arrOf st).size ∧ (pendingOf st₂).size ≤ 1)
      ⟨rfl, rfl, k1, f1, L1, R1, by have := R1.le; simp at this; omega⟩ ?_ ?_ ?_)
    · rintro r st₂ s₂ ⟨e1, e2, e3, e4, e5, e6, e7⟩
      have e7' : (pendingOf st₂).size + (arrOf st).size ≤ (arrOf st).size := e7
      exact ⟨e1, e2, e4, e5, e6, by omega⟩
    · rintro t x r st₂ s₂ ht ⟨rfl, rfl, k2, f2, L2, R2, hs2⟩
      try dsimp only
      refine kasC_bind (kasC_get ?_)
      try dsimp only
      have hz2 := L2.size
      by_cases c1 : (pendingOf st₂).size ≤ 1
      · rw [if_pos c1]
        exact kasC_pure ⟨rfl, rfl, f2, L2, R2, c1⟩
      rw [if_neg c1]
      refine kasC_bind (mergeRuns_ G T k2 f2 (L2.good hp) (ite_lt (show (pendingOf st₂).size - 2 - 1 + 1 < (pendingOf st₂).size by omega) (show (pendingOf st₂).size - 2 + 1 < (pendingOf st₂).size by omega)) (show (arrOf st).size ≤ (arrOf st₂).size by omega) R2 fun st₅ k5 f5 e5 L5 R5 => ?_)
      exact kasC_pure ⟨rfl, rfl, k5, f5, L2.trans (L5.wide (Nat.le_refl _) (by omega)), R5, by omega⟩
    · rintro r st₂ s₂ ⟨rfl, rfl, f2, L2, R2, hs2⟩
      have hz2 := L2.size
      refine kasC_pure (h st₂ f2 L2.perm ?_)
      rw [hz2]
      cases hl : (pendingOf st₂).toList with
      | nil =>
        rw [hl] at R2
        have z : 0 = (arrOf st).size := R2
        omega
      | cons y l =>
        have hll : l = [] := by
          have : (pendingOf st₂).toList.length ≤ 1 := by simpa using hs2
          rw [hl, List.length_cons] at this
          exact List.eq_nil_of_length_eq_zero (by omega)
        rw [hl, hll] at R2
        obtain ⟨_, _, A9, e9⟩ := R2
        have e9' : 0 + y.2.1 = (arrOf st).size := e9
        rw [← e9', Nat.zero_add]
        exact A9
end
end TS
namespace TS
open PySem PySem.W PyProof.Rows
abbrev I3 := Int × Int × Int
def lex3 (a b : I3) : Bool := if a.1 = b.1 then (if a.2.1 = b.2.1 then decide (a.2.2 < b.2.2) else decide (a.2.1 < b.2.1)) else decide (a.1 < b.1)
theorem lex3_false {a b : I3} : lex3 a b = false ↔ (b.1 < a.1 ∨ (a.1 = b.1 ∧ (b.2.1 < a.2.1 ∨ (a.2.1 = b.2.1 ∧ b.2.2 ≤ a.2.2)))) := by
  unfold lex3
  split
  · split
    · rw [decide_eq_false_iff_not]; omega
    · rw [decide_eq_false_iff_not]; omega
  · rw [decide_eq_false_iff_not]; omega
theorem lex3_true {a b : I3} : lex3 a b = true ↔ ¬ (b.1 < a.1 ∨ (a.1 = b.1 ∧ (b.2.1 < a.2.1 ∨ (a.2.1 = b.2.1 ∧ b.2.2 ≤ a.2.2)))) := by
  rw [← lex3_false, Bool.not_eq_false]
def TupI (h : Heap) (v : Value) (t : I3) : Prop := ∃ (a : Addr) (o : Obj) (n : Nat) (t1 t2 t3 : Tok), v = .ref a ∧ h.get? a = some o ∧ o.cls = .type "tuple" ∧ o.data = .seq #[.int t.1 t1, .int t.2.1 t2, .int t.2.2 t3] n
section
variable {prog : Program} {w : World} {A : Around} {E : Value → Shared → Prop} {s : Shared}
theorem one_lt {a b : Int} {t u : Tok} {Q : Bool → Shared → Prop} (h : Q (decide (a < b)) s) : wpAny (model prog w) A (oneLt' false (.int a t) (.int b u)) Q E s :=
  kat_one _ _ (lt_int h)
theorem cmp3 {x y : Value} {t u : I3} {Q : Bool → Shared → Prop} (hx : TupI s.heap x t) (hy : TupI s.heap y u) (h : Q (lex3 t u) s) : wpAny (model prog w) A (keyLt' (tuples' true) x y) Q E s := by
  obtain ⟨a, o, n, t1, t2, t3, rfl, ho, _, hd⟩ := hx
  obtain ⟨b, o', n', u1, u2, u3, rfl, ho', _, hd'⟩ := hy
  refine kat_lt ho hd ho' hd' ?_
  unfold lex3 at h
  show KatLex prog w A true _ Q [(_, _), (_, _), (_, _)] 0 s
  refine kat_cons (wpAny_eqBool_int (kat_go (fun e => kat_yes ?_) (fun e => kat_no ?_)))
  · rw [if_pos (beq_iff_eq.mp e)] at h
    refine kat_cons (wpAny_eqBool_int (kat_go (fun e => kat_yes ?_) (fun e => kat_no ?_)))
    · rw [if_pos (beq_iff_eq.mp e)] at h
      refine kat_cons (wpAny_eqBool_int (kat_go (fun e => kat_yes (kat_nil ?_)) (fun e => kat_no (one_lt h))))
      have e' := beq_iff_eq.mp e
      rw [decide_eq_false (by omega)] at h
      exact h
    · rw [if_neg (fun z => by rw [beq_iff_eq.mpr z] at e; cases e)] at h
      exact one_lt h
  · rw [if_neg (fun z => by rw [beq_iff_eq.mpr z] at e; cases e)] at h
    exact oneLt_int h
theorem good3 (ts : Value → I3) : Good prog w A E (tuples' true) (fun x => TupI s.heap x.1 (ts x.1)) (fun x y => lex3 (ts x.1) (ts y.1)) s := by
  intro x y st Q hx hy hk hq
  rw [lt'_eq]
  refine kasC_bind (kasC_get (kasC_bind (kasC_lift (wpAny_attempt ?_))))
  rw [hk]
  exact cmp3 (E := _) hx hy (kasC_pure hq)
theorem tot3 {P : Keyed → Prop} (ts : Value → I3) : Tot P (fun x y => lex3 (ts x.1) (ts y.1)) :=
  ⟨fun x y z _ _ _ h1 h2 => by rw [lex3_false] at h1 h2 ⊢; omega, fun x y _ _ h => by rw [lex3_true] at h; rw [lex3_false]; omega⟩
theorem TupI.keep {h h' : Heap} {v : Value} {t : I3} (k : ∀ b o, h.get? b = some o → o.cls = .type "tuple" → h'.get? b = some o) (z : TupI h v t) : TupI h' v t := by
  obtain ⟨a, o, n, t1, t2, t3, e, ho, hc, hd⟩ := z
  exact ⟨a, o, n, t1, t2, t3, e, k a o ho hc, hc, hd⟩
theorem kat_of {h : Heap} {ts : Value → I3} : ∀ (vs : List Value), (∀ v ∈ vs, TupI h v (ts v)) → ∃ fs : List Value, KatTups h vs fs ∧ fs.length = vs.length ∧ ∀ v ∈ fs, ∃ i t, v = Value.int i t
  | [], _ => ⟨[], trivial, rfl, fun v hv => absurd hv (by simp)⟩
  | v :: vs, hT => by
    obtain ⟨fs, k1, k2, k3⟩ := kat_of vs fun u hu => hT u (List.mem_cons_of_mem _ hu)
    obtain ⟨a, o, n, t1, t2, t3, rfl, ho, hc, hd⟩ := hT v (List.mem_cons_self ..)
    exact ⟨_ :: fs, KatTups.cons ho hc hd (f := .int (ts (.ref a)).1 t1) rfl k1, by simp [k2], fun u hu => by
      rcases List.mem_cons.mp hu with e | e
      · exact ⟨_, _, e⟩
      · exact k3 u e⟩
theorem list_sort_t {a : Addr} {vs : List Value} {n : Nat} {ts : Value → I3} {Q : PySem.Fin → Shared → Prop} (ho : s.heap.get? a = some (seqObj "list" vs.toArray n)) (hT : ∀ v ∈ vs, TupI s.heap v (ts v)) (hz : vs.length ≤ sizeLine)
    (h : ∀ out : Array Value, out.toList.Perm vs → (out.toList.Pairwise fun x y => lex3 (ts y) (ts x) = false) → Q (.done (.ret .none)) { s with heap := sortedHeap s.heap a vs out }) : wpAny (model prog w) A (Builtin.«list.sort» ⟨[.ref a], []⟩) Q E s := by
  have ha : a < s.heap.objs.size := Heap.lt_size ho
  have hvz : vs.toArray.size = vs.length := List.size_toArray ..
  obtain ⟨e1, ho1⟩ : ∃ e1, (s.heap.update a (Obj.mapSeq fun _ => (#[] : Array Value))).get? a = some (seqObj "list" #[] e1) := ⟨_, get?_update_seq ho fun _ => #[]⟩
  rw [list_sort_plain]
  refine wpAny_bind (listItems_at ho rfl (wpAny_bind (listUpdate_at ho rfl ?_ (by rw [hvz]; exact hz) (Nat.zero_le _))))
  refine wpAny_bind (seqEpoch_at ho1 rfl (wpAny_bind (wpAny_newTuple (wpAny_bind (wpAny_newList (wpAny_holding ?_) (Nat.zero_le _))) (by show vs.length ≤ _; exact hz))))
  obtain ⟨h6, e6⟩ : ∃ h6, h6 = ((s.heap.update a (Obj.mapSeq fun _ => (#[] : Array Value))).push (seqObj "tuple" vs.toArray 0)).push (seqObj "list" #[] 0) := ⟨_, rfl⟩
  have ho6 : h6.get? a = some (seqObj "list" #[] e1) := by
    rw [e6]
    exact Heap.get?_push_of_some _ (Heap.get?_push_of_some _ ho1)
  have hT6 : ∀ v ∈ vs, TupI h6 v (ts v) := fun v hv => (hT v hv).keep fun b o hb hc => by
    have nb : b ≠ a := fun z => by
      rw [z, ho] at hb
      cases hb
      exact absurd (Value.type.inj hc) (by decide)
    rw [e6]
    exact Heap.get?_push_of_some _ (Heap.get?_push_of_some _ (((Heap.SameBut.update s.heap a (Obj.mapSeq fun _ => (#[] : Array Value))).2 b nb).trans hb))
  show wpAny (model prog w) A _ Q E { s with heap := ((s.heap.update a (Obj.mapSeq fun _ => (#[] : Array Value))).push (seqObj "tuple" vs.toArray 0)).push (seqObj "list" #[] 0) }
  have hfin : ∀ out : Array Value, out.toList.Perm vs → (out.toList.Pairwise fun x y => lex3 (ts y) (ts x) = false) → Q (.done (.ret .none)) { s with heap := h6.update a (Obj.mapSeq fun _ => out) } := fun out p1 p2 => by
    rw [e6]
    exact h out p1 p2
  rw [← e6]
  dsimp only
  by_cases h2 : vs.toArray.size < 2
  · rw [if_pos h2, if_pos h2]
    refine wpAny_bind (wpAny_pure ?_)
    rw [StateT.run_pure]
    refine wpAny_bind (wpAny_pure ?_)
    dsimp only
    have eo : ((arrOf (SortSt.mk' general' (vs.toArray.zip vs.toArray) #[] 7 none)).map (·.2)) = vs.toArray := by
      show (vs.toArray.zip vs.toArray).map (·.2) = vs.toArray
      apply Array.toList_inj.mp
      simp [List.map_snd_zip]
    rw [eo]
    refine wpAny_bind (seqEpoch_at ho6 rfl (wpAny_bind (listUpdate_at ho6 rfl ?_ (Nat.zero_le _) (by rw [hvz]; omega))))
    simp only [bne_self_eq_false, Bool.false_eq_true, if_false]
    refine wpAny_pure (hfin vs.toArray (List.Perm.refl _) ?_)
    match vs, h2 with
    | [], _ => exact .nil
    | [x], _ => exact List.pairwise_singleton _ _
    | x :: y :: l, h2 => exact absurd h2 (by simp)
  · rw [if_neg h2, if_neg h2]
    obtain ⟨fs, k1, k2, k3⟩ := kat_of vs hT6
    refine wpAny_bind (kat_kind (T := .type "int") (s := { s with heap := h6 }) k1 (by omega) (fun v hv => ?_) (by rfl) ?_)
    · obtain ⟨i, t, rfl⟩ := k3 v hv
      exact Looks.of_pure rfl
    have zl : (vs.toArray.zip vs.toArray).toList = vs.zip vs := by simp
    have pz : ∀ x ∈ (vs.toArray.zip vs.toArray).toList, TupI h6 x.1 (ts x.1) := fun x hx => by
      rw [zl] at hx
      exact hT6 _ (mem_zip_self hx).2
    have run := sortRuns_ (prog := prog) (w := w) (A := A) (E := E) (good3 (s := { s with heap := h6 }) ts) (tot3 ts) (Q := fun _ st' s' => s' = { s with heap := h6 } ∧ failedOf st' = none ∧ (arrOf st').Perm (vs.toArray.zip vs.toArray) ∧ Asc (fun x y => lex3 (ts x.1) (ts y.1)) (arrOf st') 0 (arrOf st').size)
      (st := SortSt.mk' (tuples' true) (vs.toArray.zip vs.toArray) #[] 7 none) rfl rfl rfl pz (by show 1 ≤ (vs.toArray.zip vs.toArray).size; simp; omega) (fun st' f1 f2 f3 => ⟨rfl, f1, f2, f3⟩)
    refine wpAny_bind (wpAny_mono run ?_ fun _ _ e => e)
    rintro ⟨⟨⟩, st'⟩ s' ⟨rfl, f1, f2, f3⟩
    dsimp only
    have p0 := Array.perm_iff_toList_perm.mp f2
    rw [zl] at p0
    have osz : ((arrOf st').map (·.2)).size = vs.length := by
      rw [Array.size_map, ← Array.length_toList, p0.length_eq]
      simp
    refine wpAny_bind (seqEpoch_at ho6 rfl (wpAny_bind (listUpdate_at ho6 rfl ?_ (Nat.zero_le _) (Nat.le_trans (Nat.le_of_eq osz) (by omega)))))
    rw [f1]
    simp only [bne_self_eq_false, Bool.false_eq_true, if_false]
    refine wpAny_pure (hfin _ ?_ ?_)
    · rw [Array.toList_map]
      refine (p0.map _).trans (List.Perm.of_eq ?_)
      exact List.map_snd_zip (Nat.le_refl _)
    · rw [Array.toList_map, List.pairwise_map]
      have sr : Srt (fun x y => lex3 (ts x.1) (ts y.1)) (arrOf st').toList := srt_of fun p q g1 g2 => by
        have := f3 p q g1 g2
        rw [Nat.zero_add, Nat.zero_add] at this
        exact this
      refine List.Pairwise.imp_of_mem ?_ sr
      intro x y hx hy hxy
      have ex := (mem_zip_self (p0.mem_iff.mp hx)).1
      have ey := (mem_zip_self (p0.mem_iff.mp hy)).1
      rw [← ex, ← ey]
      exact hxy
theorem sorted_t {l : Addr} {vs : List Value} {ts : Value → I3} {Q : Value → Shared → Prop} (hl : s.heap.IsList l vs.toArray) (hT : ∀ v ∈ vs, TupI s.heap v (ts v)) (hz : vs.length ≤ sizeLine)
    (h : ∀ out : Array Value, out.toList.Perm vs → (out.toList.Pairwise fun x y => lex3 (ts y) (ts x) = false) → Q (.ref (s.heap.objs.size + 1)) { s with heap := sortedAll s.heap vs out }) : wpAny (model prog w) A (call (.builtin "sorted") [.ref l]) Q E s := by
  refine Calls.call_function_entry kind_sorted plain_sorted entry_sorted (args_sorted1 _) ?_
  unfold Builtin.«sorted»
  refine wpAny_bind (m := checkCount "sorted" 1 1 _) (wpAny_pure (wpAny_bind (collect_list hl (wpAny_bind (wpAny_newList ?_ (by show vs.length ≤ _; exact hz))) hz)))
  have hsz : ((s.heap.push (seqObj "list" #[] 0)).update s.heap.objs.size (Obj.mapSeq (· ++ vs.toArray))).objs.size = s.heap.objs.size + 1 := by rw [Heap.size_update, size_push']
  have hoL : (((s.heap.push (seqObj "list" #[] 0)).update s.heap.objs.size (Obj.mapSeq (· ++ vs.toArray))).push (seqObj "list" vs.toArray 0)).get? (s.heap.objs.size + 1) = some (seqObj "list" vs.toArray 0) := by rw [← hsz]; exact Heap.get?_push_size _ rfl
  have hT2 : ∀ v ∈ vs, TupI (((s.heap.push (seqObj "list" #[] 0)).update s.heap.objs.size (Obj.mapSeq (· ++ vs.toArray))).push (seqObj "list" vs.toArray 0)) v (ts v) := fun v hv => (hT v hv).keep fun b o hb hc => by
    have nb : b ≠ s.heap.objs.size := Nat.ne_of_lt (Heap.lt_size hb)
    exact Heap.get?_push_of_some _ (((Heap.SameBut.update (s.heap.push (seqObj "list" #[] 0)) s.heap.objs.size (Obj.mapSeq (· ++ vs.toArray))).2 b nb).trans (Heap.get?_push_of_some _ hb))
  show wpAny _ _ _ _ _ { s with heap := ((s.heap.push (seqObj "list" #[] 0)).update s.heap.objs.size (Obj.mapSeq (· ++ vs.toArray))).push (seqObj "list" vs.toArray 0) }
  rw [hsz]
  exact wpAny_bind (wpAny_holding (wpAny_call_entry slot_list_sort ⟨_, hoL, rfl⟩ entry_list_sort (list_sort_t hoL hT2 hz fun out a1 a2 => ⟨_, rfl, wpAny_pure ⟨_, rfl, h out a1 a2⟩⟩) (args_list_sort _)))
end
end TS
namespace TS
open PySem PySem.W PyProof.Rows
theorem TupI.inj {h : Heap} {v : Value} {t u : I3} (x : TupI h v t) (y : TupI h v u) : t = u := by
  obtain ⟨a, o, n, t1, t2, t3, rfl, ho, _, hd⟩ := x
  obtain ⟨b, o', n', u1, u2, u3, e, ho', _, hd'⟩ := y
  cases e
  rw [ho] at ho'
  cases ho'
  rw [hd] at hd'
  have z := congrArg Array.toList (Data.seq.inj hd').1
  simp only [List.cons.injEq, Value.int.injEq] at z
  exact Prod.ext z.1.1 (Prod.ext z.2.1.1 z.2.2.1.1)
open Classical in
noncomputable def tsOf (h : Heap) (v : Value) : I3 := if q : ∃ u, TupI h v u then q.choose else (0, 0, 0)
theorem tsOf_eq {h : Heap} {v : Value} {u : I3} (x : TupI h v u) : tsOf h v = u := by
  unfold tsOf
  have q : ∃ u, TupI h v u := ⟨u, x⟩
  rw [dif_pos q]
  exact q.choose_spec.inj x
end TS
namespace L2
open PySem PySem.Spec PyProof.Rows
def TripAt (K : PySem.W.Frag) (H : Hp) (y : V) (u : TS.I3) : Prop := ∃ a, y = .ref a ∧ SqT K H a [.int u.1, .int u.2.1, .int u.2.2]
def absR : Value → V
  | .ref a => .ref a
  | _ => .non
theorem paired_map {α β γ : Type} {R : β → γ → Prop} {f : α → β} {g : α → γ} : ∀ (l : List α), (∀ v ∈ l, R (f v) (g v)) → Paired R (l.map f) (l.map g)
  | [], _ => .nil
  | x :: l, h => .cons (h x (List.mem_cons_self ..)) (paired_map l fun v hv => h v (List.mem_cons_of_mem _ hv))
section
variable {X : Cx}
theorem trip_val {pins : List (Addr × Obj)} {σ : St} {H : Hp} {s : Shared} (I : Inv X pins σ H s) : ∀ {ys : List V} {us : List TS.I3} {its : List Value}, Paired (TripAt X.K H) ys us → Vals ys its →
    (∀ v ∈ its, TS.TupI s.heap v (TS.tsOf s.heap v) ∧ TripAt X.K H (absR v) (TS.tsOf s.heap v) ∧ RelV (absR v) v) ∧ ys = its.map absR ∧ us = its.map (TS.tsOf s.heap)
  | _, _, _, .nil, .nil => ⟨fun v hv => absurd hv (by simp), rfl, rfl⟩
  | _, _, _, .cons (a := y) (b := u) ht hp, .cons r rr => by
    obtain ⟨h1, h2, h3⟩ := trip_val I hp rr
    obtain ⟨a, rfl, hq⟩ := ht
    cases r
    obtain ⟨its2, r1, p1, _⟩ := I.tuple hq
    obtain ⟨o, ho, hc, n, hd⟩ := id p1
    cases r1 with
    | cons q1 r1 =>
      cases r1 with
      | cons q2 r1 =>
        cases r1 with
        | cons q3 r1 =>
          cases r1
          obtain ⟨t1, rfl⟩ := q1
          obtain ⟨t2, rfl⟩ := q2
          obtain ⟨t3, rfl⟩ := q3
          have tp : TS.TupI s.heap (.ref a) u := ⟨a, o, n, t1, t2, t3, rfl, ho, hc, hd⟩
          have e := TS.tsOf_eq tp
          refine ⟨fun v hv => ?_, by rw [List.map_cons, ← h2]; rfl, by rw [List.map_cons, ← h3, e]⟩
          rcases List.mem_cons.mp hv with z | z
          · rw [z, e]
            exact ⟨tp, ⟨a, rfl, hq⟩, rfl⟩
          · exact h1 v z
theorem call_sortedT {K : PySem.W.Frag} (hK : X.K = K) : CallR X (.builtin "sorted") (fun xs H Q => ∃ (p : Addr) (ys : List V) (us : List TS.I3), xs = [.ref p] ∧ SqL K H p ys ∧ Paired (TripAt K H) ys us ∧
    ∀ (l : Addr) (zs : List V) (vs : List TS.I3), H l = none → (zs.zip vs).Perm (ys.zip us) → Paired (TripAt K H) zs vs → (vs.Pairwise fun x y => TS.lex3 y x = false) → Q (.ref l) (upd H l (.lst zs))) := by
  subst hK
  intro pins s σ H xs us Q I r h
  obtain ⟨p, ys, ts, rfl, hq, hp, q⟩ := h
  obtain ⟨u, rfl, rx⟩ := vals1 r
  cases rx
  obtain ⟨its, r', pl, hz⟩ := I.list hq
  have hl := r'.length
  obtain ⟨h1, h2, h3⟩ := trip_val I hp r'
  refine TS.sorted_t (ts := TS.tsOf s.heap) pl.isList (fun v hv => (h1 v hv).1) (by omega) fun out a1 a2 => ?_
  obtain ⟨e, he⟩ := PyProof.Rows.sortedAll_at s.heap its out
  have hml : out.toList.length = its.length := a1.length_eq
  have hm : ∀ v ∈ out.toList, v ∈ its := fun v hv => a1.mem_iff.mp hv
  refine ⟨.ref (s.heap.objs.size + 1), _, I.laid (t' := s.toks) (a := s.heap.objs.size + 1) (o := .lst (out.toList.map absR)) (fun b ob z => PyProof.Rows.sortedAll_old z) (Nat.le_succ _) ?_, rfl, q _ (out.toList.map absR) (out.toList.map (TS.tsOf s.heap)) (I.hok.fresh (Nat.le_succ _)) ?_ ?_ ?_⟩
  · refine ⟨by rw [List.length_map]; omega, out.toList, e, ?_, ?_⟩
    · have z := paired_map (R := RelV) (f := absR) (g := id) out.toList fun v hv => (h1 v (hm v hv)).2.2
      rw [List.map_id] at z
      exact z
    · rw [he]
  · rw [h2, h3, List.zip_map', List.zip_map']
    exact a1.map _
  · exact paired_map out.toList fun v hv => (h1 v (hm v hv)).2.1
  · rw [List.pairwise_map]
    exact a2
end
end L2
namespace RV
open PySem PyProof.Rows
theorem owner_rv : Manifest.owners.lookup (String.ofList ['d', 'e', 's', 'r', 'e', 'v', 'e', 'r'].reverse) = some Manifest.sig_reversed := by kernel_rfl
theorem slot_next : Slot "reversed" "__next__" "reversed.__next__" :=
  .of (owner := "reversed") (n := "__next__") (by rw [typeLookup_type, builtinLookup_eq_fast]; kernel_rfl) (by decide +kernel) (by decide +kernel) (by decide +kernel)
    (by first | exact .inl (by decide +kernel) | exact .inr (by decide +kernel)) (by rw [isSubtype_type]; kernel_rfl)
theorem entry_next : entryFor table "reversed.__next__" = some Builtin.«reversed.__next__» := entryFor_of_tree (by kernel_rfl)
theorem args_next (a : Value) : argsOk "reversed.__next__" ⟨[a], []⟩ := by
  unfold argsOk; rw [signature?_of (id := "reversed.__next__") (n := ['_', '_', 't', 'x', 'e', 'n', '_', '_']) (o := ['d', 'e', 's', 'r', 'e', 'v', 'e', 'r']) (by kernel_rfl) owner_rv]; kernel_rfl
theorem slot_iter : Slot "reversed" "__iter__" "reversed.__iter__" :=
  .of (owner := "reversed") (n := "__iter__") (by rw [typeLookup_type, builtinLookup_eq_fast]; kernel_rfl) (by decide +kernel) (by decide +kernel) (by decide +kernel)
    (by first | exact .inl (by decide +kernel) | exact .inr (by decide +kernel)) (by rw [isSubtype_type]; kernel_rfl)
theorem no_reversed : typeLookup (.type "tuple") "__reversed__" = pure none := by rw [typeLookup_type, builtinLookup_eq_fast]; kernel_rfl
section
variable {prog : Program} {w : World} {A : Around} {E : Value → Shared → Prop} {s : Shared}
def rvObj (l : Addr) (i : Int) : Obj := { cls := .type "reversed", data := .fields #[.ref l, rawInt i] }
def IsRv (h : Heap) (a l : Addr) (i : Int) : Prop := ∃ o, h.get? a = some o ∧ o.cls = .type "reversed" ∧ o.data = .fields #[.ref l, rawInt i]
theorem IsRv.typeIs {a l : Addr} {i : Int} (x : IsRv s.heap a l i) : s.TypeIs (.ref a) "reversed" := let ⟨o, ho, hc, _⟩ := x; ⟨o, ho, hc⟩
theorem code_new {l : Addr} {items : Array Value} {Q₁ : Value → Shared → Prop} (hl : s.heap.IsTuple l items) (hz : items.size ≤ 1000)
    (h : ∀ tk, Q₁ (.ref s.heap.objs.size) { s with heap := s.heap.push (rvObj l ((items.size : Int) - 1)), toks := tk }) :
    codeAny (model prog w) A (.call (.builtin "reversed.__new__") ⟨[.type "reversed", .ref l], []⟩) (wants Q₁ E) s := by
  refine codeAny_of_tree ?_
  show wpAny _ A.in1 (do checkBuiltinCall "reversed.__new__" ⟨[.type "reversed", .ref l], []⟩; again (.builtin "reversed.__new__" ⟨[.type "reversed", .ref l], []⟩)) _ _ s
  refine wpAny_bind (wpAny_of_eq (F.newCall_reversed_1 _) (wpAny_pure ⟨plainId_quiet F.plain_reversed_new _, codeAny_builtin F.entry_reversed_new ?_⟩))
  rw [Around.under_plainId F.plain_reversed_new _]
  unfold Builtin.«reversed.__new__»
  refine wpAny_bind (wpAny_of_eq (newClass_reversed _) ?_)
  try dsimp only
  refine wpAny_bind (wpAny_of_eq (a := ()) (by first | rfl | kernel_rfl) ?_)
  refine wpAny_bind (wpAny_of_eq (a := ()) (by first | rfl | kernel_rfl) ?_)
  try dsimp only
  refine wpAny_bind (wpAny_specialOf hl.typeIs no_reversed ?_)
  try dsimp only
  refine wpAny_bind (wpAny_bind (wpAny_isInstance (T := "tuple") (b := false) hl.typeIs (by rw [isSubtype_type]; kernel_rfl) ?_))
  try dsimp only
  rw [if_neg Bool.false_ne_true]
  refine wpAny_bind (wpAny_specialOf hl.typeIs F.slot_tuple_getitem.lookup ?_)
  try dsimp only
  rw [if_pos (show (["tuple.__getitem__", "str.__getitem__", "bytes.__getitem__", "bytearray.__getitem__", "memoryview.__getitem__", "numpy.ndarray.__getitem__", "sqlite3.Row.__getitem__"].contains "tuple.__getitem__") = true by decide +kernel)]
  refine wpAny_pure ?_
  rw [if_neg (by decide)]
  obtain ⟨o, ho, hc, n, hd⟩ := id hl
  refine wpAny_bind (PyProof.Rows.len_tuple ⟨o, ho, hc, n, hd⟩ (by omega) ?_)
  refine wpAny_bind (m := asInt? _) (wpAny_pure ?_)
  try dsimp only
  refine wpAny_bind ?_
  show wpAny _ _ (newObj (.type "reversed") (.fields #[.ref l, rawInt ((items.size : Int) - 1)])) _ _ _
  exact wpAny_newObj_type (wpAny_pure (h _))
theorem next_item {it l : Addr} {i : Nat} {items : Array Value} {x : Value} {Q : Option Value → Shared → Prop} (hit : IsRv s.heap it l (i : Int)) (hl : s.heap.IsTuple l items) (hz : items.size ≤ 1000) (hx : items[i]? = some x)
    (hQ : ∀ h' tk, IsRv h' it l ((i : Int) - 1) → Heap.SameBut it s.heap h' → Q (some x) { s with heap := h', toks := tk }) : wpAny (model prog w) A (pyNext (.ref it)) Q E s := by
  obtain ⟨o, ho, hc, hd⟩ := id hit
  unfold pyNext
  refine wpAny_bind (wpAny_attempt (wpAny_callSpecial?_slot (name := Str.ofString "__next__") hit.typeIs slot_next
    (wpAny_call_entry slot_next hit.typeIs entry_next ?_ (args_next _))))
  unfold Builtin.«reversed.__next__»
  refine wpAny_bind (wpAny_of_eq (a := (Value.ref it, [])) rfl ?_)
  try dsimp only
  refine wpAny_bind (wpAny_field ho hd (x := .ref l) rfl ?_)
  refine wpAny_bind (wpAny_field ho hd (x := rawInt (i : Int)) rfl ?_)
  show wpAny _ _ (if (i : Int) < 0 then _ else _) _ _ s
  rw [if_neg (by omega)]
  refine wpAny_bind (wpAny_specialOf hl.typeIs F.slot_tuple_getitem.lookup ?_)
  try dsimp only
  rw [if_neg (by decide)]
  obtain ⟨ol, hol, hcl, nl, hdl⟩ := id hl
  refine wpAny_bind (wpAny_mkInt ?_)
  have hi : i < items.size := (Array.getElem?_eq_some_iff.mp hx).1
  refine wpAny_bind (wpAny_attempt (PyProof.Rows.getItem_tuple (j := i) ⟨ol, hol, hcl, nl, hdl⟩ (by omega) (by omega) ?_ hx ?_))
  · unfold seqIndex?
    simp
    omega
  try dsimp only
  refine wpAny_bind (wpAny_field ho hd (x := rawInt (i : Int)) rfl ?_)
  show wpAny _ _ (setField (Value.ref it) 1 (rawInt ((i : Int) - 1)) >>= _) _ _ _
  refine wpAny_bind (wpAny_setField ho hd (by simp) ?_)
  refine wpAny_pure ⟨x, rfl, wpAny_pure (hQ _ _ ?_ (Heap.SameBut.update ..))⟩
  exact ⟨_, Heap.get?_update_self _ ho (Obj.isFreed_of_fields (Obj.data_mapFields hd _)), (Obj.cls_mapFields ..).trans hc, by
    rw [Obj.data_mapFields hd]; simp⟩
theorem stop_rv {α : Type} (hh : A.handled = none) {Q : α → Shared → Prop} {E' : Value → Shared → Prop} (h : ∀ (h' : Heap) (e : Addr), (∀ b o, s.heap.get? b = some o → h'.get? b = some o) → (∃ o, h'.get? e = some o ∧ o.cls = .type "StopIteration") → E' (.ref e) { s with heap := h' }) :
    wpAny (model prog w) A (Builtin.SmallTypes.stopIteration : Sem α) Q E' s := by
  unfold Builtin.SmallTypes.stopIteration
  refine wpAny_bind ?_
  simp only [newExc, newTuple]
  refine wpAny_bind (wpAny_newObj_type ?_ (by size_fits))
  refine wpAny_bind (m := firstArgMember _ _) (wpAny_of_eq (a := Value.none) (by first | rfl | (simp only [firstArgMember]; rfl)) ?_)
  refine wpAny_newObj_type ?_ (by size_fits)
  simp only [raiseNew]
  refine wpAny_bind (wpAny_handled ?_)
  rw [hh]
  exact wpAny_bind (wpAny_pure (wpAny_throw (h _ _ (fun b o e => Heap.get?_push_of_some _ (Heap.get?_push_of_some _ e)) ⟨_, Heap.get?_push_size _ rfl, rfl⟩)))
theorem next_done {it l : Addr} {Q : Option Value → Shared → Prop} (hh : A.handled = none) (hit : IsRv s.heap it l (-1)) (hQ : ∀ h', (∀ b o, b ≠ it → s.heap.get? b = some o → h'.get? b = some o) → Q none { s with heap := h' }) : wpAny (model prog w) A (pyNext (.ref it)) Q E s := by
  obtain ⟨o, ho, hc, hd⟩ := id hit
  unfold pyNext
  refine wpAny_bind (wpAny_attempt (wpAny_callSpecial?_slot (name := Str.ofString "__next__") hit.typeIs slot_next
    (wpAny_call_entry slot_next hit.typeIs entry_next ?_ (args_next _))))
  unfold Builtin.«reversed.__next__»
  refine wpAny_bind (wpAny_of_eq (a := (Value.ref it, [])) rfl ?_)
  try dsimp only
  refine wpAny_bind (wpAny_field ho hd (x := .ref l) rfl ?_)
  refine wpAny_bind (wpAny_field ho hd (x := rawInt (-1)) rfl ?_)
  show wpAny _ _ (if (-1 : Int) < 0 then _ else _) _ _ s
  rw [if_pos (by decide)]
  refine wpAny_bind (wpAny_rule (wpAny_bind ?_))
  show wpAny _ _ (setField (Value.ref it) 1 (rawInt (-1)) >>= fun _ => setField (Value.ref it) 0 .none) _ _ _
  refine wpAny_bind (wpAny_setField ho hd (by simp) ?_)
  have ho2 := Heap.get?_update_self (Obj.mapFields (·.setIfInBounds 1 (rawInt (-1)))) ho (Obj.isFreed_of_fields (Obj.data_mapFields hd _))
  refine wpAny_setField ho2 (Obj.data_mapFields hd _) (by simp) ?_
  refine wpAny_bind (stop_rv (A := A.in1) (show A.in1.handled = none from hh) fun h' e kp he => ?_)
  obtain ⟨u, hu, hcu⟩ := he
  refine wpAny_bind (wpAny_isInstance (T := "StopIteration") (b := true) ⟨u, hu, hcu⟩ isSubtype_stop (wpAny_pure (hQ h' fun b o hb e => kp b o ?_)))
  exact ((Heap.SameBut.update ..).2 b hb).trans (((Heap.SameBut.update ..).2 b hb).trans e)
theorem rv_self {it l : Addr} {i : Int} {Q : Value → Shared → Prop} (hit : IsRv s.heap it l i) (h : Q (.ref it) s) : wpAny (model prog w) A (pyIter (.ref it)) Q E s := by
  refine wpAny_pyIter_slot hit.typeIs slot_iter (wpAny_call_entry (b := Builtin.«dict_keyiterator.__iter__») slot_iter hit.typeIs (entryFor_alias (id' := "dict_keyiterator.__iter__") (by kernel_rfl) rfl (by decide +kernel) (by kernel_rfl)) ?_ ?_)
  · exact wpAny_pure ⟨_, rfl, "reversed", _, hit.typeIs, slot_next.lookup, h⟩
  · unfold argsOk; rw [signature?_of (id := "reversed.__iter__") (n := ['_', '_', 'r', 'e', 't', 'i', '_', '_']) (o := ['d', 'e', 's', 'r', 'e', 'v', 'e', 'r']) (by kernel_rfl) owner_rv]; kernel_rfl
theorem walk_rv (hh : A.handled = none) (I l : Addr) (hne : l ≠ I) (items : Array Value) (hz : items.size ≤ 1000) :
    Walks prog w A I [I, l] [I] items.size (fun i v => items.toList.reverse[i]? = some v) (fun i h => IsRv h I l ((items.size : Int) - 1 - i) ∧ h.IsTuple l items) where
  sub := fun b hb => by simp at hb; simp [hb]
  frame := fun i h h' st hk => by
    obtain ⟨⟨o, ho, r⟩, ⟨u, hu, q⟩⟩ := st
    exact ⟨⟨o, hk I (by simp) _ ho, r⟩, ⟨u, hk l (by simp) _ hu, q⟩⟩
  item := fun i s Q E hi st hQ => by
    have e : ((items.size : Int) - 1 - i) = ((items.size - 1 - i : Nat) : Int) := by omega
    have h1 := st.1
    rw [e] at h1
    have hj : items.size - 1 - i < items.size := by omega
    refine next_item h1 st.2 hz (x := items[items.size - 1 - i]) (Array.getElem?_eq_getElem hj) fun h' tk hit' hs' => ?_
    refine hQ _ h' tk ?_ ⟨?_, ?_⟩ fun b o hb z => (hs'.2 b (fun q => hb (by simp [q]))).trans z
    · rw [List.getElem?_reverse (by simpa using hi), Array.length_toList, Array.getElem?_toList, Array.getElem?_eq_getElem hj]
    · have e2 : ((items.size : Int) - 1 - ((i + 1 : Nat) : Int)) = ((items.size - 1 - i : Nat) : Int) - 1 := by omega
      rw [e2]
      exact hit'
    · obtain ⟨u, hu, q⟩ := st.2
      exact ⟨u, (hs'.2 l hne).trans hu, q⟩
  done := fun s Q E st hQ => by
    have h1 := st.1
    rw [show ((items.size : Int) - 1 - (items.size : Nat)) = -1 by omega] at h1
    exact next_done hh h1 fun h' kp => hQ h' s.toks fun b o hb z => kp b o (fun q => hb (by simp [q])) z
  self := fun i s Q E st hQ => rv_self st.1 hQ
theorem slot_hint : Slot "reversed" "__length_hint__" "reversed.__length_hint__" :=
  .of (owner := "reversed") (n := "__length_hint__") (by rw [typeLookup_type, builtinLookup_eq_fast]; kernel_rfl) (by decide +kernel) (by decide +kernel) (by decide +kernel)
    (by first | exact .inl (by decide +kernel) | exact .inr (by decide +kernel)) (by rw [isSubtype_type]; kernel_rfl)
theorem entry_hint : entryFor table "reversed.__length_hint__" = some Builtin.«reversed.__length_hint__» := entryFor_of_tree (by kernel_rfl)
theorem no_len : typeLookup (.type "reversed") "__len__" = pure none := by rw [typeLookup_type, builtinLookup_eq_fast]; kernel_rfl
theorem args_hint (a : Value) : argsOk "reversed.__length_hint__" ⟨[a], []⟩ := by
  unfold argsOk; rw [signature?_of (id := "reversed.__length_hint__") (n := ['_', '_', 't', 'n', 'i', 'h', '_', 'h', 't', 'g', 'n', 'e', 'l', '_', '_']) (o := ['d', 'e', 's', 'r', 'e', 'v', 'e', 'r']) (by kernel_rfl) owner_rv]; kernel_rfl
theorem hint_call {I l : Addr} {items : Array Value} {Q : Value → Shared → Prop} (hit : IsRv s.heap I l ((items.size : Int) - 1)) (hl : s.heap.IsTuple l items) (hz : items.size ≤ 1000) (h : ∀ tk t, Q (.int (items.size : Int) t) { s with toks := tk }) :
    wpAny (model prog w) A (call (.builtin "reversed.__length_hint__") [.ref I]) Q E s := by
  obtain ⟨o, ho, hc, hd⟩ := id hit
  refine wpAny_call_entry slot_hint hit.typeIs entry_hint ?_ (args_hint _)
  unfold Builtin.«reversed.__length_hint__»
  refine wpAny_bind (wpAny_of_eq (a := Value.ref I) rfl ?_)
  refine wpAny_bind (wpAny_field ho hd (x := .ref l) rfl ?_)
  rw [if_neg (show ¬ ((Value.ref l == Value.none) = true) from Bool.false_ne_true)]
  refine wpAny_bind (PyProof.Rows.len_tuple hl (by omega) ?_)
  refine wpAny_bind (m := asInt? _) (wpAny_pure ?_)
  try dsimp only
  refine wpAny_bind (wpAny_field (s := { s with toks := _ }) ho hd (x := rawInt ((items.size : Int) - 1)) rfl ?_)
  show wpAny _ _ (if (items.size : Int) < (items.size : Int) - 1 + 1 then _ else retInt ((items.size : Int) - 1 + 1)) _ _ _
  rw [if_neg (by omega), show (items.size : Int) - 1 + 1 = (items.size : Int) by omega]
  exact wpAny_bind (wpAny_mkInt (wpAny_pure ⟨_, rfl, h _ _⟩))
theorem collect_rv {I l : Addr} {items : Array Value} {Q : List Value → Shared → Prop} (hh : A.handled = none) (hit : IsRv s.heap I l ((items.size : Int) - 1)) (hl : s.heap.IsTuple l items) (hne : l ≠ I) (hz : items.size ≤ 1000)
    (h : ∀ (h' : Heap) (tk : Nat), (∀ b o, b ≠ I → s.heap.get? b = some o → h'.get? b = some o) → s.heap.objs.size ≤ h'.objs.size → Q items.toList.reverse { s with heap := h', toks := tk }) : wpAny (model prog w) A (collect (.ref I)) Q E s := by
  obtain ⟨oI, hoI, hcI, hdI⟩ := id hit
  obtain ⟨ol, hol, rl⟩ := id hl
  unfold collect
  refine wpAny_bind (wpAny_runValue (codeAny_builtin PySem.F.entry_proto_collect ?_))
  rw [Around.under_plainId PySem.F.plain_proto_collect _]
  show wpAny _ A.in1 (newList [] >>= fun l => again (.builtin "list.__iadd__" ⟨[l, .ref I], []⟩)) _ _ s
  refine wpAny_bind (wpAny_newObj_type (wpAny_pure ⟨plainId_quiet PySem.F.plain_list_iadd _, codeAny_builtin PySem.F.entry_list_iadd ?_⟩))
  rw [Around.under_plainId PySem.F.plain_list_iadd _]
  generalize e0 : s.heap.push { cls := .type "list", data := .seq ([] : List Value).toArray } = h0
  have g0 : h0.get? s.heap.objs.size = some { cls := .type "list", data := .seq ([] : List Value).toArray } := by rw [← e0]; exact Heap.get?_push_size _ rfl
  have k0 : ∀ b o, s.heap.get? b = some o → h0.get? b = some o := fun b o z => by rw [← e0]; exact Heap.get?_push_of_some _ z
  have hit0 : IsRv h0 I l ((items.size : Int) - 1) := ⟨oI, k0 _ _ hoI, hcI, hdI⟩
  have hl0 : h0.IsTuple l items := ⟨ol, k0 _ _ hol, rl⟩
  have hIl : I < s.heap.objs.size := Heap.lt_size hoI
  have hll : l < s.heap.objs.size := Heap.lt_size hol
  have h1 : Builtin.List.listSameRef (.ref s.heap.objs.size) (.ref I) = false := by simp [Builtin.List.listSameRef, Nat.ne_of_gt hIl]
  have hT : Shared.TypeIs { s with heap := h0 } (.ref I) "reversed" := ⟨oI, k0 _ _ hoI, hcI⟩
  show wpAny _ A.in1 (Builtin.List.listExtendWith (.ref s.heap.objs.size) (.ref I) (.ref s.heap.objs.size)) _ _ _
  unfold Builtin.List.listExtendWith
  refine wpAny_bind (wpAny_typeOf hT ?_)
  rw [if_neg (by rw [h1]; decide)]
  refine wpAny_bind (rv_self (s := { s with heap := h0 }) hit0 ?_)
  have W := walk_rv (prog := prog) (w := w) (A := A.in1) (show A.in1.handled = none from hh) I l hne items hz
  have hn : items.size ≤ sizeLine := by rw [sizeLine_eq]; omega
  have hSf : s.heap.objs.size ∉ [I, l] := fun z => by
    rcases List.mem_cons.mp z with q | q
    · exact absurd q (Nat.ne_of_gt hIl)
    · exact absurd (List.mem_singleton.mp q) (Nat.ne_of_gt hll)
  have hend : ∀ (h2 : Heap) (c2 tk2 : Nat), (∀ b o, b ≠ s.heap.objs.size → h0.get? b = some o → h2.get? b = some o) → h2.get? s.heap.objs.size = some { cls := .type "list", data := .seq #[] c2 } → codeAny (model prog w) A (.builtin "list.extend.loop" ⟨[.ref s.heap.objs.size, .ref I, .ref s.heap.objs.size], []⟩) (fun r s' => match r with
      | .ok (.ret (.ref a)) => a = s.heap.objs.size ∧ ∃ acc c, s'.heap.get? s.heap.objs.size = some { cls := .type "list", dict := none, data := .seq acc c, slots := #[] } ∧ Q acc.toList s'
      | _ => False) { s with heap := h2, toks := tk2 } := by
    intro h2 c2 tk2 k2 g2
    have st : IsRv h2 I l ((items.size : Int) - 1 - (0 : Nat)) ∧ h2.IsTuple l items := by
      rw [show (items.size : Int) - 1 - (0 : Nat) = (items.size : Int) - 1 by omega]
      exact ⟨⟨oI, k2 _ _ (Nat.ne_of_lt hIl) (k0 _ _ hoI), hcI, hdI⟩, ⟨ol, k2 _ _ (Nat.ne_of_lt hll) (k0 _ _ hol), rl⟩⟩
    refine codeAny_extend_loopS W.toS hn _ hSf _ items.size 0 _ #[] _ rfl (Nat.zero_le _) st g2 (ItemsOf.nil _) fun s' acc c hm hS' hacc => ?_
    refine ⟨rfl, acc, c, hS', ?_⟩
    have ea : acc.toList = items.toList.reverse := by
      apply List.ext_getElem?
      intro j
      rcases Nat.lt_or_ge j acc.size with z | z
      · rw [hacc.2 j _ (Array.getElem?_eq_getElem z), Array.getElem?_toList, Array.getElem?_eq_getElem z]
      · rw [List.getElem?_eq_none (by simpa using z), List.getElem?_eq_none (by rw [List.length_reverse, Array.length_toList, ← hacc.1]; exact z)]
    obtain ⟨h', g', d', tk', os'⟩ := s'
    have eg : g' = s.gens := hm.gens
    have ed : d' = s.drawn := hm.drawn
    have eo : os' = s.os := hm.os
    subst eg; subst ed; subst eo
    rw [ea]
    refine h h' tk' (fun b u hb z => hm.heap b u (fun q => ?_) (k2 b u (Nat.ne_of_lt (Heap.lt_size z)) (k0 b u z))) (Nat.le_of_lt (Heap.lt_size hS'))
    rcases List.mem_cons.mp q with q | q
    · exact absurd q (Nat.ne_of_lt (Heap.lt_size z))
    · exact hb (List.mem_singleton.mp q)
  refine wpAny_bind (wpAny_holding ?_)
  unfold Builtin.List.listLengthHint
  refine wpAny_bind (wpAny_specialOf hT no_len ?_)
  show wpAny _ A.in1 (specialOf (Value.ref I) (Str.ofString "__length_hint__") >>= _) _ _ _
  refine wpAny_bind (wpAny_specialOf hT slot_hint.lookup ?_)
  generalize hid : ("reversed.__length_hint__" : String) = id0
  wp_delta
  rw [show splitId id0 = some ("reversed", "__length_hint__") from by subst hid; decide +kernel]
  subst hid
  refine wpAny_bind (wpAny_isInstance (T := "reversed") (b := true) hT (by rw [isSubtype_type]; kernel_rfl) ?_)
  refine wpAny_ite_split (fun z => absurd z (by decide)) (fun _ => ?_)
  refine wpAny_ite_split (fun z => absurd z (by decide +kernel)) (fun _ => ?_)
  refine wpAny_bind (wpAny_rule ?_)
  refine wpAny_bind (wpAny_of_eq (slot_hint.bind (.ref I)) ?_)
  refine wpAny_bind (wpAny_attempt (hint_call (s := { s with heap := h0 }) hit0 hl0 hz fun tk t => ?_))
  generalize hn' : (items.size : Int) = n
  show wpAny _ _ (asInt? (.int n t) >>= _) _ _ _
  refine wpAny_bind (wpAny_of_eq (a := some n) rfl ?_)
  show wpAny _ _ (if (!Builtin.List.listFitsIndex n) = true then _ else if n < 0 then _ else if Builtin.List.listTooLong n.toNat = true then _ else pure (n != 0)) _ _ _
  rw [if_neg (by rw [fitsIndex_both (by omega) (by omega)]; decide), if_neg (by omega), if_neg (by simp [Builtin.List.listTooLong, sizeLine_eq]; omega)]
  refine wpAny_pure ?_
  have fin : ∀ (r : Result) (s' : Shared), (match r with
      | .ok (.ret (.ref a)) => a = s.heap.objs.size ∧ ∃ acc c, s'.heap.get? s.heap.objs.size = some { cls := .type "list", dict := none, data := .seq acc c, slots := #[] } ∧ Q acc.toList s'
      | _ => False) → wants (fun v s' => wpAny (model prog w) A (match v with | .ref a => (do match (← load a).data with | .seq xs _ => pure xs.toList | _ => unsupported "internal:collect") | _ => unsupported "internal:collect") Q E s') E r s' := fun r s' hr => by
    match r, hr with
    | .ok (.ret (.ref a)), hr =>
      obtain ⟨rfl, acc, c, e1, e2⟩ := hr
      exact wpAny_bind (wpAny_load e1 (wpAny_pure e2))
  refine wpAny_ite_split (fun _ => ?_) (fun _ => wpAny_pure ⟨plainId_quiet PySem.F.plain_extend_loop _, codeAny_mono (hend h0 0 tk (fun b o _ z => z) g0) fin⟩)
  refine wpAny_bind (wpAny_rule (wpAny_bind ?_))
  show wpAny _ _ (updateSeq s.heap.objs.size (·.push .none) >>= fun _ => updateSeq s.heap.objs.size (·.pop)) _ _ _
  refine wpAny_bind (wpAny_updateSeq g0 rfl ?_)
  have g2 := Heap.get?_update_self (Obj.mapSeq (·.push Value.none)) g0 rfl
  refine wpAny_updateSeq (hz := by seq_fits) g2 rfl ?_
  have g3 := Heap.get?_update_self (Obj.mapSeq (·.pop)) g2 rfl
  exact wpAny_pure ⟨plainId_quiet PySem.F.plain_extend_loop _, codeAny_mono (hend _ _ tk (fun b o hb z => (Heap.get?_update_other _ _ (Ne.symm hb)).trans ((Heap.get?_update_other _ _ (Ne.symm hb)).trans z)) g3) fin⟩
theorem slot_init : Slot "reversed" "__init__" "object.__init__" :=
  .of (owner := "object") (n := "__init__") (by rw [typeLookup_type, builtinLookup_eq_fast]; kernel_rfl) (by decide +kernel) (by decide +kernel) (by decide +kernel)
    (by first | exact .inl (by decide +kernel) | exact .inr (by decide +kernel)) (by rw [isSubtype_type]; kernel_rfl)
theorem called_rv : TypeCalled "reversed" "reversed.__new__" "object.__init__" := ⟨by decide +kernel, by decide +kernel, ⟨_, _, F.mro_reversed⟩, F.made_reversed, by decide +kernel, F.sub_reversed_self, slot_init⟩
theorem call_rv {l : Addr} {items : Array Value} {Q : Value → Shared → Prop} (hl : s.heap.IsTuple l items) (hz : items.size ≤ 1000)
    (h : ∀ tk, Q (.ref s.heap.objs.size) { s with heap := s.heap.push (rvObj l ((items.size : Int) - 1)), toks := tk }) : wpAny (model prog w) A (call (.type "reversed") [.ref l]) Q E s := by
  refine callType_codes (Q₁ := fun obj s₁ => s₁.TypeIs obj "reversed" ∧ Q obj s₁) called_rv (F.typeCall_reversed_1 _) F.entry_object_init (code_new hl hz fun tk => ⟨⟨_, Heap.get?_push_size _ rfl, rfl⟩, h tk⟩) fun obj s₁ h₁ => ?_
  exact ⟨h₁.1, F.args_object_init_2 obj _, object_init_meets called_rv.init.lookup called_rv.made (by decide) prog w A.in1 _ s₁ ⟨h₁.1, rfl, h₁.2⟩⟩
theorem call_tuple_rv {I l : Addr} {items : Array Value} {Q : Value → Shared → Prop} (hh : A.handled = none) (hit : IsRv s.heap I l ((items.size : Int) - 1)) (hl : s.heap.IsTuple l items) (hne : l ≠ I) (hz : items.size ≤ 1000)
    (h : ∀ (h' : Heap) (tk : Nat), (∀ b o, b ≠ I → s.heap.get? b = some o → h'.get? b = some o) → s.heap.objs.size ≤ h'.objs.size → Q (.ref h'.objs.size) { s with heap := h'.push { cls := .type "tuple", data := .seq items.toList.reverse.toArray }, toks := tk }) : wpAny (model prog w) A (call (.type "tuple") [.ref I]) Q E s := by
  refine callType_codes (Q₁ := fun obj s₁ => s₁.TypeIs obj "tuple" ∧ Q obj s₁) F.called_tuple (F.typeCall_tuple_1 _) F.entry_object_init ?_ fun obj s₁ h₁ =>
    ⟨h₁.1, F.args_object_init_2 obj _, object_init_meets F.called_tuple.init.lookup F.called_tuple.made (by decide) prog w A.in1 _ s₁ ⟨h₁.1, rfl, h₁.2⟩⟩
  refine codeAny_of_tree ?_; show wpAny _ A.in1.in1 (do checkBuiltinCall "tuple.__new__" ⟨[.type "tuple", .ref I], []⟩; again (.builtin "tuple.__new__" ⟨[.type "tuple", .ref I], []⟩)) _ _ s
  refine wpAny_bind (wpAny_of_eq (F.newCall_tuple_1 _) (wpAny_pure ⟨plainId_quiet F.plain_tuple_new _, codeAny_builtin F.entry_tuple_new ?_⟩))
  rw [Around.under_plainId F.plain_tuple_new _]
  have c1 := sub_tuple_self
  have c2 := init_tuple_lookup
  have c3 := madeHere_tuple
  have hTI := hit.typeIs (s := s)
  wp_walk using wpAny_typeOf hTI, collect_rv (A := A.in1.in1) (show A.in1.in1.handled = none from hh) hit hl hne hz
  intro h' tk k1 k2
  show wpAny _ _ (Builtin.Tuple.tupleExact items.toList.reverse.toArray >>= fun v => ret v) _ _ _
  unfold Builtin.Tuple.tupleExact
  exact wpAny_bind (wpAny_newObj_type (wpAny_pure ⟨⟨_, Heap.get?_push_size _ rfl, rfl⟩, h h' tk k1 k2⟩) (by show items.toList.reverse.toArray.size ≤ sizeLine; simp; rw [sizeLine_eq]; omega))
end
end RV
namespace L2
open PySem PySem.Spec PyProof.Rows
theorem bt_reversed : bootBuiltins "reversed" = some (.type "reversed") := by decide +kernel
theorem bt_tupleT : bootBuiltins "tuple" = some (.type "tuple") := by decide +kernel
section
variable {X : Cx}
def tTR (K : PySem.W.Frag) (ta : TA) : TE := fun σ H Q => ta σ H fun vs H1 => ∃ (a : Addr) (xs : List V), vs = [.ref a] ∧ SqT K H1 a xs ∧ xs.length ≤ 1000 ∧ ∀ l H', Same H1 H' → TupF H' l xs.reverse → Q (.ref l) H'
theorem vals_rev {xs : List V} {us : List Value} (h : Vals xs us) : Vals xs.reverse us.reverse := by
  induction h with
  | nil => exact .nil
  | cons r rr ih =>
    rw [List.reverse_cons, List.reverse_cons]
    exact Vals.append ih (.cons r .nil)
theorem pe_tupRev {a : Expr} {ta : TA} {p p' pos pos' : Pos} {K : PySem.W.Frag} (hc : X.calm = true) (hK : X.K = K) (hgl : Gl X "tuple") (hml : X.mg "tuple" = none) (hgr : Gl X "reversed") (hmr : X.mg "reversed" = none) (ha : PA X [a] ta)
    (hs : starEach [a] X.env = [(false, eval a X.env)] := by rfl) (he : starEach [.Call (.Name "reversed" p') [a] [] pos'] X.env = [(false, eval (.Call (.Name "reversed" p') [a] [] pos') X.env)] := by rfl) :
    PE X (.Call (.Name "tuple" p) [.Call (.Name "reversed" p') [a] [] pos'] [] pos) (tTR K ta) := by
  subst hK
  intro pins s σ H Q I h
  refine wpAny_Call_Name_kw (ld_blt I hgl hml bt_tupleT ?_ (by decide) (by decide))
  refine PyProof.Rows.callWith_type1 ?_ he rfl
  rw [he]
  refine Calls.spliced_cons ?_
  refine Call_ (ld_blt I hgr hmr bt_reversed (PyProof.Rows.callWith_type1 (thn (ha pos' pins s σ H _ I h) fun us s1 ⟨vs, H1, I1, r1, q1⟩ => ?_) hs rfl))
  obtain ⟨l, xs, e, hq, hz, q⟩ := q1
  subst e
  cases r1 with
  | cons r rr =>
    cases rr
    cases r
    obtain ⟨its, rv, ht, hzz⟩ := I1.tuple hq
    have hl : its.length = xs.length := rv.length.symm
    have hl2 : its.toArray.size ≤ 1000 := by rw [List.size_toArray, hl]; exact hz
    have hlt : l < s1.heap.objs.size := by
      obtain ⟨o, ho, _⟩ := id ht
      exact Heap.lt_size ho
    refine RV.call_rv ht hl2 fun tk => (Calls.spliced_nil ?_)
    have g0 : (s1.heap.push (RV.rvObj l ((its.toArray.size : Int) - 1))).get? s1.heap.objs.size = some (RV.rvObj l ((its.toArray.size : Int) - 1)) := Heap.get?_push_size _ rfl
    have n0 : (s1.heap.push (RV.rvObj l ((its.toArray.size : Int) - 1))).objs.size = s1.heap.objs.size + 1 := Heap.size_push ..
    have k0 : ∀ b o, s1.heap.get? b = some o → (s1.heap.push (RV.rvObj l ((its.toArray.size : Int) - 1))).get? b = some o := fun b o z => Heap.get?_push_of_some _ z
    generalize s1.heap.push (RV.rvObj l ((its.toArray.size : Int) - 1)) = h0 at *
    have ht0 : h0.IsTuple l its.toArray := by
      obtain ⟨o, ho, z⟩ := id ht
      exact ⟨o, k0 _ _ ho, z⟩
    refine RV.call_tuple_rv (s := { s1 with heap := h0, toks := tk }) (I1.ok.hd hc) ⟨_, g0, rfl, rfl⟩ ht0 (Nat.ne_of_lt hlt) hl2 fun h' tk' kp hsz => ?_
    have kk : ∀ b o, s1.heap.get? b = some o → h'.get? b = some o := fun b o z => kp b o (Nat.ne_of_lt (Heap.lt_size z)) (k0 b o z)
    have hle : s1.heap.objs.size ≤ h'.objs.size := by
      have : h0.objs.size ≤ h'.objs.size := hsz
      omega
    have I2 : Inv X pins σ (upd H1 h'.objs.size (.frz { cls := .type "tuple", data := .seq its.reverse.toArray } (.tup xs.reverse))) { s1 with heap := h'.push { cls := .type "tuple", data := .seq its.reverse.toArray }, toks := tk' } :=
      I1.laid (t' := tk') (fun b o e => Heap.get?_push_of_some _ (kk b o e)) hle (show ObjOk X.prog X.w _ _ _ (.frz _ (.tup xs.reverse)) from ⟨Heap.get?_push_size _ rfl, by rw [List.length_reverse]; exact hzz, its.reverse, vals_rev rv, IsTup.new _ _⟩)
    exact ⟨.ref h'.objs.size, _, I2, rfl, q _ _ (same_new (I1.hok.fresh hle) _) ⟨_, upd_same, rfl, rfl⟩⟩
end
end L2
namespace L2
open PySem PySem.Spec PyProof.Rows
section
variable {X : Cx}
end
end L2
namespace L2
open PySem PySem.Spec PyProof.Rows
section
variable {X : Cx} {st : Stmt} {t : TS}
def tJoin (t : TS) : TS := fun D σ H => ∃ R : St → Hp → Prop, t { D with nx := R } σ H ∧ ∀ σ' H', R σ' H' → D.nx σ' H'
theorem ps_join (h : PS X st t) : PS X st (tJoin t) := by
  intro pins s σ H D I ⟨R, h1, h2⟩
  refine thn (h pins s σ H { D with nx := R } I h1) fun f s1 q => ?_
  cases f with
  | next =>
    obtain ⟨σ', H', I', q⟩ := q
    exact ⟨σ', H', I', h2 _ _ q⟩
  | ret v => exact q
  | brk => exact q
  | cont => exact q
end
end L2
namespace L2
open PySem
end L2
namespace L2
open PySem PySem.Spec PyProof.Rows
section
variable {X : Cx}
end
end L2
namespace L2
open PySem PySem.Spec PyProof.Rows
def Itr3 (lo c : Int) (n : Nat) : It := ⟨fun i _ => i < n, fun i H x H' => H' = H ∧ x = .int (lo + i * c), fun i _ => n ≤ i⟩
theorem turn_range3 {P : Program} {w : World} {K : PySem.W.Frag} {tg : Expr} (it : Addr) (lo c : Int) (n : Nat) : Turn P w K tg (Itr3 lo c n) [it] it (fun i h => IsRangeIter h it (lo + (i : Nat) * c) ((n : Int) - (i : Nat)) c) where
  mem := by simp
  obj := fun i h st b hb => by
    have e : b = it := by simpa using hb
    subst e
    exact ⟨_, st, fun v z => by
      have z' : Data.fields _ = Data.cell v := z
      cases z'⟩
  keep := fun i h h' st k => k it (by simp) _ st
  item := by
    intro X hP hw hK hc i pins s σ H E I hf st hg
    subst hP hw hK
    obtain ⟨f0, f1, f2, f3, f4, f5⟩ := hf it (by simp)
    have W := Walks.range (prog := X.prog) (w := X.w) (I.ok.hd hc) it lo c n
    refine W.item i s _ _ hg st fun v h' tk hv st' kk => ?_
    obtain ⟨t, rfl⟩ := hv
    have I1 : Inv X pins σ H { s with heap := h', toks := tk } := I.turned (fun b o hb e => kk b o (by simpa using hb) e) f0 f1 f3 f4 f5
    exact ⟨_, rfl, go_of (s := { s with heap := h', toks := tk }) (n := "range_iterator") st' rfl rfl (by decide) ⟨.int (lo + i * c), H, I1, ⟨t, rfl⟩, ⟨rfl, rfl⟩, st', fun b hb => (hf b hb).1⟩⟩
  done := by
    intro X hP hw hK hc i pins s σ H E I hf st hg
    subst hP hw hK
    obtain ⟨f0, f1, f2, f3, f4, f5⟩ := hf it (by simp)
    exact wpAny_pyNext_range_end (I.ok.hd hc) st (by have : n ≤ i := hg; omega) fun h' eb => ⟨rfl, I.turned (t' := s.toks) (fun b o hb e => eb b o hb e) f0 f1 f3 f4 f5⟩
  self := fun _ _ _ _ _ st h => wpAny_pyIter_rangeiter st h
section
variable {X : Cx} {tg : Expr}
def rngN (i j c : Int) : Nat := (Builtin.Range.rangeSize i j c).toNat
theorem rngN_nn {i j c : Int} (hc : 0 < c) : 0 ≤ Builtin.Range.rangeSize i j c := by
  unfold Builtin.Range.rangeSize
  rw [if_pos hc]
  split
  · have := Int.ediv_nonneg (a := j - i - 1) (b := c) (by omega) (by omega)
    omega
  · omega
theorem rngN_le {i j c : Int} (hc : 0 < c) : Builtin.Range.rangeSize i j c ≤ 0 ∨ Builtin.Range.rangeSize i j c ≤ j - i := by
  unfold Builtin.Range.rangeSize
  rw [if_pos hc]
  split
  · have := Int.ediv_le_self (a := j - i - 1) c (by omega)
    omega
  · omega
theorem rngN_lt {i j c : Int} (hc : 0 < c) {k : Nat} (h : k < rngN i j c) : i + k * c < j := by
  have z := rngN_nn (i := i) (j := j) hc
  unfold rngN at h
  unfold Builtin.Range.rangeSize at h z
  rw [if_pos hc] at h z
  by_cases d : i < j
  · rw [if_pos d] at h z
    have h' : (k : Int) ≤ (j - i - 1) / c := by omega
    have := Int.mul_le_of_le_ediv hc h'
    omega
  · rw [if_neg d] at h
    exact absurd h (Nat.not_lt_zero _)
def iRng3 (ta : TA) : TI := fun σ H R => ta σ H fun vs H1 => ∃ i j c : Int, vs = [.int i, .int j, .int c] ∧ (0 ≤ i ∧ i < 10 ^ 6 ∧ 0 ≤ j ∧ j < 10 ^ 6 ∧ 0 < c ∧ c < 10 ^ 6) ∧ R (Itr3 i c (rngN i j c)) H1
theorem pi_range3 {a b c : Expr} {ta : TA} {p pos : Pos} (hg : Gl X "range") (hm : X.mg "range" = none) (ha : PA X [a, b, c] ta) (hs : starEach [a, b, c] X.env = [(false, eval a X.env), (false, eval b X.env), (false, eval c X.env)] := by rfl) (hs2 : starEach [b, c] X.env = [(false, eval b X.env), (false, eval c X.env)] := by rfl) :
    PI X tg (.Call (.Name "range" p) [a, b, c] [] pos) (iRng3 ta) := by
  intro pins s σ H R I h
  refine Call_ (ld_blt I hg hm boot_range (PyProof.Rows.callWith_type1 (thn (ha pos pins s σ H _ I h) fun us s1 ⟨vs, H1, I1, r1, q1⟩ => ?_) (by rw [hs, hs2]) (by rw [hs2]; rfl)))
  obtain ⟨i, j, c, e, ⟨q1, q2, q3, q4, q5, q6⟩, q⟩ := q1
  subst e
  cases r1 with
  | cons r rr =>
    cases rr with
    | cons r' rr =>
      cases rr with
      | cons r'' rr =>
        cases rr
        obtain ⟨t, rfl⟩ := r
        obtain ⟨t', rfl⟩ := r'
        obtain ⟨t'', rfl⟩ := r''
        refine call_range_3 (by omega) ?_ (Or.inl (PyProof.noPylong_small (by omega)))
        have hsz := rngN_nn (i := i) (j := j) q5
        refine wpAny_pyIter_range (IsRange.new ..) ?_ ?_
        · have hle := rngN_le (i := i) (j := j) q5
          unfold Builtin.Range.small
          generalize Builtin.Range.rangeSize i j c = z at *
          simp only [Builtin.Range.rangeFitsLong, Bool.and_eq_true, Bool.or_eq_true, decide_eq_true_eq, beq_iff_eq, show c > 0 from q5, if_true]
          first | omega | (split <;> omega)
        have J1 : Inv X pins σ H1 { s1 with heap := s1.heap.push { cls := .type "range", data := .fields #[.int i t, .int j t', .int c t''] }, toks := s1.toks } := I1.kept fun b o e => Heap.get?_push_of_some _ e
        refine ⟨(s1.heap.push { cls := .type "range", data := .fields #[.int i t, .int j t', .int c t''] }).objs.size, [(s1.heap.push { cls := .type "range", data := .fields #[.int i t, .int j t', .int c t''] }).objs.size], _, _, H1, rfl,
          J1.kept (t' := s1.toks) fun b o e => Heap.get?_push_of_some _ e, turn_range3 _ i c (rngN i j c), ?_, fun b hb => ?_, q⟩
        · have e1 : i + ((0 : Nat) : Int) * c = i := by simp
          have e2 : ((rngN i j c : Nat) : Int) - ((0 : Nat) : Int) = Builtin.Range.rangeSize i j c := by unfold rngN; omega
          show IsRangeIter _ _ (i + ((0 : Nat) : Int) * c) (((rngN i j c : Nat) : Int) - ((0 : Nat) : Int)) c
          rw [e1, e2]
          exact Heap.get?_push_size _ rfl
        · have e : b = (s1.heap.push { cls := .type "range", data := .fields #[.int i t, .int j t', .int c t''] }).objs.size := by simpa using hb
          subst e
          exact J1.fpOk (Nat.le_refl _) (J1.hok.fresh (Nat.le_refl _))
theorem for_range3 {lo c : Int} {n : Nat} {g : TG} {tb : TS} {D : Ends} {σ : St} {H : Hp} (Pv : Nat → St → Hp → Prop) (h0 : Pv 0 σ H)
    (hs : ∀ i σ H, i < n → Pv i σ H → g (.int (lo + i * c)) σ H fun σ2 H2 => tb { D with nx := Pv (i + 1), ct := Pv (i + 1), bk := D.nx } σ2 H2) (hd : ∀ σ H, Pv n σ H → D.nx σ H) :
    ∃ W : Nat → Nat → St → Hp → Prop, (∃ m, W 0 m σ H) ∧ ∀ i m σ H, W i m σ H →
      ((Itr3 lo c n).stop i H ∧ D.nx σ H) ∨ ((Itr3 lo c n).go i H ∧ ∃ N : St → Hp → Prop, (∀ σ' H', N σ' H' → ∃ m', m' < m ∧ W (i + 1) m' σ' H') ∧ ∀ x H', (Itr3 lo c n).yld i H x H' → g x σ H' fun σ2 H2 => tb { D with nx := N, ct := N, bk := D.nx } σ2 H2) := by
  refine ⟨fun i m σ H => m = n - i ∧ i ≤ n ∧ Pv i σ H, ⟨n, by simp, Nat.zero_le _, h0⟩, ?_⟩
  rintro i m σ H ⟨rfl, hi, p⟩
  by_cases hlt : i < n
  · refine .inr ⟨hlt, Pv (i + 1), fun σ' H' p' => ⟨n - (i + 1), by omega, rfl, hlt, p'⟩, fun x H' y => ?_⟩
    obtain ⟨e, y⟩ := y
    subst e y
    exact hs i σ _ hlt p
  · have e : i = n := by omega
    subst e
    exact .inl ⟨Nat.le_refl _, hd σ H p⟩
end
end L2
namespace My
open PySem L2
def top (i : Nat) : Stmt := PySem.Challenge.pw_manyleast_k47_rows_turned_and_widened.main.body.getD i (.Pass ⟨0, 0, 0, 0⟩)
abbrev s_is_whole : Stmt := top 9
abbrev s_is_bounds : Stmt := top 10
abbrev s_is_low : Stmt := top 11
abbrev s_is_levels : Stmt := top 12
abbrev s_many_worths : Stmt := top 13
abbrev s_top_of : Stmt := top 14
abbrev s_where : Stmt := top 15
abbrev s_span_of : Stmt := top 16
abbrev s_way_of : Stmt := top 17
abbrev s_ahead : Stmt := top 19
abbrev s_place_of : Stmt := top 20
abbrev s_tree_of : Stmt := top 22
abbrev s_grown : Stmt := top 23
abbrev s_half_of : Stmt := top 24
abbrev s_size_of : Stmt := top 25
abbrev s_row_of : Stmt := top 26
abbrev s_row_from : Stmt := top 27
abbrev s_merged : Stmt := top 28
abbrev s_many_in : Stmt := top 30
abbrev s_led : Stmt := top 31
abbrev s_led_stretch : Stmt := top 32
abbrev s_lifted : Stmt := top 33
abbrev s_turned : Stmt := top 35
abbrev s_flipped : Stmt := top 36
abbrev s_wider : Stmt := top 37
abbrev s_nth_least : Stmt := top 39
abbrev s_way_of_nth : Stmt := top 40
abbrev s_nth_alike : Stmt := top 41
abbrev s_many_lesser : Stmt := top 42
abbrev s_below : Stmt := top 43
abbrev s__law_pen : Stmt := top 45
abbrev s__law_mixed : Stmt := top 46
abbrev s__law_take : Stmt := top 47
abbrev s__law_bounds : Stmt := top 48
abbrev s__law_row : Stmt := top 49
abbrev s__law_tree : Stmt := top 50
abbrev s__law_plain : Stmt := top 51
abbrev s__law_is : Stmt := top 52
abbrev s__law_widened : Stmt := top 53
abbrev s__law_asked : Stmt := top 54
abbrev s__law_right : Stmt := top 55
abbrev s_law : Stmt := top 56
theorem sc_is_whole : FnScope ["thing"] ["thing"] (defScope s_is_whole) := ⟨rfl, rfl, rfl, by decide +kernel, rfl, by decide +kernel, by decide +kernel⟩
theorem sc_is_bounds : FnScope ["thing"] ["thing"] (defScope s_is_bounds) := ⟨rfl, rfl, rfl, by decide +kernel, rfl, by decide +kernel, by decide +kernel⟩
theorem sc_is_low : FnScope ["thing"] ["thing"] (defScope s_is_low) := ⟨rfl, rfl, rfl, by decide +kernel, rfl, by decide +kernel, by decide +kernel⟩
theorem sc_is_levels : FnScope ["thing"] ["thing"] (defScope s_is_levels) := ⟨rfl, rfl, rfl, by decide +kernel, rfl, by decide +kernel, by decide +kernel⟩
theorem sc_many_worths : FnScope ["levels", "many", "level"] ["levels"] (defScope s_many_worths) := ⟨rfl, rfl, rfl, by decide +kernel, rfl, by decide +kernel, by decide +kernel⟩
theorem sc_top_of : FnScope ["bounds"] ["bounds"] (defScope s_top_of) := ⟨rfl, rfl, rfl, by decide +kernel, rfl, by decide +kernel, by decide +kernel⟩
theorem sc_where : FnScope ["bounds", "number"] ["bounds", "number"] (defScope s_where) := ⟨rfl, rfl, rfl, by decide +kernel, rfl, by decide +kernel, by decide +kernel⟩
theorem sc_span_of : FnScope ["bounds", "way", "least", "many", "turn"] ["bounds", "way"] (defScope s_span_of) := ⟨rfl, rfl, rfl, by decide +kernel, rfl, by decide +kernel, by decide +kernel⟩
theorem sc_way_of : FnScope ["bounds", "number", "least", "many", "way", "level"] ["bounds", "number"] (defScope s_way_of) := ⟨rfl, rfl, rfl, by decide +kernel, rfl, by decide +kernel, by decide +kernel⟩
theorem sc_ahead : FnScope ["marks", "mark", "place"] ["marks", "mark", "place"] (defScope s_ahead) := ⟨rfl, rfl, rfl, by decide +kernel, rfl, by decide +kernel, by decide +kernel⟩
theorem sc_place_of : FnScope ["marks", "mark", "number", "left", "place", "other"] ["marks", "mark", "number"] (defScope s_place_of) := ⟨rfl, rfl, rfl, by decide +kernel, rfl, by decide +kernel, by decide +kernel⟩
theorem sc_tree_of : FnScope ["bounds", "row", "number"] ["bounds", "row"] (defScope s_tree_of) := ⟨rfl, rfl, rfl, by decide +kernel, rfl, by decide +kernel, by decide +kernel⟩
theorem sc_grown : FnScope ["least", "many", "row", "half", "middle", "marks", "lower", "upper"] ["least", "many", "row"] (defScope s_grown) := ⟨rfl, rfl, rfl, by decide +kernel, rfl, by decide +kernel, by decide +kernel⟩
theorem sc_half_of : FnScope ["tree", "mark"] ["tree", "mark"] (defScope s_half_of) := ⟨rfl, rfl, rfl, by decide +kernel, rfl, by decide +kernel, by decide +kernel⟩
theorem sc_size_of : FnScope ["tree"] ["tree"] (defScope s_size_of) := ⟨rfl, rfl, rfl, by decide +kernel, rfl, by decide +kernel, by decide +kernel⟩
theorem sc_row_of : FnScope ["bounds", "tree"] ["bounds", "tree"] (defScope s_row_of) := ⟨rfl, rfl, rfl, by decide +kernel, rfl, by decide +kernel, by decide +kernel⟩
theorem sc_row_from : FnScope ["least", "many", "tree", "half", "lower", "upper"] ["least", "many", "tree"] (defScope s_row_from) := ⟨rfl, rfl, rfl, by decide +kernel, rfl, by decide +kernel, by decide +kernel⟩
theorem sc_merged : FnScope ["marks", "lower", "upper", "row", "ones", "place", "mark"] ["marks", "lower", "upper"] (defScope s_merged) := ⟨rfl, rfl, rfl, by decide +kernel, rfl, by decide +kernel, by decide +kernel⟩
theorem sc_many_in : FnScope ["gathering"] ["gathering"] (defScope s_many_in) := ⟨rfl, rfl, rfl, by decide +kernel, rfl, by decide +kernel, by decide +kernel⟩
theorem sc_led : FnScope ["gathering", "way"] ["gathering", "way"] (defScope s_led) := ⟨rfl, rfl, rfl, by decide +kernel, rfl, by decide +kernel, by decide +kernel⟩
theorem sc_led_stretch : FnScope ["stretch", "way", "part", "start", "end", "turn", "half"] ["stretch", "way"] (defScope s_led_stretch) := ⟨rfl, rfl, rfl, by decide +kernel, rfl, by decide +kernel, by decide +kernel⟩
theorem sc_lifted : FnScope ["tree", "way", "place", "inner"] ["tree", "way", "place"] (defScope s_lifted) := ⟨rfl, rfl, rfl, by decide +kernel, rfl, by decide +kernel, by decide +kernel⟩
theorem sc_turned : FnScope ["tree"] ["tree"] (defScope s_turned) := ⟨rfl, rfl, rfl, by decide +kernel, rfl, by decide +kernel, by decide +kernel⟩
theorem sc_flipped : FnScope ["tree"] ["tree"] (defScope s_flipped) := ⟨rfl, rfl, rfl, by decide +kernel, rfl, by decide +kernel, by decide +kernel⟩
theorem sc_wider : FnScope ["bounds", "tree", "side", "low", "wide"] ["bounds", "tree", "side"] (defScope s_wider) := ⟨rfl, rfl, rfl, by decide +kernel, rfl, by decide +kernel, by decide +kernel⟩
theorem sc_nth_least : FnScope ["bounds", "gathering", "k", "way", "alike"] ["bounds", "gathering", "k"] (defScope s_nth_least) := ⟨rfl, rfl, rfl, by decide +kernel, rfl, by decide +kernel, by decide +kernel⟩
theorem sc_way_of_nth : FnScope ["levels", "gathering", "k", "way", "parts", "left", "level", "lower", "turn"] ["levels", "gathering", "k"] (defScope s_way_of_nth) := ⟨rfl, rfl, rfl, by decide +kernel, rfl, by decide +kernel, by decide +kernel⟩
theorem sc_nth_alike : FnScope ["gathering", "way", "number", "parts", "left", "j"] ["gathering", "way", "number"] (defScope s_nth_alike) := ⟨rfl, rfl, rfl, by decide +kernel, rfl, by decide +kernel, by decide +kernel⟩
theorem sc_many_lesser : FnScope ["gathering", "way", "many", "parts", "turn"] ["gathering", "way"] (defScope s_many_lesser) := ⟨rfl, rfl, rfl, by decide +kernel, rfl, by decide +kernel, by decide +kernel⟩
theorem sc_below : FnScope ["bounds", "gathering", "number", "side"] ["bounds", "gathering", "number"] (defScope s_below) := ⟨rfl, rfl, rfl, by decide +kernel, rfl, by decide +kernel, by decide +kernel⟩
theorem sc__law_pen : FnScope ["_law_script", "_law_k", "_law_cell"] ["_law_script", "_law_k"] (defScope s__law_pen) := ⟨rfl, rfl, rfl, by decide +kernel, rfl, by decide +kernel, by decide +kernel⟩
theorem sc__law_mixed : FnScope ["_law_pen_here", "_law_number"] ["_law_pen_here"] (defScope s__law_mixed) := ⟨rfl, rfl, rfl, by decide +kernel, rfl, by decide +kernel, by decide +kernel⟩
theorem sc__law_take : FnScope ["_law_pen_here", "_law_size", "_law_found", "_law_wide"] ["_law_pen_here", "_law_size"] (defScope s__law_take) := ⟨rfl, rfl, rfl, by decide +kernel, rfl, by decide +kernel, by decide +kernel⟩
theorem sc__law_bounds : FnScope ["_law_pen_here", "_law_levels", "_law_way", "_law_low"] ["_law_pen_here"] (defScope s__law_bounds) := ⟨rfl, rfl, rfl, by decide +kernel, rfl, by decide +kernel, by decide +kernel⟩
theorem sc__law_row : FnScope ["_law_pen_here", "_law_bounds_here", "_law_longest", "_law_low", "_law_levels", "_law_size", "_law_way", "_law_few", "_law_row_here", "_law_k", "_law_spot"] ["_law_pen_here", "_law_bounds_here", "_law_longest"] (defScope s__law_row) := ⟨rfl, rfl, rfl, by decide +kernel, rfl, by decide +kernel, by decide +kernel⟩
theorem sc__law_tree : FnScope ["_law_low", "_law_levels", "_law_row_here", "_law_half", "_law_marks", "_law_lower"] ["_law_low", "_law_levels", "_law_row_here"] (defScope s__law_tree) := ⟨rfl, rfl, rfl, by decide +kernel, rfl, by decide +kernel, by decide +kernel⟩
theorem sc__law_plain : FnScope ["_law_thing"] ["_law_thing"] (defScope s__law_plain) := ⟨rfl, rfl, rfl, by decide +kernel, rfl, by decide +kernel, by decide +kernel⟩
theorem sc__law_is : FnScope ["_law_found", "_law_bounds_here", "_law_row_here"] ["_law_found", "_law_bounds_here", "_law_row_here"] (defScope s__law_is) := ⟨rfl, rfl, rfl, by decide +kernel, rfl, by decide +kernel, by decide +kernel⟩
theorem sc__law_widened : FnScope ["_law_bounds_here", "_law_tree_here", "_law_side", "_law_caught", "_law_found", "e"] ["_law_bounds_here", "_law_tree_here", "_law_side"] (defScope s__law_widened) := ⟨rfl, rfl, rfl, by decide +kernel, rfl, by decide +kernel, by decide +kernel⟩
theorem sc__law_asked : FnScope ["_law_bounds_here", "_law_tree_here", "_law_row_here", "_law_things", "_law_stretch", "_law_k", "_law_worth"] ["_law_bounds_here", "_law_tree_here", "_law_row_here"] (defScope s__law_asked) := ⟨rfl, rfl, rfl, by decide +kernel, rfl, by decide +kernel, by decide +kernel⟩
theorem sc__law_right : FnScope ["_law_bounds_here", "_law_tree_here", "_law_row_here", "_law_side", "_law_low", "_law_levels", "_law_found"] ["_law_bounds_here", "_law_tree_here", "_law_row_here", "_law_side"] (defScope s__law_right) := ⟨rfl, rfl, rfl, by decide +kernel, rfl, by decide +kernel, by decide +kernel⟩
theorem sc_law : FnScope ["_law_script", "_law_pen_here", "_law_bounds_here", "_law_row_here", "_law_tree_here", "_law_both", "_law_side", "_law_away"] ["_law_script"] (defScope s_law) := ⟨rfl, rfl, rfl, by decide +kernel, rfl, by decide +kernel, by decide +kernel⟩
structure Bz (K : PySem.W.Frag) (mg : Str → Option Value) (cLeastError cBeyond cNoBounds cNoRow cNoSuch cNoText cTooMany : Addr) : Prop where
  ValueError_ : mg "ValueError" = none
  bool_ : mg "bool" = none
  enumerate_ : mg "enumerate" = none
  int_ : mg "int" = none
  isinstance_ : mg "isinstance" = none
  len_ : mg "len" = none
  list_ : mg "list" = none
  max_ : mg "max" = none
  min_ : mg "min" = none
  range_ : mg "range" = none
  reversed_ : mg "reversed" = none
  sorted_ : mg "sorted" = none
  str_ : mg "str" = none
  sum_ : mg "sum" = none
  tuple_ : mg "tuple" = none
  m_LeastError : mg "LeastError" = some (.ref cLeastError)
  m_Beyond : mg "Beyond" = some (.ref cBeyond)
  m_NoBounds : mg "NoBounds" = some (.ref cNoBounds)
  m_NoRow : mg "NoRow" = some (.ref cNoRow)
  m_NoSuch : mg "NoSuch" = some (.ref cNoSuch)
  m_NoText : mg "NoText" = some (.ref cNoText)
  m_TooMany : mg "TooMany" = some (.ref cTooMany)
  own_NoBounds : PySem.W.excIn K cNoBounds bmVE "ValueError.__new__" = true
  ecl : ECls K cNoBounds
  exm : PySem.W.exmOne K (.ref cNoBounds) (.ref cLeastError) = some true
  kA : PySem.W.kitOne K (.ref cNoBounds) (.ref cNoBounds) = some true
  kB : PySem.W.kitOne K (.ref cNoBounds) (.type "ValueError") = some true
  kC : PySem.W.kitAny K (.ref cNoBounds) [.ref cBeyond, .ref cNoRow, .ref cNoSuch, .ref cNoText, .ref cTooMany] = some false
variable {cLeastError cBeyond cNoBounds cNoRow cNoSuch cNoText cTooMany : Addr}
def Wths (low : Int) (L : Nat) (ns : List Int) : Prop := ∀ x ∈ ns, low ≤ x ∧ x < low + 2 ^ L
theorem Wths.snoc {low : Int} {L : Nat} {ns : List Int} {y : Int} (h : Wths low L ns) (h0 : low ≤ y) (h1 : y < low + 2 ^ L) : Wths low L (ns ++ [y]) := fun x hx => by
  rcases List.mem_append.mp hx with h' | h'
  · exact h x h'
  · cases List.mem_singleton.mp h'
    exact ⟨h0, h1⟩
abbrev k_many_worths : Nat := 1
def sp_many_worths (_ : PySem.W.Frag) : Sp := fun vs H Q _ => ∃ L : Nat, vs = [.int (L : Int)] ∧ L ≤ 40 ∧ Q (.int (2 ^ L)) H
abbrev k_top_of : Nat := 2
def sp_top_of (K : PySem.W.Frag) : Sp := fun vs H Q _ => ∃ (b : Addr) (low : Int) (L : Nat), vs = [.ref b] ∧ SqT K H b [.int low, .int (L : Int)] ∧ L ≤ 40 ∧ Q (.int (low + 2 ^ L - 1)) H
section
variable {P : Program} {w : World} {K : PySem.W.Frag} {mg : Str → Option Value} {base : Heap}
theorem ok_many_worths (d : Def K mg "many_worths" s_many_worths ["levels"]) (z : Bz K mg cLeastError cBeyond cNoBounds cNoRow cNoSuch cNoText cTooMany)  : Cal P w K mg base k_many_worths "many_worths" ["levels"] (sp_many_worths K) := by
  have sc := sc_many_worths
  refine d.cal fun f fd F => F.ok sc (fun vs H Q E h => ?_) (fun cdv A outer s H vs Q E hr h => ?_)
  · obtain ⟨L, rfl, _⟩ := h
    rfl
  obtain ⟨L, rfl, hL, q⟩ := h
  refine ⟨_, (pss_cons (ps_set (i := 1) sc.nd rfl (Or.inl rfl) pe_int)
 (pss_cons (ps_for PassesOwn.never rfl (pi_range1 rfl z.range_ (pa_cons (pv 0) pa_nil)) (pg_name (i := 2) sc.nd rfl (Or.inl rfl))
  (pss_one (ps_set (i := 1) sc.nd rfl (Or.inl rfl) (pe_op op_mul (pv 1) pe_int))))
 (pss_one (ps_ret (pv 1))))), ?_⟩
  refine ⟨_, rfl, (L : Int), rfl, by omega, by omega, for_range (n := L) (fun i σ H2 => ∃ v : Option V, σ = [some (.int (L : Int)), some (.int (2 ^ i)), v] ∧ H2 = H) ⟨none, rfl, rfl⟩ ?_ ?_⟩
  · rintro i σ H2 hi ⟨v, rfl, rfl⟩
    refine ⟨_, rfl, _, _, rfl, rfl, .inr ⟨by decide, by decide⟩, ?_⟩
    exact ⟨_, by rw [Int.pow_succ]; rfl, rfl⟩
  · rintro σ H2 ⟨v, rfl, rfl⟩
    exact ⟨_, rfl, q⟩
theorem ok_top_of (d : Def K mg "top_of" s_top_of ["bounds"]) (z : Bz K mg cLeastError cBeyond cNoBounds cNoRow cNoSuch cNoText cTooMany) (c_many_worths : Cal P w K mg base k_many_worths "many_worths" ["levels"] (sp_many_worths K)) : Cal P w K mg base k_top_of "top_of" ["bounds"] (sp_top_of K) := by
  have sc := sc_top_of
  refine d.cal fun f fd F => F.ok sc (fun vs H Q E h => ?_) (fun cdv A outer s H vs Q E hr h => ?_)
  · obtain ⟨b, low, L, rfl, _⟩ := h
    rfl
  obtain ⟨b, low, L, rfl, hb, hL, q⟩ := h
  refine ⟨_, (pss_one (ps_ret (pe_op op_sub (pe_op op_add (pe_ix ix_tup (pv 0) pe_int (fun _ _ => rfl)) (pe_fn c_many_worths (hr.mono (by decide)) (by rfl) (pa_cons (pe_ix ix_tup (pv 0) pe_int (fun _ _ => rfl)) pa_nil))) pe_int))), ?_⟩
  exact ⟨_, rfl, b, _, _, _, rfl, rfl, hb, rfl, _, rfl, b, _, _, _, rfl, rfl, hb, rfl, L, rfl, hL, _, _, rfl, rfl, _, _, rfl, rfl, q⟩
end
abbrev k_where : Nat := 3
def whereS (low : Int) (L : Nat) (n : Int) : Str := if n < low then "below" else if low + 2 ^ L - 1 < n then "above" else "within"
theorem whereS_in {low n : Int} {L : Nat} (h : low ≤ n ∧ n < low + 2 ^ L) : whereS low L n = "within" := by
  unfold whereS
  rw [if_neg (by omega), if_neg (by omega)]
def sp_where (K : PySem.W.Frag) : Sp := fun vs H Q _ => ∃ (b : Addr) (low n : Int) (L : Nat), vs = [.ref b, .int n] ∧ SqT K H b [.int low, .int (L : Int)] ∧ L ≤ 40 ∧ Q (.str (whereS low L n)) H
section
variable {P : Program} {w : World} {K : PySem.W.Frag} {mg : Str → Option Value} {base : Heap}
theorem ok_where (d : Def K mg "where" s_where ["bounds", "number"]) (z : Bz K mg cLeastError cBeyond cNoBounds cNoRow cNoSuch cNoText cTooMany) (c_top_of : Cal P w K mg base k_top_of "top_of" ["bounds"] (sp_top_of K)) : Cal P w K mg base k_where "where" ["bounds", "number"] (sp_where K) := by
  have sc := sc_where
  refine d.cal fun f fd F => F.ok sc (fun vs H Q E h => ?_) (fun cdv A outer s H vs Q E hr h => ?_)
  · obtain ⟨b, low, n, L, rfl, _⟩ := h
    rfl
  obtain ⟨b, low, n, L, rfl, hb, hL, q⟩ := h
  refine ⟨_, (pss_cons (ps_if (pt_cmpR op_lt (pv 1) (pe_ix ix_tup (pv 0) pe_int (fun _ _ => rfl)) (nomark _))
  (pss_one (ps_ret pe_str))
  pss_nil)
 (pss_cons (ps_if (pt_cmpR op_gt (pv 1) (pe_fn c_top_of (hr.mono (by decide)) (by rfl) (pa_cons (pv 0) pa_nil)) (nomark _))
  (pss_one (ps_ret pe_str))
  pss_nil)
 (pss_one (ps_ret pe_str)))), ?_⟩
  unfold whereS at q
  refine ⟨_, rfl, _, rfl, b, _, _, _, rfl, rfl, hb, rfl, _, _, rfl, rfl, _, rfl, ?_⟩
  refine ite2 (fun c => ?_) (fun c => ?_)
  · rw [if_pos (of_decide_eq_true c)] at q
    exact q
  · rw [if_neg (fun z => c (decide_eq_true z))] at q
    refine ⟨_, rfl, _, rfl, b, low, L, rfl, hb, hL, _, _, rfl, rfl, _, rfl, ?_⟩
    refine ite2 (fun c => ?_) (fun c => ?_)
    · rw [if_pos (of_decide_eq_true c)] at q
      exact q
    · rw [if_neg (fun z => c (decide_eq_true z))] at q
      exact q
end
def grow (low : Int) : Nat → List Int → Tr
  | 0, ns => if ns = [] then .non else .many ns.length
  | e + 1, ns => if ns = [] then .non else .part (ns.map fun n => if n < low + 2 ^ e then 0 else 1) (grow low e (ns.filter fun n => decide (n < low + 2 ^ e))) (grow (low + 2 ^ e) e (ns.filter fun n => decide (low + 2 ^ e ≤ n)))
theorem grow_nil (low : Int) (e : Nat) : grow low e [] = .non := by cases e <;> rfl
theorem grow_zero {low : Int} {ns : List Int} (h : ns ≠ []) : grow low 0 ns = .many ns.length := by unfold grow; rw [if_neg h]
theorem grow_succ {low : Int} {e : Nat} {ns : List Int} (h : ns ≠ []) : grow low (e + 1) ns = .part (ns.map fun n => if n < low + 2 ^ e then 0 else 1) (grow low e (ns.filter fun n => decide (n < low + 2 ^ e))) (grow (low + 2 ^ e) e (ns.filter fun n => decide (low + 2 ^ e ≤ n))) := by
  rw [grow, if_neg h]
theorem grow_deep : ∀ (e : Nat) (low : Int) (ns : List Int), (grow low e ns).deep ≤ e
  | 0, low, ns => by
    by_cases h : ns = []
    · rw [h, grow_nil]; exact Nat.le_refl _
    · rw [grow_zero h]; exact Nat.le_refl _
  | e + 1, low, ns => by
    by_cases h : ns = []
    · rw [h, grow_nil]; exact Nat.zero_le _
    · rw [grow_succ h]
      have h1 := grow_deep e low (ns.filter fun n => decide (n < low + 2 ^ e))
      have h2 := grow_deep e (low + 2 ^ e) (ns.filter fun n => decide (low + 2 ^ e ≤ n))
      show max _ _ + 1 ≤ e + 1
      omega
def Tr.fit (b : Nat) : Tr → Prop
  | .non => True
  | .many _ => True
  | .part ms l r => ms.length ≤ b ∧ Tr.fit b l ∧ Tr.fit b r
theorem grow_fit {b : Nat} : ∀ (e : Nat) (low : Int) (ns : List Int), ns.length ≤ b → Tr.fit b (grow low e ns)
  | 0, low, ns, _ => by
    by_cases h : ns = []
    · rw [h, grow_nil]; trivial
    · rw [grow_zero h]; trivial
  | e + 1, low, ns, hl => by
    by_cases h : ns = []
    · rw [h, grow_nil]; trivial
    · rw [grow_succ h]
      exact ⟨by rw [List.length_map]; exact hl, grow_fit e _ _ (Nat.le_trans (List.length_filter_le _ _) hl), grow_fit e _ _ (Nat.le_trans (List.length_filter_le _ _) hl)⟩
abbrev kb_grown : Nat := 0
abbrev kn_grown : Nat := 40
abbrev k_grown : Nat := 41
def spe_grown (K : PySem.W.Frag) (e : Nat) : Sp := fun vs H Q _ => ∃ (least : Int) (a : Addr) (ns : List Int), vs = [.int least, .int (2 ^ e), .ref a] ∧ SqL K H a (ns.map V.int) ∧ ns.length ≤ 1000 ∧ ∀ (H' : Hp) (v : V), Same H H' → TreeAt H' v (grow least e ns) → Q v H'
def sp_grown (K : PySem.W.Frag) : Sp := fun vs H Q E => ∃ e, e ≤ kn_grown ∧ spe_grown K e vs H Q E
section
variable {P : Program} {w : World} {K : PySem.W.Frag} {mg : Str → Option Value} {base : Heap}
theorem ok_grown (d : Def K mg "grown" s_grown ["least", "many", "row"]) (z : Bz K mg cLeastError cBeyond cNoBounds cNoRow cNoSuch cNoText cTooMany)  : Cal P w K mg base k_grown "grown" ["least", "many", "row"] (sp_grown K) := by
  have sc := sc_grown
  refine d.recur (k := kb_grown) (sp := spe_grown K) kn_grown fun e hen c_grown f fd F => F.ok sc (fun vs H Q E h => ?_) (fun cdv A outer s H vs Q E hr h => ?_)
  · obtain ⟨least, a, ns, rfl, _⟩ := h
    rfl
  obtain ⟨least, a, ns, rfl, ha, hl, q⟩ := h
  refine ⟨_, (pss_cons (ps_if (pt_cmpR op_eq (pe_callB call_len_seq (by rfl) z.len_ bt_len (pa_cons (pv 2) pa_nil)) pe_int (nomark _))
  (pss_one (ps_ret pe_non))
  pss_nil)
 (pss_cons (ps_if (pt_cmpR op_eq (pv 1) pe_int (nomark _))
  (pss_one (ps_ret (pe_tup (pa_cons pe_str (pa_cons (pe_callB call_len_seq (by rfl) z.len_ bt_len (pa_cons (pv 2) pa_nil)) pa_nil)))))
  pss_nil)
 (pss_cons (ps_set (i := 3) sc.nd rfl (Or.inl rfl) (pe_op op_fdivB (pv 1) pe_int))
 (pss_cons (ps_set (i := 4) sc.nd rfl (Or.inr rfl) (pe_op op_add (pv 0) (pv 3)))
 (pss_cons (ps_set (i := 5) sc.nd rfl (Or.inl rfl) (pe_callTy call_tupleF (by rfl) z.tuple_ bt_tuple (pa_cons (pe_comp (cl := [("middle", s.heap.objs.size + 1 + 0)]) (cn := ["middle"]) (N := ["middle"]) (fr := [4]) (sc0 := defScope s_grown) rfl (pi_list (pv 2)) (fun C s₂ H₂ fp => (pe_ifExp (pt_cmpR op_lt (pv 0) (pv 1) (nomark _)) pe_int pe_int)) (by with_unfolding_all rfl) ⟨by with_unfolding_all rfl, trivial⟩ rfl rfl rfl ⟨by decide +kernel, by decide +kernel, by decide +kernel, by decide +kernel, by decide +kernel, by decide +kernel, by decide +kernel⟩ rfl) pa_nil)))
 (pss_cons (ps_set (i := 6) sc.nd rfl (Or.inl rfl) (pe_fn c_grown (hr.mono (Nat.le_refl _)) (by rfl) (pa_cons (pv 0) (pa_cons (pv 3) (pa_cons (pe_compIf (cl := [("middle", s.heap.objs.size + 1 + 0)]) (cn := ["middle"]) (N := ["middle"]) (fr := [4]) (sc0 := defScope s_grown) rfl (pi_list (pv 2)) (fun C s₂ H₂ fp => (pv 0)) (fun C s₂ H₂ fp => (pt_cmpR op_lt (pv 0) (pv 1) (nomark _))) (by with_unfolding_all rfl) ⟨by with_unfolding_all rfl, trivial⟩ rfl rfl rfl ⟨by decide +kernel, by decide +kernel, by decide +kernel, by decide +kernel, by decide +kernel, by decide +kernel, by decide +kernel⟩ rfl) pa_nil)))))
 (pss_cons (ps_set (i := 7) sc.nd rfl (Or.inl rfl) (pe_fn c_grown (hr.mono (Nat.le_refl _)) (by rfl) (pa_cons (pv 4) (pa_cons (pv 3) (pa_cons (pe_compIf (cl := [("middle", s.heap.objs.size + 1 + 0)]) (cn := ["middle"]) (N := ["middle"]) (fr := [4]) (sc0 := defScope s_grown) rfl (pi_list (pv 2)) (fun C s₂ H₂ fp => (pv 0)) (fun C s₂ H₂ fp => (pt_cmpR op_ge (pv 0) (pv 1) (nomark _))) (by with_unfolding_all rfl) ⟨by with_unfolding_all rfl, trivial⟩ rfl rfl rfl ⟨by decide +kernel, by decide +kernel, by decide +kernel, by decide +kernel, by decide +kernel, by decide +kernel, by decide +kernel⟩ rfl) pa_nil)))))
 (pss_one (ps_ret (pe_tup (pa_cons pe_str (pa_cons (pv 5) (pa_cons (pv 6) (pa_cons (pv 7) pa_nil)))))))))))))), ?_⟩
  have hz : ns.length ≤ sizeLine := sz hl
  refine ⟨_, rfl, a, _, rfl, .inl ha, rfl, _, rfl, ?_⟩
  refine ite2 (fun c => ?_) (fun c => ?_)
  · have c' : (((ns.map V.int).length : Nat) : Int) = 0 := V.int.inj (of_decide_eq_true c)
    rw [List.length_map] at c'
    have e0 : ns = [] := List.eq_nil_of_length_eq_zero (by omega)
    subst e0
    exact q H .non (Same.refl H) (by rw [grow_nil]; rfl)
  · have hne : ns ≠ [] := fun z => c (by rw [z]; exact decide_eq_true rfl)
    refine ⟨_, rfl, rfl, _, rfl, ?_⟩
    refine ite2 (fun c2 => ?_) (fun c2 => ?_)
    · have e0 : e = 0 := p2one (V.int.inj (of_decide_eq_true c2))
      subst e0
      refine ⟨_, rfl, a, _, rfl, .inl ha, szb rfl, fun p hp => q _ _ (same_new hp _) ?_⟩
      rw [grow_zero hne]
      refine ⟨p, rfl, ?_⟩
      rw [upd_same, List.length_map]
    · cases e with
      | zero => exact absurd (decide_eq_true rfl) c2
      | succ e =>
        refine ⟨_, rfl, _, _, rfl, rfl, ⟨by decide, by decide⟩, ?_⟩
        dsimp only
        rw [p2half]
        refine ⟨_, rfl, _, rfl, _, _, rfl, rfl, ?_⟩
        refine ⟨_, rfl, a, rfl, ⟨_, ha⟩, fun D hD => ?_⟩
        refine comp_ints (g := fun n => .int (if n < least + 2 ^ e then 0 else 1)) ha hD hz (fun n _ H1 Q1 _ q1 => ?_) ?_
        · refine ⟨_, rfl, _, rfl, _, _, rfl, rfl, _, rfl, ?_⟩
          refine ite2 (fun c3 => ?_) (fun c3 => ?_)
          · rw [if_pos (of_decide_eq_true c3)] at q1
            exact q1
          · rw [if_neg (fun z => c3 (decide_eq_true z))] at q1
            exact q1
        have s1 : Same H (upd H D (.lst (ns.map fun n => V.int (if n < least + 2 ^ e then 0 else 1)))) := same_new hD _
        refine ⟨D, _, rfl, SqL.of upd_same, fun m H2 s2 hm => ?_⟩
        have s02 : Same H H2 := s1.trans s2
        have hm' : TupF H2 m ((ns.map fun n => if n < least + 2 ^ e then (0 : Int) else 1).map V.int) := by rw [List.map_map]; exact hm
        refine ⟨_, rfl, _, rfl, _, rfl, a, rfl, ⟨_, s02.seq ha⟩, fun D2 hD2 => ?_⟩
        refine compIf_ints (p := fun n => decide (n < least + 2 ^ e)) (g := V.int) (s02.seq ha) hD2 hz (fun n _ H1 Q1 _ q1 => ⟨_, rfl, _, rfl, _, _, rfl, rfl, _, rfl, q1⟩) (fun n _ _ H1 Q1 _ q1 => ⟨_, rfl, q1⟩) ?_
        refine ⟨least, D2, _, rfl, SqL.of upd_same, Nat.le_trans (List.length_filter_le _ _) hl, fun H3 lo s3 hlo => ?_⟩
        have s03 : Same H H3 := s02.trans ((same_new hD2 _).trans s3)
        refine ⟨_, rfl, _, rfl, _, rfl, a, rfl, ⟨_, s03.seq ha⟩, fun D3 hD3 => ?_⟩
        refine compIf_ints (p := fun n => decide (least + 2 ^ e ≤ n)) (g := V.int) (s03.seq ha) hD3 hz (fun n _ H1 Q1 _ q1 => ⟨_, rfl, _, rfl, _, _, rfl, rfl, _, rfl, q1⟩) (fun n _ _ H1 Q1 _ q1 => ⟨_, rfl, q1⟩) ?_
        refine ⟨least + 2 ^ e, D3, _, rfl, SqL.of upd_same, Nat.le_trans (List.length_filter_le _ _) hl, fun H4 hi s4 hhi => ?_⟩
        have s34 : Same H3 H4 := (same_new hD3 _).trans s4
        refine ⟨_, rfl, _, rfl, _, rfl, szb rfl, fun p hp => q _ _ (s03.trans (s34.trans (same_new hp _))) ?_⟩
        rw [grow_succ hne]
        have sp : Same H4 (upd H4 p (.tup [.str "part", .ref m, lo, hi])) := same_new hp _
        have s24 : Same H2 H4 := (same_new hD2 _).trans (s3.trans s34)
        exact ⟨p, m, lo, hi, rfl, upd_same, (hm'.same s24).same sp, (hlo.same s34).same sp, hhi.same sp⟩
end
abbrev k_tree_of : Nat := 42
def sp_tree_of (K : PySem.W.Frag) : Sp := fun vs H Q _ => ∃ (b a : Addr) (low : Int) (L : Nat) (ns : List Int), vs = [.ref b, .ref a] ∧ SqT K H b [.int low, .int (L : Int)] ∧ L ≤ 40 ∧ SqL K H a (ns.map V.int) ∧ ns.length ≤ 1000 ∧ Wths low L ns ∧
  ∀ (H' : Hp) (v : V), Same H H' → TreeAt H' v (grow low L ns) → Q v H'
section
variable {P : Program} {w : World} {K : PySem.W.Frag} {mg : Str → Option Value} {base : Heap}
theorem ok_tree_of (d : Def K mg "tree_of" s_tree_of ["bounds", "row"]) (z : Bz K mg cLeastError cBeyond cNoBounds cNoRow cNoSuch cNoText cTooMany) (c_grown : Cal P w K mg base k_grown "grown" ["least", "many", "row"] (sp_grown K)) (c_many_worths : Cal P w K mg base k_many_worths "many_worths" ["levels"] (sp_many_worths K)) (c_where : Cal P w K mg base k_where "where" ["bounds", "number"] (sp_where K)) : Cal P w K mg base k_tree_of "tree_of" ["bounds", "row"] (sp_tree_of K) := by
  have sc := sc_tree_of
  refine d.cal fun f fd F => F.ok sc (fun vs H Q E h => ?_) (fun cdv A outer s H vs Q E hr h => ?_)
  · obtain ⟨b, a, low, L, ns, rfl, _⟩ := h
    rfl
  obtain ⟨b, a, low, L, ns, rfl, hb, hL, ha, hl, hw, q⟩ := h
  refine ⟨_, (pss_cons (ps_for PassesOwn.never rfl (pi_list (pv 1)) (pg_name (i := 2) sc.nd rfl (Or.inl rfl))
  (pss_one (ps_if (pt_cmpR op_ne (pe_fn c_where (hr.mono (by decide)) (by rfl) (pa_cons (pv 0) (pa_cons (pv 2) pa_nil))) pe_str (nomark _))
  (pss_one ps_never)
  pss_nil)))
 (pss_one (ps_ret (pe_fn c_grown (hr.mono (by decide)) (by rfl) (pa_cons (pe_ix ix_tup (pv 0) pe_int (fun _ _ => rfl)) (pa_cons (pe_fn c_many_worths (hr.mono (by decide)) (by rfl) (pa_cons (pe_ix ix_tup (pv 0) pe_int (fun _ _ => rfl)) pa_nil)) (pa_cons (pv 1) pa_nil))))))), ?_⟩
  refine ⟨_, rfl, a, rfl, ⟨_, ha⟩, for_list (K := K) (a := a) (xs := ns.map V.int) (fun i σ H2 => ∃ v : Option V, σ = [some (.ref b), some (.ref a), v] ∧ H2 = H) ⟨none, rfl, rfl⟩ (fun i σ H2 _ ⟨_, _, e⟩ => by rw [e]; exact ha) ?_ ?_⟩
  · rintro i x σ H2 hi ⟨v, rfl, rfl⟩
    obtain ⟨n, hn, rfl⟩ := List.mem_map.mp (List.mem_of_getElem? hi)
    refine ⟨_, rfl, _, rfl, b, low, n, L, rfl, hb, hL, rfl, _, rfl, iteNS (by rw [whereS_in (hw n hn)]) ?_⟩
    exact ⟨_, rfl, rfl⟩
  · rintro σ H2 ⟨v, rfl, rfl⟩
    refine ⟨_, rfl, b, _, _, _, rfl, rfl, hb, rfl, _, rfl, b, _, _, _, rfl, rfl, hb, rfl, L, rfl, hL, ?_⟩
    exact ⟨_, rfl, L, hL, low, a, ns, rfl, ha, hl, q⟩
end
abbrev kb__law_tree : Nat := 0
abbrev kn__law_tree : Nat := 40
abbrev k__law_tree : Nat := 41
def spe__law_tree (K : PySem.W.Frag) (e : Nat) : Sp := fun vs H Q _ => ∃ (low : Int) (a : Addr) (ns : List Int), vs = [.int low, .int (e : Int), .ref a] ∧ SqL K H a (ns.map V.int) ∧ ns.length ≤ 1000 ∧ ∀ (H' : Hp) (v : V), Same H H' → TreeAt H' v (grow low e ns) → Q v H'
def sp__law_tree (K : PySem.W.Frag) : Sp := fun vs H Q E => ∃ e, e ≤ kn__law_tree ∧ spe__law_tree K e vs H Q E
section
variable {P : Program} {w : World} {K : PySem.W.Frag} {mg : Str → Option Value} {base : Heap}
theorem ok__law_tree (d : Def K mg "_law_tree" s__law_tree ["_law_low", "_law_levels", "_law_row_here"]) (z : Bz K mg cLeastError cBeyond cNoBounds cNoRow cNoSuch cNoText cTooMany)  : Cal P w K mg base k__law_tree "_law_tree" ["_law_low", "_law_levels", "_law_row_here"] (sp__law_tree K) := by
  have sc := sc__law_tree
  refine d.recur (k := kb__law_tree) (sp := spe__law_tree K) kn__law_tree fun e hen c__law_tree f fd F => F.ok sc (fun vs H Q E h => ?_) (fun cdv A outer s H vs Q E hr h => ?_)
  · obtain ⟨least, a, ns, rfl, _⟩ := h
    rfl
  obtain ⟨least, a, ns, rfl, ha, hl, q⟩ := h
  refine ⟨_, (pss_cons (ps_if (pt_cmpR (op_eqL hr.units) (pv 2) (pe_lst pa_nil) (nomark _))
  (pss_one (ps_ret pe_non))
  pss_nil)
 (pss_cons (ps_if (pt_cmpR op_eq (pv 1) pe_int (nomark _))
  (pss_one (ps_ret (pe_tup (pa_cons pe_str (pa_cons (pe_callB call_len_seq (by rfl) z.len_ bt_len (pa_cons (pv 2) pa_nil)) pa_nil)))))
  pss_nil)
 (pss_cons (ps_set (i := 3) sc.nd rfl (Or.inr rfl) (pe_op op_add (pv 0) (pe_op op_shl pe_int (pe_op op_sub (pv 1) pe_int))))
 (pss_cons (ps_set (i := 4) sc.nd rfl (Or.inl rfl) (pe_callTy call_tupleF (by rfl) z.tuple_ bt_tuple (pa_cons (pe_comp (cl := [("_law_half", s.heap.objs.size + 1 + 0)]) (cn := ["_law_half"]) (N := ["_law_half"]) (fr := [3]) (sc0 := defScope s__law_tree) rfl (pi_list (pv 2)) (fun C s₂ H₂ fp => (pe_callTy call_int1 (by rfl) z.int_ bt_int (pa_cons (pe_cmpR op_ge (pv 0) (pv 1) (nomark _)) pa_nil))) (by with_unfolding_all rfl) ⟨by with_unfolding_all rfl, trivial⟩ rfl rfl rfl ⟨by decide +kernel, by decide +kernel, by decide +kernel, by decide +kernel, by decide +kernel, by decide +kernel, by decide +kernel⟩ rfl) pa_nil)))
 (pss_cons (ps_set (i := 5) sc.nd rfl (Or.inl rfl) (pe_fn c__law_tree (hr.mono (Nat.le_refl _)) (by rfl) (pa_cons (pv 0) (pa_cons (pe_op op_sub (pv 1) pe_int) (pa_cons (pe_compIf (cl := [("_law_half", s.heap.objs.size + 1 + 0)]) (cn := ["_law_half"]) (N := ["_law_half"]) (fr := [3]) (sc0 := defScope s__law_tree) rfl (pi_list (pv 2)) (fun C s₂ H₂ fp => (pv 0)) (fun C s₂ H₂ fp => (pt_cmpR op_lt (pv 0) (pv 1) (nomark _))) (by with_unfolding_all rfl) ⟨by with_unfolding_all rfl, trivial⟩ rfl rfl rfl ⟨by decide +kernel, by decide +kernel, by decide +kernel, by decide +kernel, by decide +kernel, by decide +kernel, by decide +kernel⟩ rfl) pa_nil)))))
 (pss_one (ps_ret (pe_tup (pa_cons pe_str (pa_cons (pv 4) (pa_cons (pv 5) (pa_cons (pe_fn c__law_tree (hr.mono (Nat.le_refl _)) (by rfl) (pa_cons (pv 3) (pa_cons (pe_op op_sub (pv 1) pe_int) (pa_cons (pe_compIf (cl := [("_law_half", s.heap.objs.size + 1 + 0)]) (cn := ["_law_half"]) (N := ["_law_half"]) (fr := [3]) (sc0 := defScope s__law_tree) rfl (pi_list (pv 2)) (fun C s₂ H₂ fp => (pv 0)) (fun C s₂ H₂ fp => (pt_cmpR op_ge (pv 0) (pv 1) (nomark _))) (by with_unfolding_all rfl) ⟨by with_unfolding_all rfl, trivial⟩ rfl rfl rfl ⟨by decide +kernel, by decide +kernel, by decide +kernel, by decide +kernel, by decide +kernel, by decide +kernel, by decide +kernel⟩ rfl) pa_nil)))) pa_nil)))))))))))), ?_⟩
  have hz : ns.length ≤ sizeLine := sz hl
  refine ⟨_, rfl, szb rfl, fun p0 hp0 => ?_⟩
  have s0 : Same H (upd H p0 (.lst [])) := same_new hp0 _
  refine ⟨a, p0, ns, [], rfl, rfl, s0.seq ha, SqL.of upd_same, _, rfl, ?_⟩
  have ha := s0.seq ha
  refine ite2 (fun c => ?_) (fun c => ?_)
  · have e0 : ns = [] := of_decide_eq_true c
    subst e0
    exact q _ .non s0 (by rw [grow_nil]; rfl)
  · have hne : ns ≠ [] := fun z => c (decide_eq_true z)
    generalize hH0 : upd H p0 (.lst []) = H0 at *
    refine ⟨_, rfl, rfl, _, rfl, ?_⟩
    refine ite2 (fun c2 => ?_) (fun c2 => ?_)
    · have e0' : ((e : Nat) : Int) = 0 := V.int.inj (of_decide_eq_true c2)
      have e0 : e = 0 := by omega
      subst e0
      refine ⟨_, rfl, a, _, rfl, .inl ha, szb rfl, fun p hp => q _ _ (s0.trans (same_new hp _)) ?_⟩
      rw [grow_zero hne]
      refine ⟨p, rfl, ?_⟩
      rw [upd_same, List.length_map]
    · cases e with
      | zero => exact absurd (decide_eq_true rfl) c2
      | succ e =>
        have hen' : e + 1 ≤ 40 := hen
        have ee : (((e + 1 : Nat) : Int) - 1) = (e : Int) := by omega
        refine ⟨_, rfl, _, rfl, _, _, rfl, rfl, _, _, rfl, rfl, ⟨by omega, by omega, by decide⟩, _, _, rfl, rfl, ?_⟩
        dsimp only
        rw [ee, shlOne]
        refine ⟨_, rfl, a, rfl, ⟨_, ha⟩, fun D hD => ?_⟩
        refine comp_ints (g := fun n => .int (if n < least + 2 ^ e then 0 else 1)) ha hD hz (fun n _ H1 Q1 _ q1 => ?_) ?_
        · refine ⟨_, rfl, _, rfl, _, _, rfl, rfl, .inr ⟨_, rfl, ?_⟩⟩
          by_cases c3 : n < least + 2 ^ e
          · rw [if_pos c3] at q1
            rw [if_neg (by intro z; have := of_decide_eq_true z; omega)]
            exact q1
          · rw [if_neg c3] at q1
            rw [if_pos (decide_eq_true (by omega))]
            exact q1
        have s1 : Same H0 (upd H0 D (.lst (ns.map fun n => V.int (if n < least + 2 ^ e then 0 else 1)))) := same_new hD _
        refine ⟨D, _, rfl, SqL.of upd_same, fun m H2 s2 hm => ?_⟩
        have s02 : Same H0 H2 := s1.trans s2
        have hm' : TupF H2 m ((ns.map fun n => if n < least + 2 ^ e then (0 : Int) else 1).map V.int) := by rw [List.map_map]; exact hm
        refine ⟨_, rfl, _, rfl, _, _, rfl, rfl, _, rfl, a, rfl, ⟨_, s02.seq ha⟩, fun D2 hD2 => ?_⟩
        refine compIf_ints (p := fun n => decide (n < least + 2 ^ e)) (g := V.int) (s02.seq ha) hD2 hz (fun n _ H1 Q1 _ q1 => ⟨_, rfl, _, rfl, _, _, rfl, rfl, _, rfl, q1⟩) (fun n _ _ H1 Q1 _ q1 => ⟨_, rfl, q1⟩) ?_
        refine ⟨least, D2, _, congrArg (fun t => [V.int least, V.int t, V.ref D2]) ee, SqL.of upd_same, Nat.le_trans (List.length_filter_le _ _) hl, fun H3 lo s3 hlo => ?_⟩
        have s03 : Same H0 H3 := s02.trans ((same_new hD2 _).trans s3)
        refine ⟨_, rfl, _, rfl, _, rfl, _, rfl, _, _, rfl, rfl, _, rfl, a, rfl, ⟨_, s03.seq ha⟩, fun D3 hD3 => ?_⟩
        refine compIf_ints (p := fun n => decide (least + 2 ^ e ≤ n)) (g := V.int) (s03.seq ha) hD3 hz (fun n _ H1 Q1 _ q1 => ⟨_, rfl, _, rfl, _, _, rfl, rfl, _, rfl, q1⟩) (fun n _ _ H1 Q1 _ q1 => ⟨_, rfl, q1⟩) ?_
        refine ⟨least + 2 ^ e, D3, _, congrArg (fun t => [V.int (least + 2 ^ e), V.int t, V.ref D3]) ee, SqL.of upd_same, Nat.le_trans (List.length_filter_le _ _) hl, fun H4 hi s4 hhi => ?_⟩
        have s34 : Same H3 H4 := (same_new hD3 _).trans s4
        refine ⟨szb rfl, fun p hp => q _ _ (s0.trans (s03.trans (s34.trans (same_new hp _)))) ?_⟩
        rw [grow_succ hne]
        have sp : Same H4 (upd H4 p (.tup [.str "part", .ref m, lo, hi])) := same_new hp _
        have s24 : Same H2 H4 := (same_new hD2 _).trans (s3.trans s34)
        exact ⟨p, m, lo, hi, rfl, upd_same, (hm'.same s24).same sp, (hlo.same s34).same sp, hhi.same sp⟩
end
def trSize : Tr → Int
  | .non => 0
  | .many n => n
  | .part ms _ _ => ms.length
def trHalf : Tr → Int → Tr
  | .part _ l r, mk => if mk = 0 then l else r
  | _, _ => .non
theorem grow_size (low : Int) (e : Nat) (ns : List Int) : trSize (grow low e ns) = ns.length := by
  by_cases h : ns = []
  · rw [h, grow_nil]; rfl
  · cases e with
    | zero => rw [grow_zero h]; rfl
    | succ e =>
      rw [grow_succ h]
      show ((List.map _ ns).length : Int) = _
      rw [List.length_map]
abbrev k_size_of : Nat := 1
def sp_size_of (_ : PySem.W.Frag) : Sp := fun vs H Q _ => ∃ (v : V) (t : Tr), vs = [v] ∧ TreeAt H v t ∧ Q (.int (trSize t)) H
section
variable {P : Program} {w : World} {K : PySem.W.Frag} {mg : Str → Option Value} {base : Heap}
theorem ok_size_of (d : Def K mg "size_of" s_size_of ["tree"]) (z : Bz K mg cLeastError cBeyond cNoBounds cNoRow cNoSuch cNoText cTooMany)  : Cal P w K mg base k_size_of "size_of" ["tree"] (sp_size_of K) := by
  have sc := sc_size_of
  refine d.cal fun f fd F => F.ok sc (fun vs H Q E h => ?_) (fun cdv A outer s H vs Q E hr h => ?_)
  · obtain ⟨v, t, rfl, _⟩ := h
    rfl
  obtain ⟨v, t, rfl, ht, q⟩ := h
  refine ⟨_, (pss_cons (ps_if (pt_cmpR op_isN (pv 0) pe_non (nomark _))
  (pss_one (ps_ret pe_int))
  pss_nil)
 (pss_cons (ps_if (pt_cmpR op_eq (pe_ix ix_tup (pv 0) pe_int (fun _ _ => rfl)) pe_str (nomark _))
  (pss_one (ps_ret (pe_ix ix_tup (pv 0) pe_int (fun _ _ => rfl))))
  pss_nil)
 (pss_one (ps_ret (pe_callB call_len_seq (by rfl) z.len_ bt_len (pa_cons (pe_ix ix_tup (pv 0) pe_int (fun _ _ => rfl)) pa_nil)))))), ?_⟩
  refine ⟨_, rfl, rfl, _, rfl, ?_⟩
  cases t with
  | non =>
    cases ht
    exact ite2 (fun c => q) (fun c => absurd (decide_eq_true rfl) c)
  | many n =>
    obtain ⟨a, rfl, ha⟩ := ht
    refine ite2 (fun c => absurd (of_decide_eq_true c) (by intro z; cases z)) (fun c => ?_)
    refine ⟨_, rfl, a, _, _, _, rfl, rfl, SqT.of ha, rfl, rfl, _, rfl, ?_⟩
    refine ite2 (fun c => ?_) (fun c => absurd (decide_eq_true rfl) c)
    exact ⟨_, rfl, a, _, _, _, rfl, rfl, SqT.of ha, rfl, q⟩
  | part ms l r =>
    obtain ⟨a, m, x, y, rfl, ha, hm, hl, hr'⟩ := ht
    refine ite2 (fun c => absurd (of_decide_eq_true c) (by intro z; cases z)) (fun c => ?_)
    refine ⟨_, rfl, a, _, _, _, rfl, rfl, SqT.of ha, rfl, rfl, _, rfl, ?_⟩
    refine ite2 (fun c => absurd (of_decide_eq_true c) (by decide)) (fun c => ?_)
    refine ⟨_, rfl, a, _, _, _, rfl, rfl, SqT.of ha, rfl, m, _, rfl, .inr hm.sq, ?_⟩
    rw [List.length_map]
    exact q
end
abbrev k_half_of : Nat := 1
def sp_half_of (_ : PySem.W.Frag) : Sp := fun vs H Q _ => ∃ (v : V) (t : Tr) (mk : Int), vs = [v, .int mk] ∧ TreeAt H v t ∧ (mk = 0 ∨ mk = 1) ∧ ∀ u, TreeAt H u (trHalf t mk) → Q u H
section
variable {P : Program} {w : World} {K : PySem.W.Frag} {mg : Str → Option Value} {base : Heap}
theorem ok_half_of (d : Def K mg "half_of" s_half_of ["tree", "mark"]) (z : Bz K mg cLeastError cBeyond cNoBounds cNoRow cNoSuch cNoText cTooMany)  : Cal P w K mg base k_half_of "half_of" ["tree", "mark"] (sp_half_of K) := by
  have sc := sc_half_of
  refine d.cal fun f fd F => F.ok sc (fun vs H Q E h => ?_) (fun cdv A outer s H vs Q E hr h => ?_)
  · obtain ⟨v, t, mk, rfl, _⟩ := h
    rfl
  obtain ⟨v, t, mk, rfl, ht, hmk, q⟩ := h
  refine ⟨_, (pss_cons (ps_if (PW.pt (pw_or (pt_cmpR op_isN (pv 0) pe_non (nomark _)) (pw_or1 (pt_cmpR op_eq (pe_ix ix_tup (pv 0) pe_int (fun _ _ => rfl)) pe_str (nomark _)))))
  (pss_one (ps_ret pe_non))
  pss_nil)
 (pss_one (ps_ret (pe_ix ix_tup (pv 0) (pe_op op_add pe_int (pv 1)) (fun _ _ => rfl))))), ?_⟩
  refine ⟨_, rfl, rfl, _, rfl, ?_⟩
  cases t with
  | non =>
    cases ht
    exact ite2 (fun c => q .non rfl) (fun c => absurd (decide_eq_true rfl) c)
  | many n =>
    obtain ⟨a, rfl, ha⟩ := ht
    refine ite2 (fun c => absurd (of_decide_eq_true c) (by intro z; cases z)) (fun c => ?_)
    refine ⟨_, rfl, a, _, _, _, rfl, rfl, SqT.of ha, rfl, rfl, _, rfl, ?_⟩
    exact ite2 (fun c => q .non rfl) (fun c => absurd (decide_eq_true rfl) c)
  | part ms l r =>
    obtain ⟨a, m, x, y, rfl, ha, hm, hl, hr'⟩ := ht
    refine ite2 (fun c => absurd (of_decide_eq_true c) (by intro z; cases z)) (fun c => ?_)
    refine ⟨_, rfl, a, _, _, _, rfl, rfl, SqT.of ha, rfl, rfl, _, rfl, ?_⟩
    refine ite2 (fun c => absurd (of_decide_eq_true c) (by decide)) (fun c => ?_)
    refine ⟨_, rfl, _, rfl, _, _, rfl, rfl, ?_⟩
    rcases hmk with rfl | rfl
    · exact ⟨a, _, _, _, rfl, rfl, SqT.of ha, rfl, q x hl⟩
    · exact ⟨a, _, _, _, rfl, rfl, SqT.of ha, rfl, q y hr'⟩
end
def idxs (p : Int → Bool) : List Int → List Nat
  | [] => []
  | o :: os => if p o = true then 0 :: (idxs p os).map (· + 1) else (idxs p os).map (· + 1)
theorem idxs_comp {p q r : Int → Bool} {f : Int → Int} : ∀ (os : List Int) (k : Nat), (∀ o ∈ os, p o = (q o && r (f o))) → (idxs p os)[k]? = ((idxs r ((os.filter q).map f))[k]?).bind fun j => (idxs q os)[j]?
  | [], k, _ => by simp [idxs]
  | o :: os, k, h => by
    have h0 := h o (List.mem_cons_self ..)
    have ih := fun k => idxs_comp (p := p) (q := q) (r := r) (f := f) os k fun x hx => h x (List.mem_cons_of_mem _ hx)
    cases hq : q o with
    | false =>
      have hp : p o = false := by rw [h0, hq]; rfl
      simp only [idxs, hp, hq, List.filter_cons, Bool.false_eq_true, if_false, List.getElem?_map, ih]
      cases (idxs r ((os.filter q).map f))[k]? <;> simp
    | true =>
      cases hr : r (f o) with
      | false =>
        have hp : p o = false := by rw [h0, hq, hr]; rfl
        simp only [idxs, hp, hq, hr, List.filter_cons, Bool.false_eq_true, if_false, if_true, List.map_cons, List.getElem?_map, ih]
        cases (idxs r ((os.filter q).map f))[k]? <;> simp
      | true =>
        have hp : p o = true := by rw [h0, hq, hr]; rfl
        cases k with
        | zero => simp [idxs, hp, hq, hr, List.filter_cons]
        | succ k =>
          simp only [idxs, hp, hq, hr, List.filter_cons, if_true, List.map_cons, List.getElem?_cons_succ, List.getElem?_map, ih]
          cases (idxs r ((os.filter q).map f))[k]? <;> simp
theorem idxs_true : ∀ (os : List Int), idxs (fun _ => true) os = List.range os.length
  | [] => rfl
  | o :: os => by
    rw [idxs, if_pos rfl, idxs_true os, List.length_cons, List.range_succ_eq_map]
def inW : Nat → Int → List Int → Bool
  | _, _, [] => true
  | 0, _, _ :: _ => false
  | e + 1, o, w :: ws => (o / 2 ^ e == w) && inW e (o % 2 ^ e) ws
def mk0 (e : Nat) (o : Int) : Int := if o < 2 ^ e then 0 else 1
def halfO (e : Nat) (w : Int) (os : List Int) : List Int := (os.filter fun o => mk0 e o == w).map fun o => o % 2 ^ e
theorem div_mk {e : Nat} {o : Int} (h0 : 0 ≤ o) (h1 : o < 2 ^ (e + 1)) : o / 2 ^ e = mk0 e o := by
  have hp : (0 : Int) < 2 ^ e := Int.pow_pos (by decide)
  have hs : (2 : Int) ^ (e + 1) = 2 ^ e + 2 ^ e := by rw [Int.pow_succ]; omega
  unfold mk0
  split
  · exact Int.ediv_eq_zero_of_lt h0 (by assumption)
  · have e1 : o = (o - 2 ^ e) + 1 * 2 ^ e := by omega
    rw [e1, Int.add_mul_ediv_right _ _ (by omega), Int.ediv_eq_zero_of_lt (by omega) (by omega)]
    rfl
def spots (L : Nat) (os ws : List Int) : List Nat := idxs (fun o => inW L o ws) os
theorem spots_cons {e : Nat} {os ws : List Int} {w : Int} (h : ∀ o ∈ os, 0 ≤ o ∧ o < (2 : Int) ^ (e + 1)) (k : Nat) :
    (spots (e + 1) os (w :: ws))[k]? = ((spots e (halfO e w os) ws)[k]?).bind fun j => (idxs (fun o => mk0 e o == w) os)[j]? := by
  unfold spots halfO
  refine idxs_comp os k fun o ho => ?_
  obtain ⟨h0, h1⟩ := h o ho
  show ((o / 2 ^ e == w) && inW e (o % 2 ^ e) ws) = _
  rw [div_mk h0 h1]
def plc (mk : Int) : List Int → Int → Nat → Option Nat
  | [], _, _ => none
  | m :: r, l, i => if m = mk then (if l = 0 then some i else plc mk r (l - 1) (i + 1)) else plc mk r l (i + 1)
theorem plc_idxs {w : Int} {f : Int → Int} : ∀ (os : List Int) (j i : Nat), plc w (os.map f) (j : Int) i = ((idxs (fun o => f o == w) os)[j]?).map (· + i)
  | [], j, i => by simp [plc, idxs]
  | o :: os, j, i => by
    rw [List.map_cons, plc, idxs]
    by_cases c : f o = w
    · rw [if_pos c, if_pos (beq_iff_eq.mpr c)]
      cases j with
      | zero => simp
      | succ j =>
        rw [if_neg (by omega), show (((j + 1 : Nat) : Int) - 1) = (j : Int) by omega, plc_idxs os j (i + 1), List.getElem?_cons_succ, List.getElem?_map, Option.map_map]
        congr 1
        funext x
        show x + (i + 1) = (x + 1) + i
        omega
    · rw [if_neg c, if_neg (by rw [beq_iff_eq]; exact c), plc_idxs os j (i + 1), List.getElem?_map, Option.map_map]
      congr 1
      funext x
      show x + (i + 1) = (x + 1) + i
      omega
def InO (L : Nat) (os : List Int) : Prop := ∀ o ∈ os, 0 ≤ o ∧ o < (2 : Int) ^ L
def growO : Nat → List Int → Tr
  | 0, os => if os = [] then .non else .many os.length
  | e + 1, os => if os = [] then .non else .part (os.map (mk0 e)) (growO e (os.filter fun o => decide (o < 2 ^ e))) (growO e ((os.filter fun o => decide ((2 : Int) ^ e ≤ o)).map fun o => o - 2 ^ e))
theorem growO_nil (e : Nat) : growO e [] = .non := by cases e <;> rfl
theorem growO_zero {os : List Int} (h : os ≠ []) : growO 0 os = .many os.length := by unfold growO; rw [if_neg h]
theorem growO_succ {e : Nat} {os : List Int} (h : os ≠ []) : growO (e + 1) os = .part (os.map (mk0 e)) (growO e (os.filter fun o => decide (o < 2 ^ e))) (growO e ((os.filter fun o => decide ((2 : Int) ^ e ≤ o)).map fun o => o - 2 ^ e)) := by
  rw [growO, if_neg h]
theorem halfO_0 {e : Nat} {os : List Int} (h : InO (e + 1) os) : halfO e 0 os = os.filter fun o => decide (o < 2 ^ e) := by
  unfold halfO
  have e1 : (os.filter fun o => mk0 e o == 0) = os.filter fun o => decide (o < 2 ^ e) := List.filter_congr fun o _ => by
    unfold mk0
    by_cases c : o < 2 ^ e
    · rw [if_pos c, decide_eq_true c]; rfl
    · rw [if_neg c, decide_eq_false c]; rfl
  rw [e1]
  have e2 : ∀ o ∈ (os.filter fun o => decide (o < (2 : Int) ^ e)), o % 2 ^ e = o := fun o ho => by
    obtain ⟨h1, h2⟩ := List.mem_filter.mp ho
    exact Int.emod_eq_of_lt (h o h1).1 (of_decide_eq_true h2)
  rw [List.map_congr_left e2, List.map_id']
theorem halfO_1 {e : Nat} {os : List Int} (h : InO (e + 1) os) : halfO e 1 os = (os.filter fun o => decide ((2 : Int) ^ e ≤ o)).map fun o => o - 2 ^ e := by
  unfold halfO
  have e1 : (os.filter fun o => mk0 e o == 1) = os.filter fun o => decide ((2 : Int) ^ e ≤ o) := List.filter_congr fun o _ => by
    unfold mk0
    by_cases c : o < 2 ^ e
    · rw [if_pos c, decide_eq_false (by omega)]; rfl
    · rw [if_neg c, decide_eq_true (by omega)]; rfl
  rw [e1]
  refine List.map_congr_left fun o ho => ?_
  obtain ⟨h1, h2⟩ := List.mem_filter.mp ho
  have h3 : (2 : Int) ^ e ≤ o := of_decide_eq_true h2
  have h4 := (h o h1).2
  have hs : (2 : Int) ^ (e + 1) = 2 ^ e + 2 ^ e := by rw [Int.pow_succ]; omega
  have e3 : o = (o - 2 ^ e) + 2 ^ e := by omega
  have e4 : o % 2 ^ e = (o - 2 ^ e) % 2 ^ e := by rw [e3, Int.add_emod_right]; congr 1; omega
  rw [e4]
  exact Int.emod_eq_of_lt (by omega) (by omega)
theorem halfO_in {e : Nat} {os : List Int} {w : Int} : InO e (halfO e w os) := fun o ho => by
  obtain ⟨x, _, rfl⟩ := List.mem_map.mp ho
  have hp : (0 : Int) < 2 ^ e := Int.pow_pos (by decide)
  exact ⟨Int.emod_nonneg _ (by omega), Int.emod_lt_of_pos _ hp⟩
theorem halfO_len {e : Nat} {os : List Int} {w : Int} : (halfO e w os).length ≤ os.length := by
  unfold halfO
  rw [List.length_map]
  exact List.length_filter_le _ _
theorem growO_half {e : Nat} {os : List Int} {w : Int} (h : InO (e + 1) os) (hw : w = 0 ∨ w = 1) : trHalf (growO (e + 1) os) w = growO e (halfO e w os) := by
  by_cases hn : os = []
  · subst hn
    rw [growO_nil]
    show Tr.non = growO e ([] : List Int)
    rw [growO_nil]
  · rw [growO_succ hn]
    rcases hw with rfl | rfl
    · rw [halfO_0 h]; rfl
    · rw [halfO_1 h]; rfl
theorem growO_size (e : Nat) (os : List Int) : trSize (growO e os) = os.length := by
  by_cases h : os = []
  · rw [h, growO_nil]; rfl
  · cases e with
    | zero => rw [growO_zero h]; rfl
    | succ e =>
      rw [growO_succ h]
      show ((List.map _ os).length : Int) = _
      rw [List.length_map]
theorem spots_nil {L : Nat} {ws : List Int} : spots L [] ws = [] := rfl
theorem spots_empty {L : Nat} {os : List Int} : spots L os [] = List.range os.length := by
  unfold spots
  have e : (fun o => inW L o []) = fun _ => true := by
    funext o
    cases L <;> rfl
  rw [e, idxs_true]
theorem spots_down {e : Nat} {os ws : List Int} {w : Int} (h : InO (e + 1) os) (k : Nat) :
    (spots (e + 1) os (w :: ws))[k]? = ((spots e (halfO e w os) ws)[k]?).bind fun j => plc w (os.map (mk0 e)) (j : Int) 0 := by
  rw [spots_cons h]
  congr 1
  funext j
  rw [plc_idxs]
  simp
def B01 (l : List Int) : Prop := ∀ m ∈ l, m = 0 ∨ m = 1
theorem drop_cons {l : List Int} {i : Nat} {m : Int} (h : l[i]? = some m) : l.drop i = m :: l.drop (i + 1) := by
  obtain ⟨h1, h2⟩ := List.getElem?_eq_some_iff.mp h
  rw [List.drop_eq_getElem_cons h1, h2]
theorem plc_cons {mk m l : Int} {r : List Int} {i : Nat} : plc mk (m :: r) l i = if m = mk then (if l = 0 then some i else plc mk r (l - 1) (i + 1)) else plc mk r l (i + 1) := rfl
theorem cut_take (ms : List Int) (k : Nat) : cutV (ms.map V.int) none (some (k : Int)) = (ms.take k).map V.int := by
  unfold cutV
  rw [HT.sIx_nat, HT.sIx_none, List.drop_zero, Nat.sub_zero, List.map_take]
  by_cases h : k ≤ (ms.map V.int).length
  · rw [Nat.min_eq_left h]
  · rw [Nat.min_eq_right (by omega), List.take_length, List.take_of_length_le (by omega)]
abbrev k_place_of : Nat := 1
def sp_place_of (K : PySem.W.Frag) : Sp := fun vs H Q _ => ∃ (t : Addr) (ms : List Int) (mk num : Int) (p : Nat), vs = [.ref t, .int mk, .int num] ∧ SqT K H t (ms.map V.int) ∧ plc mk ms num 0 = some p ∧ ∀ H', Same H H' → Q (.int (p : Nat)) H'
section
variable {P : Program} {w : World} {K : PySem.W.Frag} {mg : Str → Option Value} {base : Heap}
theorem ok_place_of (d : Def K mg "place_of" s_place_of ["marks", "mark", "number"]) (z : Bz K mg cLeastError cBeyond cNoBounds cNoRow cNoSuch cNoText cTooMany)  : Cal P w K mg base k_place_of "place_of" ["marks", "mark", "number"] (sp_place_of K) := by
  have sc := sc_place_of
  refine d.cal fun f fd F => F.ok sc (fun vs H Q E h => ?_) (fun cdv A outer s H vs Q E hr h => ?_)
  · obtain ⟨t, ms, mk, num, p0, rfl, _⟩ := h
    rfl
  obtain ⟨t, ms, mk, num, p0, rfl, ht, hp0, q⟩ := h
  refine ⟨_, (pss_cons (ps_set (i := 3) sc.nd rfl (Or.inl rfl) (pv 2))
 (pss_cons (ps_for PassesOwn.never rfl (pi_enum rfl z.enumerate_ (pa_cons (pv 0) pa_nil)) (pg_tup rfl (pgs_cons (pg_name (i := 4) sc.nd rfl (Or.inl rfl)) (pgs_cons (pg_name (i := 5) sc.nd rfl (Or.inl rfl)) pgs_nil)))
  (pss_one (ps_if (pt_cmpR op_eq (pv 5) (pv 1) (nomark _))
  (pss_cons (ps_if (pt_cmpR op_eq (pv 3) pe_int (nomark _))
  (pss_one (ps_ret (pv 4)))
  pss_nil)
 (pss_one (ps_set (i := 3) sc.nd rfl (Or.inl rfl) (pe_op op_sub (pv 3) pe_int))))
  pss_nil)))
 (pss_one ps_never))), ?_⟩
  refine ⟨_, rfl, _, rfl, t, rfl, ⟨_, ht⟩, for_enum (xs := ms.map V.int) (fun i σ H2 => ∃ (L : Int) (v u : Option V), σ = [some (.ref t), some (.int mk), some (.int num), some (.int L), v, u] ∧ Same H H2 ∧ plc mk (ms.drop i) L i = some p0)
    ⟨num, none, none, rfl, Same.refl H, hp0⟩ (fun i σ H2 _ ⟨_, _, _, _, s2, _⟩ => s2.seqT ht) ?_ ?_⟩
  · rintro i x σ H2 p hx ⟨L, v, u, rfl, s2, hp⟩ hpn
    obtain ⟨m, gm, rfl⟩ : ∃ m, ms[i]? = some m ∧ V.int m = x := by
      rw [List.getElem?_map] at hx
      cases e : ms[i]? with
      | none => rw [e] at hx; cases hx
      | some m => rw [e] at hx; exact ⟨m, rfl, Option.some.inj hx⟩
    have s3 : Same H (upd H2 p (.tup [.int (i : Nat), .int m])) := s2.trans (same_new hpn _)
    rw [drop_cons gm, plc_cons] at hp
    refine ⟨p, _, rfl, SqT.of upd_same, rfl, _, _, rfl, _, _, rfl, rfl, ?_⟩
    refine ⟨_, rfl, _, rfl, rfl, _, rfl, ?_⟩
    refine ite2 (fun c => ?_) (fun c => ?_)
    · have c' : m = mk := V.int.inj (of_decide_eq_true c)
      rw [if_pos c'] at hp
      refine ⟨_, rfl, rfl, _, rfl, ?_⟩
      refine ite2 (fun c2 => ?_) (fun c2 => ?_)
      · have c2' : L = 0 := V.int.inj (of_decide_eq_true c2)
        rw [if_pos c2'] at hp
        cases hp
        exact ⟨_, rfl, q _ s3⟩
      · have c2' : ¬ L = 0 := fun z => c2 (by rw [z]; exact decide_eq_true rfl)
        rw [if_neg c2'] at hp
        exact ⟨_, rfl, _, _, rfl, rfl, _, _, _, rfl, s3, hp⟩
    · have c' : ¬ m = mk := fun z => c (by rw [z]; exact decide_eq_true rfl)
      rw [if_neg c'] at hp
      exact ⟨_, _, _, rfl, s3, hp⟩
  · rintro σ H2 ⟨L, v, u, rfl, s2, hp⟩
    rw [List.length_map, List.drop_length] at hp
    cases hp
end
theorem all_flat (ms : List Int) : (ms.map V.int).all flatV = true := by
  rw [List.all_eq_true]
  intro x hx
  obtain ⟨i, _, rfl⟩ := List.mem_map.mp hx
  rfl
theorem count_map (ms : List Int) (m : Int) : (ms.map V.int).countP (fun y => eqV y (.int m)) = ms.count m := by
  rw [List.countP_map, List.count_eq_countP]
  rfl
abbrev k_ahead : Nat := 1
def sp_ahead (_ : PySem.W.Frag) : Sp := fun vs H Q _ => ∃ (t : Addr) (ms : List Int) (mk : Int) (pl : Nat), vs = [.ref t, .int mk, .int (pl : Int)] ∧ TupF H t (ms.map V.int) ∧ ∀ H', Same H H' → Q (.int ((ms.take pl).count mk : Nat)) H'
section
variable {P : Program} {w : World} {K : PySem.W.Frag} {mg : Str → Option Value} {base : Heap}
theorem ok_ahead (d : Def K mg "ahead" s_ahead ["marks", "mark", "place"]) (z : Bz K mg cLeastError cBeyond cNoBounds cNoRow cNoSuch cNoText cTooMany)  : Cal P w K mg base k_ahead "ahead" ["marks", "mark", "place"] (sp_ahead K) := by
  have sc := sc_ahead
  refine d.cal fun f fd F => F.ok sc (fun vs H Q E h => ?_) (fun cdv A outer s H vs Q E hr h => ?_)
  · obtain ⟨t, ms, mk, pl, rfl, _⟩ := h
    rfl
  obtain ⟨t, ms, mk, pl, rfl, ht, q⟩ := h
  refine ⟨_, (pss_one (ps_ret (pe_bmF PySem.F.plainAttrs_tuple PySem.F.slot_tuple_count PySem.F.type_tuple_count mt_countT (pe_slice sl_tupF (pv 0) po_none (po_some (pe_callB (call_max2 rfl) (by rfl) z.max_ bt_max (pa_cons (pv 2) (pa_cons pe_int pa_nil))))) (pa_cons (pv 1) pa_nil)))), ?_⟩
  have e1 : (if (0 : Int) > (pl : Int) then (0 : Int) else (pl : Int)) = (pl : Int) := if_neg (by omega)
  refine ⟨_, rfl, _, rfl, _, _, rfl, _, rfl, t, _, rfl, ht, fun p H1 s1 h1 => ?_⟩
  rw [e1, cut_take] at h1
  obtain ⟨o, ho, hc, hd⟩ := id h1
  refine ⟨⟨p, o, _, rfl, ho, hc, hd⟩, _, rfl, p, _, _, rfl, rfl, h1.sq, rfl, all_flat _, ?_⟩
  rw [count_map]
  exact q H1 s1
end
abbrev G3 := List Int × Nat × Nat
def GoodS (L : Nat) (g : G3) : Prop := InO L g.1 ∧ g.2.1 ≤ g.2.2 ∧ g.2.2 ≤ g.1.length ∧ g.1.length ≤ 300
def led1 (e : Nat) (w : Int) (g : G3) : G3 := (halfO e w g.1, ((g.1.map (mk0 e)).take g.2.1).count w, ((g.1.map (mk0 e)).take g.2.2).count w)
def ledS : Nat → List Int → G3 → G3
  | _, [], g => g
  | 0, _ :: _, g => g
  | e + 1, w :: ws, g => ledS e ws (led1 e w g)
theorem ledS_empty (L : Nat) (g : G3) : ledS L [] g = g := by cases L <;> rfl
theorem ledS_cons (e : Nat) (w : Int) (ws : List Int) (g : G3) : ledS (e + 1) (w :: ws) g = ledS e ws (led1 e w g) := rfl
theorem count_mk (e : Nat) (w : Int) (os : List Int) : (os.map (mk0 e)).count w = (halfO e w os).length := by
  unfold halfO
  rw [List.length_map, List.count_eq_countP, List.countP_map, List.countP_eq_length_filter]
  rfl
theorem led1_good {e : Nat} {w : Int} {g : G3} (h : GoodS (e + 1) g) : GoodS e (led1 e w g) := by
  obtain ⟨h1, h2, h3, h4⟩ := h
  refine ⟨halfO_in, ?_, ?_, Nat.le_trans halfO_len h4⟩
  · exact (List.take_sublist_take_left h2).count_le w
  · show ((g.1.map (mk0 e)).take g.2.2).count w ≤ (halfO e w g.1).length
    rw [← count_mk]
    exact (List.take_sublist _ _).count_le w
theorem led1_none {e : Nat} {w : Int} {g : G3} (h : halfO e w g.1 = []) : led1 e w g = ([], 0, 0) := by
  have z : ∀ k, ((g.1.map (mk0 e)).take k).count w = 0 := fun k => by
    have h1 := (List.take_sublist k (g.1.map (mk0 e))).count_le w
    rw [count_mk, h, List.length_nil] at h1
    omega
  unfold led1
  rw [h, z, z]
theorem ledS_nil : ∀ (e : Nat) (ws : List Int), ledS e ws ([], 0, 0) = ([], 0, 0)
  | e, [] => ledS_empty e _
  | 0, _ :: _ => rfl
  | e + 1, w :: ws => by
    rw [ledS_cons, led1_none (e := e) (w := w) (g := ([], 0, 0)) rfl]
    exact ledS_nil e ws
def manyG (gs : List G3) : Int := (gs.map fun g => (g.2.2 : Int) - g.2.1).sum
theorem cnt01 {e : Nat} (os : List Int) (k : Nat) : ((os.map (mk0 e)).take k).count 0 + ((os.map (mk0 e)).take k).count 1 = min k os.length := by
  have z : ∀ l : List Int, (l.map (mk0 e)).count 0 + (l.map (mk0 e)).count 1 = l.length := fun l => by
    induction l with
    | nil => rfl
    | cons x l ih =>
      rw [List.map_cons, List.count_cons, List.count_cons, List.length_cons]
      unfold mk0 at ih ⊢
      by_cases c : x < 2 ^ e
      · simp only [c, if_true] at ih ⊢
        simp
        omega
      · simp only [c, if_false] at ih ⊢
        simp
        omega
  rw [← List.map_take, z, List.length_take]
theorem idxs_congr {p q : Int → Bool} : ∀ {os : List Int}, (∀ o ∈ os, p o = q o) → idxs p os = idxs q os
  | [], _ => rfl
  | o :: os, h => by
    rw [idxs, idxs, h o (List.mem_cons_self ..), idxs_congr fun x hx => h x (List.mem_cons_of_mem _ hx)]
def StrAt (H : Hp) (L : Nat) (v : V) (g : G3) : Prop := ∃ t u, v = .ref t ∧ H t = some (.tup [u, .int (g.2.1 : Int), .int (g.2.2 : Int)]) ∧ TreeAt H u (growO L g.1)
def GatAt (H : Hp) (L : Nat) (xs : List V) (gs : List G3) : Prop := xs.length = gs.length ∧ ∀ (j : Nat) (x : V) (g : G3), xs[j]? = some x → gs[j]? = some g → StrAt H L x g
theorem StrAt.tk {H H' : Hp} {L : Nat} {v : V} {g : G3} (h : StrAt H L v g) (k : TKeep H H') : StrAt H' L v g := by
  obtain ⟨t, u, e, h1, h2⟩ := h
  exact ⟨t, u, e, (k _ _).1 h1, h2.tk k⟩
theorem GatAt.tk {H H' : Hp} {L : Nat} {xs : List V} {gs : List G3} (h : GatAt H L xs gs) (k : TKeep H H') : GatAt H' L xs gs := ⟨h.1, fun j x g h1 h2 => (h.2 j x g h1 h2).tk k⟩
theorem GatAt.same {H H' : Hp} {L : Nat} {xs : List V} {gs : List G3} (h : GatAt H L xs gs) (s : Same H H') : GatAt H' L xs gs := h.tk (.same s)
theorem GatAt.nil (H : Hp) (L : Nat) : GatAt H L [] [] := ⟨rfl, fun j x g h1 _ => by simp at h1⟩
theorem snoc_get {α : Type} {l : List α} {x y : α} {j : Nat} (h : (l ++ [x])[j]? = some y) : (j < l.length ∧ l[j]? = some y) ∨ (j = l.length ∧ y = x) := by
  by_cases hj : j < l.length
  · rw [List.getElem?_append_left hj] at h
    exact .inl ⟨hj, h⟩
  · have hlt : j < (l ++ [x]).length := (List.getElem?_eq_some_iff.mp h).1
    rw [List.length_append, List.length_singleton] at hlt
    have e : j = l.length := by omega
    subst e
    rw [List.getElem?_append_right (Nat.le_refl _), Nat.sub_self] at h
    exact .inr ⟨rfl, (Option.some.inj h).symm⟩
theorem GatAt.snoc {H : Hp} {L : Nat} {xs : List V} {gs : List G3} {x : V} {g : G3} (h : GatAt H L xs gs) (hx : StrAt H L x g) : GatAt H L (xs ++ [x]) (gs ++ [g]) := by
  refine ⟨by rw [List.length_append, List.length_append, h.1] <;> rfl, fun j y k h1 h2 => ?_⟩
  have hl := h.1
  rcases snoc_get h1 with ⟨a1, a2⟩ | ⟨a1, a2⟩
  · rcases snoc_get h2 with ⟨b1, b2⟩ | ⟨b1, b2⟩
    · exact h.2 j y k a2 b2
    · omega
  · rcases snoc_get h2 with ⟨b1, b2⟩ | ⟨b1, b2⟩
    · omega
    · rw [a2, b2]; exact hx
theorem Same.own {H H' : Hp} {r : Addr} {o : HO} (k : Same H H') (hr : H r = none) : Same H (upd H' r o) := fun c u z => by
  rw [upd_ne (ne_of_none z hr)]
  exact k c u z
theorem non_growO {H : Hp} {e : Nat} {os : List Int} (h : TreeAt H .non (growO e os)) : os = [] := by
  apply Classical.byContradiction
  intro hn
  cases e with
  | zero =>
    rw [growO_zero hn] at h
    obtain ⟨a, z, _⟩ := h
    cases z
  | succ e =>
    rw [growO_succ hn] at h
    obtain ⟨a, m, x, y, z, _⟩ := h
    cases z
abbrev k_led_stretch : Nat := 2
def sp_led_stretch (K : PySem.W.Frag) : Sp := fun vs H Q _ => ∃ (v : V) (wy : Addr) (L : Nat) (ws : List Int) (g : G3), vs = [v, .ref wy] ∧ StrAt H L v g ∧ GoodS L g ∧ SqT K H wy (ws.map V.int) ∧ ws.length ≤ L ∧ B01 ws ∧
  ∀ (H' : Hp) (v' : V), Same H H' → StrAt H' (L - ws.length) v' (ledS L ws g) → Q v' H'
abbrev k_led : Nat := 3
def sp_led (K : PySem.W.Frag) : Sp := fun vs H Q _ => ∃ (ga wy : Addr) (xs : List V) (L : Nat) (ws : List Int) (gs : List G3), vs = [.ref ga, .ref wy] ∧ SqL K H ga xs ∧ GatAt H L xs gs ∧ (∀ g ∈ gs, GoodS L g) ∧ gs.length ≤ 1000 ∧ SqT K H wy (ws.map V.int) ∧ ws.length ≤ L ∧ B01 ws ∧
  ∀ (H' : Hp) (D : Addr) (ys : List V), Same H H' → H' D = some (.lst ys) → H D = none → GatAt H' (L - ws.length) ys (gs.map (ledS L ws)) → Q (.ref D) H'
abbrev k_many_in : Nat := 1
def sp_many_in (K : PySem.W.Frag) : Sp := fun vs H Q _ => ∃ (ga : Addr) (xs : List V) (L : Nat) (gs : List G3), vs = [.ref ga] ∧ SqL K H ga xs ∧ GatAt H L xs gs ∧ gs.length ≤ 1000 ∧ ∀ H', Same H H' → Q (.int (manyG gs)) H'
section
variable {P : Program} {w : World} {K : PySem.W.Frag} {mg : Str → Option Value} {base : Heap}
theorem ok_many_in (d : Def K mg "many_in" s_many_in ["gathering"]) (z : Bz K mg cLeastError cBeyond cNoBounds cNoRow cNoSuch cNoText cTooMany)  : Cal P w K mg base k_many_in "many_in" ["gathering"] (sp_many_in K) := by
  have sc := sc_many_in
  refine d.cal fun f fd F => F.ok sc (fun vs H Q E h => ?_) (fun cdv A outer s H vs Q E hr h => ?_)
  · obtain ⟨ga, xs, L, gs, rfl, _⟩ := h
    rfl
  obtain ⟨ga, xs, L, gs, rfl, hga, hg, hl, q⟩ := h
  refine ⟨_, (pss_one (ps_ret (pe_callB (call_sumI rfl) (by rfl) z.sum_ bt_sum (pa_cons (pe_comp (cl := []) (cn := []) (N := []) (fr := []) (sc0 := defScope s_many_in) rfl (pi_list (pv 0)) (fun C s₂ H₂ fp => (pe_op op_sub (pe_ix (ix_tupK (K := K) rfl) (pv 0) pe_int (fun _ _ => rfl)) (pe_ix (ix_tupK (K := K) rfl) (pv 0) pe_int (fun _ _ => rfl)))) (by with_unfolding_all rfl) trivial rfl rfl rfl ⟨by decide +kernel, by decide +kernel, by decide +kernel, by decide +kernel, by decide +kernel, by decide +kernel, by decide +kernel⟩ rfl) pa_nil)))), ?_⟩
  have hxl := hg.1
  refine ⟨_, rfl, ga, rfl, ⟨_, hga⟩, fun D hD => ?_⟩
  refine comp_listP (xs := xs) (sz (by omega)) (fun i ys H2 => ys = (gs.take i).map (fun g => V.int ((g.2.2 : Int) - g.2.1)) ∧ i ≤ gs.length ∧ H2 = upd H D (.lst ys)) ⟨by simp, Nat.zero_le _, rfl⟩ (fun i ys H2 ⟨_, _, e⟩ => by rw [e]; exact (same_new hD _).seq hga)
    (fun i ys H2 ⟨e1, e2, e3⟩ => ⟨by rw [e3]; exact upd_same, by rw [e1, List.length_map, List.length_take]; omega⟩) ?_ ?_
  · rintro i x ys H2 hx ⟨e1, e2, rfl⟩
    have hi : i < gs.length := by rw [← hxl]; exact (List.getElem?_eq_some_iff.mp hx).1
    have gi : gs[i]? = some gs[i] := List.getElem?_eq_getElem hi
    generalize gs[i] = g at gi
    obtain ⟨t, u, rfl, ht, _⟩ := hg.2 i x g hx gi
    have ht' : SqT K (upd H D (.lst ys)) t [u, .int (g.2.1 : Int), .int (g.2.2 : Int)] := SqT.of (same_new hD _ _ _ ht)
    refine ⟨_, rfl, t, _, _, _, rfl, rfl, ht', rfl, _, rfl, t, _, _, _, rfl, rfl, ht', rfl, _, _, rfl, rfl, upd_same, ?_, by omega, by rw [upd_upd]⟩
    rw [List.take_add_one, gi, List.map_append, ← e1]
    rfl
  · rintro ys H2 ⟨e1, e2, rfl⟩
    rw [hxl, List.take_length] at e1
    refine ⟨D, gs.map (fun (g : G3) => (g.2.2 : Int) - (g.2.1 : Int)), rfl, SqL.of ?_, q _ (same_new hD _)⟩
    rw [upd_same, e1, List.map_map]
    rfl
theorem ok_led_stretch (d : Def K mg "led_stretch" s_led_stretch ["stretch", "way"]) (z : Bz K mg cLeastError cBeyond cNoBounds cNoRow cNoSuch cNoText cTooMany) (c_ahead : Cal P w K mg base k_ahead "ahead" ["marks", "mark", "place"] (sp_ahead K)) (c_half_of : Cal P w K mg base k_half_of "half_of" ["tree", "mark"] (sp_half_of K)) : Cal P w K mg base k_led_stretch "led_stretch" ["stretch", "way"] (sp_led_stretch K) := by
  have sc := sc_led_stretch
  refine d.cal fun f fd F => F.ok sc (fun vs H Q E h => ?_) (fun cdv A outer s H vs Q E hr h => ?_)
  · obtain ⟨v, wy, L, ws, g, rfl, _⟩ := h
    rfl
  obtain ⟨v, wy, L, ws, g, rfl, ⟨t, u, rfl, ht, hu⟩, hgood, hw, hwl, h01, q⟩ := h
  refine ⟨_, (pss_cons (ps_set (i := 2) sc.nd rfl (Or.inl rfl) (pe_ix ix_tup (pv 0) pe_int (fun _ _ => rfl)))
 (pss_cons (ps_set (i := 3) sc.nd rfl (Or.inl rfl) (pe_ix ix_tup (pv 0) pe_int (fun _ _ => rfl)))
 (pss_cons (ps_set (i := 4) sc.nd rfl (Or.inl rfl) (pe_ix ix_tup (pv 0) pe_int (fun _ _ => rfl)))
 (pss_cons (ps_for PassesOwn.never rfl (pi_tup (pv 1)) (pg_name (i := 5) sc.nd rfl (Or.inl rfl))
  (pss_cons (ps_set (i := 6) sc.nd rfl (Or.inl rfl) (pe_fn c_half_of (hr.mono (by decide)) (by rfl) (pa_cons (pv 2) (pa_cons (pv 5) pa_nil))))
 (pss_cons (ps_if (pt_cmpR op_isN (pv 6) pe_non (nomark _))
  (pss_one (ps_ret (pe_tup (pa_cons pe_non (pa_cons pe_int (pa_cons pe_int pa_nil))))))
  pss_nil)
 (pss_cons (ps_set (i := 3) sc.nd rfl (Or.inl rfl) (pe_fn c_ahead (hr.mono (by decide)) (by rfl) (pa_cons (pe_ix ix_tup (pv 2) pe_int (fun _ _ => rfl)) (pa_cons (pv 5) (pa_cons (pv 3) pa_nil)))))
 (pss_cons (ps_set (i := 4) sc.nd rfl (Or.inl rfl) (pe_fn c_ahead (hr.mono (by decide)) (by rfl) (pa_cons (pe_ix ix_tup (pv 2) pe_int (fun _ _ => rfl)) (pa_cons (pv 5) (pa_cons (pv 4) pa_nil)))))
 (pss_one (ps_set (i := 2) sc.nd rfl (Or.inl rfl) (pv 6))))))))
 (pss_one (ps_ret (pe_tup (pa_cons (pv 2) (pa_cons (pv 3) (pa_cons (pv 4) pa_nil)))))))))), ?_⟩
  have htt : SqT K H t [u, .int (g.2.1 : Int), .int (g.2.2 : Int)] := SqT.of ht
  refine ⟨_, rfl, t, _, _, _, rfl, rfl, htt, rfl, _, rfl, t, _, _, _, rfl, rfl, htt, rfl, _, rfl, t, _, _, _, rfl, rfl, htt, rfl, ?_⟩
  refine ⟨_, rfl, wy, rfl, ⟨_, hw⟩, for_tup (K := K) (a := wy) (xs := ws.map V.int) (fun i σ H2 => ∃ (u' : V) (g' : G3) (v5 v6 : Option V), σ = [some (.ref t), some (.ref wy), some u', some (.int (g'.2.1 : Int)), some (.int (g'.2.2 : Int)), v5, v6] ∧ Same H H2 ∧ TreeAt H2 u' (growO (L - i) g'.1) ∧ GoodS (L - i) g' ∧ i ≤ ws.length ∧ ledS L ws g = ledS (L - i) (ws.drop i) g')
    ⟨u, g, none, none, rfl, Same.refl H, hu, hgood, Nat.zero_le _, rfl⟩ (fun i σ H2 _ ⟨_, _, _, _, _, s2, _⟩ => s2.seqT hw) ?_ ?_⟩
  · rintro i x σ H2 hi ⟨u', g', v5, v6, rfl, s2, hu', hg', hil, hled⟩
    obtain ⟨wv, hwv, rfl⟩ : ∃ t, ws[i]? = some t ∧ x = .int t := by
      rw [List.getElem?_map] at hi
      cases e : ws[i]? with
      | none => rw [e] at hi; cases hi
      | some m => rw [e] at hi; exact ⟨m, rfl, (Option.some.inj hi).symm⟩
    have hil2 : i < ws.length := (List.getElem?_eq_some_iff.mp hwv).1
    have hw01 := h01 wv (List.mem_of_getElem? hwv)
    obtain ⟨e, he⟩ : ∃ e, L - i = e + 1 := ⟨L - i - 1, by omega⟩
    have he2 : L - (i + 1) = e := by omega
    have hdr : ws.drop i = wv :: ws.drop (i + 1) := by
      obtain ⟨h1, h2⟩ := List.getElem?_eq_some_iff.mp hwv
      rw [List.drop_eq_getElem_cons h1, h2]
    rw [he] at hu' hg' hled
    rw [hdr, ledS_cons] at hled
    refine ⟨_, rfl, _, rfl, u', _, wv, rfl, hu', hw01, fun u2 hu2 => ?_⟩
    rw [growO_half hg'.1 hw01] at hu2
    refine ⟨_, rfl, rfl, _, rfl, ?_⟩
    refine ite2 (fun c => ?_) (fun c => ?_)
    · have c' : u2 = .non := of_decide_eq_true c
      subst c'
      have h0 := non_growO hu2
      rw [led1_none h0, ledS_nil] at hled
      refine ⟨szb rfl, fun p hp => q _ _ (s2.trans (same_new hp _)) ?_⟩
      rw [hled]
      exact ⟨p, .non, rfl, upd_same, by rw [growO_nil]; rfl⟩
    · have hne : g'.1 ≠ [] := fun z => c (by
        rw [z] at hu2
        have e0 : halfO e wv [] = [] := rfl
        rw [e0, growO_nil] at hu2
        exact decide_eq_true hu2)
      have hu3 := hu'
      rw [growO_succ hne] at hu3
      obtain ⟨a, m, x1, y1, rfl, ha, hm, _, _⟩ := hu3
      refine ⟨_, rfl, a, _, _, _, rfl, rfl, SqT.of ha, rfl, _, rfl, _, rfl, m, g'.1.map (mk0 e), wv, g'.2.1, rfl, hm, fun H3 s3 => ?_⟩
      refine ⟨_, rfl, a, _, _, _, rfl, rfl, SqT.of (s3 _ _ ha), rfl, _, rfl, _, rfl, m, g'.1.map (mk0 e), wv, g'.2.2, rfl, hm.same s3, fun H4 s4 => ?_⟩
      refine ⟨_, rfl, u2, led1 e wv g', _, _, rfl, s2.trans (s3.trans s4), ?_, ?_, by omega, ?_⟩
      · rw [he2]; exact (hu2.same s3).same s4
      · rw [he2]; exact led1_good hg'
      · rw [he2]; exact hled
  · rintro σ H2 ⟨u', g', v5, v6, rfl, s2, hu', hg', hil, hled⟩
    rw [List.length_map] at hu' hled
    rw [List.drop_length, ledS_empty] at hled
    refine ⟨_, rfl, _, rfl, _, rfl, szb rfl, fun p hp => q _ _ (s2.trans (same_new hp _)) ?_⟩
    rw [hled]
    exact ⟨p, u', rfl, upd_same, hu'.same (same_new hp _)⟩
theorem ok_led (d : Def K mg "led" s_led ["gathering", "way"]) (z : Bz K mg cLeastError cBeyond cNoBounds cNoRow cNoSuch cNoText cTooMany) (c_led_stretch : Cal P w K mg base k_led_stretch "led_stretch" ["stretch", "way"] (sp_led_stretch K)) : Cal P w K mg base k_led "led" ["gathering", "way"] (sp_led K) := by
  have sc := sc_led
  refine d.cal fun f fd F => F.ok sc (fun vs H Q E h => ?_) (fun cdv A outer s H vs Q E hr h => ?_)
  · obtain ⟨ga, wy, xs, L, ws, gs, rfl, _⟩ := h
    rfl
  obtain ⟨ga, wy, xs, L, ws, gs, rfl, hga, hg, hgood, hl, hw, hwl, h01, q⟩ := h
  refine ⟨_, (pss_one (ps_ret (pe_comp (cl := [("way", s.heap.objs.size + 1 + 0)]) (cn := ["way"]) (N := ["way"]) (fr := [1]) (sc0 := defScope s_led) rfl (pi_list (pv 0)) (fun C s₂ H₂ fp => (pe_fn c_led_stretch (hr.mono (by decide)) (by rfl) (pa_cons (pv 0) (pa_cons (pv 1) pa_nil)))) (by with_unfolding_all rfl) ⟨by with_unfolding_all rfl, trivial⟩ rfl rfl rfl ⟨by decide +kernel, by decide +kernel, by decide +kernel, by decide +kernel, by decide +kernel, by decide +kernel, by decide +kernel⟩ rfl))), ?_⟩
  have hxl := hg.1
  refine ⟨_, rfl, ga, rfl, ⟨_, hga⟩, fun D hD => ?_⟩
  refine comp_listP (xs := xs) (sz (by omega)) (fun i ys H2 => H2 D = some (.lst ys) ∧ ys.length = i ∧ Same H H2 ∧ GatAt H2 (L - ws.length) ys ((gs.take i).map (ledS L ws))) ⟨upd_same, rfl, same_new hD _, by simp only [List.take_zero, List.map_nil]; exact GatAt.nil _ _⟩ (fun i ys H2 ⟨_, _, e, _⟩ => e.seq hga)
    (fun i ys H2 ⟨e1, e2, _, _⟩ => ⟨e1, e2⟩) ?_ ?_
  · rintro i x ys H2 hx ⟨e1, e2, s2, hg2⟩
    have hi : i < gs.length := by rw [← hxl]; exact (List.getElem?_eq_some_iff.mp hx).1
    have gi : gs[i]? = some gs[i] := List.getElem?_eq_getElem hi
    generalize gs[i] = g at gi
    refine ⟨_, rfl, _, rfl, x, wy, L, ws, g, rfl, (hg.2 i x g hx gi).tk (.same s2), hgood g (List.mem_of_getElem? gi), s2.seqT hw, hwl, h01, fun H3 v' s3 hv' => ?_⟩
    have e3 := s3 _ _ e1
    have tk : TKeep H3 (upd H3 D (.lst (ys ++ [v']))) := TKeep.set e3
    refine ⟨e3, upd_same, by rw [List.length_append, e2] <;> rfl, Same.own (s2.trans s3) hD, ?_⟩
    rw [List.take_add_one, gi, List.map_append]
    exact ((hg2.same s3).tk tk).snoc (hv'.tk tk)
  · rintro ys H2 ⟨e1, e2, s2, hg2⟩
    rw [hxl, List.take_length] at hg2
    exact q H2 D ys s2 e1 hD hg2
end
theorem filt_takeO {q : Int → Bool} : ∀ (os : List Int) (s : Nat), (os.filter q).take ((os.take s).countP q) = (os.take s).filter q
  | [], s => by simp
  | x :: os, 0 => by simp
  | x :: os, s + 1 => by
    rw [List.take_succ_cons, List.countP_cons, List.filter_cons, List.filter_cons]
    by_cases c : q x = true
    · rw [if_pos c, if_pos c, if_pos c, List.take_succ_cons, filt_takeO os s]
    · rw [if_neg c, if_neg c, if_neg c, Nat.add_zero]
      exact filt_takeO os s
theorem halfO_take {e : Nat} {w : Int} (os : List Int) (s : Nat) : (halfO e w os).take (((os.map (mk0 e)).take s).count w) = halfO e w (os.take s) := by
  unfold halfO
  rw [← List.map_take, ← List.map_take, List.count_eq_countP, List.countP_map]
  congr 1
  exact filt_takeO os s
theorem count_half {e : Nat} {w : Int} {p : Int → Bool} (os : List Int) : (halfO e w os).countP p = os.countP fun o => (mk0 e o == w) && p (o % 2 ^ e) := by
  unfold halfO
  rw [List.countP_map, List.countP_filter]
  congr 1
  funext o
  show (p (o % 2 ^ e) && (mk0 e o == w)) = _
  rw [Bool.and_comm]
theorem inW_step {e : Nat} {o w : Int} {ws : List Int} (h : 0 ≤ o ∧ o < (2 : Int) ^ (e + 1)) : inW (e + 1) o (w :: ws) = ((mk0 e o == w) && inW e (o % 2 ^ e) ws) := by
  show ((o / 2 ^ e == w) && inW e (o % 2 ^ e) ws) = _
  rw [div_mk h.1 h.2]
def selO (L : Nat) (os ws : List Int) : List Int := (os.filter fun o => inW L o ws).map fun o => o % 2 ^ (L - ws.length)
theorem mod_pow {a b : Nat} {o : Int} (h : a ≤ b) : (o % 2 ^ b) % 2 ^ a = o % 2 ^ a := by
  refine Int.emod_emod_of_dvd o ?_
  exact ⟨2 ^ (b - a), by rw [← Int.pow_add]; congr 1; omega⟩
theorem ledS_sel : ∀ (L : Nat) (ws os : List Int) (s t : Nat), ws.length ≤ L → InO L os →
    ledS L ws (os, s, t) = (selO L os ws, (os.take s).countP (fun o => inW L o ws), (os.take t).countP (fun o => inW L o ws)) ∨ (os.length < s ∨ os.length < t)
  | L, [], os, s, t, _, hin => by
    by_cases hs : os.length < s
    · exact .inr (.inl hs)
    · by_cases ht : os.length < t
      · exact .inr (.inr ht)
      · refine .inl ?_
        rw [ledS_empty]
        have e : (fun o => inW L o []) = fun _ => true := by
          funext o
          cases L <;> rfl
        unfold selO
        rw [e]
        have c1 : ∀ l : List Int, l.countP (fun _ => true) = l.length := fun l => by simp
        have c2 : (os.filter fun _ => true) = os := by simp
        rw [c1, c1, c2, List.length_take, List.length_take, Nat.min_eq_left (by omega), Nat.min_eq_left (by omega)]
        have c3 : os.map (fun o => o % 2 ^ (L - ([] : List Int).length)) = os := by
          have : ∀ o ∈ os, o % 2 ^ (L - ([] : List Int).length) = id o := fun o ho => Int.emod_eq_of_lt (hin o ho).1 (hin o ho).2
          rw [List.map_congr_left this, List.map_id]
        rw [c3]
  | 0, _ :: _, _, _, _, h, _ => absurd h (Nat.not_succ_le_zero _)
  | e + 1, w :: ws, os, s, t, h, hin => by
    by_cases hs : os.length < s
    · exact .inr (.inl hs)
    · by_cases ht : os.length < t
      · exact .inr (.inr ht)
      · refine .inl ?_
        have hl : ws.length ≤ e := by rw [List.length_cons] at h; omega
        rw [ledS_cons]
        have hc : ∀ k, ((os.map (mk0 e)).take k).count w ≤ (halfO e w os).length := fun k => by
          rw [← count_mk]
          exact (List.take_sublist _ _).count_le w
        have ih := ledS_sel e ws (halfO e w os) (((os.map (mk0 e)).take s).count w) (((os.map (mk0 e)).take t).count w) hl halfO_in
        rcases ih with ih | ih | ih
        · show ledS e ws (halfO e w os, _, _) = _
          rw [ih, halfO_take, halfO_take, count_half, count_half]
          have hcong : ∀ l : List Int, (∀ o ∈ l, o ∈ os) → l.countP (fun o => (mk0 e o == w) && inW e (o % 2 ^ e) ws) = l.countP fun o => inW (e + 1) o (w :: ws) := fun l hl => by
            refine List.countP_congr fun o ho => ?_
            rw [inW_step (hin o (hl o ho))]
          rw [hcong _ fun o ho => List.mem_of_mem_take ho, hcong _ fun o ho => List.mem_of_mem_take ho]
          have hsel : selO e (halfO e w os) ws = selO (e + 1) os (w :: ws) := by
            unfold selO halfO
            rw [List.filter_map, List.filter_filter, List.map_map, List.length_cons, Nat.add_sub_add_right]
            have f1 : (os.filter fun a => ((fun o => inW e o ws) ∘ fun o => o % 2 ^ e) a && (mk0 e a == w)) = os.filter fun o => inW (e + 1) o (w :: ws) := List.filter_congr fun o ho => by
              rw [inW_step (hin o ho), Bool.and_comm]
              rfl
            rw [f1]
            refine List.map_congr_left fun o _ => ?_
            exact mod_pow (by omega)
          rw [hsel]
        · have := hc s; omega
        · have := hc t; omega
theorem idxs_vals {p : Int → Bool} : ∀ (os : List Int), (idxs p os).map (fun i => (os[i]?).getD 0) = os.filter p
  | [] => rfl
  | o :: os => by
    rw [idxs, List.filter_cons]
    have e : ((idxs p os).map (· + 1)).map (fun i => ((o :: os)[i]?).getD 0) = os.filter p := by
      rw [List.map_map, ← idxs_vals os]
      refine List.map_congr_left fun i _ => ?_
      simp
    by_cases c : p o = true
    · rw [if_pos c, if_pos c, List.map_cons, e]
      rfl
    · rw [if_neg c, if_neg c, e]
theorem cnt_mono {q : Int → Bool} (os : List Int) {a b : Nat} (h : a ≤ b) : (os.take a).countP q ≤ (os.take b).countP q := by
  have e : os.take a = (os.take b).take a := by rw [List.take_take, Nat.min_eq_left h]
  rw [e]
  exact (List.take_sublist a (os.take b)).countP_le
theorem cnt_step {q : Int → Bool} {os : List Int} {i : Nat} {o : Int} (h : os[i]? = some o) (hq : q o = true) : (os.take (i + 1)).countP q = (os.take i).countP q + 1 := by
  rw [List.take_add_one, h, List.countP_append]
  simp [hq]
theorem idxs_get {q : Int → Bool} : ∀ (os : List Int) (j i : Nat), (idxs q os)[j]? = some i → ∃ o, os[i]? = some o ∧ q o = true ∧ (os.take i).countP q = j
  | [], j, i, h => by simp [idxs] at h
  | o :: os, j, i, h => by
    rw [idxs] at h
    by_cases c : q o = true
    · rw [if_pos c] at h
      cases j with
      | zero =>
        have : i = 0 := by simpa using h.symm
        subst this
        exact ⟨o, rfl, c, rfl⟩
      | succ j =>
        have h' : ((idxs q os).map (· + 1))[j]? = some i := by simpa using h
        rw [List.getElem?_map] at h'
        cases e : (idxs q os)[j]? with
        | none => rw [e] at h'; cases h'
        | some i' =>
          rw [e] at h'
          have : i = i' + 1 := (Option.some.inj h').symm
          subst this
          obtain ⟨o', h1, h2, h3⟩ := idxs_get os j i' e
          exact ⟨o', by simpa using h1, h2, by rw [List.take_succ_cons, List.countP_cons, h3, if_pos c]⟩
    · rw [if_neg c] at h
      have h' : ((idxs q os).map (· + 1))[j]? = some i := by simpa using h
      rw [List.getElem?_map] at h'
      cases e : (idxs q os)[j]? with
      | none => rw [e] at h'; cases h'
      | some i' =>
        rw [e] at h'
        have : i = i' + 1 := (Option.some.inj h').symm
        subst this
        obtain ⟨o', h1, h2, h3⟩ := idxs_get os j i' e
        exact ⟨o', by simpa using h1, h2, by rw [List.take_succ_cons, List.countP_cons, h3, if_neg c] <;> rfl⟩
theorem filt_at {q : Int → Bool} : ∀ (os : List Int) (i : Nat) (o : Int), os[i]? = some o → q o = true → (os.filter q)[(os.take i).countP q]? = some o
  | [], i, o, h, _ => by simp at h
  | a :: os, 0, o, h, hq => by
    have : a = o := by simpa using h
    subst this
    rw [List.filter_cons, if_pos hq]
    rfl
  | a :: os, i + 1, o, h, hq => by
    have ih := filt_at os i o (by simpa using h) hq
    rw [List.filter_cons, List.take_succ_cons, List.countP_cons]
    by_cases c : q a = true
    · rw [if_pos c, if_pos c]
      simpa using ih
    · rw [if_neg c, if_neg c]
      simpa using ih
theorem mod_mk {e : Nat} {o w : Int} (h0 : 0 ≤ o) (h1 : o < 2 ^ (e + 1)) (hw : mk0 e o = w) : o % 2 ^ e + w * 2 ^ e = o := by
  have d := div_mk h0 h1
  rw [hw] at d
  have := Int.emod_add_mul_ediv o (2 ^ e)
  rw [d, Int.mul_comm] at this
  exact this
theorem mk0b (e : Nat) (o : Int) : mk0 e o = 0 ∨ mk0 e o = 1 := by
  unfold mk0
  by_cases h : o < 2 ^ e
  · exact .inl (if_pos h)
  · exact .inr (if_neg h)
def sel (g : G3) : List Int := (g.1.take g.2.2).drop g.2.1
def Wh (gs : List G3) : List Int := gs.flatMap sel
theorem sel_len {L : Nat} {g : G3} (h : GoodS L g) : ((sel g).length : Int) = (g.2.2 : Int) - g.2.1 := by
  obtain ⟨_, h1, h2, _⟩ := h
  unfold sel
  rw [List.length_drop, List.length_take, Nat.min_eq_left h2]
  omega
theorem manyG_W {L : Nat} : ∀ {gs : List G3}, (∀ g ∈ gs, GoodS L g) → manyG gs = ((Wh gs).length : Nat)
  | [], _ => rfl
  | g :: gs, h => by
    have ih := manyG_W (gs := gs) fun x hx => h x (List.mem_cons_of_mem _ hx)
    have hg := sel_len (h g List.mem_cons_self)
    unfold manyG at ih ⊢
    unfold Wh at ih ⊢
    rw [List.map_cons, List.sum_cons, ih, List.flatMap_cons, List.length_append]
    omega
theorem halfO_app {e : Nat} {w : Int} (a b : List Int) : halfO e w (a ++ b) = halfO e w a ++ halfO e w b := by
  unfold halfO
  rw [List.filter_append, List.map_append]
theorem cnt_half_len {e : Nat} {w : Int} (os : List Int) : (os.map (mk0 e)).count w = (halfO e w os).length := count_mk e w os
theorem sel_led1 {e : Nat} {w : Int} {g : G3} (h : GoodS (e + 1) g) : sel (led1 e w g) = halfO e w (sel g) := by
  obtain ⟨_, h1, h2, _⟩ := h
  show ((halfO e w g.1).take (((g.1.map (mk0 e)).take g.2.2).count w)).drop (((g.1.map (mk0 e)).take g.2.1).count w) = _
  rw [halfO_take]
  have e1 : g.1.take g.2.2 = g.1.take g.2.1 ++ sel g := by
    unfold sel
    have := (List.take_append_drop g.2.1 (g.1.take g.2.2)).symm
    rw [List.take_take, Nat.min_eq_left h1] at this
    exact this
  rw [e1, halfO_app]
  have e2 : ((g.1.map (mk0 e)).take g.2.1).count w = (halfO e w (g.1.take g.2.1)).length := by
    rw [← List.map_take]
    exact cnt_half_len _
  rw [e2, List.drop_left]
theorem W_led {e : Nat} {w : Int} : ∀ {gs : List G3}, (∀ g ∈ gs, GoodS (e + 1) g) → Wh (gs.map (led1 e w)) = halfO e w (Wh gs)
  | [], _ => rfl
  | g :: gs, h => by
    have ih := W_led (w := w) (gs := gs) fun x hx => h x (List.mem_cons_of_mem _ hx)
    unfold Wh at ih ⊢
    rw [List.map_cons, List.flatMap_cons, List.flatMap_cons, halfO_app, ih, sel_led1 (h g List.mem_cons_self)]
theorem W_in {L : Nat} {gs : List G3} (h : ∀ g ∈ gs, GoodS L g) : InO L (Wh gs) := fun o ho => by
  obtain ⟨g, hg, ho⟩ := List.mem_flatMap.mp ho
  exact (h g hg).1 o (List.mem_of_mem_take (List.mem_of_mem_drop ho))
theorem W_app (a b : List G3) : Wh (a ++ b) = Wh a ++ Wh b := List.flatMap_append
abbrev P2 := Int × Int
theorem half_count {e : Nat} {w x : Int} {ws : List Int} (h : InO (e + 1) ws) (hw : w = 0 ∨ w = 1) (h0 : 0 ≤ x) (h1 : x < 2 ^ e) : (halfO e w ws).count x = ws.count (x + w * 2 ^ e) := by
  rw [List.count_eq_countP, List.count_eq_countP, count_half]
  refine List.countP_congr fun o ho => ?_
  have hin := h o ho
  have hp := p2pos e
  rw [Bool.and_eq_true, beq_iff_eq, beq_iff_eq, beq_iff_eq]
  constructor
  · rintro ⟨a, b⟩
    rw [← b]
    exact (mod_mk hin.1 hin.2 a).symm
  · intro a
    have e2 : (2 : Int) ^ (e + 1) = 2 * 2 ^ e := by rw [Int.pow_succ]; omega
    have hm : mk0 e o = w := by
      unfold mk0
      rcases hw with rfl | rfl
      · rw [if_pos (by omega)]
      · rw [if_neg (by omega)]
    refine ⟨hm, ?_⟩
    have := mod_mk hin.1 hin.2 hm
    omega
theorem half_sum {e : Nat} (ws : List Int) : (halfO e 0 ws).length + (halfO e 1 ws).length = ws.length := by
  have := cnt01 (e := e) ws ws.length
  rw [Nat.min_self, List.take_of_length_le (by simp), cnt_half_len, cnt_half_len] at this
  exact this
theorem same_put2 {H H1 : Hp} {D : Addr} (s : Same H H1) (hD : H D = none) (o : HO) : Same H (upd H1 D o) := fun b u q => by rw [upd_ne (ne_of_none q hD)]; exact s b u q
def wayW : Nat → Int → List Int
  | 0, _ => []
  | e + 1, o => if o < 2 ^ e then 0 :: wayW e o else 1 :: wayW e (o - 2 ^ e)
theorem wayW_lt {e : Nat} {o : Int} (h : o < 2 ^ e) : wayW (e + 1) o = 0 :: wayW e o := by
  show (if o < 2 ^ e then _ else _) = _
  rw [if_pos h]
theorem wayW_ge {e : Nat} {o : Int} (h : ¬ o < 2 ^ e) : wayW (e + 1) o = 1 :: wayW e (o - 2 ^ e) := by
  show (if o < 2 ^ e then _ else _) = _
  rw [if_neg h]
theorem pow2 (e : Nat) : (2 : Int) ^ (e + 1) = 2 ^ e + 2 ^ e := by rw [Int.pow_succ]; omega
theorem pow_half (e : Nat) : (2 : Int) ^ (e + 1) / 2 = 2 ^ e := by rw [Int.pow_succ]; exact Int.mul_ediv_cancel _ (by decide)
theorem wayW_len : ∀ (e : Nat) (o : Int), (wayW e o).length = e
  | 0, _ => rfl
  | e + 1, o => by
    by_cases h : o < 2 ^ e
    · rw [wayW_lt h, List.length_cons, wayW_len e]
    · rw [wayW_ge h, List.length_cons, wayW_len e]
theorem wayW_01 : ∀ (e : Nat) (o : Int), ∀ m ∈ wayW e o, m = 0 ∨ m = 1
  | 0, _, m, hm => by cases hm
  | e + 1, o, m, hm => by
    by_cases h : o < 2 ^ e
    · rw [wayW_lt h] at hm
      rcases List.mem_cons.mp hm with z | z
      · exact .inl z
      · exact wayW_01 e _ m z
    · rw [wayW_ge h] at hm
      rcases List.mem_cons.mp hm with z | z
      · exact .inr z
      · exact wayW_01 e _ m z
theorem where_in {low n : Int} {L : Nat} : whereS low L n = "within" ↔ (low ≤ n ∧ n ≤ low + 2 ^ L - 1) := by
  unfold whereS
  by_cases h : n < low
  · rw [if_pos h]
    exact ⟨fun z => absurd z (by decide), fun z => by omega⟩
  · rw [if_neg h]
    by_cases h2 : low + 2 ^ L - 1 < n
    · rw [if_pos h2]
      exact ⟨fun z => absurd z (by decide), fun z => by omega⟩
    · rw [if_neg h2]
      exact ⟨fun _ => by omega, fun _ => rfl⟩
def mlF : Nat → List Int → List Int → Int
  | _, [], _ => 0
  | 0, _ :: _, _ => 0
  | e + 1, w :: ws, us => (if w = 1 then ((halfO e 0 us).length : Int) else 0) + mlF e ws (halfO e w us)
theorem ml_way : ∀ (e : Nat) (o : Int) (us : List Int), 0 ≤ o → o < 2 ^ e → InO e us → mlF e (wayW e o) us = (us.countP fun x => decide (x < o) : Nat)
  | 0, o, us, h0, h1, hin => by
    have : us.countP (fun x => decide (x < o)) = 0 := List.countP_eq_zero.mpr fun x hx => by
      have := hin x hx
      simp at *
      omega
    rw [this]
    rfl
  | e + 1, o, us, h0, h1, hin => by
    have p := pow2 e
    have hp := p2pos e
    by_cases c : o < 2 ^ e
    · rw [wayW_lt c, mlF, if_neg (by decide), ml_way e o _ h0 c halfO_in, count_half, Int.zero_add]
      congr 1
      refine List.countP_congr fun x hx => ?_
      have hx' := hin x hx
      rw [Bool.and_eq_true, beq_iff_eq, decide_eq_true_eq, decide_eq_true_eq]
      constructor
      · rintro ⟨a, b⟩
        have := mod_mk hx'.1 hx'.2 a
        omega
      · intro a
        have hm : mk0 e x = 0 := by unfold mk0; rw [if_pos (by omega)]
        have := mod_mk hx'.1 hx'.2 hm
        exact ⟨hm, by omega⟩
    · rw [wayW_ge c, mlF, if_pos rfl, ml_way e (o - 2 ^ e) _ (by omega) (by omega) halfO_in, count_half]
      have l0 : (halfO e 0 us).length = us.countP fun x => mk0 e x == 0 := by
        unfold halfO
        rw [List.length_map, List.countP_eq_length_filter]
      rw [l0]
      have key : ∀ us : List Int, (∀ x ∈ us, 0 ≤ x ∧ x < (2 : Int) ^ (e + 1)) → (us.countP fun x => mk0 e x == 0) + (us.countP fun x => (mk0 e x == 1) && decide (x % 2 ^ e < o - 2 ^ e)) = us.countP fun x => decide (x < o) := by
        intro us
        induction us with
        | nil => intro _; rfl
        | cons x us ih =>
          intro h
          have ih' := ih fun y hy => h y (List.mem_cons_of_mem _ hy)
          have hx' := h x List.mem_cons_self
          rw [List.countP_cons, List.countP_cons, List.countP_cons, ← ih']
          rcases mk0b e x with m | m
          · have hxl : x < 2 ^ e := by
              unfold mk0 at m
              by_cases z : x < 2 ^ e
              · exact z
              · rw [if_neg z] at m; omega
            rw [m]
            simp [show x < o by omega]
            omega
          · have := mod_mk hx'.1 hx'.2 m
            have hxg : ¬ x < 2 ^ e := by
              unfold mk0 at m
              intro z
              rw [if_pos z] at m; omega
            rw [m]
            by_cases z : x < o
            · have z2 : x % 2 ^ e < o - 2 ^ e := by omega
              simp [z, z2]
              omega
            · have z2 : ¬ x % 2 ^ e < o - 2 ^ e := by omega
              simp [z, z2]
      have := key us hin
      omega
abbrev k_way_of : Nat := 4
def sp_way_of (K : PySem.W.Frag) : Sp := fun vs H Q _ => ∃ (b : Addr) (low num : Int) (L : Nat), vs = [.ref b, .int num] ∧ SqT K H b [.int low, .int (L : Int)] ∧ L ≤ 40 ∧
  (low ≤ num ∧ num ≤ low + 2 ^ L - 1) ∧ ∀ t H', Same H H' → TupF H' t ((wayW L (num - low)).map V.int) → Q (.ref t) H'
abbrev k_many_lesser : Nat := 4
def sp_many_lesser (K : PySem.W.Frag) : Sp := fun vs H Q _ => ∃ (ga wy : Addr) (xs : List V) (L : Nat) (o : Int) (gs : List G3), vs = [.ref ga, .ref wy] ∧ SqL K H ga xs ∧ GatAt H L xs gs ∧ (∀ g ∈ gs, GoodS L g) ∧ gs.length ≤ 100 ∧ SqT K H wy ((wayW L o).map V.int) ∧ 0 ≤ o ∧ o < 2 ^ L ∧
  ∀ H', Same H H' → Q (.int ((Wh gs).countP fun x => decide (x < o) : Nat)) H'
abbrev k_below : Nat := 5
def sp_below (K : PySem.W.Frag) : Sp := fun vs H Q _ => ∃ (b ga : Addr) (xs : List V) (low num : Int) (L : Nat) (gs : List G3), vs = [.ref b, .ref ga, .int num] ∧ SqT K H b [.int low, .int (L : Int)] ∧ L ≤ 40 ∧ SqL K H ga xs ∧ GatAt H L xs gs ∧ (∀ g ∈ gs, GoodS L g) ∧ gs.length ≤ 100 ∧
  ∀ H', Same H H' → Q (.int ((Wh gs).countP fun x => decide (x < num - low) : Nat)) H'
section
variable {P : Program} {w : World} {K : PySem.W.Frag} {mg : Str → Option Value} {base : Heap}
theorem ok_way_of (d : Def K mg "way_of" s_way_of ["bounds", "number"]) (z : Bz K mg cLeastError cBeyond cNoBounds cNoRow cNoSuch cNoText cTooMany) (c_many_worths : Cal P w K mg base k_many_worths "many_worths" ["levels"] (sp_many_worths K)) (c_where : Cal P w K mg base k_where "where" ["bounds", "number"] (sp_where K)) : Cal P w K mg base k_way_of "way_of" ["bounds", "number"] (sp_way_of K) := by
  have sc := sc_way_of
  refine d.cal fun f fd F => F.ok sc (fun vs H Q E h => ?_) (fun cdv A outer s H vs Q E hr h => ?_)
  · obtain ⟨b, low, num, L, rfl, _⟩ := h
    rfl
  obtain ⟨b, low, num, L, rfl, hb, hL, c', q⟩ := h
  refine ⟨_, (pss_cons (ps_if (pt_cmpR op_ne (pe_fn c_where (hr.mono (by decide)) (by rfl) (pa_cons (pv 0) (pa_cons (pv 1) pa_nil))) pe_str (nomark _))
  (pss_one ps_never)
  pss_nil)
 (pss_cons (ps_set (i := 2) sc.nd rfl (Or.inl rfl) (pe_ix ix_tup (pv 0) pe_int (fun _ _ => rfl)))
 (pss_cons (ps_set (i := 3) sc.nd rfl (Or.inl rfl) (pe_fn c_many_worths (hr.mono (by decide)) (by rfl) (pa_cons (pe_ix ix_tup (pv 0) pe_int (fun _ _ => rfl)) pa_nil)))
 (pss_cons (ps_set (i := 4) sc.nd rfl (Or.inl rfl) (pe_lst pa_nil))
 (pss_cons (ps_for PassesOwn.never rfl (pi_range1 rfl z.range_ (pa_cons (pe_ix ix_tup (pv 0) pe_int (fun _ _ => rfl)) pa_nil)) (pg_name (i := 5) sc.nd rfl (Or.inl rfl))
  (pss_cons (ps_set (i := 3) sc.nd rfl (Or.inl rfl) (pe_op op_fdivB (pv 3) pe_int))
 (pss_one (ps_if (pt_cmpR op_lt (pv 1) (pe_op op_add (pv 2) (pv 3)) (nomark _))
  (pss_one (ps_expr (pe_bm PySem.F.plainAttrs_list PySem.F.slot_list_append PySem.F.type_list_append mt_append (pv 4) (pa_cons pe_int pa_nil))))
  (pss_cons (ps_expr (pe_bm PySem.F.plainAttrs_list PySem.F.slot_list_append PySem.F.type_list_append mt_append (pv 4) (pa_cons pe_int pa_nil)))
 (pss_one (ps_set (i := 2) sc.nd rfl (Or.inl rfl) (pe_op op_add (pv 2) (pv 3)))))))))
 (pss_one (ps_ret (pe_callTy call_tupleF (by rfl) z.tuple_ bt_tuple (pa_cons (pv 4) pa_nil))))))))), ?_⟩
  refine ⟨_, rfl, _, rfl, b, low, num, L, rfl, hb, hL, rfl, _, rfl, ?_⟩
  refine ite2 (fun c => ?_) (fun c => ?_)
  · rw [where_in.mpr c', decide_eq_true rfl] at c
    cases c
  · skip
    refine ⟨_, rfl, b, _, _, _, rfl, rfl, hb, rfl, _, rfl, b, _, _, _, rfl, rfl, hb, rfl, L, rfl, hL, szb rfl, fun wy hwy => ?_⟩
    have hb2 : ∀ o, SqT K (upd H wy o) b [.int low, .int (L : Int)] := fun o => (same_new hwy o).seqT hb
    refine ⟨_, rfl, b, _, _, _, rfl, rfl, hb2 _, rfl, (L : Int), rfl, by omega, by omega, for_range (n := L) (fun i σ H2 => ∃ (le : Int) (ws : List Int) (v : Option V), σ = [some (.ref b), some (.int num), some (.int le), some (.int (2 ^ (L - i))), some (.ref wy), v] ∧
      H2 = upd H wy (.lst (ws.map V.int)) ∧ ws.length = i ∧ 0 ≤ num - le ∧ num - le < 2 ^ (L - i) ∧ wayW L (num - low) = ws ++ wayW (L - i) (num - le)) ⟨low, [], none, rfl, rfl, rfl, by omega, by show num - low < 2 ^ L; omega, rfl⟩ ?_ ?_⟩
    · rintro i σ H2 hi ⟨le, ws, v, rfl, rfl, hl, h0, h1, hw⟩
      obtain ⟨e, he⟩ : ∃ e, L - i = e + 1 := ⟨L - i - 1, by omega⟩
      have he2 : L - (i + 1) = e := by omega
      have p := pow2 e
      have ph := pow_half e
      rw [he] at h1 hw ⊢
      refine ⟨_, rfl, _, _, rfl, rfl, ⟨by decide, by decide⟩, ?_⟩
      refine ⟨_, rfl, _, rfl, _, rfl, _, _, rfl, rfl, _, _, rfl, rfl, _, rfl, ?_⟩
      rw [ph, he2]
      refine ite2 (fun c => ?_) (fun c => ?_)
      · have c2 : num < le + 2 ^ e := of_decide_eq_true c
        rw [wayW_lt (show num - le < 2 ^ e by omega)] at hw
        refine ⟨_, rfl, .inl ⟨rfl, _, SqL.of upd_same⟩, wy, _, _, rfl, rfl, upd_same, ?_, ?_⟩
        · rw [List.length_map]; exact Nat.lt_of_le_of_lt (show ws.length ≤ 1000 by omega) (small1000 (Nat.le_refl _))
        · exact ⟨le, ws ++ [0], some (.int (0 + (i : Int))), congrArg (fun q : Int => [some (V.ref b), some (V.int num), some (V.int le), some (V.int q), some (V.ref wy), some (V.int (0 + (i : Int)))]) ph, by rw [upd_upd, List.map_append] <;> rfl, by rw [List.length_append, hl] <;> rfl, h0, by omega, by rw [hw, List.append_assoc] <;> rfl⟩
      · have c2 : ¬ num < le + 2 ^ e := fun z => c (decide_eq_true z)
        rw [wayW_ge (show ¬ num - le < 2 ^ e by omega)] at hw
        refine ⟨_, rfl, .inl ⟨rfl, _, SqL.of upd_same⟩, wy, _, _, rfl, rfl, upd_same, ?_, ?_⟩
        · rw [List.length_map]; exact Nat.lt_of_le_of_lt (show ws.length ≤ 1000 by omega) (small1000 (Nat.le_refl _))
        · refine ⟨_, rfl, _, rfl, _, _, rfl, rfl, le + 2 ^ e, ws ++ [1], some (.int (0 + (i : Int))), congrArg (fun q : Int => [some (V.ref b), some (V.int num), some (V.int (le + q)), some (V.int q), some (V.ref wy), some (V.int (0 + (i : Int)))]) ph, by rw [upd_upd, List.map_append] <;> rfl, by rw [List.length_append, hl] <;> rfl, by omega, by omega, ?_⟩
          have e2 : num - (le + 2 ^ e) = num - le - 2 ^ e := by omega
          rw [hw, e2, List.append_assoc]
          rfl
    · rintro σ H2 ⟨le, ws, v, rfl, rfl, hl, h0, h1, hw⟩
      rw [Nat.sub_self] at hw
      have hw2 : wayW L (num - low) = ws := by rw [hw]; exact List.append_nil ws
      refine ⟨_, rfl, wy, _, rfl, SqL.of upd_same, fun t H' s' ht => ?_⟩
      exact q t _ ((same_new hwy _).trans s') (by rw [hw2]; exact ht)
theorem ok_many_lesser (d : Def K mg "many_lesser" s_many_lesser ["gathering", "way"]) (z : Bz K mg cLeastError cBeyond cNoBounds cNoRow cNoSuch cNoText cTooMany) (c_led : Cal P w K mg base k_led "led" ["gathering", "way"] (sp_led K)) (c_many_in : Cal P w K mg base k_many_in "many_in" ["gathering"] (sp_many_in K)) : Cal P w K mg base k_many_lesser "many_lesser" ["gathering", "way"] (sp_many_lesser K) := by
  have sc := sc_many_lesser
  refine d.cal fun f fd F => F.ok sc (fun vs H Q E h => ?_) (fun cdv A outer s H vs Q E hr h => ?_)
  · obtain ⟨ga, wy, xs, L, o, gs, rfl, _⟩ := h
    rfl
  obtain ⟨ga, wy, xs, L, o, gs, rfl, hga, hg, hgd, hl, hwy, h0, h1, q⟩ := h
  refine ⟨_, (pss_cons (ps_set (i := 2) sc.nd rfl (Or.inl rfl) pe_int)
 (pss_cons (ps_set (i := 3) sc.nd rfl (Or.inl rfl) (pv 0))
 (pss_cons (ps_for PassesOwn.never rfl (pi_tup (pv 1)) (pg_name (i := 4) sc.nd rfl (Or.inl rfl))
  (pss_cons (ps_if (pt_cmpR op_eq (pv 4) pe_int (nomark _))
  (pss_one (ps_set (i := 2) sc.nd rfl (Or.inl rfl) (pe_op op_add (pv 2) (pe_fn c_many_in (hr.mono (by decide)) (by rfl) (pa_cons (pe_fn c_led (hr.mono (by decide)) (by rfl) (pa_cons (pv 3) (pa_cons (pe_tup (pa_cons pe_int pa_nil)) pa_nil))) pa_nil)))))
  pss_nil)
 (pss_one (ps_set (i := 3) sc.nd rfl (Or.inl rfl) (pe_fn c_led (hr.mono (by decide)) (by rfl) (pa_cons (pv 3) (pa_cons (pe_tup (pa_cons (pv 4) pa_nil)) pa_nil)))))))
 (pss_one (ps_ret (pv 2)))))), ?_⟩
  rw [← ml_way L o (Wh gs) h0 h1 (W_in hgd)] at q
  have hwl := wayW_len L o
  have hw01 := wayW_01 L o
  generalize wayW L o = ws at *
  refine ⟨_, rfl, ?_⟩
  refine ⟨_, rfl, wy, rfl, ⟨_, hwy⟩, for_tup (K := K) (a := wy) (xs := ws.map V.int) (fun i σ H2 => ∃ (m : Int) (pa : Addr) (zs : List V) (gs' : List G3) (v4 : Option V), σ = [some (.ref ga), some (.ref wy), some (.int m), some (.ref pa), v4] ∧ Same H H2 ∧ SqL K H2 pa zs ∧ GatAt H2 (L - i) zs gs' ∧ (∀ g ∈ gs', GoodS (L - i) g) ∧ gs'.length ≤ 100 ∧ i ≤ ws.length ∧ mlF L ws (Wh gs) = m + mlF (L - i) (ws.drop i) (Wh gs'))
    ⟨0, ga, xs, gs, none, rfl, Same.refl H, hga, hg, hgd, hl, Nat.zero_le _, by rw [List.drop_zero, Int.zero_add]; rfl⟩ (fun i σ H2 _ ⟨_, _, _, _, _, _, s2, _⟩ => s2.seqT hwy) ?_ ?_⟩
  · rintro i x σ H2 hi ⟨m, pa, zs, gs', v4, rfl, s2, hpa, hg', hgd', hl', hil, hm⟩
    obtain ⟨wv, hwv, rfl⟩ : ∃ t, ws[i]? = some t ∧ x = .int t := by
      rw [List.getElem?_map] at hi
      cases e : ws[i]? with
      | none => rw [e] at hi; cases hi
      | some m => rw [e] at hi; exact ⟨m, rfl, (Option.some.inj hi).symm⟩
    have hil2 : i < ws.length := (List.getElem?_eq_some_iff.mp hwv).1
    have hv01 := hw01 wv (List.mem_of_getElem? hwv)
    obtain ⟨e, he⟩ : ∃ e, L - i = e + 1 := ⟨L - i - 1, by omega⟩
    have he2 : L - (i + 1) = e := by omega
    rw [he] at hg' hgd' hm
    rw [drop_cons hwv, mlF] at hm
    have el : ∀ w : Int, gs'.map (ledS (e + 1) [w]) = gs'.map (led1 e w) := fun w => List.map_congr_left fun g _ => by rw [ledS_cons, ledS_empty]
    have good1 : ∀ w, ∀ g ∈ gs'.map (led1 e w), GoodS e g := fun w g hg => by
      obtain ⟨g', hg', rfl⟩ := List.mem_map.mp hg
      exact led1_good (hgd' g' hg')
    have step : ∀ (H3 : Hp), Same H2 H3 → ∀ (m' : Int), mlF L ws (Wh gs) = m' + mlF e (ws.drop (i + 1)) (halfO e wv (Wh gs')) → True := fun _ _ _ _ => trivial
    refine ⟨_, rfl, rfl, _, rfl, ?_⟩
    rcases hv01 with rfl | rfl
    · refine ite2 (fun c => absurd (V.int.inj (of_decide_eq_true c)) (by decide)) (fun _ => ?_)
      rw [if_neg (by decide), Int.zero_add] at hm
      refine ⟨_, rfl, _, rfl, szb rfl, fun w1 hw1 => ?_⟩
      have s3 := same_new hw1 (.tup [V.int 0])
      have hw1' : upd H2 w1 (.tup [V.int 0]) w1 = some (.tup [V.int 0]) := upd_same
      generalize upd H2 w1 (.tup [V.int 0]) = H3 at *
      refine ⟨pa, w1, zs, e + 1, [0], gs', rfl, s3.seq hpa, hg'.same s3, hgd', by omega, SqT.of hw1', by simp, (fun x hx => by rw [List.mem_singleton.mp hx]; exact .inl rfl), fun H4 D4 z4 s4 hD4 hD4n hg4 => ?_⟩
      rw [el] at hg4
      exact ⟨m, D4, z4, _, _, rfl, s2.trans (s3.trans s4), SqL.of hD4, by rw [he2]; exact hg4, by rw [he2]; exact good1 0, by rw [List.length_map]; exact hl', by omega, by rw [he2, W_led hgd']; exact hm⟩
    · refine ite2 (fun _ => ?_) (fun c => absurd (decide_eq_true rfl) c)
      rw [if_pos rfl] at hm
      refine ⟨_, rfl, _, rfl, szb rfl, fun w0 hw0 => ?_⟩
      have s3 := same_new hw0 (.tup [V.int 0])
      have hw0' : upd H2 w0 (.tup [V.int 0]) w0 = some (.tup [V.int 0]) := upd_same
      generalize upd H2 w0 (.tup [V.int 0]) = H3 at *
      refine ⟨pa, w0, zs, e + 1, [0], gs', rfl, s3.seq hpa, hg'.same s3, hgd', by omega, SqT.of hw0', by simp, (fun x hx => by rw [List.mem_singleton.mp hx]; exact .inl rfl), fun H4 D4 z4 s4 hD4 hD4n hg4 => ?_⟩
      rw [el] at hg4
      refine ⟨D4, z4, e, _, rfl, SqL.of hD4, hg4, by rw [List.length_map]; omega, fun H5 s5 => ⟨_, _, rfl, rfl, ?_⟩⟩
      have s25 := (s3.trans s4).trans s5
      refine ⟨_, rfl, _, rfl, szb rfl, fun w1 hw1 => ?_⟩
      have s6 := same_new hw1 (.tup [V.int 1])
      have hw1' : upd H5 w1 (.tup [V.int 1]) w1 = some (.tup [V.int 1]) := upd_same
      generalize upd H5 w1 (.tup [V.int 1]) = H6 at *
      have s26 := s25.trans s6
      refine ⟨pa, w1, zs, e + 1, [1], gs', rfl, s26.seq hpa, hg'.same s26, hgd', by omega, SqT.of hw1', by simp, (fun x hx => by rw [List.mem_singleton.mp hx]; exact .inr rfl), fun H7 D7 z7 s7 hD7 hD7n hg7 => ?_⟩
      rw [el] at hg7
      refine ⟨_, D7, z7, _, _, rfl, s2.trans (s26.trans s7), SqL.of hD7, by rw [he2]; exact hg7, by rw [he2]; exact good1 1, by rw [List.length_map]; exact hl', by omega, ?_⟩
      rw [he2, W_led hgd', manyG_W (good1 0), W_led hgd', hm]
      omega
  · rintro σ H2 ⟨m, pa, zs, gs', v4, rfl, s2, hpa, hg', hgd', hl', hil, hm⟩
    rw [List.length_map, List.drop_length] at hm
    have e0 : mlF (L - ws.length) [] (Wh gs') = 0 := by cases L - ws.length <;> rfl
    rw [e0, Int.add_zero] at hm
    rw [hm] at q
    exact ⟨_, rfl, q H2 s2⟩
theorem ok_below (d : Def K mg "below" s_below ["bounds", "gathering", "number"]) (z : Bz K mg cLeastError cBeyond cNoBounds cNoRow cNoSuch cNoText cTooMany) (c_many_in : Cal P w K mg base k_many_in "many_in" ["gathering"] (sp_many_in K)) (c_many_lesser : Cal P w K mg base k_many_lesser "many_lesser" ["gathering", "way"] (sp_many_lesser K)) (c_way_of : Cal P w K mg base k_way_of "way_of" ["bounds", "number"] (sp_way_of K)) (c_where : Cal P w K mg base k_where "where" ["bounds", "number"] (sp_where K)) : Cal P w K mg base k_below "below" ["bounds", "gathering", "number"] (sp_below K) := by
  have sc := sc_below
  refine d.cal fun f fd F => F.ok sc (fun vs H Q E h => ?_) (fun cdv A outer s H vs Q E hr h => ?_)
  · obtain ⟨b, ga, xs, low, num, L, gs, rfl, _⟩ := h
    rfl
  obtain ⟨b, ga, xs, low, num, L, gs, rfl, hb, hL, hga, hg, hgd, hl, q⟩ := h
  refine ⟨_, (pss_cons (ps_set (i := 3) sc.nd rfl (Or.inl rfl) (pe_fn c_where (hr.mono (by decide)) (by rfl) (pa_cons (pv 0) (pa_cons (pv 2) pa_nil))))
 (pss_cons (ps_if (pt_cmpR op_eq (pv 3) pe_str (nomark _))
  (pss_one (ps_ret pe_int))
  pss_nil)
 (pss_cons (ps_if (pt_cmpR op_eq (pv 3) pe_str (nomark _))
  (pss_one (ps_ret (pe_fn c_many_in (hr.mono (by decide)) (by rfl) (pa_cons (pv 1) pa_nil))))
  pss_nil)
 (pss_one (ps_ret (pe_fn c_many_lesser (hr.mono (by decide)) (by rfl) (pa_cons (pv 1) (pa_cons (pe_fn c_way_of (hr.mono (by decide)) (by rfl) (pa_cons (pv 0) (pa_cons (pv 2) pa_nil))) pa_nil)))))))), ?_⟩
  have hin := W_in hgd
  have hp := p2pos L
  refine ⟨_, rfl, _, rfl, b, low, num, L, rfl, hb, hL, ?_⟩
  unfold whereS
  by_cases c1 : num < low
  · rw [if_pos c1]
    refine ⟨_, rfl, rfl, _, rfl, ite2 (fun _ => ?_) (fun c => absurd (decide_eq_true rfl) c)⟩
    have e0 : (Wh gs).countP (fun x => decide (x < num - low)) = 0 := List.countP_eq_zero.mpr fun x hx => by
      have := hin x hx
      simp
      omega
    rw [e0] at q
    exact q H (Same.refl H)
  rw [if_neg c1]
  by_cases c2 : low + 2 ^ L - 1 < num
  · rw [if_pos c2]
    refine ⟨_, rfl, rfl, _, rfl, ite2 (fun c => absurd (of_decide_eq_true c) (by decide)) (fun _ => ?_)⟩
    refine ⟨_, rfl, rfl, _, rfl, ite2 (fun _ => ?_) (fun c => absurd (decide_eq_true rfl) c)⟩
    have e0 : (Wh gs).countP (fun x => decide (x < num - low)) = (Wh gs).length := List.countP_eq_length.mpr fun x hx => by
      have := hin x hx
      exact decide_eq_true (by omega)
    rw [e0] at q
    refine ⟨_, rfl, ga, xs, L, gs, rfl, hga, hg, by omega, fun H1 s1 => ?_⟩
    rw [manyG_W hgd]
    exact q H1 s1
  rw [if_neg c2]
  refine ⟨_, rfl, rfl, _, rfl, ite2 (fun c => absurd (of_decide_eq_true c) (by decide)) (fun _ => ?_)⟩
  refine ⟨_, rfl, rfl, _, rfl, ite2 (fun c => absurd (of_decide_eq_true c) (by decide)) (fun _ => ?_)⟩
  refine ⟨_, rfl, _, rfl, _, rfl, b, low, num, L, rfl, hb, hL, ⟨by omega, by omega⟩, fun t H1 s1 ht => ?_⟩
  exact ⟨ga, t, xs, L, num - low, gs, rfl, s1.seq hga, hg.same s1, hgd, hl, ht.sq, by omega, by omega, fun H2 s2 => q H2 (s1.trans s2)⟩
end
def stS (p : Int × Int) (t : Int) : Int × Int := (if t = 1 then p.1 + p.2 / 2 else p.1, p.2 / 2)
def spanS (low : Int) (L : Nat) (ws : List Int) : Int × Int := ws.foldl stS (low, 2 ^ L)
theorem take_snoc {α : Type} {l : List α} {i : Nat} {x : α} (h : l[i]? = some x) : l.take (i + 1) = l.take i ++ [x] := by rw [List.take_add_one, h]; rfl
theorem ints_get {ws : List Int} {i : Nat} {x : V} (h : (ws.map V.int)[i]? = some x) : ∃ t, ws[i]? = some t ∧ x = .int t := by
  rw [List.getElem?_map] at h
  cases e : ws[i]? with
  | none => rw [e] at h; cases h
  | some t => rw [e] at h; exact ⟨t, rfl, (Option.some.inj h).symm⟩
theorem fold_snoc {α β : Type} {f : β → α → β} {b : β} {l : List α} {i : Nat} {x : α} (h : l[i]? = some x) : (l.take (i + 1)).foldl f b = f ((l.take i).foldl f b) x := by
  rw [take_snoc h, List.foldl_append]; rfl
abbrev k_span_of : Nat := 2
def sp_span_of (K : PySem.W.Frag) : Sp := fun vs H Q _ => ∃ (b wy : Addr) (low : Int) (L : Nat) (ws : List Int), vs = [.ref b, .ref wy] ∧ SqT K H b [.int low, .int (L : Int)] ∧ L ≤ 40 ∧ SqT K H wy (ws.map V.int) ∧
  ∀ p, H p = none → Q (.ref p) (upd H p (.tup [.int (spanS low L ws).1, .int ((spanS low L ws).1 + (spanS low L ws).2 - 1)]))
section
variable {P : Program} {w : World} {K : PySem.W.Frag} {mg : Str → Option Value} {base : Heap}
theorem ok_span_of (d : Def K mg "span_of" s_span_of ["bounds", "way"]) (z : Bz K mg cLeastError cBeyond cNoBounds cNoRow cNoSuch cNoText cTooMany) (c_many_worths : Cal P w K mg base k_many_worths "many_worths" ["levels"] (sp_many_worths K)) : Cal P w K mg base k_span_of "span_of" ["bounds", "way"] (sp_span_of K) := by
  have sc := sc_span_of
  refine d.cal fun f fd F => F.ok sc (fun vs H Q E h => ?_) (fun cdv A outer s H vs Q E hr h => ?_)
  · obtain ⟨b, wy, low, L, ws, rfl, _⟩ := h
    rfl
  obtain ⟨b, wy, low, L, ws, rfl, hb, hL, hw, q⟩ := h
  refine ⟨_, (pss_cons (ps_set (i := 2) sc.nd rfl (Or.inl rfl) (pe_ix ix_tup (pv 0) pe_int (fun _ _ => rfl)))
 (pss_cons (ps_set (i := 3) sc.nd rfl (Or.inl rfl) (pe_fn c_many_worths (hr.mono (by decide)) (by rfl) (pa_cons (pe_ix ix_tup (pv 0) pe_int (fun _ _ => rfl)) pa_nil)))
 (pss_cons (ps_for PassesOwn.never rfl (pi_tup (pv 1)) (pg_name (i := 4) sc.nd rfl (Or.inl rfl))
  (pss_cons (ps_set (i := 3) sc.nd rfl (Or.inl rfl) (pe_op op_fdivB (pv 3) pe_int))
 (pss_one (ps_if (pt_cmpR op_eq (pv 4) pe_int (nomark _))
  (pss_one (ps_set (i := 2) sc.nd rfl (Or.inl rfl) (pe_op op_add (pv 2) (pv 3))))
  pss_nil))))
 (pss_one (ps_ret (pe_tup (pa_cons (pv 2) (pa_cons (pe_op op_sub (pe_op op_add (pv 2) (pv 3)) pe_int) pa_nil)))))))), ?_⟩
  refine ⟨_, rfl, b, _, _, _, rfl, rfl, hb, rfl, _, rfl, b, _, _, _, rfl, rfl, hb, rfl, L, rfl, hL, ?_⟩
  refine ⟨_, rfl, wy, rfl, ⟨_, hw⟩, for_tup (K := K) (a := wy) (xs := ws.map V.int) (fun i σ H2 => ∃ v : Option V, σ = [some (.ref b), some (.ref wy), some (.int ((ws.take i).foldl stS (low, 2 ^ L)).1), some (.int ((ws.take i).foldl stS (low, 2 ^ L)).2), v] ∧ H2 = H)
    ⟨none, rfl, rfl⟩ (fun i σ H2 _ ⟨_, _, e⟩ => by rw [e]; exact hw) ?_ ?_⟩
  · rintro i x σ H2 hi ⟨v, rfl, rfl⟩
    obtain ⟨t, ht, rfl⟩ := ints_get hi
    refine ⟨_, rfl, _, _, rfl, rfl, ⟨by decide, by decide⟩, ?_⟩
    refine ⟨_, rfl, rfl, _, rfl, ?_⟩
    refine ite2 (fun c => ?_) (fun c => ?_)
    · have c' : t = 1 := V.int.inj (of_decide_eq_true c)
      refine ⟨_, rfl, _, rfl, _, _, rfl, rfl, some (.int t), ?_, rfl⟩
      rw [fold_snoc ht]
      unfold stS
      rw [if_pos c']
      rfl
    · have c' : ¬ t = 1 := fun z => c (by rw [z]; exact decide_eq_true rfl)
      refine ⟨some (.int t), ?_, rfl⟩
      rw [fold_snoc ht]
      unfold stS
      rw [if_neg c']
      rfl
  · rintro σ H2 ⟨v, rfl, rfl⟩
    refine ⟨_, rfl, _, rfl, _, rfl, _, _, rfl, rfl, _, _, rfl, rfl, szb rfl, fun p hp => ?_⟩
    have e : ws.take (ws.map V.int).length = ws := by rw [List.length_map]; exact List.take_length
    have q' := q p hp
    unfold spanS at q'
    rw [← e] at q'
    exact q'
end
section
variable {α : Type} {R : Hp → V → α → Prop} {H H' : Hp} {xs ys : List V} {ps qs : List α}
end
theorem span_way : ∀ (e : Nat) (l o : Int), 0 ≤ o → o < 2 ^ e → (wayW e o).foldl stS (l, 2 ^ e) = (l + o, 1)
  | 0, l, o, h0, h1 => by
    have e1 : o = 0 := by
      have z : (2 : Int) ^ 0 = 1 := rfl
      omega
    rw [e1, Int.add_zero]
    rfl
  | e + 1, l, o, h0, h1 => by
    have p := pow2 e
    have q := pow_half e
    by_cases h : o < 2 ^ e
    · rw [wayW_lt h, List.foldl_cons]
      have z : stS (l, 2 ^ (e + 1)) 0 = (l, 2 ^ e) := by unfold stS; rw [if_neg (by decide)]; simp only [q]
      rw [z]
      exact span_way e l o h0 h
    · rw [wayW_ge h, List.foldl_cons]
      have z : stS (l, 2 ^ (e + 1)) 1 = (l + 2 ^ e, 2 ^ e) := by unfold stS; rw [if_pos rfl]; simp only [q]
      rw [z, span_way e (l + 2 ^ e) (o - 2 ^ e) (by omega) (by omega)]
      congr 1
      omega
def kth : Nat → List Int → Nat → Int
  | 0, _, _ => 0
  | e + 1, us, k => if k < (halfO e 0 us).length then kth e (halfO e 0 us) k else 2 ^ e + kth e (halfO e 1 us) (k - (halfO e 0 us).length)
theorem kth_lo {e : Nat} {us : List Int} {k : Nat} (h : k < (halfO e 0 us).length) : kth (e + 1) us k = kth e (halfO e 0 us) k := by rw [kth, if_pos h]
theorem kth_hi {e : Nat} {us : List Int} {k : Nat} (h : ¬ k < (halfO e 0 us).length) : kth (e + 1) us k = 2 ^ e + kth e (halfO e 1 us) (k - (halfO e 0 us).length) := by rw [kth, if_neg h]
theorem kth_rng : ∀ (e : Nat) (us : List Int) (k : Nat), 0 ≤ kth e us k ∧ kth e us k < 2 ^ e
  | 0, us, k => ⟨Int.le_refl _, (by decide : (0 : Int) < 2 ^ 0)⟩
  | e + 1, us, k => by
    have hp := pow2 e
    have h2 := p2pos e
    by_cases c : k < (halfO e 0 us).length
    · rw [kth_lo c]
      have := kth_rng e (halfO e 0 us) k
      omega
    · rw [kth_hi c]
      have := kth_rng e (halfO e 1 us) (k - (halfO e 0 us).length)
      omega
theorem wayW_lo {e : Nat} {us : List Int} {k : Nat} (h : k < (halfO e 0 us).length) : wayW (e + 1) (kth (e + 1) us k) = 0 :: wayW e (kth e (halfO e 0 us) k) := by
  rw [kth_lo h]
  exact wayW_lt (kth_rng e _ k).2
theorem wayW_hi {e : Nat} {us : List Int} {k : Nat} (h : ¬ k < (halfO e 0 us).length) : wayW (e + 1) (kth (e + 1) us k) = 1 :: wayW e (kth e (halfO e 1 us) (k - (halfO e 0 us).length)) := by
  rw [kth_hi h, wayW_ge (by have := (kth_rng e (halfO e 1 us) (k - (halfO e 0 us).length)).1; omega)]
  have : 2 ^ e + kth e (halfO e 1 us) (k - (halfO e 0 us).length) - 2 ^ e = kth e (halfO e 1 us) (k - (halfO e 0 us).length) := by omega
  rw [this]
theorem cntlt_half {e : Nat} {us : List Int} (hin : InO (e + 1) us) (o : Int) : (o ≤ 2 ^ e → us.countP (fun x => decide (x < o)) = (halfO e 0 us).countP (fun x => decide (x < o))) ∧
    (2 ^ e ≤ o → us.countP (fun x => decide (x < o)) = (halfO e 0 us).length + (halfO e 1 us).countP (fun x => decide (x < o - 2 ^ e))) := by
  have l0 : (halfO e 0 us).length = us.countP fun x => mk0 e x == 0 := by
    unfold halfO
    rw [List.length_map, List.countP_eq_length_filter]
  rw [l0, count_half, count_half]
  clear l0
  induction us with
  | nil => exact ⟨fun _ => rfl, fun _ => rfl⟩
  | cons x us ih =>
    obtain ⟨i1, i2⟩ := ih fun y hy => hin y (List.mem_cons_of_mem _ hy)
    have hx := hin x List.mem_cons_self
    rw [List.countP_cons, List.countP_cons, List.countP_cons, List.countP_cons]
    rcases mk0b e x with m | m
    · have hm := mod_mk hx.1 hx.2 m
      have hxl : x < 2 ^ e := by
        unfold mk0 at m
        by_cases z : x < 2 ^ e
        · exact z
        · rw [if_neg z] at m; omega
      have e1 : x % 2 ^ e = x := by omega
      rw [m, e1]
      refine ⟨fun h => ?_, fun h => ?_⟩
      · rw [i1 h]; simp
      · rw [i2 h]
        have : x < o := by omega
        simp [this]
        omega
    · have hm := mod_mk hx.1 hx.2 m
      have hxg : ¬ x < 2 ^ e := by
        unfold mk0 at m
        intro z
        rw [if_pos z] at m; omega
      rw [m]
      refine ⟨fun h => ?_, fun h => ?_⟩
      · rw [i1 h]
        have : ¬ x < o := by omega
        simp [this]
      · rw [i2 h]
        by_cases z : x < o
        · have z2 : x % 2 ^ e < o - 2 ^ e := by omega
          simp [z, z2]
          omega
        · have z2 : ¬ x % 2 ^ e < o - 2 ^ e := by omega
          simp [z, z2]
abbrev ltC (us : List Int) (o : Int) : Nat := us.countP fun x => decide (x < o)
theorem kth_cnt : ∀ (e : Nat) (us : List Int) (k : Nat), InO e us → k < us.length → ltC us (kth e us k) ≤ k ∧ k < ltC us (kth e us k + 1)
  | 0, us, k, hin, hk => by
    have h0 : us.countP (fun x => decide (x < (0 : Int))) = 0 := List.countP_eq_zero.mpr fun x hx => by have := hin x hx; simp; omega
    have h1 : us.countP (fun x => decide (x < (0 : Int) + 1)) = us.length := List.countP_eq_length.mpr fun x hx => by have := hin x hx; simp at this; exact decide_eq_true (by omega)
    show us.countP (fun x => decide (x < (0 : Int))) ≤ k ∧ k < us.countP (fun x => decide (x < (0 : Int) + 1))
    omega
  | e + 1, us, k, hin, hk => by
    have hs := half_sum (e := e) us
    by_cases c : k < (halfO e 0 us).length
    · rw [kth_lo c]
      have r := kth_rng e (halfO e 0 us) k
      obtain ⟨i1, i2⟩ := kth_cnt e (halfO e 0 us) k halfO_in c
      have e1 := (cntlt_half hin (kth e (halfO e 0 us) k)).1 (by omega)
      have e2 := (cntlt_half hin (kth e (halfO e 0 us) k + 1)).1 (by omega)
      unfold ltC at *
      rw [e1, e2]
      exact ⟨i1, i2⟩
    · rw [kth_hi c]
      have r := kth_rng e (halfO e 1 us) (k - (halfO e 0 us).length)
      obtain ⟨i1, i2⟩ := kth_cnt e (halfO e 1 us) (k - (halfO e 0 us).length) halfO_in (by omega)
      have e1 := (cntlt_half hin (2 ^ e + kth e (halfO e 1 us) (k - (halfO e 0 us).length))).2 (by omega)
      have e2 := (cntlt_half hin (2 ^ e + kth e (halfO e 1 us) (k - (halfO e 0 us).length) + 1)).2 (by omega)
      unfold ltC at *
      rw [e1, e2]
      have a1 : 2 ^ e + kth e (halfO e 1 us) (k - (halfO e 0 us).length) - 2 ^ e = kth e (halfO e 1 us) (k - (halfO e 0 us).length) := by omega
      have a2 : 2 ^ e + kth e (halfO e 1 us) (k - (halfO e 0 us).length) + 1 - 2 ^ e = kth e (halfO e 1 us) (k - (halfO e 0 us).length) + 1 := by omega
      rw [a1, a2]
      omega
theorem ltC_succ (us : List Int) (o : Int) : ltC us (o + 1) = ltC us o + us.count o := by
  unfold ltC
  rw [List.count_eq_countP]
  induction us with
  | nil => rfl
  | cons x us ih =>
    rw [List.countP_cons, List.countP_cons, List.countP_cons, ih]
    by_cases c1 : x < o
    · have c2 : x < o + 1 := by omega
      have c3 : ¬ x = o := by omega
      simp only [decide_eq_true c1, decide_eq_true c2, if_true, show (x == o) = false from beq_eq_false_iff_ne.mpr c3]
      simp
      omega
    · by_cases c3 : x = o
      · have c2 : x < o + 1 := by omega
        simp only [decide_eq_false c1, decide_eq_true c2, show (x == o) = true from beq_iff_eq.mpr c3]
        simp
        omega
      · have c2 : ¬ x < o + 1 := by omega
        simp [c1, c2, c3]
theorem led_full : ∀ (L : Nat) (o : Int) (gs : List G3), 0 ≤ o → o < 2 ^ L → (∀ g ∈ gs, GoodS L g) → manyG (gs.map (ledS L (wayW L o))) = ((Wh gs).count o : Nat)
  | 0, o, gs, h0, h1, hg => by
    have e0 : gs.map (ledS 0 (wayW 0 o)) = gs := by
      have : ∀ g ∈ gs, ledS 0 (wayW 0 o) g = id g := fun g _ => ledS_empty 0 g
      rw [List.map_congr_left this, List.map_id]
    rw [e0, manyG_W hg]
    have ho : o = 0 := by have : (2 : Int) ^ 0 = 1 := rfl; omega
    have hin := W_in hg
    rw [ho, List.count_eq_length.mpr fun b hb => by have := hin b hb; simp at this; omega]
  | e + 1, o, gs, h0, h1, hg => by
    have hp := pow2 e
    have good1 : ∀ w, ∀ g ∈ gs.map (led1 e w), GoodS e g := fun w g hg' => by
      obtain ⟨g', hg2, rfl⟩ := List.mem_map.mp hg'
      exact led1_good (hg g' hg2)
    have em : ∀ (w : Int) (ws : List Int), gs.map (ledS (e + 1) (w :: ws)) = (gs.map (led1 e w)).map (ledS e ws) := fun w ws => by
      rw [List.map_map]
      exact List.map_congr_left fun g _ => ledS_cons e w ws g
    by_cases c : o < 2 ^ e
    · rw [wayW_lt c, em, led_full e o _ h0 c (good1 0), W_led hg, half_count (W_in hg) (.inl rfl) h0 c]
      have : o + 0 * 2 ^ e = o := by omega
      rw [this]
    · rw [wayW_ge c, em, led_full e (o - 2 ^ e) _ (by omega) (by omega) (good1 1), W_led hg, half_count (W_in hg) (.inr rfl) (by omega) (by omega)]
      have : o - 2 ^ e + 1 * 2 ^ e = o := by omega
      rw [this]
abbrev kb_lifted : Nat := 1
abbrev kn_lifted : Nat := 40
abbrev k_lifted : Nat := 42
def spe_lifted (_ : PySem.W.Frag) (e : Nat) : Sp := fun vs H Q _ => ∃ (v : V) (wy : Addr) (k i : Nat) (L : Nat) (os ws : List Int), vs = [v, .ref wy, .int (k : Int)] ∧ TreeAt H v (growO L os) ∧ TupF H wy (ws.map V.int) ∧ ws.length = e ∧ e ≤ L ∧ B01 ws ∧ InO L os ∧ (spots L os ws)[k]? = some i ∧ ∀ H', Same H H' → Q (.int (i : Int)) H'
def sp_lifted (K : PySem.W.Frag) : Sp := fun vs H Q E => ∃ e, e ≤ kn_lifted ∧ spe_lifted K e vs H Q E
theorem cut_tail (w : Int) (ws : List Int) : cutV ((w :: ws).map V.int) (some 1) none = ws.map V.int := by
  unfold cutV
  have e1 : HT.sIx ((w :: ws).map V.int).length 0 (some 1) = 1 := by
    rw [List.length_map, List.length_cons]
    simp [HT.sIx]
    try omega
  rw [e1, HT.sIx_none, List.map_cons, List.drop_succ_cons, List.drop_zero, List.length_cons, Nat.add_sub_cancel]
  exact List.take_length
abbrev k_way_of_nth : Nat := 4
def sp_way_of_nth (K : PySem.W.Frag) : Sp := fun vs H Q _ => ∃ (ga : Addr) (xs : List V) (L k : Nat) (gs : List G3), vs = [.int (L : Int), .ref ga, .int (k : Int)] ∧ L ≤ 40 ∧ H ga = some (.lst xs) ∧ GatAt H L xs gs ∧ (∀ g ∈ gs, GoodS L g) ∧ gs.length ≤ 100 ∧ (Wh gs).length ≤ 900 ∧ k < (Wh gs).length ∧
  ∀ t H', Same H H' → TupF H' t ((wayW L (kth L (Wh gs) k)).map V.int) → Q (.ref t) H'
section
variable {P : Program} {w : World} {K : PySem.W.Frag} {mg : Str → Option Value} {base : Heap}
theorem ok_lifted (d : Def K mg "lifted" s_lifted ["tree", "way", "place"]) (z : Bz K mg cLeastError cBeyond cNoBounds cNoRow cNoSuch cNoText cTooMany) (c_half_of : Cal P w K mg base k_half_of "half_of" ["tree", "mark"] (sp_half_of K)) (c_place_of : Cal P w K mg base k_place_of "place_of" ["marks", "mark", "number"] (sp_place_of K)) (c_size_of : Cal P w K mg base k_size_of "size_of" ["tree"] (sp_size_of K)) : Cal P w K mg base k_lifted "lifted" ["tree", "way", "place"] (sp_lifted K) := by
  have sc := sc_lifted
  refine d.recur (k := kb_lifted) (sp := spe_lifted K) kn_lifted fun e hen c_lifted f fd F => F.ok sc (fun vs H Q E h => ?_) (fun cdv A outer s H vs Q E hr h => ?_)
  · obtain ⟨v, wy, k, i, L, os, ws, rfl, _⟩ := h
    rfl
  obtain ⟨v, wy, k, i, L, os, ws, rfl, ht, hw, hwl, heL, h01, hin, hi, q⟩ := h
  refine ⟨_, (pss_cons (ps_if (pt_cmpR op_eq (pe_callB call_len_seq (by rfl) z.len_ bt_len (pa_cons (pv 1) pa_nil)) pe_int (nomark _))
  (pss_cons (ps_if (PW.pt (pw_or (pt_cmpR op_lt (pv 2) pe_int (nomark _)) (pw_or1 (pt_cmpR op_ge (pv 2) (pe_fn c_size_of (hr.mono (Nat.le_trans (by decide : k_size_of ≤ kb_lifted) (Nat.le_add_left _ _))) (by rfl) (pa_cons (pv 0) pa_nil)) (nomark _)))))
  (pss_one ps_never)
  pss_nil)
 (pss_one (ps_ret (pv 2))))
  pss_nil)
 (pss_cons (ps_set (i := 3) sc.nd rfl (Or.inl rfl) (pe_fn c_lifted (hr.mono (Nat.le_refl _)) (by rfl) (pa_cons (pe_fn c_half_of (hr.mono (Nat.le_trans (by decide : k_half_of ≤ kb_lifted) (Nat.le_add_left _ _))) (by rfl) (pa_cons (pv 0) (pa_cons (pe_ix ix_tup (pv 1) pe_int (fun _ _ => rfl)) pa_nil))) (pa_cons (pe_slice sl_tupF (pv 1) (po_some pe_int) po_none) (pa_cons (pv 2) pa_nil)))))
 (pss_one (ps_ret (pe_fn c_place_of (hr.mono (Nat.le_trans (by decide : k_place_of ≤ kb_lifted) (Nat.le_add_left _ _))) (by rfl) (pa_cons (pe_ix ix_tup (pv 0) pe_int (fun _ _ => rfl)) (pa_cons (pe_ix ix_tup (pv 1) pe_int (fun _ _ => rfl)) (pa_cons (pv 3) pa_nil)))))))), ?_⟩
  refine ⟨_, rfl, wy, _, rfl, .inr hw.sq, rfl, _, rfl, ?_⟩
  cases ws with
  | nil =>
    refine ite2 (fun _ => ?_) (fun c => absurd (decide_eq_true rfl) c)
    rw [spots_empty] at hi
    have hk : k < os.length := by
      have := (List.getElem?_eq_some_iff.mp hi).1
      rwa [List.length_range] at this
    rw [List.getElem?_range hk] at hi
    cases hi
    refine ⟨_, rfl, _, _, rfl, rfl, _, rfl, ?_⟩
    refine ite2 (fun c => absurd (of_decide_eq_true c) (by omega)) (fun _ => ?_)
    refine ⟨_, rfl, _, rfl, v, _, rfl, ht, _, _, rfl, rfl, _, rfl, ?_⟩
    rw [growO_size]
    refine ite2 (fun c => absurd (of_decide_eq_true c) (by omega)) (fun _ => ?_)
    exact ⟨_, rfl, q H (Same.refl H)⟩
  | cons w0 ws =>
    refine ite2 (fun c => ?_) (fun _ => ?_)
    · exfalso
      have := V.int.inj (of_decide_eq_true c)
      rw [List.length_map, List.length_cons] at this
      omega
    obtain ⟨e', rfl⟩ : ∃ e', e = e' + 1 := ⟨ws.length, by rw [← hwl]; rfl⟩
    obtain ⟨L', rfl⟩ : ∃ L', L = L' + 1 := ⟨L - 1, by omega⟩
    have hw0 : w0 = 0 ∨ w0 = 1 := h01 w0 (List.mem_cons_self ..)
    have h01' : B01 ws := fun m hm => h01 m (List.mem_cons_of_mem _ hm)
    have hwl' : ws.length = e' := by rw [List.length_cons] at hwl; omega
    have h0at : atI ((w0 :: ws).map V.int) 0 = some (.int w0) := by
      show atI _ ((0 : Nat) : Int) = _
      exact atI_nat rfl
    have hdn := spots_down (w := w0) (ws := ws) hin k
    rw [hi] at hdn
    cases hi2 : (spots L' (halfO L' w0 os) ws)[k]? with
    | none => rw [hi2, Option.bind_none] at hdn; cases hdn
    | some i2 =>
      rw [hi2, Option.bind_some] at hdn
      refine ⟨_, rfl, _, rfl, wy, _, _, _, rfl, rfl, hw.sq, h0at, v, _, w0, rfl, ht, hw0, fun u hu => ?_⟩
      rw [growO_half hin hw0] at hu
      refine ⟨_, rfl, 1, rfl, wy, _, rfl, hw, fun w2 H1 s1 hw2 => ⟨_, rfl, ?_⟩⟩
      rw [cut_tail] at hw2
      refine ⟨u, w2, k, i2, L', halfO L' w0 os, ws, rfl, hu.same s1, hw2, hwl', by omega, h01', halfO_in, hi2, fun H2 s2 => ?_⟩
      have s02 := s1.trans s2
      have hne : os ≠ [] := fun z => by
        rw [z] at hi2
        have e0 : halfO L' w0 [] = [] := rfl
        rw [e0, spots_nil] at hi2
        simp at hi2
      have ht2 := ht.same s02
      rw [growO_succ hne] at ht2
      obtain ⟨a, m, x, y, rfl, ha, hm, _, _⟩ := ht2
      exact ⟨_, rfl, a, _, _, _, rfl, rfl, SqT.of ha, rfl, _, rfl, wy, _, _, _, rfl, rfl, (hw.same s02).sq, h0at, _, rfl, m, os.map (mk0 L'), w0, (i2 : Int), i, rfl, hm.sq, hdn.symm, fun H3 s3 => q H3 (s02.trans s3)⟩
theorem ok_way_of_nth (d : Def K mg "way_of_nth" s_way_of_nth ["levels", "gathering", "k"]) (z : Bz K mg cLeastError cBeyond cNoBounds cNoRow cNoSuch cNoText cTooMany) (c_led : Cal P w K mg base k_led "led" ["gathering", "way"] (sp_led K)) (c_many_in : Cal P w K mg base k_many_in "many_in" ["gathering"] (sp_many_in K)) : Cal P w K mg base k_way_of_nth "way_of_nth" ["levels", "gathering", "k"] (sp_way_of_nth K) := by
  have sc := sc_way_of_nth
  refine d.cal fun f fd F => F.ok sc (fun vs H Q E h => ?_) (fun cdv A outer s H vs Q E hr h => ?_)
  · obtain ⟨ga, xs, L, k, gs, rfl, _⟩ := h
    rfl
  obtain ⟨ga, xs, L, k, gs, rfl, hL, hga, hg, hgd, hl, hw9, hk, q⟩ := h
  refine ⟨_, (pss_cons (ps_set (i := 3) sc.nd rfl (Or.inl rfl) (pe_lst pa_nil))
 (pss_cons (ps_set (i := 4) sc.nd rfl (Or.inl rfl) (pv 1))
 (pss_cons (ps_set (i := 5) sc.nd rfl (Or.inl rfl) (pv 2))
 (pss_cons (ps_for PassesOwn.never rfl (pi_range1 rfl z.range_ (pa_cons (pv 0) pa_nil)) (pg_name (i := 6) sc.nd rfl (Or.inl rfl))
  (pss_cons (ps_set (i := 7) sc.nd rfl (Or.inl rfl) (pe_fn c_many_in (hr.mono (by decide)) (by rfl) (pa_cons (pe_fn c_led (hr.mono (by decide)) (by rfl) (pa_cons (pv 4) (pa_cons (pe_tup (pa_cons pe_int pa_nil)) pa_nil))) pa_nil)))
 (pss_cons (ps_set (i := 8) sc.nd rfl (Or.inl rfl) (pe_ifExp (pt_cmpR op_lt (pv 5) (pv 7) (nomark _)) pe_int pe_int))
 (pss_cons (ps_set (i := 5) sc.nd rfl (Or.inl rfl) (pe_op op_sub (pv 5) (pe_op op_mul (pv 8) (pv 7))))
 (pss_cons (ps_set (i := 4) sc.nd rfl (Or.inl rfl) (pe_fn c_led (hr.mono (by decide)) (by rfl) (pa_cons (pv 4) (pa_cons (pe_tup (pa_cons (pv 8) pa_nil)) pa_nil))))
 (pss_one (ps_expr (pe_bm PySem.F.plainAttrs_list PySem.F.slot_list_append PySem.F.type_list_append mt_append (pv 3) (pa_cons (pv 8) pa_nil)))))))))
 (pss_one (ps_ret (pe_callTy call_tupleF (by rfl) z.tuple_ bt_tuple (pa_cons (pv 3) pa_nil)))))))), ?_⟩
  refine ⟨szb rfl, fun wl hwl => ?_⟩
  have s1 := same_new hwl (.lst [])
  have hwl1 : upd H wl (.lst []) wl = some (.lst []) := upd_same
  generalize upd H wl (.lst []) = H1 at *
  have hgw : ga ≠ wl := fun z => by rw [z, hwl] at hga; cases hga
  refine ⟨_, rfl, _, rfl, _, rfl, (L : Int), rfl, by omega, by omega, for_range (n := L) (fun i σ H2 => ∃ (pa : Addr) (zs : List V) (gs' : List G3) (k' : Nat) (ws : List Int) (v6 v7 v8 : Option V), σ = [some (.int (L : Int)), some (.ref ga), some (.int (k : Int)), some (.ref wl), some (.ref pa), some (.int (k' : Int)), v6, v7, v8] ∧ Same H H2 ∧ H2 wl = some (.lst (ws.map V.int)) ∧ ws.length = i ∧ H2 pa = some (.lst zs) ∧ GatAt H2 (L - i) zs gs' ∧ (∀ g ∈ gs', GoodS (L - i) g) ∧ gs'.length ≤ 100 ∧ (Wh gs').length ≤ 900 ∧ k' < (Wh gs').length ∧ pa ≠ wl ∧
      wayW L (kth L (Wh gs) k) = ws ++ wayW (L - i) (kth (L - i) (Wh gs') k')) ⟨ga, xs, gs, k, [], none, none, none, rfl, s1, hwl1, rfl, s1 _ _ hga, hg.same s1, hgd, hl, hw9, hk, hgw, rfl⟩ ?_ ?_⟩
  · rintro i σ H2 hi ⟨pa, zs, gs', k', ws, v6, v7, v8, rfl, s2, hwl2, hwsl, hpa, hg', hgd', hl', hw9', hk', hpw, hway⟩
    obtain ⟨e, he⟩ : ∃ e, L - i = e + 1 := ⟨L - i - 1, by omega⟩
    have he2 : L - (i + 1) = e := by omega
    rw [he] at hg' hgd' hway
    have el : ∀ w : Int, gs'.map (ledS (e + 1) [w]) = gs'.map (led1 e w) := fun w => List.map_congr_left fun g _ => by rw [ledS_cons, ledS_empty]
    have good1 : ∀ w, ∀ g ∈ gs'.map (led1 e w), GoodS e g := fun w g hg => by
      obtain ⟨g', hg', rfl⟩ := List.mem_map.mp hg
      exact led1_good (hgd' g' hg')
    have hsum := half_sum (e := e) (Wh gs')
    have lenH : ∀ w : Int, (halfO e w (Wh gs')).length ≤ 900 := fun w => Nat.le_trans halfO_len hw9'
    refine ⟨_, rfl, szb rfl, fun w0 hw0 => ?_⟩
    have s3 := same_new hw0 (.tup [V.int 0])
    have hw0' : upd H2 w0 (.tup [V.int 0]) w0 = some (.tup [V.int 0]) := upd_same
    generalize upd H2 w0 (.tup [V.int 0]) = H3 at *
    refine ⟨pa, w0, zs, e + 1, [0], gs', rfl, SqL.of (s3 _ _ hpa), hg'.same s3, hgd', by omega, SqT.of hw0', by simp, (fun x hx => by rw [List.mem_singleton.mp hx]; exact .inl rfl), fun H4 D4 z4 s4 hD4 hD4n hg4 => ?_⟩
    rw [el] at hg4
    refine ⟨D4, z4, e, _, rfl, SqL.of hD4, hg4, by rw [List.length_map]; omega, fun H5 s5 => ?_⟩
    rw [manyG_W (good1 0), W_led hgd']
    have s25 := (s3.trans s4).trans s5
    refine ⟨_, rfl, _, rfl, _, _, rfl, rfl, _, rfl, ?_⟩
    refine ite2 (fun c => ?_) (fun c => ?_)
    · have c' : k' < (halfO e 0 (Wh gs')).length := by have := of_decide_eq_true c; omega
      rw [wayW_lo c'] at hway
      refine ⟨_, rfl, _, rfl, _, rfl, _, _, rfl, rfl, .inl ⟨by decide, by decide⟩, _, _, rfl, rfl, ?_⟩
      refine ⟨_, rfl, _, rfl, szb rfl, fun w1 hw1 => ?_⟩
      have s6 := same_new hw1 (.tup [V.int 0])
      have hw1' : upd H5 w1 (.tup [V.int 0]) w1 = some (.tup [V.int 0]) := upd_same
      generalize upd H5 w1 (.tup [V.int 0]) = H6 at *
      have s26 := s25.trans s6
      refine ⟨pa, w1, zs, e + 1, [0], gs', rfl, SqL.of (s26 _ _ hpa), hg'.same s26, hgd', by omega, SqT.of hw1', by simp, (fun x hx => by rw [List.mem_singleton.mp hx]; exact .inl rfl), fun H7 D7 z7 s7 hD7 hD7n hg7 => ?_⟩
      rw [el] at hg7
      have s27 := s26.trans s7
      have hwl7 := s27 _ _ hwl2
      have hD7w : D7 ≠ wl := fun z => by rw [z, s26 _ _ hwl2] at hD7n; cases hD7n
      refine ⟨_, rfl, .inl ⟨rfl, _, SqL.of hwl7⟩, _, rfl, wl, _, _, rfl, rfl, hwl7, by rw [List.length_map]; exact small1000 (by omega), ?_⟩
      have tk : TKeep H7 (upd H7 wl (.lst (ws.map V.int ++ [V.int 0]))) := .set hwl7
      refine ⟨D7, z7, gs'.map (led1 e 0), k', ws ++ [0], some (V.int (0 + (i : Int))), some (V.int ((halfO e 0 (Wh gs')).length : Nat)), some (V.int 0), ?_, same_put2 (s2.trans s27) hwl _, by rw [upd_same, List.map_append]; rfl, by rw [List.length_append, hwsl]; rfl, by rw [upd_ne hD7w]; exact hD7, by rw [he2]; exact hg7.tk tk, by rw [he2]; exact good1 0, by rw [List.length_map]; exact hl', by rw [W_led hgd']; exact lenH 0, by rw [W_led hgd']; exact c', hD7w, ?_⟩
      · have : (k' : Int) - 0 * ((halfO e 0 (Wh gs')).length : Nat) = (k' : Int) := by omega
        exact congrArg (fun q : Int => [some (V.int (L : Int)), some (V.ref ga), some (V.int (k : Int)), some (V.ref wl), some (V.ref D7), some (V.int q), some (V.int (0 + (i : Int))), some (V.int ((halfO e 0 (Wh gs')).length : Nat)), some (V.int 0)]) this
      · rw [hway, he2, W_led hgd', List.append_assoc]; rfl
    · have c' : ¬ k' < (halfO e 0 (Wh gs')).length := fun z => c (decide_eq_true (by omega))
      rw [wayW_hi c'] at hway
      refine ⟨_, rfl, _, rfl, _, rfl, _, _, rfl, rfl, .inl ⟨by decide, by decide⟩, _, _, rfl, rfl, ?_⟩
      refine ⟨_, rfl, _, rfl, szb rfl, fun w1 hw1 => ?_⟩
      have s6 := same_new hw1 (.tup [V.int 1])
      have hw1' : upd H5 w1 (.tup [V.int 1]) w1 = some (.tup [V.int 1]) := upd_same
      generalize upd H5 w1 (.tup [V.int 1]) = H6 at *
      have s26 := s25.trans s6
      refine ⟨pa, w1, zs, e + 1, [1], gs', rfl, SqL.of (s26 _ _ hpa), hg'.same s26, hgd', by omega, SqT.of hw1', by simp, (fun x hx => by rw [List.mem_singleton.mp hx]; exact .inr rfl), fun H7 D7 z7 s7 hD7 hD7n hg7 => ?_⟩
      rw [el] at hg7
      have s27 := s26.trans s7
      have hwl7 := s27 _ _ hwl2
      have hD7w : D7 ≠ wl := fun z => by rw [z, s26 _ _ hwl2] at hD7n; cases hD7n
      refine ⟨_, rfl, .inl ⟨rfl, _, SqL.of hwl7⟩, _, rfl, wl, _, _, rfl, rfl, hwl7, by rw [List.length_map]; exact small1000 (by omega), ?_⟩
      have tk : TKeep H7 (upd H7 wl (.lst (ws.map V.int ++ [V.int 1]))) := .set hwl7
      refine ⟨D7, z7, gs'.map (led1 e 1), k' - (halfO e 0 (Wh gs')).length, ws ++ [1], some (V.int (0 + (i : Int))), some (V.int ((halfO e 0 (Wh gs')).length : Nat)), some (V.int 1), ?_, same_put2 (s2.trans s27) hwl _, by rw [upd_same, List.map_append]; rfl, by rw [List.length_append, hwsl]; rfl, by rw [upd_ne hD7w]; exact hD7, by rw [he2]; exact hg7.tk tk, by rw [he2]; exact good1 1, by rw [List.length_map]; exact hl', by rw [W_led hgd']; exact lenH 1, by rw [W_led hgd']; omega, hD7w, ?_⟩
      · have : (k' : Int) - 1 * ((halfO e 0 (Wh gs')).length : Nat) = ((k' - (halfO e 0 (Wh gs')).length : Nat) : Int) := by omega
        exact congrArg (fun q : Int => [some (V.int (L : Int)), some (V.ref ga), some (V.int (k : Int)), some (V.ref wl), some (V.ref D7), some (V.int q), some (V.int (0 + (i : Int))), some (V.int ((halfO e 0 (Wh gs')).length : Nat)), some (V.int 1)]) this
      · rw [hway, he2, W_led hgd', List.append_assoc]; rfl
  · rintro σ H2 ⟨pa, zs, gs', k', ws, v6, v7, v8, rfl, s2, hwl2, hwsl, hpa, hg', hgd', hl', hw9', hk', hpw, hway⟩
    rw [Nat.sub_self] at hway
    have hw2 : wayW L (kth L (Wh gs) k) = ws := by rw [hway]; exact List.append_nil ws
    rw [hw2] at q
    exact ⟨_, rfl, wl, _, rfl, SqL.of hwl2, fun t H' s' ht => q t H' (s2.trans s') ht⟩
end
theorem inW_way : ∀ (L : Nat) (o x : Int), 0 ≤ o → o < 2 ^ L → 0 ≤ x → x < 2 ^ L → inW L x (wayW L o) = decide (x = o)
  | 0, o, x, h0, h1, h2, h3 => by
    have : (2 : Int) ^ 0 = 1 := rfl
    rw [decide_eq_true (by omega)]
    rfl
  | e + 1, o, x, h0, h1, h2, h3 => by
    have p := pow2 e
    have hp := p2pos e
    by_cases c : o < 2 ^ e
    · rw [wayW_lt c, inW_step ⟨h2, h3⟩]
      rcases mk0b e x with m | m
      · have mm := mod_mk h2 h3 m
        have r0 := Int.emod_nonneg x (show (2 : Int) ^ e ≠ 0 by omega)
        have r1 := Int.emod_lt_of_pos x hp
        rw [m, inW_way e o (x % 2 ^ e) h0 c r0 r1]
        have : x % 2 ^ e = x := by omega
        rw [this]
        rfl
      · have mm := mod_mk h2 h3 m
        have r0 := Int.emod_nonneg x (show (2 : Int) ^ e ≠ 0 by omega)
        rw [m, decide_eq_false (by omega)]
        rfl
    · rw [wayW_ge c, inW_step ⟨h2, h3⟩]
      have r0 := Int.emod_nonneg x (show (2 : Int) ^ e ≠ 0 by omega)
      have r1 := Int.emod_lt_of_pos x hp
      rcases mk0b e x with m | m
      · have mm := mod_mk h2 h3 m
        rw [m, decide_eq_false (by omega)]
        rfl
      · have mm := mod_mk h2 h3 m
        rw [m, inW_way e (o - 2 ^ e) (x % 2 ^ e) (by omega) (by omega) r0 r1]
        by_cases z : x = o
        · rw [decide_eq_true z, decide_eq_true (by omega)]
          rfl
        · rw [decide_eq_false z, decide_eq_false (by omega)]
          rfl
theorem C_sel2 {q : Int → Bool} {os : List Int} {s t : Nat} (h : s ≤ t) : (os.take s).countP q + (sel (os, s, t)).countP q = (os.take t).countP q := by
  have e : os.take t = os.take s ++ sel (os, s, t) := by
    unfold sel
    have := (List.take_append_drop s (os.take t)).symm
    rw [List.take_take, Nat.min_eq_left h] at this
    exact this
  rw [e, List.countP_append]
theorem Wh_one (g : G3) : Wh [g] = sel g := by unfold Wh; rw [List.flatMap_cons, List.flatMap_nil, List.append_nil]
theorem cnt_q (us : List Int) (o : Int) : us.count o = us.countP fun x => decide (x = o) := by
  rw [List.count_eq_countP]
  refine List.countP_congr fun x _ => ?_
  rw [beq_iff_eq, decide_eq_true_eq]
theorem lift_at {L : Nat} {g : G3} {o : Int} {left : Nat} (hg : GoodS L g) (h0 : 0 ≤ o) (h1 : o < 2 ^ L) (hl : left < (sel g).count o) :
    ∃ i, (spots L g.1 (wayW L o))[(ledS L (wayW L o) g).2.1 + left]? = some i ∧ g.2.1 ≤ i ∧ i < g.2.2 ∧ g.1[i]? = some o ∧ (sel (g.1, g.2.1, i)).count o = left := by
  obtain ⟨os, s, t⟩ := g
  obtain ⟨hin, hst, htl, _⟩ := hg
  change s ≤ t at hst
  change t ≤ os.length at htl
  have hq : ∀ x ∈ os, inW L x (wayW L o) = decide (x = o) := fun x hx => inW_way L o x h0 h1 (hin x hx).1 (hin x hx).2
  have hs : spots L os (wayW L o) = idxs (fun x => decide (x = o)) os := idxs_congr hq
  have hcc : ∀ k, (os.take k).countP (fun x => inW L x (wayW L o)) = (os.take k).countP fun x => decide (x = o) := fun k => List.countP_congr fun x hx => by rw [hq x (List.mem_of_mem_take hx)]
  have hled : (ledS L (wayW L o) (os, s, t)).2.1 = (os.take s).countP fun x => decide (x = o) := by
    rcases ledS_sel L (wayW L o) os s t (by rw [wayW_len]; exact Nat.le_refl _) hin with e | e | e
    · rw [e]; exact hcc s
    · omega
    · omega
  rw [cnt_q] at hl
  have c1 := C_sel2 (q := fun x => decide (x = o)) (os := os) hst
  have c2 := cnt_mono (q := fun x => decide (x = o)) os htl
  rw [List.take_of_length_le (Nat.le_refl os.length)] at c2
  have hlen : (idxs (fun x => decide (x = o)) os).length = os.countP fun x => decide (x = o) := by
    have := congrArg List.length (idxs_vals (p := fun x => decide (x = o)) os)
    rw [List.length_map] at this
    rw [this, List.countP_eq_length_filter]
  have hk : (os.take s).countP (fun x => decide (x = o)) + left < (idxs (fun x => decide (x = o)) os).length := by omega
  obtain ⟨i, hi⟩ : ∃ i, (idxs (fun x => decide (x = o)) os)[(os.take s).countP (fun x => decide (x = o)) + left]? = some i := ⟨_, List.getElem?_eq_getElem hk⟩
  obtain ⟨o', k1, k2, k3⟩ := idxs_get os _ i hi
  have eo : o' = o := of_decide_eq_true k2
  subst eo
  have hsi : s ≤ i := by
    apply Classical.byContradiction
    intro c
    have m := cnt_mono (q := fun x => decide (x = o')) os (show i + 1 ≤ s by omega)
    rw [cnt_step k1 k2] at m
    omega
  have hit : i < t := by
    apply Classical.byContradiction
    intro c
    have m := cnt_mono (q := fun x => decide (x = o')) os (show t ≤ i by omega)
    omega
  refine ⟨i, ?_, hsi, hit, k1, ?_⟩
  · show (spots L os (wayW L o'))[(ledS L (wayW L o') (os, s, t)).2.1 + left]? = some i
    rw [hs, hled]
    exact hi
  · show (sel (os, s, i)).count o' = left
    rw [cnt_q]
    have c3 := C_sel2 (q := fun x => decide (x = o')) (os := os) hsi
    omega
def Thing (gs : List G3) (o : Int) (num j pl : Nat) : Prop := ∃ g, gs[j]? = some g ∧ g.2.1 ≤ pl ∧ pl < g.2.2 ∧ g.1[pl]? = some o ∧ num = (Wh (gs.take j ++ [(g.1, g.2.1, pl)])).count o
theorem Wh_take {gs : List G3} {j : Nat} {g : G3} (h : gs[j]? = some g) : Wh (gs.take (j + 1)) = Wh (gs.take j) ++ sel g := by
  rw [List.take_add_one, h]
  show Wh (gs.take j ++ [g]) = _
  rw [W_app, Wh_one]
theorem gat_one {H : Hp} {L : Nat} {v : V} {g : G3} (h : StrAt H L v g) : GatAt H L [v] [g] := (GatAt.nil H L).snoc h
abbrev k_nth_alike : Nat := 43
def sp_nth_alike (_ : PySem.W.Frag) : Sp := fun vs H Q _ => ∃ (ga wy : Addr) (xs : List V) (L num : Nat) (o : Int) (gs : List G3), vs = [.ref ga, .ref wy, .int (num : Int)] ∧ L ≤ 40 ∧ H ga = some (.lst xs) ∧ GatAt H L xs gs ∧ (∀ g ∈ gs, GoodS L g) ∧ gs.length ≤ 100 ∧ TupF H wy ((wayW L o).map V.int) ∧ 0 ≤ o ∧ o < 2 ^ L ∧ num < (Wh gs).count o ∧
  ∀ (p : Addr) (j pl : Nat) (H' : Hp), Same H H' → H' p = some (.tup [.int (j : Int), .int (pl : Int)]) → Thing gs o num j pl → Q (.ref p) H'
abbrev k_nth_least : Nat := 44
def sp_nth_least (K : PySem.W.Frag) : Sp := fun vs H Q _ => ∃ (b ga : Addr) (xs : List V) (low : Int) (L k : Nat) (gs : List G3), vs = [.ref b, .ref ga, .int (k : Int)] ∧ SqT K H b [.int low, .int (L : Int)] ∧ L ≤ 40 ∧ H ga = some (.lst xs) ∧ GatAt H L xs gs ∧ (∀ g ∈ gs, GoodS L g) ∧ gs.length ≤ 100 ∧ (Wh gs).length ≤ 900 ∧ k < (Wh gs).length ∧
  ∀ (p : Addr) (j pl : Nat) (H' : Hp), Same H H' → SqT K H' p [.int (low + kth L (Wh gs) k), .int (j : Int), .int (pl : Int)] → Thing gs (kth L (Wh gs) k) (k - ltC (Wh gs) (kth L (Wh gs) k)) j pl → Q (.ref p) H'
def muJ (n : Nat) : St → Nat := fun σ => match σ[5]? with
  | some (some (V.int m)) => n - m.toNat
  | _ => 0
section
variable {P : Program} {w : World} {K : PySem.W.Frag} {mg : Str → Option Value} {base : Heap}
theorem ok_nth_alike (d : Def K mg "nth_alike" s_nth_alike ["gathering", "way", "number"]) (z : Bz K mg cLeastError cBeyond cNoBounds cNoRow cNoSuch cNoText cTooMany) (c_led : Cal P w K mg base k_led "led" ["gathering", "way"] (sp_led K)) (c_lifted : Cal P w K mg base k_lifted "lifted" ["tree", "way", "place"] (sp_lifted K)) (c_many_in : Cal P w K mg base k_many_in "many_in" ["gathering"] (sp_many_in K)) : Cal P w K mg base k_nth_alike "nth_alike" ["gathering", "way", "number"] (sp_nth_alike K) := by
  have sc := sc_nth_alike
  refine d.cal fun f fd F => F.ok sc (fun vs H Q E h => ?_) (fun cdv A outer s H vs Q E hr h => ?_)
  · obtain ⟨ga, wy, xs, L, num, o, gs, rfl, _⟩ := h
    rfl
  obtain ⟨ga, wy, xs, L, num, o, gs, rfl, hL, hga, hg, hgd, hl, hwy, h0, h1, hnum, q⟩ := h
  refine ⟨_, (pss_cons (ps_set (i := 3) sc.nd rfl (Or.inl rfl) (pe_fn c_led (hr.mono (by decide)) (by rfl) (pa_cons (pv 0) (pa_cons (pv 1) pa_nil))))
 (pss_cons (ps_set (i := 4) sc.nd rfl (Or.inl rfl) (pv 2))
 (pss_cons (ps_set (i := 5) sc.nd rfl (Or.inl rfl) pe_int)
 (pss_cons (ps_while PassesOwn.never (pt_cmpR op_ge (pv 4) (pe_fn c_many_in (hr.mono (by decide)) (by rfl) (pa_cons (pe_lst (pa_cons (pe_ix ix_list (pv 3) (pv 5) (fun _ _ => rfl)) pa_nil)) pa_nil)) (nomark _))
  (pss_cons (ps_set (i := 4) sc.nd rfl (Or.inl rfl) (pe_op op_sub (pv 4) (pe_fn c_many_in (hr.mono (by decide)) (by rfl) (pa_cons (pe_lst (pa_cons (pe_ix ix_list (pv 3) (pv 5) (fun _ _ => rfl)) pa_nil)) pa_nil))))
 (pss_one (ps_set (i := 5) sc.nd rfl (Or.inl rfl) (pe_op op_add (pv 5) pe_int)))))
 (pss_one (ps_ret (pe_tup (pa_cons (pv 5) (pa_cons (pe_fn c_lifted (hr.mono (by decide)) (by rfl) (pa_cons (pe_ix ix_tup (pe_ix ix_list (pv 0) (pv 5) (fun _ _ => rfl)) pe_int (fun _ _ => rfl)) (pa_cons (pv 1) (pa_cons (pe_op op_add (pe_ix ix_tup (pe_ix ix_list (pv 3) (pv 5) (fun _ _ => rfl)) pe_int (fun _ _ => rfl)) (pv 4)) pa_nil)))) pa_nil))))))))), ?_⟩
  have hwl := wayW_len L o
  refine ⟨_, rfl, _, rfl, ga, wy, xs, L, wayW L o, gs, rfl, SqL.of hga, hg, hgd, by omega, hwy.sq, by omega, wayW_01 L o, fun H1 D zs s1 hD _ hg1 => ?_⟩
  rw [hwl, Nat.sub_self] at hg1
  have one : ∀ g ∈ gs, manyG [ledS L (wayW L o) g] = ((sel g).count o : Nat) := fun g hgm => by
    have := led_full L o [g] h0 h1 (fun x hx => by rw [List.mem_singleton.mp hx]; exact hgd g hgm)
    rw [Wh_one] at this
    exact this
  have hjlt : ∀ (j left : Nat), left + (Wh (gs.take j)).count o = num → j < gs.length := fun j left e => by
    apply Classical.byContradiction
    intro c
    rw [List.take_of_length_le (by omega)] at e
    omega
  refine ⟨_, rfl, ?_⟩
  have at1 : ∀ j : Nat, j < gs.length → ∃ g z t t' u u', gs[j]? = some g ∧ zs[j]? = some z ∧ z = V.ref t' ∧ H1 t' = some (.tup [u', .int ((ledS L (wayW L o) g).2.1 : Int), .int ((ledS L (wayW L o) g).2.2 : Int)]) ∧ StrAt H1 0 z (ledS L (wayW L o) g) ∧ xs[j]? = some (V.ref t) ∧ H t = some (.tup [u, .int (g.2.1 : Int), .int (g.2.2 : Int)]) ∧ TreeAt H u (growO L g.1) := by
    intro j hj
    have gj : gs[j]? = some gs[j] := List.getElem?_eq_getElem hj
    have hjz : j < zs.length := by rw [hg1.1, List.length_map]; exact hj
    have hjx : j < xs.length := by rw [hg.1]; exact hj
    have gz := List.getElem?_eq_getElem hjz
    have gx := List.getElem?_eq_getElem hjx
    have hstr := hg1.2 j _ _ gz (by rw [List.getElem?_map, gj]; rfl)
    obtain ⟨t', u', e1, e2, e3⟩ := id hstr
    obtain ⟨t, u, f1, f2, f3⟩ := hg.2 j _ _ gx gj
    rw [f1] at gx
    exact ⟨_, _, t, t', u, u', gj, gz, e1, e2, hstr, gx, f2, f3⟩
  refine while_by (fun σ H2 => ∃ (left j : Nat), σ = [some (.ref ga), some (.ref wy), some (.int (num : Int)), some (.ref D), some (.int (left : Int)), some (.int (j : Int))] ∧ Same H1 H2 ∧ left + (Wh (gs.take j)).count o = num) (fun σ _ => muJ gs.length σ)
    ⟨num, 0, rfl, Same.refl _, rfl⟩ ?_ ?_
  · rintro σ H2 ⟨left, j, rfl, s2, hinv⟩
    have hj := hjlt j left hinv
    obtain ⟨g, z, t, t', u, u', gj, gz, e1, e2, hstr, gx, f2, f3⟩ := at1 j hj
    have hgm := List.mem_of_getElem? gj
    have hwt := Wh_take gj
    refine ⟨_, rfl, _, rfl, _, rfl, D, _, _, _, rfl, rfl, SqL.of (s2 _ _ hD), atI_nat gz, szb rfl, fun l1 hl1 => ?_⟩
    have s3 := same_new hl1 (.lst [z])
    have hl1' : upd H2 l1 (.lst [z]) l1 = some (.lst [z]) := upd_same
    generalize upd H2 l1 (.lst [z]) = H3 at *
    have s13 := s2.trans s3
    refine ⟨l1, [z], 0, [ledS L (wayW L o) g], rfl, SqL.of hl1', gat_one (hstr.tk (.same s13)), by simp, fun H4 s4 => ?_⟩
    rw [one g hgm]
    refine ⟨_, _, rfl, rfl, _, rfl, ?_⟩
    have s14 := s13.trans s4
    refine ite2 (fun c => ?_) (fun c => ?_)
    · have c' : (sel g).count o ≤ left := by have := of_decide_eq_true c; omega
      refine ⟨_, rfl, _, rfl, _, rfl, D, _, _, _, rfl, rfl, SqL.of (s14 _ _ hD), atI_nat gz, szb rfl, fun l2 hl2 => ?_⟩
      have s5 := same_new hl2 (.lst [z])
      have hl2' : upd H4 l2 (.lst [z]) l2 = some (.lst [z]) := upd_same
      generalize upd H4 l2 (.lst [z]) = H5 at *
      have s15 := s14.trans s5
      refine ⟨l2, [z], 0, [ledS L (wayW L o) g], rfl, SqL.of hl2', gat_one (hstr.tk (.same s15)), by simp, fun H6 s6 => ?_⟩
      rw [one g hgm]
      refine ⟨_, _, rfl, rfl, _, rfl, _, _, rfl, rfl, ⟨left - (sel g).count o, j + 1, ?_, s15.trans s6, ?_⟩, ?_⟩
      · have a1 : (left : Int) - ((sel g).count o : Nat) = ((left - (sel g).count o : Nat) : Int) := by omega
        have a2 : (j : Int) + 1 = ((j + 1 : Nat) : Int) := by omega
        show [some (V.ref ga), some (V.ref wy), some (V.int (num : Int)), some (V.ref D), some (V.int ((left : Int) - ((sel g).count o : Nat))), some (V.int ((j : Int) + 1))] = _
        rw [a1, a2]
      · rw [hwt, List.count_append]; omega
      · show gs.length - ((j : Int) + 1).toNat < gs.length - ((j : Int)).toNat
        omega
    · have c' : left < (sel g).count o := by
        apply Classical.byContradiction
        intro z2
        exact c (decide_eq_true (by omega))
      obtain ⟨i, k1, k2, k3, k4, k5⟩ := lift_at (hgd g hgm) h0 h1 c'
      have s04 := s1.trans s14
      refine ⟨_, rfl, _, rfl, _, rfl, ga, _, _, _, rfl, rfl, SqL.of (s04 _ _ hga), atI_nat gx, t, _, _, _, rfl, rfl, SqT.of (s04 _ _ f2), rfl, _, rfl, _, rfl, _, rfl, D, _, _, _, rfl, rfl, SqL.of (s14 _ _ hD), atI_nat gz, ?_⟩
      rw [e1]
      refine ⟨t', _, _, _, rfl, rfl, SqT.of (s14 _ _ e2), rfl, _, rfl, _, _, rfl, rfl, ?_⟩
      refine ⟨L, hL, u, wy, (ledS L (wayW L o) g).2.1 + left, i, L, g.1, wayW L o, ?_, f3.same s04, hwy.same s04, hwl, Nat.le_refl _, wayW_01 L o, (hgd g hgm).1, k1, fun H5 s5 => ⟨szb rfl, fun p hp => ?_⟩⟩
      · exact congrArg (fun q : Int => [u, V.ref wy, V.int q]) (show ((ledS L (wayW L o) g).2.1 : Int) + (left : Int) = (((ledS L (wayW L o) g).2.1 + left : Nat) : Int) by omega)
      refine q p j i _ ((s04.trans s5).trans (same_new hp _)) upd_same ⟨g, gj, k2, k3, k4, ?_⟩
      rw [W_app, Wh_one, List.count_append, k5]
      omega
  · rintro σ H2 Q1 Q2 hq ⟨_, e0, _, e1, _, e2, a, us, i, v, f1, f2, f3, f4, g0, g⟩
    refine ⟨_, e0, _, e1, _, e2, a, us, i, v, f1, f2, f3, f4, g0, fun p hp => ?_⟩
    obtain ⟨ga', xs', L', gs', h1, h2, h3, h4, h5⟩ := g p hp
    refine ⟨ga', xs', L', gs', h1, h2, h3, h4, fun H' s' => ?_⟩
    obtain ⟨i', j', w1, w2, k, w3, w4⟩ := h5 H' s'
    exact ⟨i', j', w1, w2, k, w3, hq _ _ w4⟩
theorem ok_nth_least (d : Def K mg "nth_least" s_nth_least ["bounds", "gathering", "k"]) (z : Bz K mg cLeastError cBeyond cNoBounds cNoRow cNoSuch cNoText cTooMany) (c_many_in : Cal P w K mg base k_many_in "many_in" ["gathering"] (sp_many_in K)) (c_many_lesser : Cal P w K mg base k_many_lesser "many_lesser" ["gathering", "way"] (sp_many_lesser K)) (c_nth_alike : Cal P w K mg base k_nth_alike "nth_alike" ["gathering", "way", "number"] (sp_nth_alike K)) (c_span_of : Cal P w K mg base k_span_of "span_of" ["bounds", "way"] (sp_span_of K)) (c_way_of_nth : Cal P w K mg base k_way_of_nth "way_of_nth" ["levels", "gathering", "k"] (sp_way_of_nth K)) : Cal P w K mg base k_nth_least "nth_least" ["bounds", "gathering", "k"] (sp_nth_least K) := by
  have sc := sc_nth_least
  refine d.cal fun f fd F => F.ok sc (fun vs H Q E h => ?_) (fun cdv A outer s H vs Q E hr h => ?_)
  · obtain ⟨b, ga, xs, low, L, k, gs, rfl, _⟩ := h
    rfl
  obtain ⟨b, ga, xs, low, L, k, gs, rfl, hb, hL, hga, hg, hgd, hl, hw9, hk, q⟩ := h
  refine ⟨_, (pss_cons (ps_if (PW.pt (pw_or (pt_cmpR op_lt (pv 2) pe_int (nomark _)) (pw_or1 (pt_cmpR op_ge (pv 2) (pe_fn c_many_in (hr.mono (by decide)) (by rfl) (pa_cons (pv 1) pa_nil)) (nomark _)))))
  (pss_one ps_never)
  pss_nil)
 (pss_cons (ps_set (i := 3) sc.nd rfl (Or.inl rfl) (pe_fn c_way_of_nth (hr.mono (by decide)) (by rfl) (pa_cons (pe_ix ix_tup (pv 0) pe_int (fun _ _ => rfl)) (pa_cons (pv 1) (pa_cons (pv 2) pa_nil)))))
 (pss_cons (ps_set (i := 4) sc.nd rfl (Or.inl rfl) (pe_op op_sub (pv 2) (pe_fn c_many_lesser (hr.mono (by decide)) (by rfl) (pa_cons (pv 1) (pa_cons (pv 3) pa_nil)))))
 (pss_one (ps_ret (pe_op op_catU (pe_tup (pa_cons (pe_ix ix_tup (pe_fn c_span_of (hr.mono (by decide)) (by rfl) (pa_cons (pv 0) (pa_cons (pv 3) pa_nil))) pe_int (fun _ _ => rfl)) pa_nil)) (pe_fn c_nth_alike (hr.mono (by decide)) (by rfl) (pa_cons (pv 1) (pa_cons (pv 3) (pa_cons (pv 4) pa_nil)))))))))), ?_⟩
  have r := kth_rng L (Wh gs) k
  obtain ⟨c1, c2⟩ := kth_cnt L (Wh gs) k (W_in hgd) hk
  rw [ltC_succ] at c2
  refine ⟨_, rfl, _, _, rfl, rfl, _, rfl, ?_⟩
  refine ite2 (fun c => absurd (of_decide_eq_true c) (by omega)) (fun _ => ?_)
  refine ⟨_, rfl, _, rfl, ga, xs, L, gs, rfl, SqL.of hga, hg, by omega, fun H1 s1 => ?_⟩
  rw [manyG_W hgd]
  refine ⟨_, _, rfl, rfl, _, rfl, ?_⟩
  refine ite2 (fun c => absurd (of_decide_eq_true c) (by omega)) (fun _ => ?_)
  refine ⟨_, rfl, b, _, _, _, rfl, rfl, s1.seqT hb, rfl, _, rfl, _, rfl, ga, xs, L, k, gs, rfl, hL, s1 _ _ hga, hg.same s1, hgd, hl, hw9, hk, fun t H2 s2 ht => ?_⟩
  have s02 := s1.trans s2
  generalize kth L (Wh gs) k = o at *
  refine ⟨_, rfl, _, rfl, _, rfl, ga, t, xs, L, o, gs, rfl, SqL.of (s02 _ _ hga), hg.same s02, hgd, hl, ht.sq, r.1, r.2, fun H3 s3 => ⟨_, _, rfl, rfl, ?_⟩⟩
  have s03 := s02.trans s3
  refine ⟨_, rfl, _, rfl, b, t, low, L, wayW L o, rfl, s03.seqT hb, hL, (ht.same s3).sq, fun p hp => ?_⟩
  have hsp : spanS low L (wayW L o) = (low + o, 1) := span_way L low o r.1 r.2
  rw [hsp]
  have s4 := same_new hp (.tup [V.int (low + o), .int (low + o + 1 - 1)])
  have hp4 : upd H3 p (.tup [V.int (low + o), .int (low + o + 1 - 1)]) p = some (.tup [V.int (low + o), .int (low + o + 1 - 1)]) := upd_same
  dsimp only
  generalize upd H3 p (.tup [V.int (low + o), .int (low + o + 1 - 1)]) = H4 at *
  refine ⟨p, _, _, _, rfl, rfl, SqT.of hp4, rfl, szb rfl, fun p1 hp1 => ?_⟩
  have s5 := same_new hp1 (.tup [V.int (low + o)])
  have hp5 : upd H4 p1 (.tup [V.int (low + o)]) p1 = some (.tup [V.int (low + o)]) := upd_same
  generalize upd H4 p1 (.tup [V.int (low + o)]) = H5 at *
  have s05 := (s03.trans s4).trans s5
  refine ⟨_, rfl, _, rfl, _, rfl, ga, t, xs, L, k - ltC (Wh gs) o, o, gs, ?_, hL, s05 _ _ hga, hg.same s05, hgd, hl, (((ht.same s3).same s4).same s5), r.1, r.2, by omega, fun p2 j pl H6 s6 hp2 hth => ?_⟩
  · exact congrArg (fun q : Int => [V.ref ga, V.ref t, V.int q]) (show (k : Int) - ((ltC (Wh gs) o : Nat) : Int) = ((k - ltC (Wh gs) o : Nat) : Int) by omega)
  refine ⟨p1, p2, _, _, rfl, rfl, SqT.of (s6 _ _ hp5), SqT.of hp2, szb rfl, fun p3 H7 s7 h3 _ => ?_⟩
  exact q p3 j pl H7 ((s05.trans s6).trans s7) h3 hth
end
def Scr (K : PySem.W.Frag) (H : Hp) (a : Addr) (xs : List V) : Prop :=
  (∃ o, H a = some (.frz o (.lst xs))) ∨
    ∃ (o : Obj) (its : Array Value) (n : Nat), K.lookup a = some o ∧ o.cls = .type "list" ∧ o.dict = none ∧ o.data = .seq its n ∧ its.size ≤ sizeLine ∧ Vals xs its.toList
theorem Scr.sq {K : PySem.W.Frag} {H : Hp} {a : Addr} {xs : List V} (h : Scr K H a xs) : SqL K H a xs := by
  rcases h with h | h
  · exact .inl (.inr h)
  · exact .inr h
theorem Scr.of {K : PySem.W.Frag} {H : Hp} {a : Addr} {xs : List V} (h : SqL K H a xs) (o : Only H) : Scr K H a xs := by
  rcases h with (h | h) | h
  · rcases o a with z | ⟨ob, ys, z⟩
    · rw [z] at h; cases h
    · rw [z] at h; cases h
  · exact .inl h
  · exact .inr h
theorem Scr.same {K : PySem.W.Frag} {H H' : Hp} {a : Addr} {xs : List V} (h : Scr K H a xs) (s : Same H H') : Scr K H' a xs := by
  rcases h with ⟨o, h⟩ | h
  · exact .inl ⟨o, s _ _ h⟩
  · exact .inr h
theorem Scr.keep {K : PySem.W.Frag} {H H' : Hp} {a p : Addr} {xs ys : List V} (h : Scr K H a xs) (k : Keep p H H') (e : H p = some (.lst ys)) : Scr K H' a xs := by
  rcases h with ⟨ob, h⟩ | h
  · exact .inl ⟨ob, k _ _ (ne_of h e (by intro z; cases z)) h⟩
  · exact .inr h
def PenM (H : Hp) (pen : Addr) : Prop := ∃ (c : Int) (b : Bool) (n : Int), H pen = some (.lst [.int c, .bl b, .int n])
theorem PenM.same {H H' : Hp} {pen : Addr} (p : PenM H pen) (s : Same H H') : PenM H' pen := by
  obtain ⟨c, b, n, h⟩ := p
  exact ⟨c, b, n, s _ _ h⟩
theorem PenM.new {H : Hp} {pen q : Addr} (p : PenM H pen) (h : H q = none) (o : HO) : PenM (upd H q o) pen := p.same (same_new h o)
theorem PenM.at {H : Hp} {pen : Addr} (p : PenM H pen) : ∃ xs, H pen = some (.lst xs) := by
  obtain ⟨c, b, n, h⟩ := p
  exact ⟨_, h⟩
theorem PenM.ne {H : Hp} {pen b : Addr} {xs : List V} (p : PenM H pen) (h : H b = some (.tup xs)) : b ≠ pen := by
  obtain ⟨ys, e⟩ := p.at
  exact ne_of h e (by intro z; cases z)
theorem PenM.fresh {H : Hp} {pen b : Addr} (p : PenM H pen) (h : H b = none) : b ≠ pen := by
  obtain ⟨ys, e⟩ := p.at
  exact Ne.symm (ne_of_none e h)
theorem PenM.other {H : Hp} {pen q : Addr} (p : PenM H pen) (hq : q ≠ pen) (o : HO) : PenM (upd H q o) pen := by
  obtain ⟨c, b, n, e⟩ := p
  exact ⟨c, b, n, by rw [upd_ne (Ne.symm hq)]; exact e⟩
theorem PenM.keep {H H' : Hp} {pen q : Addr} (p : PenM H pen) (hq : q ≠ pen) (k : Keep q H H') : PenM H' pen := by
  obtain ⟨c, b, n, e⟩ := p
  exact ⟨c, b, n, k _ _ (Ne.symm hq) e⟩
theorem PenM.free {H H' : Hp} {pen l : Addr} (p : PenM H' pen) (k : Keep pen H H') (h : H' l = none) : H l = none := by
  obtain ⟨xs, e⟩ := p.at
  exact k.free h e
theorem PenM.scr {K : PySem.W.Frag} {H H' : Hp} {pen a : Addr} {xs : List V} (p : PenM H pen) (k : Keep pen H H') (h : Scr K H a xs) : Scr K H' a xs := by
  obtain ⟨ys, e⟩ := p.at
  exact h.keep k e
abbrev k__law_pen : Nat := 1
def sp__law_pen (K : PySem.W.Frag) : Sp := fun vs H Q _ => ∃ (a : Addr) (ns : List Int) (k : Int), vs = [.ref a, .int k] ∧ SqL K H a (ns.map V.int) ∧ ns.length ≤ 63 ∧ 0 ≤ k ∧ k < 1000 ∧
  ∀ (p : Addr) (H' : Hp), H p = none → Same H H' → PenM H' p → Q (.ref p) H'
abbrev k__law_mixed : Nat := 1
def sp__law_mixed (_ : PySem.W.Frag) : Sp := fun vs H Q _ => ∃ (pen : Addr), vs = [.ref pen] ∧ PenM H pen ∧ ∀ (v : Int) (H' : Hp), Keep pen H H' → PenM H' pen → 0 ≤ v → Q (.int v) H'
abbrev k__law_take : Nat := 2
def sp__law_take (_ : PySem.W.Frag) : Sp := fun vs H Q _ => ∃ (pen : Addr) (size : Int), vs = [.ref pen, .int size] ∧ PenM H pen ∧ 0 < size ∧ size < 10 ^ 60 ∧
  ∀ (v : Int) (H' : Hp), Keep pen H H' → PenM H' pen → 0 ≤ v → v < size → Q (.int v) H'
abbrev k__law_bounds : Nat := 3
def sp__law_bounds (_ : PySem.W.Frag) : Sp := fun vs H Q _ => ∃ (pen : Addr), vs = [.ref pen] ∧ PenM H pen ∧
  ∀ (b : Addr) (low : Int) (L : Nat) (H' : Hp), Keep pen H H' → PenM H' pen → H' b = some (.tup [.int low, .int (L : Int)]) → L ≤ 40 → -(10 ^ 40) < low → low < 10 ^ 40 → Q (.ref b) H'
abbrev k__law_row : Nat := 3
def sp__law_row (_ : PySem.W.Frag) : Sp := fun vs H Q _ => ∃ (pen b : Addr) (low g : Int) (L : Nat), vs = [.ref pen, .ref b, .int g] ∧ PenM H pen ∧ H b = some (.tup [.int low, .int (L : Int)]) ∧ L ≤ 40 ∧ 0 ≤ g ∧ g ≤ 60 ∧
  ∀ (r : Addr) (ns : List Int) (H' : Hp), Keep pen H H' → PenM H' pen → H' r = some (.lst (ns.map V.int)) → H r = none → (ns.length : Int) ≤ g → Wths low L ns → Q (.ref r) H'
def muT : St → Nat := fun σ => match σ[3]? with
  | some (some (V.int m)) => m.toNat
  | _ => 0
section
variable {P : Program} {w : World} {K : PySem.W.Frag} {mg : Str → Option Value} {base : Heap}
theorem ok__law_pen (d : Def K mg "_law_pen" s__law_pen ["_law_script", "_law_k"]) (z : Bz K mg cLeastError cBeyond cNoBounds cNoRow cNoSuch cNoText cTooMany)  : Cal P w K mg base k__law_pen "_law_pen" ["_law_script", "_law_k"] (sp__law_pen K) := by
  have sc := sc__law_pen
  refine d.cal fun f fd F => F.ok sc (fun vs H Q E h => ?_) (fun cdv A outer s H vs Q E hr h => ?_)
  · obtain ⟨a, ns, k, rfl, _⟩ := h
    rfl
  obtain ⟨a, ns, k, rfl, hS, h63, h0, hk, q⟩ := h
  refine ⟨_, (pss_cons (ps_set (i := 2) sc.nd rfl (Or.inl rfl) (pe_op op_add (pe_op op_mul pe_int (pv 1)) pe_int))
 (pss_cons (ps_if (pt_cmpR op_lt (pv 1) (pe_callB call_len_seq (by rfl) z.len_ bt_len (pa_cons (pv 0) pa_nil)) (nomark _))
  (pss_one (ps_set (i := 2) sc.nd rfl (Or.inl rfl) (pe_ix ix_list (pv 0) (pv 1) (fun _ _ => rfl))))
  (pss_one (ps_if (pt_cmpR op_gt (pe_callB call_len_seq (by rfl) z.len_ bt_len (pa_cons (pv 0) pa_nil)) pe_int (nomark _))
  (pss_one (ps_set (i := 2) sc.nd rfl (Or.inl rfl) (pe_op op_add (pv 2) (pe_op op_mod (pe_ix ix_list (pv 0) (pe_op op_mod (pv 1) (pe_callB call_len_seq (by rfl) z.len_ bt_len (pa_cons (pv 0) pa_nil))) (fun _ _ => rfl)) (pe_op op_pow pe_int pe_int)))))
  pss_nil)))
 (pss_one (ps_ret (pe_lst (pa_cons (pv 2) (pa_cons (pe_cmpR op_ge (pv 2) (pe_op op_pow pe_int pe_int) (nomark _)) (pa_cons pe_int pa_nil)))))))), ?_⟩
  have hl : (ns.map V.int).length = ns.length := List.length_map _
  refine ⟨_, rfl, _, _, rfl, rfl, .inl ⟨by decide, by decide⟩, _, _, rfl, rfl, ?_⟩
  refine ⟨_, rfl, _, rfl, a, _, rfl, .inl hS, _, _, rfl, rfl, _, rfl, ?_⟩
  refine ite2 (fun c => ?_) (fun c => ?_)
  · have c' : k < (((ns.map V.int).length : Nat) : Int) := of_decide_eq_true c
    rw [hl] at c'
    obtain ⟨v, _, hv⟩ := atI_ints h0 c'
    refine ⟨_, rfl, _, rfl, a, _, _, _, rfl, rfl, hS, hv, ?_⟩
    exact ⟨_, rfl, _, rfl, _, _, rfl, rfl, ⟨by decide, by decide, by decide⟩, _, _, rfl, rfl, szb rfl, fun p hp => q p _ hp (same_new hp _) ⟨_, _, _, upd_same⟩⟩
  · refine ⟨_, rfl, a, _, rfl, .inl hS, _, _, rfl, rfl, _, rfl, ?_⟩
    refine ite2 (fun c2 => ?_) (fun c2 => ?_)
    · have c2' : (0 : Int) < (((ns.map V.int).length : Nat) : Int) := of_decide_eq_true c2
      have m0 : 0 ≤ k % (((ns.map V.int).length : Nat) : Int) := Int.emod_nonneg _ (by omega)
      have m1 : k % (((ns.map V.int).length : Nat) : Int) < (((ns.map V.int).length : Nat) : Int) := Int.emod_lt_of_pos _ c2'
      obtain ⟨v, _, hv⟩ := atI_ints (l := ns) m0 (by rw [hl] at m1 ⊢; exact m1)
      refine ⟨_, rfl, _, rfl, _, rfl, _, rfl, a, _, rfl, .inl hS, _, _, rfl, rfl, c2', a, _, _, _, rfl, rfl, hS, hv, _, _, rfl, rfl, ⟨by decide, by decide, by decide⟩, _, _, rfl, rfl, (by show (0 : Int) < 10 ^ 15; decide), _, _, rfl, rfl, ?_⟩
      exact ⟨_, rfl, _, rfl, _, _, rfl, rfl, ⟨by decide, by decide, by decide⟩, _, _, rfl, rfl, szb rfl, fun p hp => q p _ hp (same_new hp _) ⟨_, _, _, upd_same⟩⟩
    · exact ⟨_, rfl, _, rfl, _, _, rfl, rfl, ⟨by decide, by decide, by decide⟩, _, _, rfl, rfl, szb rfl, fun p hp => q p _ hp (same_new hp _) ⟨_, _, _, upd_same⟩⟩
theorem ok__law_mixed (d : Def K mg "_law_mixed" s__law_mixed ["_law_pen_here"]) (z : Bz K mg cLeastError cBeyond cNoBounds cNoRow cNoSuch cNoText cTooMany)  : Cal P w K mg base k__law_mixed "_law_mixed" ["_law_pen_here"] (sp__law_mixed K) := by
  have sc := sc__law_mixed
  refine d.cal fun f fd F => F.ok sc (fun vs H Q E h => ?_) (fun cdv A outer s H vs Q E hr h => ?_)
  · obtain ⟨pen, rfl, _⟩ := h
    rfl
  obtain ⟨pen, rfl, ⟨c, b, n, hp⟩, q⟩ := h
  refine ⟨_, (pss_cons (ps_asg (pe_op op_add (pe_ix ix_list (pv 0) pe_int (fun _ _ => rfl)) pe_int) (pg_sub (pv 0) pe_int set_list))
 (pss_cons (ps_set (i := 1) sc.nd rfl (Or.inl rfl) (pe_op op_mod (pe_op op_mul (pe_op op_add (pe_op op_mod (pe_ix ix_list (pv 0) pe_int (fun _ _ => rfl)) pe_int) (pe_op op_mul pe_int (pe_ix ix_list (pv 0) pe_int (fun _ _ => rfl)))) pe_int) pe_int))
 (pss_cons (ps_set (i := 1) sc.nd rfl (Or.inl rfl) (pe_op op_mod (pe_op op_mul (pe_op op_add (pv 1) (pe_op op_mul pe_int (pe_ix ix_list (pv 0) pe_int (fun _ _ => rfl)))) (pe_op op_add (pv 1) pe_int)) pe_int))
 (pss_one (ps_ret (pe_op op_fdivB (pv 1) pe_int)))))), ?_⟩
  refine ⟨_, rfl, pen, _, _, _, rfl, rfl, SqL.of hp, rfl, _, _, rfl, rfl, _, rfl, pen, _, _, 2, rfl, rfl, hp, rfl, ?_⟩
  refine ⟨_, rfl, pen, _, _, _, rfl, rfl, SqL.of upd_same, rfl, _, _, rfl, rfl, (by show (0 : Int) < 2147483647; decide), _, rfl, pen, _, _, _, rfl, rfl, SqL.of upd_same, rfl, _, _, rfl, rfl, .inl ⟨by decide, by decide⟩, _, _, rfl, rfl, _, _, rfl, rfl, .inr ⟨by decide, by decide⟩, _, _, rfl, rfl, (by show (0 : Int) < 2147483629; decide), ?_⟩
  refine ⟨_, rfl, _, rfl, pen, _, _, _, rfl, rfl, SqL.of upd_same, rfl, _, _, rfl, rfl, .inl ⟨by decide, by decide⟩, _, _, rfl, rfl, _, rfl, _, _, rfl, rfl, _, _, rfl, rfl, .inr ⟨by omega, by omega⟩, _, _, rfl, rfl, (by show (0 : Int) < 2147483587; decide), ?_⟩
  refine ⟨_, rfl, _, _, rfl, rfl, ⟨by decide, by decide⟩, ?_⟩
  exact q _ _ (Keep.set pen H _) ⟨_, _, _, upd_same⟩ (Int.ediv_nonneg (Int.emod_nonneg _ (by decide)) (by decide))
theorem ok__law_take (d : Def K mg "_law_take" s__law_take ["_law_pen_here", "_law_size"]) (z : Bz K mg cLeastError cBeyond cNoBounds cNoRow cNoSuch cNoText cTooMany) (c__law_mixed : Cal P w K mg base k__law_mixed "_law_mixed" ["_law_pen_here"] (sp__law_mixed K)) : Cal P w K mg base k__law_take "_law_take" ["_law_pen_here", "_law_size"] (sp__law_take K) := by
  have sc := sc__law_take
  refine d.cal fun f fd F => F.ok sc (fun vs H Q E h => ?_) (fun cdv A outer s H vs Q E hr h => ?_)
  · obtain ⟨pen, size, rfl, _⟩ := h
    rfl
  obtain ⟨pen, size, rfl, P0, s0, s1, q⟩ := h
  refine ⟨_, (pss_cons (ps_if (pt_val (pe_ix ix_list (pv 0) pe_int (fun _ _ => rfl)))
  (pss_cons (ps_set (i := 2) sc.nd rfl (Or.inl rfl) (pe_op op_mod (pe_ix ix_list (pv 0) pe_int (fun _ _ => rfl)) (pv 1)))
 (pss_cons (ps_asg (pe_op op_fdivB (pe_ix ix_list (pv 0) pe_int (fun _ _ => rfl)) (pv 1)) (pg_sub (pv 0) pe_int set_list))
 (pss_one (ps_ret (pv 2)))))
  pss_nil)
 (pss_cons (ps_set (i := 2) sc.nd rfl (Or.inl rfl) (pe_fn c__law_mixed (hr.mono (by decide)) (by rfl) (pa_cons (pv 0) pa_nil)))
 (pss_cons (ps_set (i := 3) sc.nd rfl (Or.inl rfl) (pv 1))
 (pss_cons (ps_while PassesOwn.never (pt_cmpR op_gt (pv 3) (pe_op op_pow pe_int pe_int) (nomark _))
  (pss_cons (ps_set (i := 2) sc.nd rfl (Or.inl rfl) (pe_op op_add (pe_op op_mul (pv 2) pe_int) (pe_fn c__law_mixed (hr.mono (by decide)) (by rfl) (pa_cons (pv 0) pa_nil))))
 (pss_one (ps_set (i := 3) sc.nd rfl (Or.inl rfl) (pe_op op_fdivB (pv 3) (pe_op op_pow pe_int pe_int))))))
 (pss_one (ps_ret (pe_op op_mod (pv 2) (pv 1)))))))), ?_⟩
  obtain ⟨c, b, n, hp⟩ := id P0
  refine ⟨_, rfl, pen, _, _, _, rfl, rfl, SqL.of hp, rfl, b, rfl, ?_⟩
  refine ite2 (fun _ => ?_) (fun _ => ?_)
  · refine ⟨_, rfl, pen, _, _, _, rfl, rfl, SqL.of hp, rfl, _, rfl, _, _, rfl, rfl, s0, ?_⟩
    refine ⟨_, rfl, pen, _, _, _, rfl, rfl, SqL.of hp, rfl, _, rfl, _, _, rfl, rfl, ⟨s0, s1⟩, _, rfl, pen, _, _, 0, rfl, rfl, hp, rfl, _, rfl, ?_⟩
    exact q _ _ (Keep.set pen H _) ⟨_, _, _, upd_same⟩ (Int.emod_nonneg _ (by omega)) (Int.emod_lt_of_pos _ s0)
  · refine ⟨_, rfl, pen, rfl, P0, fun v H1 k1 P1 v0 => ?_⟩
    refine ⟨_, rfl, ?_⟩
    refine while_by (fun σ H2 => ∃ (f wd : Int), σ = [some (.ref pen), some (.int size), some (.int f), some (.int wd)] ∧ Keep pen H H2 ∧ PenM H2 pen) (fun σ _ => muT σ) ⟨v, size, rfl, k1, P1⟩ ?_ ?_
    · rintro σ H2 ⟨f, wd, rfl, k2, P2⟩
      refine ⟨_, rfl, _, _, rfl, rfl, ⟨by decide, by decide, by decide⟩, _, _, rfl, rfl, _, rfl, ?_⟩
      refine ite2 (fun c2 => ?_) (fun c2 => ?_)
      · have c2' : (10 : Int) ^ 8 < wd := of_decide_eq_true c2
        refine ⟨_, rfl, _, _, rfl, rfl, .inr ⟨by decide, by decide⟩, _, rfl, pen, rfl, P2, fun v3 H3 k3 P3 _ => ⟨_, _, rfl, rfl, ?_⟩⟩
        refine ⟨_, rfl, _, _, rfl, rfl, ⟨by decide, by decide, by decide⟩, _, _, rfl, rfl, ⟨by decide, by decide⟩, ⟨_, _, rfl, k2.trans k3, P3⟩, ?_⟩
        show (wd / (10 : Int) ^ 8).toNat < wd.toNat
        omega
      · refine ⟨_, rfl, _, rfl, _, _, rfl, rfl, s0, ?_⟩
        exact q _ _ k2 P2 (Int.emod_nonneg _ (by omega)) (Int.emod_lt_of_pos _ s0)
    · rintro σ H2 Q1 Q2 hq ⟨_, e0, i, j, e1, e2, e3, i2, j2, e4, e5, k, e6, h⟩
      exact ⟨_, e0, i, j, e1, e2, e3, i2, j2, e4, e5, k, e6, hq _ _ h⟩
theorem ok__law_bounds (d : Def K mg "_law_bounds" s__law_bounds ["_law_pen_here"]) (z : Bz K mg cLeastError cBeyond cNoBounds cNoRow cNoSuch cNoText cTooMany) (c__law_take : Cal P w K mg base k__law_take "_law_take" ["_law_pen_here", "_law_size"] (sp__law_take K)) : Cal P w K mg base k__law_bounds "_law_bounds" ["_law_pen_here"] (sp__law_bounds K) := by
  have sc := sc__law_bounds
  refine d.cal fun f fd F => F.ok sc (fun vs H Q E h => ?_) (fun cdv A outer s H vs Q E hr h => ?_)
  · obtain ⟨pen, rfl, _⟩ := h
    rfl
  obtain ⟨pen, rfl, P0, q⟩ := h
  refine ⟨_, (pss_cons (ps_set (i := 1) sc.nd rfl (Or.inl rfl) (pe_ix ix_list (pe_lst (pa_cons pe_int (pa_cons pe_int (pa_cons pe_int (pa_cons pe_int (pa_cons pe_int (pa_cons pe_int (pa_cons pe_int (pa_cons pe_int pa_nil))))))))) (pe_fn c__law_take (hr.mono (by decide)) (by rfl) (pa_cons (pv 0) (pa_cons pe_int pa_nil))) (fun _ _ => rfl)))
 (pss_cons (ps_set (i := 2) sc.nd rfl (Or.inl rfl) (pe_fn c__law_take (hr.mono (by decide)) (by rfl) (pa_cons (pv 0) (pa_cons pe_int pa_nil))))
 (pss_cons (ps_set (i := 3) sc.nd rfl (Or.inl rfl) (pe_fn c__law_take (hr.mono (by decide)) (by rfl) (pa_cons (pv 0) (pa_cons (pe_ix ix_list (pe_lst (pa_cons pe_int (pa_cons pe_int (pa_cons pe_int (pa_cons (pe_op op_sub (pe_op op_mul pe_int (pe_op op_pow pe_int pe_int)) pe_int) pa_nil))))) (pv 2) (fun _ _ => rfl)) pa_nil))))
 (pss_one (ps_ret (pe_tup (pa_cons (pe_ix ix_list (pe_lst (pa_cons pe_int (pa_cons (pe_op op_sub pe_int (pv 3)) (pa_cons (pe_op op_sub (pe_op op_sub (pe_op op_pow pe_int pe_int) pe_int) (pv 3)) (pa_cons (pe_op op_add (pe_op op_sub (pv 3) (pe_op op_pow pe_int pe_int)) pe_int) pa_nil))))) (pv 2) (fun _ _ => rfl)) (pa_cons (pv 1) pa_nil)))))))), ?_⟩
  refine ⟨szb rfl, fun p hp => ?_⟩
  refine ⟨_, rfl, pen, 8, rfl, P0.new hp _, by decide, by decide, fun v1 H1 k1 P1 a1 b1 => ?_⟩
  obtain ⟨L', hm, hv⟩ := atI_ints (l := [0, 1, 2, 3, 4, 5, 8, 40]) a1 b1
  have hL : 0 ≤ L' ∧ L' ≤ 40 := by
    simp only [List.mem_cons, List.not_mem_nil, or_false] at hm
    omega
  obtain ⟨L, rfl⟩ := Int.eq_ofNat_of_zero_le hL.1
  have hL2 : L ≤ 40 := by omega
  refine ⟨p, _, _, _, rfl, rfl, SqL.of (k1 _ _ (P0.fresh hp) upd_same), hv, ?_⟩
  refine ⟨_, rfl, pen, 4, rfl, P1, by decide, by decide, fun v2 H2 k2 P2 a2 b2 => ?_⟩
  have k02 : Keep pen H H2 := (Keep.new hp _).trans (k1.trans k2)
  obtain ⟨S, hS, S0, S1, hlow⟩ : ∃ S : Int, atI [V.int 1, .int 20, .int 9, .int (2 * 10 ^ (40 : Int).toNat - 1)] v2 = some (.int S) ∧ 0 < S ∧ S < 10 ^ 60 ∧ ∀ x : Int, 0 ≤ x → x < S →
      ∃ y : Int, atI [V.int 0, .int (0 - x), .int (10 ^ (40 : Int).toNat - 1 - x), .int (x - 10 ^ (40 : Int).toNat + 1)] v2 = some (.int y) ∧ -(10 ^ 40) < y ∧ y < 10 ^ 40 := by
    have h4 : v2 = 0 ∨ v2 = 1 ∨ v2 = 2 ∨ v2 = 3 := by omega
    rcases h4 with rfl | rfl | rfl | rfl
    · exact ⟨1, rfl, by decide, by decide, fun x _ _ => ⟨0, rfl, by decide, by decide⟩⟩
    · exact ⟨20, rfl, by decide, by decide, fun x _ _ => ⟨_, rfl, by omega, by omega⟩⟩
    · refine ⟨9, rfl, by decide, by decide, fun x _ _ => ⟨_, rfl, ?_, ?_⟩⟩
      · show -(10 ^ 40) < (10 : Int) ^ 40 - 1 - x
        omega
      · show (10 : Int) ^ 40 - 1 - x < 10 ^ 40
        omega
    · refine ⟨_, rfl, by decide, by decide, fun x x0 x1 => ⟨_, rfl, ?_, ?_⟩⟩
      · show -(10 ^ 40) < x - (10 : Int) ^ 40 + 1
        omega
      · show x - (10 : Int) ^ 40 + 1 < 10 ^ 40
        have x1' : x < 2 * (10 : Int) ^ 40 - 1 := x1
        omega
  refine ⟨_, rfl, _, _, rfl, rfl, ⟨by decide, by decide, by decide⟩, _, _, rfl, rfl, .inl ⟨by decide, by decide⟩, _, _, rfl, rfl, szb rfl, fun p2 hp2 => ?_⟩
  refine ⟨_, rfl, p2, _, _, _, rfl, rfl, SqL.of upd_same, hS, pen, _, rfl, P2.new hp2 _, S0, S1, fun v3 H3 k3 P3 a3 b3 => ?_⟩
  obtain ⟨y, hy, y0, y1⟩ := hlow v3 a3 b3
  refine ⟨_, rfl, _, _, rfl, rfl, _, _, rfl, rfl, ⟨by decide, by decide, by decide⟩, _, _, rfl, rfl, _, rfl, _, _, rfl, rfl, _, rfl, _, _, rfl, rfl, ⟨by decide, by decide, by decide⟩, _, _, rfl, rfl, _, _, rfl, rfl, szb rfl, fun p3 hp3 => ?_⟩
  refine ⟨_, rfl, p3, _, _, _, rfl, rfl, SqL.of upd_same, hy, _, rfl, szb rfl, fun b hb => ?_⟩
  exact q b y L _ (k02.trans ((Keep.new hp2 _).trans (k3.trans ((Keep.new hp3 _).trans (Keep.new hb _))))) ((P3.new hp3 _).new hb _) upd_same hL2 y0 y1
theorem ok__law_row (d : Def K mg "_law_row" s__law_row ["_law_pen_here", "_law_bounds_here", "_law_longest"]) (z : Bz K mg cLeastError cBeyond cNoBounds cNoRow cNoSuch cNoText cTooMany) (c__law_take : Cal P w K mg base k__law_take "_law_take" ["_law_pen_here", "_law_size"] (sp__law_take K)) : Cal P w K mg base k__law_row "_law_row" ["_law_pen_here", "_law_bounds_here", "_law_longest"] (sp__law_row K) := by
  have sc := sc__law_row
  refine d.cal fun f fd F => F.ok sc (fun vs H Q E h => ?_) (fun cdv A outer s H vs Q E hr h => ?_)
  · obtain ⟨pen, b, low, g, L, rfl, _⟩ := h
    rfl
  obtain ⟨pen, b, low, g, L, rfl, P0, hb, hL, g0, g1, q⟩ := h
  refine ⟨_, (pss_cons (ps_asg (pv 1) (pg_tup rfl (pgs_cons (pg_name (i := 3) sc.nd rfl (Or.inl rfl)) (pgs_cons (pg_name (i := 4) sc.nd rfl (Or.inl rfl)) pgs_nil))))
 (pss_cons (ps_set (i := 5) sc.nd rfl (Or.inr rfl) (pe_op op_shl pe_int (pv 4)))
 (pss_cons (ps_set (i := 6) sc.nd rfl (Or.inl rfl) (pe_fn c__law_take (hr.mono (by decide)) (by rfl) (pa_cons (pv 0) (pa_cons pe_int pa_nil))))
 (pss_cons (ps_setComp (i := 7) (cl := [("_law_size", s.heap.objs.size + 1 + 1), ("_law_pen_here", s.heap.objs.size + 1 + 0)]) (cn := ["_law_size", "_law_pen_here"]) (N := ["_law_pen_here", "_law_size"]) (fr := [0, 5]) (sc0 := defScope s__law_row) sc.nd rfl (Or.inl rfl) rfl (pi_range1 rfl z.range_ (pa_cons pe_int pa_nil)) (fun C s₂ H₂ fp => (pe_fn c__law_take (hr.mono (by decide)) (by rfl) (pa_cons (pv 1) (pa_cons (pv 2) pa_nil)))) (by with_unfolding_all rfl) ⟨by with_unfolding_all rfl, by with_unfolding_all rfl, trivial⟩ rfl rfl rfl ⟨by decide +kernel, by decide +kernel, by decide +kernel, by decide +kernel, by decide +kernel, by decide +kernel, by decide +kernel⟩ rfl (by with_unfolding_all rfl) (.inl rfl))
 (pss_cons (ps_set (i := 8) sc.nd rfl (Or.inl rfl) (pe_lst pa_nil))
 (pss_cons (ps_for PassesOwn.never rfl (pi_range1 rfl z.range_ (pa_cons (pe_fn c__law_take (hr.mono (by decide)) (by rfl) (pa_cons (pv 0) (pa_cons (pe_op op_add (pv 2) pe_int) pa_nil))) pa_nil)) (pg_name (i := 9) sc.nd rfl (Or.inl rfl))
  (pss_cons (ps_set (i := 10) sc.nd rfl (Or.inl rfl) (pe_fn c__law_take (hr.mono (by decide)) (by rfl) (pa_cons (pv 0) (pa_cons (pe_ix ix_list (pe_lst (pa_cons (pv 5) (pa_cons (pv 5) (pa_cons pe_int (pa_cons (pe_callB (call_min2 rfl) (by rfl) z.min_ bt_min (pa_cons (pv 5) (pa_cons pe_int pa_nil))) pa_nil))))) (pv 6) (fun _ _ => rfl)) pa_nil))))
 (pss_cons (ps_if (pt_cmpR op_eq (pv 6) pe_int (nomark _))
  (pss_one (ps_set (i := 10) sc.nd rfl (Or.inl rfl) (pe_ix ix_list (pv 7) (pv 10) (fun _ _ => rfl))))
  pss_nil)
 (pss_cons (ps_if (pt_cmpR op_eq (pv 6) pe_int (nomark _))
  (pss_one (ps_set (i := 10) sc.nd rfl (Or.inl rfl) (pe_op op_mod (pe_op op_add (pe_ix ix_list (pv 7) pe_int (fun _ _ => rfl)) (pv 10)) (pv 5))))
  pss_nil)
 (pss_one (ps_expr (pe_bm PySem.F.plainAttrs_list PySem.F.slot_list_append PySem.F.type_list_append mt_append (pv 8) (pa_cons (pe_op op_add (pv 3) (pv 10)) pa_nil))))))))
 (pss_one (ps_ret (pv 8))))))))), ?_⟩
  have hp := p2pos L
  have hq := p2le hL
  refine ⟨_, rfl, b, _, rfl, SqT.of hb, rfl, _, _, rfl, _, _, rfl, rfl, ?_⟩
  refine ⟨_, rfl, _, _, rfl, rfl, ⟨by omega, by omega, by decide⟩, ?_⟩
  dsimp only
  rw [shlOne]
  refine ⟨_, rfl, pen, 4, rfl, P0, by decide, by decide, fun wv H1 k1 P1 w0 w1 => ?_⟩
  refine ⟨3, rfl, by decide, by decide, fun D hD => ?_⟩
  have hD0 : H D = none := P1.free k1 hD
  have hDp : D ≠ pen := P1.fresh hD
  refine comp_range (n := 3) (sz (by decide)) (fun j ys H6 => ∃ fs : List Int, ys = fs.map V.int ∧ fs.length = j ∧ (∀ x ∈ fs, 0 ≤ x ∧ x < (2 : Int) ^ L) ∧ H6 D = some (.lst ys) ∧ Keep pen H H6 ∧ PenM H6 pen)
    ⟨[], rfl, rfl, fun x hx => absurd hx (by simp), upd_same, k1.own hD0, P1.new hD _⟩ (fun j ys H6 ⟨fs, e1, e2, _, e3, _⟩ => ⟨e3, by rw [e1, List.length_map]; exact e2⟩) ?_ ?_
  · rintro j ys H6 hj ⟨fs, e1, e2, e4, e3, k6, P6⟩
    refine ⟨_, rfl, _, rfl, pen, _, rfl, P6, hp, by omega, fun u3 H7 k7 P7 z0 z1 => ?_⟩
    have e3' : H7 D = some (.lst ys) := k7 _ _ hDp e3
    refine ⟨e3', fs ++ [u3], by rw [List.map_append, e1] <;> rfl, by rw [List.length_append, e2] <;> rfl, fun x hx => ?_, upd_same, (k6.trans k7).own hD0, P7.other hDp _⟩
    rcases List.mem_append.mp hx with h' | h'
    · exact e4 x h'
    · cases List.mem_singleton.mp h'
      exact ⟨z0, z1⟩
  · rintro ys H6 ⟨fs, e1, e2, e4, e3, k6, P6⟩
    rw [e1] at e3
    refine ⟨szb rfl, fun r hr => ?_⟩
    have hr0 : H r = none := P6.free k6 hr
    have hrD : D ≠ r := ne_of_none e3 hr
    have hrp : r ≠ pen := P6.fresh hr
    have P7 : PenM (upd H6 r (.lst [])) pen := P6.new hr _
    refine ⟨_, rfl, _, rfl, _, _, rfl, rfl, pen, _, rfl, P7, by omega, by omega, fun m H7 k7 P7 m0 m1 => ⟨m, rfl, by omega, by omega, for_range (n := m.toNat) (fun i σ H8 => ∃ (ns : List Int) (v9 v10 : Option V), σ = [some (.ref pen), some (.ref b), some (.int g), some (.int low), some (.int (L : Int)), some (.int (2 ^ L)), some (.int wv), some (.ref D), some (.ref r), v9, v10] ∧ H8 r = some (.lst (ns.map V.int)) ∧ ns.length = i ∧ Wths low L ns ∧
      H8 D = some (.lst (fs.map V.int)) ∧ Keep pen H H8 ∧ PenM H8 pen) ⟨[], _, _, rfl, k7 _ _ hrp upd_same, rfl, fun x hx => absurd hx (by simp), k7 _ _ hDp (by rw [upd_ne hrD]; exact e3), (k6.own hr0).trans k7, P7⟩ ?_ ?_⟩⟩
    · rintro i σ H8 hi ⟨ns, v9, v10, rfl, hr8, hl8, hw8, hD8, k8, P8⟩
      obtain ⟨S, hS, S0, S1, S2, S3⟩ : ∃ S : Int, atI [V.int (2 ^ L), .int (2 ^ L), .int 3, .int (if (5 : Int) < 2 ^ L then 5 else 2 ^ L)] wv = some (.int S) ∧ 0 < S ∧ S < 10 ^ 60 ∧ (wv = 2 → S = 3) ∧ (wv ≠ 2 → S ≤ 2 ^ L) := by
        have h4 : wv = 0 ∨ wv = 1 ∨ wv = 2 ∨ wv = 3 := by omega
        rcases h4 with rfl | rfl | rfl | rfl
        · exact ⟨_, rfl, hp, by omega, fun z => absurd z (by decide), fun _ => Int.le_refl _⟩
        · exact ⟨_, rfl, hp, by omega, fun z => absurd z (by decide), fun _ => Int.le_refl _⟩
        · exact ⟨3, rfl, by decide, by decide, fun _ => rfl, fun z => absurd rfl z⟩
        · refine ⟨_, rfl, ?_, ?_, fun z => absurd z (by decide), fun _ => ?_⟩
          · split <;> omega
          · split <;> omega
          · split <;> omega
      have fin : ∀ (y : Int) (v : Option V) (H9 : Hp), 0 ≤ y → y < 2 ^ L → Keep pen H8 H9 → PenM H9 pen → H9 r = some (.lst (ns.map V.int)) ∧ (ns.map V.int).length < sizeLine ∧
          ∃ (ns' : List Int) (v9' v10' : Option V), [some (V.ref pen), some (.ref b), some (.int g), some (.int low), some (.int (L : Int)), some (.int (2 ^ L)), some (.int wv), some (.ref D), some (.ref r), some (.int (0 + (i : Int))), v] = [some (V.ref pen), some (.ref b), some (.int g), some (.int low), some (.int (L : Int)), some (.int (2 ^ L)), some (.int wv), some (.ref D), some (.ref r), v9', v10'] ∧
            (upd H9 r (.lst (ns.map V.int ++ [.int (low + y)]))) r = some (.lst (ns'.map V.int)) ∧ ns'.length = i + 1 ∧ Wths low L ns' ∧ (upd H9 r (.lst (ns.map V.int ++ [.int (low + y)]))) D = some (.lst (fs.map V.int)) ∧ Keep pen H (upd H9 r (.lst (ns.map V.int ++ [.int (low + y)]))) ∧ PenM (upd H9 r (.lst (ns.map V.int ++ [.int (low + y)]))) pen := by
        intro y v H9 y0 y1 k9 P9
        have hr9 := k9 _ _ hrp hr8
        have hD9 := k9 _ _ hDp hD8
        refine ⟨hr9, by rw [List.length_map, hl8]; exact small1000 (by omega), ns ++ [low + y], _, _, rfl, ?_, by rw [List.length_append, hl8] <;> rfl, hw8.snoc (by omega) (by omega), by rw [upd_ne hrD]; exact hD9, (k8.trans k9).own hr0, P9.other hrp _⟩
        rw [upd_same, List.map_append]
        rfl
      refine ⟨_, rfl, _, rfl, _, rfl, _, rfl, _, _, rfl, szb rfl, fun p2 hp2 => ?_⟩
      refine ⟨_, rfl, p2, _, _, _, rfl, rfl, SqL.of upd_same, hS, pen, _, rfl, P8.new hp2 _, S0, S1, fun u H9 k9 P9 u0 u1 => ?_⟩
      have k89 : Keep pen H8 H9 := (Keep.new hp2 _).trans k9
      refine ⟨_, rfl, rfl, _, rfl, ?_⟩
      refine ite2 (fun c => ?_) (fun c => ?_)
      · have c' : wv = 2 := V.int.inj (of_decide_eq_true c)
        have e3S := S2 c'
        obtain ⟨fv, hm, hv⟩ := atI_ints (l := fs) (i := u) u0 (by omega)
        obtain ⟨y0, y1⟩ := e4 fv hm
        refine ⟨_, rfl, _, rfl, D, _, _, _, rfl, rfl, SqL.of (k89 _ _ hDp hD8), hv, ?_⟩
        refine ⟨_, rfl, rfl, _, rfl, ?_⟩
        refine ite2 (fun c3 => ?_) (fun c3 => ?_)
        · have c3' : wv = 3 := V.int.inj (of_decide_eq_true c3)
          omega
        · obtain ⟨f1, f2, f3⟩ := fin fv (some (.int fv)) H9 y0 y1 k89 P9
          exact ⟨_, rfl, .inl ⟨rfl, _, SqL.of f1⟩, _, rfl, _, rfl, _, _, rfl, rfl, r, _, _, rfl, rfl, f1, f2, f3⟩
      · have c' : wv ≠ 2 := fun z => c (decide_eq_true (by rw [z]))
        have e3S := S3 c'
        refine ⟨_, rfl, rfl, _, rfl, ?_⟩
        refine ite2 (fun c3 => ?_) (fun c3 => ?_)
        · obtain ⟨f0, hm, hv⟩ := atI_ints (l := fs) (i := 0) (by omega) (by omega)
          have b0 : 0 ≤ (f0 + u) % (2 : Int) ^ L := Int.emod_nonneg _ (by omega)
          have b1 : (f0 + u) % (2 : Int) ^ L < 2 ^ L := Int.emod_lt_of_pos _ hp
          refine ⟨_, rfl, D, _, _, _, rfl, rfl, SqL.of (k89 _ _ hDp hD8), hv, _, rfl, _, _, rfl, rfl, _, rfl, _, _, rfl, rfl, hp, ?_⟩
          obtain ⟨f1, f2, f3⟩ := fin ((f0 + u) % (2 : Int) ^ L) (some (.int ((f0 + u) % (2 : Int) ^ L))) H9 b0 b1 k89 P9
          exact ⟨_, rfl, .inl ⟨rfl, _, SqL.of f1⟩, _, rfl, _, rfl, _, _, rfl, rfl, r, _, _, rfl, rfl, f1, f2, f3⟩
        · obtain ⟨f1, f2, f3⟩ := fin u (some (.int u)) H9 u0 (by omega) k89 P9
          exact ⟨_, rfl, .inl ⟨rfl, _, SqL.of f1⟩, _, rfl, _, rfl, _, _, rfl, rfl, r, _, _, rfl, rfl, f1, f2, f3⟩
    · rintro σ H8 ⟨ns, v9, v10, rfl, hr8, hl8, hw8, hD8, k8, P8⟩
      exact ⟨_, rfl, q r ns _ k8 P8 hr8 hr0 (by omega) hw8⟩
end
def mkOf (mid n : Int) : Int := if n < mid then 0 else 1
def loI (mid : Int) : Int → Bool := fun n => decide (n < mid)
def hiI (mid : Int) : Int → Bool := fun n => decide (mid ≤ n)
theorem grow_part {low : Int} {e : Nat} {ns : List Int} (h : ns ≠ []) : grow low (e + 1) ns = .part (ns.map (mkOf (low + 2 ^ e))) (grow low e (ns.filter (loI (low + 2 ^ e)))) (grow (low + 2 ^ e) e (ns.filter (hiI (low + 2 ^ e)))) := grow_succ h
def LeafV (v : V) : Prop := v = .non ∨ (∃ n, v = .int n) ∨ ∃ y, v = .str y
def PlnAt (K : PySem.W.Frag) (H : Hp) : Nat → V → Prop
  | 0, v => LeafV v
  | e + 1, v => LeafV v ∨ ∃ a xs, v = .ref a ∧ SqT K H a xs ∧ xs.length ≤ 1000 ∧ ∀ x ∈ xs, PlnAt K H e x
theorem pln_leaf {K : PySem.W.Frag} {H : Hp} {v : V} (h : LeafV v) : ∀ e, PlnAt K H e v
  | 0 => h
  | _ + 1 => .inl h
theorem PlnAt.same {K : PySem.W.Frag} {H H' : Hp} (s : Same H H') : ∀ {e : Nat} {v : V}, PlnAt K H e v → PlnAt K H' e v
  | 0, _, h => h
  | _ + 1, _, .inl h => .inl h
  | _ + 1, _, .inr ⟨a, xs, e1, h1, h2, h3⟩ => .inr ⟨a, xs, e1, s.seqT h1, h2, fun x hx => (h3 x hx).same s⟩
theorem pln_ints {K : PySem.W.Frag} {H : Hp} {m : Addr} {ms : List Int} (hm : SqT K H m (ms.map V.int)) (hl : ms.length ≤ 1000) (e : Nat) : PlnAt K H (e + 1) (.ref m) :=
  .inr ⟨m, _, rfl, hm, by rw [List.length_map]; exact hl, fun x hx => by
    obtain ⟨n, _, rfl⟩ := List.mem_map.mp hx
    exact pln_leaf (.inr (.inl ⟨n, rfl⟩)) e⟩
theorem pln_tree {K : PySem.W.Frag} {H : Hp} : ∀ (t : Tr) (v : V) (e : Nat), TreeAt H v t → t.deep + 2 ≤ e → Tr.fit 1000 t → PlnAt K H e v
  | .non, v, e, h, _, _ => pln_leaf (.inl h) e
  | .many n, v, 0, h, hd, _ => absurd hd (by omega)
  | .many n, v, e + 1, ⟨a, e1, h⟩, hd, _ => .inr ⟨a, _, e1, SqT.of h, (by decide : 2 ≤ 1000), fun x hx => by
    simp only [List.mem_cons, List.not_mem_nil, or_false] at hx
    rcases hx with rfl | rfl
    · exact pln_leaf (.inr (.inr ⟨_, rfl⟩)) e
    · exact pln_leaf (.inr (.inl ⟨_, rfl⟩)) e⟩
  | .part ms l r, v, 0, h, hd, _ => absurd hd (by omega)
  | .part ms l r, v, 1, h, hd, _ => absurd hd (by omega)
  | .part ms l r, v, e + 2, ⟨a, m, x, y, e1, h, hm, hl, hr⟩, hd, hf => .inr ⟨a, _, e1, SqT.of h, (by decide : 4 ≤ 1000), fun z hz => by
    have hd' : max l.deep r.deep + 1 + 2 ≤ e + 2 := hd
    simp only [List.mem_cons, List.not_mem_nil, or_false] at hz
    rcases hz with rfl | rfl | rfl | rfl
    · exact pln_leaf (.inr (.inr ⟨_, rfl⟩)) _
    · exact pln_ints hm.sq hf.1 e
    · exact pln_tree l _ _ hl (by omega) hf.2.1
    · exact pln_tree r _ _ hr (by omega) hf.2.2⟩
abbrev kb__law_plain : Nat := 0
abbrev kn__law_plain : Nat := 43
abbrev k__law_plain : Nat := 44
def spe__law_plain (K : PySem.W.Frag) (e : Nat) : Sp := fun vs H Q _ => ∃ (v : V), vs = [v] ∧ PlnAt K H e v ∧ ∀ H', Same H H' → Q (.bl true) H'
def sp__law_plain (K : PySem.W.Frag) : Sp := fun vs H Q E => ∃ e, e ≤ kn__law_plain ∧ spe__law_plain K e vs H Q E
abbrev k__law_is : Nat := 45
def sp__law_is (K : PySem.W.Frag) : Sp := fun vs H Q _ => ∃ (v : V) (b r : Addr) (low : Int) (L : Nat) (ns : List Int), vs = [v, .ref b, .ref r] ∧ SqT K H b [.int low, .int (L : Int)] ∧ L ≤ 40 ∧ SqL K H r (ns.map V.int) ∧ ns.length ≤ 1000 ∧ TreeAt H v (grow low L ns) ∧ ∀ H', Same H H' → Q (.bl true) H'
section
variable {P : Program} {w : World} {K : PySem.W.Frag} {mg : Str → Option Value} {base : Heap}
theorem ok__law_plain (d : Def K mg "_law_plain" s__law_plain ["_law_thing"]) (z : Bz K mg cLeastError cBeyond cNoBounds cNoRow cNoSuch cNoText cTooMany)  : Cal P w K mg base k__law_plain "_law_plain" ["_law_thing"] (sp__law_plain K) := by
  have sc := sc__law_plain
  refine d.recur (k := kb__law_plain) (sp := spe__law_plain K) kn__law_plain fun e hen c__law_plain f fd F => F.ok sc (fun vs H Q E h => ?_) (fun cdv A outer s H vs Q E hr h => ?_)
  · obtain ⟨v, rfl, _⟩ := h
    rfl
  obtain ⟨v, rfl, hv, q⟩ := h
  refine ⟨_, (pss_cons (ps_if (pt_val (pe_callB (call_isP (K := K) rfl) (by rfl) z.isinstance_ bt_isinstance (pa_cons (pv 0) (pa_cons (pe_bltn (v := .ty "tuple") (u := .type "tuple") (by rfl) z.tuple_ bt_tuple rfl) pa_nil))))
  (pss_one (ps_ret (pe_cmpR op_eq (pe_callB call_len_seq (by rfl) z.len_ bt_len (pa_cons (pe_compIf (cl := []) (cn := []) (N := []) (fr := []) (sc0 := defScope s__law_plain) rfl (pi_tup (pv 0)) (fun C s₂ H₂ fp => (pv 0)) (fun C s₂ H₂ fp => (pt_not (pt_val (pe_fn c__law_plain (hr.mono (Nat.le_refl _)) (by rfl) (pa_cons (pv 0) pa_nil))))) (by with_unfolding_all rfl) trivial rfl rfl rfl ⟨by decide +kernel, by decide +kernel, by decide +kernel, by decide +kernel, by decide +kernel, by decide +kernel, by decide +kernel⟩ rfl) pa_nil)) pe_int (nomark _))))
  pss_nil)
 (pss_one (ps_ret (pe_or (pe_cmpR op_isN (pv 0) pe_non (nomark _)) (pe_one (pe_and (pe_callB (call_isIS (K := K) rfl) (by rfl) z.isinstance_ bt_isinstance (pa_cons (pv 0) (pa_cons (pe_tup (pa_cons (pe_bltn (v := .ty "int") (u := .type "int") (by rfl) z.int_ bt_int rfl) (pa_cons (pe_bltn (v := .ty "str") (u := .type "str") (by rfl) z.str_ bt_str rfl) pa_nil))) pa_nil))) (pe_one (pe_not (pe_callB (call_isP (K := K) rfl) (by rfl) z.isinstance_ bt_isinstance (pa_cons (pv 0) (pa_cons (pe_bltn (v := .ty "bool") (u := .type "bool") (by rfl) z.bool_ bt_bool rfl) pa_nil))))))))))), ?_⟩
  have hcase : LeafV v ∨ ∃ e' a xs, e = e' + 1 ∧ v = .ref a ∧ SqT K H a xs ∧ xs.length ≤ 1000 ∧ ∀ x ∈ xs, PlnAt K H e' x := by
    cases e with
    | zero => exact .inl hv
    | succ e =>
      rcases hv with h | ⟨a, xs, h⟩
      · exact .inl h
      · exact .inr ⟨e, a, xs, rfl, h⟩
  rcases hcase with (rfl | ⟨n, rfl⟩ | ⟨y, rfl⟩) | ⟨e', a, xs, rfl, rfl, ha, hl, hx⟩
  · refine ⟨_, rfl, _, _, _, _, rfl, .inl .non, kit_none_tuple, _, rfl, iteF ?_⟩
    refine ⟨_, rfl, rfl, _, rfl, ?_⟩
    exact ite2 (fun c => q H (Same.refl H)) (fun c => absurd (decide_eq_true rfl) c)
  · refine ⟨_, rfl, _, _, _, _, rfl, .inl (.int _), kit_int_tuple, _, rfl, iteF ?_⟩
    refine ⟨_, rfl, rfl, _, rfl, ?_⟩
    refine ite2 (fun c => absurd (of_decide_eq_true c) (by intro z; cases z)) (fun c => ?_)
    refine ⟨_, rfl, szb rfl, fun p hp => ⟨_, p, rfl, .inl ⟨_, rfl⟩, SqT.of upd_same, _, rfl, iteT ?_⟩⟩
    exact ⟨_, rfl, _, _, _, _, rfl, .inl (.int _), kit_int_bool, false, rfl, q _ (same_new hp _)⟩
  · refine ⟨_, rfl, _, _, _, _, rfl, .inl (.str _), kit_str_tuple, _, rfl, iteF ?_⟩
    refine ⟨_, rfl, rfl, _, rfl, ?_⟩
    refine ite2 (fun c => absurd (of_decide_eq_true c) (by intro z; cases z)) (fun c => ?_)
    refine ⟨_, rfl, szb rfl, fun p hp => ⟨_, p, rfl, .inr ⟨_, rfl⟩, SqT.of upd_same, _, rfl, iteT ?_⟩⟩
    exact ⟨_, rfl, _, _, _, _, rfl, .inl (.str _), kit_str_bool, false, rfl, q _ (same_new hp _)⟩
  · refine ⟨_, rfl, _, _, _, _, rfl, .inr ⟨a, xs, rfl, ha, rfl⟩, kit_tuple_tuple, _, rfl, iteT ?_⟩
    refine ⟨_, rfl, a, rfl, ⟨_, ha⟩, fun D hD => ?_⟩
    refine compIf_tupP (xs := xs) (sz hl) (fun i ys H2 => ys = [] ∧ Same H H2 ∧ H2 D = some (.lst [])) ⟨rfl, same_new hD _, upd_same⟩ (fun i ys H2 ⟨_, s2, _⟩ => s2.seqT ha) (fun i ys H2 ⟨e1, _, h2⟩ => ⟨by rw [e1]; exact h2, by rw [e1]; exact Nat.zero_le _⟩) ?_ ?_
    · rintro i x ys H2 hi ⟨rfl, s2, h2⟩
      have hlt : i < xs.length := (List.getElem?_eq_some_iff.mp hi).1
      exact ⟨_, rfl, x, rfl, (hx x (List.mem_of_getElem? hi)).same s2, fun H3 s3 => ⟨true, rfl, iteF ⟨xs.length - (i + 1), by omega, rfl, hlt, rfl, s2.trans s3, s3 _ _ h2⟩⟩⟩
    · rintro ys H2 ⟨rfl, s2, h2⟩
      refine ⟨D, [], rfl, .inl (SqL.of h2), rfl, ?_⟩
      have e0 : decide (V.int (([] : List V).length : Int) = V.int 0) = true := decide_eq_true rfl
      rw [e0]
      exact q H2 s2
theorem ok__law_is (d : Def K mg "_law_is" s__law_is ["_law_found", "_law_bounds_here", "_law_row_here"]) (z : Bz K mg cLeastError cBeyond cNoBounds cNoRow cNoSuch cNoText cTooMany) (c__law_plain : Cal P w K mg base k__law_plain "_law_plain" ["_law_thing"] (sp__law_plain K)) (c__law_tree : Cal P w K mg base k__law_tree "_law_tree" ["_law_low", "_law_levels", "_law_row_here"] (sp__law_tree K)) : Cal P w K mg base k__law_is "_law_is" ["_law_found", "_law_bounds_here", "_law_row_here"] (sp__law_is K) := by
  have sc := sc__law_is
  refine d.cal fun f fd F => F.ok sc (fun vs H Q E h => ?_) (fun cdv A outer s H vs Q E hr h => ?_)
  · obtain ⟨v, b, r, low, L, ns, rfl, _⟩ := h
    rfl
  obtain ⟨v, b, r, low, L, ns, rfl, hb, hL, hr1, hl, ht, q⟩ := h
  refine ⟨_, (pss_one (ps_ret (pe_and (pe_fn c__law_plain (hr.mono (by decide)) (by rfl) (pa_cons (pv 0) pa_nil)) (pe_one (pe_cmpR (op_eqTr hr.units) (pv 0) (pe_fn c__law_tree (hr.mono (by decide)) (by rfl) (pa_cons (pe_ix ix_tup (pv 1) pe_int (fun _ _ => rfl)) (pa_cons (pe_ix ix_tup (pv 1) pe_int (fun _ _ => rfl)) (pa_cons (pv 2) pa_nil)))) (nomark _)))))), ?_⟩
  have hd := grow_deep L low ns
  refine ⟨_, rfl, 42, by decide, v, rfl, pln_tree _ _ _ ht (by omega) (grow_fit L low ns hl), fun H1 s1 => ⟨true, rfl, iteT ?_⟩⟩
  have hb1 := s1.seqT hb
  refine ⟨_, rfl, _, rfl, b, _, _, _, rfl, rfl, hb1, rfl, _, rfl, b, _, _, _, rfl, rfl, hb1, rfl, _, rfl, L, hL, low, r, ns, rfl, s1.seq hr1, hl, fun H2 u s2 hu => ?_⟩
  exact ⟨_, (ht.same s1).same s2, hu, by omega, q H2 (s1.trans s2)⟩
end
def upI (mid : Int) (l : List Int) : Nat := l.countP fun n => decide (mid ≤ n)
theorem upI_snoc {mid : Int} {ns : List Int} {i : Nat} {n : Int} (h : ns[i]? = some n) : ((upI mid (ns.take (i + 1)) : Nat) : Int) = (upI mid (ns.take i) : Nat) + mkOf mid n := by
  have e : ns.take (i + 1) = ns.take i ++ [n] := by rw [List.take_add_one, h]; rfl
  rw [e]
  unfold upI mkOf
  rw [List.countP_append, List.countP_singleton]
  by_cases c : n < mid
  · rw [if_pos c, if_neg (by intro z; have := of_decide_eq_true z; omega)]; simp
  · rw [if_neg c, if_pos (decide_eq_true (by omega))]; simp
theorem upI_le {mid : Int} {ns : List Int} {i : Nat} (h : i ≤ ns.length) : i = (ns.take i).countP (fun n => decide (n < mid)) + upI mid (ns.take i) := by
  have e : (ns.take i).length = i := by rw [List.length_take]; omega
  have z := List.length_eq_countP_add_countP (fun n => decide (n < mid)) (l := ns.take i)
  rw [e] at z
  have e2 : (ns.take i).countP (fun a => decide (¬ (decide (a < mid)) = true)) = upI mid (ns.take i) := by
    unfold upI
    congr 1
    funext a
    by_cases c : a < mid
    · have : ¬ mid ≤ a := by omega
      simp [c, this]
    · have : mid ≤ a := by omega
      simp [c, this]
  rw [e2] at z
  exact z
theorem up_at {mid : Int} {ns : List Int} {i : Nat} {n : Int} (h : ns[i]? = some n) (c : ¬ n < mid) : atI ((ns.filter fun n => decide (mid ≤ n)).map V.int) ((upI mid (ns.take i) : Nat) : Int) = some (.int n) :=
  atI_nat (by rw [List.getElem?_map]; unfold upI; rw [filt_at ns i n h (decide_eq_true (by omega))]; rfl)
theorem lo_at {mid : Int} {ns : List Int} {i : Nat} {n : Int} (h : ns[i]? = some n) (c : n < mid) : atI ((ns.filter fun n => decide (n < mid)).map V.int) ((i : Int) - ((upI mid (ns.take i) : Nat) : Int)) = some (.int n) := by
  have hi : i < ns.length := (List.getElem?_eq_some_iff.mp h).1
  have z := upI_le (mid := mid) (ns := ns) (i := i) (by omega)
  have e : (i : Int) - ((upI mid (ns.take i) : Nat) : Int) = (((ns.take i).countP (fun n => decide (n < mid)) : Nat) : Int) := by omega
  rw [e]
  exact atI_nat (by rw [List.getElem?_map, filt_at ns i n h (decide_eq_true c)]; rfl)
theorem map_get {ms : List Int} {i : Nat} {x : V} (hx : (ms.map V.int)[i]? = some x) : ∃ m, ms[i]? = some m ∧ x = .int m := by
  rw [List.getElem?_map] at hx
  cases e : ms[i]? with
  | none => rw [e] at hx; cases hx
  | some m => rw [e] at hx; exact ⟨m, rfl, (Option.some.inj hx).symm⟩
abbrev k_merged : Nat := 1
def sp_merged (K : PySem.W.Frag) : Sp := fun vs H Q _ => ∃ (m lo hi : Addr) (mid : Int) (ns : List Int), vs = [.ref m, .ref lo, .ref hi] ∧ SqT K H m ((ns.map (mkOf mid)).map V.int) ∧ H lo = some (.lst ((ns.filter fun n => decide (n < mid)).map V.int)) ∧
  H hi = some (.lst ((ns.filter fun n => decide (mid ≤ n)).map V.int)) ∧ ns.length ≤ 1000 ∧ ∀ (H' : Hp) (D : Addr), Same H H' → H' D = some (.lst (ns.map V.int)) → H D = none → Q (.ref D) H'
abbrev kb_row_from : Nat := 1
abbrev kn_row_from : Nat := 40
abbrev k_row_from : Nat := 42
def spe_row_from (K : PySem.W.Frag) (e : Nat) : Sp := fun vs H Q _ => ∃ (least : Int) (v : V) (ns : List Int), vs = [.int least, .int (2 ^ e), v] ∧ TreeAt H v (grow least e ns) ∧ ns.length ≤ 1000 ∧ Wths least e ns ∧
  ∀ (H' : Hp) (D : Addr), Same H H' → H' D = some (.lst (ns.map V.int)) → H D = none → Q (.ref D) H'
def sp_row_from (K : PySem.W.Frag) : Sp := fun vs H Q E => ∃ e, e ≤ kn_row_from ∧ spe_row_from K e vs H Q E
abbrev k_row_of : Nat := 43
def sp_row_of (K : PySem.W.Frag) : Sp := fun vs H Q _ => ∃ (b : Addr) (v : V) (low : Int) (L : Nat) (ns : List Int), vs = [.ref b, v] ∧ SqT K H b [.int low, .int (L : Int)] ∧ L ≤ 40 ∧ TreeAt H v (grow low L ns) ∧ ns.length ≤ 1000 ∧ Wths low L ns ∧
  ∀ (H' : Hp) (D : Addr), Same H H' → H' D = some (.lst (ns.map V.int)) → H D = none → Q (.ref D) H'
theorem Wths.lowerR {low : Int} {e : Nat} {ns : List Int} (h : Wths low (e + 1) ns) : Wths low e (ns.filter fun n => decide (n < low + 2 ^ e)) := fun x hx => by
  obtain ⟨h1, h2⟩ := List.mem_filter.mp hx
  exact ⟨(h x h1).1, of_decide_eq_true h2⟩
theorem Wths.upperR {low : Int} {e : Nat} {ns : List Int} (h : Wths low (e + 1) ns) : Wths (low + 2 ^ e) e (ns.filter fun n => decide (low + 2 ^ e ≤ n)) := fun x hx => by
  obtain ⟨h1, h2⟩ := List.mem_filter.mp hx
  have := (h x h1).2
  rw [p2succ] at this
  exact ⟨of_decide_eq_true h2, by omega⟩
theorem rep_all {low : Int} : ∀ {ns : List Int}, Wths low 0 ns → (List.replicate ns.length [V.int low]).flatten = ns.map V.int
  | [], _ => rfl
  | n :: ns, h => by
    have h0 := h n (List.mem_cons_self ..)
    have e : n = low := by
      have : (2 : Int) ^ 0 = 1 := rfl
      omega
    rw [List.length_cons, List.replicate_succ, List.flatten_cons, List.map_cons, rep_all fun x hx => h x (List.mem_cons_of_mem _ hx), e]
    rfl
section
variable {P : Program} {w : World} {K : PySem.W.Frag} {mg : Str → Option Value} {base : Heap}
theorem ok_merged (d : Def K mg "merged" s_merged ["marks", "lower", "upper"]) (z : Bz K mg cLeastError cBeyond cNoBounds cNoRow cNoSuch cNoText cTooMany)  : Cal P w K mg base k_merged "merged" ["marks", "lower", "upper"] (sp_merged K) := by
  have sc := sc_merged
  refine d.cal fun f fd F => F.ok sc (fun vs H Q E h => ?_) (fun cdv A outer s H vs Q E hr h => ?_)
  · obtain ⟨m, lo, hi, mid, ns, rfl, _⟩ := h
    rfl
  obtain ⟨m, lo, hi, mid, ns, rfl, hm, hlo, hhi, hl, q⟩ := h
  refine ⟨_, (pss_cons (ps_set (i := 3) sc.nd rfl (Or.inl rfl) (pe_lst pa_nil))
 (pss_cons (ps_set (i := 4) sc.nd rfl (Or.inl rfl) pe_int)
 (pss_cons (ps_for PassesOwn.never rfl (pi_enum rfl z.enumerate_ (pa_cons (pv 0) pa_nil)) (pg_tup rfl (pgs_cons (pg_name (i := 5) sc.nd rfl (Or.inl rfl)) (pgs_cons (pg_name (i := 6) sc.nd rfl (Or.inl rfl)) pgs_nil)))
  (pss_cons (ps_expr (pe_bm PySem.F.plainAttrs_list PySem.F.slot_list_append PySem.F.type_list_append mt_append (pv 3) (pa_cons (pe_ifExp (pt_cmpR op_eq (pv 6) pe_int (nomark _)) (pe_ix ix_list (pv 2) (pv 4) (fun _ _ => rfl)) (pe_ix ix_list (pv 1) (pe_op op_sub (pv 5) (pv 4)) (fun _ _ => rfl))) pa_nil)))
 (pss_one (ps_set (i := 4) sc.nd rfl (Or.inl rfl) (pe_op op_add (pv 4) (pv 6))))))
 (pss_one (ps_ret (pv 3)))))), ?_⟩
  refine ⟨szb rfl, fun D hD => ?_⟩
  refine ⟨_, rfl, m, rfl, ⟨_, (same_new hD _).seqT hm⟩, for_enum (xs := (ns.map (mkOf mid)).map V.int) (fun i σ H2 => ∃ v u : Option V, σ = [some (.ref m), some (.ref lo), some (.ref hi), some (.ref D), some (.int ((upI mid (ns.take i) : Nat) : Int)), v, u] ∧ Same H H2 ∧ H2 D = some (.lst ((ns.take i).map V.int)))
    ⟨none, none, rfl, same_new hD _, upd_same⟩ (fun i σ H2 _ ⟨_, _, _, s2, _⟩ => s2.seqT hm) ?_ ?_⟩
  · rintro i x σ H2 p hx ⟨v, u, rfl, s2, hD2⟩ hpn
    obtain ⟨mk, gm, rfl⟩ := map_get hx
    obtain ⟨n, gn, rfl⟩ : ∃ n, ns[i]? = some n ∧ mkOf mid n = mk := by
      rw [List.getElem?_map] at gm
      cases e : ns[i]? with
      | none => rw [e] at gm; cases gm
      | some n => rw [e] at gm; exact ⟨n, rfl, Option.some.inj gm⟩
    have hil : i < ns.length := (List.getElem?_eq_some_iff.mp gn).1
    have s3 : Same H (upd H2 p (.tup [.int (i : Nat), .int (mkOf mid n)])) := s2.trans (same_new hpn _)
    have hD3 : upd H2 p (.tup [.int (i : Nat), .int (mkOf mid n)]) D = some (.lst ((ns.take i).map V.int)) := same_new hpn _ _ _ hD2
    have pT : SqT K (upd H2 p (.tup [.int (i : Nat), .int (mkOf mid n)])) p [.int (i : Nat), .int (mkOf mid n)] := SqT.of upd_same
    generalize upd H2 p (.tup [.int (i : Nat), .int (mkOf mid n)]) = H3 at *
    refine ⟨p, _, rfl, pT, rfl, _, _, rfl, _, _, rfl, rfl, ?_⟩
    have f2 : ((ns.take i).map V.int).length < sizeLine := by rw [List.length_map, List.length_take]; exact small1000 (by omega)
    have f3 : Same H (upd H3 D (.lst ((ns.take i).map V.int ++ [.int n]))) := Same.own s3 hD
    have f4 : upd H3 D (.lst ((ns.take i).map V.int ++ [.int n])) D = some (.lst ((ns.take (i + 1)).map V.int)) := by
      have e : ns.take (i + 1) = ns.take i ++ [n] := by rw [List.take_add_one, gn]; rfl
      rw [upd_same, e, List.map_append]
      rfl
    have f5 : [some (V.ref m), some (.ref lo), some (.ref hi), some (.ref D), some (.int (((upI mid (ns.take i) : Nat) : Int) + mkOf mid n)), some (.int (i : Nat)), some (.int (mkOf mid n))] = [some (V.ref m), some (.ref lo), some (.ref hi), some (.ref D), some (.int ((upI mid (ns.take (i + 1)) : Nat) : Int)), some (.int (i : Nat)), some (.int (mkOf mid n))] := by rw [upI_snoc gn]
    refine ⟨_, rfl, .inl ⟨rfl, _, SqL.of hD3⟩, _, rfl, rfl, _, rfl, ?_⟩
    refine ite2 (fun c => ?_) (fun c => ?_)
    · have c' : mkOf mid n = 1 := V.int.inj (of_decide_eq_true c)
      have cn : ¬ n < mid := fun z => by unfold mkOf at c'; rw [if_pos z] at c'; cases c'
      exact ⟨_, rfl, _, rfl, hi, _, _, _, rfl, rfl, SqL.of (s3 _ _ hhi), up_at gn cn, D, _, _, rfl, rfl, hD3, f2, _, rfl, _, rfl, _, _, rfl, rfl, _, _, f5, f3, f4⟩
    · have cn : n < mid := by
        apply Classical.byContradiction
        intro z
        exact c (by unfold mkOf; rw [if_neg z]; exact decide_eq_true rfl)
      exact ⟨_, rfl, _, rfl, _, rfl, _, _, rfl, rfl, lo, _, _, _, rfl, rfl, SqL.of (s3 _ _ hlo), lo_at gn cn, D, _, _, rfl, rfl, hD3, f2, _, rfl, _, rfl, _, _, rfl, rfl, _, _, f5, f3, f4⟩
  · rintro σ H2 ⟨v, u, rfl, s2, hD2⟩
    have e : ns.take ((ns.map (mkOf mid)).map V.int).length = ns := List.take_of_length_le (by rw [List.length_map, List.length_map]; exact Nat.le_refl _)
    rw [e] at hD2
    exact ⟨_, rfl, q H2 D s2 hD2 hD⟩
theorem ok_row_from (d : Def K mg "row_from" s_row_from ["least", "many", "tree"]) (z : Bz K mg cLeastError cBeyond cNoBounds cNoRow cNoSuch cNoText cTooMany) (c_merged : Cal P w K mg base k_merged "merged" ["marks", "lower", "upper"] (sp_merged K)) : Cal P w K mg base k_row_from "row_from" ["least", "many", "tree"] (sp_row_from K) := by
  have sc := sc_row_from
  refine d.recur (k := kb_row_from) (sp := spe_row_from K) kn_row_from fun e hen c_row_from f fd F => F.ok sc (fun vs H Q E h => ?_) (fun cdv A outer s H vs Q E hr h => ?_)
  · obtain ⟨least, v, ns, rfl, _⟩ := h
    rfl
  obtain ⟨least, v, ns, rfl, ht, hl, hw, q⟩ := h
  refine ⟨_, (pss_cons (ps_if (pt_cmpR op_isN (pv 2) pe_non (nomark _))
  (pss_one (ps_ret (pe_lst pa_nil)))
  pss_nil)
 (pss_cons (ps_if (pt_cmpR op_eq (pe_ix ix_tup (pv 2) pe_int (fun _ _ => rfl)) pe_str (nomark _))
  (pss_one (ps_ret (pe_op op_rep (pe_lst (pa_cons (pv 0) pa_nil)) (pe_ix ix_tup (pv 2) pe_int (fun _ _ => rfl)))))
  pss_nil)
 (pss_cons (ps_set (i := 3) sc.nd rfl (Or.inl rfl) (pe_op op_fdivB (pv 1) pe_int))
 (pss_cons (ps_set (i := 4) sc.nd rfl (Or.inl rfl) (pe_fn c_row_from (hr.mono (Nat.le_refl _)) (by rfl) (pa_cons (pv 0) (pa_cons (pv 3) (pa_cons (pe_ix ix_tup (pv 2) pe_int (fun _ _ => rfl)) pa_nil)))))
 (pss_cons (ps_set (i := 5) sc.nd rfl (Or.inl rfl) (pe_fn c_row_from (hr.mono (Nat.le_refl _)) (by rfl) (pa_cons (pe_op op_add (pv 0) (pv 3)) (pa_cons (pv 3) (pa_cons (pe_ix ix_tup (pv 2) pe_int (fun _ _ => rfl)) pa_nil)))))
 (pss_one (ps_ret (pe_fn c_merged (hr.mono (Nat.le_trans (by decide : k_merged ≤ kb_row_from) (Nat.le_add_left _ _))) (by rfl) (pa_cons (pe_ix ix_tup (pv 2) pe_int (fun _ _ => rfl)) (pa_cons (pv 4) (pa_cons (pv 5) pa_nil))))))))))), ?_⟩
  refine ⟨_, rfl, rfl, _, rfl, ?_⟩
  by_cases hne : ns = []
  · subst hne
    rw [grow_nil] at ht
    cases ht
    refine ite2 (fun c => ?_) (fun c => absurd (decide_eq_true rfl) c)
    exact ⟨szb rfl, fun D hD => q _ D (same_new hD _) upd_same hD⟩
  · cases e with
    | zero =>
      rw [grow_zero hne] at ht
      obtain ⟨a, rfl, ha⟩ := ht
      refine ite2 (fun c => absurd (of_decide_eq_true c) (by intro z; cases z)) (fun c => ?_)
      refine ⟨_, rfl, a, _, _, _, rfl, rfl, SqT.of ha, rfl, rfl, _, rfl, ?_⟩
      refine ite2 (fun c => ?_) (fun c => absurd (decide_eq_true rfl) c)
      refine ⟨_, rfl, szb rfl, fun l hl' => ?_⟩
      have s1 : Same H (upd H l (.lst [.int least])) := same_new hl' _
      refine ⟨_, rfl, a, _, _, _, rfl, rfl, SqT.of (s1 _ _ ha), rfl, l, _, _, rfl, rfl, upd_same, by omega, by omega, ?_, fun D hD => ?_⟩
      · exact sz (by simp only [List.length_cons, List.length_nil]; omega)
      · have e1 : ((ns.length : Nat) : Int).toNat = ns.length := by omega
        rw [e1, rep_all hw]
        exact q _ D (s1.trans (same_new hD _)) upd_same (by
          cases z : H D with
          | none => rfl
          | some o => rw [s1 _ _ z] at hD; cases hD)
    | succ e =>
      rw [grow_succ hne] at ht
      obtain ⟨a, m, x, y, rfl, ha, hm, hx, hy⟩ := ht
      refine ite2 (fun c => absurd (of_decide_eq_true c) (by intro z; cases z)) (fun c => ?_)
      refine ⟨_, rfl, a, _, _, _, rfl, rfl, SqT.of ha, rfl, rfl, _, rfl, ?_⟩
      refine ite2 (fun c => absurd (of_decide_eq_true c) (by decide)) (fun c => ?_)
      refine ⟨_, rfl, _, _, rfl, rfl, ⟨by decide, by decide⟩, ?_⟩
      dsimp only
      rw [p2half]
      refine ⟨_, rfl, _, rfl, _, rfl, a, _, _, _, rfl, rfl, SqT.of ha, rfl, least, x, _, rfl, hx, Nat.le_trans (List.length_filter_le _ _) hl, hw.lowerR, fun H1 lo s1 hlo hlo0 => ?_⟩
      refine ⟨_, rfl, _, rfl, _, _, rfl, rfl, _, rfl, _, rfl, a, _, _, _, rfl, rfl, SqT.of (s1 _ _ ha), rfl, least + 2 ^ e, y, _, rfl, hy.same s1, Nat.le_trans (List.length_filter_le _ _) hl, hw.upperR, fun H2 hi s2 hhi hhi0 => ?_⟩
      have s12 := s1.trans s2
      refine ⟨_, rfl, a, _, _, _, rfl, rfl, SqT.of (s12 _ _ ha), rfl, _, rfl, _, rfl, m, lo, hi, least + 2 ^ e, ns, rfl, (hm.same s12).sq, s2 _ _ hlo, hhi, hl, fun H3 D s3 hD hD0 => ?_⟩
      exact q H3 D (s12.trans s3) hD (by
          cases z : H D with
          | none => rfl
          | some o => rw [s12 _ _ z] at hD0; cases hD0)
theorem ok_row_of (d : Def K mg "row_of" s_row_of ["bounds", "tree"]) (z : Bz K mg cLeastError cBeyond cNoBounds cNoRow cNoSuch cNoText cTooMany) (c_many_worths : Cal P w K mg base k_many_worths "many_worths" ["levels"] (sp_many_worths K)) (c_row_from : Cal P w K mg base k_row_from "row_from" ["least", "many", "tree"] (sp_row_from K)) : Cal P w K mg base k_row_of "row_of" ["bounds", "tree"] (sp_row_of K) := by
  have sc := sc_row_of
  refine d.cal fun f fd F => F.ok sc (fun vs H Q E h => ?_) (fun cdv A outer s H vs Q E hr h => ?_)
  · obtain ⟨b, v, low, L, ns, rfl, _⟩ := h
    rfl
  obtain ⟨b, v, low, L, ns, rfl, hb, hL, ht, hl, hw, q⟩ := h
  refine ⟨_, (pss_one (ps_ret (pe_fn c_row_from (hr.mono (by decide)) (by rfl) (pa_cons (pe_ix ix_tup (pv 0) pe_int (fun _ _ => rfl)) (pa_cons (pe_fn c_many_worths (hr.mono (by decide)) (by rfl) (pa_cons (pe_ix ix_tup (pv 0) pe_int (fun _ _ => rfl)) pa_nil)) (pa_cons (pv 1) pa_nil)))))), ?_⟩
  exact ⟨_, rfl, b, _, _, _, rfl, rfl, hb, rfl, _, rfl, b, _, _, _, rfl, rfl, hb, rfl, L, rfl, hL, _, rfl, L, hL, low, v, ns, rfl, ht, hl, hw, q⟩
end
theorem grow_non {low : Int} {e : Nat} {ns : List Int} {H : Hp} (h : TreeAt H .non (grow low e ns)) : ns = [] := by
  by_cases z : ns = []
  · exact z
  · cases e with
    | zero => rw [grow_zero z] at h; obtain ⟨a, e1, _⟩ := h; cases e1
    | succ e => rw [grow_part z] at h; obtain ⟨a, m, x, y, e1, _⟩ := h; cases e1
def NW (K : PySem.W.Frag) (H : Hp) (x : V) : Prop := (∃ b, x = .bl b) ∨ ∃ t, TyOf K H x t ∧ PySem.W.kitOne K t (.type "int") = some false
abbrev k_is_whole : Nat := 1
def sp_is_whole (K : PySem.W.Frag) : Sp := fun vs H Q _ => ∃ x : V, vs = [x] ∧ ((∃ i, x = .int i ∧ Q (.bl true) H) ∨ (NW K H x ∧ Q (.bl false) H))
section
variable {P : Program} {w : World} {K : PySem.W.Frag} {mg : Str → Option Value} {base : Heap}
theorem ok_is_whole (d : Def K mg "is_whole" s_is_whole ["thing"]) (z : Bz K mg cLeastError cBeyond cNoBounds cNoRow cNoSuch cNoText cTooMany)  : Cal P w K mg base k_is_whole "is_whole" ["thing"] (sp_is_whole K) := by
  have sc := sc_is_whole
  refine d.cal fun f fd F => F.ok sc (fun vs H Q E h => ?_) (fun cdv A outer s H vs Q E hr h => ?_)
  · obtain ⟨x, rfl, _⟩ := h
    rfl
  obtain ⟨x, rfl, h⟩ := h
  refine ⟨_, (pss_one (ps_ret (pe_and (pe_callB call_isi (by rfl) z.isinstance_ bt_isinstance (pa_cons (pv 0) (pa_cons (pe_bltn (v := .ty "int") (u := .type "int") (by rfl) z.int_ bt_int rfl) pa_nil))) (pe_one (pe_not (pe_callB call_isi (by rfl) z.isinstance_ bt_isinstance (pa_cons (pv 0) (pa_cons (pe_bltn (v := .ty "bool") (u := .type "bool") (by rfl) z.bool_ bt_bool rfl) pa_nil)))))))), ?_⟩
  rcases h with ⟨i, rfl, q⟩ | ⟨⟨b, rfl⟩ | ⟨t, ht, kt⟩, q⟩
  · exact ⟨_, rfl, _, _, _, _, rfl, .int _, kit_int_int, true, rfl, iteT ⟨_, rfl, _, _, _, _, rfl, .int _, kit_int_bool, false, rfl, q⟩⟩
  · exact ⟨_, rfl, _, _, _, _, rfl, .bl _, kit_bool_int, true, rfl, iteT ⟨_, rfl, _, _, _, _, rfl, .bl _, kit_bool_bool, true, rfl, q⟩⟩
  · exact ⟨_, rfl, _, _, _, _, rfl, ht, kt, false, rfl, iteF q⟩
end
def LowV (K : PySem.W.Frag) (H : Hp) (x : V) (r : Bool) : Prop := (∃ i : Int, x = .int i ∧ r = decide (-(10 ^ 40) < i ∧ i < 10 ^ 40)) ∨ (NW K H x ∧ r = false)
def LevV (K : PySem.W.Frag) (H : Hp) (x : V) (r : Bool) : Prop := (∃ i : Int, x = .int i ∧ r = decide (0 ≤ i ∧ i ≤ 40)) ∨ (NW K H x ∧ r = false)
def BndV (K : PySem.W.Frag) (H : Hp) (x : V) (r : Bool) : Prop :=
  (∃ a x0 x1 r0 r1, x = .ref a ∧ H a = some (.tup [x0, x1]) ∧ LowV K H x0 r0 ∧ (r0 = true → LevV K H x1 r1) ∧ r = (r0 && r1)) ∨ (∃ a xs, x = .ref a ∧ H a = some (.tup xs) ∧ xs.length ≠ 2 ∧ r = false) ∨
  (∃ t, TyOf K H x t ∧ PySem.W.kitOne K t (.type "tuple") = some false ∧ r = false)
abbrev k_is_low : Nat := 2
def sp_is_low (K : PySem.W.Frag) : Sp := fun vs H Q _ => ∃ (x : V) (r : Bool), vs = [x] ∧ LowV K H x r ∧ Q (.bl r) H
abbrev k_is_levels : Nat := 2
def sp_is_levels (K : PySem.W.Frag) : Sp := fun vs H Q _ => ∃ (x : V) (r : Bool), vs = [x] ∧ LevV K H x r ∧ Q (.bl r) H
abbrev k_is_bounds : Nat := 3
def sp_is_bounds (K : PySem.W.Frag) : Sp := fun vs H Q _ => ∃ (x : V) (r : Bool), vs = [x] ∧ BndV K H x r ∧ Q (.bl r) H
section
variable {P : Program} {w : World} {K : PySem.W.Frag} {mg : Str → Option Value} {base : Heap}
theorem ok_is_low (d : Def K mg "is_low" s_is_low ["thing"]) (z : Bz K mg cLeastError cBeyond cNoBounds cNoRow cNoSuch cNoText cTooMany) (c_is_whole : Cal P w K mg base k_is_whole "is_whole" ["thing"] (sp_is_whole K)) : Cal P w K mg base k_is_low "is_low" ["thing"] (sp_is_low K) := by
  have sc := sc_is_low
  refine d.cal fun f fd F => F.ok sc (fun vs H Q E h => ?_) (fun cdv A outer s H vs Q E hr h => ?_)
  · obtain ⟨x, r, rfl, _⟩ := h
    rfl
  obtain ⟨x, r, rfl, h, q⟩ := h
  refine ⟨_, (pss_one (ps_ret (pe_and (pe_fn c_is_whole (hr.mono (by decide)) (by rfl) (pa_cons (pv 0) pa_nil)) (pe_one (pe_chain op_lt op_lt (pe_un un_neg (pe_op op_pow pe_int pe_int)) (pv 0) (pe_op op_pow pe_int pe_int)))))), ?_⟩
  rcases h with ⟨i, rfl, rfl⟩ | ⟨hw, rfl⟩
  · refine ⟨_, rfl, _, rfl, .inl ⟨i, rfl, true, rfl, iteT ?_⟩⟩
    refine ⟨_, _, rfl, rfl, ⟨by decide, by decide, by decide⟩, _, rfl, _, rfl, _, _, rfl, rfl, _, rfl, ?_⟩
    refine ite2 (fun c => ?_) (fun c => ?_)
    · have c' : -((10 : Int) ^ 40) < i := of_decide_eq_true c
      refine ⟨_, _, rfl, rfl, ⟨by decide, by decide, by decide⟩, _, _, rfl, rfl, ?_⟩
      have e : decide (i < (10 : Int) ^ 40) = decide (-(10 ^ 40) < i ∧ i < (10 : Int) ^ 40) := by
        by_cases hi : i < (10 : Int) ^ 40
        · rw [decide_eq_true hi, decide_eq_true ⟨c', hi⟩]
        · rw [decide_eq_false hi, decide_eq_false fun z => hi z.2]
      have q' := q
      rw [← e] at q'
      exact q'
    · have c' : ¬ -((10 : Int) ^ 40) < i := fun z => c (decide_eq_true z)
      have e : decide (-(10 ^ 40) < i ∧ i < (10 : Int) ^ 40) = false := decide_eq_false fun z => c' z.1
      have q' := q
      rw [e] at q'
      exact q'
  · exact ⟨_, rfl, _, rfl, .inr ⟨hw, false, rfl, iteF q⟩⟩
theorem ok_is_levels (d : Def K mg "is_levels" s_is_levels ["thing"]) (z : Bz K mg cLeastError cBeyond cNoBounds cNoRow cNoSuch cNoText cTooMany) (c_is_whole : Cal P w K mg base k_is_whole "is_whole" ["thing"] (sp_is_whole K)) : Cal P w K mg base k_is_levels "is_levels" ["thing"] (sp_is_levels K) := by
  have sc := sc_is_levels
  refine d.cal fun f fd F => F.ok sc (fun vs H Q E h => ?_) (fun cdv A outer s H vs Q E hr h => ?_)
  · obtain ⟨x, r, rfl, _⟩ := h
    rfl
  obtain ⟨x, r, rfl, h, q⟩ := h
  refine ⟨_, (pss_one (ps_ret (pe_and (pe_fn c_is_whole (hr.mono (by decide)) (by rfl) (pa_cons (pv 0) pa_nil)) (pe_one (pe_chain op_le op_le pe_int (pv 0) pe_int))))), ?_⟩
  rcases h with ⟨i, rfl, rfl⟩ | ⟨hw, rfl⟩
  · refine ⟨_, rfl, _, rfl, .inl ⟨i, rfl, true, rfl, iteT ?_⟩⟩
    refine ⟨_, rfl, _, _, rfl, rfl, _, rfl, ?_⟩
    refine ite2 (fun c => ?_) (fun c => ?_)
    · have c' : (0 : Int) ≤ i := of_decide_eq_true c
      refine ⟨_, _, rfl, rfl, ?_⟩
      have e : decide (i ≤ 40) = decide (0 ≤ i ∧ i ≤ 40) := by
        by_cases hi : i ≤ 40
        · rw [decide_eq_true hi, decide_eq_true ⟨c', hi⟩]
        · rw [decide_eq_false hi, decide_eq_false fun z => hi z.2]
      have q' := q
      rw [← e] at q'
      exact q'
    · have c' : ¬ (0 : Int) ≤ i := fun z => c (decide_eq_true z)
      have e : decide (0 ≤ i ∧ i ≤ 40) = false := decide_eq_false fun z => c' z.1
      have q' := q
      rw [e] at q'
      exact q'
  · exact ⟨_, rfl, _, rfl, .inr ⟨hw, false, rfl, iteF q⟩⟩
theorem ok_is_bounds (d : Def K mg "is_bounds" s_is_bounds ["thing"]) (z : Bz K mg cLeastError cBeyond cNoBounds cNoRow cNoSuch cNoText cTooMany) (c_is_levels : Cal P w K mg base k_is_levels "is_levels" ["thing"] (sp_is_levels K)) (c_is_low : Cal P w K mg base k_is_low "is_low" ["thing"] (sp_is_low K)) : Cal P w K mg base k_is_bounds "is_bounds" ["thing"] (sp_is_bounds K) := by
  have sc := sc_is_bounds
  refine d.cal fun f fd F => F.ok sc (fun vs H Q E h => ?_) (fun cdv A outer s H vs Q E hr h => ?_)
  · obtain ⟨x, r, rfl, _⟩ := h
    rfl
  obtain ⟨x, r, rfl, h, q⟩ := h
  refine ⟨_, (pss_cons (ps_if (PW.pt (pw_or (pt_not (pt_val (pe_callB call_isi (by rfl) z.isinstance_ bt_isinstance (pa_cons (pv 0) (pa_cons (pe_bltn (v := .ty "tuple") (u := .type "tuple") (by rfl) z.tuple_ bt_tuple rfl) pa_nil))))) (pw_or1 (pt_cmpR op_ne (pe_callB call_len_seq (by rfl) z.len_ bt_len (pa_cons (pv 0) pa_nil)) pe_int (nomark _)))))
  (pss_one (ps_ret pe_bl))
  pss_nil)
 (pss_one (ps_ret (pe_and (pe_fn c_is_low (hr.mono (by decide)) (by rfl) (pa_cons (pe_ix ix_tup (pv 0) pe_int (fun _ _ => rfl)) pa_nil)) (pe_one (pe_fn c_is_levels (hr.mono (by decide)) (by rfl) (pa_cons (pe_ix ix_tup (pv 0) pe_int (fun _ _ => rfl)) pa_nil))))))), ?_⟩
  rcases h with ⟨a, x0, x1, r0, r1, rfl, ha, h0, h1, rfl⟩ | ⟨a, xs, rfl, ha, hl, rfl⟩ | ⟨t, ht, kt, rfl⟩
  · refine ⟨_, rfl, _, _, _, _, rfl, .tup ha, kit_tuple_tuple, true, rfl, iteF ?_⟩
    refine ⟨_, rfl, a, _, rfl, .inr (SqT.of ha), rfl, _, rfl, iteF ?_⟩
    refine ⟨_, rfl, a, _, _, _, rfl, rfl, SqT.of ha, rfl, _, r0, rfl, h0, r0, rfl, ?_⟩
    cases r0 with
    | true => exact iteT ⟨_, rfl, a, _, _, _, rfl, rfl, SqT.of ha, rfl, _, r1, rfl, h1 rfl, q⟩
    | false => exact iteF q
  · refine ⟨_, rfl, _, _, _, _, rfl, .tup ha, kit_tuple_tuple, true, rfl, iteF ?_⟩
    refine ⟨_, rfl, a, _, rfl, .inr (SqT.of ha), rfl, _, rfl, ?_⟩
    have e : (!decide (V.int ((xs.length : Nat) : Int) = V.int 2)) = true := by
      rw [decide_eq_false fun z => hl (by have := V.int.inj z; omega)]; rfl
    rw [e]
    exact iteT q
  · exact ⟨_, rfl, _, _, _, _, rfl, ht, kt, false, rfl, iteT q⟩
end
theorem grow_shift (d : Int) : ∀ (e : Nat) (low : Int) (ns : List Int), grow (low + d) e (ns.map fun n => n + d) = grow low e ns
  | 0, low, ns => by
    by_cases h : ns = []
    · rw [h]; rfl
    · rw [grow_zero h, grow_zero (by simpa using h), List.length_map]
  | e + 1, low, ns => by
    by_cases h : ns = []
    · rw [h]; rfl
    · have h2 : (ns.map fun n => n + d) ≠ [] := by simpa using h
      rw [grow_part h, grow_part h2]
      have e1 : (ns.map fun n => n + d).map (mkOf (low + d + 2 ^ e)) = ns.map (mkOf (low + 2 ^ e)) := by
        rw [List.map_map]
        refine List.map_congr_left fun n _ => ?_
        show (if n + d < low + d + 2 ^ e then (0 : Int) else 1) = if n < low + 2 ^ e then 0 else 1
        by_cases c : n < low + 2 ^ e
        · rw [if_pos c, if_pos (by omega)]
        · rw [if_neg c, if_neg (by omega)]
      have e2 : (ns.map fun n => n + d).filter (loI (low + d + 2 ^ e)) = (ns.filter (loI (low + 2 ^ e))).map fun n => n + d := by
        rw [List.filter_map]
        congr 1
        refine List.filter_congr fun n _ => ?_
        show decide (n + d < low + d + 2 ^ e) = decide (n < low + 2 ^ e)
        by_cases c : n < low + 2 ^ e
        · rw [decide_eq_true c, decide_eq_true (by omega)]
        · rw [decide_eq_false c, decide_eq_false (by omega)]
      have e3 : (ns.map fun n => n + d).filter (hiI (low + d + 2 ^ e)) = (ns.filter (hiI (low + 2 ^ e))).map fun n => n + d := by
        rw [List.filter_map]
        congr 1
        refine List.filter_congr fun n _ => ?_
        show decide (low + d + 2 ^ e ≤ n + d) = decide (low + 2 ^ e ≤ n)
        by_cases c : low + 2 ^ e ≤ n
        · rw [decide_eq_true c, decide_eq_true (by omega)]
        · rw [decide_eq_false c, decide_eq_false (by omega)]
      rw [e1, e2, e3, grow_shift d e, show low + d + 2 ^ e = (low + 2 ^ e) + d by omega, grow_shift d e]
def flp (low : Int) (e : Nat) (n : Int) : Int := 2 * low + 2 ^ e - 1 - n
theorem flp_mk (low : Int) (e : Nat) (ns : List Int) : (ns.map (flp low (e + 1))).map (mkOf (low + 2 ^ e)) = (ns.map (mkOf (low + 2 ^ e))).map fun m => 1 - m := by
  rw [List.map_map, List.map_map]
  refine List.map_congr_left fun n _ => ?_
  show (if flp low (e + 1) n < low + 2 ^ e then (0 : Int) else 1) = 1 - if n < low + 2 ^ e then 0 else 1
  unfold flp
  have p : (2 : Int) ^ (e + 1) = 2 * 2 ^ e := by rw [Int.pow_succ]; omega
  by_cases c : n < low + 2 ^ e
  · rw [if_pos c, if_neg (by omega)]; rfl
  · rw [if_neg c, if_pos (by omega)]; rfl
theorem flp_lo (low : Int) (e : Nat) (ns : List Int) : grow low e ((ns.map (flp low (e + 1))).filter (loI (low + 2 ^ e))) = grow (low + 2 ^ e) e ((ns.filter (hiI (low + 2 ^ e))).map (flp (low + 2 ^ e) e)) := by
  have p : (2 : Int) ^ (e + 1) = 2 * 2 ^ e := by rw [Int.pow_succ]; omega
  rw [← grow_shift (2 ^ e) e low]
  congr 1
  rw [List.filter_map, List.map_map]
  have e1 : ns.filter (loI (low + 2 ^ e) ∘ flp low (e + 1)) = ns.filter (hiI (low + 2 ^ e)) := List.filter_congr fun n _ => by
    show decide (flp low (e + 1) n < low + 2 ^ e) = decide (low + 2 ^ e ≤ n)
    unfold flp
    by_cases c : low + 2 ^ e ≤ n
    · rw [decide_eq_true c, decide_eq_true (by omega)]
    · rw [decide_eq_false c, decide_eq_false (by omega)]
  rw [e1]
  refine List.map_congr_left fun n _ => ?_
  show flp low (e + 1) n + 2 ^ e = flp (low + 2 ^ e) e n
  unfold flp
  omega
theorem flp_hi (low : Int) (e : Nat) (ns : List Int) : grow (low + 2 ^ e) e ((ns.map (flp low (e + 1))).filter (hiI (low + 2 ^ e))) = grow low e ((ns.filter (loI (low + 2 ^ e))).map (flp low e)) := by
  have p : (2 : Int) ^ (e + 1) = 2 * 2 ^ e := by rw [Int.pow_succ]; omega
  rw [← grow_shift (2 ^ e) e low]
  congr 1
  rw [List.filter_map, List.map_map]
  have e1 : ns.filter (hiI (low + 2 ^ e) ∘ flp low (e + 1)) = ns.filter (loI (low + 2 ^ e)) := List.filter_congr fun n _ => by
    show decide (low + 2 ^ e ≤ flp low (e + 1) n) = decide (n < low + 2 ^ e)
    unfold flp
    by_cases c : n < low + 2 ^ e
    · rw [decide_eq_true c, decide_eq_true (by omega)]
    · rw [decide_eq_false c, decide_eq_false (by omega)]
  rw [e1]
  refine List.map_congr_left fun n _ => ?_
  show flp low (e + 1) n = flp low e n + 2 ^ e
  unfold flp
  omega
theorem growO_grow : ∀ (e : Nat) (os : List Int), growO e os = grow 0 e os
  | 0, os => rfl
  | e + 1, os => by
    by_cases h : os = []
    · rw [h, growO_nil, grow_nil]
    · rw [growO_succ h, grow_succ h, growO_grow e, growO_grow e]
      have z : (0 : Int) + 2 ^ e = 2 ^ e := Int.zero_add _
      rw [z]
      have e2 := grow_shift (2 ^ e) e 0 ((os.filter fun o => decide ((2 : Int) ^ e ≤ o)).map fun o => o - 2 ^ e)
      rw [List.map_map, z] at e2
      have e3 : ((os.filter fun o => decide ((2 : Int) ^ e ≤ o)).map ((fun n => n + 2 ^ e) ∘ fun o => o - 2 ^ e)) = os.filter fun o => decide ((2 : Int) ^ e ≤ o) := by
        rw [show ((fun n : Int => n + 2 ^ e) ∘ fun o => o - 2 ^ e) = id from funext fun o => by show o - 2 ^ e + 2 ^ e = o; omega, List.map_id]
      rw [e3] at e2
      rw [← e2]
      rfl
theorem grow_off (low : Int) (e : Nat) (ns : List Int) : grow low e ns = growO e (ns.map fun n => n - low) := by
  rw [growO_grow, ← grow_shift low e 0, List.map_map, Int.zero_add]
  congr 1
  rw [show ((fun n : Int => n + low) ∘ fun n => n - low) = id from funext fun o => by show o - low + low = o; omega, List.map_id]
theorem off_in {low : Int} {e : Nat} {ns : List Int} (h : Wths low e ns) : InO e (ns.map fun n => n - low) := fun o ho => by
  obtain ⟨n, hn, rfl⟩ := List.mem_map.mp ho
  have := h n hn
  omega
abbrev kb_turned : Nat := 0
abbrev kn_turned : Nat := 40
abbrev k_turned : Nat := 41
def spe_turned (_ : PySem.W.Frag) (e : Nat) : Sp := fun vs H Q _ => ∃ (v : V) (low : Int) (ns : List Int), vs = [v] ∧ TreeAt H v (grow low e ns) ∧ ns.length ≤ 900 ∧
  ∀ (u : V) (H' : Hp), Same H H' → TreeAt H' u (grow low e ns.reverse) → Q u H'
def sp_turned (K : PySem.W.Frag) : Sp := fun vs H Q E => ∃ e, e ≤ kn_turned ∧ spe_turned K e vs H Q E
abbrev kb_flipped : Nat := 0
abbrev kn_flipped : Nat := 40
abbrev k_flipped : Nat := 41
def spe_flipped (_ : PySem.W.Frag) (e : Nat) : Sp := fun vs H Q _ => ∃ (v : V) (low : Int) (ns : List Int), vs = [v] ∧ TreeAt H v (grow low e ns) ∧ ns.length ≤ 900 ∧
  ∀ (u : V) (H' : Hp), Same H H' → TreeAt H' u (grow low e (ns.map (flp low e))) → Q u H'
def sp_flipped (K : PySem.W.Frag) : Sp := fun vs H Q E => ∃ e, e ≤ kn_flipped ∧ spe_flipped K e vs H Q E
section
variable {P : Program} {w : World} {K : PySem.W.Frag} {mg : Str → Option Value} {base : Heap}
theorem ok_turned (d : Def K mg "turned" s_turned ["tree"]) (z : Bz K mg cLeastError cBeyond cNoBounds cNoRow cNoSuch cNoText cTooMany)  : Cal P w K mg base k_turned "turned" ["tree"] (sp_turned K) := by
  have sc := sc_turned
  refine d.recur (k := kb_turned) (sp := spe_turned K) kn_turned fun e hen c_turned f fd F => F.ok sc (fun vs H Q E h => ?_) (fun cdv A outer s H vs Q E hr h => ?_)
  · obtain ⟨v, low, ns, rfl, _⟩ := h
    rfl
  obtain ⟨v, low, ns, rfl, hv, hl, q⟩ := h
  refine ⟨_, (pss_cons (ps_if (PW.pt (pw_or (pt_cmpR op_isN (pv 0) pe_non (nomark _)) (pw_or1 (pt_cmpR op_eq (pe_ix ix_tup (pv 0) pe_int (fun _ _ => rfl)) pe_str (nomark _)))))
  (pss_one (ps_ret (pv 0)))
  pss_nil)
 (pss_one (ps_ret (pe_tup (pa_cons pe_str (pa_cons (pe_tupRev rfl (K := K) rfl (by rfl) z.tuple_ (by rfl) z.reversed_ (pa_cons (pe_ix ix_tup (pv 0) pe_int (fun _ _ => rfl)) pa_nil)) (pa_cons (pe_fn c_turned (hr.mono (Nat.le_refl _)) (by rfl) (pa_cons (pe_ix ix_tup (pv 0) pe_int (fun _ _ => rfl)) pa_nil)) (pa_cons (pe_fn c_turned (hr.mono (Nat.le_refl _)) (by rfl) (pa_cons (pe_ix ix_tup (pv 0) pe_int (fun _ _ => rfl)) pa_nil)) pa_nil)))))))), ?_⟩
  refine ⟨_, rfl, rfl, _, rfl, ?_⟩
  by_cases hn : ns = []
  · subst hn
    rw [grow_nil] at hv
    have hv' : v = .non := hv
    subst hv'
    refine ite2 (fun c => ?_) (fun c => absurd (decide_eq_true rfl) c)
    exact ⟨_, rfl, q _ H (Same.refl H) (by rw [List.reverse_nil, grow_nil]; exact hv)⟩
  have hvn : v ≠ .non := fun z => by rw [z] at hv; exact hn (grow_non hv)
  refine ite2 (fun c => absurd (of_decide_eq_true c) hvn) (fun _ => ?_)
  have hrn : ns.reverse ≠ [] := by simpa using hn
  cases e with
  | zero =>
    have hv0 := hv
    rw [grow_zero hn] at hv
    obtain ⟨a, rfl, ha⟩ := hv
    refine ⟨_, rfl, a, _, _, _, rfl, rfl, SqT.of ha, rfl, rfl, _, rfl, ?_⟩
    refine ite2 (fun c => ?_) (fun c => absurd (decide_eq_true rfl) c)
    refine ⟨_, rfl, q _ H (Same.refl H) ?_⟩
    rw [grow_zero hrn, List.length_reverse, ← grow_zero hn (low := low)]
    exact hv0
  | succ e =>
    rw [grow_part hn] at hv
    rw [grow_part hrn, List.map_reverse, List.filter_reverse, List.filter_reverse] at q
    obtain ⟨a, m, x, y, rfl, ha, hm, hx, hy⟩ := hv
    refine ⟨_, rfl, a, _, _, _, rfl, rfl, SqT.of ha, rfl, rfl, _, rfl, ?_⟩
    refine ite2 (fun c => absurd (of_decide_eq_true c) (by decide)) (fun c => ?_)
    refine ⟨_, rfl, a, _, _, _, rfl, rfl, SqT.of ha, rfl, m, _, rfl, hm.sq, by simp only [List.length_map]; omega, fun p3 H3 s3 h3 => ?_⟩
    rw [← List.map_reverse] at h3
    refine ⟨_, rfl, a, _, _, _, rfl, rfl, SqT.of (s3 _ _ ha), rfl, x, low, _, rfl, hx.same s3, Nat.le_trans (List.length_filter_le _ _) hl, fun u4 H4 s4 hu4 => ?_⟩
    have s34 := s3.trans s4
    refine ⟨_, rfl, a, _, _, _, rfl, rfl, SqT.of (s34 _ _ ha), rfl, y, low + 2 ^ e, _, rfl, hy.same s34, Nat.le_trans (List.length_filter_le _ _) hl, fun u5 H5 s5 hu5 => ⟨szb rfl, fun p hp => q _ _ (s34.trans (s5.trans (same_new hp _))) ?_⟩⟩
    have s6 : Same H5 (upd H5 p (.tup [.str "part", .ref p3, u4, u5])) := same_new hp _
    exact ⟨p, p3, u4, u5, rfl, upd_same, ((h3.same s4).same s5).same s6, (hu4.same s5).same s6, hu5.same s6⟩
theorem ok_flipped (d : Def K mg "flipped" s_flipped ["tree"]) (z : Bz K mg cLeastError cBeyond cNoBounds cNoRow cNoSuch cNoText cTooMany)  : Cal P w K mg base k_flipped "flipped" ["tree"] (sp_flipped K) := by
  have sc := sc_flipped
  refine d.recur (k := kb_flipped) (sp := spe_flipped K) kn_flipped fun e hen c_flipped f fd F => F.ok sc (fun vs H Q E h => ?_) (fun cdv A outer s H vs Q E hr h => ?_)
  · obtain ⟨v, low, ns, rfl, _⟩ := h
    rfl
  obtain ⟨v, low, ns, rfl, hv, hl, q⟩ := h
  refine ⟨_, (pss_cons (ps_if (PW.pt (pw_or (pt_cmpR op_isN (pv 0) pe_non (nomark _)) (pw_or1 (pt_cmpR op_eq (pe_ix ix_tup (pv 0) pe_int (fun _ _ => rfl)) pe_str (nomark _)))))
  (pss_one (ps_ret (pv 0)))
  pss_nil)
 (pss_one (ps_ret (pe_tup (pa_cons pe_str (pa_cons (pe_callTy call_tupleF (by rfl) z.tuple_ bt_tuple (pa_cons (pe_comp (cl := []) (cn := []) (N := []) (fr := []) (sc0 := defScope s_flipped) rfl (pi_tup (pe_ix ix_tup (pv 0) pe_int (fun _ _ => rfl))) (fun C s₂ H₂ fp => (pe_op op_sub pe_int (pv 0))) (by with_unfolding_all rfl) trivial rfl rfl rfl ⟨by decide +kernel, by decide +kernel, by decide +kernel, by decide +kernel, by decide +kernel, by decide +kernel, by decide +kernel⟩ rfl) pa_nil)) (pa_cons (pe_fn c_flipped (hr.mono (Nat.le_refl _)) (by rfl) (pa_cons (pe_ix ix_tup (pv 0) pe_int (fun _ _ => rfl)) pa_nil)) (pa_cons (pe_fn c_flipped (hr.mono (Nat.le_refl _)) (by rfl) (pa_cons (pe_ix ix_tup (pv 0) pe_int (fun _ _ => rfl)) pa_nil)) pa_nil)))))))), ?_⟩
  refine ⟨_, rfl, rfl, _, rfl, ?_⟩
  by_cases hn : ns = []
  · subst hn
    rw [grow_nil] at hv
    have hv' : v = .non := hv
    subst hv'
    refine ite2 (fun c => ?_) (fun c => absurd (decide_eq_true rfl) c)
    exact ⟨_, rfl, q _ H (Same.refl H) (by rw [List.map_nil, grow_nil]; exact hv)⟩
  have hvn : v ≠ .non := fun z => by rw [z] at hv; exact hn (grow_non hv)
  refine ite2 (fun c => absurd (of_decide_eq_true c) hvn) (fun _ => ?_)
  have hrn : ns.map (flp low e) ≠ [] := by simpa using hn
  cases e with
  | zero =>
    have hv0 := hv
    rw [grow_zero hn] at hv
    obtain ⟨a, rfl, ha⟩ := hv
    refine ⟨_, rfl, a, _, _, _, rfl, rfl, SqT.of ha, rfl, rfl, _, rfl, ?_⟩
    refine ite2 (fun c => ?_) (fun c => absurd (decide_eq_true rfl) c)
    refine ⟨_, rfl, q _ H (Same.refl H) ?_⟩
    rw [grow_zero hrn, List.length_map, ← grow_zero hn (low := low)]
    exact hv0
  | succ e =>
    rw [grow_part hn] at hv
    rw [grow_part hrn, flp_mk, flp_lo, flp_hi] at q
    obtain ⟨a, m, x, y, rfl, ha, hm, hx, hy⟩ := hv
    refine ⟨_, rfl, a, _, _, _, rfl, rfl, SqT.of ha, rfl, rfl, _, rfl, ?_⟩
    refine ite2 (fun c => absurd (of_decide_eq_true c) (by decide)) (fun c => ?_)
    refine ⟨_, rfl, a, _, _, _, rfl, rfl, SqT.of ha, rfl, m, rfl, ⟨_, hm.sq⟩, fun D hD => ?_⟩
    refine comp_tup (xs := (ns.map (mkOf (low + 2 ^ e))).map V.int) (sz (by simp only [List.length_map]; omega)) (fun k ds H2 => H2 D = some (.lst ds) ∧ ds.length = k ∧ Same H H2 ∧ ds = (((ns.map (mkOf (low + 2 ^ e))).take k).map fun m => 1 - m).map V.int) ⟨upd_same, rfl, same_new hD _, rfl⟩ (fun k ds H2 ⟨_, _, s2, _⟩ => (hm.same s2).sq) (fun k ds H2 ⟨e1, e2, _, _⟩ => ⟨e1, e2⟩) ?_ ?_
    · rintro k x0 ds H2 hk ⟨e1, e2, s2, e4⟩
      obtain ⟨z, hz, rfl⟩ : ∃ z, (ns.map (mkOf (low + 2 ^ e)))[k]? = some z ∧ x0 = .int z := by
        rw [List.getElem?_map] at hk
        cases eq : (ns.map (mkOf (low + 2 ^ e)))[k]? with
        | none => rw [eq] at hk; cases hk
        | some z => rw [eq] at hk; exact ⟨z, rfl, (Option.some.inj hk).symm⟩
      refine ⟨_, rfl, _, _, rfl, rfl, e1, upd_same, by rw [List.length_append, e2] <;> rfl, Same.own s2 hD, ?_⟩
      rw [List.take_add_one, hz, e4]
      simp
    rintro ds H2 ⟨e1, e2, s2, e4⟩
    rw [List.length_map, List.take_length] at e4
    subst e4
    refine ⟨D, _, rfl, SqL.of e1, fun p3 H3 s3' h3 => ?_⟩
    have s3 := s2.trans s3'
    refine ⟨_, rfl, a, _, _, _, rfl, rfl, SqT.of (s3 _ _ ha), rfl, y, low + 2 ^ e, _, rfl, hy.same s3, Nat.le_trans (List.length_filter_le _ _) hl, fun u4 H4 s4 hu4 => ?_⟩
    have s34 := s3.trans s4
    refine ⟨_, rfl, a, _, _, _, rfl, rfl, SqT.of (s34 _ _ ha), rfl, x, low, _, rfl, hx.same s34, Nat.le_trans (List.length_filter_le _ _) hl, fun u5 H5 s5 hu5 => ⟨szb rfl, fun p hp => q _ _ (s34.trans (s5.trans (same_new hp _))) ?_⟩⟩
    have s6 : Same H5 (upd H5 p (.tup [.str "part", .ref p3, u4, u5])) := same_new hp _
    exact ⟨p, p3, u4, u5, rfl, upd_same, ((h3.same s4).same s5).same s6, (hu4.same s5).same s6, hu5.same s6⟩
end
abbrev T3 := Nat × Nat × Nat
def TsOk (nss : List (List Int)) (ts : List T3) : Prop := ∀ t ∈ ts, ∃ ns, nss[t.1]? = some ns ∧ t.2.1 ≤ t.2.2 ∧ t.2.2 ≤ ns.length
def gOf (low : Int) (nss : List (List Int)) (t : T3) : G3 := (((nss[t.1]?).getD []).map fun n => n - low, t.2.1, t.2.2)
theorem sqT_tk {K : PySem.W.Frag} {H H' : Hp} {a : Addr} {xs : List V} (k : TKeep H H') (h : SqT K H a xs) : SqT K H' a xs := by
  rcases h with (h | ⟨o, h⟩) | h
  · exact .inl (.inl ((k _ _).1 h))
  · exact .inl (.inr ⟨o, (k _ _).2 o h⟩)
  · exact .inr h
theorem trip_tk {K : PySem.W.Frag} {H H' : Hp} (k : TKeep H H') : ∀ {zs : List V} {vs : List TS.I3}, Paired (TripAt K H) zs vs → Paired (TripAt K H') zs vs
  | _, _, .nil => .nil
  | _, _, .cons ⟨a, e, h⟩ t => .cons ⟨a, e, sqT_tk k h⟩ (trip_tk k t)
theorem trip_app {K : PySem.W.Frag} {H : Hp} : ∀ {zs zs' : List V} {vs vs' : List TS.I3}, Paired (TripAt K H) zs vs → Paired (TripAt K H) zs' vs' → Paired (TripAt K H) (zs ++ zs') (vs ++ vs')
  | _, _, _, _, .nil, h => h
  | _, _, _, _, .cons a t, h => .cons a (trip_app t h)
theorem trip_len {K : PySem.W.Frag} {H : Hp} : ∀ {zs : List V} {vs : List TS.I3}, Paired (TripAt K H) zs vs → zs.length = vs.length
  | _, _, .nil => rfl
  | _, _, .cons _ t => by rw [List.length_cons, List.length_cons, trip_len t]
def thR (row : List Int) (j st : Int) (b n : Nat) : List TS.I3 := (List.range n).map fun k => (row.getD (b + k) 0, j, st + (k : Int))
theorem thR_succ (row : List Int) (j st : Int) (b n : Nat) : thR row j st b (n + 1) = thR row j st b n ++ [(row.getD (b + n) 0, j, st + (n : Int))] := by
  unfold thR
  rw [List.range_succ, List.map_append]
  rfl
def thF (nss : List (List Int)) : Nat → List T3 → List TS.I3
  | _, [] => []
  | j, t :: r => thR ((nss[t.1]?).getD []) (j : Int) (t.2.1 : Int) t.2.1 (t.2.2 - t.2.1) ++ thF nss (j + 1) r
theorem thR_len (row : List Int) (j st : Int) (b n : Nat) : (thR row j st b n).length = n := by unfold thR; rw [List.length_map, List.length_range]
theorem thR_fst {row : List Int} {j st : Int} {b e : Nat} (h : e ≤ row.length) : (thR row j st b (e - b)).map (·.1) = (row.take e).drop b := by
  apply List.ext_getElem?
  intro k
  unfold thR
  rw [List.map_map, List.getElem?_map, List.getElem?_drop, List.getElem?_take]
  by_cases c : k < e - b
  · rw [List.getElem?_range c, if_pos (by omega)]
    have hk : b + k < row.length := by omega
    show some (row.getD (b + k) 0) = _
    simp [List.getD_eq_getElem?_getD, hk]
  · rw [List.getElem?_eq_none (by rw [List.length_range]; omega), if_neg (by omega)]
    rfl
theorem thF_fst {nss : List (List Int)} (low : Int) : ∀ (ts : List T3) (j : Nat), TsOk nss ts → (thF nss j ts).map (·.1) = (Wh (ts.map (gOf low nss))).map fun o => low + o
  | [], j, _ => rfl
  | t :: r, j, h => by
    have ih := thF_fst low r (j + 1) fun u hu => h u (List.mem_cons_of_mem _ hu)
    obtain ⟨ns, h1, h2, h3⟩ := h t (List.mem_cons_self ..)
    show List.map _ (_ ++ _) = _
    rw [List.map_append, ih, h1, Option.getD_some, thR_fst h3]
    unfold Wh
    rw [List.map_cons, List.flatMap_cons, List.map_append]
    congr 1
    unfold sel gOf
    rw [h1, Option.getD_some, List.map_drop, List.map_take, List.map_map]
    have e : ((fun o => low + o) ∘ fun n => n - low) = (id : Int → Int) := by
      funext n
      show low + (n - low) = n
      omega
    rw [e, List.map_id]
theorem lex_idx {vs : List TS.I3} (hs : vs.Pairwise fun x y => TS.lex3 y x = false) (hn : vs.Nodup) {k : Nat} {v : TS.I3} (h : vs[k]? = some v) : vs.countP (fun x => TS.lex3 x v) = k := by
  obtain ⟨hk, hx⟩ := List.getElem?_eq_some_iff.mp h
  have e : vs = vs.take k ++ v :: vs.drop (k + 1) := by rw [← hx, ← List.drop_eq_getElem_cons hk, List.take_append_drop]
  have hlk : (vs.take k).length = k := by rw [List.length_take]; omega
  rw [e] at hs hn
  obtain ⟨_, h2, h3⟩ := List.pairwise_append.mp hs
  have h4 := (List.pairwise_cons.mp h2).1
  obtain ⟨_, _, n3⟩ := List.pairwise_append.mp hn
  rw [e, List.countP_append]
  have z : (v :: vs.drop (k + 1)).countP (fun x => TS.lex3 x v) = 0 := List.countP_eq_zero.mpr fun b hb => by
    rw [Bool.not_eq_true]
    rcases List.mem_cons.mp hb with rfl | hb
    · rw [TS.lex3_false]; omega
    · exact h4 b hb
  have y : (vs.take k).countP (fun x => TS.lex3 x v) = (vs.take k).length := List.countP_eq_length.mpr fun b hb => by
    have u1 := h3 b hb v List.mem_cons_self
    have u2 : b ≠ v := n3 b hb v List.mem_cons_self
    cases c : TS.lex3 b v with
    | true => rfl
    | false =>
      exfalso
      rw [TS.lex3_false] at u1 c
      apply u2
      obtain ⟨b1, b2, b3⟩ := b
      obtain ⟨v1, v2, v3⟩ := v
      simp only [Prod.mk.injEq] at u1 c ⊢
      omega
  rw [z, y]
  omega
theorem thR_mem {row : List Int} {j st : Int} {b n : Nat} {x : TS.I3} (h : x ∈ thR row j st b n) : x.2.1 = j := by
  unfold thR at h
  obtain ⟨k, _, rfl⟩ := List.mem_map.mp h
  rfl
theorem thR_nodup (row : List Int) (j st : Int) (b : Nat) : ∀ n, (thR row j st b n).Nodup
  | 0 => List.nodup_nil
  | n + 1 => by
    rw [thR_succ]
    refine List.nodup_append.mpr ⟨thR_nodup row j st b n, by simp, fun x hx y hy z => ?_⟩
    subst z
    cases List.mem_singleton.mp hy
    unfold thR at hx
    obtain ⟨k, hk, e⟩ := List.mem_map.mp hx
    have := List.mem_range.mp hk
    have e3 := congrArg (fun t : TS.I3 => t.2.2) e
    simp only at e3
    omega
theorem thF_mem {nss : List (List Int)} : ∀ (ts : List T3) (j : Nat) (x : TS.I3), x ∈ thF nss j ts → (j : Int) ≤ x.2.1
  | [], _, x, h => by simp [thF] at h
  | t :: r, j, x, h => by
    rcases List.mem_append.mp h with z | z
    · have := thR_mem z
      omega
    · have := thF_mem r (j + 1) x z
      omega
theorem thF_nodup (nss : List (List Int)) : ∀ (ts : List T3) (j : Nat), (thF nss j ts).Nodup
  | [], _ => List.nodup_nil
  | t :: r, j => List.nodup_append.mpr ⟨thR_nodup _ _ _ _ _, thF_nodup nss r (j + 1), fun x hx y hy z => by
      subst z
      have := thR_mem hx
      have := thF_mem r (j + 1) x hy
      omega⟩
theorem thR_add (row : List Int) (j st : Int) (b m : Nat) : ∀ d, ∃ l, thR row j st b (m + d) = thR row j st b m ++ l ∧ ∀ x ∈ l, st + (m : Int) ≤ x.2.2 ∧ x.2.1 = j
  | 0 => ⟨[], by rw [List.append_nil]; rfl, fun x hx => absurd hx (by simp)⟩
  | d + 1 => by
    obtain ⟨l, e, hl⟩ := thR_add row j st b m d
    refine ⟨l ++ [(row.getD (b + (m + d)) 0, j, st + ((m + d : Nat) : Int))], by rw [← Nat.add_assoc, thR_succ, e, List.append_assoc], fun x hx => ?_⟩
    rcases List.mem_append.mp hx with z | z
    · exact hl x z
    · cases List.mem_singleton.mp z
      exact ⟨by simp only; omega, rfl⟩
theorem sel_cnt {low : Int} {ns : List Int} {b e : Nat} {p : Int → Bool} : (sel (ns.map (fun n => n - low), b, e)).countP (fun x => p (low + x)) = ((ns.take e).drop b).countP p := by
  unfold sel
  simp only
  rw [← List.map_take, ← List.map_drop, List.countP_map]
  refine List.countP_congr fun n _ => ?_
  show p (low + (n - low)) = true ↔ _
  rw [show low + (n - low) = n by omega]
theorem thR_cnt {row : List Int} {j st : Int} {b e : Nat} {p : Int → Bool} (h : e ≤ row.length) : (thR row j st b (e - b)).countP (fun x => p x.1) = ((row.take e).drop b).countP p := by
  rw [← thR_fst (row := row) (j := j) (st := st) h, List.countP_map]
  rfl
theorem lt_cnt {low : Int} {us : List Int} {o : Int} : (us.countP fun x => decide (x < o)) = us.countP (fun x => (fun n : Int => decide (n < low + o)) (low + x)) := List.countP_congr fun x _ => by
  simp only [decide_eq_true_eq]
  omega
theorem eq_cnt {low : Int} {us : List Int} {o : Int} : us.count o = us.countP (fun x => (fun n : Int => decide (n = low + o)) (low + x)) := by
  rw [List.count_eq_countP]
  refine List.countP_congr fun x _ => ?_
  simp only [decide_eq_true_eq, beq_iff_eq]
  omega
theorem cnt_le_split (us : List Int) (o : Int) : (us.countP fun n => decide (n ≤ o)) = (us.countP fun n => decide (n < o)) + us.countP fun n => decide (n = o) := by
  induction us with
  | nil => rfl
  | cons u us ih =>
    rw [List.countP_cons, List.countP_cons, List.countP_cons, ih]
    by_cases a : u < o
    · have h1 : u ≤ o := by omega
      have h2 : ¬ u = o := by omega
      simp [a, h1, h2]; omega
    · by_cases c : u = o
      · subst c; simp; omega
      · have h1 : ¬ u ≤ o := by omega
        simp [a, c, h1]
theorem thF_gt {nss : List (List Int)} {low o : Int} {J pl : Int} : ∀ (ts : List T3) (j : Nat), TsOk nss ts → J < (j : Int) → (thF nss j ts).countP (fun x => TS.lex3 x (low + o, J, pl)) = ltC (Wh (ts.map (gOf low nss))) o := fun ts j hok hj => by
  have e : (thF nss j ts).countP (fun x => TS.lex3 x (low + o, J, pl)) = (thF nss j ts).countP (fun x => (fun n : Int => decide (n < low + o)) x.1) := List.countP_congr fun x hx => by
    have := thF_mem ts j x hx
    simp only [decide_eq_true_eq]
    rw [TS.lex3_true]
    simp only
    omega
  rw [e]
  show _ = List.countP (fun x => decide (x < o)) _
  rw [lt_cnt (low := low)]
  have z := congrArg (List.countP fun n : Int => decide (n < low + o)) (thF_fst low ts j hok)
  rw [List.countP_map, List.countP_map] at z
  exact z
theorem thF_rank {nss : List (List Int)} {low o : Int} {pl : Nat} : ∀ (ts : List T3) (j J : Nat) (g : G3), TsOk nss ts → (ts.map (gOf low nss))[J]? = some g → g.2.1 ≤ pl → pl < g.2.2 →
    (thF nss j ts).countP (fun x => TS.lex3 x (low + o, ((j + J : Nat) : Int), (pl : Int))) = ltC (Wh (ts.map (gOf low nss))) o + (Wh ((ts.map (gOf low nss)).take J ++ [(g.1, g.2.1, pl)])).count o
  | [], _, _, _, _, h, _, _ => by simp at h
  | t :: r, j, 0, g, hok, h, h1, h2 => by
    obtain ⟨ns, n1, n2, n3⟩ := hok t (List.mem_cons_self ..)
    cases Option.some.inj h
    have hr := thF_gt (low := low) (o := o) (J := ((j + 0 : Nat) : Int)) (pl := (pl : Int)) r (j + 1) (fun u hu => hok u (List.mem_cons_of_mem _ hu)) (by omega)
    show List.countP _ (_ ++ _) = _
    rw [List.countP_append, hr, n1, Option.getD_some]
    unfold gOf at h1 h2
    simp only at h1 h2
    obtain ⟨l, e, hl⟩ := thR_add ns (j : Int) (t.2.1 : Int) t.2.1 (pl - t.2.1) (t.2.2 - t.2.1 - (pl - t.2.1))
    rw [show pl - t.2.1 + (t.2.2 - t.2.1 - (pl - t.2.1)) = t.2.2 - t.2.1 by omega] at e
    have a1 := thR_cnt (row := ns) (j := (j : Int)) (st := (t.2.1 : Int)) (b := t.2.1) (e := t.2.2) (p := fun n => decide (n < low + o)) n3
    have a2 := thR_cnt (row := ns) (j := (j : Int)) (st := (t.2.1 : Int)) (b := t.2.1) (e := pl) (p := fun n => decide (n = low + o)) (by omega)
    rw [e] at a1 ⊢
    rw [List.countP_append] at a1 ⊢
    have b1 : (thR ns (j : Int) (t.2.1 : Int) t.2.1 (pl - t.2.1)).countP (fun x => TS.lex3 x (low + o, ((j + 0 : Nat) : Int), (pl : Int))) = (thR ns (j : Int) (t.2.1 : Int) t.2.1 (pl - t.2.1)).countP (fun x => (fun n : Int => decide (n ≤ low + o)) x.1) := List.countP_congr fun x hx => by
      unfold thR at hx
      obtain ⟨k, hk, rfl⟩ := List.mem_map.mp hx
      have := List.mem_range.mp hk
      simp only [decide_eq_true_eq]
      rw [TS.lex3_true]
      simp only
      omega
    have b2 : l.countP (fun x => TS.lex3 x (low + o, ((j + 0 : Nat) : Int), (pl : Int))) = l.countP (fun x => (fun n : Int => decide (n < low + o)) x.1) := List.countP_congr fun x hx => by
      have := hl x hx
      simp only [decide_eq_true_eq]
      rw [TS.lex3_true]
      simp only
      omega
    have b3 := cnt_le_split ((thR ns (j : Int) (t.2.1 : Int) t.2.1 (pl - t.2.1)).map (·.1)) (low + o)
    rw [List.countP_map, List.countP_map, List.countP_map] at b3
    have b4 : ltC (Wh ((t :: r).map (gOf low nss))) o = (sel (gOf low nss t)).countP (fun x => (fun n : Int => decide (n < low + o)) (low + x)) + ltC (Wh (r.map (gOf low nss))) o := by
      rw [List.map_cons]
      unfold Wh
      rw [List.flatMap_cons]
      show List.countP _ _ = _
      rw [List.countP_append, lt_cnt (low := low)]
    have b5 : (Wh (((t :: r).map (gOf low nss)).take 0 ++ [((gOf low nss t).1, (gOf low nss t).2.1, pl)])).count o = (sel (ns.map (fun n => n - low), t.2.1, pl)).countP (fun x => (fun n : Int => decide (n = low + o)) (low + x)) := by
      rw [List.take_zero, List.nil_append]
      unfold Wh gOf
      rw [List.flatMap_cons, List.flatMap_nil, List.append_nil, n1, Option.getD_some, eq_cnt (low := low)]
    have b6 : sel (gOf low nss t) = sel (ns.map (fun n => n - low), t.2.1, t.2.2) := by unfold gOf; rw [n1, Option.getD_some]
    rw [b4, b5, b6, sel_cnt (p := fun n : Int => decide (n < low + o)), sel_cnt (p := fun n : Int => decide (n = low + o)), ← a1, ← a2, b1, b2]
    have c : ∀ (p : Int → Bool) (q : List TS.I3), q.countP (p ∘ fun x : TS.I3 => x.1) = q.countP fun x => p x.1 := fun p q => rfl
    rw [c, c, c] at b3
    simp only at b3 ⊢
    omega
  | t :: r, j, J + 1, g, hok, h, h1, h2 => by
    obtain ⟨ns, n1, n2, n3⟩ := hok t (List.mem_cons_self ..)
    rw [List.map_cons, List.getElem?_cons_succ] at h
    have ih := thF_rank (o := o) r (j + 1) J g (fun u hu => hok u (List.mem_cons_of_mem _ hu)) h h1 h2
    rw [show j + 1 + J = j + (J + 1) by omega] at ih
    show List.countP _ (_ ++ _) = _
    rw [List.countP_append, ih, n1, Option.getD_some]
    have a1 := thR_cnt (row := ns) (j := (j : Int)) (st := (t.2.1 : Int)) (b := t.2.1) (e := t.2.2) (p := fun n => decide (n ≤ low + o)) n3
    have b1 : (thR ns (j : Int) (t.2.1 : Int) t.2.1 (t.2.2 - t.2.1)).countP (fun x => TS.lex3 x (low + o, ((j + (J + 1) : Nat) : Int), (pl : Int))) = (thR ns (j : Int) (t.2.1 : Int) t.2.1 (t.2.2 - t.2.1)).countP (fun x => (fun n : Int => decide (n ≤ low + o)) x.1) := List.countP_congr fun x hx => by
      have := thR_mem hx
      simp only [decide_eq_true_eq]
      rw [TS.lex3_true]
      simp only
      omega
    rw [b1, a1, cnt_le_split]
    have b6 : sel (gOf low nss t) = sel (ns.map (fun n => n - low), t.2.1, t.2.2) := by unfold gOf; rw [n1, Option.getD_some]
    have b4 : ltC (Wh ((t :: r).map (gOf low nss))) o = ((ns.take t.2.2).drop t.2.1).countP (fun n : Int => decide (n < low + o)) + ltC (Wh (r.map (gOf low nss))) o := by
      rw [List.map_cons]
      unfold Wh
      rw [List.flatMap_cons]
      show List.countP _ _ = _
      rw [List.countP_append, lt_cnt (low := low), b6, sel_cnt (p := fun n : Int => decide (n < low + o))]
    have b5 : (Wh (((t :: r).map (gOf low nss)).take (J + 1) ++ [(g.1, g.2.1, pl)])).count o = ((ns.take t.2.2).drop t.2.1).countP (fun n : Int => decide (n = low + o)) + (Wh ((r.map (gOf low nss)).take J ++ [(g.1, g.2.1, pl)])).count o := by
      rw [List.map_cons, List.take_succ_cons, List.cons_append]
      unfold Wh
      rw [List.flatMap_cons, List.count_append, eq_cnt (low := low) (us := sel (gOf low nss t)), b6, sel_cnt (p := fun n : Int => decide (n = low + o))]
    rw [b4, b5]
    omega
theorem th_mem {nss : List (List Int)} {low : Int} {o : Int} {pl : Nat} : ∀ (ts : List T3) (j J : Nat) (g : G3), TsOk nss ts → (ts.map (gOf low nss))[J]? = some g → g.2.1 ≤ pl → pl < g.2.2 → g.1[pl]? = some o → (low + o, ((j + J : Nat) : Int), (pl : Int)) ∈ thF nss j ts
  | [], _, _, _, _, h, _, _, _ => by simp at h
  | t :: r, j, 0, g, hok, h, h1, h2, h3 => by
    obtain ⟨ns, n1, n2, n3⟩ := hok t (List.mem_cons_self ..)
    cases Option.some.inj h
    refine List.mem_append_left _ ?_
    unfold gOf at h1 h2 h3
    simp only at h1 h2 h3
    rw [n1, Option.getD_some] at h3 ⊢
    unfold thR
    refine List.mem_map.mpr ⟨pl - t.2.1, List.mem_range.mpr (by omega), ?_⟩
    rw [List.getElem?_map] at h3
    rw [show t.2.1 + (pl - t.2.1) = pl by omega, List.getD_eq_getElem?_getD]
    cases e : ns[pl]? with
    | none => rw [e] at h3; cases h3
    | some n =>
      rw [e] at h3
      have h3 : n - low = o := Option.some.inj h3
      simp only [Option.getD_some, Prod.mk.injEq]
      omega
  | t :: r, j, J + 1, g, hok, h, h1, h2, h3 => by
    rw [List.map_cons, List.getElem?_cons_succ] at h
    have ih := th_mem r (j + 1) J g (fun u hu => hok u (List.mem_cons_of_mem _ hu)) h h1 h2 h3
    rw [show j + 1 + J = j + (J + 1) by omega] at ih
    exact List.mem_append_right _ ih
theorem tr_alk {K : PySem.W.Frag} {H : Hp} {a b : Addr} {x y z : Int} (ha : SqT K H a [.int x, .int y, .int z]) (hb : SqT K H b [.int x, .int y, .int z]) : Alk K H 2 (.ref a) (.ref b) := by
  refine .tup ha hb rfl fun i u v g1 g2 => ?_
  match i, g1, g2 with
  | 0, g1, g2 => cases g1; cases g2; exact .flat rfl
  | 1, g1, g2 => cases g1; cases g2; exact .flat rfl
  | 2, g1, g2 => cases g1; cases g2; exact .flat rfl
def wlow (low : Int) (L : Nat) (sd : Str) : Int := if sd = "up" then low else low - 2 ^ L
def WOk (low : Int) (L : Nat) (sd : Str) : Prop := -(10 ^ 40) < wlow low L sd ∧ wlow low L sd < 10 ^ 40 ∧ L + 1 ≤ 40
theorem all_lo {low : Int} {L : Nat} {ns : List Int} (h : Wths low L ns) : ns.filter (loI (low + 2 ^ L)) = ns := List.filter_eq_self.mpr fun x hx => decide_eq_true (h x hx).2
theorem no_hi {low : Int} {L : Nat} {ns : List Int} (h : Wths low L ns) : ns.filter (hiI (low + 2 ^ L)) = [] := List.filter_eq_nil_iff.mpr fun x hx => by
  have := (h x hx).2
  intro z
  have z' := of_decide_eq_true z
  omega
theorem all_hi {low : Int} {L : Nat} {ns : List Int} (h : Wths low L ns) : ns.filter (hiI low) = ns := List.filter_eq_self.mpr fun x hx => decide_eq_true (h x hx).1
theorem no_lo {low : Int} {L : Nat} {ns : List Int} (h : Wths low L ns) : ns.filter (loI low) = [] := List.filter_eq_nil_iff.mpr fun x hx => by
  have := (h x hx).1
  intro z
  have z' := of_decide_eq_true z
  omega
theorem mk_all {mid v : Int} : ∀ {ns : List Int}, (∀ x ∈ ns, mkOf mid x = v) → ns.map (mkOf mid) = List.replicate ns.length v
  | [], _ => rfl
  | x :: r, h => by
    rw [List.map_cons, h x (List.mem_cons_self), mk_all fun y hy => h y (List.mem_cons_of_mem _ hy)]
    rfl
theorem grow_up {low : Int} {L : Nat} {ns : List Int} (h : Wths low L ns) (hne : ns ≠ []) : grow low (L + 1) ns = .part (List.replicate ns.length 0) (grow low L ns) .non := by
  rw [grow_part hne, all_lo h, no_hi h, grow_nil, mk_all (v := 0) fun x hx => ?_]
  show (if x < low + 2 ^ L then (0 : Int) else 1) = 0
  rw [if_pos (h x hx).2]
theorem grow_down {low : Int} {L : Nat} {ns : List Int} (h : Wths low L ns) (hne : ns ≠ []) : grow (low - 2 ^ L) (L + 1) ns = .part (List.replicate ns.length 1) .non (grow low L ns) := by
  rw [grow_part hne, show low - 2 ^ L + 2 ^ L = low by omega, all_hi h, no_lo h, grow_nil, mk_all (v := 1) fun x hx => ?_]
  show (if x < low then (0 : Int) else 1) = 1
  rw [if_neg (by have := (h x hx).1; omega)]
theorem wlow_wths {low : Int} {L : Nat} {ns : List Int} {sd : Str} (h : Wths low L ns) : Wths (wlow low L sd) (L + 1) ns := fun x hx => by
  have := h x hx
  have p := p2pos L
  have e : (2 : Int) ^ (L + 1) = 2 * 2 ^ L := by rw [Int.pow_succ]; omega
  unfold wlow
  split <;> omega
abbrev k_wider : Nat := 5
def sp1_wider (K : PySem.W.Frag) (cN : Addr) : Sp := fun vs H Q E => ∃ (b : Addr) (v : V) (low : Int) (L : Nat) (ns : List Int) (sd : Str), vs = [.ref b, v, .str sd] ∧ SqT K H b [.int low, .int (L : Int)] ∧ L ≤ 40 ∧ (sd = "up" ∨ sd = "down") ∧ TreeAt H v (grow low L ns) ∧ Wths low L ns ∧ ns.length ≤ 300 ∧
  (∀ (p wd : Addr) (u : V) (H' : Hp), Same H H' → WOk low L sd → H' p = some (.tup [.ref wd, u]) → H' wd = some (.tup [.int (wlow low L sd), .int ((L + 1 : Nat) : Int)]) → TreeAt H' u (grow (wlow low L sd) (L + 1) ns) → Q (.ref p) H') ∧
  (∀ H', Same H H' → ¬ WOk low L sd → E (.ref cN) none H')
section
variable {P : Program} {w : World} {K : PySem.W.Frag} {mg : Str → Option Value} {base : Heap}
theorem okx_wider (d : Def K mg "wider" s_wider ["bounds", "tree", "side"]) (z : Bz K mg cLeastError cBeyond cNoBounds cNoRow cNoSuch cNoText cTooMany) (c_is_bounds : Cal P w K mg base k_is_bounds "is_bounds" ["thing"] (sp_is_bounds K)) (c_many_worths : Cal P w K mg base k_many_worths "many_worths" ["levels"] (sp_many_worths K)) (c_size_of : Cal P w K mg base k_size_of "size_of" ["tree"] (sp_size_of K)) : CalX P w K mg base k_wider "wider" ["bounds", "tree", "side"] (sp1_wider K cNoBounds) := by
  have sc := sc_wider
  refine d.calx fun f fd F => F.okx sc (fun vs H Q E h => ?_) (fun cdv A outer s H vs Q E hr h => ?_)
  · obtain ⟨b, v, low, L, ns, sd, rfl, _⟩ := h
    rfl
  obtain ⟨b, v, low, L, ns, sd, rfl, hb, hL, hsd, ht, hw, hl, q, qE⟩ := h
  refine ⟨_, (pss_cons (ps_set (i := 3) sc.nd rfl (Or.inl rfl) (pe_ifExp (pt_cmpR op_eq (pv 2) pe_str (nomark _)) (pe_ix ix_tup (pv 0) pe_int (fun _ _ => rfl)) (pe_op op_sub (pe_ix ix_tup (pv 0) pe_int (fun _ _ => rfl)) (pe_fn c_many_worths (hr.mono (by decide)) (by rfl) (pa_cons (pe_ix ix_tup (pv 0) pe_int (fun _ _ => rfl)) pa_nil)))))
 (pss_cons (ps_set (i := 4) sc.nd rfl (Or.inl rfl) (pe_tup (pa_cons (pv 3) (pa_cons (pe_op op_add (pe_ix ix_tup (pv 0) pe_int (fun _ _ => rfl)) pe_int) pa_nil))))
 (pss_cons (ps_if (pt_not (pt_val (pe_fn c_is_bounds (hr.mono (by decide)) (by rfl) (pa_cons (pv 4) pa_nil))))
  (pss_one (ps_raiseK lv_of z.m_NoBounds z.own_NoBounds (by rfl) (pa_cons pe_str pa_nil)))
  pss_nil)
 (pss_cons (ps_if (pt_cmpR op_isN (pv 1) pe_non (nomark _))
  (pss_one (ps_ret (pe_tup (pa_cons (pv 4) (pa_cons pe_non pa_nil)))))
  pss_nil)
 (pss_cons (ps_if (pt_cmpR op_eq (pv 2) pe_str (nomark _))
  (pss_one (ps_ret (pe_tup (pa_cons (pv 4) (pa_cons (pe_tup (pa_cons pe_str (pa_cons (pe_op op_repF (pe_tupF (pa_cons pe_int pa_nil)) (pe_fn c_size_of (hr.mono (by decide)) (by rfl) (pa_cons (pv 1) pa_nil))) (pa_cons (pv 1) (pa_cons pe_non pa_nil))))) pa_nil)))))
  pss_nil)
 (pss_one (ps_ret (pe_tup (pa_cons (pv 4) (pa_cons (pe_tup (pa_cons pe_str (pa_cons (pe_op op_repF (pe_tupF (pa_cons pe_int pa_nil)) (pe_fn c_size_of (hr.mono (by decide)) (by rfl) (pa_cons (pv 1) pa_nil))) (pa_cons pe_non (pa_cons (pv 1) pa_nil))))) pa_nil)))))))))), ?_⟩
  have hpk := p2pos L
  have hq40 := p2le hL
  have key : ∀ (lw : Int) (wd : Addr) (H1 : Hp), H1 wd = some (.tup [.int lw, .int ((L : Int) + 1)]) → BndV K H1 (.ref wd) (decide (-(10 ^ 40) < lw ∧ lw < 10 ^ 40) && decide (0 ≤ (L : Int) + 1 ∧ (L : Int) + 1 ≤ 40)) := fun lw wd H1 hwd =>
    .inl ⟨wd, _, _, decide (-(10 ^ 40) < lw ∧ lw < 10 ^ 40), decide (0 ≤ (L : Int) + 1 ∧ (L : Int) + 1 ≤ 40), rfl, hwd, .inl ⟨_, rfl, rfl⟩, fun _ => .inl ⟨_, rfl, rfl⟩, rfl⟩
  have okd : ∀ lw : Int, lw = wlow low L sd → ((decide (-(10 ^ 40) < lw ∧ lw < 10 ^ 40) && decide (0 ≤ (L : Int) + 1 ∧ (L : Int) + 1 ≤ 40)) = true ↔ WOk low L sd) := fun lw e => by
    rw [e, Bool.and_eq_true, decide_eq_true_eq, decide_eq_true_eq]
    unfold WOk
    constructor
    · rintro ⟨⟨a, b⟩, c, d⟩
      exact ⟨a, b, by omega⟩
    · rintro ⟨a, b, c⟩
      exact ⟨⟨a, b⟩, by omega, by omega⟩
  rcases hsd with rfl | rfl
  · have elw : low = wlow low L "up" := rfl
    refine ⟨_, rfl, rfl, _, rfl, iteT ?_⟩
    refine ⟨_, rfl, b, _, _, _, rfl, rfl, hb, rfl, ?_⟩
    refine ⟨_, rfl, _, rfl, b, _, _, _, rfl, rfl, hb, rfl, _, _, rfl, rfl, szb rfl, fun wd hwd => ?_⟩
    have s1 := same_new hwd (.tup [V.int low, .int ((L : Int) + 1)])
    have hwd1 : upd H wd (.tup [V.int low, .int ((L : Int) + 1)]) wd = some (.tup [V.int low, .int ((L : Int) + 1)]) := upd_same
    generalize upd H wd (.tup [V.int low, .int ((L : Int) + 1)]) = H1 at *
    refine ⟨_, rfl, .ref wd, _, rfl, key _ wd H1 hwd1, _, rfl, ?_⟩
    by_cases c : WOk low L "up"
    · rw [(okd _ elw).mpr c]
      refine iteF ?_
      have ht1 := ht.same s1
      refine ⟨_, rfl, rfl, _, rfl, ?_⟩
      by_cases hne : ns = []
      · rw [hne, grow_nil] at ht1
        have hv : v = .non := ht1
        subst hv
        refine iteT ⟨_, rfl, szb rfl, fun p hp => ?_⟩
        have s2 := same_new hp (.tup [V.ref wd, .non])
        refine q p wd .non _ (s1.trans s2) c upd_same ?_ ?_
        · rw [← elw]; exact s2 _ _ hwd1
        · rw [hne, grow_nil]; rfl
      · have hv : v ≠ .non := fun z => hne (grow_non (z ▸ ht1))
        refine ite2 (fun z => absurd (of_decide_eq_true z) hv) (fun _ => ?_)
        refine ⟨_, rfl, rfl, _, rfl, iteT ?_⟩
        refine ⟨_, rfl, szb rfl, fun z1 H2 s2 hz2 => ?_⟩
        refine ⟨_, rfl, v, _, rfl, ht1.same s2, z1, .int 0, ns.length, rfl, ?_, hz2, by omega, fun m H3 s3 hm => ⟨_, rfl, szb rfl, fun pt hpt => ?_⟩⟩
        · rw [grow_size]
        have s4 := same_new hpt (.tup [.str "part", .ref m, v, .non])
        have hpt4 : upd H3 pt (.tup [.str "part", .ref m, v, .non]) pt = some (.tup [.str "part", .ref m, v, .non]) := upd_same
        generalize upd H3 pt (.tup [.str "part", .ref m, v, .non]) = H4 at *
        refine ⟨szb rfl, fun p hp => ?_⟩
        have s5 := same_new hp (.tup [V.ref wd, .ref pt])
        have s25 := (s3.trans s4).trans s5
        refine q p wd (.ref pt) _ ((s1.trans s2).trans s25) c upd_same ?_ ?_
        · rw [← elw]; exact s25 _ _ (s2 _ _ hwd1)
        · have hg : grow (wlow low L "up") (L + 1) ns = .part (List.replicate ns.length 0) (grow low L ns) .non := by rw [← elw]; exact grow_up hw hne
          rw [hg]
          exact ⟨pt, m, _, _, rfl, s5 _ _ hpt4, (by rw [List.map_replicate]; exact hm.tk (.same (s4.trans s5))), ht1.same (s2.trans s25), rfl⟩
    · have cf : (decide (-(10 ^ 40) < (low : Int) ∧ (low : Int) < 10 ^ 40) && decide (0 ≤ (L : Int) + 1 ∧ (L : Int) + 1 ≤ 40)) = false := Bool.eq_false_iff.mpr fun z => c ((okd _ elw).mp z)
      rw [cf]
      exact iteT ⟨szb rfl, qE _ s1 c⟩
  · have elw : low - 2 ^ L = wlow low L "down" := rfl
    refine ⟨_, rfl, rfl, _, rfl, ite2 (fun z => absurd (of_decide_eq_true z) (by decide)) fun _ => ?_⟩
    refine ⟨_, rfl, b, _, _, _, rfl, rfl, hb, rfl, _, rfl, b, _, _, _, rfl, rfl, hb, rfl, L, rfl, hL, _, _, rfl, rfl, ?_⟩
    refine ⟨_, rfl, _, rfl, b, _, _, _, rfl, rfl, hb, rfl, _, _, rfl, rfl, szb rfl, fun wd hwd => ?_⟩
    have s1 := same_new hwd (.tup [V.int (low - 2 ^ L), .int ((L : Int) + 1)])
    have hwd1 : upd H wd (.tup [V.int (low - 2 ^ L), .int ((L : Int) + 1)]) wd = some (.tup [V.int (low - 2 ^ L), .int ((L : Int) + 1)]) := upd_same
    generalize upd H wd (.tup [V.int (low - 2 ^ L), .int ((L : Int) + 1)]) = H1 at *
    refine ⟨_, rfl, .ref wd, _, rfl, key _ wd H1 hwd1, _, rfl, ?_⟩
    by_cases c : WOk low L "down"
    · rw [(okd _ elw).mpr c]
      refine iteF ?_
      have ht1 := ht.same s1
      refine ⟨_, rfl, rfl, _, rfl, ?_⟩
      by_cases hne : ns = []
      · rw [hne, grow_nil] at ht1
        have hv : v = .non := ht1
        subst hv
        refine iteT ⟨_, rfl, szb rfl, fun p hp => ?_⟩
        have s2 := same_new hp (.tup [V.ref wd, .non])
        refine q p wd .non _ (s1.trans s2) c upd_same ?_ ?_
        · rw [← elw]; exact s2 _ _ hwd1
        · rw [hne, grow_nil]; rfl
      · have hv : v ≠ .non := fun z => hne (grow_non (z ▸ ht1))
        refine ite2 (fun z => absurd (of_decide_eq_true z) hv) (fun _ => ?_)
        refine ⟨_, rfl, rfl, _, rfl, ite2 (fun z => absurd (of_decide_eq_true z) (by decide)) fun _ => ?_⟩
        refine ⟨_, rfl, szb rfl, fun z1 H2 s2 hz2 => ?_⟩
        refine ⟨_, rfl, v, _, rfl, ht1.same s2, z1, .int 1, ns.length, rfl, ?_, hz2, by omega, fun m H3 s3 hm => ⟨_, rfl, szb rfl, fun pt hpt => ?_⟩⟩
        · rw [grow_size]
        have s4 := same_new hpt (.tup [.str "part", .ref m, .non, v])
        have hpt4 : upd H3 pt (.tup [.str "part", .ref m, .non, v]) pt = some (.tup [.str "part", .ref m, .non, v]) := upd_same
        generalize upd H3 pt (.tup [.str "part", .ref m, .non, v]) = H4 at *
        refine ⟨szb rfl, fun p hp => ?_⟩
        have s5 := same_new hp (.tup [V.ref wd, .ref pt])
        have s25 := (s3.trans s4).trans s5
        refine q p wd (.ref pt) _ ((s1.trans s2).trans s25) c upd_same ?_ ?_
        · rw [← elw]; exact s25 _ _ (s2 _ _ hwd1)
        · have hg : grow (wlow low L "down") (L + 1) ns = .part (List.replicate ns.length 1) .non (grow low L ns) := by rw [← elw]; exact grow_down hw hne
          rw [hg]
          exact ⟨pt, m, _, _, rfl, s5 _ _ hpt4, (by rw [List.map_replicate]; exact hm.tk (.same (s4.trans s5))), rfl, ht1.same (s2.trans s25)⟩
    · have cf : (decide (-(10 ^ 40) < (low - 2 ^ L : Int) ∧ (low - 2 ^ L : Int) < 10 ^ 40) && decide (0 ≤ (L : Int) + 1 ∧ (L : Int) + 1 ≤ 40)) = false := Bool.eq_false_iff.mpr fun z => c ((okd _ elw).mp z)
      rw [cf]
      exact iteT ⟨szb rfl, qE _ s1 c⟩
def sp_wider (K : PySem.W.Frag) : Sp := fun vs H Q _ => ∃ (b : Addr) (v : V) (low : Int) (L : Nat) (ns : List Int) (sd : Str), vs = [.ref b, v, .str sd] ∧ SqT K H b [.int low, .int (L : Int)] ∧ L ≤ 40 ∧ (sd = "up" ∨ sd = "down") ∧ TreeAt H v (grow low L ns) ∧ Wths low L ns ∧ ns.length ≤ 300 ∧ WOk low L sd ∧
  (∀ (p wd : Addr) (u : V) (H' : Hp), Same H H' → H' p = some (.tup [.ref wd, u]) → H' wd = some (.tup [.int (wlow low L sd), .int ((L + 1 : Nat) : Int)]) → TreeAt H' u (grow (wlow low L sd) (L + 1) ns) → Q (.ref p) H')
theorem ok_wider {cNoBounds : Addr} (c : CalX P w K mg base k_wider "wider" ["bounds", "tree", "side"] (sp1_wider K cNoBounds)) : Cal P w K mg base k_wider "wider" ["bounds", "tree", "side"] (sp_wider K) :=
  c.cal fun vs H Q E ⟨b, v, low, L, ns, sd, e, h1, h2, h3, h4, h5, h6, ok, q⟩ => ⟨b, v, low, L, ns, sd, e, h1, h2, h3, h4, h5, h6, fun p wd u H' s _ hp hwd hu => q p wd u H' s hp hwd hu, fun H' s n => absurd ok n⟩
end
abbrev k__law_widened : Nat := 6
def sp__law_widened (K : PySem.W.Frag) : Sp := fun vs H Q _ => ∃ (b : Addr) (v : V) (low : Int) (L : Nat) (ns : List Int) (sd : Str), vs = [.ref b, v, .str sd] ∧ SqT K H b [.int low, .int (L : Int)] ∧ L ≤ 40 ∧ (sd = "up" ∨ sd = "down") ∧ TreeAt H v (grow low L ns) ∧ Wths low L ns ∧ ns.length ≤ 300 ∧
  (∀ (p wd : Addr) (u : V) (H' : Hp), Same H H' → WOk low L sd → H' p = some (.tup [.ref wd, u]) → H' wd = some (.tup [.int (wlow low L sd), .int ((L + 1 : Nat) : Int)]) → TreeAt H' u (grow (wlow low L sd) (L + 1) ns) → Q (.ref p) H') ∧
  (∀ H', Same H H' → ¬ WOk low L sd → Q (.str "none") H')
section
variable {P : Program} {w : World} {K : PySem.W.Frag} {mg : Str → Option Value} {base : Heap}
theorem ok__law_widened (d : Def K mg "_law_widened" s__law_widened ["_law_bounds_here", "_law_tree_here", "_law_side"]) (z : Bz K mg cLeastError cBeyond cNoBounds cNoRow cNoSuch cNoText cTooMany) (c1_wider : CalX P w K mg base k_wider "wider" ["bounds", "tree", "side"] (sp1_wider K cNoBounds)) : Cal P w K mg base k__law_widened "_law_widened" ["_law_bounds_here", "_law_tree_here", "_law_side"] (sp__law_widened K) := by
  have sc := sc__law_widened
  refine d.cal fun f fd F => F.ok sc (fun vs H Q E h => ?_) (fun cdv A outer s H vs Q E hr h => ?_)
  · obtain ⟨b, v, low, L, ns, sd, rfl, _⟩ := h
    rfl
  obtain ⟨b, v, low, L, ns, sd, rfl, hb, hL, hsd, ht, hw, hl, q, qN⟩ := h
  refine ⟨_, (pss_cons (ps_set (i := 3) sc.nd rfl (Or.inl rfl) pe_non)
 (pss_cons (ps_set (i := 4) sc.nd rfl (Or.inl rfl) pe_non)
 (pss_cons (ps_tryS (i := 5) (j := 4) rfl rfl c1_wider (hr.mono (by decide)) (by rfl) (pa_cons (pv 0) (pa_cons (pv 1) (pa_cons (pv 2) pa_nil))) (by rfl) z.m_LeastError sc.nd rfl rfl rfl rfl (fun _ =>
  (pss_one (ps_set (i := 3) sc.nd rfl (Or.inl rfl) (pv 5)))))
 (pss_cons (ps_if (pt_cmpR op_isN (pv 3) pe_non (nomark _))
  (pss_one (ps_ret (pv 4)))
  pss_nil)
 (pss_cons (ps_if (PW.pt (pw_or (pt_val (pe_callB (call_isET (K := K) rfl) (by rfl) z.isinstance_ bt_isinstance (pa_cons (pv 3) (pa_cons (pe_tup (pa_cons (pe_glob (v := .ref cBeyond) (u := .ref cBeyond) (by rfl) z.m_Beyond rfl) (pa_cons (pe_glob (v := .ref cNoRow) (u := .ref cNoRow) (by rfl) z.m_NoRow rfl) (pa_cons (pe_glob (v := .ref cNoSuch) (u := .ref cNoSuch) (by rfl) z.m_NoSuch rfl) (pa_cons (pe_glob (v := .ref cNoText) (u := .ref cNoText) (by rfl) z.m_NoText rfl) (pa_cons (pe_glob (v := .ref cTooMany) (u := .ref cTooMany) (by rfl) z.m_TooMany rfl) pa_nil)))))) pa_nil)))) (pw_or1 (pt_not (pt_val (pe_callB (call_isE (K := K) rfl) (by rfl) z.isinstance_ bt_isinstance (pa_cons (pv 3) (pa_cons (pe_bltn (v := .ty "ValueError") (u := .type "ValueError") (by rfl) z.ValueError_ bt_ValueError rfl) pa_nil))))))))
  (pss_one (ps_ret pe_str))
  pss_nil)
 (pss_one (ps_ret (pe_ix ix_list (pe_lst (pa_cons pe_str (pa_cons pe_str pa_nil))) (pe_callTy call_int1 (by rfl) z.int_ bt_int (pa_cons (pe_callB (call_isE (K := K) rfl) (by rfl) z.isinstance_ bt_isinstance (pa_cons (pv 3) (pa_cons (pe_glob (v := .ref cNoBounds) (u := .ref cNoBounds) (by rfl) z.m_NoBounds rfl) pa_nil))) pa_nil)) (fun _ _ => rfl))))))))), ?_⟩
  refine ⟨_, rfl, _, rfl, _, rfl, b, v, low, L, ns, sd, rfl, hb, hL, hsd, ht, hw, hl, fun p wd u H1 s1 ok hp hwd hu => ?_, fun H1 s1 nok => ⟨z.exm, fun x hx => ?_⟩⟩
  · exact ⟨_, rfl, rfl, _, rfl, iteT ⟨_, rfl, q p wd u H1 s1 ok hp hwd hu⟩⟩
  · have ex : upd H1 x (ExcO x (.ref cNoBounds) none) x = some (ExcO x (.ref cNoBounds) none) := upd_same
    have s2 : Same H (upd H1 x (ExcO x (.ref cNoBounds) none)) := s1.trans (same_new hx _)
    generalize upd H1 x (ExcO x (.ref cNoBounds) none) = H2 at *
    have ea : ∀ {H' : Hp}, Same H2 H' → EAt K H' x cNoBounds := fun s' => ⟨z.ecl, none, s' _ _ ex, fun _ y => nomatch y⟩
    refine ⟨_, rfl, ?_⟩
    refine ⟨_, rfl, rfl, _, rfl, ite2 (fun c => absurd (of_decide_eq_true c) (by intro y; cases y)) (fun _ => ?_)⟩
    refine ⟨_, rfl, szb rfl, fun p4 h4 => ?_⟩
    have s4 : Same H2 (upd H2 p4 (.tup [.ref cBeyond, .ref cNoRow, .ref cNoSuch, .ref cNoText, .ref cTooMany])) := same_new h4 _
    refine ⟨x, cNoBounds, p4, _, _, _, rfl, ea s4, SqT.of upd_same, .cons (.own _) (.cons (.own _) (.cons (.own _) (.cons (.own _) (.cons (.own _) .nil)))), z.kC, ?_⟩
    generalize upd H2 p4 (.tup [.ref cBeyond, .ref cNoRow, .ref cNoSuch, .ref cNoText, .ref cTooMany]) = H4 at *
    refine ⟨_, rfl, iteF ?_⟩
    refine ⟨_, rfl, x, cNoBounds, _, _, _, rfl, ea s4, .ty _, z.kB, _, rfl, iteF ?_⟩
    refine ⟨szb rfl, fun l5 h5 => ?_⟩
    have s5 : Same H4 (upd H4 l5 (.lst [.str "other", .str "none"])) := same_new h5 _
    have hl5 : upd H4 l5 (.lst [.str "other", .str "none"]) l5 = some (.lst [.str "other", .str "none"]) := upd_same
    generalize upd H4 l5 (.lst [.str "other", .str "none"]) = H5 at *
    refine ⟨_, rfl, x, cNoBounds, _, _, _, rfl, ea (s4.trans s5), .own _, z.kA, .inr ⟨_, rfl, l5, _, _, _, rfl, rfl, SqL.of hl5, rfl, qN _ ((s2.trans s4).trans s5) nok⟩⟩
end
theorem trip_get {K : PySem.W.Frag} {H : Hp} : ∀ {zs : List V} {vs : List TS.I3}, Paired (TripAt K H) zs vs → ∀ {i : Nat} {z : V}, zs[i]? = some z → ∃ v, vs[i]? = some v ∧ TripAt K H z v
  | _, _, .nil, i, z, h => by simp at h
  | _, _, .cons a t, 0, z, h => by
    cases h
    exact ⟨_, rfl, a⟩
  | _, _, .cons a t, i + 1, z, h => by
    obtain ⟨v, h1, h2⟩ := trip_get t (i := i) (z := z) (by simpa using h)
    exact ⟨v, by simpa using h1, h2⟩
theorem wh_row (low : Int) (ns : List Int) : Wh [((ns.map fun n => n - low), 0, ns.length)] = ns.map fun n => n - low := by
  rw [Wh_one]
  show ((ns.map fun n => n - low).take ns.length).drop 0 = _
  rw [List.drop_zero, List.take_of_length_le (by rw [List.length_map]; exact Nat.le_refl _)]
theorem row_good {low : Int} {L : Nat} {ns : List Int} (hw : Wths low L ns) (hl : ns.length ≤ 300) : ∀ g ∈ [((ns.map fun n => n - low), 0, ns.length)], GoodS L g := fun g hg => by
  rw [List.mem_singleton.mp hg]
  exact ⟨off_in hw, Nat.zero_le _, by show ns.length ≤ (ns.map _).length; rw [List.length_map]; exact Nat.le_refl _, by show (ns.map _).length ≤ 300; rw [List.length_map]; exact hl⟩
theorem cnt_off (low : Int) (ns : List Int) (m : Int) : ((ns.map fun n => n - low).countP fun x => decide (x < m - low)) = (ns.filter fun n => decide (n < m)).length := by
  rw [List.countP_map, ← List.countP_eq_length_filter]
  refine List.countP_congr fun n _ => ?_
  show decide (n - low < m - low) = true ↔ decide (n < m) = true
  rw [decide_eq_true_eq, decide_eq_true_eq]
  omega
theorem cnt_all {low : Int} {L : Nat} {ns : List Int} (hw : Wths low L ns) : ((ns.map fun n => n - low).countP fun x => decide (x < low + 2 ^ L - low)) = ns.length := by
  rw [cnt_off, List.filter_eq_self.mpr fun x hx => decide_eq_true (hw x hx).2]
theorem ask_row {low : Int} {L : Nat} {ns : List Int} {vs : List TS.I3} (hw : Wths low L ns) (hl : ns.length ≤ 300) (hpm : vs.Perm (thR ns 0 0 0 ns.length)) (hord : vs.Pairwise fun x y => TS.lex3 y x = false) {k j pl : Nat} (hk : k < ns.length)
    (h : Thing [((ns.map fun n => n - low), 0, ns.length)] (kth L (Wh [((ns.map fun n => n - low), 0, ns.length)]) k) (k - ltC (Wh [((ns.map fun n => n - low), 0, ns.length)]) (kth L (Wh [((ns.map fun n => n - low), 0, ns.length)]) k)) j pl) :
    vs[k]? = some (low + kth L (Wh [((ns.map fun n => n - low), 0, ns.length)]) k, (j : Int), (pl : Int)) := by
  have hok : TsOk [ns] [(0, 0, ns.length)] := fun t ht => by
    rw [List.mem_singleton.mp ht]
    exact ⟨ns, rfl, Nat.zero_le _, Nat.le_refl _⟩
  have eth : thF [ns] 0 [(0, 0, ns.length)] = thR ns 0 0 0 ns.length := by
    show thR ns _ _ 0 (ns.length - 0) ++ [] = _
    rw [List.append_nil]
    rfl
  have egs : ([(0, 0, ns.length)] : List T3).map (gOf low [ns]) = [((ns.map fun n => n - low), 0, ns.length)] := rfl
  rw [← eth] at hpm
  rw [← egs] at h ⊢
  have hk' : k < (Wh (([(0, 0, ns.length)] : List T3).map (gOf low [ns]))).length := by rw [egs, wh_row, List.length_map]; exact hk
  obtain ⟨g, gj, h1, h2, h3, h4⟩ := h
  have c1 := (kth_cnt L (Wh (([(0, 0, ns.length)] : List T3).map (gOf low [ns]))) k (W_in (by rw [egs]; exact row_good hw hl)) hk').1
  have hm := th_mem [(0, 0, ns.length)] 0 j g hok gj h1 h2 h3
  rw [Nat.zero_add] at hm
  obtain ⟨k', hk2⟩ := List.mem_iff_getElem?.mp (hpm.mem_iff.mpr hm)
  have hx := lex_idx hord (hpm.nodup_iff.mpr (thF_nodup [ns] [(0, 0, ns.length)] 0)) hk2
  rw [hpm.countP_eq] at hx
  have hr := thF_rank (low := low) (o := kth L (Wh (([(0, 0, ns.length)] : List T3).map (gOf low [ns]))) k) [(0, 0, ns.length)] 0 j g hok gj h1 h2
  rw [Nat.zero_add] at hr
  have : k' = k := by omega
  rw [this] at hk2
  exact hk2
abbrev k__law_asked : Nat := 46
def sp__law_asked (K : PySem.W.Frag) : Sp := fun vs H Q _ => ∃ (b r : Addr) (v : V) (low : Int) (L : Nat) (ns : List Int), vs = [.ref b, v, .ref r] ∧ H b = some (.tup [.int low, .int (L : Int)]) ∧ L ≤ 40 ∧ H r = some (.lst (ns.map V.int)) ∧ ns.length ≤ 60 ∧ TreeAt H v (grow low L ns) ∧ Wths low L ns ∧
  ∀ H', Same H H' → Q (.bl true) H'
section
variable {P : Program} {w : World} {K : PySem.W.Frag} {mg : Str → Option Value} {base : Heap}
theorem ok__law_asked (d : Def K mg "_law_asked" s__law_asked ["_law_bounds_here", "_law_tree_here", "_law_row_here"]) (z : Bz K mg cLeastError cBeyond cNoBounds cNoRow cNoSuch cNoText cTooMany) (c_below : Cal P w K mg base k_below "below" ["bounds", "gathering", "number"] (sp_below K)) (c_nth_least : Cal P w K mg base k_nth_least "nth_least" ["bounds", "gathering", "k"] (sp_nth_least K)) (c_row_of : Cal P w K mg base k_row_of "row_of" ["bounds", "tree"] (sp_row_of K)) : Cal P w K mg base k__law_asked "_law_asked" ["_law_bounds_here", "_law_tree_here", "_law_row_here"] (sp__law_asked K) := by
  have sc := sc__law_asked
  refine d.cal fun f fd F => F.ok sc (fun vs H Q E h => ?_) (fun cdv A outer s H vs Q E hr h => ?_)
  · obtain ⟨b, r, v, low, L, ns, rfl, _⟩ := h
    rfl
  obtain ⟨b, r, v, low, L, ns, rfl, hb, hL, hr0, hl, ht, hw, q⟩ := h
  refine ⟨_, (pss_cons (ps_set (i := 3) sc.nd rfl (Or.inl rfl) (pe_callB (call_sortedT (K := K) rfl) (by rfl) z.sorted_ bt_sorted (pa_cons (pe_comp (cl := [("_law_row_here", s.heap.objs.size + 1 + 0)]) (cn := ["_law_row_here"]) (N := ["_law_row_here"]) (fr := [2]) (sc0 := defScope s__law_asked) rfl (pi_range1 rfl z.range_ (pa_cons (pe_callB call_len_seq (by rfl) z.len_ bt_len (pa_cons (pv 2) pa_nil)) pa_nil)) (fun C s₂ H₂ fp => (pe_tup (pa_cons (pe_ix (ix_listK (K := K) rfl) (pv 1) (pv 0) (fun _ _ => rfl)) (pa_cons pe_int (pa_cons (pv 0) pa_nil))))) (by with_unfolding_all rfl) ⟨by with_unfolding_all rfl, trivial⟩ rfl rfl rfl ⟨by decide +kernel, by decide +kernel, by decide +kernel, by decide +kernel, by decide +kernel, by decide +kernel, by decide +kernel⟩ rfl) pa_nil)))
 (pss_cons (ps_set (i := 4) sc.nd rfl (Or.inl rfl) (pe_tup (pa_cons (pv 1) (pa_cons pe_int (pa_cons (pe_callB call_len_seq (by rfl) z.len_ bt_len (pa_cons (pv 2) pa_nil)) pa_nil)))))
 (pss_cons (ps_if (pt_cmpR (op_neL hr.units) (pe_fn c_row_of (hr.mono (by decide)) (by rfl) (pa_cons (pv 0) (pa_cons (pv 1) pa_nil))) (pv 2) (nomark _))
  (pss_one (ps_ret pe_bl))
  pss_nil)
 (pss_cons (ps_if (pt_cmpR op_ne (pe_fn c_below (hr.mono (by decide)) (by rfl) (pa_cons (pv 0) (pa_cons (pe_lst (pa_cons (pv 4) pa_nil)) (pa_cons (pe_op op_add (pe_ix ix_tup (pv 0) pe_int (fun _ _ => rfl)) (pe_op op_shl pe_int (pe_ix ix_tup (pv 0) pe_int (fun _ _ => rfl)))) pa_nil)))) (pe_callB call_len_seq (by rfl) z.len_ bt_len (pa_cons (pv 2) pa_nil)) (nomark _))
  (pss_one (ps_ret pe_bl))
  pss_nil)
 (pss_cons (ps_for PassesOwn.never rfl (pi_range3 rfl z.range_ (pa_cons pe_int (pa_cons (pe_callB call_len_seq (by rfl) z.len_ bt_len (pa_cons (pv 2) pa_nil)) (pa_cons (pe_op op_add pe_int (pe_op op_fdivB (pe_callB call_len_seq (by rfl) z.len_ bt_len (pa_cons (pv 2) pa_nil)) pe_int)) pa_nil)))) (pg_name (i := 5) sc.nd rfl (Or.inl rfl))
  (pss_cons (ps_set (i := 6) sc.nd rfl (Or.inr rfl) (pe_ix ix_tup (pe_ix ix_list (pv 3) (pv 5) (fun _ _ => rfl)) pe_int (fun _ _ => rfl)))
 (pss_cons (ps_if (pt_cmpR (op_neAlk hr.units) (pe_fn c_nth_least (hr.mono (by decide)) (by rfl) (pa_cons (pv 0) (pa_cons (pe_lst (pa_cons (pv 4) pa_nil)) (pa_cons (pv 5) pa_nil)))) (pe_ix ix_list (pv 3) (pv 5) (fun _ _ => rfl)) (nomark _))
  (pss_one (ps_ret pe_bl))
  pss_nil)
 (pss_one (ps_if (pt_cmpR op_ne (pe_fn c_below (hr.mono (by decide)) (by rfl) (pa_cons (pv 0) (pa_cons (pe_lst (pa_cons (pv 4) pa_nil)) (pa_cons (pv 6) pa_nil)))) (pe_callB call_len_seq (by rfl) z.len_ bt_len (pa_cons (pe_compIf (cl := [("_law_worth", s.heap.objs.size + 1 + 1)]) (cn := ["_law_worth"]) (N := ["_law_worth"]) (fr := [6]) (sc0 := defScope s__law_asked) rfl (pi_list (pv 2)) (fun C s₂ H₂ fp => (pv 0)) (fun C s₂ H₂ fp => (pt_cmpR op_lt (pv 0) (pv 1) (nomark _))) (by with_unfolding_all rfl) ⟨by with_unfolding_all rfl, trivial⟩ rfl rfl rfl ⟨by decide +kernel, by decide +kernel, by decide +kernel, by decide +kernel, by decide +kernel, by decide +kernel, by decide +kernel⟩ rfl) pa_nil)) (nomark _))
  (pss_one (ps_ret pe_bl))
  pss_nil)))))
 (pss_one (ps_ret pe_bl))))))), ?_⟩
  have hlm : (ns.map V.int).length = ns.length := List.length_map _
  refine ⟨_, rfl, r, _, rfl, .inl (SqL.of hr0), _, rfl, by rw [hlm]; omega, by rw [hlm]; omega, fun D hD => ?_⟩
  have en : (((ns.map V.int).length : Nat) : Int).toNat = ns.length := by rw [hlm]; omega
  rw [en]
  refine comp_range (lo := 0) (n := ns.length) (sz (by omega)) (fun k us H3 => us.length = k ∧ Same H H3 ∧ H3 D = some (.lst us) ∧ Paired (TripAt K H3) us (thR ns 0 0 0 k))
    ⟨rfl, same_new hD _, upd_same, .nil⟩ (fun k us H3 ⟨e1, _, e3, _⟩ => ⟨e3, e1⟩) ?_ ?_
  · rintro k us H3 hk ⟨e1, s3, e3, hp3⟩
    have hrow : atI (ns.map V.int) ((0 : Int) + (k : Int)) = some (.int (ns.getD (0 + k) 0)) := by
      rw [Int.zero_add, Nat.zero_add]
      refine atI_nat ?_
      rw [List.getElem?_map, List.getElem?_eq_getElem hk]
      simp [List.getD_eq_getElem?_getD, hk]
    refine ⟨_, rfl, _, rfl, r, _, _, _, rfl, rfl, SqL.of (s3 _ _ hr0), hrow, _, rfl, szb rfl, fun p4 hp4 => ?_⟩
    have s4 : Same H3 (upd H3 p4 (.tup [.int (ns.getD (0 + k) 0), .int 0, .int ((0 : Int) + (k : Int))])) := same_new hp4 _
    have e4 := s4 _ _ e3
    have hp4' : upd H3 p4 (.tup [.int (ns.getD (0 + k) 0), .int 0, .int ((0 : Int) + (k : Int))]) p4 = some (.tup [.int (ns.getD (0 + k) 0), .int 0, .int ((0 : Int) + (k : Int))]) := upd_same
    generalize upd H3 p4 (.tup [.int (ns.getD (0 + k) 0), .int 0, .int ((0 : Int) + (k : Int))]) = H4 at *
    have tk : TKeep H4 (upd H4 D (.lst (us ++ [.ref p4]))) := TKeep.set e4
    refine ⟨e4, by rw [List.length_append, e1] <;> rfl, Same.own (s3.trans s4) hD, upd_same, ?_⟩
    rw [thR_succ]
    exact trip_app (trip_tk tk (trip_tk (.same s4) hp3)) (.cons ⟨p4, rfl, sqT_tk tk (SqT.of hp4')⟩ .nil)
  · rintro us H3 ⟨e1, s3, e3, hp3⟩
    refine ⟨D, us, _, rfl, SqL.of e3, hp3, fun l zs vs hl0 hpz hpr hord => ?_⟩
    have hpm : vs.Perm (thR ns 0 0 0 ns.length) := by
      have z := hpz.map Prod.snd
      rw [List.map_snd_zip (by rw [trip_len hpr]; exact Nat.le_refl _), List.map_snd_zip (by rw [trip_len hp3]; exact Nat.le_refl _)] at z
      exact z
    have s4 : Same H3 (upd H3 l (.lst zs)) := same_new hl0 _
    have hpr4 := trip_tk (.same s4) hpr
    have hl4 : upd H3 l (.lst zs) l = some (.lst zs) := upd_same
    generalize upd H3 l (.lst zs) = H4 at *
    have s04 := s3.trans s4
    have hzl : zs.length = ns.length := by rw [trip_len hpr, hpm.length_eq, thR_len]
    refine ⟨_, rfl, _, rfl, r, _, rfl, .inl (SqL.of (s04 _ _ hr0)), szb rfl, fun st hst => ?_⟩
    rw [hlm]
    have s5 := same_new hst (.tup [v, .int 0, .int (ns.length : Int)])
    have hst5 : upd H4 st (.tup [v, .int 0, .int (ns.length : Int)]) st = some (.tup [v, .int 0, .int (ns.length : Int)]) := upd_same
    have hpr5 := trip_tk (.same s5) hpr4
    have hl5 := s5 _ _ hl4
    have s05 := s04.trans s5
    generalize upd H4 st (.tup [v, .int 0, .int (ns.length : Int)]) = H5 at *
    refine ⟨_, rfl, _, rfl, b, v, low, L, ns, rfl, SqT.of (s05 _ _ hb), hL, ht.same s05, by omega, hw, fun H6 D6 s6 hD6 _ => ?_⟩
    refine ⟨_, rfl, D6, r, ns, ns, rfl, rfl, SqL.of hD6, SqL.of ((s05.trans s6) _ _ hr0), _, rfl, ite2 (fun c => by rw [decide_eq_true rfl] at c; cases c) fun _ => ?_⟩
    have s06 := s05.trans s6
    have gat : ∀ {H' : Hp} {g : Addr}, Same H5 H' → GatAt H' L [.ref st] [((ns.map fun n => n - low), 0, ns.length)] := fun s' => gat_one ⟨st, v, rfl, s' _ _ hst5, by rw [← grow_off]; exact ht.same (s05.trans s')⟩
    have good := row_good hw (by omega : ns.length ≤ 300)
    refine ⟨_, rfl, _, rfl, szb rfl, fun g1 hg1 => ?_⟩
    have s7 := same_new hg1 (.lst [V.ref st])
    have hg7 : upd H6 g1 (.lst [V.ref st]) g1 = some (.lst [V.ref st]) := upd_same
    generalize upd H6 g1 (.lst [V.ref st]) = H7 at *
    have s07 := s06.trans s7
    refine ⟨_, rfl, b, _, _, _, rfl, rfl, SqT.of (s07 _ _ hb), rfl, _, rfl, b, _, _, _, rfl, rfl, SqT.of (s07 _ _ hb), rfl, _, _, rfl, rfl, ⟨by omega, by omega, by decide⟩, ?_⟩
    dsimp only
    rw [shlOne]
    refine ⟨_, _, rfl, rfl, b, g1, _, low, low + 2 ^ L, L, _, rfl, SqT.of (s07 _ _ hb), hL, SqL.of hg7, gat (g := g1) (s6.trans s7), good, by show 1 ≤ 100; decide, fun H8 s8 => ?_⟩
    have s08 := s07.trans s8
    rw [wh_row, cnt_all hw]
    refine ⟨_, rfl, r, _, rfl, .inl (SqL.of (s08 _ _ hr0)), rfl, _, rfl, ite2 (fun c => by rw [hlm, decide_eq_true rfl] at c; cases c) fun _ => ?_⟩
    refine ⟨_, rfl, r, _, rfl, .inl (SqL.of (s08 _ _ hr0)), _, rfl, r, _, rfl, .inl (SqL.of (s08 _ _ hr0)), _, _, rfl, rfl, ⟨by decide, by decide⟩, _, _, rfl, rfl, 0, _, _, rfl, ⟨by decide, by decide, by rw [hlm]; omega, by rw [hlm]; omega, by rw [hlm]; omega, by rw [hlm]; omega⟩,
      for_range3 (fun i σ H2 => ∃ (v5 v6 : Option V), σ = [some (.ref b), some v, some (.ref r), some (.ref l), some (.ref st), v5, v6] ∧ Same H8 H2) ⟨_, _, rfl, Same.refl _⟩ ?_ ?_⟩
    · rintro i σ H9 hi ⟨v5, v6, rfl, s9⟩
      have s09 := s08.trans s9
      have s59 : Same H5 H9 := ((s6.trans s7).trans s8).trans s9
      obtain ⟨k, ek, hk⟩ : ∃ k : Nat, (0 : Int) + (i : Int) * (1 + ((ns.map V.int).length : Int) / 6) = (k : Int) ∧ k < ns.length := by
        have z := rngN_lt (by rw [hlm]; omega) hi
        have z0 : (0 : Int) ≤ (i : Int) * (1 + ((ns.map V.int).length : Int) / 6) := Int.mul_nonneg (by omega) (by rw [hlm]; omega)
        generalize (i : Int) * (1 + ((ns.map V.int).length : Int) / 6) = y at *
        rw [hlm] at z
        exact ⟨y.toNat, by omega, by omega⟩
      show gName 5 (.int ((0 : Int) + (i : Int) * (1 + ((ns.map V.int).length : Int) / 6))) _ _ _
      rw [ek]
      have gu : zs[k]? = some zs[k] := List.getElem?_eq_getElem (by omega)
      generalize zs[k] = z0 at gu
      obtain ⟨v0, gv, pa, rfl, hpa⟩ := trip_get hpr5 gu
      refine ⟨_, rfl, _, rfl, l, _, _, _, rfl, rfl, SqL.of (s59 _ _ hl5), atI_nat gu, pa, _, _, _, rfl, rfl, s59.seqT hpa, rfl, ?_⟩
      refine ⟨_, rfl, _, rfl, szb rfl, fun g2 hg2 => ?_⟩
      have s10 := same_new hg2 (.lst [V.ref st])
      have hg10 : upd H9 g2 (.lst [V.ref st]) g2 = some (.lst [V.ref st]) := upd_same
      generalize upd H9 g2 (.lst [V.ref st]) = H10 at *
      have s010 := s09.trans s10
      have s510 := s59.trans s10
      refine ⟨_, rfl, b, g2, _, low, L, k, _, rfl, SqT.of (s010 _ _ hb), hL, hg10, gat (g := g2) s510, good, by show 1 ≤ 100; decide, by rw [wh_row, List.length_map]; omega, by rw [wh_row, List.length_map]; exact hk, fun p j pl H11 s11 hp hth => ?_⟩
      have e2 := ask_row hw (by omega) hpm hord hk hth
      have s511 := s510.trans s11
      have ev : v0 = (low + kth L (Wh [((ns.map fun n => n - low), 0, ns.length)]) k, (j : Int), (pl : Int)) := by
        rw [gv] at e2
        exact Option.some.inj e2
      refine ⟨_, rfl, _, rfl, l, _, _, _, rfl, rfl, SqL.of (s511 _ _ hl5), atI_nat gu, 2, p, pa, rfl, rfl, tr_alk hp (by have y := s511.seqT hpa; rw [ev] at y; exact y), by decide, false, rfl, iteF ?_⟩
      refine ⟨_, rfl, _, rfl, szb rfl, fun g3 hg3 => ?_⟩
      have s12 := same_new hg3 (.lst [V.ref st])
      have hg12 : upd H11 g3 (.lst [V.ref st]) g3 = some (.lst [V.ref st]) := upd_same
      generalize upd H11 g3 (.lst [V.ref st]) = H12 at *
      have s512 := s511.trans s12
      have s012 := (s010.trans s11).trans s12
      refine ⟨_, rfl, b, g3, _, low, v0.1, L, _, rfl, SqT.of (s012 _ _ hb), hL, SqL.of hg12, gat (g := g3) s512, good, by show 1 ≤ 100; decide, fun H13 s13 => ?_⟩
      rw [wh_row, cnt_off]
      have s013 := s012.trans s13
      refine ⟨_, rfl, r, rfl, ⟨_, SqL.of (s013 _ _ hr0)⟩, fun D4 hD4 => ?_⟩
      refine compIf_ints (p := fun n => decide (n < v0.1)) (g := V.int) (SqL.of (s013 _ _ hr0)) hD4 (sz (by omega)) (fun n _ G5 Q1 _ q1 => ⟨_, rfl, _, rfl, _, _, rfl, rfl, _, rfl, q1⟩) (fun n _ _ G5 Q1 _ q1 => ⟨_, rfl, q1⟩) ?_
      have s14 := same_new hD4 (.lst ((ns.filter fun n => decide (n < v0.1)).map V.int))
      refine ⟨D4, _, rfl, .inl (SqL.of upd_same), rfl, _, rfl, ite2 (fun c => by rw [List.length_map, decide_eq_true rfl] at c; cases c) fun _ => ?_⟩
      exact ⟨_, _, rfl, (((s9.trans s10).trans s11).trans s12).trans (s13.trans s14)⟩
    · rintro σ H9 ⟨v5, v6, rfl, s9⟩
      exact q _ (s08.trans s9)
end
theorem pr_alk {K : PySem.W.Frag} {H : Hp} {a b : Addr} {x y : Int} (ha : SqT K H a [.int x, .int y]) (hb : SqT K H b [.int x, .int y]) : Alk K H 2 (.ref a) (.ref b) := by
  refine .tup ha hb rfl fun i u v g1 g2 => ?_
  match i, g1, g2 with
  | 0, g1, g2 => cases g1; cases g2; exact .flat rfl
  | 1, g1, g2 => cases g1; cases g2; exact .flat rfl
abbrev k__law_right : Nat := 47
def sp__law_right (K : PySem.W.Frag) : Sp := fun vs H Q _ => ∃ (b r : Addr) (v : V) (low : Int) (L : Nat) (ns : List Int) (sd : Str), vs = [.ref b, v, .ref r, .str sd] ∧ H b = some (.tup [.int low, .int (L : Int)]) ∧ L ≤ 40 ∧ H r = some (.lst (ns.map V.int)) ∧ ns.length ≤ 60 ∧ TreeAt H v (grow low L ns) ∧ Wths low L ns ∧
  -(10 ^ 40) < low ∧ low < 10 ^ 40 ∧ (sd = "up" ∨ sd = "down") ∧ ∀ H', Same H H' → Q (.bl true) H'
section
variable {P : Program} {w : World} {K : PySem.W.Frag} {mg : Str → Option Value} {base : Heap}
theorem ok__law_right (d : Def K mg "_law_right" s__law_right ["_law_bounds_here", "_law_tree_here", "_law_row_here", "_law_side"]) (z : Bz K mg cLeastError cBeyond cNoBounds cNoRow cNoSuch cNoText cTooMany) (c__law_asked : Cal P w K mg base k__law_asked "_law_asked" ["_law_bounds_here", "_law_tree_here", "_law_row_here"] (sp__law_asked K)) (c__law_is : Cal P w K mg base k__law_is "_law_is" ["_law_found", "_law_bounds_here", "_law_row_here"] (sp__law_is K)) (c__law_plain : Cal P w K mg base k__law_plain "_law_plain" ["_law_thing"] (sp__law_plain K)) (c__law_widened : Cal P w K mg base k__law_widened "_law_widened" ["_law_bounds_here", "_law_tree_here", "_law_side"] (sp__law_widened K)) : Cal P w K mg base k__law_right "_law_right" ["_law_bounds_here", "_law_tree_here", "_law_row_here", "_law_side"] (sp__law_right K) := by
  have sc := sc__law_right
  refine d.cal fun f fd F => F.ok sc (fun vs H Q E h => ?_) (fun cdv A outer s H vs Q E hr h => ?_)
  · obtain ⟨b, r, v, low, L, ns, sd, rfl, _⟩ := h
    rfl
  obtain ⟨b, r, v, low, L, ns, sd, rfl, hb, hL, hr0, hl, ht, hw, hlo, hhi, hsd, q⟩ := h
  refine ⟨_, (pss_cons (ps_asg (pv 0) (pg_tup rfl (pgs_cons (pg_name (i := 4) sc.nd rfl (Or.inl rfl)) (pgs_cons (pg_name (i := 5) sc.nd rfl (Or.inl rfl)) pgs_nil))))
 (pss_cons (ps_if (pt_cmpR op_eq (pv 3) pe_str (nomark _))
  (pss_one (ps_set (i := 4) sc.nd rfl (Or.inl rfl) (pe_op op_sub (pv 4) (pe_op op_shl pe_int (pv 5)))))
  pss_nil)
 (pss_cons (ps_set (i := 6) sc.nd rfl (Or.inl rfl) (pe_fn c__law_widened (hr.mono (by decide)) (by rfl) (pa_cons (pv 0) (pa_cons (pv 1) (pa_cons (pv 3) pa_nil)))))
 (pss_cons (ps_if (PW.pt (pw_or (pt_cmpR op_eq (pv 5) pe_int (nomark _)) (pw_or1 (pt_cmpR op_le (pv 4) (pe_op op_sub pe_int (pe_op op_pow pe_int pe_int)) (nomark _)))))
  (pss_one (ps_ret (pe_cmpR op_eq (pv 6) pe_str (nomark _))))
  pss_nil)
 (pss_cons (ps_if (PW.pt (pw_or (pt_not (pt_val (pe_callB call_isi (by rfl) z.isinstance_ bt_isinstance (pa_cons (pv 6) (pa_cons (pe_bltn (v := .ty "tuple") (u := .type "tuple") (by rfl) z.tuple_ bt_tuple rfl) pa_nil))))) (pw_or (pt_cmpR op_ne (pe_callB call_len_seq (by rfl) z.len_ bt_len (pa_cons (pv 6) pa_nil)) pe_int (nomark _)) (pw_or (pt_not (pt_val (pe_fn c__law_plain (hr.mono (by decide)) (by rfl) (pa_cons (pe_ix ix_tup (pv 6) pe_int (fun _ _ => rfl)) pa_nil)))) (pw_or1 (pt_cmpR (op_neAlk hr.units) (pe_ix ix_tup (pv 6) pe_int (fun _ _ => rfl)) (pe_tup (pa_cons (pv 4) (pa_cons (pe_op op_add (pv 5) pe_int) pa_nil))) (nomark _)))))))
  (pss_one (ps_ret pe_bl))
  pss_nil)
 (pss_one (ps_ret (pe_and (pe_fn c__law_is (hr.mono (by decide)) (by rfl) (pa_cons (pe_ix ix_tup (pv 6) pe_int (fun _ _ => rfl)) (pa_cons (pe_tup (pa_cons (pv 4) (pa_cons (pe_op op_add (pv 5) pe_int) pa_nil))) (pa_cons (pv 2) pa_nil)))) (pe_one (pe_fn c__law_asked (hr.mono (by decide)) (by rfl) (pa_cons (pe_ix ix_tup (pv 6) pe_int (fun _ _ => rfl)) (pa_cons (pe_ix ix_tup (pv 6) pe_int (fun _ _ => rfl)) (pa_cons (pv 2) pa_nil))))))))))))), ?_⟩
  have hpk := p2pos L
  have hq40 := p2le hL
  refine ⟨_, rfl, b, _, rfl, SqT.of hb, rfl, _, _, rfl, _, _, rfl, rfl, ?_⟩
  rcases hsd with rfl | rfl
  · have hside : True := trivial
    refine ⟨_, rfl, rfl, _, rfl, ite2 (fun c => absurd (of_decide_eq_true c) (by decide)) fun _ => ?_⟩
    refine ⟨_, rfl, _, rfl, _, rfl, b, v, low, L, ns, _, rfl, SqT.of hb, hL, .inl rfl, ht, hw, by omega, fun p wd u H1 s1 ok hp hwd hu => ?_, fun H1 s1 nok => ?_⟩
    · have ok1 : L + 1 ≤ 40 := ok.2.2
      have ok2 : -(10 ^ 40) < low := ok.1
      refine ⟨_, rfl, rfl, _, rfl, ite2 (fun c => absurd (V.int.inj (of_decide_eq_true c)) (by omega)) fun _ => ?_⟩
      refine ⟨_, rfl, _, _, rfl, rfl, ⟨by decide, by decide, by decide⟩, _, _, rfl, rfl, _, _, rfl, rfl, _, rfl, ite2 (fun c => ?_) fun _ => ?_⟩
      · have c' : low ≤ 0 - 10 ^ 40 := of_decide_eq_true c
        exfalso
        omega
      refine ⟨_, rfl, _, _, _, _, rfl, .tup hp, kit_tuple_tuple, true, rfl, iteF ?_⟩
      refine ⟨_, rfl, p, _, rfl, .inr (SqT.of hp), rfl, _, rfl, iteF ?_⟩
      refine ⟨_, rfl, p, _, _, _, rfl, rfl, SqT.of hp, rfl, 1, by decide, .ref wd, rfl, .inr ⟨wd, _, rfl, SqT.of hwd, by show 2 ≤ 1000; decide, fun x hx => ?_⟩, fun H2 s2 => ⟨_, rfl, iteF ?_⟩⟩
      · simp only [List.mem_cons, List.not_mem_nil, or_false] at hx
        rcases hx with rfl | rfl
        · exact .inr (.inl ⟨_, rfl⟩)
        · exact .inr (.inl ⟨_, rfl⟩)
      have s02 := s1.trans s2
      refine ⟨_, rfl, p, _, _, _, rfl, rfl, SqT.of (s2 _ _ hp), rfl, _, rfl, _, rfl, _, _, rfl, rfl, szb rfl, fun t3 ht3 => ?_⟩
      have s3 := same_new ht3 (.tup [V.int low, .int ((L : Int) + 1)])
      have h3 : upd H2 t3 (.tup [V.int low, .int ((L : Int) + 1)]) t3 = some (.tup [V.int low, .int ((L : Int) + 1)]) := upd_same
      generalize upd H2 t3 (.tup [V.int low, .int ((L : Int) + 1)]) = H3 at *
      have s13 := s2.trans s3
      refine ⟨2, wd, t3, rfl, rfl, pr_alk (SqT.of (s13 _ _ hwd)) (SqT.of h3), by decide, false, rfl, iteF ?_⟩
      refine ⟨_, rfl, p, _, _, _, rfl, rfl, SqT.of (s13 _ _ hp), rfl, _, rfl, _, rfl, _, _, rfl, rfl, szb rfl, fun t4 ht4 => ?_⟩
      have s4 := same_new ht4 (.tup [V.int low, .int ((L : Int) + 1)])
      have h4 : upd H3 t4 (.tup [V.int low, .int ((L : Int) + 1)]) t4 = some (.tup [V.int low, .int ((L : Int) + 1)]) := upd_same
      generalize upd H3 t4 (.tup [V.int low, .int ((L : Int) + 1)]) = H4 at *
      have s14 := s13.trans s4
      refine ⟨_, rfl, u, t4, r, low, L + 1, ns, rfl, SqT.of h4, ok1, SqL.of ((s1.trans s14) _ _ hr0), by omega, hu.same s14, fun H5 s5 => ⟨_, rfl, iteT ?_⟩⟩
      have s15 := s14.trans s5
      refine ⟨_, rfl, p, _, _, _, rfl, rfl, SqT.of (s15 _ _ hp), rfl, _, rfl, p, _, _, _, rfl, rfl, SqT.of (s15 _ _ hp), rfl, _, rfl, wd, r, u, low, L + 1, ns, rfl, s15 _ _ hwd, ok1, (s1.trans s15) _ _ hr0, hl, hu.same s15, wlow_wths (sd := "up") hw, fun H6 s6 => q _ ((s1.trans s15).trans s6)⟩
    · refine ⟨_, rfl, rfl, _, rfl, ite2 (fun c => ⟨_, rfl, rfl, q _ s1⟩) fun c => ?_⟩
      have c40 : L ≠ 40 := fun y => c (by rw [y]; rfl)
      refine ⟨_, rfl, _, _, rfl, rfl, ⟨by decide, by decide, by decide⟩, _, _, rfl, rfl, _, _, rfl, rfl, _, rfl, ite2 (fun c => ⟨_, rfl, rfl, q _ s1⟩) fun c => ?_⟩
      have c' : ¬ low ≤ 0 - 10 ^ 40 := fun y => c (decide_eq_true y)
      exfalso
      refine nok ⟨?_, ?_, by omega⟩
      · show -(10 ^ 40) < low
        omega
      · show low < 10 ^ 40
        omega
  · have hside : True := trivial
    refine ⟨_, rfl, rfl, _, rfl, iteT ?_⟩
    refine ⟨_, rfl, _, rfl, _, _, rfl, rfl, ⟨by omega, by omega, by decide⟩, ?_⟩
    dsimp only
    rw [shlOne]
    refine ⟨_, _, rfl, rfl, ?_⟩
    refine ⟨_, rfl, _, rfl, _, rfl, b, v, low, L, ns, _, rfl, SqT.of hb, hL, .inr rfl, ht, hw, by omega, fun p wd u H1 s1 ok hp hwd hu => ?_, fun H1 s1 nok => ?_⟩
    · have ok1 : L + 1 ≤ 40 := ok.2.2
      have ok2 : -(10 ^ 40) < (low - 2 ^ L) := ok.1
      refine ⟨_, rfl, rfl, _, rfl, ite2 (fun c => absurd (V.int.inj (of_decide_eq_true c)) (by omega)) fun _ => ?_⟩
      refine ⟨_, rfl, _, _, rfl, rfl, ⟨by decide, by decide, by decide⟩, _, _, rfl, rfl, _, _, rfl, rfl, _, rfl, ite2 (fun c => ?_) fun _ => ?_⟩
      · have c' : (low - 2 ^ L) ≤ 0 - 10 ^ 40 := of_decide_eq_true c
        exfalso
        omega
      refine ⟨_, rfl, _, _, _, _, rfl, .tup hp, kit_tuple_tuple, true, rfl, iteF ?_⟩
      refine ⟨_, rfl, p, _, rfl, .inr (SqT.of hp), rfl, _, rfl, iteF ?_⟩
      refine ⟨_, rfl, p, _, _, _, rfl, rfl, SqT.of hp, rfl, 1, by decide, .ref wd, rfl, .inr ⟨wd, _, rfl, SqT.of hwd, by show 2 ≤ 1000; decide, fun x hx => ?_⟩, fun H2 s2 => ⟨_, rfl, iteF ?_⟩⟩
      · simp only [List.mem_cons, List.not_mem_nil, or_false] at hx
        rcases hx with rfl | rfl
        · exact .inr (.inl ⟨_, rfl⟩)
        · exact .inr (.inl ⟨_, rfl⟩)
      have s02 := s1.trans s2
      refine ⟨_, rfl, p, _, _, _, rfl, rfl, SqT.of (s2 _ _ hp), rfl, _, rfl, _, rfl, _, _, rfl, rfl, szb rfl, fun t3 ht3 => ?_⟩
      have s3 := same_new ht3 (.tup [V.int (low - 2 ^ L), .int ((L : Int) + 1)])
      have h3 : upd H2 t3 (.tup [V.int (low - 2 ^ L), .int ((L : Int) + 1)]) t3 = some (.tup [V.int (low - 2 ^ L), .int ((L : Int) + 1)]) := upd_same
      generalize upd H2 t3 (.tup [V.int (low - 2 ^ L), .int ((L : Int) + 1)]) = H3 at *
      have s13 := s2.trans s3
      refine ⟨2, wd, t3, rfl, rfl, pr_alk (SqT.of (s13 _ _ hwd)) (SqT.of h3), by decide, false, rfl, iteF ?_⟩
      refine ⟨_, rfl, p, _, _, _, rfl, rfl, SqT.of (s13 _ _ hp), rfl, _, rfl, _, rfl, _, _, rfl, rfl, szb rfl, fun t4 ht4 => ?_⟩
      have s4 := same_new ht4 (.tup [V.int (low - 2 ^ L), .int ((L : Int) + 1)])
      have h4 : upd H3 t4 (.tup [V.int (low - 2 ^ L), .int ((L : Int) + 1)]) t4 = some (.tup [V.int (low - 2 ^ L), .int ((L : Int) + 1)]) := upd_same
      generalize upd H3 t4 (.tup [V.int (low - 2 ^ L), .int ((L : Int) + 1)]) = H4 at *
      have s14 := s13.trans s4
      refine ⟨_, rfl, u, t4, r, (low - 2 ^ L), L + 1, ns, rfl, SqT.of h4, ok1, SqL.of ((s1.trans s14) _ _ hr0), by omega, hu.same s14, fun H5 s5 => ⟨_, rfl, iteT ?_⟩⟩
      have s15 := s14.trans s5
      refine ⟨_, rfl, p, _, _, _, rfl, rfl, SqT.of (s15 _ _ hp), rfl, _, rfl, p, _, _, _, rfl, rfl, SqT.of (s15 _ _ hp), rfl, _, rfl, wd, r, u, (low - 2 ^ L), L + 1, ns, rfl, s15 _ _ hwd, ok1, (s1.trans s15) _ _ hr0, hl, hu.same s15, wlow_wths (sd := "down") hw, fun H6 s6 => q _ ((s1.trans s15).trans s6)⟩
    · refine ⟨_, rfl, rfl, _, rfl, ite2 (fun c => ⟨_, rfl, rfl, q _ s1⟩) fun c => ?_⟩
      have c40 : L ≠ 40 := fun y => c (by rw [y]; rfl)
      refine ⟨_, rfl, _, _, rfl, rfl, ⟨by decide, by decide, by decide⟩, _, _, rfl, rfl, _, _, rfl, rfl, _, rfl, ite2 (fun c => ⟨_, rfl, rfl, q _ s1⟩) fun c => ?_⟩
      have c' : ¬ (low - 2 ^ L) ≤ 0 - 10 ^ 40 := fun y => c (decide_eq_true y)
      exfalso
      refine nok ⟨?_, ?_, by omega⟩
      · show -(10 ^ 40) < (low - 2 ^ L)
        omega
      · show (low - 2 ^ L) < 10 ^ 40
        omega
end
abbrev k_law : Nat := 50
abbrev sp_law (K : PySem.W.Frag) : Sp := spLaw K
section
variable {P : Program} {w : World} {K : PySem.W.Frag} {mg : Str → Option Value} {base : Heap}
theorem ok_law (z : Bz K mg cLeastError cBeyond cNoBounds cNoRow cNoSuch cNoText cTooMany) (c__law_asked : Cal P w K mg base k__law_asked "_law_asked" ["_law_bounds_here", "_law_tree_here", "_law_row_here"] (sp__law_asked K)) (c__law_bounds : Cal P w K mg base k__law_bounds "_law_bounds" ["_law_pen_here"] (sp__law_bounds K)) (c__law_is : Cal P w K mg base k__law_is "_law_is" ["_law_found", "_law_bounds_here", "_law_row_here"] (sp__law_is K)) (c__law_pen : Cal P w K mg base k__law_pen "_law_pen" ["_law_script", "_law_k"] (sp__law_pen K)) (c__law_right : Cal P w K mg base k__law_right "_law_right" ["_law_bounds_here", "_law_tree_here", "_law_row_here", "_law_side"] (sp__law_right K)) (c__law_row : Cal P w K mg base k__law_row "_law_row" ["_law_pen_here", "_law_bounds_here", "_law_longest"] (sp__law_row K)) (c__law_take : Cal P w K mg base k__law_take "_law_take" ["_law_pen_here", "_law_size"] (sp__law_take K)) (c_flipped : Cal P w K mg base k_flipped "flipped" ["tree"] (sp_flipped K)) (c_tree_of : Cal P w K mg base k_tree_of "tree_of" ["bounds", "row"] (sp_tree_of K)) (c_turned : Cal P w K mg base k_turned "turned" ["tree"] (sp_turned K)) : ∀ (f : Addr) (fd : FuncData), Fun K "law" "law" s_law f fd → FnOk P w K mg base CX0 k_law f fd ["_law_script"] (sp_law K) := by
  have sc := sc_law
  intro f fd F
  refine F.ok sc (fun vs H Q E h => ?_) (fun cdv A outer s H vs Q E hr h => ?_)
  · obtain ⟨a, ns, rfl, _⟩ := h
    rfl
  obtain ⟨a, scs, rfl, hS, h63, hO, q⟩ := h
  refine ⟨_, (pss_cons (ps_set (i := 1) sc.nd rfl (Or.inl rfl) (pe_fn c__law_pen (hr.mono (by decide)) (by rfl) (pa_cons (pv 0) (pa_cons pe_int pa_nil))))
 (pss_cons (ps_set (i := 2) sc.nd rfl (Or.inl rfl) (pe_fn c__law_bounds (hr.mono (by decide)) (by rfl) (pa_cons (pv 1) pa_nil)))
 (pss_cons (ps_join (ps_if (pt_cmpR op_eq (pe_fn c__law_take (hr.mono (by decide)) (by rfl) (pa_cons (pv 1) (pa_cons pe_int pa_nil))) pe_int (nomark _))
  (pss_one (ps_set (i := 2) sc.nd rfl (Or.inl rfl) (pe_tup (pa_cons (pe_op op_add (pe_op op_sub pe_int (pe_op op_pow pe_int pe_int)) (pe_fn c__law_take (hr.mono (by decide)) (by rfl) (pa_cons (pv 1) (pa_cons pe_int pa_nil)))) (pa_cons (pe_ix ix_tup (pv 2) pe_int (fun _ _ => rfl)) pa_nil)))))
  pss_nil))
 (pss_cons (ps_set (i := 3) sc.nd rfl (Or.inl rfl) (pe_fn c__law_row (hr.mono (by decide)) (by rfl) (pa_cons (pe_fn c__law_pen (hr.mono (by decide)) (by rfl) (pa_cons (pv 0) (pa_cons pe_int pa_nil))) (pa_cons (pv 2) (pa_cons (pe_ix ix_list (pe_lst (pa_cons pe_int (pa_cons pe_int (pa_cons pe_int (pa_cons pe_int pa_nil))))) (pe_fn c__law_take (hr.mono (by decide)) (by rfl) (pa_cons (pv 1) (pa_cons pe_int pa_nil))) (fun _ _ => rfl)) pa_nil)))))
 (pss_cons (ps_set (i := 4) sc.nd rfl (Or.inl rfl) (pe_fn c_tree_of (hr.mono (by decide)) (by rfl) (pa_cons (pv 2) (pa_cons (pe_callTy call_list_of (by rfl) z.list_ bt_list (pa_cons (pv 3) pa_nil)) pa_nil))))
 (pss_cons (ps_if (pt_not (pt_val (pe_fn c__law_is (hr.mono (by decide)) (by rfl) (pa_cons (pe_fn c_turned (hr.mono (by decide)) (by rfl) (pa_cons (pv 4) pa_nil)) (pa_cons (pv 2) (pa_cons (pe_rev (pv 3)) pa_nil))))))
  (pss_one (ps_ret pe_bl))
  pss_nil)
 (pss_cons (ps_set (i := 5) sc.nd rfl (Or.inr rfl) (pe_op op_sub (pe_op op_add (pe_op op_mul pe_int (pe_ix ix_tup (pv 2) pe_int (fun _ _ => rfl))) (pe_op op_shl pe_int (pe_ix ix_tup (pv 2) pe_int (fun _ _ => rfl)))) pe_int))
 (pss_cons (ps_if (pt_not (pt_val (pe_fn c__law_is (hr.mono (by decide)) (by rfl) (pa_cons (pe_fn c_flipped (hr.mono (by decide)) (by rfl) (pa_cons (pv 4) pa_nil)) (pa_cons (pv 2) (pa_cons (pe_comp (cl := [("_law_both", s.heap.objs.size + 1 + 0)]) (cn := ["_law_both"]) (N := ["_law_both"]) (fr := [5]) (sc0 := defScope s_law) rfl (pi_list (pv 3)) (fun C s₂ H₂ fp => (pe_op op_sub (pv 1) (pv 0))) (by with_unfolding_all rfl) ⟨by with_unfolding_all rfl, trivial⟩ rfl rfl rfl ⟨by decide +kernel, by decide +kernel, by decide +kernel, by decide +kernel, by decide +kernel, by decide +kernel, by decide +kernel⟩ rfl) pa_nil))))))
  (pss_one (ps_ret pe_bl))
  pss_nil)
 (pss_cons (ps_for PassesOwn.never rfl (pi_tup (pe_tup (pa_cons pe_str (pa_cons pe_str (pa_cons pe_str pa_nil))))) (pg_name (i := 6) sc.nd rfl (Or.inl rfl))
  (pss_one (ps_if (pt_not (pt_val (pe_fn c__law_right (hr.mono (by decide)) (by rfl) (pa_cons (pv 2) (pa_cons (pv 4) (pa_cons (pv 3) (pa_cons (pv 6) pa_nil)))))))
  (pss_one (ps_ret pe_bl))
  pss_nil)))
 (pss_cons (ps_set (i := 7) sc.nd rfl (Or.inr rfl) (pe_op op_sub pe_int (pe_op op_mul pe_int (pe_ix ix_tup (pv 2) pe_int (fun _ _ => rfl)))))
 (pss_cons (ps_if (pt_not (pt_val (pe_fn c__law_asked (hr.mono (by decide)) (by rfl) (pa_cons (pe_tup (pa_cons (pe_op op_add (pe_ix ix_tup (pv 2) pe_int (fun _ _ => rfl)) (pv 7)) (pa_cons (pe_ix ix_tup (pv 2) pe_int (fun _ _ => rfl)) pa_nil))) (pa_cons (pv 4) (pa_cons (pe_comp (cl := [("_law_away", s.heap.objs.size + 1 + 1)]) (cn := ["_law_away"]) (N := ["_law_away"]) (fr := [7]) (sc0 := defScope s_law) rfl (pi_list (pv 3)) (fun C s₂ H₂ fp => (pe_op op_add (pv 0) (pv 1))) (by with_unfolding_all rfl) ⟨by with_unfolding_all rfl, trivial⟩ rfl rfl rfl ⟨by decide +kernel, by decide +kernel, by decide +kernel, by decide +kernel, by decide +kernel, by decide +kernel, by decide +kernel⟩ rfl) pa_nil))))))
  (pss_one (ps_ret pe_bl))
  pss_nil)
 (pss_one (ps_ret (pe_and (pe_fn c__law_is (hr.mono (by decide)) (by rfl) (pa_cons (pv 4) (pa_cons (pv 2) (pa_cons (pv 3) pa_nil)))) (pe_one (pe_fn c__law_asked (hr.mono (by decide)) (by rfl) (pa_cons (pv 2) (pa_cons (pv 4) (pa_cons (pv 3) pa_nil))))))))))))))))))), ?_⟩
  have S0 : Scr K H a (scs.map V.int) := Scr.of hS hO
  refine ⟨_, rfl, a, scs, 0, rfl, hS, h63, by decide, by decide, fun pen H1 hpen s1 P1 => ?_⟩
  have S1 := S0.same s1
  refine ⟨_, rfl, pen, rfl, P1, fun b low L H2 k2 P2 hb2 hL hlo hhi => ?_⟩
  have S2 := P1.scr k2 S1
  refine ⟨fun σ G => ∃ (b : Addr) (low : Int) (L : Nat), σ = [some (.ref a), some (.ref pen), some (.ref b), none, none, none, none, none] ∧ Scr K G a (scs.map V.int) ∧ PenM G pen ∧ G b = some (.tup [.int low, .int (L : Int)]) ∧ L ≤ 40 ∧ -(10 ^ 40) < low ∧ low < 10 ^ 40, ?_, ?_⟩
  · refine ⟨_, rfl, pen, 8, rfl, P2, by decide, by decide, fun m H3 k3 P3 _ _ => ⟨rfl, _, rfl, ?_⟩⟩
    have S3 := P2.scr k3 S2
    have hb3 := k3 _ _ (P2.ne hb2) hb2
    refine ite2 (fun _ => ?_) (fun _ => ?_)
    · refine ⟨_, _, rfl, rfl, ⟨by decide, by decide, by decide⟩, _, _, rfl, rfl, _, rfl, pen, 40, rfl, P3, by decide, by decide, fun m2 H4 k4 P4 a4 b4 => ?_⟩
      have S4 := P3.scr k4 S3
      have hb4 := k4 _ _ (P3.ne hb3) hb3
      refine ⟨_, _, rfl, rfl, _, rfl, b, _, _, _, rfl, rfl, SqT.of hb4, rfl, szb rfl, fun b2 hb2' => ?_⟩
      have s5 := same_new hb2' (.tup [V.int (1 - 10 ^ 40 + m2), .int (L : Int)])
      exact ⟨b2, 1 - 10 ^ 40 + m2, L, rfl, S4.same s5, P4.same s5, upd_same, hL, by omega, by omega⟩
    · exact ⟨b, low, L, rfl, S3, P3, hb3, hL, hlo, hhi⟩
  clear hb2 hL hlo hhi S2 P2 k2 S0 S1 P1 s1
  clear b low L H2
  rintro σ H2 ⟨b, low, L, rfl, S2, P2, hb2, hL, hlo, hhi⟩
  refine ⟨_, rfl, a, scs, 1, rfl, S2.sq, h63, by decide, by decide, fun pen2 H3 hpen2 s3 P3 => ?_⟩
  have hpp : pen2 ≠ pen := P2.fresh hpen2
  refine ⟨_, rfl, szb rfl, fun p4 hp4 => ?_⟩
  have s4 : Same H3 (upd H3 p4 (.lst [.int 8, .int 8, .int 20, .int 60])) := same_new hp4 _
  have h4 : upd H3 p4 (.lst [.int 8, .int 8, .int 20, .int 60]) p4 = some (.lst [.int 8, .int 8, .int 20, .int 60]) := upd_same
  have P4p := P3.same s4
  have P4 := (P2.same s3).same s4
  have S4 := (S2.same s3).same s4
  have hb4 := s4 _ _ (s3 _ _ hb2)
  have hp4p : p4 ≠ pen := (P2.same s3).fresh hp4
  generalize upd H3 p4 (.lst [.int 8, .int 8, .int 20, .int 60]) = H4 at *
  refine ⟨_, rfl, pen, 4, rfl, P4, by decide, by decide, fun v5 H5 k5 P5 a5 b5 => ?_⟩
  obtain ⟨g, hg, hv5⟩ := atI_ints (l := [8, 8, 20, 60]) a5 b5
  have hg2 : 0 ≤ g ∧ g ≤ 60 := by
    simp only [List.mem_cons, List.not_mem_nil, or_false] at hg
    omega
  refine ⟨p4, _, _, _, rfl, rfl, SqL.of (k5 _ _ hp4p h4), hv5, ?_⟩
  have hb5 := k5 _ _ (P4.ne hb4) hb4
  have P5p := P4p.keep (Ne.symm hpp) k5
  refine ⟨pen2, b, low, g, L, rfl, P5p, hb5, hL, hg2.1, by omega, fun r ns H6 k6 P6p hr6 hr5 hlen hw => ?_⟩
  have hb6 := k6 _ _ (P5p.ne hb5) hb5
  have hl : ns.length ≤ 60 := by omega
  clear S2 S4 P2 P3 P4 P4p P5 P5p P6p k6 k5 s3 s4 hb2 hb4 hb5 hr5
  refine ⟨_, rfl, _, rfl, r, _, rfl, .inl (SqL.of hr6), fun h7 hh7 => ?_⟩
  have s7 : Same H6 (upd H6 h7 (.lst (ns.map V.int))) := same_new hh7 _
  refine ⟨b, h7, low, L, ns, rfl, SqT.of (s7 _ _ hb6), hL, SqL.of upd_same, by omega, hw, fun H8 v s8 hv => ?_⟩
  have s68 : Same H6 H8 := s7.trans s8
  have hb8 := s68 _ _ hb6
  have hr8 := s68 _ _ hr6
  clear s7 s8 s68 hb6 hr6
  refine ⟨_, rfl, L, hL, v, low, ns, rfl, hv, by omega, fun u H9 s9 hu => ?_⟩
  refine ⟨_, rfl, _, rfl, r, _, rfl, SqL.of (s9 _ _ hr8), fun r9 hr9 => ?_⟩
  have e9 : (ns.map V.int).reverse = ns.reverse.map V.int := List.map_reverse.symm
  rw [e9]
  have s10 := same_new hr9 (.lst (ns.reverse.map V.int))
  have h10 : upd H9 r9 (.lst (ns.reverse.map V.int)) r9 = some (.lst (ns.reverse.map V.int)) := upd_same
  generalize upd H9 r9 (.lst (ns.reverse.map V.int)) = H10 at *
  have s810 := s9.trans s10
  refine ⟨u, b, r9, low, L, ns.reverse, rfl, SqT.of (s810 _ _ hb8), hL, SqL.of h10, by rw [List.length_reverse]; omega, hu.same s10, fun H11 s11 => ⟨_, rfl, iteF ?_⟩⟩
  have s811 := s810.trans s11
  have hb11 := s811 _ _ hb8
  have hr11 := s811 _ _ hr8
  have hv11 := hv.same s811
  clear s9 s10 s11 s810 s811 h10 hu hb8 hr8 hv hr9
  refine ⟨_, rfl, b, _, _, _, rfl, rfl, SqT.of hb11, rfl, _, _, rfl, rfl, .inl ⟨by decide, by decide⟩, _, rfl, b, _, _, _, rfl, rfl, SqT.of hb11, rfl, _, _, rfl, rfl, ⟨by omega, by omega, by decide⟩, ?_⟩
  dsimp only
  rw [shlOne]
  refine ⟨_, _, rfl, rfl, _, _, rfl, rfl, ?_⟩
  refine ⟨_, rfl, L, hL, v, low, ns, rfl, hv11, by omega, fun u2 H12 s12 hu2 => ?_⟩
  refine ⟨_, rfl, _, rfl, r, rfl, ⟨_, SqL.of (s12 _ _ hr11)⟩, fun D3 hD3 => ?_⟩
  refine comp_ints (g := fun n => V.int (flp low L n)) (SqL.of (s12 _ _ hr11)) hD3 (sz (by omega)) (fun n _ G5 Q1 _ q1 => ⟨_, rfl, _, rfl, _, _, rfl, rfl, q1⟩) ?_
  have ef : ∀ g : Int → Int, (ns.map fun n => V.int (g n)) = (ns.map g).map V.int := fun g => by rw [List.map_map]; rfl
  rw [ef (flp low L)]
  have s13 := same_new hD3 (.lst ((ns.map (flp low L)).map V.int))
  have h13 : upd H12 D3 (.lst ((ns.map (flp low L)).map V.int)) D3 = some (.lst ((ns.map (flp low L)).map V.int)) := upd_same
  generalize upd H12 D3 (.lst ((ns.map (flp low L)).map V.int)) = H13 at *
  have s113 := s12.trans s13
  refine ⟨u2, b, D3, low, L, ns.map (flp low L), rfl, SqT.of (s113 _ _ hb11), hL, SqL.of h13, by rw [List.length_map]; omega, hu2.same s13, fun H14 s14 => ⟨_, rfl, iteF ?_⟩⟩
  have s114 := s113.trans s14
  have hb14 := s114 _ _ hb11
  have hr14 := s114 _ _ hr11
  have hv14 := hv11.same s114
  clear s12 s13 s14 s113 s114 h13 hu2 hb11 hr11 hv11 hD3
  refine ⟨szb rfl, fun tp htp => ?_⟩
  have s15 := same_new htp (.tup [V.str "up", .str "down", .str "up"])
  have e15 : upd H14 tp (.tup [V.str "up", .str "down", .str "up"]) tp = some (.tup [V.str "up", .str "down", .str "up"]) := upd_same
  have hb15 := s15 _ _ hb14
  have hr15 := s15 _ _ hr14
  have hv15 := hv14.same s15
  generalize upd H14 tp (.tup [V.str "up", .str "down", .str "up"]) = H15 at *
  clear hb14 hr14 hv14 s15 htp
  refine ⟨tp, rfl, ⟨_, SqT.of e15⟩, for_tup (K := K) (a := tp) (xs := [V.str "up", .str "down", .str "up"]) (fun i σ G => ∃ (w6 : Option V), σ = [some (.ref a), some (.ref pen), some (.ref b), some (.ref r), some v, some (.int (2 * low + 2 ^ L - 1)), w6, none] ∧ Same H15 G)
    ⟨_, rfl, Same.refl _⟩ (fun i σ G _ ⟨_, _, sG⟩ => SqT.of (sG _ _ e15)) ?_ ?_⟩
  · rintro i x σ G hi ⟨w6, rfl, sG⟩
    obtain ⟨sd, rfl, hsd⟩ : ∃ sd : Str, x = .str sd ∧ (sd = "up" ∨ sd = "down") := by
      have hm := List.mem_of_getElem? hi
      simp only [List.mem_cons, List.not_mem_nil, or_false] at hm
      rcases hm with z | z | z
      · exact ⟨_, z, .inl rfl⟩
      · exact ⟨_, z, .inr rfl⟩
      · exact ⟨_, z, .inl rfl⟩
    refine ⟨_, rfl, _, rfl, _, rfl, _, rfl, b, r, v, low, L, ns, sd, rfl, sG _ _ hb15, hL, sG _ _ hr15, hl, hv15.same sG, hw, hlo, hhi, hsd, fun G2 s2 => ⟨_, rfl, iteF ?_⟩⟩
    exact ⟨_, rfl, sG.trans s2⟩
  · rintro σ H16 ⟨w6, rfl, s16⟩
    have hb16 := s16 _ _ hb15
    have hr16 := s16 _ _ hr15
    have hv16 := hv15.same s16
    refine ⟨_, rfl, b, _, _, _, rfl, rfl, SqT.of hb16, rfl, _, _, rfl, rfl, .inl ⟨by decide, by decide⟩, _, _, rfl, rfl, ?_⟩
    refine ⟨_, rfl, b, _, _, _, rfl, rfl, SqT.of hb16, rfl, _, rfl, _, _, rfl, rfl, _, rfl, b, _, _, _, rfl, rfl, SqT.of hb16, rfl, szb rfl, fun b17 h17 => ?_⟩
    have s17 := same_new h17 (.tup [V.int (low + (0 - 2 * low)), .int (L : Int)])
    have e17 : upd H16 b17 (.tup [V.int (low + (0 - 2 * low)), .int (L : Int)]) b17 = some (.tup [V.int (low + (0 - 2 * low)), .int (L : Int)]) := upd_same
    generalize upd H16 b17 (.tup [V.int (low + (0 - 2 * low)), .int (L : Int)]) = H17 at *
    refine ⟨_, rfl, _, rfl, r, rfl, ⟨_, SqL.of (s17 _ _ hr16)⟩, fun D4 hD4 => ?_⟩
    refine comp_ints (g := fun n => V.int (n + (0 - 2 * low))) (SqL.of (s17 _ _ hr16)) hD4 (sz (by omega)) (fun n _ G5 Q1 _ q1 => ⟨_, rfl, _, rfl, _, _, rfl, rfl, q1⟩) ?_
    rw [ef fun n => n + (0 - 2 * low)]
    have s18 := same_new hD4 (.lst ((ns.map fun n => n + (0 - 2 * low)).map V.int))
    have e18 : upd H17 D4 (.lst ((ns.map fun n => n + (0 - 2 * low)).map V.int)) D4 = some (.lst ((ns.map fun n => n + (0 - 2 * low)).map V.int)) := upd_same
    generalize upd H17 D4 (.lst ((ns.map fun n => n + (0 - 2 * low)).map V.int)) = H18 at *
    have s168 := s17.trans s18
    refine ⟨b17, D4, v, low + (0 - 2 * low), L, ns.map fun n => n + (0 - 2 * low), rfl, s18 _ _ e17, hL, e18, by rw [List.length_map]; exact hl, by rw [grow_shift]; exact hv16.same s168, ?_, fun H19 s19 => ⟨_, rfl, iteF ?_⟩⟩
    · intro x hx
      obtain ⟨n, hn, rfl⟩ := List.mem_map.mp hx
      have := hw n hn
      omega
    have s169 := s168.trans s19
    refine ⟨_, rfl, _, rfl, _, rfl, v, b, r, low, L, ns, rfl, SqT.of (s169 _ _ hb16), hL, SqL.of (s169 _ _ hr16), by omega, hv16.same s169, fun H20 s20 => ⟨_, rfl, iteT ?_⟩⟩
    have s160 := s169.trans s20
    refine ⟨_, rfl, _, rfl, _, rfl, b, r, v, low, L, ns, rfl, s160 _ _ hb16, hL, s160 _ _ hr16, hl, hv16.same s160, hw, fun H21 s21 => ?_⟩
    exact q _
end
theorem all_ok {P : Program} {w : World} {K : PySem.W.Frag} {mg : Str → Option Value} {base : Heap} (z : Bz K mg cLeastError cBeyond cNoBounds cNoRow cNoSuch cNoText cTooMany)
    (d_is_whole : Def K mg "is_whole" s_is_whole ["thing"])
    (d_is_low : Def K mg "is_low" s_is_low ["thing"])
    (d_is_levels : Def K mg "is_levels" s_is_levels ["thing"])
    (d_is_bounds : Def K mg "is_bounds" s_is_bounds ["thing"])
    (d_many_worths : Def K mg "many_worths" s_many_worths ["levels"])
    (d_top_of : Def K mg "top_of" s_top_of ["bounds"])
    (d_where : Def K mg "where" s_where ["bounds", "number"])
    (d_span_of : Def K mg "span_of" s_span_of ["bounds", "way"])
    (d_way_of : Def K mg "way_of" s_way_of ["bounds", "number"])
    (d_ahead : Def K mg "ahead" s_ahead ["marks", "mark", "place"])
    (d_place_of : Def K mg "place_of" s_place_of ["marks", "mark", "number"])
    (d_grown : Def K mg "grown" s_grown ["least", "many", "row"])
    (d_tree_of : Def K mg "tree_of" s_tree_of ["bounds", "row"])
    (d_half_of : Def K mg "half_of" s_half_of ["tree", "mark"])
    (d_size_of : Def K mg "size_of" s_size_of ["tree"])
    (d_merged : Def K mg "merged" s_merged ["marks", "lower", "upper"])
    (d_row_from : Def K mg "row_from" s_row_from ["least", "many", "tree"])
    (d_row_of : Def K mg "row_of" s_row_of ["bounds", "tree"])
    (d_many_in : Def K mg "many_in" s_many_in ["gathering"])
    (d_led_stretch : Def K mg "led_stretch" s_led_stretch ["stretch", "way"])
    (d_led : Def K mg "led" s_led ["gathering", "way"])
    (d_lifted : Def K mg "lifted" s_lifted ["tree", "way", "place"])
    (d_turned : Def K mg "turned" s_turned ["tree"])
    (d_flipped : Def K mg "flipped" s_flipped ["tree"])
    (d_wider : Def K mg "wider" s_wider ["bounds", "tree", "side"])
    (d_way_of_nth : Def K mg "way_of_nth" s_way_of_nth ["levels", "gathering", "k"])
    (d_nth_alike : Def K mg "nth_alike" s_nth_alike ["gathering", "way", "number"])
    (d_many_lesser : Def K mg "many_lesser" s_many_lesser ["gathering", "way"])
    (d_nth_least : Def K mg "nth_least" s_nth_least ["bounds", "gathering", "k"])
    (d_below : Def K mg "below" s_below ["bounds", "gathering", "number"])
    (d__law_pen : Def K mg "_law_pen" s__law_pen ["_law_script", "_law_k"])
    (d__law_mixed : Def K mg "_law_mixed" s__law_mixed ["_law_pen_here"])
    (d__law_take : Def K mg "_law_take" s__law_take ["_law_pen_here", "_law_size"])
    (d__law_bounds : Def K mg "_law_bounds" s__law_bounds ["_law_pen_here"])
    (d__law_row : Def K mg "_law_row" s__law_row ["_law_pen_here", "_law_bounds_here", "_law_longest"])
    (d__law_tree : Def K mg "_law_tree" s__law_tree ["_law_low", "_law_levels", "_law_row_here"])
    (d__law_plain : Def K mg "_law_plain" s__law_plain ["_law_thing"])
    (d__law_is : Def K mg "_law_is" s__law_is ["_law_found", "_law_bounds_here", "_law_row_here"])
    (d__law_widened : Def K mg "_law_widened" s__law_widened ["_law_bounds_here", "_law_tree_here", "_law_side"])
    (d__law_asked : Def K mg "_law_asked" s__law_asked ["_law_bounds_here", "_law_tree_here", "_law_row_here"])
    (d__law_right : Def K mg "_law_right" s__law_right ["_law_bounds_here", "_law_tree_here", "_law_row_here", "_law_side"])
    : ∀ (f : Addr) (fd : FuncData), Fun K "law" "law" s_law f fd → FnOk P w K mg base CX0 k_law f fd ["_law_script"] (sp_law K) := by
  have c_is_whole : Cal P w K mg base k_is_whole "is_whole" ["thing"] (sp_is_whole K) := ok_is_whole d_is_whole z
  have c_is_low : Cal P w K mg base k_is_low "is_low" ["thing"] (sp_is_low K) := ok_is_low d_is_low z c_is_whole
  have c_is_levels : Cal P w K mg base k_is_levels "is_levels" ["thing"] (sp_is_levels K) := ok_is_levels d_is_levels z c_is_whole
  have c_is_bounds : Cal P w K mg base k_is_bounds "is_bounds" ["thing"] (sp_is_bounds K) := ok_is_bounds d_is_bounds z c_is_levels c_is_low
  have c_many_worths : Cal P w K mg base k_many_worths "many_worths" ["levels"] (sp_many_worths K) := ok_many_worths d_many_worths z
  have c_top_of : Cal P w K mg base k_top_of "top_of" ["bounds"] (sp_top_of K) := ok_top_of d_top_of z c_many_worths
  have c_where : Cal P w K mg base k_where "where" ["bounds", "number"] (sp_where K) := ok_where d_where z c_top_of
  have c_span_of : Cal P w K mg base k_span_of "span_of" ["bounds", "way"] (sp_span_of K) := ok_span_of d_span_of z c_many_worths
  have c_way_of : Cal P w K mg base k_way_of "way_of" ["bounds", "number"] (sp_way_of K) := ok_way_of d_way_of z c_many_worths c_where
  have c_ahead : Cal P w K mg base k_ahead "ahead" ["marks", "mark", "place"] (sp_ahead K) := ok_ahead d_ahead z
  have c_place_of : Cal P w K mg base k_place_of "place_of" ["marks", "mark", "number"] (sp_place_of K) := ok_place_of d_place_of z
  have c_grown : Cal P w K mg base k_grown "grown" ["least", "many", "row"] (sp_grown K) := ok_grown d_grown z
  have c_tree_of : Cal P w K mg base k_tree_of "tree_of" ["bounds", "row"] (sp_tree_of K) := ok_tree_of d_tree_of z c_grown c_many_worths c_where
  have c_half_of : Cal P w K mg base k_half_of "half_of" ["tree", "mark"] (sp_half_of K) := ok_half_of d_half_of z
  have c_size_of : Cal P w K mg base k_size_of "size_of" ["tree"] (sp_size_of K) := ok_size_of d_size_of z
  have c_merged : Cal P w K mg base k_merged "merged" ["marks", "lower", "upper"] (sp_merged K) := ok_merged d_merged z
  have c_row_from : Cal P w K mg base k_row_from "row_from" ["least", "many", "tree"] (sp_row_from K) := ok_row_from d_row_from z c_merged
  have c_row_of : Cal P w K mg base k_row_of "row_of" ["bounds", "tree"] (sp_row_of K) := ok_row_of d_row_of z c_many_worths c_row_from
  have c_many_in : Cal P w K mg base k_many_in "many_in" ["gathering"] (sp_many_in K) := ok_many_in d_many_in z
  have c_led_stretch : Cal P w K mg base k_led_stretch "led_stretch" ["stretch", "way"] (sp_led_stretch K) := ok_led_stretch d_led_stretch z c_ahead c_half_of
  have c_led : Cal P w K mg base k_led "led" ["gathering", "way"] (sp_led K) := ok_led d_led z c_led_stretch
  have c_lifted : Cal P w K mg base k_lifted "lifted" ["tree", "way", "place"] (sp_lifted K) := ok_lifted d_lifted z c_half_of c_place_of c_size_of
  have c_turned : Cal P w K mg base k_turned "turned" ["tree"] (sp_turned K) := ok_turned d_turned z
  have c_flipped : Cal P w K mg base k_flipped "flipped" ["tree"] (sp_flipped K) := ok_flipped d_flipped z
  have c1_wider : CalX P w K mg base k_wider "wider" ["bounds", "tree", "side"] (sp1_wider K cNoBounds) := okx_wider d_wider z c_is_bounds c_many_worths c_size_of
  have c_wider : Cal P w K mg base k_wider "wider" ["bounds", "tree", "side"] (sp_wider K) := ok_wider c1_wider
  have c_way_of_nth : Cal P w K mg base k_way_of_nth "way_of_nth" ["levels", "gathering", "k"] (sp_way_of_nth K) := ok_way_of_nth d_way_of_nth z c_led c_many_in
  have c_nth_alike : Cal P w K mg base k_nth_alike "nth_alike" ["gathering", "way", "number"] (sp_nth_alike K) := ok_nth_alike d_nth_alike z c_led c_lifted c_many_in
  have c_many_lesser : Cal P w K mg base k_many_lesser "many_lesser" ["gathering", "way"] (sp_many_lesser K) := ok_many_lesser d_many_lesser z c_led c_many_in
  have c_nth_least : Cal P w K mg base k_nth_least "nth_least" ["bounds", "gathering", "k"] (sp_nth_least K) := ok_nth_least d_nth_least z c_many_in c_many_lesser c_nth_alike c_span_of c_way_of_nth
  have c_below : Cal P w K mg base k_below "below" ["bounds", "gathering", "number"] (sp_below K) := ok_below d_below z c_many_in c_many_lesser c_way_of c_where
  have c__law_pen : Cal P w K mg base k__law_pen "_law_pen" ["_law_script", "_law_k"] (sp__law_pen K) := ok__law_pen d__law_pen z
  have c__law_mixed : Cal P w K mg base k__law_mixed "_law_mixed" ["_law_pen_here"] (sp__law_mixed K) := ok__law_mixed d__law_mixed z
  have c__law_take : Cal P w K mg base k__law_take "_law_take" ["_law_pen_here", "_law_size"] (sp__law_take K) := ok__law_take d__law_take z c__law_mixed
  have c__law_bounds : Cal P w K mg base k__law_bounds "_law_bounds" ["_law_pen_here"] (sp__law_bounds K) := ok__law_bounds d__law_bounds z c__law_take
  have c__law_row : Cal P w K mg base k__law_row "_law_row" ["_law_pen_here", "_law_bounds_here", "_law_longest"] (sp__law_row K) := ok__law_row d__law_row z c__law_take
  have c__law_tree : Cal P w K mg base k__law_tree "_law_tree" ["_law_low", "_law_levels", "_law_row_here"] (sp__law_tree K) := ok__law_tree d__law_tree z
  have c__law_plain : Cal P w K mg base k__law_plain "_law_plain" ["_law_thing"] (sp__law_plain K) := ok__law_plain d__law_plain z
  have c__law_is : Cal P w K mg base k__law_is "_law_is" ["_law_found", "_law_bounds_here", "_law_row_here"] (sp__law_is K) := ok__law_is d__law_is z c__law_plain c__law_tree
  have c__law_widened : Cal P w K mg base k__law_widened "_law_widened" ["_law_bounds_here", "_law_tree_here", "_law_side"] (sp__law_widened K) := ok__law_widened d__law_widened z c1_wider
  have c__law_asked : Cal P w K mg base k__law_asked "_law_asked" ["_law_bounds_here", "_law_tree_here", "_law_row_here"] (sp__law_asked K) := ok__law_asked d__law_asked z c_below c_nth_least c_row_of
  have c__law_right : Cal P w K mg base k__law_right "_law_right" ["_law_bounds_here", "_law_tree_here", "_law_row_here", "_law_side"] (sp__law_right K) := ok__law_right d__law_right z c__law_asked c__law_is c__law_plain c__law_widened
  exact ok_law z c__law_asked c__law_bounds c__law_is c__law_pen c__law_right c__law_row c__law_take c_flipped c_tree_of c_turned
end My
open PySem PySem.W PyProof.Rows
set_option maxRecDepth 100000 in
set_option maxHeartbeats 0 in
theorem PySem.Challenge.cw_manyleast_k47_rows_turned_and_widened_holds : PySem.Challenge.rw_manyleast_k47_rows_turned_and_widened.Holds := by
  refine MyQ.hd ?_
  k_fill
  refine L2.walkL (k := My.k_law) (l := PySem.Challenge.rw_manyleast_k47_rows_turned_and_widened) ⟨rfl, by decide, by decide⟩ rfl rfl (fun w h Y => PySem.W.kIn_of Y) ?F
  case F =>
    intro w mg fa h KX G hmg
    have d_is_whole : L2.Def (L2.KOf KX) mg "is_whole" My.s_is_whole ["thing"] := by
      dsimp only [L2.KOf]
      refine' L2.def_mk KX G ?a ?l ?c ?k ?b
      (case a => k_is); (case l => k_is); (case c => k_is); (case k => k_is)
      (case b => exact fun _ _ _ _ _ _ us hl => match us, hl with | [_], _ => rfl)
    have d_is_low : L2.Def (L2.KOf KX) mg "is_low" My.s_is_low ["thing"] := by
      dsimp only [L2.KOf]
      refine' L2.def_mk KX G ?a ?l ?c ?k ?b
      (case a => k_is); (case l => k_is); (case c => k_is); (case k => k_is)
      (case b => exact fun _ _ _ _ _ _ us hl => match us, hl with | [_], _ => rfl)
    have d_is_levels : L2.Def (L2.KOf KX) mg "is_levels" My.s_is_levels ["thing"] := by
      dsimp only [L2.KOf]
      refine' L2.def_mk KX G ?a ?l ?c ?k ?b
      (case a => k_is); (case l => k_is); (case c => k_is); (case k => k_is)
      (case b => exact fun _ _ _ _ _ _ us hl => match us, hl with | [_], _ => rfl)
    have d_is_bounds : L2.Def (L2.KOf KX) mg "is_bounds" My.s_is_bounds ["thing"] := by
      dsimp only [L2.KOf]
      refine' L2.def_mk KX G ?a ?l ?c ?k ?b
      (case a => k_is); (case l => k_is); (case c => k_is); (case k => k_is)
      (case b => exact fun _ _ _ _ _ _ us hl => match us, hl with | [_], _ => rfl)
    have d_many_worths : L2.Def (L2.KOf KX) mg "many_worths" My.s_many_worths ["levels"] := by
      dsimp only [L2.KOf]
      refine' L2.def_mk KX G ?a ?l ?c ?k ?b
      (case a => k_is); (case l => k_is); (case c => k_is); (case k => k_is)
      (case b => exact fun _ _ _ _ _ _ us hl => match us, hl with | [_], _ => rfl)
    have d_top_of : L2.Def (L2.KOf KX) mg "top_of" My.s_top_of ["bounds"] := by
      dsimp only [L2.KOf]
      refine' L2.def_mk KX G ?a ?l ?c ?k ?b
      (case a => k_is); (case l => k_is); (case c => k_is); (case k => k_is)
      (case b => exact fun _ _ _ _ _ _ us hl => match us, hl with | [_], _ => rfl)
    have d_where : L2.Def (L2.KOf KX) mg "where" My.s_where ["bounds", "number"] := by
      dsimp only [L2.KOf]
      refine' L2.def_mk KX G ?a ?l ?c ?k ?b
      (case a => k_is); (case l => k_is); (case c => k_is); (case k => k_is)
      (case b => exact fun _ _ _ _ _ _ us hl => match us, hl with | [_, _], _ => rfl)
    have d_span_of : L2.Def (L2.KOf KX) mg "span_of" My.s_span_of ["bounds", "way"] := by
      dsimp only [L2.KOf]
      refine' L2.def_mk KX G ?a ?l ?c ?k ?b
      (case a => k_is); (case l => k_is); (case c => k_is); (case k => k_is)
      (case b => exact fun _ _ _ _ _ _ us hl => match us, hl with | [_, _], _ => rfl)
    have d_way_of : L2.Def (L2.KOf KX) mg "way_of" My.s_way_of ["bounds", "number"] := by
      dsimp only [L2.KOf]
      refine' L2.def_mk KX G ?a ?l ?c ?k ?b
      (case a => k_is); (case l => k_is); (case c => k_is); (case k => k_is)
      (case b => exact fun _ _ _ _ _ _ us hl => match us, hl with | [_, _], _ => rfl)
    have d_ahead : L2.Def (L2.KOf KX) mg "ahead" My.s_ahead ["marks", "mark", "place"] := by
      dsimp only [L2.KOf]
      refine' L2.def_mk KX G ?a ?l ?c ?k ?b
      (case a => k_is); (case l => k_is); (case c => k_is); (case k => k_is)
      (case b => exact fun _ _ _ _ _ _ us hl => match us, hl with | [_, _, _], _ => rfl)
    have d_place_of : L2.Def (L2.KOf KX) mg "place_of" My.s_place_of ["marks", "mark", "number"] := by
      dsimp only [L2.KOf]
      refine' L2.def_mk KX G ?a ?l ?c ?k ?b
      (case a => k_is); (case l => k_is); (case c => k_is); (case k => k_is)
      (case b => exact fun _ _ _ _ _ _ us hl => match us, hl with | [_, _, _], _ => rfl)
    have d_grown : L2.Def (L2.KOf KX) mg "grown" My.s_grown ["least", "many", "row"] := by
      dsimp only [L2.KOf]
      refine' L2.def_mk KX G ?a ?l ?c ?k ?b
      (case a => k_is); (case l => k_is); (case c => k_is); (case k => k_is)
      (case b => exact fun _ _ _ _ _ _ us hl => match us, hl with | [_, _, _], _ => rfl)
    have d_tree_of : L2.Def (L2.KOf KX) mg "tree_of" My.s_tree_of ["bounds", "row"] := by
      dsimp only [L2.KOf]
      refine' L2.def_mk KX G ?a ?l ?c ?k ?b
      (case a => k_is); (case l => k_is); (case c => k_is); (case k => k_is)
      (case b => exact fun _ _ _ _ _ _ us hl => match us, hl with | [_, _], _ => rfl)
    have d_half_of : L2.Def (L2.KOf KX) mg "half_of" My.s_half_of ["tree", "mark"] := by
      dsimp only [L2.KOf]
      refine' L2.def_mk KX G ?a ?l ?c ?k ?b
      (case a => k_is); (case l => k_is); (case c => k_is); (case k => k_is)
      (case b => exact fun _ _ _ _ _ _ us hl => match us, hl with | [_, _], _ => rfl)
    have d_size_of : L2.Def (L2.KOf KX) mg "size_of" My.s_size_of ["tree"] := by
      dsimp only [L2.KOf]
      refine' L2.def_mk KX G ?a ?l ?c ?k ?b
      (case a => k_is); (case l => k_is); (case c => k_is); (case k => k_is)
      (case b => exact fun _ _ _ _ _ _ us hl => match us, hl with | [_], _ => rfl)
    have d_merged : L2.Def (L2.KOf KX) mg "merged" My.s_merged ["marks", "lower", "upper"] := by
      dsimp only [L2.KOf]
      refine' L2.def_mk KX G ?a ?l ?c ?k ?b
      (case a => k_is); (case l => k_is); (case c => k_is); (case k => k_is)
      (case b => exact fun _ _ _ _ _ _ us hl => match us, hl with | [_, _, _], _ => rfl)
    have d_row_from : L2.Def (L2.KOf KX) mg "row_from" My.s_row_from ["least", "many", "tree"] := by
      dsimp only [L2.KOf]
      refine' L2.def_mk KX G ?a ?l ?c ?k ?b
      (case a => k_is); (case l => k_is); (case c => k_is); (case k => k_is)
      (case b => exact fun _ _ _ _ _ _ us hl => match us, hl with | [_, _, _], _ => rfl)
    have d_row_of : L2.Def (L2.KOf KX) mg "row_of" My.s_row_of ["bounds", "tree"] := by
      dsimp only [L2.KOf]
      refine' L2.def_mk KX G ?a ?l ?c ?k ?b
      (case a => k_is); (case l => k_is); (case c => k_is); (case k => k_is)
      (case b => exact fun _ _ _ _ _ _ us hl => match us, hl with | [_, _], _ => rfl)
    have d_many_in : L2.Def (L2.KOf KX) mg "many_in" My.s_many_in ["gathering"] := by
      dsimp only [L2.KOf]
      refine' L2.def_mk KX G ?a ?l ?c ?k ?b
      (case a => k_is); (case l => k_is); (case c => k_is); (case k => k_is)
      (case b => exact fun _ _ _ _ _ _ us hl => match us, hl with | [_], _ => rfl)
    have d_led_stretch : L2.Def (L2.KOf KX) mg "led_stretch" My.s_led_stretch ["stretch", "way"] := by
      dsimp only [L2.KOf]
      refine' L2.def_mk KX G ?a ?l ?c ?k ?b
      (case a => k_is); (case l => k_is); (case c => k_is); (case k => k_is)
      (case b => exact fun _ _ _ _ _ _ us hl => match us, hl with | [_, _], _ => rfl)
    have d_led : L2.Def (L2.KOf KX) mg "led" My.s_led ["gathering", "way"] := by
      dsimp only [L2.KOf]
      refine' L2.def_mk KX G ?a ?l ?c ?k ?b
      (case a => k_is); (case l => k_is); (case c => k_is); (case k => k_is)
      (case b => exact fun _ _ _ _ _ _ us hl => match us, hl with | [_, _], _ => rfl)
    have d_lifted : L2.Def (L2.KOf KX) mg "lifted" My.s_lifted ["tree", "way", "place"] := by
      dsimp only [L2.KOf]
      refine' L2.def_mk KX G ?a ?l ?c ?k ?b
      (case a => k_is); (case l => k_is); (case c => k_is); (case k => k_is)
      (case b => exact fun _ _ _ _ _ _ us hl => match us, hl with | [_, _, _], _ => rfl)
    have d_turned : L2.Def (L2.KOf KX) mg "turned" My.s_turned ["tree"] := by
      dsimp only [L2.KOf]
      refine' L2.def_mk KX G ?a ?l ?c ?k ?b
      (case a => k_is); (case l => k_is); (case c => k_is); (case k => k_is)
      (case b => exact fun _ _ _ _ _ _ us hl => match us, hl with | [_], _ => rfl)
    have d_flipped : L2.Def (L2.KOf KX) mg "flipped" My.s_flipped ["tree"] := by
      dsimp only [L2.KOf]
      refine' L2.def_mk KX G ?a ?l ?c ?k ?b
      (case a => k_is); (case l => k_is); (case c => k_is); (case k => k_is)
      (case b => exact fun _ _ _ _ _ _ us hl => match us, hl with | [_], _ => rfl)
    have d_wider : L2.Def (L2.KOf KX) mg "wider" My.s_wider ["bounds", "tree", "side"] := by
      dsimp only [L2.KOf]
      refine' L2.def_mk KX G ?a ?l ?c ?k ?b
      (case a => k_is); (case l => k_is); (case c => k_is); (case k => k_is)
      (case b => exact fun _ _ _ _ _ _ us hl => match us, hl with | [_, _, _], _ => rfl)
    have d_way_of_nth : L2.Def (L2.KOf KX) mg "way_of_nth" My.s_way_of_nth ["levels", "gathering", "k"] := by
      dsimp only [L2.KOf]
      refine' L2.def_mk KX G ?a ?l ?c ?k ?b
      (case a => k_is); (case l => k_is); (case c => k_is); (case k => k_is)
      (case b => exact fun _ _ _ _ _ _ us hl => match us, hl with | [_, _, _], _ => rfl)
    have d_nth_alike : L2.Def (L2.KOf KX) mg "nth_alike" My.s_nth_alike ["gathering", "way", "number"] := by
      dsimp only [L2.KOf]
      refine' L2.def_mk KX G ?a ?l ?c ?k ?b
      (case a => k_is); (case l => k_is); (case c => k_is); (case k => k_is)
      (case b => exact fun _ _ _ _ _ _ us hl => match us, hl with | [_, _, _], _ => rfl)
    have d_many_lesser : L2.Def (L2.KOf KX) mg "many_lesser" My.s_many_lesser ["gathering", "way"] := by
      dsimp only [L2.KOf]
      refine' L2.def_mk KX G ?a ?l ?c ?k ?b
      (case a => k_is); (case l => k_is); (case c => k_is); (case k => k_is)
      (case b => exact fun _ _ _ _ _ _ us hl => match us, hl with | [_, _], _ => rfl)
    have d_nth_least : L2.Def (L2.KOf KX) mg "nth_least" My.s_nth_least ["bounds", "gathering", "k"] := by
      dsimp only [L2.KOf]
      refine' L2.def_mk KX G ?a ?l ?c ?k ?b
      (case a => k_is); (case l => k_is); (case c => k_is); (case k => k_is)
      (case b => exact fun _ _ _ _ _ _ us hl => match us, hl with | [_, _, _], _ => rfl)
    have d_below : L2.Def (L2.KOf KX) mg "below" My.s_below ["bounds", "gathering", "number"] := by
      dsimp only [L2.KOf]
      refine' L2.def_mk KX G ?a ?l ?c ?k ?b
      (case a => k_is); (case l => k_is); (case c => k_is); (case k => k_is)
      (case b => exact fun _ _ _ _ _ _ us hl => match us, hl with | [_, _, _], _ => rfl)
    have d__law_pen : L2.Def (L2.KOf KX) mg "_law_pen" My.s__law_pen ["_law_script", "_law_k"] := by
      dsimp only [L2.KOf]
      refine' L2.def_mk KX G ?a ?l ?c ?k ?b
      (case a => k_is); (case l => k_is); (case c => k_is); (case k => k_is)
      (case b => exact fun _ _ _ _ _ _ us hl => match us, hl with | [_, _], _ => rfl)
    have d__law_mixed : L2.Def (L2.KOf KX) mg "_law_mixed" My.s__law_mixed ["_law_pen_here"] := by
      dsimp only [L2.KOf]
      refine' L2.def_mk KX G ?a ?l ?c ?k ?b
      (case a => k_is); (case l => k_is); (case c => k_is); (case k => k_is)
      (case b => exact fun _ _ _ _ _ _ us hl => match us, hl with | [_], _ => rfl)
    have d__law_take : L2.Def (L2.KOf KX) mg "_law_take" My.s__law_take ["_law_pen_here", "_law_size"] := by
      dsimp only [L2.KOf]
      refine' L2.def_mk KX G ?a ?l ?c ?k ?b
      (case a => k_is); (case l => k_is); (case c => k_is); (case k => k_is)
      (case b => exact fun _ _ _ _ _ _ us hl => match us, hl with | [_, _], _ => rfl)
    have d__law_bounds : L2.Def (L2.KOf KX) mg "_law_bounds" My.s__law_bounds ["_law_pen_here"] := by
      dsimp only [L2.KOf]
      refine' L2.def_mk KX G ?a ?l ?c ?k ?b
      (case a => k_is); (case l => k_is); (case c => k_is); (case k => k_is)
      (case b => exact fun _ _ _ _ _ _ us hl => match us, hl with | [_], _ => rfl)
    have d__law_row : L2.Def (L2.KOf KX) mg "_law_row" My.s__law_row ["_law_pen_here", "_law_bounds_here", "_law_longest"] := by
      dsimp only [L2.KOf]
      refine' L2.def_mk KX G ?a ?l ?c ?k ?b
      (case a => k_is); (case l => k_is); (case c => k_is); (case k => k_is)
      (case b => exact fun _ _ _ _ _ _ us hl => match us, hl with | [_, _, _], _ => rfl)
    have d__law_tree : L2.Def (L2.KOf KX) mg "_law_tree" My.s__law_tree ["_law_low", "_law_levels", "_law_row_here"] := by
      dsimp only [L2.KOf]
      refine' L2.def_mk KX G ?a ?l ?c ?k ?b
      (case a => k_is); (case l => k_is); (case c => k_is); (case k => k_is)
      (case b => exact fun _ _ _ _ _ _ us hl => match us, hl with | [_, _, _], _ => rfl)
    have d__law_plain : L2.Def (L2.KOf KX) mg "_law_plain" My.s__law_plain ["_law_thing"] := by
      dsimp only [L2.KOf]
      refine' L2.def_mk KX G ?a ?l ?c ?k ?b
      (case a => k_is); (case l => k_is); (case c => k_is); (case k => k_is)
      (case b => exact fun _ _ _ _ _ _ us hl => match us, hl with | [_], _ => rfl)
    have d__law_is : L2.Def (L2.KOf KX) mg "_law_is" My.s__law_is ["_law_found", "_law_bounds_here", "_law_row_here"] := by
      dsimp only [L2.KOf]
      refine' L2.def_mk KX G ?a ?l ?c ?k ?b
      (case a => k_is); (case l => k_is); (case c => k_is); (case k => k_is)
      (case b => exact fun _ _ _ _ _ _ us hl => match us, hl with | [_, _, _], _ => rfl)
    have d__law_widened : L2.Def (L2.KOf KX) mg "_law_widened" My.s__law_widened ["_law_bounds_here", "_law_tree_here", "_law_side"] := by
      dsimp only [L2.KOf]
      refine' L2.def_mk KX G ?a ?l ?c ?k ?b
      (case a => k_is); (case l => k_is); (case c => k_is); (case k => k_is)
      (case b => exact fun _ _ _ _ _ _ us hl => match us, hl with | [_, _, _], _ => rfl)
    have d__law_asked : L2.Def (L2.KOf KX) mg "_law_asked" My.s__law_asked ["_law_bounds_here", "_law_tree_here", "_law_row_here"] := by
      dsimp only [L2.KOf]
      refine' L2.def_mk KX G ?a ?l ?c ?k ?b
      (case a => k_is); (case l => k_is); (case c => k_is); (case k => k_is)
      (case b => exact fun _ _ _ _ _ _ us hl => match us, hl with | [_, _, _], _ => rfl)
    have d__law_right : L2.Def (L2.KOf KX) mg "_law_right" My.s__law_right ["_law_bounds_here", "_law_tree_here", "_law_row_here", "_law_side"] := by
      dsimp only [L2.KOf]
      refine' L2.def_mk KX G ?a ?l ?c ?k ?b
      (case a => k_is); (case l => k_is); (case c => k_is); (case k => k_is)
      (case b => exact fun _ _ _ _ _ _ us hl => match us, hl with | [_, _, _, _], _ => rfl)
    have d_law : L2.Def (L2.KOf KX) mg "law" My.s_law ["_law_script"] := by
      dsimp only [L2.KOf]
      refine' L2.def_mk KX G ?a ?l ?c ?k ?b
      (case a => k_is); (case l => k_is); (case c => k_is); (case k => k_is)
      (case b => exact fun _ _ _ _ _ _ us hl => match us, hl with | [_], _ => rfl)
    obtain ⟨cLeastError, cBeyond, cNoBounds, cNoRow, cNoSuch, cNoText, cTooMany, z⟩ : ∃ cLeastError cBeyond cNoBounds cNoRow cNoSuch cNoText cTooMany : Addr, My.Bz (L2.KOf KX) mg cLeastError cBeyond cNoBounds cNoRow cNoSuch cNoText cTooMany := by
      dsimp only [L2.KOf]
      refine' ⟨_, _, _, _, _, _, _, ⟨PySem.W.mg_none_of KX G ?z0, PySem.W.mg_none_of KX G ?z1, PySem.W.mg_none_of KX G ?z2, PySem.W.mg_none_of KX G ?z3, PySem.W.mg_none_of KX G ?z4, PySem.W.mg_none_of KX G ?z5, PySem.W.mg_none_of KX G ?z6, PySem.W.mg_none_of KX G ?z7, PySem.W.mg_none_of KX G ?z8, PySem.W.mg_none_of KX G ?z9, PySem.W.mg_none_of KX G ?z10, PySem.W.mg_none_of KX G ?z11, PySem.W.mg_none_of KX G ?z12, PySem.W.mg_none_of KX G ?z13, PySem.W.mg_none_of KX G ?z14, PySem.W.mg_of KX G ?m0, PySem.W.mg_of KX G ?m1, PySem.W.mg_of KX G ?m2, PySem.W.mg_of KX G ?m3, PySem.W.mg_of KX G ?m4, PySem.W.mg_of KX G ?m5, PySem.W.mg_of KX G ?m6, ?y0_0, ⟨?y1_0, ?y1_1, ?y1_2, ?y1_3, ?y1_4, ?y1_5, ?y1_6, ?y1_7⟩, ?y2_0, ?y3_0, ?y4_0, ?y5_0⟩⟩
      (case z0 => k_is)
      (case z1 => k_is)
      (case z2 => k_is)
      (case z3 => k_is)
      (case z4 => k_is)
      (case z5 => k_is)
      (case z6 => k_is)
      (case z7 => k_is)
      (case z8 => k_is)
      (case z9 => k_is)
      (case z10 => k_is)
      (case z11 => k_is)
      (case z12 => k_is)
      (case z13 => k_is)
      (case z14 => k_is)
      (case m0 => k_is)
      (case m1 => k_is)
      (case m2 => k_is)
      (case m3 => k_is)
      (case m4 => k_is)
      (case m5 => k_is)
      (case m6 => k_is)
      (case y0_0 => first | k_is | kernel_rfl)
      (case y1_0 => first | k_is | kernel_rfl)
      (case y1_1 => first | k_is | kernel_rfl)
      (case y1_2 => first | k_is | kernel_rfl)
      (case y1_3 => first | k_is | kernel_rfl)
      (case y1_4 => first | k_is | kernel_rfl)
      (case y1_5 => first | k_is | kernel_rfl)
      (case y1_6 => first | k_is | kernel_rfl)
      (case y1_7 => first | k_is | kernel_rfl)
      (case y2_0 => first | k_is | kernel_rfl)
      (case y3_0 => first | k_is | kernel_rfl)
      (case y4_0 => first | k_is | kernel_rfl)
      (case y5_0 => first | k_is | kernel_rfl)
    exact L2.law_mk d_law (fun base => My.all_ok (base := base) z d_is_whole d_is_low d_is_levels d_is_bounds d_many_worths d_top_of d_where d_span_of d_way_of d_ahead d_place_of d_grown d_tree_of d_half_of d_size_of d_merged d_row_from d_row_of d_many_in d_led_stretch d_led d_lifted d_turned d_flipped d_wider d_way_of_nth d_nth_alike d_many_lesser d_nth_least d_below d__law_pen d__law_mixed d__law_take d__law_bounds d__law_row d__law_tree d__law_plain d__law_is d__law_widened d__law_asked d__law_right) hmg
#print axioms PySem.Challenge.cw_manyleast_k47_rows_turned_and_widened_holds
