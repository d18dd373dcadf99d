import PyProof.Rows.All
import Wide.All
import OpenK.KSplit
import OpenK.KNot
import OpenK.KApp
import KE.KPop
import KE.KListMore
import KE.RegKMod
import KE.KDictOf
import KE.KDictMeth
import KE.KEqSeq
import KE.KSlice
import KE.GnPush
import KE.KSorted
import KE.KJoinElse
import KE.RegTryLedger
import KE.KTops
import KE.RegKSuper
import KE.KSort
import KE.KDictLoop
import KE.RegLcTurns
import KE.RegLcAnyAll
import KE.KCat
import KE.KTemps
import KE.KTup
import KE.KxMul
import KE.KxSplit
import KE.KxIndex
import KE.KxText
import KE.KCells
import KE.KPassesOwn
import KE.RegKIsNot
import KE.KTempsTwo
import KE.KSetInts
import KE.KSortedL
import KE.KxBytes
import KE.KClos
import KE.KNestStore
import KE.KOwnIter
import KE.KStopIter
import KE.RegKBase
import KE.KDictOne
import KE.RegKMathG
import KE.KDictAny
import KE.RegKCallOwn
import KE.KSliceW
import KE.KxDecode
import KE.RegKMathGB
import KE.KLam
import KE.KDictBranch
import KE.KTree
import KE.KTreeB
import KE.KNestM
import KE.KDflt
import KE.KOwnIterCall
import KE.KSortedM
import KE.KTurns
import KE.KEqText
import KE.KxLen
import KE.RegKMathGC
import KE.KIsClose
import KE.KEqDict
import KE.KDisp
import KE.KDictAnyGet
import KE.KDictObj
import KE.KSetIn
import KE.KRevSl
import KE.KEqDeep
import KE.KAnyBase
import KE.KBoundM
import KE.KWhile
import KE.KRevIter
import KE.KCount
import KE.KTreeR
import KE.KxStill
import KE.KFinally
import KE.KTopLam
import KE.KWithOwn
import KE.KCases
import KE.KOpsOwn
import KE.KDictNew
import KE.KDictList
import KE.KDictIter
import KE.RegKUnpackStar
import KE.KSortAsk
import KE.KWhileD
import KE.KLcTest
import KE.KSumEnd
import KE.KPopAny
import KE.KGrown
import KE.KItemAt
import KE.KTextLit
import KE.KTupDict
import KE.KFmtOwn
import KE.KUnrMore
import KE.KMinKey
import KE.KTurnsDict
import KE.KExtendNil
import KE.KMethU
import KE.BytesMul
import KE.KCompFold
import KE.KDictSum
import KE.KDictName
import KE.KDictSym
import KE.KTurnsAny
import KE.KDictAnyTail
import KE.RegKStar
import KE.RegKParD
import KE.RegKTupTruth
import KE.RegKTupSum
import KE.KCallJoin
import KE.KMethJoin
import KE.KPathRangeEnd
import KE.KStateW
import KE.RegKParC
import KE.KxWritten
import KE.KxAdd
import KE.KxAffix
import KE.KxField
import KE.RegKIsAll
import KE.RegKMatchCls
import KE.KLcPair
import KE.RegKTryDeep
import KE.KJoinL
import KE.RegKNeg
import KE.KxPercentT
import KE.KBytesCut
import KE.KCellOne
import KE.KCompIf
import KE.KMenu
import KE.KxFormat
import KE.KTypeName
import KE.KCompText
import KE.BytesMulAny
import KE.KDictSymLen
import KE.KSortTup
import KE.KPairAssign
import KE.KTypeOf
import KE.KFinEnd
import KE.KMulAny
import KE.KBytesMenu
import KE.KTextDict
import KE.KPathShort
import KE.KSplitRange
import KE.KKinds
import KE.KxPart
import KE.KRangeItem
import KE.KDictLetter
import KE.KRangeNest
import KE.KSetAt
import KE.KWords
import KE.KxTruthy
import KE.KPairRows
import KE.KBytesMore
import KE.RegKStateDown
import KE.KItemsList
import KE.KRangePlain
import KE.KStateGiven
import KE.KBitsMul
import KE.KTextTable
import KE.KForList
import KE.KIdxIf
import KE.KAssignIn
import KE.KFirstTurn
import KE.KOwnRange
import KE.KLooksOwn
import KE.KDictWord
import KE.KStrOpen
import KE.KTurnsGround
import KE.KListEnd
import KE.KSearch
import KE.KFinFacts
import KE.RegKTryOn
import KE.KCenter
import KE.KStrWords
import KE.KStateTextK
import KE.KBools
import KE.KStateWGiven
import KE.KData
import KE.KCallTup
import KE.KTreeD
import KE.KTreeF
import KE.KEndWord
import KE.KStateBytes
import KE.KRangeEnd
import KE.KOf
import KE.KRepItem
import KE.KListLetter
import KE.KSliceSign
import KE.KCallBy
import KE.KToBytes
import KE.KPathText
import KE.KMinBuiltin
import KE.KFromBytes
import KE.KEqDat
import KE.KBytesUnr
import KE.KIsBytes
import KE.KCallRec
import KE.KEndW
import KE.RegLGe
import KE.RegLGeC
import Wide.FinOn
import Wide.FinOn
import Lean
import PyProof.EqAt
import PyProof.EqKinds
import PyProof.TupleCall
import KE.KDictSum
import KE.KRevSl
import KE.KSortTup
import KE.KItemsList
import KE.KSortKey
import PyProof.Rows.SetFrom
import PySem.Challenge.RW_manyleast_k50_falls_by_ways
set_option Elab.async false
set_option linter.all false
set_option maxRecDepth 100000
set_option maxHeartbeats 4000000
namespace MyQ
open PySem PySem.W PyProof.Rows
def at_ (i : Nat) : Stmt := PySem.Challenge.pw_manyleast_k50_falls_by_ways.main.body.getD i (.Pass ⟨0, 0, 0, 0⟩)
def vw : Program := { PySem.Challenge.pw_manyleast_k50_falls_by_ways with main := { PySem.Challenge.pw_manyleast_k50_falls_by_ways.main with body := [at_ 1, at_ 2, at_ 4, at_ 5, at_ 7, at_ 8, at_ 9, at_ 11, at_ 12, at_ 13, at_ 15, at_ 17, at_ 18, at_ 20, at_ 21, at_ 22, at_ 23, at_ 24, at_ 25, at_ 26, at_ 27, at_ 28, at_ 29, at_ 30, at_ 31] } }
set_option hygiene false
local macro_rules | `(tactic| o_head $H) => `(tactic| (refine holds_open (q := MyQ.vw) (loose := ([] : List PySem.Str)) (Xt := fun s => xlAt MyQ.vw ([] : List (PySem.Str × WData)) s && recOk (RowW.records (OpenRow.toRowW _)) s) (XP := XL MyQ.vw ([] : List (PySem.Str × WData))) (Yf := Hook.obs $H) (Ya := Hook.val $H) (YP := Hook.says $H) (N := 20000) ?hl (Hook.of $H) (Hook.keeps $H) (fun s e => xl_of s (Bool.and_eq_true_iff.mp e).1) XL.keeps (by rfl) (by rfl) (by rfl) (fun s e => recFacts_of (Bool.and_eq_true_iff.mp e).2) (by rfl) (by assumption) (by decide +kernel) ⟨rfl, rfl, rfl, rfl, rfl, by decide +kernel⟩ ?hw ?hc; (case hl => exact fun w => by kernel_rfl)))
set_option maxRecDepth 100000 in
set_option maxHeartbeats 0 in
open_top hd for PySem.Challenge.rw_manyleast_k50_falls_by_ways
end MyQ
/-! THE HAND LAYER, for ints, bools, texts, own classes, LISTS and tuples (index, slices, in, append, pop ..), calls, loops. Paste it whole ahead of your own text; what your proof does not reach may be deleted. -/
namespace L2
open PySem PySem.Spec PyProof.Rows

/-- a key: an int or a str -/
abbrev Key := Sum Int Str
def keyIs : Key → Value → Bool
  | .inl k, v => Value.isInt k v
  | .inr x, v => Value.isStrOf x v
def keyH (w : World) : Key → Int
  | .inl k => hashInt k
  | .inr x => hashStr w x
theorem keyIs_shape : ∀ {k : Key} {v : Value}, keyIs k v = true → (∃ i t, k = Sum.inl i ∧ v = Value.int i t) ∨ (∃ x t, k = Sum.inr x ∧ v = Value.str x t)
  | .inl i, v, h => by
    obtain ⟨t, e⟩ := Value.isInt_shape (k := i) (v := v) h
    exact .inl ⟨i, t, rfl, e⟩
  | .inr x, v, h => by
    obtain ⟨t, e⟩ := Value.isStrOf_shape (x := x) (v := v) h
    exact .inr ⟨x, t, rfl, e⟩
theorem keyIs_int (i : Int) (t : Tok) : keyIs (.inl i) (.int i t) = true := by simp [keyIs, Value.isInt]
theorem keyIs_str (x : Str) (t : Tok) : keyIs (.inr x) (.str x t) = true := by simp [keyIs, Value.isStrOf]
theorem key_ll (a b : Int) : decide ((Sum.inl a : Key) = Sum.inl b) = (a == b) := by
  by_cases e : a = b
  · subst e; simp
  · have h : ¬ (Sum.inl a : Key) = Sum.inl b := fun q => e (Sum.inl.inj q)
    rw [decide_eq_false h]
    exact (beq_eq_false_iff_ne.mpr e).symm
theorem key_rr (a b : Str) : decide ((Sum.inr a : Key) = Sum.inr b) = decide (a = b) := by
  by_cases e : a = b
  · subst e; simp
  · have h : ¬ (Sum.inr a : Key) = Sum.inr b := fun q => e (Sum.inr.inj q)
    rw [decide_eq_false h, decide_eq_false e]
theorem key_lr (a : Int) (b : Str) : decide ((Sum.inl a : Key) = Sum.inr b) = false := decide_eq_false (fun q => nomatch q)
theorem key_rl (a : Str) (b : Int) : decide ((Sum.inr a : Key) = Sum.inl b) = false := decide_eq_false (fun q => nomatch q)

def mixKind (prog : Program) (w : World) : PySem.KeyKind prog w Key where
  is := keyIs
  hash := keyH w
  inj := fun v a b ha hb => by
    rcases keyIs_shape ha with ⟨i, t, rfl, rfl⟩ | ⟨x, t, rfl, rfl⟩
    · rcases keyIs_shape hb with ⟨j, u, rfl, e⟩ | ⟨y, u, rfl, e⟩
      · injection e with e1 _; rw [e1]
      · exact nomatch e
    · rcases keyIs_shape hb with ⟨j, u, rfl, e⟩ | ⟨y, u, rfl, e⟩
      · exact nomatch e
      · injection e with e1 _; rw [e1]
  byValue := fun k v h => by
    rcases keyIs_shape h with ⟨i, t, rfl, rfl⟩ | ⟨x, t, rfl, rfl⟩ <;> rfl
  pyHash := fun hv h => by
    rcases keyIs_shape hv with ⟨i, t, rfl, rfl⟩ | ⟨x, t, rfl, rfl⟩
    · exact wpAny_pyHash_int h
    · exact wpAny_pyHash_str h
  eqBool := fun hu hv h => by
    rcases keyIs_shape hu with ⟨i, t, rfl, rfl⟩ | ⟨x, t, rfl, rfl⟩
    · rcases keyIs_shape hv with ⟨j, u, rfl, rfl⟩ | ⟨y, u, rfl, rfl⟩
      · rw [key_ll] at h; exact wpAny_eqBool_int h
      · rw [key_lr] at h; exact SeqAt.EqAt.int_str i t y u _ _ _ _ h
    · rcases keyIs_shape hv with ⟨j, u, rfl, rfl⟩ | ⟨y, u, rfl, rfl⟩
      · rw [key_rl] at h; exact SeqAt.EqAt.str_int x t j u _ _ _ _ h
      · rw [key_rr] at h; exact wpAny_eqBool_str h
  «strs» := fun k x t v h => by
    rcases keyIs_shape h with ⟨i, u, rfl, e⟩ | ⟨y, u, rfl, e⟩
    · exact nomatch e
    · injection e with e1 _
      subst e1
      cases v <;> rfl

theorem mixKind_int (prog : Program) (w : World) (i : Int) (t : Tok) : (mixKind prog w).is (.inl i) (.int i t) = true := keyIs_int i t
theorem mixKind_str (prog : Program) (w : World) (x : Str) (t : Tok) : (mixKind prog w).is (.inr x) (.str x t) = true := keyIs_str x t
end L2

namespace L2
open PySem PySem.Spec PyProof.Rows

/-- a value, without the heap -/
inductive V where
  | non | bl (b : Bool) | int (i : Int) | str (x : Str) | byt (b : Array UInt8) | flt (b : UInt64) | ref (a : Addr) | ty (n : String)
  deriving DecidableEq

def RelV : V → Value → Prop
  | .non, u => u = Value.none
  | .bl b, u => u = Value.bool b
  | .int i, u => ∃ t, u = Value.int i t
  | .str x, u => ∃ t, u = Value.str x t
  | .byt b, u => ∃ t, u = Value.bytes b t
  | .flt b, u => ∃ t, u = Value.float b t
  | .ref a, u => u = Value.ref a
  | .ty n, u => u = Value.type n

abbrev Vals : List V → List Value → Prop := Paired RelV
theorem Vals.length {xs : List V} {us : List Value} (r : Vals xs us) : xs.length = us.length := Paired.length r
theorem Vals.get : ∀ {xs : List V} {us : List Value} {i : Nat} {x : V}, Vals xs us → xs[i]? = some x → ∃ u, us[i]? = some u ∧ RelV x u
  | _, _, _, _, .nil, e => by simp at e
  | _, _, 0, _, .cons r _, e => by simp at e; subst e; exact ⟨_, rfl, r⟩
  | _, _, i + 1, x, .cons _ t, e => by
    obtain ⟨u, h1, h2⟩ := Vals.get (i := i) (x := x) t (by simpa using e)
    exact ⟨u, by simpa using h1, h2⟩
theorem Vals.set {x : V} {u : Value} (r : RelV x u) : ∀ {xs : List V} {us : List Value} (i : Nat), Vals xs us → Vals (xs.set i x) (us.set i u)
  | _, _, _, .nil => .nil
  | _, _, 0, .cons _ t => .cons r t
  | _, _, i + 1, .cons q t => .cons q (Vals.set r i t)
theorem Vals.append : ∀ {xs ys : List V} {us ws : List Value}, Vals xs us → Vals ys ws → Vals (xs ++ ys) (us ++ ws)
  | _, _, _, _, .nil, s => s
  | _, _, _, _, .cons r t, s => .cons r (Vals.append t s)
theorem Vals.take : ∀ {xs : List V} {us : List Value} (n : Nat), Vals xs us → Vals (xs.take n) (us.take n)
  | _, _, 0, _ => .nil
  | _, _, _ + 1, .nil => .nil
  | _, _, n + 1, .cons r t => .cons r (Vals.take n t)
theorem Vals.drop : ∀ {xs : List V} {us : List Value} (n : Nat), Vals xs us → Vals (xs.drop n) (us.drop n)
  | _, _, 0, r => r
  | _, _, _ + 1, .nil => .nil
  | _, _, n + 1, .cons _ t => Vals.drop n t
def RelO : Option V → Option Value → Prop
  | some v, some u => RelV v u
  | none, none => True
  | _, _ => False
def KV {κ : Type} : List (κ × V) → List (κ × Value) → Prop := Paired fun (p : κ × V) (q : κ × Value) => p.1 = q.1 ∧ RelV p.2 q.2

/-- a key of a dict (00_mix): an int or a text -/
def kV : Key → V
  | .inl i => .int i
  | .inr x => .str x

/-- what stands at a tracked address -/
inductive HO where
  /-- a list -/
  | lst (xs : List V)
  /-- a tuple (never changes) -/
  | tup (xs : List V)
  /-- a dict whose keys are ints and texts; one whose keys are tuples of ints and texts (the empty one is both) -/
  | dK (kvs : List (Key × V)) | dT (kvs : List (List Key × V))
  /-- a set of ints: its members, its size -/
  | set (S : Int → Bool) (n : Nat)
  /-- an instance of the class at C, its dict at dx, its attributes -/
  | ins (C dx : Addr) (fs : List (Str × V))
  /-- the dict of the instance at x -/
  | own (x : Addr)
  /-- the dict of an exception -/
  | xd (fs : List (Str × V))
  /-- a bound method, f of x -/
  | met (f x : Addr)
  /-- a range object lo, lo + 1, .. below hi -/
  | rng (lo hi : Int)
  /-- a thing that is known to the object (the script; a dict while a loop walks it): read, never written while it is so -/
  | frz (o : Obj) (u : HO)
  /-- a code object's table -/
  | tbl (ps : Array Value)
  /-- any other thing, by what is true of its one object (a def of one's own: SetO a S n := HO.ext fun h => ..) -/
  | ext (φ : Heap → Prop)

abbrev Hp := Addr → Option HO
def upd (H : Hp) (a : Addr) (o : HO) : Hp := fun b => if b = a then some o else H b
theorem upd_same {H : Hp} {a : Addr} {o : HO} : upd H a o a = some o := by unfold upd; rw [if_pos rfl]
theorem upd_ne {H : Hp} {a b : Addr} {o : HO} (h : b ≠ a) : upd H a o b = H b := by unfold upd; rw [if_neg h]
theorem upd_upd {H : Hp} {a : Addr} {o u : HO} : upd (upd H a o) a u = upd H a u := by
  funext b; unfold upd; split <;> rfl
/-- two objects of different content stand apart -/
theorem ne_of {H : Hp} {a b : Addr} {o u : HO} (h : H a = some o) (h' : H b = some u) (d : o ≠ u) : a ≠ b := by
  intro e; subst e; rw [h] at h'; exact d (Option.some.inj h')
theorem ne_of_none {H : Hp} {a b : Addr} {o : HO} (h : H a = some o) (h' : H b = none) : a ≠ b := by
  intro e; subst e; rw [h] at h'; cases h'

section
variable (P : Program) (w : World)
def ObjOk (H : Hp) (h : Heap) (a : Addr) : HO → Prop
  | .lst xs => xs.length ≤ sizeLine ∧ ∃ (its : List Value) (n : Nat), Vals xs its ∧ h.get? a = some { cls := .type "list", data := .seq its.toArray n }
  | .tup xs => xs.length ≤ sizeLine ∧ ∃ its : List Value, Vals xs its ∧ IsTup h a its.toArray
  | .dK kvs => kvs.length ≤ sizeLine ∧ (a == sysModules) = false ∧ ∃ vs, KV kvs vs ∧ h.DictOf (mixKind P w) a vs
  | .dT kvs => kvs.length ≤ sizeLine ∧ (a == sysModules) = false ∧ ∃ xs : List (List Key × Addr × Value),
      Paired (fun (p : List Key × V) (q : List Key × Addr × Value) => p.1 = q.1 ∧ H q.2.1 = some (.tup (p.1.map kV)) ∧ RelV p.2 q.2.2) kvs xs ∧
      ∃ o es ep, h.get? a = some o ∧ o.ExactDict ∧ o.data = .dict es ep ∧ es.toList = xs.map (entryOfKey (tupleKind (mixKind P w))) ∧ (xs.map (·.1)).Nodup
  | .set S n => h.SetOf (intKind P w) a S n
  | .ins C dx fs => H dx = some (.own a) ∧ fs.length ≤ 1000 ∧ dx ≠ a ∧ h.get? a = some (PySem.W.instObj C dx) ∧
      ∃ mA, h.Ns1 dx mA ∧ (∀ f, RelO (fs.lookup f) (mA f)) ∧ PySem.Within mA (fs.map (·.1))
  | .own _ => ∃ o, h.get? a = some o
  | .xd fs => ∃ mA, h.Ns1 a mA ∧ ∀ f, RelO (fs.lookup f) (mA f)
  | .rng lo hi => ∃ t u v, h.get? a = some { cls := .type "range", data := .fields #[.int lo t, .int hi u, .int 1 v] }
  | .frz o u => h.get? a = some o ∧ ObjOk H h a u
  | .tbl ps => h.get? a = some { cls := .none, data := .fields ps }
  | .met f x => h.get? a = some (PySem.W.methodObj (.ref f) (.ref x))
  | .ext φ => φ h ∧ (∃ o, h.get? a = some o) ∧ ∀ h1 h2 : Heap, φ h1 → (∀ o, h1.get? a = some o → h2.get? a = some o) → φ h2
/-- the abstract heap is held -/
def HOk (H : Hp) (h : Heap) : Prop := ∀ a o, H a = some o → ObjOk P w H h a o
end

section
variable {P : Program} {w : World} {H H' : Hp} {h h' : Heap} {a : Addr} {o : HO}
theorem ObjOk.lt (x : ObjOk P w H h a o) : a < h.objs.size := by
  cases o with
  | lst xs => obtain ⟨_, _, _, _, e⟩ := x; exact Heap.lt_size e
  | tup xs => obtain ⟨_, _, _, p⟩ := x; exact p.lt
  | dK kvs => obtain ⟨_, _, _, _, o, _, _, e, _⟩ := x; exact Heap.lt_size e
  | dT kvs => obtain ⟨_, _, _, _, o, _, _, e, _⟩ := x; exact Heap.lt_size e
  | set S n => obtain ⟨o, _, _, _, e, _⟩ := x; exact Heap.lt_size e
  | ins C dx fs => obtain ⟨_, _, _, e, _⟩ := x; exact Heap.lt_size e
  | own y => obtain ⟨_, e⟩ := x; exact Heap.lt_size e
  | xd fs => obtain ⟨_, ⟨_, _, _, e, _⟩, _⟩ := x; exact Heap.lt_size e
  | rng lo hi => obtain ⟨_, _, _, e⟩ := x; exact Heap.lt_size e
  | frz ob u => obtain ⟨e, _⟩ := x; exact Heap.lt_size e
  | tbl ps => exact Heap.lt_size (show h.get? a = some _ from x)
  | met f y => exact Heap.lt_size (show h.get? a = some _ from x)
  | ext φ => obtain ⟨_, ⟨_, e⟩, _⟩ := x; exact Heap.lt_size e
theorem Paired.mapP {α β : Type} {F G : α → β → Prop} : ∀ {l₁ : List α} {l₂ : List β}, Paired F l₁ l₂ → (∀ a b, F a b → G a b) → Paired G l₁ l₂
  | _, _, .nil, _ => .nil
  | _, _, .cons r t, f => .cons (f _ _ r) (Paired.mapP t f)
/-- what an object's description leans on: its own object, its own dict, the tuples -/
theorem ObjOk.stay (x : ObjOk P w H h a o) (k : ∀ b u, (b = a ∨ H b = some (.own a)) → h.get? b = some u → h'.get? b = some u)
    (ho : ∀ b, H b = some (.own a) → H' b = some (.own a)) (ht : ∀ b xs, H b = some (.tup xs) → H' b = some (.tup xs)) : ObjOk P w H' h' a o := by
  induction o with
  | lst xs => obtain ⟨z, its, n, r, e⟩ := x; exact ⟨z, its, n, r, k _ _ (.inl rfl) e⟩
  | tup xs => obtain ⟨z, its, r, ob, e, c⟩ := x; exact ⟨z, its, r, ob, k _ _ (.inl rfl) e, c⟩
  | dK kvs => obtain ⟨z, y, vs, r, ob, es, ep, e, c⟩ := x; exact ⟨z, y, vs, r, ob, es, ep, k _ _ (.inl rfl) e, c⟩
  | dT kvs =>
    obtain ⟨z, y, xs, r, ob, es, ep, e, c⟩ := x
    exact ⟨z, y, xs, Paired.mapP r fun p q z => ⟨z.1, ht _ _ z.2.1, z.2.2⟩, ob, es, ep, k _ _ (.inl rfl) e, c⟩
  | set S n => obtain ⟨ob, es, ep, t, e, c⟩ := x; exact ⟨ob, es, ep, t, k _ _ (.inl rfl) e, c⟩
  | ins C dx fs =>
    obtain ⟨d, z, ne, e, mA, ⟨od, es, ep, e2, c⟩, r⟩ := x
    exact ⟨ho _ d, z, ne, k _ _ (.inl rfl) e, mA, ⟨od, es, ep, k _ _ (.inr d) e2, c⟩, r⟩
  | own y => obtain ⟨ob, e⟩ := x; exact ⟨ob, k _ _ (.inl rfl) e⟩
  | xd fs => obtain ⟨mA, ⟨od, es, ep, e, c⟩, r⟩ := x; exact ⟨mA, ⟨od, es, ep, k _ _ (.inl rfl) e, c⟩, r⟩
  | rng lo hi => obtain ⟨t, u, v, e⟩ := x; exact ⟨t, u, v, k _ _ (.inl rfl) e⟩
  | frz ob u ih => obtain ⟨e, q⟩ := x; exact ⟨k _ _ (.inl rfl) e, ih q⟩
  | tbl ps =>
    have e : h.get? a = some { cls := .none, data := .fields ps } := x
    show h'.get? a = some { cls := .none, data := .fields ps }
    exact k a _ (.inl rfl) e
  | met f y =>
    have e : h.get? a = some (PySem.W.methodObj (.ref f) (.ref y)) := x
    show h'.get? a = some (PySem.W.methodObj (.ref f) (.ref y))
    exact k a _ (.inl rfl) e
  | ext φ => obtain ⟨p, ⟨o, e⟩, st⟩ := x; exact ⟨st _ _ p fun o q => k _ _ (.inl rfl) q, ⟨o, k _ _ (.inl rfl) e⟩, st⟩
theorem HOk.lt (x : HOk P w H h) (e : H a = some o) : a < h.objs.size := (x a o e).lt
theorem HOk.fresh (x : HOk P w H h) (e : h.objs.size ≤ a) : H a = none := by
  cases q : H a with
  | none => rfl
  | some u => exact absurd (Nat.lt_of_lt_of_le (x.lt q) e) (Nat.lt_irrefl _)
/-- every object of the heap is kept -/
theorem HOk.kept (x : HOk P w H h) (k : ∀ b u, h.get? b = some u → h'.get? b = some u) : HOk P w H h' := fun a o e =>
  (x a o e).stay (fun b u _ q => k b u q) (fun _ q => q) fun _ _ q => q
/-- a new object is laid and tracked -/
theorem HOk.laid (x : HOk P w H h) (k : ∀ b u, h.get? b = some u → h'.get? b = some u) (hp : h.objs.size ≤ a) (new : ObjOk P w (upd H a o) h' a o) : HOk P w (upd H a o) h' := fun b u e => by
  have hn := x.fresh hp
  by_cases hb : b = a
  · subst hb; rw [upd_same] at e; cases e; exact new
  · rw [upd_ne hb] at e
    exact (x b u e).stay (fun c v _ q => k c v q) (fun c q => by rw [upd_ne (ne_of_none q hn)]; exact q) fun c xs q => by rw [upd_ne (ne_of_none q hn)]; exact q
end

/-- what may be read as u: it is u, or a known u -/
def Rd (H : Hp) (a : Addr) (u : HO) : Prop := H a = some u ∨ ∃ o, H a = some (.frz o u)
theorem Rd.ok {P : Program} {w : World} {H : Hp} {h : Heap} {a : Addr} {u : HO} (r : Rd H a u) (x : HOk P w H h) : ObjOk P w H h a u := by
  rcases r with r | ⟨o, r⟩
  · exact x a u r
  · obtain ⟨_, q⟩ := x a _ r
    exact q
/-- what may be written -/
def Mut : Option HO → Prop
  | some (.lst _) => True
  | some (.dK _) => True
  | some (.dT _) => True
  | some (.set _ _) => True
  | some (.ins _ _ _) => True
  | some (.ext _) => True
  | _ => False
section
variable {P : Program} {w : World} {H : Hp} {h h' : Heap} {x e : Addr} {o' : HO}
/-- the object at e is changed: x itself, or the dict of the instance x -/
theorem HOk.write (ok : HOk P w H h) (mu : Mut (H x)) (he : e = x ∨ H e = some (.own x)) (k : ∀ b u, b ≠ e → h.get? b = some u → h'.get? b = some u) (heo : ∃ u, h'.get? e = some u)
    (new : ObjOk P w (upd H x o') h' x o') : HOk P w (upd H x o') h' := fun b u q => by
  have nown : ∀ c y, H c = some (.own y) → c ≠ x := fun c y r z => by subst z; rw [r] at mu; exact mu
  have ntup : ∀ c xs, H c = some (.tup xs) → c ≠ x := fun c xs r z => by subst z; rw [r] at mu; exact mu
  by_cases hb : b = x
  · subst hb; rw [upd_same] at q; cases q; exact new
  · rw [upd_ne hb] at q
    by_cases hbe : b = e
    · have q' : H b = some (.own x) := by
        rcases he with z | z
        · exact absurd (hbe.trans z) hb
        · rw [hbe]; exact z
      rw [q] at q'; cases q'
      obtain ⟨v, hv⟩ := heo
      exact ⟨v, by rw [hbe]; exact hv⟩
    · refine (ok b u q).stay (fun c v hc r => k c v ?_ r) (fun c r => by rw [upd_ne (nown c b r)]; exact r) fun c xs r => by rw [upd_ne (ntup c xs r)]; exact r
      rcases hc with rfl | hc
      · exact hbe
      · rintro rfl
        rcases he with z | z
        · exact nown c b hc z
        · rw [hc] at z; cases z; exact hb rfl
end

/-! ### kept unless tracked; of the frames at fs (the callers') the slots may change (an exception that passes writes there); of the records at ex (iterators) nothing is said -/
structure Un (fs ex : List Addr) (H H' : Hp) (h h' : Heap) : Prop where
  keep : ∀ b o, h.get? b = some o → H b = none → b ∉ fs → b ∉ ex → h'.get? b = some o
  slot : ∀ b o, h.get? b = some o → H b = none → b ∈ fs → b ∉ ex → ∃ sl, h'.get? b = some { o with slots := sl }
  free : ∀ b o, h.get? b = some o → H b = none → b ∉ ex → H' b = none
  there : ∀ b o, h.get? b = some o → b ∉ ex → ∃ o', h'.get? b = some o'
  tups : ∀ b xs, H b = some (.tup xs) → H' b = some (.tup xs)
  frzs : ∀ b o u, H b = some (.frz o u) → H' b = some (.frz o u)
  tbls : ∀ b ps, H b = some (.tbl ps) → ∃ more, H' b = some (.tbl (ps ++ more))
section
variable {fs fs' ex ex' : List Addr} {H H1 H2 : Hp} {h h1 h2 h' : Heap} {a x e : Addr} {o : HO}
theorem Un.any (u : Un fs ex H H1 h h1) {b : Addr} {ob : Obj} (q : h.get? b = some ob) (n : H b = none) (hx : b ∉ ex) : ∃ sl, h1.get? b = some { ob with slots := sl } := by
  by_cases hb : b ∈ fs
  · exact u.slot b ob q n hb hx
  · exact ⟨ob.slots, u.keep b ob q n hb hx⟩
theorem Un.kept (k : ∀ b u, h.get? b = some u → h'.get? b = some u) : Un fs ex H H h h' :=
  ⟨fun b ob q _ _ _ => k b ob q, fun b ob q _ _ _ => ⟨ob.slots, k b ob q⟩, fun _ _ _ n _ => n, fun b ob q _ => ⟨ob, k b ob q⟩, fun _ _ q => q, fun _ _ _ q => q, fun _ ps q => ⟨#[], by rw [q]; simp⟩⟩
theorem Un.refl : Un fs ex H H h h := Un.kept fun _ _ q => q
theorem Un.laid (k : ∀ b u, h.get? b = some u → h'.get? b = some u) (hp : h.objs.size ≤ a) (hn : H a = none) : Un fs ex H (upd H a o) h h' where
  keep := fun b u q _ _ _ => k b u q
  slot := fun b u q _ _ _ => ⟨u.slots, k b u q⟩
  free := fun b u q n _ => by rw [upd_ne (Nat.ne_of_lt (Nat.lt_of_lt_of_le (Heap.lt_size q) hp))]; exact n
  there := fun b u q _ => ⟨u, k b u q⟩
  tups := fun b xs q => by rw [upd_ne (ne_of_none q hn)]; exact q
  frzs := fun b u xs q => by rw [upd_ne (ne_of_none q hn)]; exact q
  tbls := fun b ps q => ⟨#[], by rw [upd_ne (ne_of_none q hn), q]; simp⟩
theorem Un.write (mu : Mut (H x)) (he : e = x ∨ H e = some (.own x)) (k : ∀ b u, b ≠ e → h.get? b = some u → h'.get? b = some u) (heo : ∃ u, h'.get? e = some u) : Un fs ex H (upd H x o) h h' := by
  have hx : ∀ b, H b = none → b ≠ x := fun b n z => by subst z; rw [n] at mu; exact mu
  have hb : ∀ b, H b = none → b ≠ e := fun b n z => by
    subst z
    rcases he with r | r
    · exact hx b n r
    · rw [n] at r; cases r
  have hm : ∀ b u, H b = some u → ¬ Mut (some u) → b ≠ x := fun b u q nm z => by subst z; rw [q] at mu; exact nm mu
  refine ⟨fun b u q n _ _ => k b u (hb b n) q, fun b u q n _ _ => ⟨u.slots, k b u (hb b n) q⟩, fun b u q n _ => by rw [upd_ne (hx b n)]; exact n, fun b u q _ => ?_,
    fun b xs q => by rw [upd_ne (hm b _ q fun z => z)]; exact q, fun b u xs q => by rw [upd_ne (hm b _ q fun z => z)]; exact q, fun b ps q => ⟨#[], by rw [upd_ne (hm b _ q fun z => z), q]; simp⟩⟩
  by_cases hbe : b = e
  · subst hbe; exact heo
  · exact ⟨u, k b u hbe q⟩
end

/-! ### the heap without what is tracked -/
def trk (h : Heap) (H : Hp) : List Addr := (List.range h.objs.size).filter fun a => (H a).isSome
def hidT (h : Heap) (H : Hp) : Heap := PySem.W.hideAll h (trk h H)
theorem hidT_size (h : Heap) (H : Hp) : (hidT h H).objs.size = h.objs.size := PySem.W.hideAll_size _ _
theorem hidT_get {h : Heap} {H : Hp} {b : Addr} {o : Obj} (e : h.get? b = some o) (n : H b = none) : (hidT h H).get? b = some o :=
  PySem.W.hideAll_get _ e fun hm => by
    have q : (H b).isSome = true := (List.mem_filter.mp hm).2
    rw [n] at q; simp at q
theorem of_hidT {h : Heap} {H : Hp} {b : Addr} {o : Obj} (e : (hidT h H).get? b = some o) : h.get? b = some o ∧ H b = none := by
  have e' : h.get? b = some o := PySem.W.of_hideAll (trk h H) e
  refine ⟨e', ?_⟩
  cases q : H b with
  | none => rfl
  | some x =>
    have hm : b ∈ trk h H := List.mem_filter.mpr ⟨List.mem_range.mpr (Heap.lt_size e'), by simp [q]⟩
    have z : (hidT h H).get? b = none := PySem.W.hideAll_none (trk h H) hm
    rw [z] at e; cases e

/-! ### OpenK's ledger, filled with every new object but one -/
def allNews (g h : Heap) (L : Addr) : List (Addr × Obj) := (List.range h.objs.size).filterMap fun a => if a = L ∨ (g.get? a).isSome = true then none else (h.get? a).map fun o => (a, o)
def rest (g h : Heap) (L d : Addr) : List (Addr × Obj) := (allNews g h L).filter fun p => decide (p.1 ≠ d)
end L2

namespace L2
open PySem PySem.Spec PyProof.Rows

/-- the module's facts, over the base: the heap at the law's entry without what is tracked there -/
structure Mod (K : PySem.W.Frag) (mg : Str → Option Value) (base : Heap) : Prop where
  kin : K.In base
  glob : base.Ns mainGlobals mg
  blt : ∃ mb, base.Ns builtinsNs mb ∧ ∀ x : Str, x ≠ "__name__" → mb x = bootBuiltins x
  nolimit : base.NoLimit

/-- the context: a def's body (or a comprehension's block) running. base: fixed through the whole law; s₀, H₀: the entry; outer: the frames whose slots others may change (a def's callers); stack: all frames that run;
   ex: iterators that were made ahead of the entry and are walked here (a comprehension's); fn: the names whose cells were made at the entry (a def: all; a comprehension's block: its own); calm: not within an except suite; pn: pins that every state bears; xe: what is wanted of an exception that leaves the code -/
structure Cx where
  prog : Program
  w : World
  K : PySem.W.Frag
  mg : Str → Option Value
  base : Heap
  A : Around
  N : List Str
  s₀ : Shared
  H₀ : Hp
  env : Env
  outer : List Env
  stack : List Env
  ex : List Addr
  fn : Str → Bool
  calm : Bool
  pn : List (Addr × Obj)
  xe : Value → Shared → Prop
/-- the callers' frames -/
def frs (l : List Env) : List Addr := l.filterMap (·.frame)
abbrev Cx.fs (X : Cx) : List Addr := frs X.outer

def Vis (sc : Scope) (x : Str) : Prop := sc.names.lookup x = some .local ∨ sc.names.lookup x = some .cell ∨ sc.names.lookup x = some .free
def Loc (sc : Scope) (x : Str) : Prop := sc.names.lookup x = some .local ∨ sc.names.lookup x = some .cell
def Look (env : Env) (h : Heap) (m : Str → Option Value) (x : Str) (u : Value) : Prop :=
  (env.kindOf x = some .local ∧ m x = some u) ∨ ((env.kindOf x = some .cell ∨ env.kindOf x = some .free) ∧ ∃ c, env.cells.lookup x = some c ∧ h.IsCell c (some u))

structure Cx.Ok (X : Cx) : Prop where
  mod : Mod X.K X.mg X.base
  kind : X.env.scope.kind = .function
  glob : X.env.globals = mainGlobals
  blt : X.env.builtins = builtinsNs
  above : X.s₀.heap.objs.size ≤ X.env.locals
  inj : ∀ x y c, X.env.cells.lookup x = some c → X.env.cells.lookup y = some c → x = y
  has : ∀ x, (X.env.kindOf x = some .cell ∨ X.env.kindOf x = some .free) → ∃ c, X.env.cells.lookup x = some c
  cab : ∀ x c, X.fn x = true → X.env.cells.lookup x = some c → X.s₀.heap.objs.size ≤ c
  hd : X.calm = true → X.A.handled = none
  frames : X.A.frames = some X.stack
  stk : X.stack = X.outer ∨ (X.stack = X.env :: X.outer ∧ X.env.frame = some X.env.locals)
  exf : ∀ b ∈ X.ex, b ≠ X.env.locals ∧ ∀ x c, X.env.cells.lookup x = some c → c ≠ b
  bs : ∀ b o, X.base.get? b = some o → X.s₀.heap.get? b = some o ∧ X.H₀ b = none
  bsz : X.base.objs.size ≤ X.s₀.heap.objs.size
  noex : ∀ b o, X.base.get? b = some o → b ∉ X.ex
  exfs : ∀ b ∈ X.ex, b ∉ X.fs
  funs : X.s₀.heap.FunFrames X.base X.outer
  frf : ∀ b ∈ X.fs, X.H₀ b = none

structure Inv (X : Cx) (pins : List (Addr × Obj)) (σ : List (Option V)) (H : Hp) (s : Shared) : Prop where
  ok : X.Ok
  os : s.os = X.s₀.os
  bare : AllBare s.gens
  base : Un X.fs X.ex X.H₀ H X.s₀.heap s.heap
  loc : ∃ m, s.heap.Ns X.env.locals m ∧ ∀ (i : Nat) (x : Str) (v : V), X.N[i]? = some x → σ[i]? = some (some v) → Vis X.env.scope x → ∃ u, RelV v u ∧ Look X.env s.heap m x u
  cell : ∀ x c, X.env.cells.lookup x = some c → ∃ v, s.heap.IsCell c v
  free : H X.env.locals = none
  freeC : ∀ x c, X.env.cells.lookup x = some c → H c = none
  pin : ∀ p ∈ X.pn ++ pins, s.heap.get? p.1 = some p.2 ∧ H p.1 = none ∧ p.1 ≠ X.env.locals ∧ p.1 ∉ X.fs ∧ ∀ v, p.2.data ≠ .cell v
  hok : HOk X.prog X.w H s.heap
  len : σ.length = X.N.length

section
variable {X : Cx} {pins : List (Addr × Obj)} {σ : List (Option V)} {H H' : Hp} {s : Shared} {h' : Heap}

theorem Cx.Ok.nofr (ok : X.Ok) {b : Addr} {o : Obj} (e : X.base.get? b = some o) : b ∉ X.fs := fun hb => by
  have := (ok.funs.mem hb).1
  rw [e] at this; cases this
theorem Inv.bs (I : Inv X pins σ H s) : ∀ b o, X.base.get? b = some o → s.heap.get? b = some o ∧ H b = none := fun b o e =>
  ⟨I.base.keep b o (I.ok.bs b o e).1 (I.ok.bs b o e).2 (I.ok.nofr e) (I.ok.noex b o e), I.base.free b o (I.ok.bs b o e).1 (I.ok.bs b o e).2 (I.ok.noex b o e)⟩
theorem Inv.bk (I : Inv X pins σ H s) : ∀ b o, X.base.get? b = some o → s.heap.get? b = some o := fun b o e => (I.bs b o e).1
theorem Inv.mod (I : Inv X pins σ H s) : Mod X.K X.mg X.base := I.ok.mod
theorem Inv.kIn (I : Inv X pins σ H s) : X.K.In s.heap := I.ok.mod.kin.keeps I.bk
theorem Inv.lt (I : Inv X pins σ H s) : X.env.locals < s.heap.objs.size := let ⟨_, hn, _⟩ := I.loc; hn.lt
theorem Inv.sz (I : Inv X pins σ H s) : X.s₀.heap.objs.size ≤ s.heap.objs.size := Nat.le_trans I.ok.above (Nat.le_of_lt I.lt)
theorem Inv.nofs (I : Inv X pins σ H s) {a : Addr} (h : s.heap.objs.size ≤ a) : a ∉ X.fs := fun hb => by
  obtain ⟨_, o, ho, _⟩ := I.ok.funs.mem hb
  exact absurd (Nat.lt_of_lt_of_le (Heap.lt_size ho) (Nat.le_trans I.sz h)) (Nat.lt_irrefl _)
theorem Inv.cne (I : Inv X pins σ H s) : ∀ x c, X.env.cells.lookup x = some c → c ≠ X.env.locals := fun x c e z => by
  obtain ⟨v, o, ho, hd⟩ := I.cell x c e
  obtain ⟨m, ⟨o', es, ep, ho', hd', _⟩, _⟩ := I.loc
  rw [z, ho'] at ho; cases ho; rw [hd'] at hd; cases hd
theorem Inv.funs (I : Inv X pins σ H s) : s.heap.FunFrames X.base X.outer := by
  have all : ∀ (l : List Env), (∀ b ∈ frs l, b ∈ X.fs) → X.s₀.heap.FunFrames X.base l → s.heap.FunFrames X.base l := by
    intro l
    induction l with
    | nil => intro _ _; trivial
    | cons env r ih =>
      intro hs hl
      obtain ⟨hk, ⟨L, o, hf, hn, ho, hd⟩, hr⟩ := hl
      have hL : L ∈ X.fs := hs L (by unfold frs; rw [List.filterMap_cons, hf]; exact List.mem_cons_self)
      obtain ⟨sl, e⟩ := I.base.slot L o ho (I.ok.frf L hL) hL fun z => I.ok.exfs L z hL
      exact ⟨hk, ⟨L, _, hf, hn, e, hd⟩, ih (fun b hb => hs b (by unfold frs; rw [List.filterMap_cons, hf]; exact List.mem_cons_of_mem _ hb)) hr⟩
  exact all X.outer (fun _ hb => hb) I.ok.funs

/-- the frames that run, for a call -/
theorem Inv.stack (I : Inv X pins σ H s) : s.heap.FunFrames X.base X.stack := by
  rcases I.ok.stk with e | ⟨e, hf⟩
  · rw [e]; exact I.funs
  · rw [e]
    obtain ⟨m, hn, _⟩ := I.loc
    refine .cons (by rw [I.ok.kind]; decide) hf hn ?_ I.funs
    exact Heap.get?_none_of_le (Nat.le_trans I.ok.bsz I.ok.above)
theorem Inv.stkSub (I : Inv X pins σ H s) : ∀ b ∈ frs X.stack, b ∈ X.env.locals :: X.fs := fun b hb => by
  rcases I.ok.stk with e | ⟨e, hf⟩
  · rw [e] at hb; exact List.mem_cons_of_mem _ hb
  · rw [e] at hb
    unfold frs at hb
    rw [List.filterMap_cons, hf] at hb
    exact hb
theorem Inv.stkFree (I : Inv X pins σ H s) : ∀ b ∈ frs X.stack, H b = none := fun b hb => by
  rcases List.mem_cons.mp (I.stkSub b hb) with e | hb
  · rw [e]; exact I.free
  · obtain ⟨_, o, ho, _⟩ := I.ok.funs.mem hb
    exact I.base.free b o ho (I.ok.frf b hb) fun z => I.ok.exfs b z hb

/-- THE STEP: the untracked objects but the frame and the records at ch are kept (the callers' frames up to slots), the frame's map is kept, the new abstract heap is held -/
theorem Inv.step {g' : Array GenState} {t' : Nat} {d' : Drawn} {ch : List Addr} (I : Inv X pins σ H s)
    (hch : ∀ b ∈ ch, (b ∈ X.ex ∨ X.s₀.heap.objs.size ≤ b) ∧ b ≠ X.env.locals ∧ (∀ x c, X.env.cells.lookup x = some c → c ≠ b) ∧ ∀ p ∈ X.pn ++ pins, p.1 ≠ b)
    (keep : ∀ b o, b ≠ X.env.locals → b ∉ X.fs → b ∉ ch → s.heap.get? b = some o → H b = none → h'.get? b = some o)
    (slot : ∀ b o, b ≠ X.env.locals → b ∈ X.fs → b ∉ ch → s.heap.get? b = some o → H b = none → ∃ sl, h'.get? b = some { o with slots := sl }) (free : ∀ b o, b ∉ ch → s.heap.get? b = some o → H b = none → H' b = none)
    (there : ∀ b o, b ∉ ch → s.heap.get? b = some o → ∃ o', h'.get? b = some o')
    (tups : ∀ b xs, H b = some (.tup xs) → H' b = some (.tup xs)) (frzs : ∀ b o u, H b = some (.frz o u) → H' b = some (.frz o u)) (tbls : ∀ b ps, H b = some (.tbl ps) → ∃ more, H' b = some (.tbl (ps ++ more)))
    (ns : ∀ m, s.heap.Ns X.env.locals m → h'.Ns X.env.locals m) (hok : HOk X.prog X.w H' h') (hg : AllBare g') :
    Inv X pins σ H' { s with heap := h', gens := g', drawn := d', toks := t' } := by
  have neL : ∀ b o, X.s₀.heap.get? b = some o → b ≠ X.env.locals := fun b o e => Nat.ne_of_lt (Nat.lt_of_lt_of_le (Heap.lt_size e) I.ok.above)
  have neC : ∀ b o, X.s₀.heap.get? b = some o → b ∉ X.ex → b ∉ ch := fun b o e hx hb => by
    rcases (hch b hb).1 with z | z
    · exact hx z
    · exact absurd (Nat.lt_of_lt_of_le (Heap.lt_size e) z) (Nat.lt_irrefl _)
  have cellK : ∀ x c, X.env.cells.lookup x = some c → ∀ v, s.heap.IsCell c v → h'.IsCell c v := fun x c e v ⟨o, ho, hd⟩ => by
    have nch : c ∉ ch := fun z => (hch c z).2.2.1 x c e rfl
    by_cases hc : c ∈ X.fs
    · obtain ⟨sl, q⟩ := slot c o (I.cne x c e) hc nch ho (I.freeC x c e)
      exact ⟨_, q, hd⟩
    · exact ⟨o, keep c o (I.cne x c e) hc nch ho (I.freeC x c e), hd⟩
  refine ⟨I.ok, I.os, hg, ⟨fun b o e n hb hx => ?_, fun b o e n hb hx => ?_, fun b o e n hx => ?_, fun b o e hx => ?_, fun b xs e => tups b xs (I.base.tups b xs e), fun b o xs e => frzs b o xs (I.base.frzs b o xs e), fun b ps e => ?_⟩, ?_, fun x c e => ?_, ?_, fun x c e => ?_, fun p hp => ?_, hok, I.len⟩
  · exact keep b o (neL b o e) hb (neC b o e hx) (I.base.keep b o e n hb hx) (I.base.free b o e n hx)
  · obtain ⟨sl, e1⟩ := I.base.slot b o e n hb hx
    obtain ⟨sl', e2⟩ := slot b _ (neL b o e) hb (neC b o e hx) e1 (I.base.free b o e n hx)
    exact ⟨sl', e2⟩
  · obtain ⟨o', e1⟩ := I.base.there b o e hx
    exact free b o' (neC b o e hx) e1 (I.base.free b o e n hx)
  · obtain ⟨o', e1⟩ := I.base.there b o e hx
    exact there b o' (neC b o e hx) e1
  · obtain ⟨m1, e1⟩ := I.base.tbls b ps e
    obtain ⟨m2, e2⟩ := tbls b _ e1
    exact ⟨m1 ++ m2, by rw [e2, Array.append_assoc]⟩
  · obtain ⟨m, hn, hl⟩ := I.loc
    refine ⟨m, ns m hn, fun i x v e1 e2 e3 => ?_⟩
    obtain ⟨u, r, l⟩ := hl i x v e1 e2 e3
    refine ⟨u, r, ?_⟩
    rcases l with l | ⟨k, c, e, z⟩
    · exact .inl l
    · exact .inr ⟨k, c, e, cellK x c e _ z⟩
  · obtain ⟨v, z⟩ := I.cell x c e
    exact ⟨v, cellK x c e v z⟩
  · obtain ⟨m, ⟨o, _, _, ho, _⟩, _⟩ := I.loc
    exact free _ o (fun z => (hch _ z).2.1 rfl) ho I.free
  · obtain ⟨v, o, ho, hd⟩ := I.cell x c e
    exact free c o (fun z => (hch c z).2.2.1 x c e rfl) ho (I.freeC x c e)
  · obtain ⟨e, n, ne, nf, d⟩ := I.pin p hp
    have nch : p.1 ∉ ch := fun z => (hch p.1 z).2.2.2 p hp rfl
    exact ⟨keep p.1 p.2 ne nf nch e n, free p.1 p.2 nch e n, ne, nf, d⟩
/-- .. where the frame's own object is kept too -/
theorem Inv.un {t' : Nat} (I : Inv X pins σ H s) (u : Un X.fs [] H H' s.heap h') (hok : HOk X.prog X.w H' h') : Inv X pins σ H' { s with heap := h', toks := t' } := by
  obtain ⟨m, ⟨o, es, ep, ho, r⟩, _⟩ := id I.loc
  obtain ⟨sl, hL⟩ := u.any ho I.free (by simp)
  exact I.step (g' := s.gens) (d' := s.drawn) (ch := []) (fun _ z => nomatch z) (fun b o _ hb _ e n => u.keep b o e n hb (by simp)) (fun b o _ hb _ e n => u.slot b o e n hb (by simp)) (fun b o _ e n => u.free b o e n (by simp)) (fun b o _ e => u.there b o e (by simp)) u.tups u.frzs u.tbls (fun m' hm => by
    obtain ⟨o', es', ep', ho', r'⟩ := hm
    rw [ho] at ho'; cases ho'
    exact ⟨_, es', ep', hL, r'⟩) hok I.bare
/-- behind a call (or a comprehension's block): the slots of this frame may have changed too, the records at ch may have turned -/
theorem Inv.call {g' : Array GenState} {t' : Nat} {d' : Drawn} {ch : List Addr} (I : Inv X pins σ H s) (u : Un (frs X.stack) ch H H' s.heap h') (hok : HOk X.prog X.w H' h') (hg : AllBare g')
    (hch : ∀ b ∈ ch, (b ∈ X.ex ∨ X.s₀.heap.objs.size ≤ b) ∧ b ≠ X.env.locals ∧ (∀ x c, X.env.cells.lookup x = some c → c ≠ b) ∧ ∀ p ∈ X.pn ++ pins, p.1 ≠ b) :
    Inv X pins σ H' { s with heap := h', gens := g', drawn := d', toks := t' } := by
  obtain ⟨m, ⟨o, es, ep, ho, r⟩, _⟩ := id I.loc
  obtain ⟨sl, hL⟩ := u.any ho I.free fun z => (hch _ z).2.1 rfl
  exact I.step (ch := ch) hch (fun b o hL hb hc e n => u.keep b o e n (fun z => (List.mem_cons.mp (I.stkSub b z)).elim hL hb) hc) (fun b o _ _ hc e n => u.any e n hc) (fun b o hc e n => u.free b o e n hc) (fun b o hc e => u.there b o e hc) u.tups u.frzs u.tbls (fun m' hm => by
    obtain ⟨o', es', ep', ho', r'⟩ := hm
    rw [ho] at ho'; cases ho'
    exact ⟨_, es', ep', hL, r'⟩) hok hg
/-- an untracked record of ours (an iterator) has turned -/
theorem Inv.turned {t' : Nat} {it : Addr} (I : Inv X pins σ H s) (k : ∀ b o, b ≠ it → s.heap.get? b = some o → h'.get? b = some o) (hn : H it = none) (hL : it ≠ X.env.locals)
    (h1 : it ∈ X.ex ∨ X.s₀.heap.objs.size ≤ it) (h2 : ∀ x c, X.env.cells.lookup x = some c → c ≠ it) (h3 : ∀ p ∈ X.pn ++ pins, p.1 ≠ it) : Inv X pins σ H { s with heap := h', toks := t' } := by
  have nit : ∀ b u, H b = some u → b ≠ it := fun b u e z => by rw [z, hn] at e; cases e
  refine I.step (g' := s.gens) (d' := s.drawn) (ch := [it]) (fun b hb => ?_) (fun b o _ _ hc e _ => k b o (fun z => hc (by simp [z])) e) (fun b o _ _ hc e _ => ⟨o.slots, k b o (fun z => hc (by simp [z])) e⟩) (fun _ _ _ _ n => n)
    (fun b o hc e => ⟨o, k b o (fun z => hc (by simp [z])) e⟩) (fun _ _ e => e) (fun _ _ _ e => e) (fun b ps e => ⟨#[], by rw [e]; simp⟩) (fun m hm => ?_) (fun b u e => ?_) I.bare
  · have e : b = it := by simpa using hb
    subst e
    exact ⟨h1, hL, h2, h3⟩
  · obtain ⟨o, es, ep, ho, r⟩ := hm
    exact ⟨o, es, ep, k _ o (Ne.symm hL) ho, r⟩
  · refine (I.hok b u e).stay (fun c v hc q => k c v ?_ q) (fun _ q => q) fun _ _ q => q
    rcases hc with z | z
    · rw [z]; exact nit b u e
    · exact nit c _ z
theorem Inv.tok (I : Inv X pins σ H s) (t : Nat) : Inv X pins σ H { s with toks := t } := I.un (h' := s.heap) (t' := t) Un.refl I.hok
/-- all objects kept -/
theorem Inv.kept {t' : Nat} (I : Inv X pins σ H s) (k : ∀ b u, s.heap.get? b = some u → h'.get? b = some u) : Inv X pins σ H { s with heap := h', toks := t' } := I.un (Un.kept k) (I.hok.kept k)
/-- a new object laid and tracked -/
theorem Inv.laid {a : Addr} {o : HO} {t' : Nat} (I : Inv X pins σ H s) (k : ∀ b u, s.heap.get? b = some u → h'.get? b = some u) (hp : s.heap.objs.size ≤ a) (new : ObjOk X.prog X.w (upd H a o) h' a o) :
    Inv X pins σ (upd H a o) { s with heap := h', toks := t' } := I.un (Un.laid k hp (I.hok.fresh hp)) (I.hok.laid k hp new)
/-- an object written -/
theorem Inv.write {x e : Addr} {o : HO} {t' : Nat} (I : Inv X pins σ H s) (mu : Mut (H x)) (he : e = x ∨ H e = some (.own x)) (k : ∀ b u, b ≠ e → s.heap.get? b = some u → h'.get? b = some u) (heo : ∃ u, h'.get? e = some u)
    (new : ObjOk X.prog X.w (upd H x o) h' x o) : Inv X pins σ (upd H x o) { s with heap := h', toks := t' } := I.un (Un.write mu he k heo) (I.hok.write mu he k heo new)
theorem Inv.pins_of {pins' : List (Addr × Obj)} (I : Inv X pins σ H s) (h : ∀ p ∈ pins', s.heap.get? p.1 = some p.2 ∧ H p.1 = none ∧ p.1 ≠ X.env.locals ∧ p.1 ∉ X.fs ∧ ∀ v, p.2.data ≠ .cell v) : Inv X pins' σ H s :=
  ⟨I.ok, I.os, I.bare, I.base, I.loc, I.cell, I.free, I.freeC, fun p hp => (List.mem_append.mp hp).elim (fun z => I.pin p (List.mem_append_left _ z)) (h p), I.hok, I.len⟩

theorem nodup_ix {N : List Str} (hN : N.Nodup) {i j : Nat} {x : Str} (a : N[i]? = some x) (b : N[j]? = some x) : i = j := by
  obtain ⟨h1, e1⟩ := List.getElem?_eq_some_iff.mp a
  obtain ⟨h2, e2⟩ := List.getElem?_eq_some_iff.mp b
  exact (List.getElem_inj hN).mp (e1.trans e2.symm)

/-- a name is stored; what changed -/
theorem store_ok2 {M : Model} {A : Around} {E : Value → Shared → Prop} {i : Nat} {x : Str} {v : V} {u : Value} {Q : Unit → Shared → Prop} (I : Inv X pins σ H s) (hN : X.N.Nodup) (hi : X.N[i]? = some x) (hx : Loc X.env.scope x) (r : RelV v u)
    (h : ∀ s', Inv X pins (σ.set i (some v)) H s' → (∃ a, Heap.SameBut a s.heap s'.heap ∧ (a = X.env.locals ∨ X.env.cells.lookup x = some a)) → Q () s') (hf : X.fn x = true ∨ X.env.scope.names.lookup x = some .local := by first | exact .inl rfl | exact .inr rfl | assumption) : wpAny M A (storeName X.env x u) Q E s := by
  obtain ⟨m, hn, hl⟩ := id I.loc
  have hcls : (X.env.scope.kind == .class || (X.env.scope.kind == .module && X.env.locals != X.env.globals)) = false := by rw [I.ok.kind]; rfl
  have hiσ : i < σ.length := by rw [I.len]; exact (List.getElem?_eq_some_iff.mp hi).1
  have cne := I.cne
  have tracked : ∀ {a : Addr} {h' : Heap}, (∃ o, s.heap.get? a = some o ∧ H a = none) → Heap.SameBut a s.heap h' → HOk X.prog X.w H h' := fun {a h'} ha hs b ob e => by
    obtain ⟨_, _, hfree⟩ := ha
    refine (I.hok b ob e).stay (fun c w' hc q => (hs.2 c ?_).trans q) (fun _ q => q) fun _ _ q => q
    rintro rfl
    rcases hc with rfl | hc
    · rw [hfree] at e; cases e
    · rw [hfree] at hc; cases hc
  rcases hx with hk | hk
  · refine wpAny_storeName_local hk hn (fun h' hn' hs => ?_) hcls
    obtain ⟨oL, _, _, hoL, _⟩ := id hn
    refine h _ ⟨I.ok, I.os, I.bare, ⟨fun b o e n hb hx => ?_, fun b o e n hb hx => ?_, I.base.free, fun b o e hx => ?_, I.base.tups, I.base.frzs, I.base.tbls⟩, ⟨_, hn', fun j y v' e1 e2 e3 => ?_⟩, fun y c e => ?_, I.free, I.freeC, fun p hp => ?_, tracked ⟨oL, hoL, I.free⟩ hs, by simpa using I.len⟩ ⟨_, hs, .inl rfl⟩
    · exact (hs.2 b (Nat.ne_of_lt (Nat.lt_of_lt_of_le (Heap.lt_size e) I.ok.above))).trans (I.base.keep b o e n hb hx)
    · obtain ⟨sl, e1⟩ := I.base.slot b o e n hb hx
      exact ⟨sl, (hs.2 b (Nat.ne_of_lt (Nat.lt_of_lt_of_le (Heap.lt_size e) I.ok.above))).trans e1⟩
    · obtain ⟨o', e1⟩ := I.base.there b o e hx
      exact ⟨o', (hs.2 b (Nat.ne_of_lt (Nat.lt_of_lt_of_le (Heap.lt_size e) I.ok.above))).trans e1⟩
    · by_cases hj : j = i
      · subst hj
        rw [hi] at e1; cases e1
        rw [List.getElem?_set_self hiσ] at e2
        cases e2
        exact ⟨u, r, .inl ⟨hk, by simp⟩⟩
      · rw [List.getElem?_set_ne (Ne.symm hj)] at e2
        obtain ⟨u', r', q⟩ := hl j y v' e1 e2 e3
        refine ⟨u', r', ?_⟩
        rcases q with ⟨k, e⟩ | ⟨k, c, e, z⟩
        · refine .inl ⟨k, ?_⟩
          have : y ≠ x := fun e => hj (nodup_ix hN e1 (e ▸ hi))
          simp [this, e]
        · exact .inr ⟨k, c, e, z.sameBut hs (cne y c e)⟩
    · obtain ⟨w', z⟩ := I.cell y c e
      exact ⟨w', z.sameBut hs (cne y c e)⟩
    · obtain ⟨e, n, ne, nf, d⟩ := I.pin p hp
      exact ⟨(hs.2 p.1 ne).trans e, n, ne, nf, d⟩
  · have hfn : X.fn x = true := by
      rcases hf with z | z
      · exact z
      · rw [z] at hk; cases hk
    obtain ⟨c, hc⟩ := I.ok.has x (.inl hk)
    obtain ⟨w', z⟩ := I.cell x c hc
    refine wpAny_storeName_cell I.ok.kind hk hc z (fun h' hc' hs => ?_)
    obtain ⟨oc, hoc, hocd⟩ := id z
    refine h { s with heap := h' } ⟨I.ok, I.os, I.bare, ⟨fun b o e n hb hx => ?_, fun b o e n hb hx => ?_, I.base.free, fun b o e hx => ?_, I.base.tups, I.base.frzs, I.base.tbls⟩, ⟨m, hn.sameBut hs (Ne.symm (cne x c hc)), fun j y v' e1 e2 e3 => ?_⟩, fun y c' e => ?_, I.free, I.freeC, fun p hp => ?_, tracked ⟨oc, hoc, I.freeC x c hc⟩ hs, by simpa using I.len⟩ ⟨c, hs, .inr hc⟩
    · exact (hs.2 b (Nat.ne_of_lt (Nat.lt_of_lt_of_le (Heap.lt_size e) (I.ok.cab x c hfn hc)))).trans (I.base.keep b o e n hb hx)
    · obtain ⟨sl, e1⟩ := I.base.slot b o e n hb hx
      exact ⟨sl, (hs.2 b (Nat.ne_of_lt (Nat.lt_of_lt_of_le (Heap.lt_size e) (I.ok.cab x c hfn hc)))).trans e1⟩
    · obtain ⟨o', e1⟩ := I.base.there b o e hx
      exact ⟨o', (hs.2 b (Nat.ne_of_lt (Nat.lt_of_lt_of_le (Heap.lt_size e) (I.ok.cab x c hfn hc)))).trans e1⟩
    · by_cases hj : j = i
      · subst hj
        rw [hi] at e1; cases e1
        rw [List.getElem?_set_self hiσ] at e2
        cases e2
        exact ⟨u, r, .inr ⟨.inl hk, c, hc, hc'⟩⟩
      · rw [List.getElem?_set_ne (Ne.symm hj)] at e2
        obtain ⟨u', r', q⟩ := hl j y v' e1 e2 e3
        refine ⟨u', r', ?_⟩
        rcases q with q | ⟨k, c', e, z'⟩
        · exact .inl q
        · refine .inr ⟨k, c', e, z'.sameBut hs ?_⟩
          rintro rfl
          exact hj (nodup_ix hN e1 (I.ok.inj _ _ _ e hc ▸ hi))
    · by_cases hcc : c' = c
      · subst hcc; exact ⟨_, hc'⟩
      · obtain ⟨w2, z2⟩ := I.cell y c' e
        exact ⟨w2, z2.sameBut hs hcc⟩
    · obtain ⟨e, n, ne, nf, d⟩ := I.pin p hp
      refine ⟨(hs.2 p.1 ?_).trans e, n, ne, nf, d⟩
      intro q
      rw [q, hoc] at e
      have q' : oc = p.2 := Option.some.inj e
      exact d w' (by rw [← q']; exact hocd)
theorem store_ok {M : Model} {A : Around} {E : Value → Shared → Prop} {i : Nat} {x : Str} {v : V} {u : Value} {Q : Unit → Shared → Prop} (I : Inv X pins σ H s) (hN : X.N.Nodup) (hi : X.N[i]? = some x) (hx : Loc X.env.scope x) (r : RelV v u)
    (h : ∀ s', Inv X pins (σ.set i (some v)) H s' → Q () s') (hf : X.fn x = true ∨ X.env.scope.names.lookup x = some .local := by first | exact .inl rfl | exact .inr rfl | assumption) : wpAny M A (storeName X.env x u) Q E s :=
  store_ok2 I hN hi hx r (fun s' I' _ => h s' I') hf
/-- behind a call or a block, the state as it is -/
theorem Inv.call' {s' : Shared} {ch : List Addr} (I : Inv X pins σ H s) (ho : s'.os = s.os) (u : Un (frs X.stack) ch H H' s.heap s'.heap) (hok : HOk X.prog X.w H' s'.heap) (hg : AllBare s'.gens)
    (hch : ∀ b ∈ ch, (b ∈ X.ex ∨ X.s₀.heap.objs.size ≤ b) ∧ b ≠ X.env.locals ∧ (∀ x c, X.env.cells.lookup x = some c → c ≠ b) ∧ ∀ p ∈ X.pn ++ pins, p.1 ≠ b) : Inv X pins σ H' s' := by
  obtain ⟨h', g', d', t', o'⟩ := s'
  have e : o' = s.os := ho
  subst e
  exact I.call (g' := g') (t' := t') (d' := d') u hok hg hch
end

/-! ### the judgements -/
/-- an exception: its class, its own dict's address (where it has one), the abstract heap behind it -/
abbrev XK := Value → Option Addr → Hp → Prop
abbrev St := List (Option V)
abbrev VK := V → Hp → Prop
/-- an expression's reading; a test's; an argument list's -/
abbrev TE := St → Hp → VK → Prop
abbrev TT := St → Hp → (Bool → Hp → Prop) → Prop
abbrev TA := St → Hp → (List V → Hp → Prop) → Prop
/-- what is wanted behind a statement -/
structure Ends where
  nx : St → Hp → Prop
  rt : VK
  bk : St → Hp → Prop := fun _ _ => False
  ct : St → Hp → Prop := fun _ _ => False
abbrev TS := Ends → St → Hp → Prop

def EP (X : Cx) (pins : List (Addr × Obj)) (σ : St) (Q : VK) (u : Value) (s' : Shared) : Prop := ∃ v H', Inv X pins σ H' s' ∧ RelV v u ∧ Q v H'
def TP (X : Cx) (pins : List (Addr × Obj)) (σ : St) (Q : Bool → Hp → Prop) (b : Bool) (s' : Shared) : Prop := ∃ H', Inv X pins σ H' s' ∧ Q b H'
def AP (X : Cx) (pins : List (Addr × Obj)) (σ : St) (Q : List V → Hp → Prop) (us : List Value) (s' : Shared) : Prop := ∃ vs H', Inv X pins σ H' s' ∧ Vals vs us ∧ Q vs H'
def SP (X : Cx) (pins : List (Addr × Obj)) (D : Ends) (f : Flow) (s' : Shared) : Prop :=
  match f with
  | .next => ∃ σ' H', Inv X pins σ' H' s' ∧ D.nx σ' H'
  | .brk => ∃ σ' H', Inv X pins σ' H' s' ∧ D.bk σ' H'
  | .cont => ∃ σ' H', Inv X pins σ' H' s' ∧ D.ct σ' H'
  | .ret u => ∃ v σ' H', Inv X pins σ' H' s' ∧ RelV v u ∧ D.rt v H'

def PE (X : Cx) (e : Expr) (t : TE) : Prop :=
  ∀ (pins : List (Addr × Obj)) (s : Shared) (σ : St) (H : Hp) (Q : VK), Inv X pins σ H s → t σ H Q → wpAny (model X.prog X.w) X.A (eval e X.env) (EP X pins σ Q) X.xe s
def PT (X : Cx) (e : Expr) (t : TT) : Prop :=
  ∀ (pins : List (Addr × Obj)) (s : Shared) (σ : St) (H : Hp) (Q : Bool → Hp → Prop), Inv X pins σ H s → t σ H Q → wpAny (model X.prog X.w) X.A (isTrue e X.env (eval e X.env)) (TP X pins σ Q) X.xe s
/-- a test whatever its 'whole' is (and, or) -/
def PW (X : Cx) (e : Expr) (t : TT) : Prop :=
  ∀ (whole : Sem Value) (pins : List (Addr × Obj)) (s : Shared) (σ : St) (H : Hp) (Q : Bool → Hp → Prop), Inv X pins σ H s → t σ H Q → wpAny (model X.prog X.w) X.A (isTrue e X.env whole) (TP X pins σ Q) X.xe s
theorem PW.pt {X : Cx} {e : Expr} {t : TT} (h : PW X e t) : PT X e t := h _
/-- an argument list (no star), from the left -/
def PA (X : Cx) (es : List Expr) (t : TA) : Prop :=
  ∀ (pos : Pos) (pins : List (Addr × Obj)) (s : Shared) (σ : St) (H : Hp) (Q : List V → Hp → Prop), Inv X pins σ H s → t σ H Q → wpAny (model X.prog X.w) X.A (spliced (backTo pos (starEach es X.env))) (AP X pins σ Q) X.xe s
def PS (X : Cx) (st : Stmt) (t : TS) : Prop :=
  ∀ (pins : List (Addr × Obj)) (s : Shared) (σ : St) (H : Hp) (D : Ends), Inv X pins σ H s → t D σ H → wpAny (model X.prog X.w) X.A (exec st X.env) (SP X pins D) X.xe s
def PSs (X : Cx) (st : List Stmt) (t : TS) : Prop :=
  ∀ (pins : List (Addr × Obj)) (s : Shared) (σ : St) (H : Hp) (D : Ends), Inv X pins σ H s → t D σ H → wpAny (model X.prog X.w) X.A (execs st X.env) (SP X pins D) X.xe s
/-- weaken the end -/
theorem thn {α : Type} {t : Sem α} {Q Q' : α → Shared → Prop} {M : Model} {A : Around} {E : Value → Shared → Prop} {s : Shared} (h : wpAny M A t Q E s) (hQ : ∀ a s, Q a s → Q' a s) : wpAny M A t Q' E s := wpAny_mono h hQ fun _ _ x => x
end L2

namespace L2
open PySem PySem.Spec PyProof.Rows
section
variable {X : Cx}

/-! ### names and constants -/
def tVar (i : Nat) : TE := fun σ H Q => ∃ v, σ[i]? = some (some v) ∧ Q v H
def tC (v : V) : TE := fun _ H Q => Q v H
theorem pe_var {i : Nat} {x : Str} {pos : Pos} (hN : X.N[i]? = some x) (hv : Vis X.env.scope x) (hd : (x == ("__debug__" : Str)) = false := by decide) (hcd : (x == ("__classdict__" : Str)) = false := by decide) : PE X (.Name x pos) (tVar i) := by
  intro pins s σ H Q I h
  obtain ⟨v, e, h⟩ := h
  obtain ⟨m, hn, hl⟩ := I.loc
  obtain ⟨u, r, l⟩ := hl i x v hN e hv
  have fin : EP X pins σ Q u s := ⟨v, H, I, r, h⟩
  rcases l with ⟨hk, hm⟩ | ⟨hk, c, hc, hcell⟩
  · exact wpAny_Name (wpAny_loadName_local I.ok.kind hk hn hm fin) hd
  · rcases hk with hk | hk
    · exact wpAny_Name (wpAny_loadName_cell I.ok.kind hk hc hcell fin) hd
    · exact wpAny_Name (wpAny_loadName_free I.ok.kind hk hc hcell fin hcd) hd
theorem pe_int {i j pos} : PE X (.Constant (.int i) j pos) (tC (.int i)) := fun _ _ _ H _ I h => wpAny_Constant_int ⟨.int i, H, I.tok _, ⟨_, rfl⟩, h⟩
theorem pe_bl {b j pos} : PE X (.Constant (.bool b) j pos) (tC (.bl b)) := fun _ _ _ H _ I h => Constant_bool ⟨.bl b, H, I, rfl, h⟩
theorem pe_non {j pos} : PE X (.Constant .none j pos) (tC .non) := fun _ _ _ H _ I h => Constant_none ⟨.non, H, I, rfl, h⟩
theorem pe_str {x j pos} : PE X (.Constant (.str x) j pos) (tC (.str x)) := fun _ _ _ H _ I h => Calls.Constant_str ⟨.str x, H, I.tok _, ⟨_, rfl⟩, h⟩

/-- a global name of the def -/
def Gl (X : Cx) (x : Str) : Prop := X.env.kindOf x = some .globalImplicit
theorem ld_glob {E : Value → Shared → Prop} {pins : List (Addr × Obj)} {s : Shared} {σ : St} {H : Hp} {x : Str} {u : Value} {pos : Pos} {Q : Value → Shared → Prop} (I : Inv X pins σ H s) (hg : Gl X x) (hm : X.mg x = some u) (h : Q u s)
    (hd : (x == ("__debug__" : Str)) = false := by decide) : wpAny (model X.prog X.w) X.A (eval (.Name x pos) X.env) Q E s :=
  Calls.Name_function_global I.ok.kind hg (Calls.loadGlobal_global (by rw [I.ok.glob]; exact I.mod.glob.keeps I.bk) hm h) hd
theorem ld_blt {E : Value → Shared → Prop} {pins : List (Addr × Obj)} {s : Shared} {σ : St} {H : Hp} {x : Str} {u : Value} {pos : Pos} {Q : Value → Shared → Prop} (I : Inv X pins σ H s) (hg : Gl X x) (hm : X.mg x = none) (hv : bootBuiltins x = some u) (h : Q u s)
    (hn : x ≠ "__name__" := by decide) (hd : (x == ("__debug__" : Str)) = false := by decide) : wpAny (model X.prog X.w) X.A (eval (.Name x pos) X.env) Q E s := by
  obtain ⟨mb, h1, h2⟩ := I.mod.blt
  exact Calls.Name_function_global I.ok.kind hg (Calls.loadGlobal_builtin (by rw [I.ok.glob]; exact I.mod.glob.keeps I.bk) hm (by rw [I.ok.blt]; exact h1.keeps I.bk) ((h2 x hn).trans hv) h) hd
theorem pe_bltn {x : Str} {v : V} {u : Value} {pos : Pos} (hg : Gl X x) (hm : X.mg x = none) (hv : bootBuiltins x = some u) (r : RelV v u) (hn : x ≠ "__name__" := by decide) (hd : (x == ("__debug__" : Str)) = false := by decide) : PE X (.Name x pos) (tC v) :=
  fun _ _ _ H _ I h => ld_blt I hg hm hv ⟨v, H, I, r, h⟩ hn hd

/-! ### arithmetic -/
/-- two ints -/
def t2I (ta tb : TE) (k : Int → Int → Hp → Prop) : St → Hp → Prop := fun σ H => ta σ H fun x H1 => tb σ H1 fun y H2 => ∃ i j, x = .int i ∧ y = .int j ∧ k i j H2
def tAdd (ta tb : TE) : TE := fun σ H Q => t2I ta tb (fun i j H2 => Q (.int (i + j)) H2) σ H
def tSub (ta tb : TE) : TE := fun σ H Q => t2I ta tb (fun i j H2 => Q (.int (i - j)) H2) σ H
/-- the left factor below 2^64 -/
def tMul (ta tb : TE) : TE := fun σ H Q => t2I ta tb (fun i j H2 => (-(2 ^ 64) < i ∧ i < 2 ^ 64) ∧ Q (.int (i * j)) H2) σ H
variable {a b : Expr} {ta tb : TE} {pos : Pos}
/-! ### comparisons -/
def PC (X : Cx) (op : CmpOp) (a b : Expr) (t : TE) : Prop :=
  ∀ (pins : List (Addr × Obj)) (s : Shared) (σ : St) (H : Hp) (Q : VK), Inv X pins σ H s → t σ H Q →
    wpAny (model X.prog X.w) X.A (eval a X.env) (fun v s₁ => wpAny (model X.prog X.w) X.A (eval b X.env) (fun u s₂ => wpAny (model X.prog X.w) X.A (compareOp op v u) (EP X pins σ Q) X.xe s₂) X.xe s₁) X.xe s
def tCmp (p : Int → Int → Bool) (ta tb : TE) : TE := fun σ H Q => t2I ta tb (fun i j H2 => Q (.bl (p i j)) H2) σ H
abbrev tLt : TE → TE → TE := tCmp fun i j => decide (i < j)
abbrev tLe : TE → TE → TE := tCmp fun i j => decide (i ≤ j)
abbrev tGt : TE → TE → TE := tCmp fun i j => decide (j < i)
abbrev tGe : TE → TE → TE := tCmp fun i j => decide (j ≤ i)
abbrev tEqI : TE → TE → TE := tCmp fun i j => decide (i = j)
abbrev tNeI : TE → TE → TE := tCmp fun i j => !decide (i = j)
/-- is None -/
def tIsN (ta : TE) : TE := fun σ H Q => ta σ H fun x H1 => Q (.bl (decide (x = .non))) H1
def tNotN (ta : TE) : TE := fun σ H Q => ta σ H fun x H1 => Q (.bl (!decide (x = .non))) H1
/-- a comparison as a value, as a test -/
def tB (t : TE) : TT := fun σ H Q => t σ H fun x H1 => ∃ c, x = .bl c ∧ Q c H1
/-- an expression whose value is a bool, as a test -/
theorem pt_val {e : Expr} {t : TE} (h : PE X e t) (he : ∀ whole, isTrue e X.env whole = (do let v ← whole; standAt e.pos; holding [v] (truthy v)) := by intro _; rfl) : PT X e (tB t) := by
  intro pins s σ H Q I hw
  refine isTrue_plain (thn (h pins s σ H _ I hw) fun v s1 ⟨x, H1, I1, r1, q1⟩ => ?_) (he _)
  obtain ⟨d, rfl, q⟩ := q1
  cases r1
  exact wpAny_truthy_bool ⟨H1, I1, q⟩

/-! ### and, or, not -/
variable {tA tB' : TT} {rest : List Expr}
def tAnd (t u : TT) : TT := fun σ H Q => t σ H fun c H1 => if c = true then u σ H1 Q else Q false H1
def tOr (t u : TT) : TT := fun σ H Q => t σ H fun c H1 => if c = true then Q true H1 else u σ H1 Q
def tNot (t : TT) : TT := fun σ H Q => t σ H fun c H1 => Q (!c) H1
theorem pw_or1 (ha : PT X a tA) : PW X (.BoolOp .Or [a] pos) tA := by
  intro wh pins s σ H Q I h
  refine isTrue_or (thn (ha pins s σ H Q I h) fun c s1 e => ?_)
  cases c with
  | false => exact isTrue_or_nil e
  | true => exact e
theorem pw_or (ha : PT X a tA) (hb : PW X (.BoolOp .Or (b :: rest) pos) tB') : PW X (.BoolOp .Or (a :: b :: rest) pos) (tOr tA tB') := by
  intro wh pins s σ H Q I h
  refine isTrue_or (thn (ha pins s σ H _ I h) fun c s1 ⟨H1, I1, q1⟩ => ?_)
  cases c with
  | true => exact ⟨H1, I1, q1⟩
  | false => exact hb wh pins s1 σ H1 Q I1 q1
theorem pt_not (ha : PT X a tA) : PT X (.UnaryOp .Not a pos) (tNot tA) := by
  intro pins s σ H Q I h
  exact isTrue_not (ha pins s σ H (fun c H1 => Q (!c) H1) I h)
/-- .. as values (bools) -/
def tAndV (ta tb : TE) : TE := fun σ H Q => ta σ H fun x H1 => ∃ c, x = .bl c ∧ if c = true then tb σ H1 Q else Q (.bl false) H1
def tOrV (ta tb : TE) : TE := fun σ H Q => ta σ H fun x H1 => ∃ c, x = .bl c ∧ if c = true then Q (.bl true) H1 else tb σ H1 Q
def tNotV (ta : TE) : TE := fun σ H Q => ta σ H fun x H1 => ∃ c, x = .bl c ∧ Q (.bl (!c)) H1
theorem pe_one {op} {t : TE} (h : PE X a t) : PE X (.BoolOp op [a] pos) t := fun pins s σ H Q I hw => BoolOp_one (h pins s σ H Q I hw)
theorem pe_and (ha : PE X a ta) (hb : PE X (.BoolOp .And (b :: rest) pos) tb) : PE X (.BoolOp .And (a :: b :: rest) pos) (tAndV ta tb) := by
  intro pins s σ H Q I h
  refine BoolOp_and (thn (ha pins s σ H _ I h) fun v s1 ⟨x, H1, I1, r1, q1⟩ => ?_)
  obtain ⟨c, rfl, q1⟩ := q1
  cases r1
  refine wpAny_truthy_bool ?_
  cases c with
  | true => exact hb pins s1 σ H1 Q I1 q1
  | false => exact ⟨.bl false, H1, I1, rfl, q1⟩
theorem pe_or (ha : PE X a ta) (hb : PE X (.BoolOp .Or (b :: rest) pos) tb) : PE X (.BoolOp .Or (a :: b :: rest) pos) (tOrV ta tb) := by
  intro pins s σ H Q I h
  refine BoolOp_or (thn (ha pins s σ H _ I h) fun v s1 ⟨x, H1, I1, r1, q1⟩ => ?_)
  obtain ⟨c, rfl, q1⟩ := q1
  cases r1
  refine wpAny_truthy_bool ?_
  cases c with
  | false => exact hb pins s1 σ H1 Q I1 q1
  | true => exact ⟨.bl true, H1, I1, rfl, q1⟩
theorem pe_not (ha : PE X a ta) : PE X (.UnaryOp .Not a pos) (tNotV ta) := by
  intro pins s σ H Q I h
  refine UnaryOp_ (thn (ha pins s σ H _ I h) fun v s1 ⟨x, H1, I1, r1, q1⟩ => ?_)
  obtain ⟨c, rfl, q1⟩ := q1
  cases r1
  exact not_of (wpAny_truthy_bool ⟨.bl (!c), H1, I1, rfl, q1⟩)
/-- a if t else b -/
def tIf (t : TT) (ta tb : TE) : TE := fun σ H Q => t σ H fun c H1 => if c = true then ta σ H1 Q else tb σ H1 Q
theorem pe_ifExp {c : Expr} (hc : PT X c tA) (ha : PE X a ta) (hb : PE X b tb) : PE X (.IfExp c a b pos) (tIf tA ta tb) := by
  intro pins s σ H Q I h
  refine wpAny_IfExp (thn (hc pins s σ H _ I h) fun d s1 ⟨H1, I1, q1⟩ => ?_)
  cases d with
  | true => exact ha pins s1 σ H1 Q I1 q1
  | false => exact hb pins s1 σ H1 Q I1 q1
end
end L2

namespace L2
open PySem PySem.Spec PyProof.Rows

/-! ### a list, a tuple that is read: tracked, frozen, or an object of the module -/
def SqL (K : PySem.W.Frag) (H : Hp) (a : Addr) (xs : List V) : Prop :=
  Rd H a (.lst xs) ∨
    ∃ (o : Obj) (its : Array Value) (n : Nat), K.lookup a = some o ∧ o.cls = .type "list" ∧ o.dict = none ∧ o.data = .seq its n ∧ its.size ≤ sizeLine ∧ Vals xs its.toList
def SqT (K : PySem.W.Frag) (H : Hp) (a : Addr) (xs : List V) : Prop :=
  Rd H a (.tup xs) ∨
    ∃ (o : Obj) (its : Array Value) (n : Nat), K.lookup a = some o ∧ o.cls = .type "tuple" ∧ o.data = .seq its n ∧ its.size ≤ sizeLine ∧ Vals xs its.toList
def absV : Value → Option V
  | .none => some .non
  | .bool b => some (.bl b)
  | .int i _ => some (.int i)
  | .str x _ => some (.str x)
  | .bytes b _ => some (.byt b)
  | .float b _ => some (.flt b)
  | .ref a => some (.ref a)
  | .type n => some (.ty n)
  | _ => none
theorem RelV.abs {x : V} {u : Value} (r : RelV x u) : absV u = some x := by
  cases x with
  | non => cases r; rfl
  | bl _ => cases r; rfl
  | int _ => obtain ⟨t, rfl⟩ := r; rfl
  | str _ => obtain ⟨t, rfl⟩ := r; rfl
  | byt _ => obtain ⟨t, rfl⟩ := r; rfl
  | flt _ => obtain ⟨t, rfl⟩ := r; rfl
  | ref _ => cases r; rfl
  | ty _ => cases r; rfl
theorem RelV.inj {x y : V} {u : Value} (r : RelV x u) (q : RelV y u) : x = y := Option.some.inj (r.abs.symm.trans q.abs)
theorem Vals.inj : ∀ {xs ys : List V} {us : List Value}, Vals xs us → Vals ys us → xs = ys
  | _, _, _, .nil, .nil => rfl
  | _, _, _, .cons r t, .cons r' t' => by rw [r.inj r', Vals.inj t t']
section
variable {X : Cx} {pins : List (Addr × Obj)} {σ : St} {H : Hp} {s : Shared} {a : Addr} {xs ys : List V}
theorem SqL.of {K : PySem.W.Frag} (h : H a = some (.lst xs)) : SqL K H a xs := .inl (.inl h)
theorem SqT.of {K : PySem.W.Frag} (h : H a = some (.tup xs)) : SqT K H a xs := .inl (.inl h)
theorem Inv.list (I : Inv X pins σ H s) (h : SqL X.K H a xs) : ∃ its : List Value, Vals xs its ∧ PlainL s.heap a its.toArray ∧ xs.length ≤ sizeLine := by
  rcases h with h | ⟨o, its, n, hk, hc, hd, hs, hz, r⟩
  · obtain ⟨z, its, n, r, e⟩ := h.ok I.hok
    exact ⟨its, r, ⟨_, n, e, rfl, rfl, rfl⟩, z⟩
  · refine ⟨its.toList, r, ⟨o, n, I.kIn a o hk, hc, hd, by simpa using hs⟩, ?_⟩
    have e := r.length
    simp only [Array.length_toList] at e
    omega
theorem Inv.tuple (I : Inv X pins σ H s) (h : SqT X.K H a xs) : ∃ its : List Value, Vals xs its ∧ IsTup s.heap a its.toArray ∧ xs.length ≤ sizeLine := by
  rcases h with h | ⟨o, its, n, hk, hc, hs, hz, r⟩
  · obtain ⟨z, its, r, p⟩ := h.ok I.hok
    exact ⟨its, r, p, z⟩
  · refine ⟨its.toList, r, ⟨o, I.kIn a o hk, hc, n, by simpa using hs⟩, ?_⟩
    have e := r.length
    simp only [Array.length_toList] at e
    omega
theorem Inv.list_inj (I : Inv X pins σ H s) (h : SqL X.K H a xs) (h' : SqL X.K H a ys) : xs = ys := by
  obtain ⟨its, r, ⟨o, n, e, _, _, d⟩, _⟩ := I.list h
  obtain ⟨its', r', ⟨o', n', e', _, _, d'⟩, _⟩ := I.list h'
  rw [e] at e'; cases e'
  rw [d] at d'
  injection d' with d1 _
  have : its = its' := by simpa using congrArg Array.toList d1
  subst this
  exact r.inj r'
theorem Inv.tuple_inj (I : Inv X pins σ H s) (h : SqT X.K H a xs) (h' : SqT X.K H a ys) : xs = ys := by
  obtain ⟨its, r, ⟨o, e, _, n, d⟩, _⟩ := I.tuple h
  obtain ⟨its', r', ⟨o', e', _, n', d'⟩, _⟩ := I.tuple h'
  rw [e] at e'; cases e'
  rw [d] at d'
  injection d' with d1 _
  have : its = its' := by simpa using congrArg Array.toList d1
  subst this
  exact r.inj r'
end

/-! ### another wish about exceptions -/
abbrev Cx.wish (X : Cx) (E : Value → Shared → Prop) : Cx := { X with xe := E }
/-- no exception leaves -/
abbrev Cx.nox (X : Cx) : Cx := X.wish fun _ _ => False
theorem Cx.Ok.wish {X : Cx} (ok : X.Ok) (E : Value → Shared → Prop) : (X.wish E).Ok :=
  ⟨ok.mod, ok.kind, ok.glob, ok.blt, ok.above, ok.inj, ok.has, ok.cab, ok.hd, ok.frames, ok.stk, ok.exf, ok.bs, ok.bsz, ok.noex, ok.exfs, ok.funs, ok.frf⟩
theorem Cx.Ok.unwish {X : Cx} {E : Value → Shared → Prop} (ok : (X.wish E).Ok) : X.Ok :=
  ⟨ok.mod, ok.kind, ok.glob, ok.blt, ok.above, ok.inj, ok.has, ok.cab, ok.hd, ok.frames, ok.stk, ok.exf, ok.bs, ok.bsz, ok.noex, ok.exfs, ok.funs, ok.frf⟩
section
variable {X : Cx} {pins : List (Addr × Obj)} {σ : St} {H : Hp} {s : Shared} {E : Value → Shared → Prop}
theorem Inv.wish (I : Inv X pins σ H s) (E : Value → Shared → Prop) : Inv (X.wish E) pins σ H s := ⟨I.ok.wish E, I.os, I.bare, I.base, I.loc, I.cell, I.free, I.freeC, I.pin, I.hok, I.len⟩
theorem Inv.unwish (I : Inv (X.wish E) pins σ H s) : Inv X pins σ H s := ⟨I.ok.unwish, I.os, I.bare, I.base, I.loc, I.cell, I.free, I.freeC, I.pin, I.hok, I.len⟩
theorem SP.unwish {D : Ends} {f : Flow} {s' : Shared} (h : SP (X.wish E) pins D f s') : SP X pins D f s' := by
  cases f with
  | next => obtain ⟨σ', H', I, q⟩ := h; exact ⟨σ', H', I.unwish, q⟩
  | brk => obtain ⟨σ', H', I, q⟩ := h; exact ⟨σ', H', I.unwish, q⟩
  | cont => obtain ⟨σ', H', I, q⟩ := h; exact ⟨σ', H', I.unwish, q⟩
  | ret u => obtain ⟨v, σ', H', I, r, q⟩ := h; exact ⟨v, σ', H', I.unwish, r, q⟩
theorem PSs.nox {st : List Stmt} {t : TS} (h : PSs X.nox st t) : PSs X st t := fun pins s σ H D I hw =>
  wpAny_mono (h pins s σ H D (I.wish _) hw) (fun _ _ q => q.unwish) fun _ _ z => False.elim z
end

/-! ### blocks and small statements -/
section
variable {X : Cx} {st : Stmt} {rest : List Stmt} {t u : TS} {e : Expr} {te : TE} {pos : Pos}
def tNext : TS := fun D σ H => D.nx σ H
def tSeq (t u : TS) : TS := fun D σ H => t { D with nx := u D } σ H
theorem pss_nil : PSs X [] tNext := fun _ _ σ H _ I h => wpAny_execs_nil ⟨σ, H, I, h⟩
theorem pss_cons (h1 : PS X st t) (h2 : PSs X rest u) : PSs X (st :: rest) (tSeq t u) := by
  intro pins s σ H D I h
  refine wpAny_execs_cons (thn (h1 pins s σ H { D with nx := u D } I h) fun f s1 q => ?_)
  cases f with
  | next =>
    obtain ⟨σ', H', I', q⟩ := q
    exact h2 pins s1 σ' H' D I' q
  | ret v => exact q
  | brk => exact q
  | cont => exact q
theorem pss_one (h1 : PS X st t) : PSs X [st] t := by
  intro pins s σ H D I h
  refine wpAny_execs_cons (thn (h1 pins s σ H D I h) fun f s1 q => ?_)
  cases f with
  | next => exact wpAny_execs_nil q
  | ret v => exact q
  | brk => exact q
  | cont => exact q
def tBreak : TS := fun D σ H => D.bk σ H
def tCont : TS := fun D σ H => D.ct σ H
/-- in a def's body nothing is shown -/
theorem Inv.quiet {pins : List (Addr × Obj)} {σ : St} {H : Hp} {s : Shared} (I : Inv X pins σ H s) : interactive X.env = false := by simp [interactive, I.ok.kind]
/-- an expression whose value is dropped -/
def tDrop (te : TE) : TS := fun D σ H => te σ H fun _ H1 => D.nx σ H1
theorem ps_expr (he : PE X e te) (hs : swapsWith e none pos.line X.env = pure false := by rfl) : PS X (.Expr e pos) (tDrop te) := by
  intro pins s σ H D I h
  exact wpAny_Expr_any (thn (he pins s σ H _ I h) fun v s1 ⟨x, H1, I1, r1, q1⟩ => ⟨σ, H1, I1, q1⟩) I.quiet hs
def tRet (te : TE) : TS := fun D σ H => te σ H D.rt
theorem ps_ret (he : PE X e te) : PS X (.Return (some e) pos) (tRet te) := by
  intro pins s σ H D I h
  exact wpAny_Return_some (thn (he pins s σ H _ I h) fun v s1 ⟨x, H1, I1, r1, q1⟩ => ⟨x, σ, H1, I1, r1, q1⟩)
def tRetN : TS := fun D _ H => D.rt .non H
def tIfS (c : TT) (t u : TS) : TS := fun D σ H => c σ H fun b H1 => if b = true then t D σ H1 else u D σ H1
theorem ps_if {c : Expr} {a b : List Stmt} {tc : TT} (hc : PT X c tc) (ha : PSs X a t) (hb : PSs X b u) : PS X (.If c a b pos) (tIfS tc t u) := by
  intro pins s σ H D I h
  refine wpAny_If (thn (hc pins s σ H _ I h) fun d s1 ⟨H1, I1, q1⟩ => ?_)
  cases d with
  | true => exact ha pins s1 σ H1 D I1 q1
  | false => exact hb pins s1 σ H1 D I1 q1
/-- code that the proof never comes to -/
def tNever : TS := fun _ _ _ => False
theorem ps_never : PS X st tNever := fun _ _ _ _ _ _ h => h.elim
end

/-! ### targets -/
abbrev TG := V → St → Hp → (St → Hp → Prop) → Prop
abbrev TGs := List V → St → Hp → (St → Hp → Prop) → Prop
def PG (X : Cx) (target : Expr) (t : TG) : Prop :=
  ∀ (pins : List (Addr × Obj)) (s : Shared) (σ : St) (H : Hp) (v : V) (u : Value) (Q : St → Hp → Prop), Inv X pins σ H s → RelV v u → t v σ H Q →
    wpAny (model X.prog X.w) X.A (assign target X.env u) (fun _ s' => ∃ σ' H', Inv X pins σ' H' s' ∧ Q σ' H') X.xe s
/-- several targets, one after another -/
def PGs (X : Cx) (ts : List Expr) (t : TGs) : Prop :=
  ∀ (pins : List (Addr × Obj)) (s : Shared) (σ : St) (H : Hp) (vs : List V) (us : List Value) (Q : St → Hp → Prop), Inv X pins σ H s → Vals vs us → t vs σ H Q →
    wpAny (model X.prog X.w) X.A (assignInOrder ((assignEach ts X.env).map (·.2)) us) (fun _ s' => ∃ σ' H', Inv X pins σ' H' s' ∧ Q σ' H') X.xe s
/-- o[i] = v, by values -/
abbrev TSet := V → V → V → Hp → (Hp → Prop) → Prop
def PSet (X : Cx) (t : TSet) : Prop :=
  ∀ (pins : List (Addr × Obj)) (s : Shared) (σ : St) (H : Hp) (o i v : V) (ov iv u : Value) (Q : Hp → Prop), Inv X pins σ H s → RelV o ov → RelV i iv → RelV v u → t o i v H Q →
    wpAny (model X.prog X.w) X.A (setItem ov iv u) (fun _ s' => ∃ H', Inv X pins σ H' s' ∧ Q H') X.xe s
/-- a op= b, by values -/
abbrev TIp := V → V → Hp → VK → Prop
def PIp (X : Cx) (op : Operator) (t : TIp) : Prop :=
  ∀ (pins : List (Addr × Obj)) (s : Shared) (σ : St) (H : Hp) (x y : V) (v u : Value) (Q : VK), Inv X pins σ H s → RelV x v → RelV y u → t x y H Q →
    wpAny (model X.prog X.w) X.A (inplaceOp op v u) (EP X pins σ Q) X.xe s
section
variable {X : Cx} {pos : Pos}
def gName (i : Nat) : TG := fun v σ H Q => Q (σ.set i (some v)) H
theorem pg_name {i : Nat} {x : Str} (hN : X.N.Nodup) (hi : X.N[i]? = some x) (hx : Loc X.env.scope x) (hf : X.fn x = true ∨ X.env.scope.names.lookup x = some .local := by first | exact .inl rfl | exact .inr rfl | assumption) : PG X (.Name x pos) (gName i) := by
  intro pins s σ H v u Q I r h
  exact wpAny_assign_Name (store_ok I hN hi hx r (fun s' I' => ⟨_, H, I', h⟩) hf)
def gNil : TGs := fun vs σ H Q => vs = [] ∧ Q σ H
def gCons (t : TG) (u : TGs) : TGs := fun vs σ H Q => ∃ v r, vs = v :: r ∧ t v σ H fun σ' H' => u r σ' H' Q
theorem pgs_nil : PGs X [] gNil := by
  intro pins s σ H vs us Q I r h
  obtain ⟨e, h⟩ := h
  subst e
  cases r
  exact assignInOrder_nil ⟨σ, H, I, h⟩
theorem pgs_cons {e : Expr} {es : List Expr} {t : TG} {u : TGs} (h1 : PG X e t) (h2 : PGs X es u)
    (hs : (assignEach (e :: es) X.env).map (·.2) = assign e X.env :: (assignEach es X.env).map (·.2) := by rfl) : PGs X (e :: es) (gCons t u) := by
  intro pins s σ H vs us Q I r h
  obtain ⟨v, vr, e1, h⟩ := h
  subst e1
  cases r with
  | cons r rr =>
    rw [hs]
    refine assignInOrder_cons (thn (h1 pins s σ H _ _ _ I r h) fun _ s1 ⟨σ1, H1, I1, q1⟩ => ?_)
    exact h2 pins s1 σ1 H1 _ _ Q I1 rr q1
/-- (a, b, ..) = a tuple of that length -/
def gTup (K : PySem.W.Frag) (n : Nat) (t : TGs) : TG := fun v σ H Q => ∃ a xs, v = .ref a ∧ SqT K H a xs ∧ xs.length = n ∧ t xs σ H Q
theorem pg_tup {es : List Expr} {k : Nat} {t : TGs} {n : Nat} (hc : X.calm = true) (h : PGs X es t)
    (hn : (assignEach es X.env).length = n := by rfl) (hst : (assignEach es X.env).findIdx? (·.1) = none := by rfl) : PG X (.Tuple es k pos) (gTup X.K n t) := by
  intro pins s σ H v u Q I r hw
  obtain ⟨a, xs, e1, hq, hl, hw⟩ := hw
  subst e1
  cases r
  obtain ⟨its, rv, ht, hz⟩ := I.tuple hq
  refine assign_Tuple_tuple (I.ok.hd hc) ht (by simp [hn, ← hl, rv.length]) hst fun h' hx => ?_
  have I1 : Inv X pins σ H { s with heap := h' } := I.kept (t' := s.toks) fun b o e => hx b o (Nat.ne_of_lt (Heap.lt_size e)) e
  exact h pins _ σ H xs _ Q I1 (by simpa using rv) hw
/-- o[i] = .. -/
def gSub (to ti : TE) (t : TSet) : TG := fun v σ H Q => to σ H fun o H1 => ti σ H1 fun i H2 => t o i v H2 fun H3 => Q σ H3
theorem pg_sub {o i : Expr} {to ti : TE} {t : TSet} (ho : PE X o to) (hi : PE X i ti) (hs : PSet X t)
    (ha : ∀ v, assign (.Subscript o i pos) X.env v = (do
      let ov ← holding [v] (eval o X.env)
      let iv ← holding [v, ov] (eval i X.env)
      standAt pos
      holding [v, ov, iv] (setItem ov iv v)
      release [v, ov, iv] []) := by intro _; rfl) : PG X (.Subscript o i pos) (gSub to ti t) := by
  intro pins s σ H v u Q I r h
  rw [ha]
  refine wpAny_bind (wpAny_holding (thn (ho pins s σ H _ I h) fun ov s1 ⟨x, H1, I1, r1, q1⟩ => ?_))
  refine wpAny_bind (wpAny_holding (thn (hi pins s1 σ H1 _ I1 q1) fun iv s2 ⟨y, H2, I2, r2, q2⟩ => ?_))
  refine wpAny_bind (wpAny_standAt (wpAny_bind (wpAny_holding (thn (hs pins s2 σ H2 x y v ov iv u _ I2 r1 r2 r q2) fun _ s3 ⟨H3, I3, q3⟩ => ?_))))
  exact wpAny_release ⟨σ, H3, I3, q3⟩
/-- target = value -/
def tAsg (te : TE) (g : TG) : TS := fun D σ H => te σ H fun x H1 => g x σ H1 D.nx
theorem ps_asg {tg e : Expr} {te : TE} {g : TG} (he : PE X e te) (hg : PG X tg g) (hs : swapsWithSole [tg] e pos.line X.env = pure false := by rfl) (hw : swappedStores [tg] e X.env = pure none := by rfl)
    (h1 : (assignEach [tg] X.env).map (·.2) = [assign tg X.env] := by rfl) : PS X (.Assign [tg] e pos) (tAsg te g) := by
  intro pins s σ H D I h
  refine wpAny_Assign_stores (thn (he pins s σ H _ I h) fun v s1 ⟨x, H1, I1, r1, q1⟩ => ?_) hs hw
  rw [h1]
  exact thn (hg pins s1 σ H1 x v _ I1 r1 q1) fun _ s2 q => q
/-- name = value -/
theorem ps_set {i : Nat} {x : Str} {e : Expr} {te : TE} {pos' : Pos} (hN : X.N.Nodup) (hi : X.N[i]? = some x) (hx : Loc X.env.scope x) (he : PE X e te) (hs : swapsWith e (some (.Name x pos')) pos.line X.env = pure false := by rfl) (hf : X.fn x = true ∨ X.env.scope.names.lookup x = some .local := by first | exact .inl rfl | exact .inr rfl | assumption) :
    PS X (.Assign [.Name x pos'] e pos) (tAsg te (gName i)) := by
  intro pins s σ H D I h
  refine wpAny_Assign_Name (thn (he pins s σ H _ I h) fun v s1 ⟨y, H1, I1, r1, q1⟩ => ?_) hs
  exact store_ok I1 hN hi hx r1 (fun s2 I2 => ⟨_, H1, I2, q1⟩) hf
/-- a, b = x, y with plain local names: stored from the right; the pair itself is not tracked (the opening rows as in PyProof/Rows/TupAssign.lean:23) -/
def tPar (i j : Nat) (ta : TA) : TS := fun D σ H => ta σ H fun vs H1 => ∃ v w, vs = [v, w] ∧ D.nx ((σ.set i (some v)).set j (some w)) H1
/-- name op= e -/
def tAug (i : Nat) (te : TE) (ti : TIp) : TS := fun D σ H => ∃ x, σ[i]? = some (some x) ∧ te σ H fun y H1 => ti x y H1 fun z H2 => D.nx (σ.set i (some z)) H2
/-- o[i] op= e -/
def tAugS (to ti te : TE) (tget : V → V → Hp → VK → Prop) (tip : TIp) (tset : TSet) : TS := fun D σ H => to σ H fun o H1 => ti σ H1 fun i H2 => tget o i H2 fun x H3 => te σ H3 fun y H4 => tip x y H4 fun z H5 => tset o i z H5 fun H6 => D.nx σ H6
/-- o[i], by values -/
def PGet (X : Cx) (t : V → V → Hp → VK → Prop) : Prop :=
  ∀ (pins : List (Addr × Obj)) (s : Shared) (σ : St) (H : Hp) (o i : V) (ov iv : Value) (Q : VK), Inv X pins σ H s → RelV o ov → RelV i iv → t o i H Q →
    wpAny (model X.prog X.w) X.A (getItem ov iv) (EP X pins σ Q) X.xe s
/-- ints -/
def ipI (f : Int → Int → Int) : TIp := fun x y H Q => ∃ i j, x = .int i ∧ y = .int j ∧ Q (.int (f i j)) H
end

/-! ### while -/
section
variable {X : Cx} {pos : Pos}
/-- the invariant W with its measure -/
def tWhile (c : TT) (tb : TS) : TS := fun D σ H => ∃ W : Nat → St → Hp → Prop, (∃ m, W m σ H) ∧ ∀ m σ H, W m σ H →
  c σ H fun b H1 => if b = true then ∃ N : St → Hp → Prop, (∀ σ' H', N σ' H' → ∃ m', m' < m ∧ W m' σ' H') ∧ tb { D with nx := N, ct := N, bk := D.nx } σ H1 else D.nx σ H1
theorem ps_while {c : Expr} {body : List Stmt} {tc : TT} {tb : TS} (hp : PassesOwn (model X.prog X.w) X.A X.env X.xe) (hc : PT X c tc) (hb : PSs X body tb) : PS X (.While c body [] pos) (tWhile tc tb) := by
  intro pins s σ H D I h
  obtain ⟨W, ⟨m0, w0⟩, turn⟩ := h
  refine wpAny_While (codeAny_whileLoop (fun n s' => ∃ σ' H', Inv X pins σ' H' s' ∧ W n σ' H') ?_ m0 ⟨σ, H, I, w0⟩)
  rintro n s1 ⟨σ1, H1, I1, w1⟩
  refine wpAny_passesOwn hp (thn (hc pins s1 σ1 H1 _ I1 (turn n σ1 H1 w1)) fun b s2 ⟨H2, I2, q2⟩ => ?_)
  cases b with
  | true =>
    obtain ⟨N, hN, q2⟩ := q2
    rw [if_pos rfl]
    refine wpAny_passesOwn hp (thn (hb pins s2 σ1 H2 _ I2 q2) fun f s3 q3 => ?_)
    cases f with
    | next =>
      obtain ⟨σ3, H3, I3, n3⟩ := q3
      obtain ⟨m', hm, w3⟩ := hN σ3 H3 n3
      exact ⟨m', hm, σ3, H3, I3, w3⟩
    | cont =>
      obtain ⟨σ3, H3, I3, n3⟩ := q3
      obtain ⟨m', hm, w3⟩ := hN σ3 H3 n3
      exact ⟨m', hm, σ3, H3, I3, w3⟩
    | brk => exact q3
    | ret v => exact q3
  | false =>
    rw [if_neg Bool.false_ne_true]
    exact wpAny_execs_nil ⟨σ1, H2, I2, q2⟩
end

/-! ### what a loop or a comprehension walks -/
/-- at turn i: it yields x (the heap may grow), or it stops -/
structure It where
  go : Nat → Hp → Prop
  yld : Nat → Hp → V → Hp → Prop
  stop : Nat → Hp → Prop
/-- the iterator's own objects may turn: they are not the frame's, not pinned, younger than the entry (or a comprehension's own) -/
def FpOk (X : Cx) (pins : List (Addr × Obj)) (H : Hp) (b : Addr) : Prop :=
  H b = none ∧ b ≠ X.env.locals ∧ b ∉ X.fs ∧ (b ∈ X.ex ∨ X.s₀.heap.objs.size ≤ b) ∧ (∀ x c, X.env.cells.lookup x = some c → c ≠ b) ∧ ∀ p ∈ X.pn ++ pins, p.1 ≠ b
theorem Inv.fpOk {X : Cx} {pins : List (Addr × Obj)} {σ : St} {H H' : Hp} {s : Shared} {b : Addr} (I : Inv X pins σ H s) (hb : s.heap.objs.size ≤ b) (hn : H' b = none) : FpOk X pins H' b := by
  refine ⟨hn, Nat.ne_of_gt (Nat.lt_of_lt_of_le I.lt hb), I.nofs hb, .inr (Nat.le_trans I.sz hb), fun x c e z => ?_, fun p hp z => ?_⟩
  · obtain ⟨v, q⟩ := I.cell x c e
    exact absurd (Nat.lt_of_lt_of_le q.lt (by rw [z]; exact hb)) (Nat.lt_irrefl _)
  · exact absurd (Nat.lt_of_lt_of_le (Heap.lt_size (I.pin p hp).1) (by rw [z]; exact hb)) (Nat.lt_irrefl _)
structure Turn (P : Program) (w : World) (K : PySem.W.Frag) (tg : Expr) (J : It) (fp : List Addr) (it : Addr) (tn : Nat → Heap → Prop) : Prop where
  mem : it ∈ fp
  obj : ∀ i h, tn i h → ∀ b ∈ fp, ∃ o, h.get? b = some o ∧ ∀ v, o.data ≠ .cell v
  keep : ∀ i h h', tn i h → (∀ b ∈ fp, ∀ o, h.get? b = some o → h'.get? b = some o) → tn i h'
  item : ∀ (X : Cx), X.prog = P → X.w = w → X.K = K → X.calm = true → ∀ (i : Nat) (pins : List (Addr × Obj)) (s : Shared) (σ : St) (H : Hp) (E : Value → Shared → Prop), Inv X pins σ H s → (∀ b ∈ fp, FpOk X pins H b) → tn i s.heap → J.go i H →
    wpAny (model P w) X.A (pyNext (.ref it)) (fun r s1 => ∃ u, r = some u ∧
      wpAny (model P w) X.A (letOwnedTupleGo tg (.ref it) u) (fun _ s2 => ∃ x H', Inv X pins σ H' s2 ∧ RelV x u ∧ J.yld i H x H' ∧ tn (i + 1) s2.heap ∧ ∀ b ∈ fp, H' b = none) E s1) E s
  done : ∀ (X : Cx), X.prog = P → X.w = w → X.K = K → X.calm = true → ∀ (i : Nat) (pins : List (Addr × Obj)) (s : Shared) (σ : St) (H : Hp) (E : Value → Shared → Prop), Inv X pins σ H s → (∀ b ∈ fp, FpOk X pins H b) → tn i s.heap → J.stop i H →
    wpAny (model P w) X.A (pyNext (.ref it)) (fun r s1 => r = none ∧ Inv X pins σ H s1) E s
  self : ∀ (A : Around) (i : Nat) (s : Shared) (Q : Value → Shared → Prop) (E : Value → Shared → Prop), tn i s.heap → Q (.ref it) s → wpAny (model P w) A (pyIter (.ref it)) Q E s
abbrev TI := St → Hp → (It → Hp → Prop) → Prop
/-- an iterator has come -/
def PIE (X : Cx) (pins : List (Addr × Obj)) (σ : St) (tg : Expr) (R : It → Hp → Prop) (itv : Value) (s2 : Shared) : Prop :=
  ∃ (it : Addr) (fp : List Addr) (tn : Nat → Heap → Prop) (J : It) (H' : Hp), itv = .ref it ∧ Inv X pins σ H' s2 ∧ Turn X.prog X.w X.K tg J fp it tn ∧ tn 0 s2.heap ∧ (∀ b ∈ fp, FpOk X pins H' b) ∧ R J H'
def PI (X : Cx) (tg iter : Expr) (wi : TI) : Prop :=
  ∀ (pins : List (Addr × Obj)) (s : Shared) (σ : St) (H : Hp) (R : It → Hp → Prop), Inv X pins σ H s → wi σ H R →
    wpAny (model X.prog X.w) X.A (eval iter X.env) (fun v s1 => wpAny (model X.prog X.w) X.A (pyIter v) (PIE X pins σ tg R) X.xe s1) X.xe s

/-- the step ahead of the store is nothing for an iterator that keeps no tuple -/
theorem go_of {M : Model} {A : Around} {E : Value → Shared → Prop} {s : Shared} {tg : Expr} {it : Addr} {u : Value} {o : Obj} {n : String} {vs : Array Value} {Q : Unit → Shared → Prop} (ho : s.heap.get? it = some o) (hc : o.cls = .type n) (hd : o.data = .fields vs)
    (hn : ["enumerate", "zip", "dict_itemiterator", "dict_reverseitemiterator", "odict_iterator", "itertools.zip_longest", "itertools.pairwise"].contains n = false) (hQ : Q () s) : wpAny M A (letOwnedTupleGo tg (.ref it) u) Q E s := by
  unfold letOwnedTupleGo
  cases tg <;> first
    | exact wpAny_pure hQ
    | (cases u <;> first
        | exact wpAny_pure hQ
        | (refine wpAny_bind (wpAny_load ho ?_)
           rw [hc, hd]
           show wpAny M A (if (["enumerate", "zip", "dict_itemiterator", "dict_reverseitemiterator", "odict_iterator", "itertools.zip_longest", "itertools.pairwise"].contains n && vs[0]? == some (rawInt _)) = true then _ else _) Q E s
           rw [if_neg (by intro h; rw [hn, Bool.false_and] at h; cases h)]
           exact wpAny_pure hQ))

/-- the list at a, as it stands at each turn (a loop may append to it) -/
def Itl (K : PySem.W.Frag) (a : Addr) : It :=
  ⟨fun i H => ∃ xs x, SqL K H a xs ∧ xs[i]? = some x, fun i H x H' => H' = H ∧ ∀ xs, SqL K H a xs → xs[i]? = some x, fun i H => ∃ xs, SqL K H a xs ∧ xs.length ≤ i⟩
def Itt (K : PySem.W.Frag) (a : Addr) : It :=
  ⟨fun i H => ∃ xs x, SqT K H a xs ∧ xs[i]? = some x, fun i H x H' => H' = H ∧ ∀ xs, SqT K H a xs → xs[i]? = some x, fun i H => ∃ xs, SqT K H a xs ∧ xs.length ≤ i⟩
/-- lo, lo + 1, .. (n of them) -/
def Itr (lo : Int) (n : Nat) : It := ⟨fun i _ => i < n, fun i H x H' => H' = H ∧ x = .int (lo + i), fun i _ => n ≤ i⟩
theorem turn_list {P : Program} {w : World} {K : PySem.W.Frag} {tg : Expr} (a it : Addr) : Turn P w K tg (Itl K a) [it] it (fun i h => h.IsListIter it a i) where
  mem := by simp
  obj := fun i h st b hb => by
    have e : b = it := by simpa using hb
    subst e
    obtain ⟨o, e, c, d⟩ := st
    exact ⟨o, e, fun v z => by rw [d] at z; cases z⟩
  keep := fun i h h' st k => st.at fun o e => k it (by simp) o e
  item := by
    intro X hP hw hK hc i pins s σ H E I hf st hg
    subst hP hw hK
    obtain ⟨xs, x, hq, hx⟩ := hg
    obtain ⟨its, rv, p, hz⟩ := I.list hq
    obtain ⟨u, hu, ru⟩ := rv.get hx
    obtain ⟨f0, f1, f2, f3, f4, f5⟩ := hf it (by simp)
    refine wpAny_pyNext_list_item st p.isList (x := u) (by simpa using hu) fun h' st' sb => ?_
    have I1 : Inv X pins σ H { s with heap := h' } := I.turned (t' := s.toks) (fun b o hb e => (sb.2 b hb).trans e) f0 f1 f3 f4 f5
    obtain ⟨o, e, c, d⟩ := id st'
    exact ⟨u, rfl, go_of (s := { s with heap := h' }) e c d (by decide) ⟨x, H, I1, ru, ⟨rfl, fun ys hy => by rw [I.list_inj hy hq]; exact hx⟩, st', fun b hb => (hf b hb).1⟩⟩
  done := by
    intro X hP hw hK hc i pins s σ H E I hf st hg
    subst hP hw hK
    obtain ⟨xs, hq, hx⟩ := hg
    obtain ⟨its, rv, p, hz⟩ := I.list hq
    obtain ⟨f0, f1, f2, f3, f4, f5⟩ := hf it (by simp)
    have hl := rv.length
    exact wpAny_pyNext_list_end (I.ok.hd hc) st p.isList (by simp; omega) fun h' eb => ⟨rfl, I.turned (t' := s.toks) (fun b o hb e => eb b o hb e) f0 f1 f3 f4 f5⟩
  self := fun _ _ _ _ _ st h => wpAny_pyIter_listiter st h
theorem turn_tuple {P : Program} {w : World} {K : PySem.W.Frag} {tg : Expr} (a it : Addr) : Turn P w K tg (Itt K a) [it] it (fun i h => h.IsTupleIter it a i) where
  mem := by simp
  obj := fun i h st b hb => by
    have e : b = it := by simpa using hb
    subst e
    obtain ⟨o, e, c, d⟩ := st
    exact ⟨o, e, fun v z => by rw [d] at z; cases z⟩
  keep := fun i h h' st k => st.at fun o e => k it (by simp) o e
  item := by
    intro X hP hw hK hc i pins s σ H E I hf st hg
    subst hP hw hK
    obtain ⟨xs, x, hq, hx⟩ := hg
    obtain ⟨its, rv, p, hz⟩ := I.tuple hq
    obtain ⟨u, hu, ru⟩ := rv.get hx
    obtain ⟨f0, f1, f2, f3, f4, f5⟩ := hf it (by simp)
    refine wpAny_pyNext_tuple_item st (show s.heap.IsTuple a its.toArray from p) (x := u) (by simpa using hu) fun h' st' sb => ?_
    have I1 : Inv X pins σ H { s with heap := h' } := I.turned (t' := s.toks) (fun b o hb e => (sb.2 b hb).trans e) f0 f1 f3 f4 f5
    obtain ⟨o, e, c, d⟩ := id st'
    exact ⟨u, rfl, go_of (s := { s with heap := h' }) e c d (by decide) ⟨x, H, I1, ru, ⟨rfl, fun ys hy => by rw [I.tuple_inj hy hq]; exact hx⟩, st', fun b hb => (hf b hb).1⟩⟩
  done := by
    intro X hP hw hK hc i pins s σ H E I hf st hg
    subst hP hw hK
    obtain ⟨xs, hq, hx⟩ := hg
    obtain ⟨its, rv, p, hz⟩ := I.tuple hq
    obtain ⟨f0, f1, f2, f3, f4, f5⟩ := hf it (by simp)
    have hl := rv.length
    exact wpAny_pyNext_tuple_end (I.ok.hd hc) st (show s.heap.IsTuple a its.toArray from p) (by simp; omega) fun h' eb => ⟨rfl, I.turned (t' := s.toks) (fun b o hb e => eb b o hb e) f0 f1 f3 f4 f5⟩
  self := fun _ _ _ _ _ st h => wpAny_pyIter_tupleiter st h
theorem turn_range {P : Program} {w : World} {K : PySem.W.Frag} {tg : Expr} (it : Addr) (lo : Int) (n : Nat) : Turn P w K tg (Itr lo n) [it] it (fun i h => IsRangeIter h it (lo + (i : Nat) * 1) ((n : Int) - (i : Nat)) 1) where
  mem := by simp
  obj := fun i h st b hb => by
    have e : b = it := by simpa using hb
    subst e
    exact ⟨_, st, fun v z => by
      have z' : Data.fields _ = Data.cell v := z
      cases z'⟩
  keep := fun i h h' st k => k it (by simp) _ st
  item := by
    intro X hP hw hK hc i pins s σ H E I hf st hg
    subst hP hw hK
    obtain ⟨f0, f1, f2, f3, f4, f5⟩ := hf it (by simp)
    have W := Walks.range (prog := X.prog) (w := X.w) (I.ok.hd hc) it lo 1 n
    refine W.item i s _ _ hg st fun v h' tk hv st' kk => ?_
    obtain ⟨t, rfl⟩ := hv
    have I1 : Inv X pins σ H { s with heap := h', toks := tk } := I.turned (fun b o hb e => kk b o (by simpa using hb) e) f0 f1 f3 f4 f5
    refine ⟨_, rfl, go_of (s := { s with heap := h', toks := tk }) (n := "range_iterator") st' rfl rfl (by decide) ⟨.int (lo + i), H, I1, ⟨t, ?_⟩, ⟨rfl, rfl⟩, st', fun b hb => (hf b hb).1⟩⟩
    rw [Int.mul_one]
  done := by
    intro X hP hw hK hc i pins s σ H E I hf st hg
    subst hP hw hK
    obtain ⟨f0, f1, f2, f3, f4, f5⟩ := hf it (by simp)
    exact wpAny_pyNext_range_end (I.ok.hd hc) st (by have : n ≤ i := hg; omega) fun h' eb => ⟨rfl, I.turned (t' := s.toks) (fun b o hb e => eb b o hb e) f0 f1 f3 f4 f5⟩
  self := fun _ _ _ _ _ st h => wpAny_pyIter_rangeiter st h
end L2

namespace L2
open PySem PySem.Spec PyProof.Rows
section
variable {X : Cx} {tg : Expr}
def iList (K : PySem.W.Frag) (tl : TE) : TI := fun σ H R => tl σ H fun x H1 => ∃ a, x = .ref a ∧ (∃ xs, SqL K H1 a xs) ∧ R (Itl K a) H1
def iTup (K : PySem.W.Frag) (tl : TE) : TI := fun σ H R => tl σ H fun x H1 => ∃ a, x = .ref a ∧ (∃ xs, SqT K H1 a xs) ∧ R (Itt K a) H1
theorem pi_list {l : Expr} {tl : TE} (hl : PE X l tl) : PI X tg l (iList X.K tl) := by
  intro pins s σ H R I h
  refine thn (hl pins s σ H _ I h) fun v s1 ⟨x, H1, I1, r1, q1⟩ => ?_
  obtain ⟨a, e, ⟨xs, hq⟩, q⟩ := q1
  subst e
  cases r1
  obtain ⟨its, rv, p, hz⟩ := I1.list hq
  refine wpAny_pyIter_list p.isList ?_
  refine ⟨s1.heap.objs.size, [s1.heap.objs.size], _, _, H1, rfl, I1.kept (t' := s1.toks) fun b o e => Heap.get?_push_of_some _ e, turn_list a _, ⟨_, Heap.get?_push_size _ rfl, rfl, rfl⟩, fun b hb => ?_, q⟩
  have e : b = s1.heap.objs.size := by simpa using hb
  subst e
  exact I1.fpOk (Nat.le_refl _) (I1.hok.fresh (Nat.le_refl _))
theorem pi_tup {l : Expr} {tl : TE} (hl : PE X l tl) : PI X tg l (iTup X.K tl) := by
  intro pins s σ H R I h
  refine thn (hl pins s σ H _ I h) fun v s1 ⟨x, H1, I1, r1, q1⟩ => ?_
  obtain ⟨a, e, ⟨xs, hq⟩, q⟩ := q1
  subst e
  cases r1
  obtain ⟨its, rv, p, hz⟩ := I1.tuple hq
  refine wpAny_pyIter_tuple (show s1.heap.IsTuple a its.toArray from p) ?_
  refine ⟨s1.heap.objs.size, [s1.heap.objs.size], _, _, H1, rfl, I1.kept (t' := s1.toks) fun b o e => Heap.get?_push_of_some _ e, turn_tuple a _, ⟨_, Heap.get?_push_size _ rfl, rfl, rfl⟩, fun b hb => ?_, q⟩
  have e : b = s1.heap.objs.size := by simpa using hb
  subst e
  exact I1.fpOk (Nat.le_refl _) (I1.hok.fresh (Nat.le_refl _))
/-- a range object just made, walked -/
theorem range_it {pins : List (Addr × Obj)} {σ : St} {H : Hp} {s : Shared} {R : It → Hp → Prop} {E : Value → Shared → Prop} {lo hi : Int} {t u v : Tok} {tk : Nat} (I : Inv X pins σ H s) (h1 : -(2 ^ 62) ≤ lo) (h2 : lo < 2 ^ 62) (h3 : -(2 ^ 62) ≤ hi) (h4 : hi < 2 ^ 62)
    (q : R (Itr lo (hi - lo).toNat) H) : wpAny (model X.prog X.w) X.A (pyIter (.ref s.heap.objs.size)) (PIE X pins σ tg R) E { s with heap := s.heap.push { cls := .type "range", data := .fields #[.int lo t, .int hi u, .int 1 v] }, toks := tk } := by
  refine wpAny_pyIter_range (IsRange.new ..) (small_one h1 h2 h3 h4) ?_
  have I1 : Inv X pins σ H { s with heap := s.heap.push { cls := .type "range", data := .fields #[.int lo t, .int hi u, .int 1 v] }, toks := tk } := I.kept fun b o e => Heap.get?_push_of_some _ e
  refine ⟨(s.heap.push { cls := .type "range", data := .fields #[.int lo t, .int hi u, .int 1 v] }).objs.size, [(s.heap.push { cls := .type "range", data := .fields #[.int lo t, .int hi u, .int 1 v] }).objs.size], _, _, H, rfl,
    I1.kept (t' := tk) fun b o e => Heap.get?_push_of_some _ e, turn_range _ lo (hi - lo).toNat, ?_, fun b hb => ?_, q⟩
  · have e1 : lo + ((0 : Nat) : Int) * 1 = lo := by simp
    have e2 : (((hi - lo).toNat : Nat) : Int) - ((0 : Nat) : Int) = Builtin.Range.rangeSize lo hi 1 := by rw [rangeSize_one]; split <;> omega
    show IsRangeIter _ _ (lo + ((0 : Nat) : Int) * 1) ((((hi - lo).toNat : Nat) : Int) - ((0 : Nat) : Int)) 1
    rw [e1, e2]
    exact Heap.get?_push_size _ rfl
  · have e : b = (s.heap.push { cls := .type "range", data := .fields #[.int lo t, .int hi u, .int 1 v] }).objs.size := by simpa using hb
    subst e
    exact I1.fpOk (Nat.le_refl _) (I1.hok.fresh (Nat.le_refl _))
def iRng1 (ta : TA) : TI := fun σ H R => ta σ H fun vs H1 => ∃ j : Int, vs = [.int j] ∧ -(2 ^ 62) ≤ j ∧ j < 2 ^ 62 ∧ R (Itr 0 j.toNat) H1
def iRng2 (ta : TA) : TI := fun σ H R => ta σ H fun vs H1 => ∃ i j : Int, vs = [.int i, .int j] ∧ (-(2 ^ 62) ≤ i ∧ i < 2 ^ 62 ∧ -(2 ^ 62) ≤ j ∧ j < 2 ^ 62) ∧ R (Itr i (j - i).toNat) H1
theorem pi_range1 {a : Expr} {ta : TA} {p pos : Pos} (hg : Gl X "range") (hm : X.mg "range" = none) (ha : PA X [a] ta) (hs : starEach [a] X.env = [(false, eval a X.env)] := by rfl) : PI X tg (.Call (.Name "range" p) [a] [] pos) (iRng1 ta) := by
  intro pins s σ H R I h
  refine Call_ (ld_blt I hg hm boot_range (PyProof.Rows.callWith_type1 (thn (ha pos pins s σ H _ I h) fun us s1 ⟨vs, H1, I1, r1, q1⟩ => ?_) hs rfl))
  obtain ⟨j, e, q1, q2, q⟩ := q1
  subst e
  cases r1 with
  | cons r rr =>
    cases rr
    obtain ⟨t, rfl⟩ := r
    exact call_range_1 (range_it I1 (by omega) (by omega) q1 q2 (by simpa using q))
theorem pi_range2 {a b : Expr} {ta : TA} {p pos : Pos} (hg : Gl X "range") (hm : X.mg "range" = none) (ha : PA X [a, b] ta) (hs : starEach [a, b] X.env = [(false, eval a X.env), (false, eval b X.env)] := by rfl) (hs2 : starEach [b] X.env = [(false, eval b X.env)] := by rfl) :
    PI X tg (.Call (.Name "range" p) [a, b] [] pos) (iRng2 ta) := by
  intro pins s σ H R I h
  refine Call_ (ld_blt I hg hm boot_range (PyProof.Rows.callWith_type1 (thn (ha pos pins s σ H _ I h) fun us s1 ⟨vs, H1, I1, r1, q1⟩ => ?_) (by rw [hs, hs2]) (by rw [hs2]; rfl)))
  obtain ⟨i, j, e, ⟨q1, q2, q3, q4⟩, q⟩ := q1
  subst e
  cases r1 with
  | cons r rr =>
    cases rr with
    | cons r' rr =>
      cases rr
      obtain ⟨t, rfl⟩ := r
      obtain ⟨t', rfl⟩ := r'
      exact call_range_2 (range_it I1 q1 q2 q3 q4 q)

/-! ### for -/
/-- W: the invariant by the turn and a measure; N: what the body is to reach -/
def tFor (wi : TI) (g : TG) (tb : TS) : TS := fun D σ H => wi σ H fun J H1 => ∃ W : Nat → Nat → St → Hp → Prop, (∃ m, W 0 m σ H1) ∧ ∀ i m σ H, W i m σ H →
  (J.stop i H ∧ D.nx σ H) ∨ (J.go i H ∧ ∃ N : St → Hp → Prop, (∀ σ' H', N σ' H' → ∃ m', m' < m ∧ W (i + 1) m' σ' H') ∧ ∀ x H', J.yld i H x H' → g x σ H' fun σ2 H2 => tb { D with nx := N, ct := N, bk := D.nx } σ2 H2)
/-- the records at fp as they stand -/
def pinsAt (fp : List Addr) (h : Heap) : List (Addr × Obj) := fp.filterMap fun b => (h.get? b).map fun o => (b, o)
theorem mem_pinsAt {fp : List Addr} {h : Heap} {b : Addr} {o : Obj} (hb : b ∈ fp) (e : h.get? b = some o) : (b, o) ∈ pinsAt fp h := List.mem_filterMap.mpr ⟨b, hb, by rw [e]; rfl⟩
theorem of_pinsAt {fp : List Addr} {h : Heap} {p : Addr × Obj} (hp : p ∈ pinsAt fp h) : p.1 ∈ fp ∧ h.get? p.1 = some p.2 := by
  obtain ⟨b, hb, e⟩ := List.mem_filterMap.mp hp
  cases q : h.get? b with
  | none => rw [q] at e; cases e
  | some o =>
    rw [q] at e
    have e' : (b, o) = p := Option.some.inj e
    subst e'
    exact ⟨hb, q⟩
theorem Inv.pinned {pins : List (Addr × Obj)} {σ : St} {H : Hp} {s : Shared} {fp : List Addr} (I : Inv X pins σ H s) (hf : ∀ b ∈ fp, FpOk X pins H b) (ho : ∀ b ∈ fp, ∃ o, s.heap.get? b = some o ∧ ∀ v, o.data ≠ .cell v) : Inv X (pins ++ pinsAt fp s.heap) σ H s :=
  I.pins_of fun p hp => (List.mem_append.mp hp).elim (fun z => I.pin p (List.mem_append_right _ z)) fun z => by
    obtain ⟨hb, e⟩ := of_pinsAt z
    obtain ⟨f0, f1, f2, _⟩ := hf p.1 hb
    obtain ⟨o, e', d⟩ := ho p.1 hb
    rw [e] at e'; cases e'
    exact ⟨e, f0, f1, f2, d⟩
theorem Inv.unpinned {pins pl : List (Addr × Obj)} {σ : St} {H : Hp} {s : Shared} (I : Inv X (pins ++ pl) σ H s) : Inv X pins σ H s := I.pins_of fun p hp => I.pin p (List.mem_append_right _ (List.mem_append_left _ hp))
theorem ps_for {iter : Expr} {body : List Stmt} {wi : TI} {g : TG} {tb : TS} {pos : Pos} (hp : PassesOwn (model X.prog X.w) X.A X.env X.xe) (hc : X.calm = true) (hi : PI X tg iter wi) (hg : PG X tg g) (hb : PSs X body tb)
    (hs : ∀ x, foldedSetIterable iter X.env x = pure x := by intro _; rfl) : PS X (.For tg iter body [] pos) (tFor wi g tb) := by
  intro pins s σ H D I h
  refine wpAny_For (thn (hi pins s σ H _ I h) fun v s1 h1 => thn h1 fun itv s2 h2 => ?_) hs
  obtain ⟨it, fp, tn, J, H2, e, I2, T, st2, f2, W, ⟨m0, w0⟩, turn⟩ := h2
  subst e
  -- what stays true of the iterator's objects through the loop
  have stat : ∀ {H' : Hp}, (∀ b ∈ fp, H' b = none) → ∀ b ∈ fp, FpOk X pins H' b := fun hn b hb => ⟨hn b hb, (f2 b hb).2⟩
  refine codeAny_forLoop_any (fun n s' => ∃ i σ' H', Inv X pins σ' H' s' ∧ tn i s'.heap ∧ (∀ b ∈ fp, H' b = none) ∧ W i n σ' H') ?_ m0 ⟨0, σ, H2, I2, st2, fun b hb => (f2 b hb).1, w0⟩
  rintro n s3 ⟨i, σ3, H3, I3, st3, fr3, w3⟩
  rcases turn i n σ3 H3 w3 with ⟨stop, qn⟩ | ⟨go, N, hN, step⟩
  · refine wpAny_passesOwn hp (thn (T.done X rfl rfl rfl hc i pins s3 σ3 H3 X.xe I3 (stat fr3) st3 stop) fun r s4 ⟨hr, I4⟩ => ?_)
    subst hr
    exact wpAny_execs_nil ⟨σ3, H3, I4, qn⟩
  · refine wpAny_passesOwn hp (thn (T.item X rfl rfl rfl hc i pins s3 σ3 H3 X.xe I3 (stat fr3) st3 go) fun r s4 ⟨u, hr, h4⟩ => ?_)
    subst hr
    refine wpAny_passesOwn hp (thn h4 fun _ s5 ⟨x, H5, I5, r5, y5, st5, fr5⟩ => ?_)
    have I5' := I5.pinned (stat fr5) (T.obj _ _ st5)
    refine wpAny_passesOwn hp (thn (hg _ s5 σ3 H5 x u _ I5' r5 (step x H5 y5)) fun _ s6 ⟨σ6, H6, I6, q6⟩ => ?_)
    refine wpAny_passesOwn hp (thn (hb _ s6 σ6 H6 _ I6 q6) fun f s7 q7 => ?_)
    have again : ∀ {σ7 : St} {H7 : Hp}, Inv X (pins ++ pinsAt fp s5.heap) σ7 H7 s7 → N σ7 H7 → ∃ m, m < n ∧ ∃ i σ' H', Inv X pins σ' H' s7 ∧ tn i s7.heap ∧ (∀ b ∈ fp, H' b = none) ∧ W i m σ' H' := fun {σ7 H7} I7 n7 => by
      obtain ⟨m', hm, w7⟩ := hN σ7 H7 n7
      refine ⟨m', hm, i + 1, σ7, H7, I7.unpinned, T.keep _ _ _ st5 fun b hb o e => (I7.pin (b, o) (List.mem_append_right _ (List.mem_append_right _ (mem_pinsAt hb e)))).1, fun b hb => ?_, w7⟩
      obtain ⟨o, e, d⟩ := T.obj _ _ st5 b hb
      exact (I7.pin (b, o) (List.mem_append_right _ (List.mem_append_right _ (mem_pinsAt hb e)))).2.1
    cases f with
    | next => obtain ⟨σ7, H7, I7, n7⟩ := q7; exact again I7 n7
    | cont => obtain ⟨σ7, H7, I7, n7⟩ := q7; exact again I7 n7
    | brk => obtain ⟨σ7, H7, I7, q7⟩ := q7; exact ⟨σ7, H7, I7.unpinned, q7⟩
    | ret v => obtain ⟨x7, σ7, H7, I7, r7, q7⟩ := q7; exact ⟨x7, σ7, H7, I7.unpinned, r7, q7⟩
end

/-! ### the forms one uses -/
/-- over a list that the body leaves as it is -/
theorem for_list {K : PySem.W.Frag} {a : Addr} {xs : List V} {g : TG} {tb : TS} {D : Ends} {σ : St} {H : Hp} (Pv : Nat → St → Hp → Prop) (h0 : Pv 0 σ H) (hl : ∀ i σ H, i ≤ xs.length → Pv i σ H → SqL K H a xs)
    (hs : ∀ i x σ H, xs[i]? = some x → Pv i σ H → g x σ H fun σ2 H2 => tb { D with nx := Pv (i + 1), ct := Pv (i + 1), bk := D.nx } σ2 H2) (hd : ∀ σ H, Pv xs.length σ H → D.nx σ H) :
    ∃ W : Nat → Nat → St → Hp → Prop, (∃ m, W 0 m σ H) ∧ ∀ i m σ H, W i m σ H →
      ((Itl K a).stop i H ∧ D.nx σ H) ∨ ((Itl K a).go i H ∧ ∃ N : St → Hp → Prop, (∀ σ' H', N σ' H' → ∃ m', m' < m ∧ W (i + 1) m' σ' H') ∧ ∀ x H', (Itl K a).yld i H x H' → g x σ H' fun σ2 H2 => tb { D with nx := N, ct := N, bk := D.nx } σ2 H2) := by
  refine ⟨fun i m σ H => m = xs.length - i ∧ i ≤ xs.length ∧ Pv i σ H, ⟨xs.length, by simp, Nat.zero_le _, h0⟩, ?_⟩
  rintro i m σ H ⟨rfl, hi, p⟩
  have q := hl i σ H hi p
  by_cases hlt : i < xs.length
  · refine .inr ⟨⟨xs, xs[i], q, by simp [hlt]⟩, Pv (i + 1), fun σ' H' p' => ⟨xs.length - (i + 1), by omega, rfl, hlt, p'⟩, fun x H' y => ?_⟩
    obtain ⟨e, y⟩ := y
    subst e
    exact hs i x σ _ (y xs q) p
  · have e : i = xs.length := by omega
    subst e
    exact .inl ⟨⟨xs, q, Nat.le_refl _⟩, hd σ H p⟩
theorem for_tup {K : PySem.W.Frag} {a : Addr} {xs : List V} {g : TG} {tb : TS} {D : Ends} {σ : St} {H : Hp} (Pv : Nat → St → Hp → Prop) (h0 : Pv 0 σ H) (hl : ∀ i σ H, i ≤ xs.length → Pv i σ H → SqT K H a xs)
    (hs : ∀ i x σ H, xs[i]? = some x → Pv i σ H → g x σ H fun σ2 H2 => tb { D with nx := Pv (i + 1), ct := Pv (i + 1), bk := D.nx } σ2 H2) (hd : ∀ σ H, Pv xs.length σ H → D.nx σ H) :
    ∃ W : Nat → Nat → St → Hp → Prop, (∃ m, W 0 m σ H) ∧ ∀ i m σ H, W i m σ H →
      ((Itt K a).stop i H ∧ D.nx σ H) ∨ ((Itt K a).go i H ∧ ∃ N : St → Hp → Prop, (∀ σ' H', N σ' H' → ∃ m', m' < m ∧ W (i + 1) m' σ' H') ∧ ∀ x H', (Itt K a).yld i H x H' → g x σ H' fun σ2 H2 => tb { D with nx := N, ct := N, bk := D.nx } σ2 H2) := by
  refine ⟨fun i m σ H => m = xs.length - i ∧ i ≤ xs.length ∧ Pv i σ H, ⟨xs.length, by simp, Nat.zero_le _, h0⟩, ?_⟩
  rintro i m σ H ⟨rfl, hi, p⟩
  have q := hl i σ H hi p
  by_cases hlt : i < xs.length
  · refine .inr ⟨⟨xs, xs[i], q, by simp [hlt]⟩, Pv (i + 1), fun σ' H' p' => ⟨xs.length - (i + 1), by omega, rfl, hlt, p'⟩, fun x H' y => ?_⟩
    obtain ⟨e, y⟩ := y
    subst e
    exact hs i x σ _ (y xs q) p
  · have e : i = xs.length := by omega
    subst e
    exact .inl ⟨⟨xs, q, Nat.le_refl _⟩, hd σ H p⟩
theorem for_range {lo : Int} {n : Nat} {g : TG} {tb : TS} {D : Ends} {σ : St} {H : Hp} (Pv : Nat → St → Hp → Prop) (h0 : Pv 0 σ H)
    (hs : ∀ i σ H, i < n → Pv i σ H → g (.int (lo + i)) σ H fun σ2 H2 => tb { D with nx := Pv (i + 1), ct := Pv (i + 1), bk := D.nx } σ2 H2) (hd : ∀ σ H, Pv n σ H → D.nx σ H) :
    ∃ W : Nat → Nat → St → Hp → Prop, (∃ m, W 0 m σ H) ∧ ∀ i m σ H, W i m σ H →
      ((Itr lo n).stop i H ∧ D.nx σ H) ∨ ((Itr lo n).go i H ∧ ∃ N : St → Hp → Prop, (∀ σ' H', N σ' H' → ∃ m', m' < m ∧ W (i + 1) m' σ' H') ∧ ∀ x H', (Itr lo n).yld i H x H' → g x σ H' fun σ2 H2 => tb { D with nx := N, ct := N, bk := D.nx } σ2 H2) := by
  refine ⟨fun i m σ H => m = n - i ∧ i ≤ n ∧ Pv i σ H, ⟨n, by simp, Nat.zero_le _, h0⟩, ?_⟩
  rintro i m σ H ⟨rfl, hi, p⟩
  by_cases hlt : i < n
  · refine .inr ⟨hlt, Pv (i + 1), fun σ' H' p' => ⟨n - (i + 1), by omega, rfl, hlt, p'⟩, fun x H' y => ?_⟩
    obtain ⟨e, y⟩ := y
    subst e y
    exact hs i σ _ hlt p
  · have e : i = n := by omega
    subst e
    exact .inl ⟨Nat.le_refl _, hd σ H p⟩
/-- while, by a word and a measure of the state -/
theorem while_by {c : TT} {tb : TS} {D : Ends} {σ : St} {H : Hp} (Pv : St → Hp → Prop) (μ : St → Hp → Nat) (h0 : Pv σ H)
    (hs : ∀ σ H, Pv σ H → c σ H fun b H1 => if b = true then tb { D with nx := fun σ' H' => Pv σ' H' ∧ μ σ' H' < μ σ H, ct := fun σ' H' => Pv σ' H' ∧ μ σ' H' < μ σ H, bk := D.nx } σ H1 else D.nx σ H1)
    (mono : ∀ σ H Q Q', (∀ b H1, Q b H1 → Q' b H1) → c σ H Q → c σ H Q') : tWhile c tb D σ H := by
  refine ⟨fun m σ H => m = μ σ H ∧ Pv σ H, ⟨_, rfl, h0⟩, ?_⟩
  rintro m σ H ⟨rfl, p⟩
  refine mono σ H _ _ (fun b H1 q => ?_) (hs σ H p)
  cases b with
  | true => exact ⟨_, fun σ' H' ⟨p', l⟩ => ⟨_, l, rfl, p'⟩, q⟩
  | false => exact q
end L2

namespace L2
open PySem PySem.Spec PyProof.Rows

abbrev R2 := V → V → Hp → VK → Prop
/-- a two-place operation on values: f is binaryOp op, inplaceOp op or compareOp op -/
def OpR (X : Cx) (f : Value → Value → Sem Value) (r : R2) : Prop :=
  ∀ (pins : List (Addr × Obj)) (s : Shared) (σ : St) (H : Hp) (x y : V) (v u : Value) (Q : VK), Inv X pins σ H s → RelV x v → RelV y u → r x y H Q →
    wpAny (model X.prog X.w) X.A (f v u) (EP X pins σ Q) X.xe s
/-- a one-place operation -/
def UnR (X : Cx) (f : Value → Sem Value) (r : V → Hp → VK → Prop) : Prop :=
  ∀ (pins : List (Addr × Obj)) (s : Shared) (σ : St) (H : Hp) (x : V) (v : Value) (Q : VK), Inv X pins σ H s → RelV x v → r x H Q →
    wpAny (model X.prog X.w) X.A (f v) (EP X pins σ Q) X.xe s
/-- a call of a value that is known (a builtin, a type) with values -/
def CallR (X : Cx) (f : Value) (r : List V → Hp → VK → Prop) : Prop :=
  ∀ (pins : List (Addr × Obj)) (s : Shared) (σ : St) (H : Hp) (xs : List V) (us : List Value) (Q : VK), Inv X pins σ H s → Vals xs us → r xs H Q →
    wpAny (model X.prog X.w) X.A (call f us) (EP X pins σ Q) X.xe s
/-- a value's truth -/
def TruR (X : Cx) (r : V → Hp → (Bool → Hp → Prop) → Prop) : Prop :=
  ∀ (pins : List (Addr × Obj)) (s : Shared) (σ : St) (H : Hp) (x : V) (v : Value) (Q : Bool → Hp → Prop), Inv X pins σ H s → RelV x v → r x H Q →
    wpAny (model X.prog X.w) X.A (truthy v) (TP X pins σ Q) X.xe s

def tOp (r : R2) (ta tb : TE) : TE := fun σ H Q => ta σ H fun x H1 => tb σ H1 fun y H2 => r x y H2 Q
def tUn (r : V → Hp → VK → Prop) (ta : TE) : TE := fun σ H Q => ta σ H fun x H1 => r x H1 Q
/-- ints in, under C, and a value out -/
def rI (C : Int → Int → Prop) (g : Int → Int → V) : R2 := fun x y H Q => ∃ i j, x = .int i ∧ y = .int j ∧ C i j ∧ Q (g i j) H
def rI0 (g : Int → Int → V) : R2 := fun x y H Q => ∃ i j, x = .int i ∧ y = .int j ∧ Q (g i j) H
def rU (g : Int → V) : V → Hp → VK → Prop := fun x H Q => ∃ i, x = .int i ∧ Q (g i) H

section
variable {X : Cx} {a b c : Expr} {ta tb tc : TE} {pos : Pos}

theorem binT (ha : PE X a ta) (hb : PE X b tb) {pins : List (Addr × Obj)} {s : Shared} {σ : St} {H : Hp} {R : V → V → Hp → Prop} (I : Inv X pins σ H s)
    (h : ta σ H fun x H1 => tb σ H1 fun y H2 => R x y H2) {Q : Value → Shared → Prop} {f : Value → Value → Sem Value}
    (hf : ∀ v u s2 x y H2, Inv X pins σ H2 s2 → RelV x v → RelV y u → R x y H2 → wpAny (model X.prog X.w) X.A (f v u) Q X.xe s2) :
    wpAny (model X.prog X.w) X.A (eval a X.env) (fun v s₁ => wpAny (model X.prog X.w) X.A (eval b X.env) (fun u s₂ => wpAny (model X.prog X.w) X.A (f v u) Q X.xe s₂) X.xe s₁) X.xe s := by
  refine thn (ha pins s σ H _ I h) fun v s1 ⟨x, H1, I1, r1, q1⟩ => ?_
  refine thn (hb pins s1 σ H1 _ I1 q1) fun u s2 ⟨y, H2, I2, r2, q2⟩ => ?_
  exact hf v u s2 x y H2 I2 r1 r2 q2

theorem pe_op {op : Operator} {r : R2} (ho : OpR X (binaryOp op) r) (ha : PE X a ta) (hb : PE X b tb) : PE X (.BinOp a op b pos) (tOp r ta tb) := by
  intro pins s σ H Q I h
  exact wpAny_BinOp (binT ha hb I h fun v u s2 x y H2 I2 rx ry q => ho pins s2 σ H2 x y v u Q I2 rx ry q)
/-! ### ints -/
theorem opI {f : Value → Value → Sem Value} {C : Int → Int → Prop} {g : Int → Int → Int}
    (rule : ∀ (i j : Int) (t u : Tok) (s : Shared) (Q : Value → Shared → Prop) (E : Value → Shared → Prop), C i j → Q (.int (g i j) s.toks) { s with toks := s.toks + 1 } → wpAny (model X.prog X.w) X.A (f (.int i t) (.int j u)) Q E s) :
    OpR X f (rI C fun i j => .int (g i j)) := by
  intro pins s σ H x y v u Q I rx ry h
  obtain ⟨i, j, rfl, rfl, hc, q⟩ := h
  obtain ⟨t, rfl⟩ := rx
  obtain ⟨t', rfl⟩ := ry
  exact rule i j t t' s _ _ hc ⟨.int (g i j), H, I.tok _, ⟨_, rfl⟩, q⟩
theorem opI0 {f : Value → Value → Sem Value} {g : Int → Int → Int}
    (rule : ∀ (i j : Int) (t u : Tok) (s : Shared) (Q : Value → Shared → Prop) (E : Value → Shared → Prop), Q (.int (g i j) s.toks) { s with toks := s.toks + 1 } → wpAny (model X.prog X.w) X.A (f (.int i t) (.int j u)) Q E s) :
    OpR X f (rI0 fun i j => .int (g i j)) := by
  intro pins s σ H x y v u Q I rx ry h
  obtain ⟨i, j, rfl, rfl, q⟩ := h
  obtain ⟨t, rfl⟩ := rx
  obtain ⟨t', rfl⟩ := ry
  exact rule i j t t' s _ _ ⟨.int (g i j), H, I.tok _, ⟨_, rfl⟩, q⟩
theorem opB0 {f : Value → Value → Sem Value} {g : Int → Int → Bool}
    (rule : ∀ (i j : Int) (t u : Tok) (s : Shared) (Q : Value → Shared → Prop) (E : Value → Shared → Prop), Q (.bool (g i j)) s → wpAny (model X.prog X.w) X.A (f (.int i t) (.int j u)) Q E s) :
    OpR X f (rI0 fun i j => .bl (g i j)) := by
  intro pins s σ H x y v u Q I rx ry h
  obtain ⟨i, j, rfl, rfl, q⟩ := h
  obtain ⟨t, rfl⟩ := rx
  obtain ⟨t', rfl⟩ := ry
  exact rule i j t t' s _ _ ⟨.bl (g i j), H, I, rfl, q⟩

def CDiv (i j : Int) : Prop := 0 < j ∧ j < 1073741824
def CDivN (i j : Int) : Prop := j ≠ 0 ∧ j.natAbs < 1073741824
def CPow (i j : Int) : Prop := 0 ≤ j ∧ j ≤ 1000000 ∧ i.natAbs < 2 ^ 64
def CMul (i j : Int) : Prop := (-(2 ^ 64) < i ∧ i < 2 ^ 64) ∨ (-(2 ^ 64) < j ∧ j < 2 ^ 64)
theorem CMul.ok {i j : Int} (h : CMul i j) : IntMulOk i j := by
  rcases h with ⟨h1, h2⟩ | ⟨h1, h2⟩
  · exact .of_left (intBits_le_64 h1 h2)
  · exact .of_right (intBits_le_64 h1 h2)
theorem op_add : OpR X (binaryOp .Add) (rI0 fun i j => .int (i + j)) := opI0 fun _ _ _ _ _ _ _ q => add_int q
theorem op_sub : OpR X (binaryOp .Sub) (rI0 fun i j => .int (i - j)) := opI0 fun _ _ _ _ _ _ _ q => sub_int q
theorem op_mul : OpR X (binaryOp .Mult) (rI CMul fun i j => .int (i * j)) := opI fun _ _ _ _ _ _ _ hc q => mul_int q hc.ok
/-- % by a positive divisor of any size -/
theorem op_mod : OpR X (binaryOp .Mod) (rI (fun _ j => 0 < j) fun i j => .int (i % j)) := opI fun i j _ _ _ _ _ hc q => by
  have h1 : (0 : Int) < j := hc
  exact mod_int' (by omega) (by rw [Int.fmod_eq_emod_of_nonneg i (by omega)]; exact q)
theorem op_pow : OpR X (binaryOp .Pow) (rI CPow fun i j => .int (i ^ j.toNat)) := opI fun _ _ _ _ _ _ _ hc q => pow_int_small hc.1 hc.2.1 hc.2.2 q
theorem op_shl : OpR X (binaryOp .LShift) (rI CPow fun i j => .int (i * 2 ^ j.toNat)) := opI fun _ _ _ _ _ _ _ hc q => lshift_int_small hc.1 hc.2.1 hc.2.2 q
/-! ### bools among ints: n += (a < b) -/
end

/-! ### comparisons -/
/-- the scalars that == tells apart as data does -/
def scal : V → V → Bool
  | .non, .non => true | .non, .int _ => true | .int _, .non => true | .non, .bl _ => true | .bl _, .non => true | .non, .str _ => true | .str _, .non => true
  | .int _, .int _ => true | .bl _, .bl _ => true | .str _, .str _ => true | .byt _, .byt _ => true
  | .int _, .str _ => true | .str _, .int _ => true | .bl _, .str _ => true | .str _, .bl _ => true
  | _, _ => false
def rEq : R2 := fun x y H Q => scal x y = true ∧ Q (.bl (decide (x = y))) H
def rNe : R2 := fun x y H Q => scal x y = true ∧ Q (.bl (!decide (x = y))) H

theorem dec_int {i j : Int} : decide (V.int i = V.int j) = (i == j) := by
  rw [Bool.eq_iff_iff]
  simp
theorem dec_bl {i j : Bool} : decide (V.bl i = V.bl j) = (i == j) := by
  rw [Bool.eq_iff_iff]
  simp
theorem dec_str {i j : Str} : decide (V.str i = V.str j) = (i == j) := by
  rw [Bool.eq_iff_iff]
  simp
theorem dec_byt {i j : Array UInt8} : decide (V.byt i = V.byt j) = (i.toList == j.toList) := by
  rw [Bool.eq_iff_iff]
  cases i
  cases j
  simp

section
variable {X : Cx} {a b c : Expr} {ta tb tc : TE} {pos : Pos}
theorem fin_bl {pins : List (Addr × Obj)} {σ : St} {H : Hp} {s : Shared} {Q : VK} {k k' : Bool} (I : Inv X pins σ H s) (q : Q (.bl k) H) (e : k = k') : EP X pins σ Q (.bool k') s := by
  subst e
  exact ⟨.bl k, H, I, rfl, q⟩
theorem op_eq : OpR X (compareOp .Eq) rEq := by
  intro pins s σ H x y v u Q I rx ry h
  obtain ⟨hs, q⟩ := h
  cases x with
  | non =>
    cases rx
    cases y with
    | non => cases ry; exact PySem.EqNone.eq_none_none (fin_bl I q (by simp))
    | bl j => cases ry; exact PySem.EqNone.eq_none_bool (fin_bl I q (by simp))
    | int j => obtain ⟨t', rfl⟩ := ry; exact PySem.EqNone.eq_none_int (fin_bl I q (by simp))
    | str j => obtain ⟨t', rfl⟩ := ry; exact PySem.EqNone.eq_none_str (fin_bl I q (by simp))
    | _ => exact absurd (show false = true from hs) Bool.false_ne_true
  | bl i =>
    cases rx
    cases y with
    | non => cases ry; exact PySem.EqNone.eq_bool_none (fin_bl I q (by simp))
    | bl j => cases ry; exact eq_bool (fin_bl I q dec_bl)
    | str j => obtain ⟨t', rfl⟩ := ry; exact PySem.EqMixed.eq_bool_str (fin_bl I q (by simp))
    | _ => exact absurd (show false = true from hs) Bool.false_ne_true
  | int i =>
    obtain ⟨t, rfl⟩ := rx
    cases y with
    | non => cases ry; exact PySem.EqNone.eq_int_none (fin_bl I q (by simp))
    | int j => obtain ⟨t', rfl⟩ := ry; exact eq_int (fin_bl I q dec_int)
    | str j => obtain ⟨t', rfl⟩ := ry; exact PySem.EqMixed.eq_int_str (fin_bl I q (by simp))
    | _ => exact absurd (show false = true from hs) Bool.false_ne_true
  | str i =>
    obtain ⟨t, rfl⟩ := rx
    cases y with
    | non => cases ry; exact PySem.EqNone.eq_str_none (fin_bl I q (by simp))
    | bl j => cases ry; exact PySem.EqMixed.eq_str_bool (fin_bl I q (by simp))
    | int j => obtain ⟨t', rfl⟩ := ry; exact PySem.EqMixed.eq_str_int (fin_bl I q (by simp))
    | str j => obtain ⟨t', rfl⟩ := ry; exact eq_str (fin_bl I q dec_str)
    | _ => exact absurd (show false = true from hs) Bool.false_ne_true
  | byt i =>
    obtain ⟨t, rfl⟩ := rx
    cases y with
    | byt j => obtain ⟨t', rfl⟩ := ry; exact PySem.W.eq_bytes (fin_bl I q dec_byt)
    | _ => exact absurd (show false = true from hs) Bool.false_ne_true
  | _ => cases y <;> exact absurd (show false = true from hs) Bool.false_ne_true
theorem op_ne : OpR X (compareOp .NotEq) rNe := by
  intro pins s σ H x y v u Q I rx ry h
  obtain ⟨hs, q⟩ := h
  cases x with
  | non =>
    cases rx
    cases y with
    | non => cases ry; exact PySem.EqNone.ne_none_none (fin_bl I q (by simp))
    | bl j => cases ry; exact PySem.EqNone.ne_none_bool (fin_bl I q (by simp))
    | int j => obtain ⟨t', rfl⟩ := ry; exact PySem.EqNone.ne_none_int (fin_bl I q (by simp))
    | str j => obtain ⟨t', rfl⟩ := ry; exact PySem.EqNone.ne_none_str (fin_bl I q (by simp))
    | _ => exact absurd (show false = true from hs) Bool.false_ne_true
  | bl i =>
    cases rx
    cases y with
    | non => cases ry; exact PySem.EqNone.ne_bool_none (fin_bl I q (by simp))
    | bl j => cases ry; exact ne_bool (fin_bl I q (congrArg not dec_bl))
    | str j => obtain ⟨t', rfl⟩ := ry; exact PySem.EqMixed.ne_bool_str (fin_bl I q (by simp))
    | _ => exact absurd (show false = true from hs) Bool.false_ne_true
  | int i =>
    obtain ⟨t, rfl⟩ := rx
    cases y with
    | non => cases ry; exact PySem.EqNone.ne_int_none (fin_bl I q (by simp))
    | int j => obtain ⟨t', rfl⟩ := ry; exact ne_int (fin_bl I q (congrArg not dec_int))
    | str j => obtain ⟨t', rfl⟩ := ry; exact PySem.EqMixed.ne_int_str (fin_bl I q (by simp))
    | _ => exact absurd (show false = true from hs) Bool.false_ne_true
  | str i =>
    obtain ⟨t, rfl⟩ := rx
    cases y with
    | non => cases ry; exact PySem.EqNone.ne_str_none (fin_bl I q (by simp))
    | bl j => cases ry; exact PySem.EqMixed.ne_str_bool (fin_bl I q (by simp))
    | int j => obtain ⟨t', rfl⟩ := ry; exact PySem.EqMixed.ne_str_int (fin_bl I q (by simp))
    | str j => obtain ⟨t', rfl⟩ := ry; exact ne_str (fin_bl I q (congrArg not dec_str))
    | _ => exact absurd (show false = true from hs) Bool.false_ne_true
  | byt i =>
    obtain ⟨t, rfl⟩ := rx
    cases y with
    | byt j => obtain ⟨t', rfl⟩ := ry; exact PySem.W.ne_bytes (fin_bl I q (congrArg not dec_byt))
    | _ => exact absurd (show false = true from hs) Bool.false_ne_true
  | _ => cases y <;> exact absurd (show false = true from hs) Bool.false_ne_true

theorem op_lt : OpR X (compareOp .Lt) (rI0 fun i j => .bl (decide (i < j))) := opB0 fun _ _ _ _ _ _ _ q => lt_int q
theorem op_gt : OpR X (compareOp .Gt) (rI0 fun i j => .bl (decide (j < i))) := opB0 fun _ _ _ _ _ _ _ q => gt_int q
theorem op_ge : OpR X (compareOp .GtE) (rI0 fun i j => .bl (decide (j ≤ i))) := opB0 fun _ _ _ _ _ _ _ q => ge_int q
/-- is None, is not None: the right side a value none -/
theorem op_isN : OpR X (compareOp .Is) (fun x y H Q => y = .non ∧ Q (.bl (decide (x = .non))) H) := by
  intro pins s σ H x y v u Q I rx ry h
  obtain ⟨rfl, q⟩ := h
  cases ry
  refine is_none_gen (fin_bl I q ?_)
  cases x <;> first
    | (cases rx; rfl)
    | (obtain ⟨t, rfl⟩ := rx; rfl)
/-- is, is not of two objects that are tracked lists or instances -/
def isObj : HO → Bool
  | .lst _ => true
  | .ins _ _ _ => true
  | _ => false
theorem nomark (b : Expr) {op : CmpOp} (h : op ≠ .In := by decide) (h2 : op ≠ .NotIn := by decide) : behindInMarks op b = false := by
  have e1 : (op == CmpOp.In) = false := by cases op <;> first | rfl | exact absurd rfl h
  have e2 : (op == CmpOp.NotIn) = false := by cases op <;> first | rfl | exact absurd rfl h2
  cases b <;> simp [behindInMarks, e1, e2]
/-- a comparison as a value; hm: nomark b, or (for in, not in) by with_unfolding_all rfl -/
theorem pe_cmpR {op : CmpOp} {r : R2} (ho : OpR X (compareOp op) r) (ha : PE X a ta) (hb : PE X b tb) (hm : behindInMarks op b = false) : PE X (.Compare a [op] [b] pos) (tOp r ta tb) := by
  intro pins s σ H Q I h
  exact wpAny_Compare1 (binT ha hb I h fun v u s2 x y H2 I2 rx ry q => ho pins s2 σ H2 x y v u Q I2 rx ry q) hm
/-- a reading of a value as a test -/
def tTest (t : TE) : TT := fun σ H Q => t σ H fun x H' => ∃ k, x = .bl k ∧ Q k H'
theorem pt_cmpR {op : CmpOp} {r : R2} (ho : OpR X (compareOp op) r) (ha : PE X a ta) (hb : PE X b tb) (hm : behindInMarks op b = false) : PT X (.Compare a [op] [b] pos) (tTest (tOp r ta tb)) := by
  intro pins s σ H Q I h
  refine wpAny_isTrue_Compare1 (thn (ha pins s σ H _ I h) fun v s1 ⟨x, H1, I1, r1, q1⟩ => thn (hb pins s1 σ H1 _ I1 q1) fun u s2 ⟨y, H2, I2, r2, q2⟩ =>
    thn (ho pins s2 σ H2 x y v u _ I2 r1 r2 q2) fun c s3 ⟨z, H3, I3, r3, k, e, q3⟩ => ?_) hm
  subst e
  cases r3
  exact wpAny_truthy_bool ⟨H3, I3, q3⟩
/-- a op1 b op2 c -/
def tChain (r r' : R2) (ta tb tc : TE) : TE := fun σ H Q => ta σ H fun x H1 => tb σ H1 fun y H2 => r x y H2 fun z H3 => ∃ k, z = .bl k ∧
  (if k = true then tc σ H3 fun w' H4 => r' y w' H4 Q else Q (.bl false) H3)
/-! ### truth -/
/-- a value's truth by the abstract heap -/
def TruV (K : PySem.W.Frag) (x : V) (H : Hp) (k : Bool) : Prop :=
  match x with
  | .non => k = false
  | .bl b => k = b
  | .int i => k = (i != 0)
  | .str y => y.length ≤ sizeLine ∧ k = ((y.length : Int) != 0)
  | .byt y => y.size ≤ sizeLine ∧ k = ((y.size : Int) != 0)
  | .ref p => (∃ xs, SqL K H p xs ∧ k = !xs.isEmpty) ∨ (∃ xs, SqT K H p xs ∧ k = !xs.isEmpty) ∨ ∃ kvs, H p = some (.dK kvs) ∧ k = !kvs.isEmpty
  | _ => False
theorem line63 : (sizeLine : Nat) < 2 ^ 63 := by rw [sizeLine_eq]; decide
/-! ### strs and bytes -/
def PlainIxT (b : Expr) : Prop := ∀ o i, subscripted b false o i = operate [o, i] (getItem o i)
/-! ### scalar builtins, by CallR -/
theorem vals1 {x : V} {us : List Value} (r : Vals [x] us) : ∃ u, us = [u] ∧ RelV x u := by
  cases r with
  | cons r1 r2 => cases r2; exact ⟨_, rfl, r1⟩
theorem vals2 {x y : V} {us : List Value} (r : Vals [x, y] us) : ∃ u w', us = [u, w'] ∧ RelV x u ∧ RelV y w' := by
  cases r with
  | cons r1 r2 =>
    cases r2 with
    | cons r3 r4 => cases r4; exact ⟨_, _, rfl, r1, r3⟩
theorem call_max2 (hc : X.calm = true) : CallR X (.builtin "max") (fun xs H Q => ∃ i j, xs = [.int i, .int j] ∧ Q (.int (if j > i then j else i)) H) := by
  intro pins s σ H xs us Q I r h
  obtain ⟨i, j, rfl, q⟩ := h
  obtain ⟨u, w', rfl, ⟨t, rfl⟩, ⟨t', rfl⟩⟩ := vals2 r
  refine max_two_ints (I.ok.hd hc) fun h' tk k => ⟨_, H, I.kept k, ?_, q⟩
  by_cases hj : j > i
  · rw [if_pos hj, if_pos hj]; exact ⟨_, rfl⟩
  · rw [if_neg hj, if_neg hj]; exact ⟨_, rfl⟩
theorem call_min2 (hc : X.calm = true) : CallR X (.builtin "min") (fun xs H Q => ∃ i j, xs = [.int i, .int j] ∧ Q (.int (if j < i then j else i)) H) := by
  intro pins s σ H xs us Q I r h
  obtain ⟨i, j, rfl, q⟩ := h
  obtain ⟨u, w', rfl, ⟨t, rfl⟩, ⟨t', rfl⟩⟩ := vals2 r
  refine min_two_ints (I.ok.hd hc) fun h' tk k => ⟨_, H, I.kept k, ?_, q⟩
  by_cases hj : j < i
  · rw [if_pos hj, if_pos hj]; exact ⟨_, rfl⟩
  · rw [if_neg hj, if_neg hj]; exact ⟨_, rfl⟩
theorem call_int1 : CallR X (.type "int") (fun xs H Q => (∃ i, xs = [.int i] ∧ Q (.int i) H) ∨ ∃ k, xs = [.bl k] ∧ Q (.int (if k then 1 else 0)) H) := by
  intro pins s σ H xs us Q I r h
  rcases h with ⟨i, rfl, q⟩ | ⟨k, rfl, q⟩
  · obtain ⟨u, rfl, t, rfl⟩ := vals1 r
    exact call_int_int ⟨.int i, H, I, ⟨_, rfl⟩, q⟩
  · obtain ⟨u, rfl, r1⟩ := vals1 r
    cases r1
    exact call_int_bool ⟨.int (if k then 1 else 0), H, I.tok _, ⟨_, rfl⟩, q⟩
/-- len of a str, a bytes, a list, a tuple -/
def LenV (K : PySem.W.Frag) (x : V) (H : Hp) (n : Nat) : Prop :=
  match x with
  | .str y => y.length ≤ sizeLine ∧ n = y.length
  | .byt y => y.size ≤ sizeLine ∧ n = y.size
  | .ref p => (∃ xs, SqL K H p xs ∧ n = xs.length) ∨ ∃ xs, SqT K H p xs ∧ n = xs.length
  | _ => False
end
end L2

namespace L2
open PySem PySem.Spec PyProof.Rows

/-! ### an instance, its attributes a map -/
structure ObjM (h : Heap) (x dx C : Addr) (mA : Str → Option Value) : Prop where
  obj : h.get? x = some (PySem.W.instObj C dx)
  ns : h.Ns1 dx mA
  ne : dx ≠ x

theorem lookIn_ns {h : Heap} {dx : Addr} {mA : Str → Option Value} (n : h.Ns1 dx mA) : ∃ od, h.get? dx = some od ∧ ∀ name, PySem.W.lookIn name od = some (mA name) := by
  obtain ⟨o, es, ep, ho, hd, hk, _, hm⟩ := n
  refine ⟨o, ho, fun name => ?_⟩
  have e := hm name
  unfold nsFind findBy at e
  rw [← Array.find?_toList] at e
  unfold PySem.W.lookIn
  rw [hd]
  dsimp only
  split
  · rename_i y q
    rw [q] at e
    exact congrArg some e
  · rename_i q
    rw [q] at e
    have a : es.toList.any (·.refKey) = false := by
      rw [List.any_eq_false]
      intro y hy
      obtain ⟨z, t, hkey⟩ := hk y (Array.mem_toList_iff.mp hy)
      simp [DictEntry.refKey, hkey]
    have a' : ¬ es.toList.any (·.refKey) = true := by rw [a]; exact Bool.false_ne_true
    rw [if_neg a']
    exact congrArg some e

theorem ObjM.look {h : Heap} {x dx C : Addr} {mA : Str → Option Value} (I : ObjM h x dx C mA) : ∃ od, PySem.W.InstAt h x (PySem.W.instObj C dx) C (some od) ∧ ∀ name, PySem.W.lookIn name od = some (mA name) :=
  let ⟨od, ho, hl⟩ := lookIn_ns I.ns
  ⟨od, ⟨I.obj, rfl, rfl, ho⟩, hl⟩

section
variable {prog : Program} {w : World} {A : Around} {E : Value → Shared → Prop} {s : Shared} {K : PySem.W.Frag} {x dx C f : Addr} {mA : Str → Option Value} {name : Str} {v : Value}

end

/-! ### the attributes as a list of pairs -/
def putF (f : Str) (v : V) : List (Str × V) → List (Str × V)
  | [] => [(f, v)]
  | (g, x) :: r => if g = f then (g, v) :: r else (g, x) :: putF f v r
theorem RelO.some_of {v : V} {o : Option Value} (r : RelO (some v) o) : ∃ u, o = some u ∧ RelV v u := by
  cases o with
  | none => exact (show False from r).elim
  | some u => exact ⟨u, rfl, r⟩
section
variable {P : Program} {w : World} {H H' : Hp} {h h' : Heap} {a C dx : Addr} {fs fs' : List (Str × V)}
theorem ins_get (hok : HOk P w H h) (e : H a = some (.ins C dx fs)) : ∃ mA, ObjM h a dx C mA ∧ (∀ f, RelO (fs.lookup f) (mA f)) ∧ PySem.Within mA (fs.map (·.1)) ∧ fs.length ≤ 1000 ∧ H dx = some (.own a) := by
  obtain ⟨d, z, ne, ob, mA, n, r, q⟩ := (show ObjOk P w H h a (.ins C dx fs) from hok a _ e)
  exact ⟨mA, ⟨ob, n, ne⟩, r, q, z, d⟩
end

/-! ### what of the text a class must have -/
structure Cls (K : PySem.W.Frag) (C : Addr) : Prop where
  pg : PySem.W.plainGet K C Str.empty = true
  hd : PySem.W.hasDictIn K C = true
  po : PySem.W.plainOver K C = true
  sa : PySem.W.findIn K (.ref C) "__setattr__" = some (some (.builtin "object.__setattr__"))
theorem Cls.get {K : PySem.W.Frag} {C : Addr} (c : Cls K C) (f : Str) : PySem.W.plainGet K C f = true := c.pg
/-- no class of it has the name -/
def NoAttr (K : PySem.W.Frag) (C : Addr) (f : Str) : Prop := PySem.W.findIn K (.ref C) f = some none
/-- a constant of the class -/
structure Con (K : PySem.W.Frag) (C : Addr) (f : Str) (v : V) (u : Value) : Prop where
  at_ : PySem.W.findIn K (.ref C) f = some (some u)
  rel : RelV v u
  get : PySem.W.specialIn K u "__get__" = some none
  cp : PySem.W.copiedNames.contains f = false
/-- a method: a plain def of the class or of one above it -/
structure Meth (K : PySem.W.Frag) (C : Addr) (m : Str) (f : Addr) : Prop where
  at_ : PySem.W.findIn K (.ref C) m = some (some (.ref f))
  fn : PySem.W.isFn K (.ref f) = true
  kp : PySem.W.keepIn K (.ref f) = true

section
variable {X : Cx} {pins : List (Addr × Obj)} {σ : St} {H : Hp} {s : Shared} {a C dx : Addr} {fs : List (Str × V)} {f : Str} {v : V} {A : Around} {E : Value → Shared → Prop}

end

/-! ### readings and rules -/
/-- e.f, an attribute of the instance -/
def tFld (K : PySem.W.Frag) (ta : TE) (f : Str) : TE := fun σ H Q => ta σ H fun x H1 => ∃ a C dx fs v, x = .ref a ∧ H1 a = some (.ins C dx fs) ∧ Cls K C ∧ NoAttr K C f ∧ fs.lookup f = some v ∧ Q v H1
/-- e.f, a constant of the class -/
def tCon (K : PySem.W.Frag) (ta : TE) (f : Str) : TE := fun σ H Q => ta σ H fun x H1 => ∃ a C dx fs v u, x = .ref a ∧ H1 a = some (.ins C dx fs) ∧ Cls K C ∧ Con K C f v u ∧ fs.lookup f = none ∧ Q v H1
/-- e.f = value -/
def sFld (K : PySem.W.Frag) (ta tv : TE) (f : Str) : TS := fun D σ H => tv σ H fun y H1 => ta σ H1 fun x H2 => ∃ a C dx fs, x = .ref a ∧ H2 a = some (.ins C dx fs) ∧ Cls K C ∧ NoAttr K C f ∧ fs.length < 1000 ∧
  D.nx σ (upd H2 a (.ins C dx (putF f y fs)))
/-- an augmented operator on two values -/
def InOp (X : Cx) (op : Operator) (rd : V → V → Hp → VK → Prop) : Prop :=
  ∀ (pins : List (Addr × Obj)) (s : Shared) (σ : St) (H : Hp) (x y : V) (u v : Value) (Q : VK), Inv X pins σ H s → RelV x u → RelV y v → rd x y H Q → wpAny (model X.prog X.w) X.A (inplaceOp op u v) (EP X pins σ Q) X.xe s
/-- e.f op= value -/
def sFldAug (K : PySem.W.Frag) (ta tv : TE) (rd : V → V → Hp → VK → Prop) (f : Str) : TS := fun D σ H => ta σ H fun x H1 => ∃ a C dx fs v, x = .ref a ∧ H1 a = some (.ins C dx fs) ∧ Cls K C ∧ NoAttr K C f ∧ fs.lookup f = some v ∧
  tv σ H1 fun y H2 => rd v y H2 fun z H3 => ∃ dx' fs', H3 a = some (.ins C dx' fs') ∧ fs'.length < 1000 ∧ D.nx σ (upd H3 a (.ins C dx' (putF f z fs')))

section
variable {X : Cx} {o e value : Expr} {f : Str} {pos pos' tpos : Pos} {ta tv : TE}
def rAdd : V → V → Hp → VK → Prop := fun x y H Q => ∃ i j, x = .int i ∧ y = .int j ∧ Q (.int (i + j)) H
def rSub : V → V → Hp → VK → Prop := fun x y H Q => ∃ i j, x = .int i ∧ y = .int j ∧ Q (.int (i - j)) H
end

/-! ### isinstance -/
section
variable {X : Cx} {pins : List (Addr × Obj)} {σ : St} {H : Hp} {s : Shared} {A : Around} {E : Value → Shared → Prop} {Q : Value → Shared → Prop} {c : Value} {b : Bool}
/-- the type of a value, as the fragment's deciders take it; for an instance its class -/
inductive TyOf (K : PySem.W.Frag) (H : Hp) : V → Value → Prop where
  | non : TyOf K H .non (.type "NoneType")
  | bl (x : Bool) : TyOf K H (.bl x) (.type "bool")
  | int (i : Int) : TyOf K H (.int i) (.type "int")
  | str (x : Str) : TyOf K H (.str x) (.type "str")
  | flt (x : UInt64) : TyOf K H (.flt x) (.type "float")
  | lst {a : Addr} {xs : List V} (e : H a = some (.lst xs)) : TyOf K H (.ref a) (.type "list")
  | frz {a : Addr} {o : Obj} {xs : List V} (e : H a = some (.frz o (.lst xs))) : TyOf K H (.ref a) (.type "list")
  | tup {a : Addr} {xs : List V} (e : H a = some (.tup xs)) : TyOf K H (.ref a) (.type "tuple")
  | dK {a : Addr} {kvs : List (Key × V)} (e : H a = some (.dK kvs)) : TyOf K H (.ref a) (.type "dict")
  | dT {a : Addr} {kvs : List (List Key × V)} (e : H a = some (.dT kvs)) : TyOf K H (.ref a) (.type "dict")
  | ins {a C dx : Addr} {fs : List (Str × V)} (e : H a = some (.ins C dx fs)) (cl : Cls K C) (ha : PySem.W.findIn K (.ref C) "__class__" = some (some (.builtin "object.__class__")))
      (hn : PySem.W.specialIn K (.builtin "object.__class__") "__get__" = some (some (.builtin "getset_descriptor.__get__"))) (htk : PySem.W.takesIn K (.builtin "object.__class__") = some true)
      (hm : PySem.W.mroIn K C (.type "object") = some true) : TyOf K H (.ref a) (.ref C)
/-- isinstance(x, c) for one class c, a built-in or an own one: kitOne's answer -/
theorem isinst_ok {x : V} {u t : Value} (I : Inv X pins σ H s) (rx : RelV x u) (ty : TyOf X.K H x t) (e : PySem.W.kitOne X.K t c = some b) (h : ∀ tk, Q (.bool b) { s with toks := tk }) :
    wpAny (model X.prog X.w) A (call (.builtin "isinstance") [u, c]) Q E s := by
  cases ty with
  | non => cases (show u = Value.none from rx); exact PySem.W.kia_one PySem.W.kitx_none I.kIn True.intro e (fun z => nomatch z) h
  | bl y => cases (show u = Value.bool y from rx); exact PySem.W.kia_one PySem.W.kitx_bool I.kIn True.intro e (fun z => nomatch z) h
  | int i => obtain ⟨t, q⟩ := (show ∃ t, u = Value.int i t from rx); cases q; exact PySem.W.kia_one PySem.W.kitx_int I.kIn True.intro e (fun z => nomatch z) h
  | str y => obtain ⟨t, q⟩ := (show ∃ t, u = Value.str y t from rx); cases q; exact PySem.W.kia_one PySem.W.kitx_str I.kIn True.intro e (fun z => nomatch z) h
  | flt y => obtain ⟨t, q⟩ := (show ∃ t, u = Value.float y t from rx); cases q; exact PySem.W.kia_one PySem.W.kitx_float I.kIn True.intro e (fun z => nomatch z) h
  | @lst a xs ea =>
    cases (show u = Value.ref a from rx)
    obtain ⟨_, _, n, _, h1⟩ := (show ObjOk X.prog X.w H s.heap a (.lst xs) from I.hok a _ ea)
    exact PySem.W.kia_one PySem.W.kitx_list I.kIn ⟨_, h1, rfl⟩ e (fun z => nomatch z) h
  | @frz a ob xs ea =>
    cases (show u = Value.ref a from rx)
    obtain ⟨_, _, _, n, _, h1⟩ := (show ObjOk X.prog X.w H s.heap a (.frz ob (.lst xs)) from I.hok a _ ea)
    exact PySem.W.kia_one PySem.W.kitx_list I.kIn ⟨_, h1, rfl⟩ e (fun z => nomatch z) h
  | @tup a xs ea =>
    cases (show u = Value.ref a from rx)
    obtain ⟨_, _, _, p⟩ := (show ObjOk X.prog X.w H s.heap a (.tup xs) from I.hok a _ ea)
    obtain ⟨o, h1, h2, _⟩ := p
    exact PySem.W.kia_one PySem.W.kitx_tuple I.kIn ⟨o, h1, h2⟩ e (fun z => nomatch z) h
  | @dK a kvs ea =>
    cases (show u = Value.ref a from rx)
    obtain ⟨_, _, vs, _, p⟩ := (show ObjOk X.prog X.w H s.heap a (.dK kvs) from I.hok a _ ea)
    obtain ⟨o, es, ep, h1, h2, _⟩ := p
    exact PySem.W.kia_one PySem.W.kitx_dict I.kIn ⟨o, h1, h2.1⟩ e (fun z => nomatch z) h
  | @dT a kvs ea =>
    cases (show u = Value.ref a from rx)
    obtain ⟨_, _, xs, _, o, es, ep, h1, h2, _⟩ := (show ObjOk X.prog X.w H s.heap a (.dT kvs) from I.hok a _ ea)
    exact PySem.W.kia_one PySem.W.kitx_dict I.kIn ⟨o, h1, h2.1⟩ e (fun z => nomatch z) h
  | @ins a C dx fs ea cl ha hn htk hm =>
    cases (show u = Value.ref a from rx)
    obtain ⟨mA, O, _⟩ := ins_get I.hok ea
    obtain ⟨od, J, _⟩ := O.look
    exact PySem.W.kia_one (PySem.W.kitx_own (cl.get _) cl.hd ha hn htk hm) I.kIn J e (fun z => nomatch z) h
end
end L2

namespace L2
open PySem PySem.Spec PyProof.Rows

/-! ### room -/
structure Room (k : Nat) (A : Around) : Prop where
  hd : A.handled = none
  dp : A.depth + 3 * k + 5 < recursionLimit
  un : A.units + 16 * k + 200 < cLine
theorem Room.mono {j k : Nat} {A : Around} (r : Room k A) (h : j ≤ k) : Room j A := ⟨r.hd, by have := r.dp; omega, by have := r.un; omega⟩
theorem Room.deeper {k : Nat} {A : Around} (r : Room (k + 1) A) (env : Env) : Room k (A.deeper env) :=
  ⟨r.hd, by have := r.dp; show A.depth + 1 + 3 * k + 5 < _; omega, by have := r.un; show A.units + 3 + 16 * k + 200 < _; omega⟩
theorem Room.depth {k : Nat} {A : Around} (r : Room k A) : A.depth < recursionLimit := by have := r.dp; omega
theorem Room.units {k : Nat} {A : Around} (r : Room k A) : A.units + 64 < cLine := by have := r.un; omega
/-! ### argument lists and displays -/
def tNil : TA := fun _ H Q => Q [] H
def tCons (ta : TE) (tr : TA) : TA := fun σ H Q => ta σ H fun x H1 => tr σ H1 fun xs H2 => Q (x :: xs) H2
section
variable {X : Cx} {e : Expr} {es : List Expr} {te : TE} {t : TA} {pos : Pos}
theorem pa_nil : PA X [] tNil := fun _ _ _ _ H Q I h => Calls.spliced_nil ⟨[], H, I, .nil, h⟩
theorem pa_cons (ha : PE X e te) (hr : PA X es t) (hs : starEach (e :: es) X.env = (false, eval e X.env) :: starEach es X.env := by rfl) : PA X (e :: es) (tCons te t) := by
  intro pos pins s σ H Q I h
  rw [hs]
  show wpAny _ _ (spliced ((false, eval e X.env) :: backTo pos (starEach es X.env))) _ _ s
  refine Calls.spliced_cons (thn (ha pins s σ H _ I h) fun u s1 ⟨x, H1, I1, r1, q1⟩ => ?_)
  exact thn (hr pos pins s1 σ H1 _ I1 q1) fun us s2 ⟨xs, H2, I2, r2, q2⟩ => ⟨x :: xs, H2, I2, .cons r1 r2, q2⟩

/-- a tuple, a list of written items -/
def tTup (t : TA) : TE := fun σ H Q => t σ H fun xs H1 => xs.length ≤ sizeLine ∧ ∀ p, H1 p = none → Q (.ref p) (upd H1 p (.tup xs))
def tLst (t : TA) : TE := fun σ H Q => t σ H fun xs H1 => xs.length ≤ sizeLine ∧ ∀ p, H1 p = none → Q (.ref p) (upd H1 p (.lst xs))
theorem pe_tup {x1} (h : PA X es t) : PE X (.Tuple es x1 pos) (tTup t) := by
  intro pins s σ H Q I hq
  refine wpAny_Tuple_spliced (thn (h pos pins s σ H _ I hq) fun us s1 ⟨xs, H1, I1, r, z, q⟩ => ⟨by rw [← r.length]; exact z, ?_⟩)
  have hf : H1 s1.heap.objs.size = none := I1.hok.fresh (Nat.le_refl _)
  refine ⟨.ref s1.heap.objs.size, upd H1 s1.heap.objs.size (.tup xs), I1.laid (t' := s1.toks) (fun b u e => Heap.get?_push_of_some _ e) (Nat.le_refl _) ?_, rfl, q _ hf⟩
  exact ⟨z, us, r, ⟨_, Heap.get?_push_size _ rfl, rfl, _, rfl⟩⟩
theorem pe_lst (h : PA X es t) : PE X (.List es pos) (tLst t) := by
  intro pins s σ H Q I hq
  refine wpAny_List_spliced (thn (h pos pins s σ H _ I hq) fun us s1 ⟨xs, H1, I1, r, z, q⟩ => ⟨by rw [← r.length]; exact z, ?_⟩)
  have hf : H1 s1.heap.objs.size = none := I1.hok.fresh (Nat.le_refl _)
  refine ⟨.ref s1.heap.objs.size, upd H1 s1.heap.objs.size (.lst xs), I1.laid (t' := s1.toks) (fun b u e => Heap.get?_push_of_some _ e) (Nat.le_refl _) ?_, rfl, q _ hf⟩
  exact ⟨z, us, 0, r, Heap.get?_push_size _ rfl⟩
end

/-! ### what a def promises -/
/-- a def's promise: the bound arguments in the parameters' order, the heap, the wanted end, the wanted exception -/
abbrev Sp := List V → Hp → VK → XK → Prop
/-- how an exception lies behind a call (file 08 gives it): the callers' frames, abstract heap and state ahead of the call, the wish, the exception, the state -/
abbrev CXT := List Env → Hp → Shared → XK → Value → Shared → Prop

/-- the state at a call -/
structure Env0 (P : Program) (w : World) (K : PySem.W.Frag) (mg : Str → Option Value) (base : Heap) (A : Around) (outer : List Env) (s : Shared) (H : Hp) : Prop where
  frames : A.frames = some outer
  mod : Mod K mg base
  bs : ∀ b o, base.get? b = some o → s.heap.get? b = some o ∧ H b = none
  bsz : base.objs.size ≤ s.heap.objs.size
  funs : s.heap.FunFrames base outer
  frf : ∀ b ∈ frs outer, H b = none
  hok : HOk P w H s.heap
  bare : AllBare s.gens
/-- a call's end -/
def CE (outer : List Env) (P : Program) (w : World) (H : Hp) (s : Shared) (Q : VK) (u : Value) (s' : Shared) : Prop :=
  ∃ v H', s'.os = s.os ∧ AllBare s'.gens ∧ Un (frs outer) [] H H' s.heap s'.heap ∧ HOk P w H' s'.heap ∧ RelV v u ∧ Q v H'
def CR (CX : CXT) (outer : List Env) (P : Program) (w : World) (H : Hp) (s : Shared) (Q : VK) (E : XK) (r : Result) (s' : Shared) : Prop :=
  match r with
  | .ok (.ret u) => CE outer P w H s Q u s'
  | .ok _ => False
  | .error e => CX outer H s E e s'
structure FnOk (P : Program) (w : World) (K : PySem.W.Frag) (mg : Str → Option Value) (base : Heap) (CX : CXT) (k : Nat) (f : Addr) (fd : FuncData) (ps : List Str) (sp : Sp) : Prop where
  len : ∀ vs H Q E, sp vs H Q E → vs.length = ps.length
  run : ∀ (A : Around) (outer : List Env) (s : Shared) (H : Hp) (args : Args) (us : List Value) (vs : List V) (Q : VK) (E : XK), Room k A → Env0 P w K mg base A outer s H → BindsTo s fd args (ps.zip us) → Vals vs us → sp vs H Q E →
    codeAny (model P w) A (.call (.ref f) args) (CR CX outer P w H s Q E) s
theorem FnOk.mono {P : Program} {w : World} {K : PySem.W.Frag} {mg : Str → Option Value} {base : Heap} {CX : CXT} {j k : Nat} {f : Addr} {fd : FuncData} {ps : List Str} {sp : Sp} (F : FnOk P w K mg base CX j f fd ps sp) (h : j ≤ k) :
    FnOk P w K mg base CX k f fd ps sp := ⟨F.len, fun A outer s H args us vs Q E hr => F.run A outer s H args us vs Q E (hr.mono h)⟩
section
variable {X : Cx} {pins : List (Addr × Obj)} {σ : St} {H : Hp} {s s' : Shared}
/-- from a body: what a callee wants -/
theorem Inv.env0 (I : Inv X pins σ H s) : Env0 X.prog X.w X.K X.mg X.base X.A X.stack s H :=
  ⟨I.ok.frames, I.ok.mod, I.bs, Nat.le_trans I.ok.bsz I.sz, I.stack, I.stkFree, I.hok, I.bare⟩
/-- behind a call -/
theorem Inv.after {Q : VK} {u : Value} (I : Inv X pins σ H s) (h : CE X.stack X.prog X.w H s Q u s') : EP X pins σ Q u s' := by
  obtain ⟨v, H', os, bare, un, hok, r, q⟩ := h
  obtain ⟨hh, g, d, t, os'⟩ := s'
  obtain rfl : os' = s.os := os
  exact ⟨v, H', I.call (h' := hh) (g' := g) (d' := d) (t' := t) (ch := []) un hok bare (fun b z => absurd z (by simp)), r, q⟩
end

/-! ### calls -/
/-- f(..): the written arguments, then the defaults dvs; E: what is wanted of an exception -/
def tCall (sp : Sp) (dvs : List V) (E : XK) (t : TA) : TE := fun σ H Q => t σ H fun vs H1 => sp (vs ++ dvs) H1 Q E
/-- o.m(..) of an instance of the class at C -/
def tMeth (C : Addr) (m : Str) (sp : Sp) (dvs : List V) (E : XK) (ta : TE) (t : TA) : TE := fun σ H Q => ta σ H fun x H1 => ∃ a dx fs, x = .ref a ∧ H1 a = some (.ins C dx fs) ∧ fs.lookup m = none ∧
  t σ H1 fun vs H2 => sp (x :: (vs ++ dvs)) H2 Q E
/-- C(..): a new instance and its dict, then __init__ -/
def tMake (C : Addr) (sp : Sp) (dvs : List V) (E : XK) (t : TA) : TE := fun σ H Q => t σ H fun vs H1 => ∀ x dx, H1 x = none → H1 dx = none → dx ≠ x →
  sp (.ref x :: (vs ++ dvs)) (upd (upd H1 dx (.own x)) x (.ins C dx [])) (fun v H2 => v = .non ∧ Q (.ref x) H2) E

/-- how the parameters are bound: us the positional arguments, kw the keywords' values by name, ds the defaults that fill up -/
def Binds (K : PySem.W.Frag) (fd : FuncData) (ps : List Str) (ds : List Value) : Prop :=
  ∀ (s : Shared) (us : List Value), K.In s.heap → (us ++ ds).length = ps.length → BindsTo s fd ⟨us, []⟩ (ps.zip (us ++ ds))
/-- every parameter is given -/
theorem Binds.all {K : PySem.W.Frag} {fd : FuncData} {ps : List Str} (h : ∀ us : List Value, us.length = ps.length → bindArgs fd ⟨us, []⟩ = pure (ps.zip us)) : Binds K fd ps [] := fun s us _ hl => by
  rw [List.append_nil] at hl ⊢
  exact .of_eq (h us hl)

/-- an exception of a callee reaches what this body wants of exceptions -/
def Passes (CX : CXT) (X : Cx) (E : XK) : Prop := ∀ (pins : List (Addr × Obj)) (σ : St) (H : Hp) (s : Shared) (e : Value) (s' : Shared), Inv X pins σ H s → CX X.stack H s E e s' → X.xe e s'

section
variable {X : Cx} {CX : CXT} {k : Nat} {f C : Addr} {fd : FuncData} {ps : List Str} {sp : Sp} {dvs : List V} {ds : List Value} {E : XK} {x m : Str} {p pos apos : Pos} {e o : Expr} {es : List Expr} {ta : TE} {t : TA}

/-- the callee runs -/
theorem run_fn {pins : List (Addr × Obj)} {σ : St} {H : Hp} {s : Shared} {Q : VK} {us : List Value} {vs : List V} (F : FnOk X.prog X.w X.K X.mg X.base CX k f fd ps sp) (hr : Room k X.A) (hb : Binds X.K fd ps ds) (hd : Vals dvs ds) (hx : Passes CX X E)
    (I : Inv X pins σ H s) (r : Vals vs us) (h : sp (vs ++ dvs) H Q E) : wpAny (model X.prog X.w) X.A (call (.ref f) us) (EP X pins σ Q) X.xe s := by
  have r2 : Vals (vs ++ dvs) (us ++ ds) := r.append hd
  have hl : (us ++ ds).length = ps.length := by rw [← r2.length]; exact F.len _ _ _ _ h
  refine wpAny_call (codeAny_mono (F.run X.A X.stack s H ⟨us, []⟩ (us ++ ds) (vs ++ dvs) Q E hr I.env0 (hb s us I.kIn hl) r2 h) fun r s' hq => ?_)
  cases r with
  | error e => exact hx pins σ H s e s' I hq
  | ok fl =>
    cases fl with
    | ret u => exact I.after hq
    | next => exact False.elim hq
    | brk => exact False.elim hq
    | cont => exact False.elim hq

theorem pe_call (F : FnOk X.prog X.w X.K X.mg X.base CX k f fd ps sp) (hr : Room k X.A) (hg : Gl X x) (hm : X.mg x = some (.ref f)) (hk : PySem.W.keepIn X.K (.ref f) = true) (hb : Binds X.K fd ps ds) (hd : Vals dvs ds) (hx : Passes CX X E)
    (ha : PA X (e :: es) t) (hdb : (x == ("__debug__" : Str)) = false := by decide) (he : starEach (e :: es) X.env = (false, eval e X.env) :: starEach es X.env := by rfl) (hpl : (backTo pos (starEach es X.env)).any (·.1) = false := by rfl) :
    PE X (.Call (.Name x p) (e :: es) [] pos) (tCall sp dvs E t) := by
  intro pins s σ H Q I h
  refine wpAny_Call_Name_kw (ld_glob I hg hm ?_ hdb)
  refine PySem.W.callWith_K (h₀ := X.base) I.ok.mod.kin hk (thn (ha pos pins s σ H _ I h) fun us s1 ⟨vs, H1, I1, r, q⟩ => ⟨I1.kIn, ?_⟩) he hpl
  exact run_fn F hr hb hd hx I1 r q
/-- what a class must have to be made -/
structure Mk (K : PySem.W.Frag) (C f : Addr) : Prop where
  makes : PySem.W.makesIn K C = true
  init : PySem.W.findIn K (.ref C) "__init__" = some (some (.ref f))
  fn : PySem.W.isFn K (.ref f) = true
  kp : PySem.W.keepIn K (.ref C) = true

end

/-! ### keywords -/
/-- the values of the keywords, from the left -/
def PK (X : Cx) (kws : List Keyword) (t : TA) : Prop :=
  ∀ (pos : Pos) (pins : List (Addr × Obj)) (s : Shared) (σ : St) (H : Hp) (Q : List V → Hp → Prop), Inv X pins σ H s → t σ H Q → wpAny (model X.prog X.w) X.A (evalAll ((backToKw pos (keywordEach kws X.env)).map (·.2))) (AP X pins σ Q) X.xe s
section
variable {X : Cx} {CX : CXT} {k : Nat} {f C : Addr} {fd : FuncData} {ps ks : List Str} {sp : Sp} {E : XK} {x m : Str} {p pos apos kpos : Pos} {e o : Expr} {es : List Expr} {kws : List Keyword} {te ta : TE} {t tk : TA} {nm : Option Str}
/-- how a call with keywords binds: g puts the positional values us and the keywords' values ws (names ks) in the parameters' order, defaults among them -/
structure KBinds (K : PySem.W.Frag) (fd : FuncData) (ps ks : List Str) (g : List Value → List Value → List Value) (gV : List V → List V → List V) : Prop where
  to : ∀ (s : Shared) (us ws : List Value), K.In s.heap → (g us ws).length = ps.length → BindsTo s fd ⟨us, ks.zip ws⟩ (ps.zip (g us ws))
  rel : ∀ {vs : List V} {us : List Value} {zs : List V} {ws : List Value}, Vals vs us → Vals zs ws → Vals (gV vs zs) (g us ws)
def tCallK (sp : Sp) (gV : List V → List V → List V) (E : XK) (t tk : TA) : TE := fun σ H Q => t σ H fun vs H1 => tk σ H1 fun zs H2 => sp (gV vs zs) H2 Q E
variable {g : List Value → List Value → List Value} {gV : List V → List V → List V}
end

/-! ### a def's body keeps its promise -/
/-- names: the parameters first -/
structure FnScope (N P : List Str) (sc : Scope) : Prop where
  kind : sc.kind = .function
  co : sc.isCoroutine = false
  gen : sc.isGenerator = false
  nd : N.Nodup
  pre : N.take P.length = P
  par : ∀ x ∈ P, sc.names.lookup x = some .local ∨ sc.names.lookup x = some .cell
  nofree : ∀ y ∈ sc.names, y.2 ≠ .free

theorem bindL_out {kindOf : Str → Option NameKind} {x : Str} : ∀ {binds : List (Str × Value)} {m : Str → Option Value}, (∀ v, (x, v) ∉ binds) → bindL kindOf binds m x = m x
  | [], _, _ => rfl
  | (n, v) :: r, m, h => by
    unfold bindL
    rw [bindL_out fun w hw => h w (List.mem_cons_of_mem _ hw)]
    split
    · have : x ≠ n := by rintro rfl; exact h v List.mem_cons_self
      simp [this]
    · rfl
theorem bindC_out {kindOf : Str → Option NameKind} {x : Str} : ∀ {binds : List (Str × Value)} {m : Str → Option Value}, (∀ v, (x, v) ∉ binds) → bindC kindOf binds m x = m x
  | [], _, _ => rfl
  | (n, v) :: r, m, h => by
    unfold bindC
    rw [bindC_out fun w hw => h w (List.mem_cons_of_mem _ hw)]
    split
    · rfl
    · have : x ≠ n := by rintro rfl; exact h v List.mem_cons_self
      simp [this]
theorem bindL_get {kindOf : Str → Option NameKind} {x : Str} {v : Value} : ∀ {P : List Str} {vs : List Value} {i : Nat} {m : Str → Option Value}, P.Nodup → P[i]? = some x → vs[i]? = some v → kindOf x = some .local →
    bindL kindOf (P.zip vs) m x = some v
  | [], _, _, _, _, h, _, _ => by simp at h
  | _ :: _, [], _, _, _, _, h, _ => by simp at h
  | p :: P, w :: vs, 0, m, nd, h1, h2, hk => by
    simp at h1 h2; subst h1; subst h2
    show bindL kindOf ((p, w) :: P.zip vs) m p = _
    unfold bindL
    rw [bindL_out fun v hv => (List.nodup_cons.mp nd).1 (List.of_mem_zip hv).1, if_pos hk]
    simp
  | p :: P, w :: vs, i + 1, m, nd, h1, h2, hk => by
    show bindL kindOf ((p, w) :: P.zip vs) m x = _
    unfold bindL
    exact bindL_get (i := i) (List.nodup_cons.mp nd).2 (by simpa using h1) (by simpa using h2) hk
theorem bindC_get {kindOf : Str → Option NameKind} {x : Str} {v : Value} : ∀ {P : List Str} {vs : List Value} {i : Nat} {m : Str → Option Value}, P.Nodup → P[i]? = some x → vs[i]? = some v → kindOf x ≠ some .local →
    bindC kindOf (P.zip vs) m x = some v
  | [], _, _, _, _, h, _, _ => by simp at h
  | _ :: _, [], _, _, _, _, h, _ => by simp at h
  | p :: P, w :: vs, 0, m, nd, h1, h2, hk => by
    simp at h1 h2; subst h1; subst h2
    show bindC kindOf ((p, w) :: P.zip vs) m p = _
    unfold bindC
    rw [bindC_out fun v hv => (List.nodup_cons.mp nd).1 (List.of_mem_zip hv).1, if_neg hk]
    simp
  | p :: P, w :: vs, i + 1, m, nd, h1, h2, hk => by
    show bindC kindOf ((p, w) :: P.zip vs) m x = _
    unfold bindC
    exact bindC_get (i := i) (List.nodup_cons.mp nd).2 (by simpa using h1) (by simpa using h2) hk

/-- the names' values at the entry -/
def start (N : List Str) (vs : List V) : St := vs.map some ++ List.replicate (N.length - vs.length) none

/-- the context of a def's body, at its entry; an exception leaves the frame, then lies as CX says -/
def cxOf (CX : CXT) (P : Program) (w : World) (K : PySem.W.Frag) (mg : Str → Option Value) (base : Heap) (N : List Str) (qual : Str) (scope : Scope) (f : Addr) (cd : Value) (A : Around) (outer : List Env) (s : Shared) (H : Hp) (E : XK) : Cx where
  prog := P
  w := w
  K := K
  mg := mg
  base := base
  A := A.deeper (envOfC qual scope s.heap.objs.size f cd)
  N := N
  s₀ := s
  H₀ := H
  env := envOfC qual scope s.heap.objs.size f cd
  outer := outer
  stack := envOfC qual scope s.heap.objs.size f cd :: outer
  ex := []
  calm := true
  fn := fun _ => true
  pn := []
  xe := fun e s' => wpAny (model P w) (A.deeper (envOfC qual scope s.heap.objs.size f cd)) (leaving (envOfC qual scope s.heap.objs.size f cd) e) (fun _ s'' => CX outer H s E e s'') (fun e' s'' => CX outer H s E e' s'') s'

theorem cell_has {sc : Scope} {n : Nat} {x : Str} (h : sc.names.lookup x = some .cell) : ∃ c, (cellsFrom n sc.names []).lookup x = some c := by
  have q := PySem.W.cellsFrom_some sc.names n [] (.inl h)
  exact Option.isSome_iff_exists.mp q

theorem inv_start {CX : CXT} {P : Program} {w : World} {K : PySem.W.Frag} {mg : Str → Option Value} {base : Heap} {N ps : List Str} {qual : Str} {scope : Scope} {f : Addr} {cd : Value} {A : Around} {outer : List Env} {s s1 : Shared} {H : Hp} {E : XK} {us : List Value} {vs : List V}
    (S : FnScope N ps scope) (hd : A.handled = none) (e0 : Env0 P w K mg base A outer s H) (hl : vs.length = ps.length) (r : Vals vs us)
    (x : InCallC s s.heap.objs.size (bindL (envOfC qual scope s.heap.objs.size f cd).kindOf (ps.zip us) fun _ => none) (cellsFrom (s.heap.objs.size + 1) scope.names []) (bindC (envOfC qual scope s.heap.objs.size f cd).kindOf (ps.zip us) fun _ => none) s1) :
    Inv (cxOf CX P w K mg base N qual scope f cd A outer s H E) [] (start N vs) H s1 := by
  have hpl : ps.length ≤ N.length := by have := congrArg List.length S.pre; rw [List.length_take] at this; omega
  obtain ⟨h1, tk, rfl, hk⟩ := x.done
  have noA : ∀ b : Addr, b ∉ (cxOf CX P w K mg base N qual scope f cd A outer s H E).ex := fun b z => absurd (show b ∈ ([] : List Addr) from z) (by simp)
  refine ⟨⟨e0.mod, S.kind, rfl, rfl, Nat.le_refl _, fun y z c h1 h2 => ?_, fun y hy => ?_, fun y c _ h => ?_, fun _ => hd, Around.frames_deeper e0.frames, .inr ⟨rfl, rfl⟩, fun b z => absurd z (noA b), e0.bs, e0.bsz, fun b _ _ => noA b, fun b z => absurd z (noA b), e0.funs, e0.frf⟩,
    rfl, e0.bare, Un.kept hk, ⟨_, x.toInCall.ns, fun i y v h1 h2 h3 => ?_⟩, fun y c h => ⟨_, x.cell y c h⟩, e0.hok.fresh (Nat.le_refl _), fun y c h => ?_, fun p hp => absurd (show p ∈ ([] : List (Addr × Obj)) from hp) (by simp), e0.hok.kept hk, ?_⟩
  · exact name_of_addr x.apart (PySem.mem_of_lookup h1) (PySem.mem_of_lookup h2)
  · have hy : scope.names.lookup y = some .cell ∨ scope.names.lookup y = some .free := hy
    rcases hy with hy | hy
    · exact cell_has hy
    · exact absurd rfl (S.nofree _ (PySem.mem_of_lookup hy))
  · exact Nat.le_of_lt (x.above y c (PySem.mem_of_lookup h))
  · have hi : i < vs.length := by
      unfold start at h2
      by_cases hi : i < vs.length
      · exact hi
      · rw [List.getElem?_append_right (by simpa using hi)] at h2
        rw [List.getElem?_replicate] at h2
        split at h2 <;> cases h2
    have ha : vs[i]? = some v := by
      unfold start at h2
      rw [List.getElem?_append_left (by simpa using hi), List.getElem?_map] at h2
      cases e : vs[i]? with
      | none => rw [e] at h2; cases h2
      | some a => rw [e] at h2; cases h2; rfl
    obtain ⟨u, hu, rv⟩ := r.get ha
    have hp : ps[i]? = some y := by
      rw [← S.pre, List.getElem?_take_of_lt (by omega)]; exact h1
    have ndP : ps.Nodup := by rw [← S.pre]; exact S.nd.sublist (List.take_sublist _ _)
    refine ⟨u, rv, ?_⟩
    rcases S.par y (List.mem_of_getElem? hp) with k | k
    · exact .inl ⟨k, bindL_get ndP hp hu k⟩
    · obtain ⟨c, e⟩ := cell_has (n := s.heap.objs.size + 1) k
      refine .inr ⟨.inl k, c, e, ?_⟩
      have q := x.cell y c e
      rw [bindC_get ndP hp hu (by show scope.names.lookup y ≠ _; rw [k]; decide)] at q
      exact q
  · exact e0.hok.fresh (Nat.le_of_lt (x.above y c (PySem.mem_of_lookup h)))
  · unfold start
    show _ = N.length
    rw [List.length_append, List.length_map, List.length_replicate]
    omega

/-- THE RULE: a def (or a method) of the text, by its body. The body's reading t is chosen for each entry; it is run at the parameters' values -/
theorem fn_of {CX : CXT} {P : Program} {w : World} {K : PySem.W.Frag} {mg : Str → Option Value} {base : Heap} {k : Nat} {f : Addr} {name qual : Str} {params : Arguments} {body : List Stmt} {scope : Scope} {dV kV doc pm cdv ct oc : Value} {an od : Option Addr}
    {osl : Array (Option Value)} {N ps : List Str} {sp : Sp} (lk : K.lookup f = some ⟨oc, od, .func (PySem.W.fnOf name qual params body scope dV kV doc pm an cdv ct), osl⟩) (hcd : PySem.W.codeIn K cdv qual = true) (S : FnScope N ps scope)
    (len : ∀ vs H Q E, sp vs H Q E → vs.length = ps.length)
    (hbody : ∀ (A : Around) (outer : List Env) (s : Shared) (H : Hp) (vs : List V) (Q : VK) (E : XK), Room k (A.deeper (envOfC qual scope s.heap.objs.size f cdv)) → sp vs H Q E →
      ∃ t, PSs (cxOf CX P w K mg base N qual scope f cdv A outer s H E) body t ∧ t { nx := fun _ H' => Q .non H', rt := Q } (start N vs) H) :
    FnOk P w K mg base CX (k + 1) f (PySem.W.fnOf name qual params body scope dV kV doc pm an cdv ct) ps sp := by
  refine ⟨len, fun A outer s H args us vs Q E hr e0 hb r hsp => ?_⟩
  have hl := len _ _ _ _ hsp
  have KX : K.In s.heap := e0.mod.kin.keeps fun b o e => (e0.bs b o e).1
  have lim : s.heap.NoLimit := e0.mod.nolimit.keeps fun b o e => (e0.bs b o e).1
  have hkind : ∀ y ∈ ps.zip us, scope.names.lookup y.1 = some .local ∨ (scope.names.lookup y.1 = some .cell ∧ ((cellsFrom (s.heap.objs.size + 1) scope.names []).lookup y.1).isSome = true) := fun ⟨n, v⟩ hy => by
    rcases S.par n (List.of_mem_zip hy).1 with q | q
    · exact .inl q
    · exact .inr ⟨q, PySem.W.cellsFrom_some _ _ _ (.inl q)⟩
  refine codeAny_call_function hr.depth (KX _ _ lk) rfl S.co S.gen rfl (PySem.W.codeRec_of KX hcd) (hb _ _ _ _ ?_)
  refine wpAny_newFunctionEnv_cells S.kind hkind fun env he s1 x => ?_
  subst he
  refine ⟨lim.keeps x.toInCall.keep, codeAny_func ?_⟩
  obtain ⟨t, ht, hq⟩ := hbody A outer s H vs Q E (hr.deeper _) hsp
  have I : Inv (cxOf CX P w K mg base N qual scope f cdv A outer s H E) [] (start N vs) H s1 := inv_start S hr.hd e0 hl r x
  refine wpAny_mono (ht [] s1 (start N vs) H _ I hq) (fun fl s' hs => ?_) fun e s' hs => hs
  have fin : ∀ {σ' : St} {H' : Hp} {v : V} {u : Value}, Inv (cxOf CX P w K mg base N qual scope f cdv A outer s H E) [] σ' H' s' → RelV v u → Q v H' → CE outer P w H s Q u s' :=
    fun {σ' H' v u} J rv q => ⟨v, H', J.os, J.bare, J.base, J.hok, rv, q⟩
  cases fl with
  | ret u =>
    obtain ⟨v, σ', H', J, rv, q⟩ := hs
    exact fin J rv q
  | next =>
    obtain ⟨σ', H', J, q⟩ := hs
    exact fin (v := V.non) (u := Value.none) J rfl q
  | brk =>
    obtain ⟨_, _, _, q⟩ := hs
    exact False.elim q
  | cont =>
    obtain ⟨_, _, _, q⟩ := hs
    exact False.elim q
end L2

namespace L2
open PySem PySem.Spec PyProof.Rows
section
variable {X : Cx} {x : Str} {p pos : Pos} {e : Expr} {es : List Expr} {t : TA} {id T : String} {r : List V → Hp → VK → Prop}

def tCB (r : List V → Hp → VK → Prop) (t : TA) : TE := fun σ H Q => t σ H fun vs H1 => r vs H1 Q
/-- f(e, ..), f a built-in function -/
theorem pe_callB (hc : CallR X (.builtin id) r) (hg : Gl X x) (hm : X.mg x = none) (hv : bootBuiltins x = some (.builtin id)) (ha : PA X (e :: es) t) (hn : x ≠ "__name__" := by decide) (hdb : (x == ("__debug__" : Str)) = false := by decide)
    (he : starEach (e :: es) X.env = (false, eval e X.env) :: starEach es X.env := by rfl) (hpl : (backTo pos (starEach es X.env)).any (·.1) = false := by rfl) : PE X (.Call (.Name x p) (e :: es) [] pos) (tCB r t) := by
  intro pins s σ H Q I h
  refine wpAny_Call_Name_kw (ld_blt I hg hm hv ?_ hn hdb)
  exact PyProof.Rows.callWith_builtin1 (thn (ha pos pins s σ H _ I h) fun us s1 ⟨vs, H1, I1, r1, q1⟩ => hc pins s1 σ H1 vs us Q I1 r1 q1) he hpl
/-- T(e, ..), T a built-in type -/
theorem pe_callTy (hc : CallR X (.type T) r) (hg : Gl X x) (hm : X.mg x = none) (hv : bootBuiltins x = some (.type T)) (ha : PA X (e :: es) t) (hn : x ≠ "__name__" := by decide) (hdb : (x == ("__debug__" : Str)) = false := by decide)
    (he : starEach (e :: es) X.env = (false, eval e X.env) :: starEach es X.env := by rfl) (hpl : (backTo pos (starEach es X.env)).any (·.1) = false := by rfl) : PE X (.Call (.Name x p) (e :: es) [] pos) (tCB r t) := by
  intro pins s σ H Q I h
  refine wpAny_Call_Name_kw (ld_blt I hg hm hv ?_ hn hdb)
  exact PyProof.Rows.callWith_type1 (thn (ha pos pins s σ H _ I h) fun us s1 ⟨vs, H1, I1, r1, q1⟩ => hc pins s1 σ H1 vs us Q I1 r1 q1) he hpl
end
end L2

namespace HT
open PySem PyProof.Rows

/-- t < u of tuples of ints -/
def lexLt : List Int → List Int → Bool
  | [], [] => false
  | [], _ :: _ => true
  | _ :: _, [] => false
  | x :: xs, y :: ys => if x = y then lexLt xs ys else decide (x < y)
theorem lexLt_cons (x y : Int) (xs ys : List Int) : lexLt (x :: xs) (y :: ys) = if x = y then lexLt xs ys else decide (x < y) := rfl
theorem lexLt_nil_nil : lexLt [] [] = false := rfl
theorem lexLt_nil_cons (y : Int) (ys : List Int) : lexLt [] (y :: ys) = true := rfl
theorem lexLt_cons_nil (x : Int) (xs : List Int) : lexLt (x :: xs) [] = false := rfl

theorem eqAt_int (A : Around) (s : Shared) (a : Int) (t : Tok) (c : Int) (u : Tok) : ∃ e, SeqAt.EqAt A s (.int a t) (.int c u) e ∧ (e = true ↔ a = c) :=
  ⟨(a == c), SeqAt.EqAt.int_int a t c u, by simp⟩
theorem rcLt_int (A : Around) (s : Shared) (a : Int) (t : Tok) (c : Int) (u : Tok) (prog : Program) (w : World) (E : Value → Shared → Prop) (Q : Value → Shared → Prop) (h : Q (.bool (decide (a < c))) s) :
    wpAny (model prog w) A (richCompare .Lt (.int a t) (.int c u)) Q E s :=
  (PyProof.Rows.lt_int h : wpAny (model prog w) A (compareOp .Lt (.int a t) (.int c u)) Q E s)

section
open PySem.SeqAt
open PySem.AutoSeq1 (wpAny_loadPart')
open PySem.MeetsSeq PySem.MeetsSeq2 PySem.MeetsSeq3

theorem tuple_lt_ints (l b : Addr) (items items2 : Array Value) (n n2 : Nat) (dd dd2 : Option Addr) (sl sl2 : Array (Option Value)) (ns ms : List Int) (hi : IntsAre items.toList ns) (hj : IntsAre items2.toList ms) :
    Meets (Builtin.«tuple.__lt__» ⟨[.ref l, .ref b], []⟩)
      (fun _ R s => s.heap.get? l = some { cls := .type "tuple", dict := dd, data := .seq items n, slots := sl } ∧ s.heap.get? b = some { cls := .type "tuple", dict := dd2, data := .seq items2 n2, slots := sl2 } ∧
        R (.ok (.ret (.bool (lexLt ns ms)))) s) :=
  .of_wp fun prog w A R s h => by
    obtain ⟨hp, g, d, tk, os⟩ := s; obtain ⟨hl, hb, h⟩ := h
    have f2 := AutoSeq1.sub_tuple_tuple
    have z1 : items.size = ns.length := by rw [← hi.length]; simp
    have z2 : items2.size = ms.length := by rw [← hj.length]; simp
    wp_walk using wpAny_loadPart' hl, wpAny_loadPart' hb, wpAny_forIn_list _ (fun rest b s' => b.1 = none ∧ s' = ⟨hp, g, d, tk, os⟩ ∧ ∃ (vs ws : List Value) (ns' ms' : List Int), rest = vs.zip ws ∧
      IntsAre vs ns' ∧ IntsAre ws ms' ∧ ns'.length + items2.size = ms'.length + items.size ∧ R (.ok (.ret (.bool (lexLt ns' ms')))) ⟨hp, g, d, tk, os⟩) _
    case turn =>
      rintro ⟨y, x⟩ rest b s' ⟨hb', rfl, vs, ws, ns', ms', hz, hvi, hwi, hlen, hR⟩
      cases hvi with
      | nil => rw [List.zip_nil_left] at hz; cases hz
      | cons a t hvi' =>
        cases hwi with
        | nil => rw [List.zip_nil_right] at hz; cases hz
        | cons c u hwi' =>
          rw [List.zip_cons_cons] at hz
          injection hz with hyx hrest
          injection hyx with hy hx
          subst hy hx
          rw [lexLt_cons] at hR
          simp only [List.length_cons] at hlen
          obtain ⟨e, he, hiff⟩ := eqAt_int A.in1 ⟨hp, g, d, tk, os⟩ a t c u
          refine wpAny_bind (he prog w _ _ ?_)
          cases e with
          | true =>
            rw [if_pos (hiff.mp rfl)] at hR
            wp_walk
            exact ⟨rfl, rfl, _, _, _, _, hrest, hvi', hwi', by omega, hR⟩
          | false =>
            rw [if_neg (fun q => absurd (hiff.mpr q) Bool.false_ne_true)] at hR
            have hri := rcLt_int A.in1 ⟨hp, g, d, tk, os⟩ a t c u prog w
            wp_walk using hri
            exact ⟨_, rfl, by simpa using hR⟩
    case fin =>
      rintro ⟨b1, b2⟩ s' ⟨hb', rfl, vs, ws, ns', ms', hz, hvi, hwi, hlen, hR⟩
      simp only at hb'
      subst hb'
      have hv : lexLt ns' ms' = decide (items.size < items2.size) := by
        cases hvi with
        | nil =>
          cases hwi with
          | nil =>
            simp only [List.length_nil] at hlen
            rw [lexLt_nil_nil]
            exact (decide_eq_false (by omega)).symm
          | cons c u hw =>
            simp only [List.length_nil, List.length_cons] at hlen
            rw [lexLt_nil_cons]
            exact (decide_eq_true (by omega)).symm
        | cons a t hv =>
          cases hwi with
          | nil =>
            simp only [List.length_nil, List.length_cons] at hlen
            rw [lexLt_cons_nil]
            exact (decide_eq_false (by omega)).symm
          | cons c u hw =>
            rw [List.zip_cons_cons] at hz
            cases hz
      rw [hv] at hR
      wp_walk
      exact ⟨_, rfl, by simpa [Builtin.Tuple.tupleCompareSizes] using hR⟩
    case h =>
      exact ⟨rfl, rfl, items.toList, items2.toList, ns, ms, rfl, hi, hj, by omega, h⟩
end

section
variable {prog : Program} {w : World} {A : Around} {E : Value → Shared → Prop} {s : Shared}

theorem lt_tupInts {l b : Addr} {items items2 : Array Value} {ns ms : List Int} {Q : Value → Shared → Prop} (hl : IsTup s.heap l items) (hb : IsTup s.heap b items2) (hi : IntsAre items.toList ns) (hj : IntsAre items2.toList ms)
    (hu : A.units < cLine) (h : Q (.bool (lexLt ns ms)) s) : wpAny (model prog w) A (compareOp .Lt (.ref l) (.ref b)) Q E s := by
  obtain ⟨⟨cls, dd, data, sl⟩, ho, hc, n, hd⟩ := id hl
  obtain ⟨⟨cls2, dd2, data2, sl2⟩, ho2, hc2, n2, hd2⟩ := id hb
  simp only at hc hd hc2 hd2
  subst hc hd hc2 hd2
  exact richCompare_meets_room (op := .Lt) ⟨_, ho, rfl⟩ ⟨_, ho2, rfl⟩ PySem.F.slot_tuple_lt PySem.F.entry_tuple_lt (PySem.F.args_tuple_lt_2 _ _) (tuple_lt_ints l b items items2 n n2 dd dd2 sl sl2 ns ms hi hj)
    ⟨ho, ho2, show Value.bool (lexLt ns ms) ≠ Value.notImplemented ∧ Q (.bool (lexLt ns ms)) s from ⟨(fun x => nomatch x), h⟩⟩ hu

/-! ### t[a:b], not the whole -/
/-- a slice's bound as a place among n (d where it is left out) -/
def sIx (n d : Nat) : Option Int → Nat
  | none => d
  | some v => if v < 0 then (v + (n : Int)).toNat else min v.toNat n
theorem sIx_none (n d : Nat) : sIx n d none = d := rfl
theorem sIx_nat (n d k : Nat) : sIx n d (some (k : Int)) = min k n := by
  show (if (k : Int) < 0 then ((k : Int) + (n : Int)).toNat else min (k : Int).toNat n) = min k n
  rw [if_neg (by omega), Int.toNat_natCast]
theorem sIx_le (n d : Nat) (hd : d ≤ n) (o : Option Int) : sIx n d o ≤ n := by
  cases o with
  | none => exact hd
  | some v =>
    show (if v < 0 then (v + (n : Int)).toNat else min v.toNat n) ≤ n
    by_cases hv : v < 0
    · rw [if_pos hv]; omega
    · rw [if_neg hv]; exact Nat.min_le_right _ _
theorem clip_eq (v : Int) (n d : Nat) : (if v < 0 then max (v + (n : Int)) 0 else min v (n : Int)) = ((sIx n d (some v) : Nat) : Int) := by
  show (if v < 0 then max (v + (n : Int)) 0 else min v (n : Int)) = (((if v < 0 then (v + (n : Int)).toNat else min v.toNat n) : Nat) : Int)
  by_cases hv : v < 0
  · simp only [if_pos hv]; omega
  · simp only [if_neg hv]; omega
theorem adjust_gen (lo hi : Option Int) (n : Nat) : Builtin.Slice.sliceAdjust lo hi 1 (n : Int) = (((sIx n 0 lo : Nat) : Int), ((sIx n n hi : Nat) : Int)) := by
  have h1 : ¬ ((1 : Int) < 0) := by omega
  unfold Builtin.Slice.sliceAdjust
  simp only [h1, if_false]
  refine Prod.ext ?_ ?_
  · cases lo with
    | none => rfl
    | some v => exact clip_eq v n 0
  · cases hi with
    | none => rfl
    | some v => exact clip_eq v n n
theorem places_gen (i j : Nat) : Builtin.Slice.slicePlaces (i : Int) (j : Int) 1 = j - i := by
  unfold Builtin.Slice.slicePlaces
  have h1 : (1 : Int) > 0 := by omega
  simp only [h1, if_true, Int.ediv_one]
  split <;> omega
theorem slicePart_ {v : Value} {o : Option Int} {Q : Option Int → Shared → Prop} (p : IsPart v o) (h : Q o s) : wpAny (model prog w) A (Builtin.Slice.slicePartIndex v) Q E s := by
  cases p with
  | none => exact slicePart_none h
  | int i t => exact slicePart_int h
theorem sliceApplied_gen {sl : Addr} {vl vu : Value} {lo hi : Option Int} {n : Nat} {Q : Int × Int × Nat → Shared → Prop} (hs : s.heap.IsSliceOf sl vl vu .none) (pl : IsPart vl lo) (pu : IsPart vu hi)
    (h : Q (((sIx n 0 lo : Nat) : Int), 1, sIx n n hi - sIx n 0 lo) s) : wpAny (model prog w) A (Builtin.Slice.sliceApplied (.ref sl) (pure (n : Int))) Q E s := by
  obtain ⟨os, hos, hcs, hds⟩ := id hs
  unfold Builtin.Slice.sliceApplied Builtin.Slice.sliceFields
  refine wpAny_bind (wpAny_bind (wpAny_field hos hds (x := vl) rfl (wpAny_bind (wpAny_field hos hds (x := vu) rfl (wpAny_bind (wpAny_field hos hds (x := .none) rfl (wpAny_pure ?_)))))))
  refine wpAny_bind (slicePart_none ?_)
  show wpAny _ _ (if ((1 : Int) == 0) = true then _ else _) _ _ s
  rw [if_neg (by decide)]
  refine wpAny_bind (slicePart_ pl (wpAny_bind (slicePart_ pu (wpAny_bind (wpAny_pure ?_)))))
  show wpAny _ _ (match Builtin.Slice.sliceAdjust lo hi 1 (n : Int) with | (lo, hi) => pure (lo, (1 : Int), Builtin.Slice.slicePlaces lo hi 1)) _ _ s
  rw [adjust_gen lo hi n]
  show wpAny _ _ (pure (((sIx n 0 lo : Nat) : Int), (1 : Int), Builtin.Slice.slicePlaces ((sIx n 0 lo : Nat) : Int) ((sIx n n hi : Nat) : Int) 1)) _ _ s
  rw [places_gen]
  exact wpAny_pure h
theorem pick_gen (xs : Array Value) (i k : Nat) : ((List.range k).filterMap fun (m : Nat) => xs[((i : Int) + (m : Int) * 1).toNat]?).toArray = ((xs.toList.drop i).take k).toArray := by
  have e : (fun (m : Nat) => xs[((i : Int) + (m : Int) * 1).toNat]?) = fun m => xs[i + m]? := by
    funext m
    have : ((i : Int) + (m : Int) * 1).toNat = i + m := by omega
    rw [this]
  rw [e]
  have := pick_run xs i k
  rw [List.filterMap_map] at this
  have e2 : ((fun x => xs[x]?) ∘ fun x => i + x) = fun m => xs[i + m]? := rfl
  rw [e2] at this
  rw [this]

theorem getItem_tuple_cut {t sl : Addr} {items : Array Value} {vl vu : Value} {lo hi : Option Int} {Q : Value → Shared → Prop} (ht : IsTup s.heap t items) (hs : s.heap.IsSliceOf sl vl vu .none) (pl : IsPart vl lo) (pu : IsPart vu hi)
    (hw : ¬ (sIx items.size 0 lo = 0 ∧ sIx items.size items.size hi = items.size))
    (h : Q (.ref s.heap.objs.size) { s with heap := s.heap.push { cls := .type "tuple", data := .seq ((items.toList.drop (sIx items.size 0 lo)).take (sIx items.size items.size hi - sIx items.size 0 lo)).toArray } })
    (hsz : items.size ≤ sizeLine) : wpAny (model prog w) A (getItem (.ref t) (.ref sl)) Q E s := by
  have htake : sizeOk (.seq ((items.toList.drop (sIx items.size 0 lo)).take (sIx items.size items.size hi - sIx items.size 0 lo)).toArray) := by
    show ((items.toList.drop (sIx items.size 0 lo)).take (sIx items.size items.size hi - sIx items.size 0 lo)).toArray.size ≤ sizeLine
    rw [List.size_toArray, List.length_take, List.length_drop, Array.length_toList]
    omega
  have hj : sIx items.size items.size hi ≤ items.size := sIx_le _ _ (Nat.le_refl _) hi
  obtain ⟨os, hos, hcs, hds⟩ := id hs
  have hTs : s.TypeIs (.ref sl) "slice" := ⟨os, hos, hcs⟩
  unfold getItem
  try with_reducible refine wpAny_holding ?_
  first | refine wpAny_bind (wpAny_pure ?_) | skip
  refine wpAny_bind (wpAny_sequenceKey ht.typeIs (by decide) ?_)
  refine wpAny_bind (wpAny_callSpecial?_slot (name := Str.ofString "__getitem__") ht.typeIs PyProof.Rows.slot_tuple_getitem
    (wpAny_call_entry PyProof.Rows.slot_tuple_getitem ht.typeIs entry_tuple_getitem ?_ (args_tuple_getitem _ _)))
  show wpAny _ _ (Builtin.Tuple.tupleItemsOf (.ref t) >>= _) _ _ s
  refine wpAny_bind (tupleItemsOf_ ht ?_)
  refine wpAny_bind (wpAny_typeOf hTs ?_)
  rw [if_pos (by decide)]
  refine wpAny_bind (sliceApplied_gen hs pl pu ?_)
  have hno : ¬ ((((sIx items.size 0 lo : Nat) : Int) == 0 && (1 : Int) == 1 && (sIx items.size items.size hi - sIx items.size 0 lo) == items.size) = true) := by
    intro q
    rw [Bool.and_eq_true, Bool.and_eq_true] at q
    have q1 : ((sIx items.size 0 lo : Nat) : Int) = 0 := eq_of_beq q.1.1
    have q2 : sIx items.size items.size hi - sIx items.size 0 lo = items.size := eq_of_beq q.2
    exact hw ⟨by omega, by omega⟩
  show wpAny _ _ (if (((sIx items.size 0 lo : Nat) : Int) == 0 && (1 : Int) == 1 && (sIx items.size items.size hi - sIx items.size 0 lo) == items.size) = true then _ else _) _ _ s
  rw [if_neg hno, pick_gen]
  first
    | exact wpAny_bind (m := Builtin.Tuple.tupleExact _) (wpAny_newObj_type (wpAny_pure ⟨_, rfl, wpAny_pure h⟩) htake)
    | exact wpAny_bind (m := Builtin.Tuple.tupleExact _) (wpAny_newObj_type (wpAny_bind (wpAny_pure (wpAny_pure ⟨_, rfl, wpAny_pure h⟩))) htake)
    | exact wpAny_bind (wpAny_bind (m := Builtin.Tuple.tupleExact _) (wpAny_newObj_type (wpAny_pure (wpAny_pure ⟨_, rfl, wpAny_pure h⟩)) htake))
    | exact wpAny_bind (wpAny_bind (m := Builtin.Tuple.tupleExact _) (wpAny_newObj_type (wpAny_pure ⟨_, rfl, wpAny_pure h⟩) htake))
end
end HT

namespace L2
open PySem PySem.Spec PyProof.Rows

/-! ### the parts of a slice -/
abbrev TO := St → Hp → (Option Int → Hp → Prop) → Prop
/-- a slice's part (left out, or an int) -/
def PO (X : Cx) (e : Option Expr) (t : TO) : Prop :=
  ∀ (pins : List (Addr × Obj)) (s : Shared) (σ : St) (H : Hp) (Q : Option Int → Hp → Prop), Inv X pins σ H s → t σ H Q →
    wpAny (model X.prog X.w) X.A (evalPart e X.env) (fun u s' => ∃ o H', Inv X pins σ H' s' ∧ IsPart u o ∧ Q o H') X.xe s
def tNoPart : TO := fun _ H Q => Q none H
def tPart (t : TE) : TO := fun σ H Q => t σ H fun x H1 => ∃ i, x = .int i ∧ Q (some i) H1

theorem intsAre_of {ns : List Int} : ∀ {us : List Value}, Vals (ns.map V.int) us → IntsAre us ns := by
  induction ns with
  | nil => intro us r; rw [List.map_nil] at r; cases r; exact .nil
  | cons n ns ih =>
    intro us r
    rw [List.map_cons] at r
    cases r with
    | cons r1 r2 =>
      obtain ⟨t, e⟩ := r1
      subst e
      exact .cons n t (ih r2)

section
variable {X : Cx} {e : Expr} {te : TE} {lo hi : Option Expr} {tl th : TO} {pos p2 : Pos}

theorem po_none : PO X none tNoPart := by
  intro pins s σ H Q I h
  rw [evalPart_none]
  exact wpAny_pure ⟨none, H, I, .none, h⟩
theorem po_some (h : PE X e te) : PO X (some e) (tPart te) := by
  intro pins s σ H Q I hw
  rw [evalPart_some]
  refine thn (h pins s σ H _ I hw) fun u s1 ⟨x, H1, I1, r1, q1⟩ => ?_
  obtain ⟨i, rfl, q⟩ := q1
  obtain ⟨t, rfl⟩ := r1
  exact ⟨some i, H1, I1, .int i t, q⟩

/-- what a slice of a value is, by values: the slice object stands at sl -/
def SlR (X : Cx) (r : V → Option Int → Option Int → Hp → VK → Prop) : Prop :=
  ∀ (pins : List (Addr × Obj)) (s : Shared) (σ : St) (H : Hp) (x : V) (v vl vu : Value) (lo hi : Option Int) (sl : Addr) (Q : VK), Inv X pins σ H s → RelV x v → s.heap.IsSliceOf sl vl vu .none → IsPart vl lo → IsPart vu hi → r x lo hi H Q →
    ∃ T id, typeLookup (.type T) "__getitem__" = pure (some (.builtin id)) ∧ s.TypeIs v T ∧ wpAny (model X.prog X.w) X.A (getItem v (.ref sl)) (EP X pins σ Q) X.xe s
def tSl (r : V → Option Int → Option Int → Hp → VK → Prop) (te : TE) (tl th : TO) : TE := fun σ H Q => te σ H fun x H1 => tl σ H1 fun l H2 => th σ H2 fun u H3 => r x l u H3 Q
/-- a[lo:hi], any a -/
theorem pe_slice {r : V → Option Int → Option Int → Hp → VK → Prop} (hr : SlR X r) (he : PE X e te) (hl : PO X lo tl) (hu : PO X hi th) : PE X (.Subscript e (.Slice lo hi none p2) pos) (tSl r te tl th) := by
  intro pins s σ H Q I h
  refine Subscript_ (thn (he pins s σ H _ I h) fun v s1 ⟨x, H1, I1, r1, q1⟩ => ?_)
  refine wpAny_Slice (thn (hl pins s1 σ H1 _ I1 q1) fun vl s2 ⟨l, H2, I2, pl, q2⟩ => thn (hu pins s2 σ H2 _ I2 q2) fun vu s3 ⟨u, H3, I3, pu, q3⟩ => ?_)
  rw [evalPart_none]
  refine wpAny_pure ?_
  have I4 : Inv X pins σ H3 { s3 with heap := s3.heap.push { cls := .type "slice", data := .fields #[vl, vu, .none] } } := I3.kept (t' := s3.toks) fun b ob q => Heap.get?_push_of_some _ q
  obtain ⟨T, id, hT, ht, hg⟩ := hr pins { s3 with heap := s3.heap.push { cls := .type "slice", data := .fields #[vl, vu, .none] } } σ H3 x v vl vu l u s3.heap.objs.size Q I4 r1 (Heap.IsSliceOf.new ..) pl pu q3
  show wpAny (model X.prog X.w) X.A (subscriptTail e (.Slice lo hi none p2) v (.ref s3.heap.objs.size)) (EP X pins σ Q) X.xe { s3 with heap := s3.heap.push { cls := .type "slice", data := .fields #[vl, vu, .none] } }
  exact tail_any (ops := [.ref s3.heap.objs.size, v]) ht hT hg (by with_unfolding_all rfl)

/-- the items of xs[lo:hi] -/
def cutV (xs : List V) (lo hi : Option Int) : List V := (xs.drop (HT.sIx xs.length 0 lo)).take (HT.sIx xs.length xs.length hi - HT.sIx xs.length 0 lo)
theorem cutV_length (xs : List V) (lo hi : Option Int) : (cutV xs lo hi).length ≤ xs.length := by
  unfold cutV
  rw [List.length_take, List.length_drop]
  omega
/-- t[lo:hi], not the whole of it (the whole would be t itself) -/
def rSlT (K : PySem.W.Frag) : V → Option Int → Option Int → Hp → VK → Prop := fun x lo hi H Q => ∃ a xs, x = .ref a ∧ SqT K H a xs ∧
  ¬ (HT.sIx xs.length 0 lo = 0 ∧ HT.sIx xs.length xs.length hi = xs.length) ∧ ∀ p, H p = none → Q (.ref p) (upd H p (.tup (cutV xs lo hi)))
/-! ### t < u, t + u -/
def rLtT (K : PySem.W.Frag) : R2 := fun x y H Q => ∃ a b ns ms, x = .ref a ∧ y = .ref b ∧ SqT K H a (ns.map V.int) ∧ SqT K H b (ms.map V.int) ∧ Q (.bl (HT.lexLt ns ms)) H
/-- t + u, t not empty: u empty gives t itself -/
def rCatT (K : PySem.W.Frag) : R2 := fun x y H Q => ∃ a b xs ys, x = .ref a ∧ y = .ref b ∧ SqT K H a xs ∧ SqT K H b ys ∧ xs ≠ [] ∧ xs.length + ys.length ≤ sizeLine ∧
  (ys = [] → Q (.ref a) H) ∧ (ys ≠ [] → ∀ p, H p = none → Q (.ref p) (upd H p (.tup (xs ++ ys))))
theorem Vals.nil_iff {xs : List V} {us : List Value} (r : Vals xs us) : us = [] ↔ xs = [] := by
  cases r with
  | nil => simp
  | cons _ _ => simp
end
end L2

namespace L2
open PySem PySem.Spec PyProof.Rows

/-! ### places -/
/-- the place that an index of any sign means -/
def ixN (n : Nat) (i : Int) : Option Nat := if 0 ≤ i then (if i < n then some i.toNat else none) else if -(n : Int) ≤ i then some (i + n).toNat else none
def atI {α : Type} (xs : List α) (i : Int) : Option α := (ixN xs.length i).bind fun j => xs[j]?
theorem ixN_seq {n : Nat} {i : Int} {j : Nat} (h : ixN n i = some j) : seqIndex? i n = some j ∧ j < n ∧ -(n : Int) ≤ i ∧ i < n := by
  unfold ixN at h
  by_cases h0 : 0 ≤ i
  · rw [if_pos h0] at h
    by_cases h1 : i < n
    · rw [if_pos h1] at h
      have e : i.toNat = j := Option.some.inj h
      exact ⟨by rw [seqIndex_of h0 h1, e], by omega, by omega, h1⟩
    · rw [if_neg h1] at h; cases h
  · rw [if_neg h0] at h
    by_cases h1 : -(n : Int) ≤ i
    · rw [if_pos h1] at h
      have e : (i + n).toNat = j := Option.some.inj h
      exact ⟨by rw [seqIndex_neg (by omega) h1, e], by omega, h1, by omega⟩
    · rw [if_neg h1] at h; cases h
theorem atI_get {α : Type} {xs : List α} {i : Int} {v : α} (h : atI xs i = some v) : ∃ j, seqIndex? i xs.length = some j ∧ xs[j]? = some v ∧ j < xs.length ∧ -(xs.length : Int) ≤ i ∧ i < xs.length := by
  unfold atI at h
  cases e : ixN xs.length i with
  | none => rw [e] at h; cases h
  | some j =>
    rw [e] at h
    obtain ⟨h1, h2, h3, h4⟩ := ixN_seq e
    exact ⟨j, h1, h, h2, h3, h4⟩
theorem atI_nat {α : Type} {xs : List α} {j : Nat} {v : α} (h : xs[j]? = some v) : atI xs (j : Int) = some v := by
  have hj : j < xs.length := (List.getElem?_eq_some_iff.mp h).1
  have e : ixN xs.length (j : Int) = some j := by
    unfold ixN
    rw [if_pos (by omega), if_pos (by omega)]; simp
  unfold atI; rw [e]; exact h
/-! ### what may be subscripted -/
/-- what stands as an index of a plain subscript -/
def PlainIx (b : Expr) : Prop := ∀ o i, subscripted b false o i = operate [o, i] (getItem o i)
/-- a subscript by values -/
def IxR (X : Cx) (r : R2) : Prop :=
  ∀ (value slice : Expr) (pins : List (Addr × Obj)) (s : Shared) (σ : St) (H : Hp) (x y : V) (v u : Value) (Q : VK), Inv X pins σ H s → RelV x v → RelV y u → r x y H Q →
    subscripted slice false v u = operate [v, u] (getItem v u) → wpAny (model X.prog X.w) X.A (subscriptTail value slice v u) (EP X pins σ Q) X.xe s
/-- a call of a builtin's method by values: the receiver, the arguments -/
def MtR (X : Cx) (id : String) (r : V → List V → Hp → VK → Prop) : Prop :=
  ∀ (pins : List (Addr × Obj)) (s : Shared) (σ : St) (H : Hp) (x : V) (xs : List V) (v : Value) (us : List Value) (Q : VK), Inv X pins σ H s → RelV x v → Vals xs us → r x xs H Q →
    wpAny (model X.prog X.w) X.A (call (.builtin id) (v :: us)) (EP X pins σ Q) X.xe s
section
variable {X : Cx} {a b : Expr} {ta tb : TE} {pos : Pos}
/-- a[b] -/
theorem pe_ix {r : R2} (hr : IxR X r) (ha : PE X a ta) (hb : PE X b tb) (hs : PlainIx b) : PE X (.Subscript a b pos) (tOp r ta tb) := by
  intro pins s σ H Q I h
  exact Subscript_ (binT ha hb I h fun v u s2 x y H2 I2 rx ry q => hr a b pins s2 σ H2 x y v u Q I2 rx ry q (hs _ _))

def rIxL (K : PySem.W.Frag) : R2 := fun x y H Q => ∃ p xs i v, x = .ref p ∧ y = .int i ∧ SqL K H p xs ∧ atI xs i = some v ∧ Q v H
def rIxT (K : PySem.W.Frag) : R2 := fun x y H Q => ∃ p xs i v, x = .ref p ∧ y = .int i ∧ SqT K H p xs ∧ atI xs i = some v ∧ Q v H
def rIxS : R2 := fun x y H Q => ∃ z i c, x = .str z ∧ y = .int i ∧ z.length ≤ sizeLine ∧ atI z.cps.toList i = some c ∧ Q (.str ⟨#[c]⟩) H
theorem ix_list : IxR X (rIxL X.K) := by
  intro value slice pins s σ H x y v u Q I rx ry h hs
  obtain ⟨p, xs, i, z, rfl, rfl, hq, he, q⟩ := h
  cases rx
  obtain ⟨t, rfl⟩ := ry
  obtain ⟨its, r, pl, hz⟩ := I.list hq
  obtain ⟨j, h1, h2, h3, h4, h5⟩ := atI_get he
  obtain ⟨w, ew, rw'⟩ := r.get h2
  have hl := r.length
  have hn := line63
  have fin : EP X pins σ Q w s := ⟨z, H, I, rw', q⟩
  by_cases h0 : 0 ≤ i
  · have hj : i.toNat = j := by
      rw [seqIndex_of h0 h5] at h1
      exact Option.some.inj h1
    exact item_listR pl.isList h0 (by omega) (by rw [hj]; simpa using ew) fin hs
  · have hj : (i + (its.toArray.size : Int)).toNat = j := by
      rw [seqIndex_neg (by omega) h4] at h1
      rw [List.size_toArray, ← hl]
      exact Option.some.inj h1
    exact subscriptTail_builtinR (x := w) pl.isList.typeIs slot_list_getitem.lookup
      (wpAny_getItem_list_neg (Q := fun r s' => r = w ∧ EP X pins σ Q r s') pl.isList (by omega) (by rw [List.size_toArray] <;> omega) (by omega) (by rw [hj]; simpa using ew) ⟨rfl, fin⟩) hs
theorem ix_tup : IxR X (rIxT X.K) := by
  intro value slice pins s σ H x y v u Q I rx ry h hs
  obtain ⟨p, xs, i, z, rfl, rfl, hq, he, q⟩ := h
  cases rx
  obtain ⟨t, rfl⟩ := ry
  obtain ⟨its, r, pl, hz⟩ := I.tuple hq
  obtain ⟨j, h1, h2, h3, h4, h5⟩ := atI_get he
  obtain ⟨w, ew, rw'⟩ := r.get h2
  have hl := r.length
  have hn := line63
  have fin : EP X pins σ Q w s := ⟨z, H, I, rw', q⟩
  exact subscriptTail_builtinR (x := w) pl.typeIs slot_tuple_getitem.lookup
    (getItem_tuple (j := j) (Q := fun r s' => r = w ∧ EP X pins σ Q r s') pl (by omega) (by omega) (by rw [List.size_toArray, ← hl]; exact h1) (by simpa using ew) ⟨rfl, fin⟩) hs
/-- list, tuple or str -/
def rIx (K : PySem.W.Frag) : R2 := fun x y H Q => rIxL K x y H Q ∨ rIxT K x y H Q ∨ rIxS x y H Q
/-! ### xs[i] = v, any sign -/
/-- the list's object behind a store -/
theorem mapSeq_set (its : List Value) (n j : Nat) (u : Value) : Obj.mapSeq (·.setIfInBounds j u) { cls := .type "list", data := .seq its.toArray n } = { cls := .type "list", data := .seq (its.set j u).toArray n } := by
  simp [Obj.mapSeq]
theorem Inv.lst {pins : List (Addr × Obj)} {σ : St} {H : Hp} {s : Shared} {p : Addr} {xs : List V} (I : Inv X pins σ H s) (h : H p = some (.lst xs)) :
    ∃ (its : List Value) (n : Nat), Vals xs its ∧ s.heap.get? p = some { cls := .type "list", data := .seq its.toArray n } ∧ xs.length ≤ sizeLine := by
  obtain ⟨z, its, n, r, e⟩ := I.hok p _ h
  exact ⟨its, n, r, e, z⟩
/-- the list at p is written by an update of its object -/
theorem Inv.lstUpd {pins : List (Addr × Obj)} {σ : St} {H : Hp} {s : Shared} {p : Addr} {xs ys : List V} {its its' : List Value} {n n' : Nat} {f : Obj → Obj} (I : Inv X pins σ H s) (h : H p = some (.lst xs))
    (ho : s.heap.get? p = some { cls := .type "list", data := .seq its.toArray n }) (hf : f { cls := .type "list", data := .seq its.toArray n } = { cls := .type "list", data := .seq its'.toArray n' }) (r : Vals ys its') (hz : ys.length ≤ sizeLine) (t : Nat) :
    Inv X pins σ (upd H p (.lst ys)) { s with heap := s.heap.update p f, toks := t } := by
  have e : (s.heap.update p f).get? p = some { cls := .type "list", data := .seq its'.toArray n' } := by
    rw [Heap.get?_update_self f ho (by rw [hf] <;> rfl), hf]
  refine I.write (x := p) (e := p) (by rw [h]; trivial) (.inl rfl) (fun b u hb q => (Heap.get?_update_other _ _ (Ne.symm hb)).trans q) ⟨_, e⟩ ?_
  exact ⟨hz, its', n', r, e⟩
def rSetL : V → V → V → Hp → (Hp → Prop) → Prop := fun o i v H Q => ∃ p xs k j, o = .ref p ∧ i = .int k ∧ H p = some (.lst xs) ∧ ixN xs.length k = some j ∧ Q (upd H p (.lst (xs.set j v)))
theorem set_list : PSet X rSetL := by
  intro pins s σ H o i v ov iv u Q I ro ri rv h
  obtain ⟨p, xs, k, j, rfl, rfl, hp, hj, q⟩ := h
  cases ro
  obtain ⟨t, rfl⟩ := ri
  obtain ⟨its, n, r, ho, hz⟩ := I.lst hp
  obtain ⟨h1, h2, h3, h4⟩ := ixN_seq hj
  have hl := r.length
  have hn := line63
  have I' : Inv X pins σ (upd H p (.lst (xs.set j v))) { s with heap := s.heap.update p (Obj.mapSeq (·.setIfInBounds j u)) } :=
    I.lstUpd hp ho (mapSeq_set its n j u) (r.set rv j) (by rw [List.length_set]; exact hz) s.toks
  by_cases h0 : 0 ≤ k
  · have hk : k.toNat = j := by
      rw [seqIndex_of h0 h4] at h1
      exact Option.some.inj h1
    exact PySem.W.ki_setAt ho h0 (by omega) (by rw [List.size_toArray, ← hl]; exact h4) (by rw [hk]; exact ⟨_, I', q⟩)
  · have hk : (k + (its.toArray.size : Int)).toNat = j := by
      rw [seqIndex_neg (by omega) h3] at h1
      rw [List.size_toArray, ← hl]
      exact Option.some.inj h1
    exact PySem.W.ki_setBack ho (by omega) (by rw [List.size_toArray, ← hl]; exact h3) (by omega) (by rw [hk]; exact ⟨_, I', q⟩)

/-! ### slices -/
theorem slice_bounds (lo hi : Option Int) (n : Nat) : (sliceBounds lo hi none n).1 = ((HT.sIx n 0 lo : Nat) : Int) ∧ (sliceBounds lo hi none n).2.1 = ((HT.sIx n n hi : Nat) : Int) ∧ (sliceBounds lo hi none n).2.2 = 1 := by
  refine ⟨?_, ?_, rfl⟩
  · cases lo with
    | none => simp [sliceBounds, HT.sIx]
    | some i =>
      simp only [sliceBounds, HT.sIx, Option.getD_none, show (1 : Int) > 0 by decide, if_true]
      by_cases h : i < 0
      · simp only [h, if_true] <;> omega
      · simp only [h, if_false] <;> omega
  · cases hi with
    | none => simp [sliceBounds, HT.sIx]
    | some i =>
      simp only [sliceBounds, HT.sIx, Option.getD_none, show (1 : Int) > 0 by decide, if_true]
      by_cases h : i < 0
      · simp only [h, if_true] <;> omega
      · simp only [h, if_false] <;> omega
theorem slicePick_cut (its : List Value) (lo hi : Option Int) : slicePick its.toArray lo hi none = ((its.drop (HT.sIx its.length 0 lo)).take (HT.sIx its.length its.length hi - HT.sIx its.length 0 lo)).toArray := by
  obtain ⟨h1, h2, h3⟩ := slice_bounds lo hi its.toArray.size
  unfold slicePick
  rw [h1, h2, h3]
  simp only [sliceRange_one, pick_run, List.size_toArray] <;> rfl
/-- xs[lo:hi] of a list: a new list -/
def rSlL (K : PySem.W.Frag) : V → Option Int → Option Int → Hp → VK → Prop := fun x lo hi H Q => ∃ a xs, x = .ref a ∧ SqL K H a xs ∧ ∀ p, H p = none → Q (.ref p) (upd H p (.lst (cutV xs lo hi)))
theorem sl_list : SlR X (rSlL X.K) := by
  intro pins s σ H x v vl vu lo hi sl Q I rx hs pl pu h
  obtain ⟨a, xs, rfl, hx, q⟩ := h
  cases rx
  obtain ⟨its, r, ht, hz⟩ := I.list hx
  have hlen := r.length
  refine ⟨"list", _, slot_list_getitem.lookup, ht.isList.typeIs, ?_⟩
  refine wpAny_getItem_list_slice ht.isList hs pl pu .none (by simp) ?_ (by rw [List.size_toArray] <;> omega)
  rw [slicePick_cut, ← hlen]
  refine ⟨.ref s.heap.objs.size, _, I.laid (t' := s.toks) (o := .lst (cutV xs lo hi)) (fun b ob q => Heap.get?_push_of_some _ q) (Nat.le_refl _) ?_, rfl, q _ (I.hok.fresh (Nat.le_refl _))⟩
  exact ⟨Nat.le_trans (cutV_length xs lo hi) hz, _, 0, (r.drop (HT.sIx xs.length 0 lo)).take (HT.sIx xs.length xs.length hi - HT.sIx xs.length 0 lo), Heap.get?_push_size _ rfl⟩

/-! ### in, not in: flat items -/
def flatV : V → Bool
  | .non => true
  | .bl _ => true
  | .int _ => true
  | .str _ => true
  | _ => false
/-- == of flat values -/
def eqV : V → V → Bool
  | .non, .non => true
  | .bl a, .bl b => a == b
  | .bl a, .int b => (if a then 1 else 0) == b
  | .int a, .bl b => a == (if b then 1 else 0)
  | .int a, .int b => a == b
  | .str a, .str b => a == b
  | _, _ => false
theorem eqAt_V {A : Around} {s : Shared} {y x : V} {u v : Value} (ry : RelV y u) (rx : RelV x v) (fy : flatV y = true) (fx : flatV x = true) : SeqAt.EqAt A s u v (eqV y x) := by
  cases y with
  | non =>
    cases ry
    cases x with
    | non => cases rx; exact SeqAt.EqAt.same _
    | bl b => cases rx; exact SeqAt.EqAt.none_bool b
    | int b => obtain ⟨t, rfl⟩ := rx; exact SeqAt.EqAt.none_int b t
    | str b => obtain ⟨t, rfl⟩ := rx; exact SeqAt.EqAt.none_str b t
    | _ => exact absurd (show false = true from fx) Bool.false_ne_true
  | bl a =>
    cases ry
    cases x with
    | non => cases rx; exact SeqAt.EqAt.bool_none a
    | bl b => cases rx; exact SeqAt.EqAt.bool_bool a b
    | int b => obtain ⟨t, rfl⟩ := rx; exact SeqAt.EqAt.bool_int a b t
    | str b => obtain ⟨t, rfl⟩ := rx; exact SeqAt.EqAt.bool_str a b t
    | _ => exact absurd (show false = true from fx) Bool.false_ne_true
  | int a =>
    obtain ⟨t', rfl⟩ := ry
    cases x with
    | non => cases rx; exact SeqAt.EqAt.int_none a t'
    | bl b => cases rx; exact SeqAt.EqAt.int_bool a t' b
    | int b => obtain ⟨t, rfl⟩ := rx; exact SeqAt.EqAt.int_int a t' b t
    | str b => obtain ⟨t, rfl⟩ := rx; exact SeqAt.EqAt.int_str a t' b t
    | _ => exact absurd (show false = true from fx) Bool.false_ne_true
  | str a =>
    obtain ⟨t', rfl⟩ := ry
    cases x with
    | non => cases rx; exact SeqAt.EqAt.str_none a t'
    | bl b => cases rx; exact SeqAt.EqAt.str_bool a t' b
    | int b => obtain ⟨t, rfl⟩ := rx; exact SeqAt.EqAt.str_int a t' b t
    | str b => obtain ⟨t, rfl⟩ := rx; exact SeqAt.EqAt.str_str a t' b t
    | _ => exact absurd (show false = true from fx) Bool.false_ne_true
  | _ => exact absurd (show false = true from fy) Bool.false_ne_true
/-- the items' answers, read off the values (a value's own answer does not lean on its token) -/
def eqU (x : V) (u : Value) : Bool := match u with
  | .none => eqV .non x
  | .bool b => eqV (.bl b) x
  | .int i _ => eqV (.int i) x
  | .str z _ => eqV (.str z) x
  | _ => false
theorem eqU_of {x y : V} {u : Value} (r : RelV y u) (f : flatV y = true) : eqU x u = eqV y x := by
  cases y with
  | non => cases r; rfl
  | bl b => cases r; rfl
  | int i => obtain ⟨t, rfl⟩ := r; rfl
  | str z => obtain ⟨t, rfl⟩ := r; rfl
  | _ => exact absurd (show false = true from f) Bool.false_ne_true
theorem mem_eqAt {A : Around} {s : Shared} {x : V} {v : Value} (rx : RelV x v) (fx : flatV x = true) : ∀ {xs : List V} {us : List Value}, Vals xs us → xs.all flatV = true → ∀ u ∈ us, SeqAt.EqAt A s u v (eqU x u)
  | _, _, .nil, _ => fun u hu => by cases hu
  | y :: xs, u :: us, .cons r t, f => fun u' hu => by
    rw [List.all_cons, Bool.and_eq_true] at f
    rcases List.mem_cons.mp hu with rfl | hu
    · rw [eqU_of r f.1]; exact eqAt_V r rx f.1 fx
    · exact mem_eqAt rx fx t f.2 u' hu
def inV (x : V) (xs : List V) : Bool := xs.any fun y => eqV y x
/-- x in a list or tuple of flat items -/
def rIn (K : PySem.W.Frag) (neg : Bool) : R2 := fun x y H Q => ∃ p xs, y = .ref p ∧ (SqL K H p xs ∨ SqT K H p xs) ∧ flatV x = true ∧ xs.all flatV = true ∧ Q (.bl (if neg then !inV x xs else inV x xs)) H
/-! ### len, list(x), tuple(x) of any list or tuple that is read -/
theorem call_len_seq : CallR X (.builtin "len") (fun xs H Q => ∃ p ys, xs = [.ref p] ∧ (SqL X.K H p ys ∨ SqT X.K H p ys) ∧ Q (.int ys.length) H) := by
  intro pins s σ H xs us Q I r h
  obtain ⟨p, ys, rfl, hq, q⟩ := h
  obtain ⟨u, rfl, rx⟩ := vals1 r
  cases rx
  have hn := line63
  rcases hq with hq | hq
  · obtain ⟨its, r', pl, hz⟩ := I.list hq
    have hlen := r'.length
    exact Calls.call_len_list pl.isList (by simp only [List.size_toArray] <;> omega) ⟨.int ys.length, H, I.tok _, ⟨s.toks + 1, by rw [List.size_toArray, hlen]⟩, q⟩
  · obtain ⟨its, r', pl, hz⟩ := I.tuple hq
    have hlen := r'.length
    exact len_tuple pl (by simp only [List.size_toArray] <;> omega) ⟨.int ys.length, H, I.tok _, ⟨s.toks + 1, by rw [List.size_toArray, hlen]⟩, q⟩
theorem call_list_of : CallR X (.type "list") (fun xs H Q => ∃ p ys, xs = [.ref p] ∧ (SqL X.K H p ys ∨ SqT X.K H p ys) ∧ ∀ l, H l = none → Q (.ref l) (upd H l (.lst ys))) := by
  intro pins s σ H xs us Q I r h
  obtain ⟨p, ys, rfl, hq, q⟩ := h
  obtain ⟨u, rfl, rx⟩ := vals1 r
  cases rx
  have fin : ∀ (its : List Value), Vals ys its → ys.length ≤ sizeLine → ∀ (h' : Heap) (c' : Nat), (∀ b o', s.heap.get? b = some o' → h'.get? b = some o') →
      h'.get? s.heap.objs.size = some { cls := .type "list", dict := none, data := .seq its.toArray c', slots := #[] } → EP X pins σ Q (.ref s.heap.objs.size) { s with heap := h' } := fun its r' hz h' c' kp e =>
    ⟨.ref s.heap.objs.size, _, I.laid (t' := s.toks) kp (Nat.le_refl _) (show ObjOk X.prog X.w _ h' _ (.lst ys) from ⟨hz, its, c', r', e⟩), rfl, q _ (I.hok.fresh (Nat.le_refl _))⟩
  rcases hq with hq | hq
  · obtain ⟨its, r', pl, hz⟩ := I.list hq
    have hlen := r'.length
    obtain ⟨o, ho, hc, n, hd⟩ := pl.isList
    exact call_list_seq p (.inl rfl) ho hc hd (fun h' c' kp e => fin its r' hz h' c' kp e) (by simp only [List.size_toArray] <;> omega)
  · obtain ⟨its, r', pl, hz⟩ := I.tuple hq
    have hlen := r'.length
    obtain ⟨o, ho, hc, n, hd⟩ := pl
    exact call_list_seq p (.inr rfl) ho hc hd (fun h' c' kp e => fin its r' hz h' c' kp e) (by simp only [List.size_toArray] <;> omega)
theorem call_tuple_of : CallR X (.type "tuple") (fun xs H Q => ∃ p ys, xs = [.ref p] ∧ ((SqL X.K H p ys ∧ ∀ l, H l = none → Q (.ref l) (upd H l (.tup ys))) ∨ (SqT X.K H p ys ∧ Q (.ref p) H))) := by
  intro pins s σ H xs us Q I r h
  obtain ⟨p, ys, rfl, h⟩ := h
  obtain ⟨u, rfl, rx⟩ := vals1 r
  cases rx
  rcases h with ⟨hq, q⟩ | ⟨hq, q⟩
  · obtain ⟨its, r', pl, hz⟩ := I.list hq
    have hlen := r'.length
    refine call_tuple_list pl.isList (fun h' kp => ?_) (by simp only [List.size_toArray] <;> omega)
    have I1 : Inv X pins σ H { s with heap := h' } := I.kept (t' := s.toks) kp
    have I2 : Inv X pins σ (upd H h'.objs.size (.tup ys)) { s with heap := h'.push { cls := .type "tuple", data := .seq its.toArray } } :=
      I1.laid (t' := s.toks) (fun b o e => Heap.get?_push_of_some _ e) (Nat.le_refl _) (show ObjOk X.prog X.w _ _ _ (.tup ys) from ⟨hz, its, r', IsTup.new _ _⟩)
    exact ⟨.ref h'.objs.size, _, I2, rfl, q _ (I1.hok.fresh (Nat.le_refl _))⟩
  · obtain ⟨its, r', pl, hz⟩ := I.tuple hq
    exact call_tuple_same pl ⟨.ref p, H, I, rfl, q⟩

/-! ### the call of a builtin's method: o.m(..) -/
/-- the value is of that builtin type -/
def tyV (K : PySem.W.Frag) (T : String) (x : V) (H : Hp) : Prop := match x with
  | .str _ => T = "str"
  | .int _ => T = "int"
  | .ref p => (T = "list" ∧ ∃ xs, SqL K H p xs) ∨ (T = "tuple" ∧ ∃ o, K.lookup p = some o ∧ o.cls = .type "tuple" ∧ o.dict = none) ∨
      (T = "dict" ∧ ((∃ kvs, H p = some (.dK kvs)) ∨ ∃ kvs, H p = some (.dT kvs))) ∨ (T = "set" ∧ ∃ S n, H p = some (.set S n))
  | _ => False
theorem tyV_is {pins : List (Addr × Obj)} {σ : St} {H : Hp} {s : Shared} {T : String} {x : V} {v : Value} (I : Inv X pins σ H s) (r : RelV x v) (ty : tyV X.K T x H) :
    s.TypeIs v T ∧ ∀ a, v = .ref a → ∃ ob, s.heap.get? a = some ob ∧ ob.dict = none := by
  cases x with
  | str z =>
    obtain ⟨t, rfl⟩ := r
    cases (show T = "str" from ty)
    exact ⟨typeIs_str s z t, fun _ e => nomatch e⟩
  | int i =>
    obtain ⟨t, rfl⟩ := r
    cases (show T = "int" from ty)
    exact ⟨typeIs_int s i t, fun _ e => nomatch e⟩
  | ref p =>
    cases r
    rcases ty with ⟨rfl, xs, hq⟩ | ⟨rfl, o, hk, hc, hd⟩ | ⟨rfl, hk⟩ | ⟨rfl, S, n, hk⟩
    · obtain ⟨its, _, pl, _⟩ := I.list hq
      refine ⟨pl.isList.typeIs, fun a e => ?_⟩
      cases e
      obtain ⟨o, n, e, c, hd, _⟩ := pl
      exact ⟨o, e, hd⟩
    · refine ⟨⟨o, I.kIn p o hk, hc⟩, fun a e => ?_⟩
      cases e
      exact ⟨o, I.kIn _ o hk, hd⟩
    · have z : ∃ o, s.heap.get? p = some o ∧ o.ExactDict := by
        rcases hk with ⟨kvs, hk⟩ | ⟨kvs, hk⟩
        · obtain ⟨_, _, _, _, o, _, _, e, ex, _⟩ := I.hok p _ hk
          exact ⟨o, e, ex⟩
        · obtain ⟨_, _, _, _, o, _, _, e, ex, _⟩ := I.hok p _ hk
          exact ⟨o, e, ex⟩
      obtain ⟨o, e, ex⟩ := z
      refine ⟨⟨o, e, ex.1⟩, fun a e2 => ?_⟩
      cases e2
      exact ⟨o, e, ex.2.1⟩
    · obtain ⟨o, _, _, _, e, ex, _⟩ := I.hok p _ hk
      refine ⟨⟨o, e, ex.1⟩, fun a e2 => ?_⟩
      cases e2
      exact ⟨o, e, ex.2.1⟩
  | _ => exact False.elim ty
def tBM0 (K : PySem.W.Frag) (T : String) (r : V → List V → Hp → VK → Prop) (to : TE) : TE := fun σ H Q => to σ H fun x H1 => tyV K T x H1 ∧ r x [] H1 Q
def tBM (K : PySem.W.Frag) (T : String) (r : V → List V → Hp → VK → Prop) (to : TE) (t : TA) : TE := fun σ H Q => to σ H fun x H1 => tyV K T x H1 ∧ t σ H1 fun xs H2 => r x xs H2 Q
variable {o e : Expr} {es : List Expr} {to : TE} {t : TA} {name : Str} {apos cpos : Pos} {T id : String} {r : V → List V → Hp → VK → Prop}
theorem pe_bm0 (pa : PlainAttrs T) (slot : Slot T name id) (hty : typeOf (.builtin id) = pure (.type "method_descriptor")) (hm : MtR X id r) (ho : PE X o to)
    (hbase : attributeBase o name X.env (eval o X.env) = eval o X.env := by rfl) (hline : (apos.endLine == cpos.line) = true := by rfl) : PE X (.Call (.Attribute o name apos) [] [] cpos) (tBM0 X.K T r to) := by
  intro pins s σ H Q I h
  refine wpAny_Call_method0_late hbase hline (thn (ho pins s σ H _ I h) fun v s1 ⟨x, H1, I1, r1, ty, q1⟩ => ?_)
  obtain ⟨h1, h2⟩ := tyV_is I1 r1 ty
  exact ⟨T, id, pa, slot, hty, h1, h2, Calls.callWith_builtin rfl (PySem.evalArgs_none (hm pins s1 σ H1 x [] v [] Q I1 r1 .nil q1))⟩
theorem pe_bm (pa : PlainAttrs T) (slot : Slot T name id) (hty : typeOf (.builtin id) = pure (.type "method_descriptor")) (hm : MtR X id r) (ho : PE X o to) (ha : PA X (e :: es) t)
    (hbase : attributeBase o name X.env (eval o X.env) = eval o X.env := by rfl)
    (hfew : ((backTo cpos (starEach (e :: es) X.env)).all (fun x => !x.1) && (backToKw cpos (keywordEach [] X.env)).all (fun x => x.1.isSome)
      && decide ((e :: es).length + ([] : List Keyword).length + (if ([] : List Keyword).isEmpty then 0 else 1) < 30)) = true := by rfl)
    (hline : (apos.endLine == cpos.line) = true := by rfl) (hs : starEach (e :: es) X.env = (false, eval e X.env) :: starEach es X.env := by rfl) (hplain : (backTo cpos (starEach es X.env)).any (·.1) = false := by rfl) :
    PE X (.Call (.Attribute o name apos) (e :: es) [] cpos) (tBM X.K T r to t) := by
  intro pins s σ H Q I h
  refine wpAny_Call_method_late hbase hfew hline rfl (thn (ho pins s σ H _ I h) fun v s1 ⟨x, H1, I1, r1, ty, q1⟩ => ?_)
  obtain ⟨h1, h2⟩ := tyV_is I1 r1 ty
  refine ⟨T, id, pa, slot, hty, h1, h2, ?_⟩
  have hA := ha cpos pins s1 σ H1 _ I1 q1
  rw [hs] at hA ⊢
  refine Calls.callWith_builtin (by show (false || (backTo cpos (starEach es X.env)).any (·.1)) = false; rw [hplain] <;> rfl) (Calls.evalArgs_plain ?_)
  exact thn hA fun us s2 ⟨vs, H2, I2, r2, q2⟩ => hm pins s2 σ H2 x vs v us Q I2 r1 r2 q2
/- xs.append(e), list.index on a module's tuple .. are MtR facts of 06m -/
end
end L2

namespace L2
open PySem PySem.Spec PyProof.Rows

def MtM (X : Cx) (id : String) (r : V → List V → Hp → VK → Prop) : Prop :=
  ∀ (pins : List (Addr × Obj)) (s : Shared) (σ : St) (H : Hp) (x : V) (xs : List V) (v : Value) (us : List Value) (Q : VK), Inv X pins σ H s → RelV x v → Vals xs us → r x xs H Q →
    wpAny (model X.prog X.w) X.A (call (.builtin id) (v :: us)) (EP X pins σ Q) X.xe s

/-! ### lists of values -/
theorem Vals.one : ∀ {x : V} {us : List Value}, Vals [x] us → ∃ u, us = [u] ∧ RelV x u
  | _, _, .cons r .nil => ⟨_, rfl, r⟩
theorem Vals.zero : ∀ {us : List Value}, Vals [] us → us = []
  | _, .nil => rfl
theorem Vals.reverse {xs : List V} {us : List Value} (h : Vals xs us) : Vals xs.reverse us.reverse := by
  induction h with
  | nil => exact .nil
  | cons r t ih => rw [List.reverse_cons, List.reverse_cons]; exact Vals.append ih (.cons r .nil)
section
variable {X : Cx} {pins : List (Addr × Obj)} {σ : St} {H : Hp} {s : Shared} {l b : Addr} {xs ys zs : List V}

/-! ### the two steps: a tracked list is rewritten, a new list is laid -/
theorem Inv.lset {its its' : List Value} {n : Nat} {f : Array Value → Array Value} {t' : Nat} (I : Inv X pins σ H s) (hH : H l = some (.lst xs))
    (e : s.heap.get? l = some { cls := .type "list", data := .seq its.toArray n }) (hf : f its.toArray = its'.toArray) (hv : Vals ys its') (hz : ys.length ≤ sizeLine) :
    Inv X pins σ (upd H l (.lst ys)) { s with heap := s.heap.update l (Obj.mapSeq f), toks := t' } := by
  have q := PySem.IsL.update e f
  rw [hf] at q
  refine I.write (x := l) (e := l) (by rw [hH]; exact trivial) (.inl rfl) (fun b' u hb hu => (Heap.get?_update_other s.heap (Obj.mapSeq f) (Ne.symm hb)).trans hu) ⟨_, q⟩ ?_
  exact ⟨hz, its', _, hv, q⟩
theorem Inv.lstM (I : Inv X pins σ H s) (hH : H l = some (.lst xs)) : xs.length ≤ sizeLine ∧ ∃ (its : List Value) (n : Nat), Vals xs its ∧ xs.length = its.length ∧ s.heap.get? l = some { cls := .type "list", data := .seq its.toArray n } := by
  obtain ⟨z, its, n, r, e⟩ := I.hok l _ hH
  exact ⟨z, its, n, r, r.length, e⟩

theorem notLongL {n : Nat} (h : n ≤ sizeLine) : Builtin.List.listTooLong n = false := by
  unfold Builtin.List.listTooLong
  exact decide_eq_false (by omega)
end

section
variable {X : Cx}

/-! ### methods -/
def rAppend : V → List V → Hp → VK → Prop := fun x vs H Q => ∃ l xs y, x = .ref l ∧ vs = [y] ∧ H l = some (.lst xs) ∧ xs.length < sizeLine ∧ Q .non (upd H l (.lst (xs ++ [y])))
theorem mt_append : MtM X "list.append" rAppend := by
  intro pins s σ H x vs v us Q I rx rv h
  obtain ⟨l, xs, y, rfl, rfl, hH, hz, q⟩ := h
  cases rx
  obtain ⟨u, rfl, ru⟩ := rv.one
  obtain ⟨z, its, n, r, hl, e⟩ := I.lstM hH
  refine call_meets F.slot_list_append ⟨_, e, rfl⟩ F.entry_list_append (F.args_list_append_2 _ _) (PySem.list_append l its.toArray n u (by rw [List.size_toArray]; omega)) ⟨e, ?_⟩
  refine ⟨.non, _, I.lset (its' := its ++ [u]) hH e (by simp) (r.append (.cons ru .nil)) ?_, rfl, q⟩
  rw [List.length_append, List.length_singleton]
  omega

def rExtend : V → List V → Hp → VK → Prop := fun x vs H Q => ∃ l b xs zs, x = .ref l ∧ vs = [.ref b] ∧ H l = some (.lst xs) ∧ H b = some (.lst zs) ∧ xs.length + zs.length ≤ sizeLine ∧ Q .non (upd H l (.lst (xs ++ zs)))
theorem mt_extend : MtM X "list.extend" rExtend := by
  intro pins s σ H x vs v us Q I rx rv h
  obtain ⟨l, b, xs, zs, rfl, rfl, hH, hB, hz, q⟩ := h
  cases rx
  obtain ⟨u, rfl, ru⟩ := rv.one
  cases ru
  obtain ⟨z, its, n, r, hl, e⟩ := I.lstM hH
  obtain ⟨z2, its2, n2, r2, hl2, e2⟩ := I.lstM hB
  have hsz : its.toArray.size + its2.toArray.size ≤ sizeLine := by rw [List.size_toArray, List.size_toArray]; omega
  have hlong : ¬ (!its.toArray.isEmpty && Builtin.List.listTooLong (its.toArray.size + its2.toArray.size)) = true := by
    rw [notLongL hsz, Bool.and_false]
    exact Bool.false_ne_true
  refine call_meets F.slot_list_extend ⟨_, e, rfl⟩ F.entry_list_extend (F.args_list_extend_2 _ _)
    (AutoSeq1.list_extend_list_list_0 l its.toArray n b its2.toArray n2 hlong (by rw [List.size_toArray]; omega) (by omega)) ⟨e, e2, ?_⟩
  refine ⟨.non, _, I.lset (its' := its ++ its2) hH e (by simp) (r.append r2) ?_, rfl, q⟩
  rw [List.length_append]
  omega

def rPop : V → List V → Hp → VK → Prop := fun x vs H Q => ∃ l xs y, x = .ref l ∧ vs = [] ∧ H l = some (.lst xs) ∧ xs[xs.length - 1]? = some y ∧ Q y (upd H l (.lst xs.dropLast))
def rPopAt : V → List V → Hp → VK → Prop := fun x vs H Q => ∃ l xs i k y, x = .ref l ∧ vs = [.int i] ∧ H l = some (.lst xs) ∧ -(2 ^ 63) ≤ i ∧ i < 2 ^ 63 ∧ seqIndex? i xs.length = some k ∧ xs[k]? = some y ∧ Q y (upd H l (.lst (xs.eraseIdx k)))
def rReverse : V → List V → Hp → VK → Prop := fun x vs H Q => ∃ l xs, x = .ref l ∧ vs = [] ∧ H l = some (.lst xs) ∧ Q .non (upd H l (.lst xs.reverse))
theorem mt_reverse : MtM X "list.reverse" rReverse := by
  intro pins s σ H x vs v us Q I rx rv h
  obtain ⟨l, xs, rfl, rfl, hH, q⟩ := h
  cases rx
  have hus := rv.zero
  subst hus
  obtain ⟨z, its, n, r, hl, e⟩ := I.lstM hH
  refine call_meets F.slot_list_reverse ⟨_, e, rfl⟩ F.entry_list_reverse (F.args_list_reverse_1 _) (AutoSeq1.list_reverse_list_0 l its.toArray n (by rw [List.size_toArray]; omega)) ⟨e, ?_⟩
  refine ⟨.non, _, I.lset (its' := its.reverse) hH e (by simp) r.reverse ?_, rfl, q⟩
  rw [List.length_reverse]
  omega

def rClear : V → List V → Hp → VK → Prop := fun x vs H Q => ∃ l xs, x = .ref l ∧ vs = [] ∧ H l = some (.lst xs) ∧ Q .non (upd H l (.lst []))
/-! ### list + list, list += list, list * int -/
def rCat : R2 := fun x y H Q => ∃ l b xs zs, x = .ref l ∧ y = .ref b ∧ H l = some (.lst xs) ∧ H b = some (.lst zs) ∧ xs.length + zs.length ≤ sizeLine ∧ ∀ p, H p = none → Q (.ref p) (upd H p (.lst (xs ++ zs)))
/-- a list times an int (a negative one is nothing) -/
def rRep : R2 := fun x y H Q => ∃ l k xs, x = .ref l ∧ y = .int k ∧ H l = some (.lst xs) ∧ -(2 ^ 63) ≤ k ∧ k < 2 ^ 63 ∧ xs.length * k.toNat ≤ sizeLine ∧
  ∀ p, H p = none → Q (.ref p) (upd H p (.lst (List.replicate k.toNat xs).flatten))
/-! ### del xs[i] -/
end

/-! ### xs[a:b] = ys -/
section
variable {prog : Program} {w : World} {A : Around} {E : Value → Shared → Prop} {s : Shared}
set_option maxRecDepth 100000 in
end

section
variable {X : Cx}
end
end L2

namespace Att
open PySem PySem.W PySem.Calls PyProof.Rows

/-! ### the script -/
theorem ints_of_wellAll {P : Params} {h : Heap} : ∀ (ns : List Int) (vs : List Value), WellAll P h vs (ns.map WData.int) → IntsAre vs ns := by
  intro ns
  induction ns with
  | nil =>
    intro vs w
    rw [List.map_nil] at w
    cases w
    exact .nil
  | cons n ns ih =>
    intro vs w
    rw [List.map_cons] at w
    cases w with
    | cons a b =>
      cases a
      exact .cons _ _ (ih _ b)

theorem script_of {l : OpenLaw} {n : Nat} (hn : l.most = some n) {P : Params} {h : Heap} {args : List WData} {vals : List Value}
    (hpre : l.row.toRowW.claim.pre args = true) (hwl : WellAll P h vals args) :
    ∃ a vs ns, vals = [Value.ref a] ∧ args = [WData.list (ns.map WData.int)] ∧ h.get? a = some { cls := .type "list", data := .seq vs.toArray } ∧ IntsAre vs ns ∧ ns.length ≤ n := by
  have hsh : WShape.hasAll [] args [.list .int] = true := (pre_splitW hpre).1
  have hc : l.pre.holds [] { args := args } = true := (pre_splitW hpre).2
  obtain ⟨d, r, rfl, h1, h2⟩ := hasAllW_cons hsh
  obtain rfl := hasAllW_nil h2
  obtain ⟨xs, rfl, h3⟩ := hasW_list h1
  obtain ⟨ns, rfl⟩ := items_int h3
  have hlen : ns.length ≤ n := by
    unfold OpenLaw.pre at hc
    have h4 : (WTm.not (.lt (.lit (.int (n : Int))) (.len (.arg 0)))).holds [] { args := [.list (ns.map .int)] } = true := by
      have h4 := (holds_andW hc).1
      rw [hn] at h4
      exact h4
    have h5 := condW_of h4 (w_not (w_lt w_lit (w_len_list (w_arg rfl))))
    rw [List.length_map] at h5
    refine Nat.le_of_not_lt fun q => ?_
    have q' : (n : Int) < ((ns.length : Nat) : Int) := by omega
    first
      | (rw [decide_eq_true q'] at h5; exact absurd h5 (by decide))
      | (simp at h5; omega)
  cases hwl with
  | cons w1 w2 =>
    cases w2
    cases w1 with
    | list ho hall => exact ⟨_, _, ns, rfl, rfl, ho, ints_of_wellAll ns _ hall, hlen⟩

theorem post_true (l : OpenLaw) (args : List WData) : l.row.toRowW.claim.post args (.bool true) args = true :=
  postW_of (r := l.row.toRowW) (X := (true == true))
    (show WShape.has [] (.bool true) .bool = true by first | rfl | decide | simp [WShape.has, WShape.arms, WShape.armsAll])
    (show (WTm.eq .res (.lit (.bool true))).value [] { args := args, res := some (.bool true), after := args } = some (.bool (true == true)) from w_eq_bool (w_res rfl) w_lit) rfl

/-! ### the attachment: holds_open's last premise (the goal 'hc' behind k_head) from a wpAny of the law's body -/
/-- the same from a codeAny of the CALL (for a layer whose function contracts speak of calls) -/
theorem attach_call {l : OpenLaw} {n : Nat} {q : Program} {loose : List Str} {XP : (Str → Option Value) → Heap → Prop} {YP : World → Heap → Prop} {d : DefRec}
    (hn : l.most = some n) (hdf : d.params.defaults = [])
    (call : ∀ (w : World) (s₀ s₁ : Shared) (mg mb : Str → Option Value) (fa : Addr) (o : Obj) (pm cd doc : Value) (a : Addr) (vs : List Value) (ns : List Int),
      Ground q loose [] XP w s₀ mg mb s₁.heap → YP w s₁.heap →
      s₁.heap.get? fa = some o → o.data = .func (docDef d.name d.params d.body d.scope pm cd doc) → s₁.heap.CodeRec cd d.name → mg d.name = some (.ref fa) →
      s₁.heap.get? a = some { cls := .type "list", data := .seq vs.toArray } → IntsAre vs ns → ns.length ≤ n → s₁.gens = #[] →
      codeAny (model l.prog w) callerA (.call (.ref fa) ⟨[.ref a], []⟩) (fun r s' => r = .ok (.ret (.bool true)) ∧ OldK s₁.heap s'.heap ∧ s'.os = s₁.os ∧ AllBare s'.gens) s₁) :
    WalkO q loose XP YP l.row.toRowW d [] (fun f vs => PySem.call f vs) := by
  intro w s₀ s₁ mg mb G Y fa o pm cd doc dV kV ho hd hcd hD hmg hg args vals as hpre hlay hrd hwl hlo
  obtain rfl : dV = .none := Dflts.none hD hdf
  obtain rfl : kV = .none := Dflts.noKw hD
  obtain ⟨a, vs, ns, rfl, rfl, hobj, hints, hlen⟩ := script_of hn hpre hwl
  refine enter_call (codeAny_mono (call w s₀ s₁ mg mb fa o pm cd doc a vs ns G Y ho (fd_plain hd) hcd hmg hobj hints hlen hg) fun r s' hq => ?_)
  obtain ⟨rfl, h2, h3, h4⟩ := hq
  exact ⟨.inl ⟨.bool true, .bool true, [], rfl, fun _ => rfl, .bool true, post_true l _, fun _ => ⟨List.Pairwise.nil, fun _ hm => (nomatch hm)⟩⟩, h2, h3, h4⟩

/-! ### rules over ANY heap (no ledger) from facts about the written part K: the library's own take a ledger (News) for what they write -/
section
variable {prog : Program} {w : World} {A : Around} {E : Value → Shared → Prop} {s : Shared} {K : Frag}

/-! the whole heap as the ledger: makes every rule that writes through a ledger a rule over any heap -/
def noObjs (h : Heap) : Heap := { h with objs := #[] }
def ledger (h : Heap) (L d : Addr) : List (Addr × Obj) := (List.range h.objs.size).filterMap fun a => if a = L ∨ a = d then none else (h.get? a).map fun o => (a, o)
end
end Att

namespace L2
open PySem PySem.Spec PyProof.Rows

theorem vals_ints : ∀ {vs : List Value} {ns : List Int}, IntsAre vs ns → Vals (ns.map V.int) vs
  | _, _, .nil => .nil
  | _, _, .cons n t h => .cons ⟨t, rfl⟩ (vals_ints h)

/-- nothing is tracked but the script, known to the object (or it is an object of the module) -/
def Only (H : Hp) : Prop := ∀ b, H b = none ∨ ∃ o xs, H b = some (.frz o (.lst xs))

/-- THE HEAD: the law's promise, at the heap behind the top. F, the promise of the law's def, may use that base is part of the heap (so K.In base, base.Ns mainGlobals mg stand in Mod) -/
theorem law_call {P : Program} {w : World} {K : PySem.W.Frag} {mg mb : Str → Option Value} {CX : CXT} {k : Nat} {fa a : Addr} {fd : FuncData} {x : Str} {sp : Sp} {s₁ : Shared} {vs : List Value} {ns : List Int}
    (KX : K.In s₁.heap) (hns : s₁.heap.Ns mainGlobals mg) (hb : s₁.heap.Ns builtinsNs mb) (hbb : ∀ x : Str, x ≠ "__name__" → mb x = bootBuiltins x) (hlim : s₁.heap.NoLimit) (hg : s₁.gens = #[])
    (ha : s₁.heap.get? a = some { cls := .type "list", data := .seq vs.toArray }) (hi : IntsAre vs ns) (hl : ns.length ≤ sizeLine) (hr : Room k callerA)
    (F : ∀ base : Heap, K.In base → base.Ns mainGlobals mg → FnOk P w K mg base CX k fa fd [x] sp) (hbind : ∀ (s : Shared) (u : Value), BindsTo s fd ⟨[u], []⟩ [(x, u)])
    (hsp : ∀ H : Hp, Only H → SqL K H a (ns.map V.int) → sp [.ref a] H (fun v _ => v = .bl true) fun _ _ _ => False)
    (hCX : ∀ H e s', CX [] H s₁ (fun _ _ _ => False) e s' → False) :
    codeAny (model P w) callerA (.call (.ref fa) ⟨[.ref a], []⟩) (fun r s' => r = .ok (.ret (.bool true)) ∧ OldK s₁.heap s'.heap ∧ s'.os = s₁.os ∧ AllBare s'.gens) s₁ := by
  have rv := vals_ints hi
  have lenV := hi.length
  -- from an abstract heap in which nothing but the script may be tracked
  have core : ∀ H : Hp, Only H → SqL K H a (ns.map V.int) → HOk P w H s₁.heap → (∀ b, H b ≠ none → b = a) → (H a ≠ none → K.lookup a = none) →
      codeAny (model P w) callerA (.call (.ref fa) ⟨[.ref a], []⟩) (fun r s' => r = .ok (.ret (.bool true)) ∧ OldK s₁.heap s'.heap ∧ s'.os = s₁.os ∧ AllBare s'.gens) s₁ := by
    intro H hO hS hok hA hK
    have base_of : ∀ {b : Addr} {o : Obj}, s₁.heap.get? b = some o → H b = none → (hidT s₁.heap H).get? b = some o := fun e n => hidT_get e n
    have noA : ∀ {b : Addr} {o : Obj} {es : Array DictEntry} {ep : Nat}, s₁.heap.get? b = some o → o.data = .dict es ep → H b = none := fun {b o es ep} e d => by
      cases q : H b with
      | none => rfl
      | some u =>
        have e' : b = a := hA b (by rw [q]; simp)
        subst e'
        rw [ha] at e; cases e
        have d' : Data.seq vs.toArray _ = Data.dict es ep := d
        cases d'
    have nsK : ∀ {b : Addr} {m : Str → Option Value}, s₁.heap.Ns b m → (hidT s₁.heap H).Ns b m := fun {b m} ⟨o, es, ep, e, d, r⟩ => ⟨o, es, ep, base_of e (noA e d), d, r⟩
    have hKb : K.In (hidT s₁.heap H) := fun b o e => base_of (KX b o e) (by
      cases q : H b with
      | none => rfl
      | some u =>
        have e' : b = a := hA b (by rw [q]; simp)
        subst e'
        rw [hK (by rw [q]; simp)] at e; cases e)
    have hM : Mod K mg (hidT s₁.heap H) := ⟨hKb, nsK hns, ⟨mb, nsK hb, hbb⟩, let ⟨mc, h1, h2⟩ := hlim; ⟨mc, nsK h1, h2⟩⟩
    have e0 : Env0 P w K mg (hidT s₁.heap H) callerA [] s₁ H := ⟨rfl, hM, fun b o e => of_hidT e, Nat.le_of_eq (hidT_size _ _), trivial, fun b hb => absurd (show b ∈ ([] : List Addr) from hb) (by simp), hok, .of_eq hg⟩
    refine codeAny_mono ((F _ hKb (nsK hns)).run callerA [] s₁ H ⟨[.ref a], []⟩ [.ref a] [.ref a] _ _ hr e0 (hbind s₁ (.ref a)) (.cons rfl .nil) (hsp H hO hS)) fun r s' h => ?_
    cases r with
    | error e => exact (hCX H e s' h).elim
    | ok fl =>
      cases fl with
      | next => exact False.elim h
      | brk => exact False.elim h
      | cont => exact False.elim h
      | ret u =>
        obtain ⟨v, H', os, bare, un, hok', r', q⟩ := h
        have q' : v = .bl true := q
        subst q'
        obtain rfl : u = Value.bool true := r'
        refine ⟨rfl, OldK.of_keep fun b o e => ?_, os, bare⟩
        cases q : H b with
        | none => exact un.keep b o e q (by intro z; exact absurd (show b ∈ ([] : List Addr) from z) (by simp)) (by simp)
        | some u =>
          rcases hO b with z | ⟨ob, xs, z⟩
          · rw [q] at z; cases z
          · have z2 := un.frzs b ob _ z
            obtain ⟨e1, _⟩ := hok b _ z
            obtain ⟨e2, _⟩ := hok' b _ z2
            rw [e] at e1; cases e1
            exact e2
  cases hk : K.lookup a with
  | some o =>
    -- the script is one of the module's own objects
    have e := KX a o hk
    rw [ha] at e
    cases e
    refine core (fun _ => none) (fun _ => .inl rfl) (.inr ⟨_, vs.toArray, _, hk, rfl, rfl, rfl, by rw [List.size_toArray, lenV]; exact hl, by simpa using rv⟩) (fun b u z => by have z' : (none : Option HO) = some u := z; cases z') (fun b z => absurd rfl z) fun z => absurd rfl z
  | none =>
    refine core (fun b => if b = a then some (.frz { cls := .type "list", data := .seq vs.toArray } (.lst (ns.map V.int))) else none) (fun b => ?_) (.inl (.inr ⟨{ cls := .type "list", data := .seq vs.toArray }, if_pos rfl⟩)) (fun b u z => ?_) (fun b z => ?_) fun _ => hk
    · by_cases hb : b = a
      · exact .inr ⟨_, _, if_pos hb⟩
      · exact .inl (if_neg hb)
    · by_cases hb : b = a
      · have z' := (if_pos hb).symm.trans z
        cases z'
        subst hb
        exact ⟨ha, by rw [List.length_map]; exact hl, vs, _, rv, ha⟩
      · have z' := (if_neg hb).symm.trans z
        cases z'
    · by_cases hb : b = a
      · exact hb
      · exact absurd (if_neg hb) z
end L2

namespace L2
open PySem PySem.Spec PyProof.Rows

abbrev KOf {K : PySem.W.Frag} {h : Heap} (_ : K.In h) : PySem.W.Frag := K

/-- the goal that k_head leaves (case hc), from the law's promise. F gives the function object fd (K's own) once, then the promise over every base -/
theorem walk_of {l : PySem.W.OpenLaw} {n k : Nat} {q : Program} {loose : List Str} {XP : (Str → Option Value) → Heap → Prop} {YP : World → Heap → Prop} {d : DefRec} {K : Params → PySem.W.Frag} {CX : World → CXT} {sp : World → Sp} {x : Str}
    (hn : l.most = some n) (hn2 : n ≤ sizeLine) (hdf : d.params.defaults = []) (hr : Room k callerA)
    (hY : ∀ (w : World) (h : Heap), YP w h → (K w.params).In h)
    (F : ∀ (w : World) (mg : Str → Option Value) (fa : Addr) (h : Heap), (K w.params).In h → h.Ns mainGlobals mg → mg d.name = some (.ref fa) →
      ∃ fd : FuncData, (∀ (s : Shared) (u : Value), BindsTo s fd ⟨[u], []⟩ [(x, u)]) ∧
        ∀ base : Heap, (K w.params).In base → base.Ns mainGlobals mg → FnOk l.prog w (K w.params) mg base (CX w) k fa fd [x] (sp w))
    (hsp : ∀ (w : World) (H : Hp) (a : Addr) (ns : List Int), ns.length ≤ n → Only H → SqL (K w.params) H a (ns.map V.int) → sp w [.ref a] H (fun v _ => v = .bl true) fun _ _ _ => False)
    (hCX : ∀ (w : World) (H : Hp) (s : Shared) (e : Value) (s' : Shared), CX w [] H s (fun _ _ _ => False) e s' → False) :
    PySem.W.WalkO q loose XP YP l.row.toRowW d [] (fun f vs => PySem.call f vs) := by
  refine Att.attach_call hn hdf fun w s₀ s₁ mg mb fa o pm cd doc a vs ns G Y ho hd hcd hmg hobj hints hlen hg => ?_
  have KX := hY w _ Y
  obtain ⟨fd, hb, hF⟩ := F w mg fa _ KX G.T.g hmg
  exact law_call KX G.T.g G.T.b G.T.builtins G.T.nolimit hg hobj hints (Nat.le_trans hlen hn2) hr hF hb (fun H hO hS => hsp w H a ns hlen hO hS) fun H e s' => hCX w H s₁ e s'
end L2

/- THE LAST THEOREM (shape; LID, My.* are yours):
   My.Adr: a structure of the addresses that your layer names (classes, functions); My.Txt K t: a structure (Prop) of the equations over K;
   My.txt_mk : {K} {implicit addresses ..} (e1 : nsIn K mainGlobals "law" = some (some (.ref f))) (e2 : K.lookup f = some ⟨oc, od, .func (fnOf "law" "law" params body scope dV kV doc pm an cdv ct), sl⟩) (e3 : codeIn K cdv "law" = true) .. : ∃ t, My.Txt K t

set_option maxRecDepth 100000 in
set_option maxHeartbeats 0 in
theorem PySem.Challenge.cw_LID_holds : PySem.Challenge.rw_LID.Holds := by
  w_on; o_law; k_head; (case hw => w_witness2)
  k_fill
  refine L2.walk_of (l := PySem.Challenge.rw_LID) (n := 63) (k := 40) (x := "script") (CX := fun w => ..) (sp := fun _ => My.sp_law) rfl (by decide) rfl ⟨rfl, by decide, by decide⟩ (fun w h Y => PySem.W.kIn_of Y) ?F ?S ?C
  case F =>
    intro w mg fa h KX G hmg
    have T : ∃ t, My.Txt (L2.KOf KX) t := by
      dsimp only [L2.KOf]                          -- K must stand as «<heap const> w.params» for k_is
      refine' My.txt_mk ?e1 ?e2 ?e3 ..
      (case e1 => PySem.W.k_is)                    -- in the order: a name -> its address -> its object -> its parts
      (case e2 => PySem.W.k_is)
      ..
    obtain ⟨t, T⟩ := T
    have e0 := hmg.symm.trans (PySem.W.mg_of KX G T.law)
    cases e0                                       -- fa is the law's own address
    exact ⟨_, fun s u => .of_eq rfl, fun base kb nb => My.law_fn T kb nb⟩     -- if «.of_eq rfl» comes too early: refine' ⟨_, ?b, fun base kb nb => My.law_fn T kb nb⟩; exact fun s u => .of_eq rfl
  case S => exact fun w H a ns hl hO hS => ..
  case C => exact ..
(the tactic k_is has no namespace: write k_is) -/

/-! SHORT WORDS over the layer: a def of the text, its body, what a loop and a test want. -/
namespace L2
open PySem PySem.Spec PyProof.Rows

/-! ### the text by places -/
/-- the j-th statement of a class's body -/
def inClass (s : Stmt) (j : Nat) : Stmt := match s with
  | .ClassDef _ _ _ body _ _ _ _ _ _ _ => body.getD j (.Pass ⟨0, 0, 0, 0⟩)
  | _ => .Pass ⟨0, 0, 0, 0⟩
def defArgs (s : Stmt) : Arguments := match s with
  | .FunctionDef _ a _ _ _ _ _ _ _ _ => a
  | _ => { posonlyargs := [], args := [], vararg := none, kwonlyargs := [], kw_defaults := [], kwarg := none, defaults := [] }
def defBody (s : Stmt) : List Stmt := match s with
  | .FunctionDef _ _ b _ _ _ _ _ _ _ => b
  | _ => []
def defScope (s : Stmt) : Scope := match s with
  | .FunctionDef _ _ _ _ _ _ sc _ _ _ => sc
  | _ => { kind := .function, names := [], isGenerator := false, isCoroutine := false }

/-! ### no exception leaves a def -/
abbrev CX0 : CXT := fun _ _ _ _ _ _ => False
abbrev E0 : XK := fun _ _ _ => False
theorem pass0 {X : Cx} : Passes CX0 X E0 := fun _ _ _ _ _ _ _ h => h.elim

/-! ### a def (or method) of the text as it stands behind the top -/
structure Fun (K : PySem.W.Frag) (x qual : Str) (st : Stmt) (f : Addr) (fd : FuncData) : Prop where
  ex : ∃ (oc : Value) (od : Option Addr) (kV doc pm : Value) (an : Option Addr) (cdv ct : Value) (osl : Array (Option Value)),
    fd = PySem.W.fnOf x qual (defArgs st) (defBody st) (defScope st) .none kV doc pm an cdv ct ∧ K.lookup f = some ⟨oc, od, .func fd, osl⟩ ∧ PySem.W.codeIn K cdv qual = true
  kp : PySem.W.keepIn K (.ref f) = true
section
variable {P : Program} {w : World} {K : PySem.W.Frag} {mg : Str → Option Value} {base : Heap}
/-- THE RULE for a def: its body as a term of rules, and the reading of that term -/
theorem Fun.ok {x qual : Str} {st : Stmt} {f : Addr} {fd : FuncData} {N ps : List Str} {k : Nat} {sp : Sp} (F : Fun K x qual st f fd) (S : FnScope N ps (defScope st)) (len : ∀ vs H Q E, sp vs H Q E → vs.length = ps.length)
    (hbody : ∀ (cdv : Value) (A : Around) (outer : List Env) (s : Shared) (H : Hp) (vs : List V) (Q : VK) (E : XK), Room k (A.deeper (envOfC qual (defScope st) s.heap.objs.size f cdv)) → sp vs H Q E →
      ∃ t, PSs (cxOf CX0 P w K mg base N qual (defScope st) f cdv A outer s H E).nox (defBody st) t ∧ t { nx := fun _ H' => Q .non H', rt := Q } (start N vs) H) : FnOk P w K mg base CX0 (k + 1) f fd ps sp := by
  obtain ⟨oc, od, kV, doc, pm, an, cdv, ct, osl, rfl, lk, hcd⟩ := F.ex
  refine fn_of lk hcd S len fun A outer s H vs Q E hr hsp => ?_
  obtain ⟨t, h, q⟩ := hbody cdv A outer s H vs Q E hr hsp
  exact ⟨t, h.nox, q⟩
theorem fun_mk {x qual : Str} {st : Stmt} {f : Addr} {oc : Value} {od an : Option Addr} {osl : Array (Option Value)} {kV doc pm cdv ct : Value} (l : K.lookup f = some ⟨oc, od, .func (PySem.W.fnOf x qual (defArgs st) (defBody st) (defScope st) .none kV doc pm an cdv ct), osl⟩)
    (c : PySem.W.codeIn K cdv qual = true) (k : PySem.W.keepIn K (.ref f) = true) : Fun K x qual st f (PySem.W.fnOf x qual (defArgs st) (defBody st) (defScope st) .none kV doc pm an cdv ct) := ⟨⟨oc, od, kV, doc, pm, an, cdv, ct, osl, rfl, l, c⟩, k⟩
end
theorem small1000 {n : Nat} (h : n ≤ 1000) : n < sizeLine := Nat.lt_of_le_of_lt h (by decide)

/-! ### expressions in short: the name that stands in the i-th slot -/
section
variable {X : Cx}
theorem pv (i : Nat) {x : Str} {pos : Pos} (hN : X.N[i]? = some x := by rfl) (hv : Vis X.env.scope x := by first | exact Or.inl rfl | exact Or.inr (Or.inl rfl) | exact Or.inr (Or.inr rfl)) (hd : (x == ("__debug__" : Str)) = false := by decide)
    (hcd : (x == ("__classdict__" : Str)) = false := by decide) : PE X (.Name x pos) (tVar i) := pe_var hN hv hd hcd
end

/-! ### tests -/
theorem iteF {A B : Prop} (h : B) : if false = true then A else B := by
  rw [if_neg Bool.false_ne_true]
  exact h
theorem iteT {A B : Prop} (h : A) : if true = true then A else B := by
  rw [if_pos rfl]
  exact h
theorem ite2 {c A B : Prop} [Decidable c] (h1 : c → A) (h2 : ¬ c → B) : if c then A else B := by
  by_cases h : c
  · rw [if_pos h]
    exact h1 h
  · rw [if_neg h]
    exact h2 h
theorem iteNS {c A B : Prop} [Decidable c] (hc : c) (h : B) : if (!decide c) = true then A else B := by
  rw [decide_eq_true hc]
  exact iteF h

/-! ### heaps -/
/-- all that was tracked is as it was -/
def Same (H H' : Hp) : Prop := ∀ b o, H b = some o → H' b = some o
theorem Same.refl (H : Hp) : Same H H := fun _ _ h => h
theorem Same.trans {H H1 H2 : Hp} (a : Same H H1) (b : Same H1 H2) : Same H H2 := fun c o h => b c o (a c o h)
theorem Same.seq {K : PySem.W.Frag} {H H' : Hp} {a : Addr} {xs : List V} (e : Same H H') (h : SqL K H a xs) : SqL K H' a xs := by
  rcases h with (h | ⟨o, h⟩) | h
  · exact .inl (.inl (e _ _ h))
  · exact .inl (.inr ⟨o, e _ _ h⟩)
  · exact .inr h

end L2

namespace L2
open PySem PySem.Spec PyProof.Rows

/-! ### lists of pairs as tables -/
section
variable {κ : Type} [DecidableEq κ]
def valV (kvs : List (κ × V)) (k : κ) : Option V := (kvs.find? fun kv => decide (kv.1 = k)).map (·.2)
/-- in its place, or at the end -/
def putK (kvs : List (κ × V)) (k : κ) (v : V) : List (κ × V) :=
  if (kvs.any fun kv => decide (kv.1 = k)) = true then kvs.map (fun kv => if kv.1 = k then (kv.1, v) else kv) else kvs ++ [(k, v)]
def dropK (kvs : List (κ × V)) (k : κ) : List (κ × V) := kvs.filter fun kv => decide (kv.1 ≠ k)

theorem valV_pos {p : κ × V} {r : List (κ × V)} {k : κ} (e : p.1 = k) : valV (p :: r) k = some p.2 := by simp [valV, List.find?_cons, e]
theorem valV_neg {p : κ × V} {r : List (κ × V)} {k : κ} (e : ¬ p.1 = k) : valV (p :: r) k = valV r k := by simp [valV, List.find?_cons, e]
theorem valV_any (k : κ) : ∀ kvs : List (κ × V), (kvs.any fun kv => decide (kv.1 = k)) = (valV kvs k).isSome
  | [] => rfl
  | p :: r => by
    rw [List.any_cons]
    by_cases e : p.1 = k
    · simp only [valV_pos e, decide_eq_true e, Bool.true_or, Option.isSome_some]
    · rw [valV_neg e, decide_eq_false e, Bool.false_or]; exact valV_any k r
theorem length_putK (kvs : List (κ × V)) (k : κ) (v : V) : (putK kvs k v).length ≤ kvs.length + 1 := by
  unfold putK
  split
  · rw [List.length_map]; omega
  · rw [List.length_append, List.length_cons, List.length_nil]; omega
theorem RelO.isSome_eq {o : Option V} {u : Option Value} (r : RelO o u) : o.isSome = u.isSome := by
  cases o with
  | none => cases u with
    | none => rfl
    | some _ => exact (show False from r).elim
  | some _ => cases u with
    | none => exact (show False from r).elim
    | some _ => rfl
theorem RelO.getD {o : Option V} {u : Option Value} {d : V} {d' : Value} (r : RelO o u) (rd : RelV d d') : RelV (o.getD d) (u.getD d') := by
  cases o with
  | none => cases u with
    | none => exact rd
    | some _ => exact (show False from r).elim
  | some _ => cases u with
    | none => exact (show False from r).elim
    | some _ => exact r

/-- raw tables of the same keys -/
theorem KV.val {kvs : List (κ × V)} {vs : List (κ × Value)} (r : KV kvs vs) (k : κ) : RelO (valV kvs k) (valueAt vs k) := by
  unfold KV at r
  induction r with
  | nil => exact True.intro
  | @cons p q ps qs h t ih =>
    obtain ⟨h1, h2⟩ := h
    by_cases e : p.1 = k
    · have e' : q.1 = k := h1.symm.trans e
      have b : valueAt (q :: qs) k = some q.2 := by simp [valueAt, List.find?_cons, e']
      rw [valV_pos e, b]; exact h2
    · have e' : ¬ q.1 = k := fun z => e (h1.trans z)
      have b : valueAt (q :: qs) k = valueAt qs k := by simp [valueAt, List.find?_cons, e']
      rw [valV_neg e, b]; exact ih
theorem KV.any {kvs : List (κ × V)} {vs : List (κ × Value)} (r : KV kvs vs) (k : κ) : (kvs.any fun kv => decide (kv.1 = k)) = vs.any fun kv => decide (kv.1 = k) := by
  unfold KV at r
  induction r with
  | nil => rfl
  | cons h t ih => rw [List.any_cons, List.any_cons, ih, h.1]
theorem KV.repl {kvs : List (κ × V)} {vs : List (κ × Value)} (r : KV kvs vs) (k : κ) {y : V} {u : Value} (ry : RelV y u) :
    KV (kvs.map fun kv => if kv.1 = k then (kv.1, y) else kv) (vs.map fun kv => if kv.1 = k then (kv.1, u) else kv) := by
  unfold KV at r ⊢
  induction r with
  | nil => exact .nil
  | @cons p q ps qs h t ih =>
    rw [List.map_cons, List.map_cons]
    refine .cons ?_ ih
    obtain ⟨h1, h2⟩ := h
    by_cases e : p.1 = k
    · rw [if_pos e, if_pos (h1.symm.trans e)]; exact ⟨h1, ry⟩
    · rw [if_neg e, if_neg (fun z => e (h1.trans z))]; exact ⟨h1, h2⟩
theorem KV.put {kvs : List (κ × V)} {vs : List (κ × Value)} (r : KV kvs vs) (k : κ) {y : V} {u : Value} (ry : RelV y u) : KV (putK kvs k y) (stored vs k u) := by
  unfold putK stored
  rw [r.any k]
  by_cases e : (vs.any fun kv => decide (kv.1 = k)) = true
  · rw [if_pos e, if_pos e]; exact r.repl k ry
  · rw [if_neg e, if_neg e]; exact Paired.snoc r ⟨rfl, ry⟩
theorem KV.length {kvs : List (κ × V)} {vs : List (κ × Value)} (r : KV kvs vs) : kvs.length = vs.length := Paired.length r
end


/-! ### a tracked dict, its keys ints and texts or tuples of these -/
theorem kV_is {P : Program} {w : World} {k : Key} {u : Value} (r : RelV (kV k) u) : (mixKind P w).is k u = true := by
  cases k with
  | inl i => obtain ⟨t, e⟩ := (show ∃ t, u = Value.int i t from r); subst e; exact mixKind_int P w i t
  | inr x => obtain ⟨t, e⟩ := (show ∃ t, u = Value.str x t from r); subst e; exact mixKind_str P w x t
theorem items_are {P : Program} {w : World} : ∀ {ks : List Key} {us : List Value}, Vals (ks.map kV) us → ItemsAre (mixKind P w) ks us
  | [], _, r => by rw [List.map_nil] at r; cases r; exact .nil
  | k :: ks, _, r => by
    rw [List.map_cons] at r
    cases r with
    | cons h t => exact .cons (kV_is h) (items_are t)

/-- raw entries of a dict with tuple keys -/
abbrev KT (H : Hp) : List (List Key × V) → List (List Key × Addr × Value) → Prop := Paired fun p q => p.1 = q.1 ∧ H q.2.1 = some (.tup (p.1.map kV)) ∧ RelV p.2 q.2.2
theorem KT.val {H : Hp} {kvs : List (List Key × V)} {xs : List (List Key × Addr × Value)} (r : KT H kvs xs) (k : List Key) : RelO (valV kvs k) ((atKey xs k).map (·.2)) := by
  induction r with
  | nil => exact True.intro
  | @cons p q ps qs h t ih =>
    obtain ⟨h1, _, h2⟩ := h
    by_cases e : p.1 = k
    · have e' : q.1 = k := h1.symm.trans e
      have b : atKey (q :: qs) k = some q.2 := by simp [atKey, List.find?_cons, e']
      rw [valV_pos e, b]; exact h2
    · have e' : ¬ q.1 = k := fun z => e (h1.trans z)
      have b : atKey (q :: qs) k = atKey qs k := by simp [atKey, List.find?_cons, e']
      rw [valV_neg e, b]; exact ih
theorem KT.repl {H : Hp} {kvs : List (List Key × V)} {xs : List (List Key × Addr × Value)} (r : KT H kvs xs) (k : List Key) {y : V} {u : Value} (ry : RelV y u) :
    KT H (kvs.map fun kv => if kv.1 = k then (kv.1, y) else kv) (xs.map (putAt k u)) := by
  induction r with
  | nil => exact .nil
  | @cons p q ps qs h t ih =>
    rw [List.map_cons, List.map_cons]
    refine .cons ?_ ih
    obtain ⟨h1, h2, h3⟩ := h
    unfold putAt
    by_cases e : p.1 = k
    · rw [if_pos e, if_pos (h1.symm.trans e)]; exact ⟨h1, h2, ry⟩
    · rw [if_neg e, if_neg (fun z => e (h1.trans z))]; exact ⟨h1, h2, h3⟩
theorem KT.put {H : Hp} {kvs : List (List Key × V)} {xs : List (List Key × Addr × Value)} (r : KT H kvs xs) (k : List Key) {b : Addr} {y : V} {u : Value} (hb : H b = some (.tup (k.map kV))) (ry : RelV y u) :
    KT H (putK kvs k y) (storedH xs k b u) := by
  have e : (kvs.any fun kv => decide (kv.1 = k)) = (atKey xs k).isSome := by
    rw [valV_any, (r.val k).isSome_eq, Option.isSome_map]
  unfold putK storedH
  rw [e]
  by_cases q : (atKey xs k).isSome = true
  · rw [if_pos q, if_pos q]; exact r.repl k ry
  · rw [if_neg q, if_neg q]; exact Paired.snoc r ⟨rfl, hb, ry⟩
theorem KT.keeps {H H' : Hp} {kvs : List (List Key × V)} {xs : List (List Key × Addr × Value)} (r : KT H kvs xs) (ht : ∀ b ys, H b = some (.tup ys) → H' b = some (.tup ys)) : KT H' kvs xs :=
  Paired.mapP r fun _ _ z => ⟨z.1, ht _ _ z.2.1, z.2.2⟩

section
variable {P : Program} {w : World} {H : Hp} {h : Heap} {a : Addr}
theorem rd_of {u : HO} (ok : HOk P w H h) (e : Rd H a u) : ObjOk P w H h a u := e.ok ok
theorem dk_rd {kvs : List (Key × V)} (ok : HOk P w H h) (e : Rd H a (.dK kvs)) : kvs.length ≤ sizeLine ∧ (a == sysModules) = false ∧ ∃ vs, KV kvs vs ∧ h.DictOf (mixKind P w) a vs :=
  show ObjOk P w H h a (.dK kvs) from rd_of ok e
theorem dk_of {kvs : List (Key × V)} (ok : HOk P w H h) (e : H a = some (.dK kvs)) : kvs.length ≤ sizeLine ∧ (a == sysModules) = false ∧ ∃ vs, KV kvs vs ∧ h.DictOf (mixKind P w) a vs := dk_rd ok (.inl e)
/-- a tracked tuple of ints and texts is a key -/
theorem key_of {ks : List Key} (ok : HOk P w H h) (e : H a = some (.tup (ks.map kV))) : (tupleKind (mixKind P w)).is h ks a := by
  obtain ⟨_, its, r, o, h1, h2, n, h3⟩ := (show ObjOk P w H h a (.tup (ks.map kV)) from ok a _ e)
  exact ⟨o, its.toArray, n, h1, h2, h3, by simpa using items_are r⟩
theorem dt_rd {kvs : List (List Key × V)} (ok : HOk P w H h) (e : Rd H a (.dT kvs)) : kvs.length ≤ sizeLine ∧ (a == sysModules) = false ∧
    ∃ xs, KT H kvs xs ∧ h.DictOfH (tupleKind (mixKind P w)) a xs := by
  obtain ⟨z, y, xs, r, o, es, ep, h1, h2, h3, h4, h5⟩ := (show ObjOk P w H h a (.dT kvs) from rd_of ok e)
  refine ⟨z, y, xs, r, o, es, ep, h1, h2, h3, h4, fun x hx => ?_, h5⟩
  have all : ∀ {l : List (List Key × V)} {m : List (List Key × Addr × Value)}, KT H l m → ∀ x ∈ m, (tupleKind (mixKind P w)).is h x.1 x.2.1 := by
    intro l m q
    induction q with
    | nil => intro x hx; exact nomatch hx
    | @cons p q ps qs hq t ih =>
      intro x hx
      rcases List.mem_cons.mp hx with e | hx
      · subst e
        exact key_of ok (by rw [← hq.1]; exact hq.2.1)
      · exact ih x hx
  exact all r x hx
theorem dt_of {kvs : List (List Key × V)} (ok : HOk P w H h) (e : H a = some (.dT kvs)) : kvs.length ≤ sizeLine ∧ (a == sysModules) = false ∧
    ∃ xs, KT H kvs xs ∧ h.DictOfH (tupleKind (mixKind P w)) a xs := dt_rd ok (.inl e)
end

/-- what the dict at a holds at the key y -/
def DGet (H : Hp) (a : Addr) (y : V) (r : Option V) : Prop :=
  (∃ kvs k, Rd H a (.dK kvs) ∧ y = kV k ∧ r = valV kvs k) ∨ ∃ kvs k b, Rd H a (.dT kvs) ∧ y = .ref b ∧ H b = some (.tup (k.map kV)) ∧ r = valV kvs k
/-- the heap behind a[y] = v -/
def DPut (H : Hp) (a : Addr) (y v : V) (H' : Hp) : Prop :=
  (∃ kvs k, H a = some (.dK kvs) ∧ y = kV k ∧ kvs.length < sizeLine ∧ H' = upd H a (.dK (putK kvs k v))) ∨
  ∃ kvs k b, H a = some (.dT kvs) ∧ y = .ref b ∧ H b = some (.tup (k.map kV)) ∧ kvs.length < sizeLine ∧ H' = upd H a (.dT (putK kvs k v))
theorem DGet.t {H : Hp} {a b : Addr} {kvs : List (List Key × V)} {k : List Key} (e : H a = some (.dT kvs)) (eb : H b = some (.tup (k.map kV))) : DGet H a (.ref b) (valV kvs k) := .inr ⟨kvs, k, b, .inl e, rfl, eb, rfl⟩
theorem DPut.t {H : Hp} {a b : Addr} {kvs : List (List Key × V)} {k : List Key} {v : V} (e : H a = some (.dT kvs)) (eb : H b = some (.tup (k.map kV))) (hl : kvs.length < sizeLine) :
    DPut H a (.ref b) v (upd H a (.dT (putK kvs k v))) := .inr ⟨kvs, k, b, e, rfl, eb, hl, rfl⟩


section
variable {X : Cx} {pins : List (Addr × Obj)} {σ : St} {H : Hp} {s : Shared} {a : Addr} {y v : V} {u r : Value} {o : Option V} {A : Around} {E : Value → Shared → Prop}

theorem Inv.big (I : Inv X pins σ H s) : sysModules < s.heap.objs.size := by
  have h : mainGlobals < s.heap.objs.size := (I.mod.glob.keeps I.bk).lt
  exact Nat.lt_trans (by decide) h

/-- d[y], there -/
theorem d_getItem {Q : Value → Shared → Prop} (hu : A.units + 1 < cLine) (I : Inv X pins σ H s) (g : DGet H a y (some v)) (ry : RelV y u) (h : ∀ w' s', Inv X pins σ H s' → RelV v w' → Q w' s') :
    wpAny (model X.prog X.w) A (getItem (.ref a) u) Q E s := by
  rcases g with ⟨kvs, k, e, ey, l⟩ | ⟨kvs, k, b, e, ey, eb, l⟩
  · subst ey
    obtain ⟨z, hd, vs, rel, dd⟩ := dk_rd I.hok e
    obtain ⟨w', hw, rw'⟩ := RelO.some_of (v := v) (o := valueAt vs k) (by rw [l]; exact rel.val k)
    exact wpAny_getItem_of (kV_is ry) dd.mapOf hw (h w' _ (I.tok _) rw')
  · subst ey
    cases (show u = Value.ref b from ry)
    obtain ⟨z, hd, xs, rel, dd⟩ := dt_rd I.hok e
    obtain ⟨w', hw, rw'⟩ := RelO.some_of (v := v) (o := (atKey xs k).map (·.2)) (by rw [l]; exact rel.val k)
    obtain ⟨p, hp, hp2⟩ := Option.map_eq_some_iff.mp hw
    refine wpAny_getItem_heap (tupleKind_room_in1 hu) (key_of I.hok eb) dd hp ?_
    rw [hp2]
    exact h w' _ (I.tok _) rw'
/-- a dict's object is replaced -/
theorem d_write {h' : Heap} {t' : Nat} {ob : HO} (I : Inv X pins σ H s) (mu : Mut (H a)) (hs : Heap.SameBut a s.heap h') (he : ∃ q, h'.get? a = some q) (new : ObjOk X.prog X.w (upd H a ob) h' a ob) :
    Inv X pins σ (upd H a ob) { s with heap := h', toks := t' } :=
  I.write (x := a) (e := a) mu (.inl rfl) (fun b q hb z => (hs.2 b hb).trans z) he new
theorem dk_new {P : Program} {w : World} {H' : Hp} {h' : Heap} {kvs : List (Key × V)} {vs : List (Key × Value)} (z : kvs.length ≤ sizeLine) (hd : (a == sysModules) = false) (rel : KV kvs vs) (dd : h'.DictOf (mixKind P w) a vs) :
    ObjOk P w H' h' a (.dK kvs) := ⟨z, hd, vs, rel, dd⟩
/-- d[y] = v -/
theorem d_setItem {H' : Hp} {Q : Unit → Shared → Prop} (hu : A.units + 1 < cLine) (I : Inv X pins σ H s) (g : DPut H a y v H') (ry : RelV y u) (rv : RelV v r) (h : ∀ s', Inv X pins σ H' s' → Q () s') :
    wpAny (model X.prog X.w) A (setItem (.ref a) u r) Q E s := by
  rcases g with ⟨kvs, k, e, ey, l, eH⟩ | ⟨kvs, k, b, e, ey, eb, l, eH⟩
  · subst ey eH
    obtain ⟨z, hd, vs, rel, dd⟩ := dk_of I.hok e
    have hz : vs.length ≤ sizeLine := by rw [← rel.length]; exact z
    have hl : (putK kvs k v).length ≤ sizeLine := by have := length_putK kvs k v; omega
    refine wpAny_setItem_pairs (hsz := hz) (kV_is ry) dd fun h' dd' hs => h _ ?_
    have he : ∃ q, h'.get? a = some q := let ⟨q, _, _, hq, _⟩ := dd'; ⟨q, hq⟩
    exact d_write I (by rw [e]; exact True.intro) hs he (dk_new hl hd (rel.put k rv) dd')
  · subst ey eH
    cases (show u = Value.ref b from ry)
    obtain ⟨z, hd, xs, rel, dd⟩ := dt_of I.hok e
    have hz : xs.length ≤ sizeLine := by rw [← Paired.length rel]; exact z
    have hl : (putK kvs k v).length ≤ sizeLine := by have := length_putK kvs k v; omega
    refine wpAny_setItem_heap (hsz := hz) (tupleKind_room_in1 hu) (key_of I.hok eb) dd fun h' dd' hs => h _ ?_
    obtain ⟨q, es, ep, hq, h2, h3, h4, _, h5⟩ := dd'
    refine d_write I (by rw [e]; exact True.intro) hs ⟨q, hq⟩ ⟨hl, hd, _, (rel.put k eb rv).keeps fun c ys ec => ?_, q, es, ep, hq, h2, h3, h4, h5⟩
    rw [upd_ne (ne_of ec e (fun z => nomatch z))]
    exact ec
end

section
variable {X : Cx} {pins : List (Addr × Obj)} {σ : St} {H : Hp} {s : Shared} {a : Addr} {kvs : List (Key × V)} {k : Key} {u : Value} {A : Around} {E : Value → Shared → Prop}
end


/-! ### readings and rules -/
/-- the element of a subscription, not a slice -/
def NoSl (i : Expr) : Prop := ∀ ov iv, subscripted i false ov iv = operate [ov, iv] (getItem ov iv)
theorem subD_of {prog : Program} {w : World} {A : Around} {E : Value → Shared → Prop} {s : Shared} {env : Env} {value slice : Expr} {pos : Pos} {T id : String} {Q : Value → Shared → Prop}
    (hl : typeLookup (.type T) "__getitem__" = pure (some (.builtin id))) (hs : NoSl slice)
    (h : wpAny (model prog w) A (eval value env) (fun o s₁ => wpAny (model prog w) A (eval slice env) (fun i s₂ => s₂.TypeIs o T ∧ wpAny (model prog w) A (getItem o i) Q E s₂) E s₁) E s) :
    wpAny (model prog w) A (eval (.Subscript value slice pos) env) Q E s := by
  refine Subscript_ (wpAny_mono h (fun o s₁ h₁ => wpAny_mono h₁ (fun i s₂ h₂ => ?_) fun _ _ x => x) fun _ _ x => x)
  obtain ⟨hT, h₂⟩ := h₂
  unfold subscriptTail
  refine wpAny_bind ?_
  rw [getitemInPython_of_ne hT.not_modules]
  refine wpAny_bind (wpAny_specialOf hT hl ?_)
  have fin : wpAny (model prog w) A (subscripted slice false o i) (fun r s₃ => wpAny (model prog w) A (letTemporaryGo value o r >>= fun _ => pure r) Q E s₃) E s₂ := by
    rw [hs o i]
    exact wpAny_operating (wpAny_mono h₂ (fun r s₃ h₃ => wpAny_bind (wpAny_letTemporaryGo (wpAny_pure h₃))) fun _ _ x => x)
  first
    | exact wpAny_pure (wpAny_bind fin)
    | exact wpAny_bind (wpAny_pure (wpAny_bind fin))
    | exact wpAny_bind fin

theorem dict_typeIs {X : Cx} {pins : List (Addr × Obj)} {σ : St} {H : Hp} {s : Shared} {a : Addr} {y : V} {o : Option V} (I : Inv X pins σ H s) (g : DGet H a y o) : s.TypeIs (.ref a) "dict" := by
  rcases g with ⟨kvs, k, e, _, _⟩ | ⟨kvs, k, b, e, _, _, _⟩
  · obtain ⟨_, _, vs, _, dd⟩ := dk_rd I.hok e
    exact dd.typeIs
  · obtain ⟨_, _, xs, _, dd⟩ := dt_rd I.hok e
    exact dd.typeIs
/-- d[y] -/
def tDGet (td ty : TE) : TE := fun σ H Q => td σ H fun x H1 => ty σ H1 fun y H2 => ∃ a v, x = .ref a ∧ DGet H2 a y (some v) ∧ Q v H2
/-- y in d, y not in d -/
def tDIn (ty td : TE) : TE := fun σ H Q => ty σ H fun y H1 => td σ H1 fun x H2 => ∃ a o, x = .ref a ∧ DGet H2 a y o ∧ Q (.bl o.isSome) H2
def tDNotIn (ty td : TE) : TE := fun σ H Q => ty σ H fun y H1 => td σ H1 fun x H2 => ∃ a o, x = .ref a ∧ DGet H2 a y o ∧ Q (.bl (!o.isSome)) H2
/-- d[y] = v -/
def sDPut (td ty tv : TE) : TS := fun D σ H => tv σ H fun v H1 => td σ H1 fun x H2 => ty σ H2 fun y H3 => ∃ a H4, x = .ref a ∧ DPut H3 a y v H4 ∧ D.nx σ H4
/-- d[y] op= v -/
def sDAug (td ty tv : TE) (rd : V → V → Hp → VK → Prop) : TS := fun D σ H => td σ H fun x H1 => ty σ H1 fun y H2 => ∃ a v, x = .ref a ∧ DGet H2 a y (some v) ∧
  tv σ H2 fun y2 H3 => rd v y2 H3 fun z H4 => ∃ H5, DPut H4 a y z H5 ∧ D.nx σ H5
/-- del d[y] -/
def sDDel (td ty : TE) : TS := fun D σ H => td σ H fun x H1 => ty σ H1 fun y H2 => ∃ a kvs k, x = .ref a ∧ H2 a = some (.dK kvs) ∧ y = kV k ∧ (valV kvs k).isSome = true ∧ D.nx σ (upd H2 a (.dK (dropK kvs k)))

section
variable {X : Cx} {o i e value : Expr} {pos pos' tpos : Pos} {td ty tv : TE}
theorem pe_dget (hu : X.A.units + 1 < cLine) (ho : PE X o td) (hi : PE X i ty) (hs : NoSl i) : PE X (.Subscript o i pos) (tDGet td ty) := by
  intro pins s σ H Q I h
  refine subD_of PySem.F.slot_dict_getitem.lookup hs (thn (ho pins s σ H _ I h) fun u s1 ⟨x, H1, I1, rx, q1⟩ => thn (hi pins s1 σ H1 _ I1 q1) fun iv s2 ⟨y, H2, I2, ry, a, v, ex, g, q2⟩ => ?_)
  subst ex
  obtain rfl : u = Value.ref a := rx
  exact ⟨dict_typeIs I2 g, d_getItem hu I2 g ry fun w' s3 I3 rw' => ⟨v, H2, I3, rw', q2⟩⟩
theorem ps_dput (hu : X.A.units + 1 < cLine) (ho : PE X o td) (hi : PE X i ty) (hv : PE X value tv) (hs : swapsWith value (some (.Subscript o i pos')) pos.line X.env = pure false) :
    PS X (.Assign [.Subscript o i pos'] value pos) (sDPut td ty tv) := by
  intro pins s σ H D I h
  refine wpAny_Assign_Subscript (thn (hv pins s σ H _ I h) fun r s1 ⟨v, H1, I1, rv, q1⟩ => thn (ho pins s1 σ H1 _ I1 q1) fun u s2 ⟨x, H2, I2, rx, q2⟩ => thn (hi pins s2 σ H2 _ I2 q2) fun iv s3 ⟨y, H3, I3, ry, a, H4, ex, g, q3⟩ => ?_) hs
  subst ex
  obtain rfl : u = Value.ref a := rx
  exact d_setItem hu I3 g ry rv fun s4 I4 => ⟨σ, H4, I4, q3⟩
end


/-! ### displays -/
theorem dt_empty {P : Program} {w : World} {H : Hp} (h : Heap) (hb : sysModules < h.objs.size) : ObjOk P w H (h.push { cls := .type "dict", data := .dict #[] }) h.objs.size (.dT []) :=
  ⟨Nat.zero_le _, beq_eq_false_iff_ne.mpr (Ne.symm (Nat.ne_of_lt hb)), [], .nil, _, #[], 0, Heap.get?_push_size _ rfl, ⟨rfl, rfl, rfl⟩, rfl, rfl, List.nodup_nil⟩
/-- {}, to be a dict of the kind that is wanted -/
def tDNewK : TE := fun _ H Q => ∀ p, H p = none → Q (.ref p) (upd H p (.dK []))
def tDNewT : TE := fun _ H Q => ∀ p, H p = none → Q (.ref p) (upd H p (.dT []))
section
variable {X : Cx} {pos : Pos}
theorem pe_dnewT : PE X (.Dict [] [] pos) tDNewT := fun pins s σ H Q I h =>
  wpAny_Dict_empty ⟨.ref s.heap.objs.size, _, I.laid (a := s.heap.objs.size) (o := .dT []) (t' := s.toks) (fun _ _ q => Heap.get?_push_of_some _ q) (Nat.le_refl _) (dt_empty s.heap I.big), rfl, h _ (I.hok.fresh (Nat.le_refl _))⟩
end

/-- the pairs of a display, from the left -/
def tPairs : List (TE × TE) → St → Hp → (List (V × V) → Hp → Prop) → Prop
  | [], _, H, Q => Q [] H
  | (tk, tv) :: r, σ, H, Q => tk σ H fun x H1 => tv σ H1 fun y H2 => tPairs r σ H2 fun ps H3 => Q ((x, y) :: ps) H3
abbrev VV : List (V × V) → List (Value × Value) → Prop := Paired fun p q => RelV p.1 q.1 ∧ RelV p.2 q.2
def PPs (X : Cx) (pos : Pos) (keys : List (Option Expr)) (values : List Expr) (trs : List (TE × TE)) : Prop :=
  ∀ (pins : List (Addr × Obj)) (s : Shared) (σ : St) (H : Hp) (Q : List (V × V) → Hp → Prop), Inv X pins σ H s → tPairs trs σ H Q →
    wpAny (model X.prog X.w) X.A (evalPairs (pairTrees keys values X.env pos)) (fun vs s' => ∃ ps H', Inv X pins σ H' s' ∧ VV ps vs ∧ Q ps H') X.xe s
def mergeK (kvs more : List (Key × V)) : List (Key × V) := more.foldl (fun acc kv => putK acc kv.1 kv.2) kvs
/-- {k: v, ..} with keys ints and texts; the new dict stands empty while the pairs are made -/
def tDisp (trs : List (TE × TE)) : TE := fun σ H Q => ∀ p, H p = none → tPairs trs σ (upd H p (.dK [])) fun ps H2 => H2 p = some (.dK []) ∧ ∃ kvs : List (Key × V), ps = kvs.map (fun kv => (kV kv.1, kv.2)) ∧ kvs.length ≤ 15 ∧ Q (.ref p) (upd H2 p (.dK (mergeK [] kvs)))
end L2
/-! my own rules over the layer: the glue of defs, floor division by great numbers, isinstance, is, tuples -/
namespace L2
open PySem PySem.Spec PyProof.Rows

theorem same_new {H : Hp} {p : Addr} (h : H p = none) (o : HO) : Same H (upd H p o) := fun b u q => by rw [upd_ne (ne_of_none q h)]; exact q
/-- a def of the top, by its name -/
structure Def (K : PySem.W.Frag) (mg : Str → Option Value) (x : Str) (st : Stmt) (ps : List Str) : Prop where
  ex : ∃ (f : Addr) (fd : FuncData), Fun K x x st f fd ∧ (∀ us : List Value, us.length = ps.length → bindArgs fd ⟨us, []⟩ = pure (ps.zip us)) ∧ mg x = some (.ref f)
theorem def_mk {K : PySem.W.Frag} {h : Heap} {mg : Str → Option Value} {x : Str} {st : Stmt} {ps : List Str} {f : Addr} {oc : Value} {od an : Option Addr} {osl : Array (Option Value)} {kV doc pm cdv ct : Value}
    (KX : K.In h) (G : h.Ns mainGlobals mg) (a : PySem.W.nsIn K mainGlobals x = some (some (.ref f)))
    (l : K.lookup f = some ⟨oc, od, .func (PySem.W.fnOf x x (defArgs st) (defBody st) (defScope st) .none kV doc pm an cdv ct), osl⟩)
    (c : PySem.W.codeIn K cdv x = true) (k : PySem.W.keepIn K (.ref f) = true)
    (b : ∀ (kV doc pm : Value) (an : Option Addr) (cdv ct : Value) (us : List Value), us.length = ps.length → bindArgs (PySem.W.fnOf x x (defArgs st) (defBody st) (defScope st) .none kV doc pm an cdv ct) ⟨us, []⟩ = pure (ps.zip us)) :
    Def K mg x st ps := ⟨f, _, fun_mk l c k, b kV doc pm an cdv ct, PySem.W.mg_of KX G a⟩

/-- what a caller knows of a def -/
structure Cal (P : Program) (w : World) (K : PySem.W.Frag) (mg : Str → Option Value) (base : Heap) (k : Nat) (x : Str) (ps : List Str) (sp : Sp) : Prop where
  ex : ∃ (f : Addr) (fd : FuncData), FnOk P w K mg base CX0 k f fd ps sp ∧ Binds K fd ps [] ∧ PySem.W.keepIn K (.ref f) = true ∧ mg x = some (.ref f)
theorem Def.cal {P : Program} {w : World} {K : PySem.W.Frag} {mg : Str → Option Value} {base : Heap} {k : Nat} {x : Str} {st : Stmt} {ps : List Str} {sp : Sp} (d : Def K mg x st ps)
    (F : ∀ (f : Addr) (fd : FuncData), Fun K x x st f fd → FnOk P w K mg base CX0 k f fd ps sp) : Cal P w K mg base k x ps sp := by
  obtain ⟨f, fd, h1, h2, h3⟩ := d.ex
  exact ⟨f, fd, F f fd h1, .all h2, h1.kp, h3⟩
section
variable {X : Cx} {k : Nat} {x : Str} {ps : List Str} {sp : Sp} {p pos : Pos} {e : Expr} {es : List Expr} {t : TA}
/-- f(..), f a def of the top -/
theorem pe_fn (c : Cal X.prog X.w X.K X.mg X.base k x ps sp) (hr : Room k X.A) (hg : Gl X x) (ha : PA X (e :: es) t) (hdb : (x == ("__debug__" : Str)) = false := by decide)
    (he : starEach (e :: es) X.env = (false, eval e X.env) :: starEach es X.env := by rfl) (hpl : (backTo pos (starEach es X.env)).any (·.1) = false := by rfl) :
    PE X (.Call (.Name x p) (e :: es) [] pos) (tCall sp [] E0 t) := by
  obtain ⟨f, fd, F, B, kp, m⟩ := c.ex
  exact pe_call F hr hg m kp B .nil pass0 ha hdb he hpl
end

/-- the law's own promise -/
def spLaw (K : PySem.W.Frag) : Sp := fun vs H Q _ => ∃ (a : Addr) (ns : List Int), vs = [.ref a] ∧ SqL K H a (ns.map V.int) ∧ ns.length ≤ 63 ∧ Only H ∧ ∀ H', Q (.bl true) H'
theorem law_mk {P : Program} {w : World} {K : PySem.W.Frag} {mg : Str → Option Value} {k : Nat} {st : Stmt} {fa : Addr} (d : Def K mg "law" st ["_law_script"])
    (F : ∀ (base : Heap) (f : Addr) (fd : FuncData), Fun K "law" "law" st f fd → FnOk P w K mg base CX0 k f fd ["_law_script"] (spLaw K)) (hmg : mg "law" = some (.ref fa)) :
    ∃ fd : FuncData, (∀ (s : Shared) (u : Value), BindsTo s fd ⟨[u], []⟩ [("_law_script", u)]) ∧ ∀ base : Heap, K.In base → base.Ns mainGlobals mg → FnOk P w K mg base CX0 k fa fd ["_law_script"] (spLaw K) := by
  obtain ⟨f, fd, h1, h2, h3⟩ := d.ex
  have e := hmg.symm.trans h3
  cases e
  exact ⟨fd, fun s u => .of_eq (h2 [u] rfl), fun base _ _ => F base _ _ h1⟩
theorem walkL {l : PySem.W.OpenLaw} {k : Nat} {q : Program} {loose : List Str} {XP : (Str → Option Value) → Heap → Prop} {YP : World → Heap → Prop} {d : DefRec} {K : Params → PySem.W.Frag} (hr : Room k callerA) (hn : l.most = some 63) (hdf : d.params.defaults = [])
    (hY : ∀ (w : World) (h : Heap), YP w h → (K w.params).In h)
    (F : ∀ (w : World) (mg : Str → Option Value) (fa : Addr) (h : Heap), (K w.params).In h → h.Ns mainGlobals mg → mg d.name = some (.ref fa) →
      ∃ fd : FuncData, (∀ (s : Shared) (u : Value), BindsTo s fd ⟨[u], []⟩ [("_law_script", u)]) ∧ ∀ base : Heap, (K w.params).In base → base.Ns mainGlobals mg → FnOk l.prog w (K w.params) mg base CX0 k fa fd ["_law_script"] (spLaw (K w.params))) :
    PySem.W.WalkO q loose XP YP l.row.toRowW d [] (fun f vs => PySem.call f vs) :=
  walk_of (n := 63) (k := k) (x := "_law_script") (CX := fun _ => CX0) (sp := fun w => spLaw (K w.params)) hn (by decide) hdf hr hY F (fun _ _ a ns hl hO hS => ⟨a, ns, rfl, hS, hl, hO, fun _ => rfl⟩) fun _ _ _ _ _ z => z

section
variable {X : Cx}
theorem log2_small {n : Nat} (h : n < 10 ^ 60) : n.log2 < 9000 := by
  by_cases h0 : n = 0
  · subst h0; decide
  · have h1 : n.log2 < 200 := (Nat.log2_lt h0).mpr (Nat.lt_of_lt_of_le h (by decide))
    omega
/-- // by a positive number of at most sixty digits -/
theorem op_fdivB : OpR X (binaryOp .FloorDiv) (rI (fun _ j => 0 < j ∧ j < 10 ^ 60) fun i j => .int (i / j)) := opI fun i j _ _ _ _ _ hc q => by
  have h1 : (0 : Int) < j := hc.1
  have h2 : j < 10 ^ 60 := hc.2
  exact floordiv_int (by omega) (by rw [Int.fdiv_eq_ediv_of_nonneg i (by omega)]; exact q) (.inl (PyProof.noPylong_of_log2 (log2_small (by omega))))
/-- isinstance(x, T), T a built-in's name -/
theorem call_isi : CallR X (.builtin "isinstance") (fun xs H Q => ∃ x c t b, xs = [x, .ty c] ∧ TyOf X.K H x t ∧ PySem.W.kitOne X.K t (.type c) = some b ∧ Q (.bl b) H) := by
  intro pins s σ H xs us Q I r h
  obtain ⟨x, c, t, b, rfl, ty, e, q⟩ := h
  obtain ⟨u, w', rfl, ru, rw'⟩ := vals2 r
  cases rw'
  exact isinst_ok I ru ty e fun tk => ⟨.bl b, H, I.tok tk, rfl, q⟩
/-- t + u of any two tuples -/
theorem op_catU : OpR X (binaryOp .Add) (fun x y H Q => ∃ a b xs ys, x = .ref a ∧ y = .ref b ∧ SqT X.K H a xs ∧ SqT X.K H b ys ∧ xs.length + ys.length ≤ sizeLine ∧
    ∀ p H', Same H H' → SqT X.K H' p (xs ++ ys) → (H a = some (.tup xs) → H b = some (.tup ys) → H' p = some (.tup (xs ++ ys))) → Q (.ref p) H') := by
  intro pins s σ H x y v u Q I rx ry h
  obtain ⟨a, b, xs, ys, rfl, rfl, ha, hb, hz, q1⟩ := h
  cases rx
  cases ry
  obtain ⟨its, r1, p1, _⟩ := I.tuple ha
  obtain ⟨its2, r2, p2, _⟩ := I.tuple hb
  have hz' : its.length + its2.length ≤ sizeLine := by rw [← r1.length, ← r2.length]; exact hz
  obtain ⟨⟨cls, dd, data, sl⟩, ho, hc, n, hd⟩ := id p1
  obtain ⟨⟨cls2, dd2, data2, sl2⟩, ho2, hc2, n2, hd2⟩ := id p2
  simp only at hc hd hc2 hd2
  subst hc hd hc2 hd2
  have e : its.toArray ++ its2.toArray = (its ++ its2).toArray := by simp
  by_cases hv : its = []
  · have hx : xs = [] := r1.nil_iff.mp hv
    subst hx
    exact concat_meets ⟨_, ho, rfl⟩ ⟨_, ho2, rfl⟩ noFill_tuple_add seq_tuple_add PySem.F.slot_tuple_add PySem.F.entry_tuple_add (PySem.F.args_tuple_add_2 _ _)
      (tuple_addW0 a b its.toArray its2.toArray n n2 dd dd2 sl sl2 (by simp [hv])) ⟨ho, ho2, ⟨.ref b, H, I, rfl, q1 b H (Same.refl H) (by simpa using hb) (fun _ z => by simpa using z)⟩⟩
  · by_cases hw : its2 = []
    · have hy : ys = [] := r2.nil_iff.mp hw
      subst hy
      exact concat_meets ⟨_, ho, rfl⟩ ⟨_, ho2, rfl⟩ noFill_tuple_add seq_tuple_add PySem.F.slot_tuple_add PySem.F.entry_tuple_add (PySem.F.args_tuple_add_2 _ _)
        (tuple_addW1 a b its.toArray its2.toArray n n2 dd dd2 sl sl2 (by simpa using hv) (by simp [hw])) ⟨ho, ho2, ⟨.ref a, H, I, rfl, q1 a H (Same.refl H) (by simpa using ha) (fun z _ => by simpa using z)⟩⟩
    · refine concat_meets ⟨_, ho, rfl⟩ ⟨_, ho2, rfl⟩ noFill_tuple_add seq_tuple_add PySem.F.slot_tuple_add PySem.F.entry_tuple_add (PySem.F.args_tuple_add_2 _ _)
        (tuple_addW2 a b its.toArray its2.toArray n n2 dd dd2 sl sl2 (by simpa using hv) (by simpa using hw) (by rw [List.size_toArray, List.size_toArray]; exact hz')) ⟨ho, ho2, ?_⟩
      rw [e]
      refine ⟨.ref s.heap.objs.size, _, I.laid (t' := s.toks) (o := .tup (xs ++ ys)) (fun b ob q => Heap.get?_push_of_some _ q) (Nat.le_refl _) ?_, rfl, q1 _ _ (same_new (I.hok.fresh (Nat.le_refl _)) _) (SqT.of upd_same) (fun _ _ => upd_same)⟩
      exact ⟨by rw [List.length_append]; exact hz, _, r1.append r2, IsTup.new _ _⟩
end
section
theorem bt_int : bootBuiltins "int" = some (.type "int") := by decide +kernel
theorem bt_bool : bootBuiltins "bool" = some (.type "bool") := by decide +kernel
theorem bt_str : bootBuiltins "str" = some (.type "str") := by decide +kernel
theorem bt_list : bootBuiltins "list" = some (.type "list") := by decide +kernel
theorem bt_tuple : bootBuiltins "tuple" = some (.type "tuple") := by decide +kernel
theorem bt_len : bootBuiltins "len" = some (.builtin "len") := by decide +kernel
theorem bt_isinstance : bootBuiltins "isinstance" = some (.builtin "isinstance") := by decide +kernel
theorem bt_max : bootBuiltins "max" = some (.builtin "max") := by decide +kernel
theorem bt_min : bootBuiltins "min" = some (.builtin "min") := by decide +kernel
theorem bt_sorted : bootBuiltins "sorted" = some (.builtin "sorted") := by decide +kernel
end
section
variable {K : PySem.W.Frag}
theorem kit_int_bool : PySem.W.kitOne K (.type "int") (.type "bool") = some false := by kernel_rfl
theorem kit_int_tuple : PySem.W.kitOne K (.type "int") (.type "tuple") = some false := by kernel_rfl
theorem kit_str_tuple : PySem.W.kitOne K (.type "str") (.type "tuple") = some false := by kernel_rfl
theorem kit_none_tuple : PySem.W.kitOne K (.type "NoneType") (.type "tuple") = some false := by kernel_rfl
theorem kit_tuple_tuple : PySem.W.kitOne K (.type "tuple") (.type "tuple") = some true := by kernel_rfl
end

/-! ### heaps: all kept but one -/
def Keep (p : Addr) (H H' : Hp) : Prop := ∀ b o, b ≠ p → H b = some o → H' b = some o
theorem Keep.trans {p : Addr} {H H1 H2 : Hp} (a : Keep p H H1) (b : Keep p H1 H2) : Keep p H H2 := fun c o n h => b c o n (a c o n h)
theorem Keep.same {p : Addr} {H H' : Hp} (s : Same H H') : Keep p H H' := fun b o _ h => s b o h
theorem Keep.set (p : Addr) (H : Hp) (o : HO) : Keep p H (upd H p o) := fun b u n h => by rw [upd_ne n]; exact h
theorem Keep.new {p q : Addr} {H : Hp} (h : H q = none) (o : HO) : Keep p H (upd H q o) := .same (same_new h o)
theorem Same.seqT {K : PySem.W.Frag} {H H' : Hp} {a : Addr} {xs : List V} (e : Same H H') (h : SqT K H a xs) : SqT K H' a xs := by
  rcases h with (h | ⟨o, h⟩) | h
  · exact .inl (.inl (e _ _ h))
  · exact .inl (.inr ⟨o, e _ _ h⟩)
  · exact .inr h
theorem sz {n : Nat} (h : n ≤ 1000) : n ≤ sizeLine := Nat.le_of_lt (small1000 h)
theorem szb {n : Nat} (h : Nat.ble n 1000 = true) : n ≤ sizeLine := sz (Nat.le_of_ble_eq_true h)
theorem atI_ints {l : List Int} {i : Int} (h0 : 0 ≤ i) (h1 : i < (l.length : Int)) : ∃ v, v ∈ l ∧ atI (l.map V.int) i = some (.int v) := by
  have hk : i.toNat < l.length := by omega
  have ek : i = ((i.toNat : Nat) : Int) := by omega
  have q : atI (l.map V.int) ((i.toNat : Nat) : Int) = some (.int l[i.toNat]) := atI_nat (by rw [List.getElem?_map, List.getElem?_eq_getElem hk] <;> rfl)
  rw [← ek] at q
  exact ⟨l[i.toNat], List.getElem_mem hk, q⟩
end L2
/-! my own rules over the layer: a list comprehension whose element may change things -/
namespace L2
open PySem PySem.Spec PyProof.Rows

/-- the kinds of the names of a comprehension's block within a def of that scope -/
def relN (scope sc0 : Scope) : List (Str × NameKind) := scope.names.map fun (n, k) => if (k == .free && sc0.kind == .function && sc0.names.lookup n == some .cell) then (n, .cell) else (n, k)
def CellsIn (env : Env) : List (Str × Addr) → Prop
  | [] => True
  | (n, c) :: r => env.cells.lookup n = some c ∧ CellsIn env r
theorem CellsIn.look {env : Env} : ∀ {cl : List (Str × Addr)} {n : Str} {c : Addr}, CellsIn env cl → cl.lookup n = some c → env.cells.lookup n = some c
  | [], _, _, _, h => by cases h
  | (m, d) :: r, n, c, hc, h => by
    rw [List.lookup_cons] at h
    cases hx : n == m with
    | true =>
      rw [hx] at h
      cases h
      rw [eq_of_beq hx]
      exact hc.1
    | false =>
      rw [hx] at h
      exact CellsIn.look hc.2 h
theorem look_of_mem {cl : List (Str × Addr)} {n : Str} (h : n ∈ cl.map (·.1)) : ∃ c, cl.lookup n = some c := by
  induction cl with
  | nil => cases h
  | cons p r ih =>
    obtain ⟨m, d⟩ := p
    rw [List.lookup_cons]
    cases hx : n == m with
    | true => exact ⟨d, rfl⟩
    | false =>
      rcases List.mem_cons.mp h with e | e
      · have e' : n = m := e
        rw [e', beq_self_eq_true] at hx
        cases hx
      · exact ih e
structure CompOk (scope sc0 : Scope) (x : Str) (N cn : List Str) : Prop where
  has : ∀ p ∈ relN scope sc0, (p.2 = .cell ∨ p.2 = .free) → p.1 ∈ cn
  nc : ∀ p ∈ scope.names, p.2 ≠ .cell
  names : ∀ p ∈ scope.names, p.2 = .local → scope.names.lookup p.1 = some .local
  hx : scope.names.lookup x = some .local
  hx' : (relN scope sc0).lookup x = some .local
  nd : (x :: N).Nodup
  frs : ∀ y ∈ N, (relN scope sc0).lookup y = some .cell ∧ sc0.names.lookup y = some .cell ∧ y ∈ cn

/-- the context of a comprehension's block -/
def compCx (X : Cx) (scope : Scope) (cl : List (Str × Addr)) (C : Addr) (x : Str) (N : List Str) (s₂ : Shared) (H₂ : Hp) (fp : List Addr) : Cx where
  prog := X.prog
  w := X.w
  K := X.K
  mg := X.mg
  base := X.base
  A := X.A
  N := x :: N
  s₀ := s₂
  H₀ := H₂
  env := compEnvC scope cl C X.env
  outer := X.stack
  stack := X.stack
  ex := fp
  fn := fun _ => false
  calm := X.calm
  pn := []
  xe := fun _ _ => False

/-- the reading: W the invariant by the turn, a measure, the items so far -/
def tComp (wi : TI) (te : TE) (fr : List Nat) : TE := fun σ H Q => wi σ H fun J H1 => ∀ D, H1 D = none → ∃ W : Nat → Nat → List V → Hp → Prop, (∃ m, W 0 m [] (upd H1 D (.lst []))) ∧
  ∀ i m ys H2, W i m ys H2 → H2 D = some (.lst ys) ∧ ((J.stop i H2 ∧ Q (.ref D) H2) ∨ (J.go i H2 ∧ ys.length < sizeLine ∧ ∃ N : V → Hp → Prop, (∀ y H3, N y H3 → H3 D = some (.lst ys) ∧ ∃ m', m' < m ∧ W (i + 1) m' (ys ++ [y]) (upd H3 D (.lst (ys ++ [y])))) ∧
    ∀ x H', J.yld i H2 x H' → te (some x :: fr.map fun j => (σ[j]?).getD none) H' N))

section
variable {prog : Program} {w : World} {A : Around} {R : Result → Shared → Prop} {s : Shared}
theorem compLoop_any {elt target iter : Expr} {scope : Scope} {pos : Pos} {it acc : Value} {env : Env} (I : Nat → Shared → Prop)
    (turn : ∀ n s, I n s → wpAny (model prog w) A (pyNext it) (fun r s₁ => match r with
      | none => R (.ok .next) s₁
      | some v => wpAny (model prog w) A (letOwnedTupleGo target it v) (fun _ s₁' => wpAny (model prog w) A (assign target env v) (fun _ s₂ => wpAny (model prog w) A (eval elt env) (fun x s₃ =>
          wpAny (model prog w) A (call (.builtin "list.append") [acc, x]) (fun _ s₄ => ∃ m, m < n ∧ I m s₄) (notedBy (model prog w) A env fun e s' => R (.error e) s') s₃)
          (notedBy (model prog w) A env fun e s' => R (.error e) s') s₂) (notedBy (model prog w) A env fun e s' => R (.error e) s') s₁') (notedBy (model prog w) A env fun e s' => R (.error e) s') s₁) (notedBy (model prog w) A env fun e s' => R (.error e) s') s)
    (n : Nat) (h : I n s) :
    codeAny (model prog w) A (.compLoop (.ListComp elt [⟨target, iter, [], 0⟩] scope pos) 0 it acc env) R s := by
  refine codeAny_loop rfl I (fun n s hI => ?_) n h
  show wpAny _ _ ((compTurn (.ListComp elt [⟨target, iter, [], 0⟩] scope pos) 0 it acc env).onRaise (fun x => do noteFrame x env; theTreesLotGoes x)) _ _ s
  refine wpAny_noted ?_
  rw [compTurn_list1]
  refine wpAny_bind (wpAny_standAt (wpAny_bind (wpAny_mono (turn n s hI) (fun r s₁ h₁ => ?_) fun _ _ h' => h')))
  cases r with
  | none => exact wpAny_pure h₁
  | some v =>
    exact wpAny_bind (wpAny_mono h₁ (fun _ s₁' h₁' => wpAny_bind (wpAny_mono h₁' (fun _ s₂ h₂ => wpAny_bind (wpAny_bind (wpAny_mono h₂ (fun x s₃ h₃ => wpAny_bind (wpAny_mono h₃
      (fun _ s₄ h₄ => wpAny_pure (wpAny_pure ⟨rfl, h₄⟩)) fun _ _ h' => h')) fun _ _ h' => h'))) fun _ _ h' => h')) fun _ _ h' => h')
end

theorem lookup_mem {α : Type} : ∀ {l : List (Str × α)} {x : Str} {a : α}, l.lookup x = some a → (x, a) ∈ l := fun h => PySem.mem_of_lookup h

theorem comp_core {X : Cx} {elt iter : Expr} {x : Str} {px pos : Pos} {scope sc0 : Scope} {cl : List (Str × Addr)} {cn N : List Str} {fr : List Nat} {te : TE} {pins : List (Addr × Obj)} {σ : St} {H2 : Hp} {s2 : Shared} {it : Addr} {fp : List Addr}
    {tn : Nat → Heap → Prop} {J : It} {RR : Value → Addr → Result → Shared → Prop} {R : Hp → Prop} {E : Value → Shared → Prop} {W : Nat → Nat → List V → Hp → Prop} {m0 : Nat}
    (hc : X.calm = true) (he : ∀ (C : Addr) (s₂ : Shared) (H₂ : Hp) (fp : List Addr), PE (compCx X scope cl C x N s₂ H₂ fp) elt te)
    (hcl : CellsIn X.env cl) (hcn : cl.map (·.1) = cn) (hsc : X.env.scope = sc0) (hk : scope.kind = .function) (hok : CompOk scope sc0 x N cn) (hfr : fr.map (fun j => X.N[j]?) = N.map some)
    (I2 : Inv X pins σ H2 s2) (T : Turn X.prog X.w X.K (.Name x px) J fp it tn) (st2 : tn 0 s2.heap) (f2 : ∀ b ∈ fp, FpOk X pins H2 b)
    (w0 : W 0 m0 [] (upd H2 s2.heap.objs.size (.lst [])))
    (turn : ∀ i m ys H, W i m ys H → H s2.heap.objs.size = some (.lst ys) ∧ ((J.stop i H ∧ R H) ∨ (J.go i H ∧ ys.length < sizeLine ∧ ∃ N : V → Hp → Prop,
      (∀ y H3, N y H3 → H3 s2.heap.objs.size = some (.lst ys) ∧ ∃ m', m' < m ∧ W (i + 1) m' (ys ++ [y]) (upd H3 s2.heap.objs.size (.lst (ys ++ [y])))) ∧
      ∀ x H', J.yld i H x H' → te (some x :: fr.map fun j => (σ[j]?).getD none) H' N)))
    (hRR : ∀ (C : Addr) (H6 : Hp) (s6 : Shared) (m6 : Str → Option Value), s6.heap.Ns C m6 → Inv X pins σ H6 s6 → FpOk X pins H6 C → R H6 → RR (.ref s2.heap.objs.size) C (.ok .next) s6) :
    wpAny (model X.prog X.w) X.A (newList []) (fun acc s₃ => wpAny (model X.prog X.w) X.A (newFunctionEnv scope X.env.globals cl [] X.env.qual none .none (some X.env)) (fun cenv s₄ =>
      codeAny (model X.prog X.w) X.A (.compStart (.ListComp elt [⟨.Name x px, iter, [], 0⟩] scope pos) 0 (.ref it) acc { cenv with scope := relabel scope X.env }) (RR acc cenv.locals) s₄) E s₃) E s2 := by
  refine wpAny_newObj_type (wpAny_newFunctionEnv hok.nc (by intro y hy; simp at hy) (fun h4 hns hsb => ?_) hk)
  dsimp only at hns hsb ⊢
  have rel : ∀ y, (compEnvC scope cl 0 X.env).scope.names.lookup y = (relN scope sc0).lookup y := fun y => by
    show (relabel scope X.env).names.lookup y = _
    unfold relabel relN Env.kindOf
    rw [hsc]
  generalize hD : s2.heap.objs.size = D at *
  have I3 : Inv X pins σ (upd H2 D (.lst [])) { s2 with heap := s2.heap.push { cls := .type "list", dict := none, data := .seq ([] : List Value).toArray } } :=
    I2.laid (t' := s2.toks) (fun b u e => Heap.get?_push_of_some _ e) (Nat.le_of_eq hD) ⟨Nat.zero_le _, [], 0, .nil, by rw [← hD]; exact Heap.get?_push_size _ rfl⟩
  have k23 : ∀ b u, s2.heap.get? b = some u → (s2.heap.push { cls := .type "list", dict := none, data := .seq ([] : List Value).toArray }).get? b = some u := fun b u e => Heap.get?_push_of_some _ e
  have hsz : s2.heap.objs.size ≤ (s2.heap.push { cls := .type "list", dict := none, data := .seq ([] : List Value).toArray }).objs.size := by rw [Heap.size_push]; exact Nat.le_succ _
  generalize hh3 : s2.heap.push { cls := .type "list", dict := none, data := .seq ([] : List Value).toArray } = h3 at *
  have k34 : ∀ b u, h3.get? b = some u → h4.get? b = some u := fun b u e => (hsb.2 b (Nat.ne_of_lt (Heap.lt_size e))).trans (Heap.get?_push_of_some _ e)
  generalize hC : h3.objs.size = C at *
  have I4 : Inv X pins σ (upd H2 D (.lst [])) { s2 with heap := h4, toks := s2.toks + ([] : List (Str × Value)).length } := I3.kept (t' := s2.toks + 0) k34
  generalize hH3 : upd H2 D (.lst []) = H3 at *
  have ltC : ∀ b o, s2.heap.get? b = some o → b < C := fun b o e => Nat.lt_of_lt_of_le (Heap.lt_size e) hsz
  have lenF : fr.length = N.length := by simpa using congrArg List.length hfr
  have fpo : ∀ b ∈ fp, b ≠ C ∧ b ∉ frs X.stack := fun b hb => by
    obtain ⟨o, e, _⟩ := T.obj 0 s2.heap st2 b hb
    refine ⟨Nat.ne_of_lt (ltC b o e), fun z => ?_⟩
    obtain ⟨_, n1, n2, _⟩ := f2 b hb
    rcases List.mem_cons.mp (I2.stkSub b z) with q | q
    · exact n1 q
    · exact n2 q
  have H3C : H3 C = none := I3.hok.fresh (Nat.le_of_eq hC)
  have okX : (compCx X scope cl C x N { s2 with heap := h3 } H3 fp).Ok := by
    refine ⟨I2.ok.mod, hk, I2.ok.glob, I2.ok.blt, Nat.le_of_eq hC, fun y z c e1 e2 => I2.ok.inj y z c (hcl.look e1) (hcl.look e2), fun y hy => ?_, fun y c z => (Bool.false_ne_true z).elim, fun z => I2.ok.hd z, I2.ok.frames, .inl rfl,
      fun b hb => ⟨(fpo b hb).1, fun y c e => (f2 b hb).2.2.2.2.1 y c (hcl.look e)⟩, fun b o e => I3.bs b o e, Nat.le_trans I2.ok.bsz I3.sz, fun b o e hb => ?_, fun b hb => (fpo b hb).2, I3.stack, I3.stkFree⟩
    · have hy' : (relN scope sc0).lookup y = some .cell ∨ (relN scope sc0).lookup y = some .free := by
        rcases hy with hy | hy
        · exact .inl ((rel y).symm.trans hy)
        · exact .inr ((rel y).symm.trans hy)
      have hm : y ∈ cn := by
        rcases hy' with q | q
        · exact hok.has (y, .cell) (lookup_mem q) (.inl rfl)
        · exact hok.has (y, .free) (lookup_mem q) (.inr rfl)
      exact look_of_mem (cl := cl) (n := y) (by rw [hcn]; exact hm)
    · rcases (f2 b hb).2.2.2.1 with z | z
      · exact I2.ok.noex b o e z
      · exact absurd (Nat.lt_of_lt_of_le (Heap.lt_size e) (Nat.le_trans I2.ok.bsz z)) (Nat.lt_irrefl _)
  have I5 : Inv (compCx X scope cl C x N { s2 with heap := h3 } H3 fp) [] (none :: fr.map fun j => (σ[j]?).getD none) H3 { s2 with heap := h4, toks := s2.toks + ([] : List (Str × Value)).length } := by
    refine ⟨okX, rfl, I4.bare, Un.kept k34, ⟨_, hns, fun i y v e1 e2 e3 => ?_⟩, fun y c e => I4.cell y c (hcl.look e), H3C, fun y c e => I4.freeC y c (hcl.look e), fun p hp => absurd (show p ∈ ([] : List (Addr × Obj)) from hp) (by simp), I4.hok, by simp [compCx, lenF]⟩
    cases i with
    | zero => cases e2
    | succ j =>
      have e1' : N[j]? = some y := e1
      have e2' : (fr.map fun j => (σ[j]?).getD none)[j]? = some (some v) := e2
      obtain ⟨k, ek⟩ : ∃ k, fr[j]? = some k := by
        have : j < fr.length := by rw [lenF]; exact (List.getElem?_eq_some_iff.mp e1').1
        exact ⟨fr[j], List.getElem?_eq_getElem this⟩
      rw [List.getElem?_map, ek] at e2'
      have e2'' : (σ[k]?).getD none = some v := Option.some.inj e2'
      have eσ : σ[k]? = some (some v) := by
        cases q : σ[k]? with
        | none => rw [q] at e2''; cases e2''
        | some o => rw [q] at e2''; exact congrArg some e2''
      have eN : X.N[k]? = some y := by
        have z := congrArg (fun l => l[j]?) hfr
        simp only [List.getElem?_map, ek, e1', Option.map_some] at z
        exact Option.some.inj z
      obtain ⟨r1, r2, r3⟩ := hok.frs y (List.mem_of_getElem? e1')
      obtain ⟨m, _, hl⟩ := I4.loc
      obtain ⟨u, ru, look⟩ := hl k y v eN eσ (.inr (.inl (by rw [hsc]; exact r2)))
      refine ⟨u, ru, .inr ⟨.inl ((rel y).trans r1), ?_⟩⟩
      rcases look with ⟨l1, _⟩ | ⟨_, c, l1, l2⟩
      · exfalso
        have l1' : X.env.scope.names.lookup y = some .local := l1
        rw [hsc, r2] at l1'
        cases l1'
      · obtain ⟨c', l3⟩ := look_of_mem (cl := cl) (n := y) (by rw [hcn]; exact r3)
        have l4 := hcl.look l3
        rw [l1] at l4
        cases l4
        exact ⟨c, l3, l2⟩
  have st4 : tn 0 h4 := T.keep 0 s2.heap h4 st2 fun b hb o e => k34 b o (k23 b o e)
  have fp5 : ∀ {H' : Hp}, (∀ b ∈ fp, H' b = none) → ∀ b ∈ fp, FpOk (compCx X scope cl C x N { s2 with heap := h3 } H3 fp) [] H' b := fun hn b hb =>
    ⟨hn b hb, (fpo b hb).1, (fpo b hb).2, .inl hb, fun y c e => (f2 b hb).2.2.2.2.1 y c (hcl.look e), fun p hp => absurd (show p ∈ ([] : List (Addr × Obj)) from hp) (by simp)⟩
  have fr3 : ∀ b ∈ fp, H3 b = none := fun b hb => by
    obtain ⟨o, e, _⟩ := T.obj 0 s2.heap st2 b hb
    have : b ≠ D := Nat.ne_of_lt (hD ▸ Heap.lt_size e)
    rw [← hH3, upd_ne this]
    exact (f2 b hb).1
  have hx' : Loc (compCx X scope cl C x N { s2 with heap := h3 } H3 fp).env.scope x := .inl ((rel x).trans hok.hx')
  have fin : ∀ (H6 : Hp) (s6 : Shared) (σ6 : St), Inv (compCx X scope cl C x N { s2 with heap := h3 } H3 fp) [] σ6 H6 s6 → Inv X pins σ H6 s6 ∧ FpOk X pins H6 C := by
    intro H6 s6 σ6 I6
    refine ⟨I3.call' (s' := s6) (ch := fp) I6.os ⟨I6.base.keep, I6.base.slot, I6.base.free, I6.base.there, I6.base.tups, I6.base.frzs, I6.base.tbls⟩ I6.hok I6.bare (fun b hb => ?_), I3.fpOk (Nat.le_of_eq hC) I6.free⟩
    obtain ⟨_, n1, _, n3, n4, n5⟩ := f2 b hb
    exact ⟨n3, n1, n4, n5⟩
  have loop : codeAny (model X.prog X.w) X.A (.compLoop (.ListComp elt [⟨.Name x px, iter, [], 0⟩] scope pos) 0 (.ref it) (.ref D) (compEnvC scope cl C X.env))
      (RR (.ref D) C) { s2 with heap := h4, toks := s2.toks + ([] : List (Str × Value)).length } := by
    refine compLoop_any (fun n s' => ∃ i v0 ys H', Inv (compCx X scope cl C x N { s2 with heap := h3 } H3 fp) [] (v0 :: fr.map fun j => (σ[j]?).getD none) H' s' ∧ tn i s'.heap ∧ (∀ b ∈ fp, H' b = none) ∧ W i n ys H') ?_ m0
      ⟨0, none, [], H3, I5, st4, fr3, w0⟩
    rintro n s6 ⟨i, v0, ys, H6, I6, st6, fr6, w6⟩
    obtain ⟨hDl, hw⟩ := turn i n ys H6 w6
    rcases hw with ⟨stop, qn⟩ | ⟨go, hlen, N', hN', step⟩
    · refine thn (T.done (compCx X scope cl C x N { s2 with heap := h3 } H3 fp) rfl rfl rfl hc i [] s6 _ H6 _ I6 (fp5 fr6) st6 stop) fun r s7 ⟨hr, I7⟩ => ?_
      subst hr
      obtain ⟨m7, hn7, _⟩ := I7.loc
      obtain ⟨J7, F7⟩ := fin H6 s7 _ I7
      exact hRR C H6 s7 m7 hn7 J7 F7 qn
    · refine thn (T.item (compCx X scope cl C x N { s2 with heap := h3 } H3 fp) rfl rfl rfl hc i [] s6 _ H6 _ I6 (fp5 fr6) st6 go) fun r s7 ⟨u, hr, h7⟩ => ?_
      subst hr
      refine thn h7 fun _ s8 ⟨x8, H8, I8, r8, y8, st8, fr8⟩ => ?_
      have I8' := I8.pinned (fp5 fr8) (T.obj _ _ st8)
      refine wpAny_assign_Name (store_ok (i := 0) I8' hok.nd rfl hx' r8 (fun s9 I9 => ?_) (.inr ((rel x).trans hok.hx')))
      have I9' : Inv (compCx X scope cl C x N { s2 with heap := h3 } H3 fp) ([] ++ pinsAt fp s8.heap) (some x8 :: fr.map fun j => (σ[j]?).getD none) H8 s9 := I9
      refine wpAny_mono (he C { s2 with heap := h3 } H3 fp _ s9 _ H8 _ I9' (step x8 H8 y8)) (fun y s10 h10 => ?_) fun _ _ z => False.elim z
      obtain ⟨y10, H10, I10, r10, n10⟩ := h10
      obtain ⟨hD10, m', hm, w10⟩ := hN' y10 H10 n10
      refine wpAny_mono (mt_append (X := compCx X scope cl C x N { s2 with heap := h3 } H3 fp) _ s10 _ H10 (.ref D) [y10] (.ref D) [y] (fun _ H' => H' = upd H10 D (.lst (ys ++ [y10]))) I10 rfl (.cons r10 .nil) ⟨D, ys, y10, rfl, rfl, hD10, hlen, rfl⟩) (fun _ s11 h11 => ?_) fun _ _ z => False.elim z
      obtain ⟨_, H11, I11, _, e11⟩ := h11
      subst e11
      refine ⟨m', hm, i + 1, some x8, ys ++ [y10], _, I11.unpinned, T.keep _ _ _ st8 fun b hb o e => (I11.pin (b, o) (List.mem_append_right _ (List.mem_append_right _ (mem_pinsAt hb e)))).1, fun b hb => ?_, w10⟩
      obtain ⟨o, e, d⟩ := T.obj _ _ st8 b hb
      exact (I11.pin (b, o) (List.mem_append_right _ (List.mem_append_right _ (mem_pinsAt hb e)))).2.1
  exact codeAny_compStart_list loop (T.self _ 0 _ _ _ st4 loop)

theorem Inv.let_go {X : Cx} {pins : List (Addr × Obj)} {σ : St} {H : Hp} {s : Shared} {C : Addr} {h' : Heap} (I : Inv X pins σ H s) (F : FpOk X pins H C) (sb : Heap.SameBut C s.heap h') : Inv X pins σ H { s with heap := h' } := by
  obtain ⟨f0, f1, _, f3, f4, f5⟩ := F
  exact I.turned (t' := s.toks) (fun b o hb e => (sb.2 b hb).trans e) f0 f1 f3 f4 f5
theorem pe_comp {X : Cx} {elt iter : Expr} {x : Str} {px pos : Pos} {scope sc0 : Scope} {cl : List (Str × Addr)} {cn N : List Str} {fr : List Nat} {wi : TI} {te : TE}
    (hc : X.calm = true) (hi : PI X (.Name x px) iter wi) (he : ∀ (C : Addr) (s₂ : Shared) (H₂ : Hp) (fp : List Addr), PE (compCx X scope cl C x N s₂ H₂ fp) elt te)
    (hclos : closureFor scope X.env = pure cl) (hcl : CellsIn X.env cl) (hcn : cl.map (·.1) = cn) (hsc : X.env.scope = sc0) (hk : scope.kind = .function) (hok : CompOk scope sc0 x N cn)
    (hfr : fr.map (fun j => X.N[j]?) = N.map some) (hs : ∀ v, foldedSetIterable iter X.env v = pure v := by intro _; rfl) :
    PE X (.ListComp elt [⟨.Name x px, iter, [], 0⟩] scope pos) (tComp wi te fr) := by
  intro pins s σ H Q I h
  rw [eval_ListComp]
  refine wpAny_comprehension_free (use := none) rfl hs hclos hk hok.names (thn (hi pins s σ H _ I h) fun v s1 h1 => thn h1 fun itv s2 h2 => ?_)
  obtain ⟨it, fp, tn, J, H2, e, I2, T, st2, f2, hq⟩ := h2
  subst e
  obtain ⟨W, ⟨m0, w0⟩, turn⟩ := hq s2.heap.objs.size (I2.hok.fresh (Nat.le_refl _))
  exact comp_core (RR := fun acc C => compPost (model X.prog X.w) X.A X.xe none (EP X pins σ Q) acc C) (R := fun H6 => Q (.ref s2.heap.objs.size) H6) hc he hcl hcn hsc hk hok hfr I2 T st2 f2 w0 turn
    fun C H6 s6 m6 hn I6 F6 q => ⟨m6, hn, fun h' sb => ⟨.ref s2.heap.objs.size, H6, I6.let_go F6 sb, rfl, q⟩⟩
/-- y = [.. for x in ..], straight to a local name -/
def tSetComp (i : Nat) (wi : TI) (te : TE) (fr : List Nat) : TS := fun D σ H => tComp wi te fr σ H fun v H1 => D.nx (σ.set i (some v)) H1
theorem ps_setComp {X : Cx} {i : Nat} {y : Str} {py spos : Pos} {elt iter : Expr} {x : Str} {px pos : Pos} {scope sc0 : Scope} {cl : List (Str × Addr)} {cn N : List Str} {fr : List Nat} {wi : TI} {te : TE}
    (hN : X.N.Nodup) (hiN : X.N[i]? = some y) (hy : Loc X.env.scope y)
    (hc : X.calm = true) (hi : PI X (.Name x px) iter wi) (he : ∀ (C : Addr) (s₂ : Shared) (H₂ : Hp) (fp : List Addr), PE (compCx X scope cl C x N s₂ H₂ fp) elt te)
    (hclos : closureFor scope X.env = pure cl) (hcl : CellsIn X.env cl) (hcn : cl.map (·.1) = cn) (hsc : X.env.scope = sc0) (hk : scope.kind = .function) (hok : CompOk scope sc0 x N cn)
    (hfr : fr.map (fun j => X.N[j]?) = N.map some) (hsw : swapsWith (.ListComp elt [⟨.Name x px, iter, [], 0⟩] scope pos) (some (.Name y py)) spos.line X.env = pure true)
    (hf : X.fn y = true ∨ X.env.scope.names.lookup y = some .local) (hs : ∀ v, foldedSetIterable iter X.env v = pure v := by intro _; rfl) :
    PS X (.Assign [.Name y py] (.ListComp elt [⟨.Name x px, iter, [], 0⟩] scope pos) spos) (tSetComp i wi te fr) := by
  intro pins s σ H D I h
  rw [exec_Assign_Name_used _ _ _ _ hsw]
  refine wpAny_bind (wpAny_standAt (wpAny_bind ?_))
  show wpAny _ X.A (do let _ ← comprehension (.ListComp elt [⟨.Name x px, iter, [], 0⟩] scope pos) scope X.env _ (newList []) false (eval iter X.env) (some (assign (.Name y py) X.env))) _ _ s
  refine wpAny_bind (wpAny_mono (wpAny_comprehension_free (use := some (assign (.Name y py) X.env)) (Q := fun _ s' => SP X pins D .next s') rfl hs hclos hk hok.names
    (thn (hi pins s σ H _ I h) fun v s1 h1 => thn h1 fun itv s2 h2 => ?_)) (fun _ s' hq => wpAny_pure (wpAny_pure hq)) fun _ _ e => e)
  obtain ⟨it, fp, tn, J, H2, e, I2, T, st2, f2, hq⟩ := h2
  subst e
  obtain ⟨W, ⟨m0, w0⟩, turn⟩ := hq s2.heap.objs.size (I2.hok.fresh (Nat.le_refl _))
  refine comp_core (RR := fun acc C => compPost (model X.prog X.w) X.A X.xe (some (assign (.Name y py) X.env)) (fun _ s' => SP X pins D .next s') acc C) (R := fun H6 => D.nx (σ.set i (some (.ref s2.heap.objs.size))) H6) hc he hcl hcn hsc hk hok hfr I2 T st2 f2 w0 turn
    fun C H6 s6 m6 hn I6 F6 q => ?_
  show wpAny _ X.A (assign (.Name y py) X.env (.ref s2.heap.objs.size)) _ _ _
  refine wpAny_assign_Name (store_ok2 (v := .ref s2.heap.objs.size) I6 hN hiN hy rfl (fun s7 I7 ⟨a, sb, ha⟩ => ?_) hf)
  have neC : C ≠ a := by
    rcases ha with ha | ha
    · rw [ha]; exact F6.2.1
    · exact Ne.symm (F6.2.2.2.2.1 y a ha)
  exact ⟨m6, hn.sameBut sb neC, fun h' sb' => ⟨_, H6, I7.let_go F6 sb', q⟩⟩

/-- [.. for x in range(n)] -/
theorem comp_range {lo : Int} {n : Nat} {T : V → Hp → (V → Hp → Prop) → Prop} {D : Addr} {H1 : Hp} {R : Hp → Prop} (hn : n ≤ sizeLine) (Pv : Nat → List V → Hp → Prop) (h0 : Pv 0 [] (upd H1 D (.lst [])))
    (hD : ∀ i ys H, Pv i ys H → H D = some (.lst ys) ∧ ys.length = i)
    (hs : ∀ i ys H, i < n → Pv i ys H → T (.int (lo + i)) H fun y H3 => H3 D = some (.lst ys) ∧ Pv (i + 1) (ys ++ [y]) (upd H3 D (.lst (ys ++ [y]))))
    (hd : ∀ ys H, Pv n ys H → R H) :
    ∃ W : Nat → Nat → List V → Hp → Prop, (∃ m, W 0 m [] (upd H1 D (.lst []))) ∧
      ∀ i m ys H2, W i m ys H2 → H2 D = some (.lst ys) ∧ (((Itr lo n).stop i H2 ∧ R H2) ∨ ((Itr lo n).go i H2 ∧ ys.length < sizeLine ∧ ∃ N : V → Hp → Prop, (∀ y H3, N y H3 → H3 D = some (.lst ys) ∧ ∃ m', m' < m ∧ W (i + 1) m' (ys ++ [y]) (upd H3 D (.lst (ys ++ [y])))) ∧
        ∀ x H', (Itr lo n).yld i H2 x H' → T x H' N)) := by
  refine ⟨fun i m ys H => m = n - i ∧ i ≤ n ∧ Pv i ys H, ⟨n, by simp, Nat.zero_le _, h0⟩, ?_⟩
  rintro i m ys H2 ⟨rfl, hi, p⟩
  obtain ⟨d1, d2⟩ := hD i ys H2 p
  refine ⟨d1, ?_⟩
  by_cases hlt : i < n
  · refine .inr ⟨hlt, by omega, fun y H3 => H3 D = some (.lst ys) ∧ Pv (i + 1) (ys ++ [y]) (upd H3 D (.lst (ys ++ [y]))), fun y H3 ⟨z1, z2⟩ => ⟨z1, n - (i + 1), by omega, rfl, hlt, z2⟩, fun x H' y => ?_⟩
    obtain ⟨e, y⟩ := y
    subst e y
    exact hs i ys _ hlt p
  · have e : i = n := by omega
    subst e
    exact .inl ⟨Nat.le_refl _, hd ys H2 p⟩
/-- [.. for x in t], t a tuple that stays -/
theorem comp_tup {K : PySem.W.Frag} {a : Addr} {xs : List V} {T : V → Hp → (V → Hp → Prop) → Prop} {D : Addr} {H1 : Hp} {R : Hp → Prop} (hn : xs.length ≤ sizeLine) (Pv : Nat → List V → Hp → Prop) (h0 : Pv 0 [] (upd H1 D (.lst [])))
    (hl : ∀ i ys H, Pv i ys H → SqT K H a xs) (hD : ∀ i ys H, Pv i ys H → H D = some (.lst ys) ∧ ys.length = i)
    (hs : ∀ i x ys H, xs[i]? = some x → Pv i ys H → T x H fun y H3 => H3 D = some (.lst ys) ∧ Pv (i + 1) (ys ++ [y]) (upd H3 D (.lst (ys ++ [y]))))
    (hd : ∀ ys H, Pv xs.length ys H → R H) :
    ∃ W : Nat → Nat → List V → Hp → Prop, (∃ m, W 0 m [] (upd H1 D (.lst []))) ∧
      ∀ i m ys H2, W i m ys H2 → H2 D = some (.lst ys) ∧ (((Itt K a).stop i H2 ∧ R H2) ∨ ((Itt K a).go i H2 ∧ ys.length < sizeLine ∧ ∃ N : V → Hp → Prop, (∀ y H3, N y H3 → H3 D = some (.lst ys) ∧ ∃ m', m' < m ∧ W (i + 1) m' (ys ++ [y]) (upd H3 D (.lst (ys ++ [y])))) ∧
        ∀ x H', (Itt K a).yld i H2 x H' → T x H' N)) := by
  refine ⟨fun i m ys H => m = xs.length - i ∧ i ≤ xs.length ∧ Pv i ys H, ⟨xs.length, by simp, Nat.zero_le _, h0⟩, ?_⟩
  rintro i m ys H2 ⟨rfl, hi, p⟩
  obtain ⟨d1, d2⟩ := hD i ys H2 p
  have q := hl i ys H2 p
  refine ⟨d1, ?_⟩
  by_cases hlt : i < xs.length
  · refine .inr ⟨⟨xs, xs[i], q, by simp [hlt]⟩, by omega, fun y H3 => H3 D = some (.lst ys) ∧ Pv (i + 1) (ys ++ [y]) (upd H3 D (.lst (ys ++ [y]))), fun y H3 ⟨z1, z2⟩ => ⟨z1, xs.length - (i + 1), by omega, rfl, hlt, z2⟩, fun x H' y => ?_⟩
    obtain ⟨e, y⟩ := y
    subst e
    exact hs i x ys _ (y xs q) p
  · have e : i = xs.length := by omega
    subst e
    exact .inl ⟨⟨xs, q, Nat.le_refl _⟩, hd ys H2 p⟩
end L2
/-! my own rules over the layer: tuples known to the object: slices, the whole among them, and count -/
namespace HT
open PySem PySem.Spec PyProof.Rows
section
variable {prog : Program} {w : World} {A : Around} {E : Value → Shared → Prop} {s : Shared}
theorem getItem_tuple_all {t sl : Addr} {items : Array Value} {vl vu : Value} {lo hi : Option Int} {Q : Value → Shared → Prop} (ht : IsTup s.heap t items) (hs : s.heap.IsSliceOf sl vl vu .none) (pl : IsPart vl lo) (pu : IsPart vu hi)
    (h0 : sIx items.size 0 lo = 0) (h1 : sIx items.size items.size hi = items.size) (h : Q (.ref t) s) : wpAny (model prog w) A (getItem (.ref t) (.ref sl)) Q E s := by
  obtain ⟨os, hos, hcs, hds⟩ := id hs
  have hTs : s.TypeIs (.ref sl) "slice" := ⟨os, hos, hcs⟩
  have hT : s.TypeIs (.ref t) "tuple" := ht.typeIs
  unfold getItem
  try with_reducible refine wpAny_holding ?_
  first | refine wpAny_bind (wpAny_pure ?_) | skip
  refine wpAny_bind (wpAny_sequenceKey ht.typeIs (by decide) ?_)
  refine wpAny_bind (wpAny_callSpecial?_slot (name := Str.ofString "__getitem__") ht.typeIs PyProof.Rows.slot_tuple_getitem
    (wpAny_call_entry PyProof.Rows.slot_tuple_getitem ht.typeIs entry_tuple_getitem ?_ (args_tuple_getitem _ _)))
  show wpAny _ _ (Builtin.Tuple.tupleItemsOf (.ref t) >>= _) _ _ s
  refine wpAny_bind (tupleItemsOf_ ht ?_)
  refine wpAny_bind (wpAny_typeOf hTs ?_)
  rw [if_pos (by decide)]
  refine wpAny_bind (sliceApplied_gen hs pl pu ?_)
  have hyes : ((((sIx items.size 0 lo : Nat) : Int) == 0 && (1 : Int) == 1 && (sIx items.size items.size hi - sIx items.size 0 lo) == items.size) = true) := by
    rw [h0, h1]; simp
  show wpAny _ _ (if (((sIx items.size 0 lo : Nat) : Int) == 0 && (1 : Int) == 1 && (sIx items.size items.size hi - sIx items.size 0 lo) == items.size) = true then _ else _) _ _ s
  rw [if_pos hyes]
  first
    | exact wpAny_bind (wpAny_typeOf hT (wpAny_pure ⟨_, rfl, wpAny_pure h⟩))
    | exact wpAny_pure ⟨_, rfl, wpAny_pure h⟩
    | exact wpAny_bind (wpAny_pure ⟨_, rfl, wpAny_pure h⟩)
    | (wp_walk; exact ⟨_, rfl, wpAny_pure h⟩)
    | (wp_walk; exact ⟨_, rfl, h⟩)
end
end HT
namespace L2
open PySem PySem.Spec PyProof.Rows
/-- a tuple known to the object -/
def TupF (H : Hp) (a : Addr) (xs : List V) : Prop := ∃ o : Obj, H a = some (.frz o (.tup xs)) ∧ o.cls = .type "tuple" ∧ o.dict = none
theorem TupF.sq {K : PySem.W.Frag} {H : Hp} {a : Addr} {xs : List V} (h : TupF H a xs) : SqT K H a xs := by
  obtain ⟨o, h, _⟩ := h
  exact .inl (.inr ⟨o, h⟩)
theorem TupF.same {H H' : Hp} {a : Addr} {xs : List V} (h : TupF H a xs) (s : Same H H') : TupF H' a xs := by
  obtain ⟨o, h, c⟩ := h
  exact ⟨o, s _ _ h, c⟩
section
variable {X : Cx}
/-- tuple(xs) of a list -/
theorem call_tupleF : CallR X (.type "tuple") (fun xs H Q => ∃ p ys, xs = [.ref p] ∧ SqL X.K H p ys ∧ ∀ l H', Same H H' → TupF H' l ys → Q (.ref l) H') := by
  intro pins s σ H xs us Q I r h
  obtain ⟨p, ys, rfl, hq, q⟩ := h
  obtain ⟨u, rfl, rx⟩ := vals1 r
  cases rx
  obtain ⟨its, r', pl, hz⟩ := I.list hq
  have hlen := r'.length
  refine call_tuple_list pl.isList (fun h' kp => ?_) (by simp only [List.size_toArray] <;> omega)
  have I1 : Inv X pins σ H { s with heap := h' } := I.kept (t' := s.toks) kp
  have I2 : Inv X pins σ (upd H h'.objs.size (.frz { cls := .type "tuple", data := .seq its.toArray } (.tup ys))) { s with heap := h'.push { cls := .type "tuple", data := .seq its.toArray } } :=
    I1.laid (t' := s.toks) (fun b o e => Heap.get?_push_of_some _ e) (Nat.le_refl _) (show ObjOk X.prog X.w _ _ _ (.frz _ (.tup ys)) from ⟨Heap.get?_push_size _ rfl, hz, its, r', IsTup.new _ _⟩)
  exact ⟨.ref h'.objs.size, _, I2, rfl, q _ _ (same_new (I1.hok.fresh (Nat.le_refl _)) _) ⟨_, upd_same, rfl, rfl⟩⟩
theorem cutV_all {xs : List V} {lo hi : Option Int} (h0 : HT.sIx xs.length 0 lo = 0) (h1 : HT.sIx xs.length xs.length hi = xs.length) : cutV xs lo hi = xs := by
  unfold cutV
  rw [h0, h1, List.drop_zero, Nat.sub_zero, List.take_length]
/-- t[lo:hi], the whole too -/
theorem sl_tupF : SlR X (fun x lo hi H Q => ∃ a xs, x = .ref a ∧ TupF H a xs ∧ ∀ p H', Same H H' → TupF H' p (cutV xs lo hi) → Q (.ref p) H') := by
  intro pins s σ H x v vl vu lo hi sl Q I rx hs pl pu h
  obtain ⟨a, xs, rfl, hx, q⟩ := h
  cases rx
  obtain ⟨its, r, ht, hz⟩ := I.tuple (hx.sq (K := X.K))
  have hlen : its.toArray.size = xs.length := by rw [List.size_toArray]; exact r.length.symm
  refine ⟨"tuple", _, PyProof.Rows.slot_tuple_getitem.lookup, ht.typeIs, ?_⟩
  by_cases hw : HT.sIx xs.length 0 lo = 0 ∧ HT.sIx xs.length xs.length hi = xs.length
  · refine HT.getItem_tuple_all ht hs pl pu (by rw [hlen]; exact hw.1) (by rw [hlen]; exact hw.2) ⟨.ref a, H, I, rfl, q a H (Same.refl H) ?_⟩
    rw [cutV_all hw.1 hw.2]
    exact hx
  · refine HT.getItem_tuple_cut ht hs pl pu (by rw [hlen]; exact hw) ?_ (by rw [hlen]; exact hz)
    rw [hlen]
    refine ⟨.ref s.heap.objs.size, _, I.laid (t' := s.toks) (o := .frz { cls := .type "tuple", data := .seq ((its.toArray.toList.drop (HT.sIx xs.length 0 lo)).take (HT.sIx xs.length xs.length hi - HT.sIx xs.length 0 lo)).toArray } (.tup (cutV xs lo hi))) (fun b ob q => Heap.get?_push_of_some _ q) (Nat.le_refl _) ?_, rfl,
      q _ _ (same_new (I.hok.fresh (Nat.le_refl _)) _) ⟨_, upd_same, rfl, rfl⟩⟩
    exact ⟨Heap.get?_push_size _ rfl, Nat.le_trans (cutV_length xs lo hi) hz, _, (r.drop (HT.sIx xs.length 0 lo)).take (HT.sIx xs.length xs.length hi - HT.sIx xs.length 0 lo), IsTup.new _ _⟩
theorem countP_eqU {x : V} : ∀ {xs : List V} {us : List Value}, Vals xs us → xs.all flatV = true → us.countP (eqU x) = xs.countP fun y => eqV y x
  | _, _, .nil, _ => rfl
  | y :: xs, u :: us, .cons r t, f => by
    rw [List.all_cons, Bool.and_eq_true] at f
    rw [List.countP_cons, List.countP_cons, eqU_of r f.1, countP_eqU t f.2]
/-- t.count(x), flat things -/
theorem mt_countT : MtR X "tuple.count" (fun x xs H Q => ∃ a ys v, x = .ref a ∧ xs = [v] ∧ SqT X.K H a ys ∧ flatV v = true ∧ ys.all flatV = true ∧ Q (.int (ys.countP fun y => eqV y v : Nat)) H) := by
  intro pins s σ H x xs v us Q I rx rv h
  obtain ⟨a, ys, y, rfl, rfl, ha, f1, f2, q⟩ := h
  cases rx
  obtain ⟨u, rfl, ru⟩ := rv.one
  obtain ⟨its, r, p, hz⟩ := I.tuple ha
  obtain ⟨⟨cls, dd, data, sl⟩, ho, hc, n, hd⟩ := id p
  simp only at hc hd
  subst hc hd
  refine call_meets F.slot_tuple_count ⟨_, ho, rfl⟩ F.entry_tuple_count (F.args_tuple_count_2 _ _) (SeqAt.tuple_countAt a its.toArray n dd sl u (eqU y)) ⟨ho, fun z hz => mem_eqAt ru f1 r f2 z (by simpa using hz), ?_⟩
  refine ⟨.int (ys.countP fun y' => eqV y' y : Nat), H, I.tok _, ?_, q⟩
  rw [← countP_eqU r f2]
  exact ⟨_, rfl⟩
def tBMF (T : String) (r : V → List V → Hp → VK → Prop) (to : TE) (t : TA) : TE := fun σ H Q => to σ H fun x H1 => (∃ a o u, x = .ref a ∧ H1 a = some (.frz o u) ∧ o.cls = .type T ∧ o.dict = none) ∧ t σ H1 fun xs H2 => r x xs H2 Q
variable {o e : Expr} {es : List Expr} {to : TE} {t : TA} {name : Str} {apos cpos : Pos} {T id : String} {r : V → List V → Hp → VK → Prop}
/-- a method of a thing known to the object -/
theorem pe_bmF (pa : PlainAttrs T) (slot : Slot T name id) (hty : typeOf (.builtin id) = pure (.type "method_descriptor")) (hm : MtR X id r) (ho : PE X o to) (ha : PA X (e :: es) t)
    (hbase : attributeBase o name X.env (eval o X.env) = eval o X.env := by rfl)
    (hfew : ((backTo cpos (starEach (e :: es) X.env)).all (fun x => !x.1) && (backToKw cpos (keywordEach [] X.env)).all (fun x => x.1.isSome)
      && decide ((e :: es).length + ([] : List Keyword).length + (if ([] : List Keyword).isEmpty then 0 else 1) < 30)) = true := by rfl)
    (hline : (apos.endLine == cpos.line) = true := by rfl) (hs : starEach (e :: es) X.env = (false, eval e X.env) :: starEach es X.env := by rfl) (hplain : (backTo cpos (starEach es X.env)).any (·.1) = false := by rfl) :
    PE X (.Call (.Attribute o name apos) (e :: es) [] cpos) (tBMF T r to t) := by
  intro pins s σ H Q I h
  refine wpAny_Call_method_late hbase hfew hline rfl (thn (ho pins s σ H _ I h) fun v s1 ⟨x, H1, I1, r1, ty, q1⟩ => ?_)
  obtain ⟨a, ob, u, rfl, hH, hc, hd⟩ := ty
  cases r1
  obtain ⟨hg, _⟩ := I1.hok a _ hH
  refine ⟨T, id, pa, slot, hty, ⟨ob, hg, hc⟩, fun b eb => ?_, ?_⟩
  · cases eb
    exact ⟨ob, hg, hd⟩
  have hA := ha cpos pins s1 σ H1 _ I1 q1
  rw [hs] at hA ⊢
  refine Calls.callWith_builtin (by show (false || (backTo cpos (starEach es X.env)).any (·.1)) = false; rw [hplain] <;> rfl) (Calls.evalArgs_plain ?_)
  exact thn hA fun us s2 ⟨vs, H2, I2, r2, q2⟩ => hm pins s2 σ H2 (.ref a) vs (.ref a) us Q I2 rfl r2 q2
end
end L2
/-! my own rules over the layer: all(..) of a list of truths, xs != ys of lists of ints -/
namespace L2
open PySem PySem.Spec PyProof.Rows
section
variable {X : Cx}
end
end L2
/-! my own rules over the layer: a list comprehension with one test -/
namespace L2
open PySem PySem.Spec PyProof.Rows
/-- the reading: as tComp's, and what passes the test alone is kept -/
def tCompIf (wi : TI) (tt : TT) (te : TE) (fr : List Nat) : TE := fun σ H Q => wi σ H fun J H1 => ∀ D, H1 D = none → ∃ W : Nat → Nat → List V → Hp → Prop, (∃ m, W 0 m [] (upd H1 D (.lst []))) ∧
  ∀ i m ys H2, W i m ys H2 → H2 D = some (.lst ys) ∧ ((J.stop i H2 ∧ Q (.ref D) H2) ∨ (J.go i H2 ∧ ys.length < sizeLine ∧ ∃ N : V → Hp → Prop, (∀ y H3, N y H3 → H3 D = some (.lst ys) ∧ ∃ m', m' < m ∧ W (i + 1) m' (ys ++ [y]) (upd H3 D (.lst (ys ++ [y])))) ∧
    ∀ x H', J.yld i H2 x H' → tt (some x :: fr.map fun j => (σ[j]?).getD none) H' fun b H3 => if b = true then te (some x :: fr.map fun j => (σ[j]?).getD none) H3 N else ∃ m', m' < m ∧ W (i + 1) m' ys H3))
section
variable {prog : Program} {w : World} {A : Around} {R : Result → Shared → Prop} {s : Shared}
abbrev nbOf (prog : Program) (w : World) (A : Around) (env : Env) (R : Result → Shared → Prop) : Value → Shared → Prop := notedBy (model prog w) A env fun e s' => R (.error e) s'
theorem compLoop_if {elt target iter cc : Expr} {scope : Scope} {pos : Pos} {it acc : Value} {env : Env} (I : Nat → Shared → Prop)
    (turn : ∀ n s, I n s → wpAny (model prog w) A (pyNext it) (fun r s₁ => match r with
      | none => R (.ok .next) s₁
      | some v => wpAny (model prog w) A (letOwnedTupleGo target it v) (fun _ s₁' => wpAny (model prog w) A (assign target env v) (fun _ s₂ => wpAny (model prog w) A (isTrue cc env (eval cc env)) (fun okb s₂' => if okb = true then
          wpAny (model prog w) A (eval elt env) (fun x s₃ => wpAny (model prog w) A (call (.builtin "list.append") [acc, x]) (fun _ s₄ => ∃ m, m < n ∧ I m s₄) (nbOf prog w A env R) s₃) (nbOf prog w A env R) s₂'
          else ∃ m, m < n ∧ I m s₂') (nbOf prog w A env R) s₂) (nbOf prog w A env R) s₁') (nbOf prog w A env R) s₁) (nbOf prog w A env R) s)
    (n : Nat) (h : I n s) :
    codeAny (model prog w) A (.compLoop (.ListComp elt [⟨target, iter, [cc], 0⟩] scope pos) 0 it acc env) R s := by
  refine codeAny_loop rfl I (fun n s hI => ?_) n h
  show wpAny _ _ ((compTurn (.ListComp elt [⟨target, iter, [cc], 0⟩] scope pos) 0 it acc env).onRaise (fun x => do noteFrame x env; theTreesLotGoes x)) _ _ s
  refine wpAny_noted ?_
  rw [compTurn_list]
  refine wpAny_bind (wpAny_standAt (wpAny_bind (wpAny_mono (turn n s hI) (fun r s₁ h₁ => ?_) fun _ _ h' => h')))
  cases r with
  | none => exact wpAny_pure h₁
  | some v =>
    refine wpAny_bind (wpAny_mono h₁ (fun _ s₁' h₁' => wpAny_bind (wpAny_mono h₁' (fun _ s₂ h₂ => wpAny_bind (wpAny_tests_one (wpAny_mono h₂ (fun okb s₂' h₂' => ?_) fun _ _ h' => h'))) fun _ _ h' => h')) fun _ _ h' => h')
    cases okb with
    | false => exact wpAny_pure ⟨rfl, h₂'⟩
    | true => exact wpAny_bind (wpAny_bind (wpAny_mono h₂' (fun x s₃ h₃ => wpAny_bind (wpAny_mono h₃ (fun _ s₄ h₄ => wpAny_pure (wpAny_pure ⟨rfl, h₄⟩)) fun _ _ h' => h')) fun _ _ h' => h'))
end
theorem comp_coreIf {X : Cx} {elt iter cc : Expr} {x : Str} {px pos : Pos} {scope sc0 : Scope} {cl : List (Str × Addr)} {cn N : List Str} {fr : List Nat} {tt : TT} {te : TE} {pins : List (Addr × Obj)} {σ : St} {H2 : Hp} {s2 : Shared} {it : Addr} {fp : List Addr}
    {tn : Nat → Heap → Prop} {J : It} {RR : Value → Addr → Result → Shared → Prop} {R : Hp → Prop} {E : Value → Shared → Prop} {W : Nat → Nat → List V → Hp → Prop} {m0 : Nat}
    (hc : X.calm = true) (he : ∀ (C : Addr) (s₂ : Shared) (H₂ : Hp) (fp : List Addr), PE (compCx X scope cl C x N s₂ H₂ fp) elt te) (hct : ∀ (C : Addr) (s₂ : Shared) (H₂ : Hp) (fp : List Addr), PT (compCx X scope cl C x N s₂ H₂ fp) cc tt)
    (hcl : CellsIn X.env cl) (hcn : cl.map (·.1) = cn) (hsc : X.env.scope = sc0) (hk : scope.kind = .function) (hok : CompOk scope sc0 x N cn) (hfr : fr.map (fun j => X.N[j]?) = N.map some)
    (I2 : Inv X pins σ H2 s2) (T : Turn X.prog X.w X.K (.Name x px) J fp it tn) (st2 : tn 0 s2.heap) (f2 : ∀ b ∈ fp, FpOk X pins H2 b)
    (w0 : W 0 m0 [] (upd H2 s2.heap.objs.size (.lst [])))
    (turn : ∀ i m ys H, W i m ys H → H s2.heap.objs.size = some (.lst ys) ∧ ((J.stop i H ∧ R H) ∨ (J.go i H ∧ ys.length < sizeLine ∧ ∃ N : V → Hp → Prop,
      (∀ y H3, N y H3 → H3 s2.heap.objs.size = some (.lst ys) ∧ ∃ m', m' < m ∧ W (i + 1) m' (ys ++ [y]) (upd H3 s2.heap.objs.size (.lst (ys ++ [y])))) ∧
      ∀ x H', J.yld i H x H' → tt (some x :: fr.map fun j => (σ[j]?).getD none) H' fun b H3 => if b = true then te (some x :: fr.map fun j => (σ[j]?).getD none) H3 N else ∃ m', m' < m ∧ W (i + 1) m' ys H3)))
    (hRR : ∀ (C : Addr) (H6 : Hp) (s6 : Shared) (m6 : Str → Option Value), s6.heap.Ns C m6 → Inv X pins σ H6 s6 → FpOk X pins H6 C → R H6 → RR (.ref s2.heap.objs.size) C (.ok .next) s6) :
    wpAny (model X.prog X.w) X.A (newList []) (fun acc s₃ => wpAny (model X.prog X.w) X.A (newFunctionEnv scope X.env.globals cl [] X.env.qual none .none (some X.env)) (fun cenv s₄ =>
      codeAny (model X.prog X.w) X.A (.compStart (.ListComp elt [⟨.Name x px, iter, [cc], 0⟩] scope pos) 0 (.ref it) acc { cenv with scope := relabel scope X.env }) (RR acc cenv.locals) s₄) E s₃) E s2 := by
  refine wpAny_newObj_type (wpAny_newFunctionEnv hok.nc (by intro y hy; simp at hy) (fun h4 hns hsb => ?_) hk)
  dsimp only at hns hsb ⊢
  have rel : ∀ y, (compEnvC scope cl 0 X.env).scope.names.lookup y = (relN scope sc0).lookup y := fun y => by
    show (relabel scope X.env).names.lookup y = _
    unfold relabel relN Env.kindOf
    rw [hsc]
  generalize hD : s2.heap.objs.size = D at *
  have I3 : Inv X pins σ (upd H2 D (.lst [])) { s2 with heap := s2.heap.push { cls := .type "list", dict := none, data := .seq ([] : List Value).toArray } } :=
    I2.laid (t' := s2.toks) (fun b u e => Heap.get?_push_of_some _ e) (Nat.le_of_eq hD) ⟨Nat.zero_le _, [], 0, .nil, by rw [← hD]; exact Heap.get?_push_size _ rfl⟩
  have k23 : ∀ b u, s2.heap.get? b = some u → (s2.heap.push { cls := .type "list", dict := none, data := .seq ([] : List Value).toArray }).get? b = some u := fun b u e => Heap.get?_push_of_some _ e
  have hsz : s2.heap.objs.size ≤ (s2.heap.push { cls := .type "list", dict := none, data := .seq ([] : List Value).toArray }).objs.size := by rw [Heap.size_push]; exact Nat.le_succ _
  generalize hh3 : s2.heap.push { cls := .type "list", dict := none, data := .seq ([] : List Value).toArray } = h3 at *
  have k34 : ∀ b u, h3.get? b = some u → h4.get? b = some u := fun b u e => (hsb.2 b (Nat.ne_of_lt (Heap.lt_size e))).trans (Heap.get?_push_of_some _ e)
  generalize hC : h3.objs.size = C at *
  have I4 : Inv X pins σ (upd H2 D (.lst [])) { s2 with heap := h4, toks := s2.toks + ([] : List (Str × Value)).length } := I3.kept (t' := s2.toks + 0) k34
  generalize hH3 : upd H2 D (.lst []) = H3 at *
  have ltC : ∀ b o, s2.heap.get? b = some o → b < C := fun b o e => Nat.lt_of_lt_of_le (Heap.lt_size e) hsz
  have lenF : fr.length = N.length := by simpa using congrArg List.length hfr
  have fpo : ∀ b ∈ fp, b ≠ C ∧ b ∉ frs X.stack := fun b hb => by
    obtain ⟨o, e, _⟩ := T.obj 0 s2.heap st2 b hb
    refine ⟨Nat.ne_of_lt (ltC b o e), fun z => ?_⟩
    obtain ⟨_, n1, n2, _⟩ := f2 b hb
    rcases List.mem_cons.mp (I2.stkSub b z) with q | q
    · exact n1 q
    · exact n2 q
  have H3C : H3 C = none := I3.hok.fresh (Nat.le_of_eq hC)
  have okX : (compCx X scope cl C x N { s2 with heap := h3 } H3 fp).Ok := by
    refine ⟨I2.ok.mod, hk, I2.ok.glob, I2.ok.blt, Nat.le_of_eq hC, fun y z c e1 e2 => I2.ok.inj y z c (hcl.look e1) (hcl.look e2), fun y hy => ?_, fun y c z => (Bool.false_ne_true z).elim, fun z => I2.ok.hd z, I2.ok.frames, .inl rfl,
      fun b hb => ⟨(fpo b hb).1, fun y c e => (f2 b hb).2.2.2.2.1 y c (hcl.look e)⟩, fun b o e => I3.bs b o e, Nat.le_trans I2.ok.bsz I3.sz, fun b o e hb => ?_, fun b hb => (fpo b hb).2, I3.stack, I3.stkFree⟩
    · have hy' : (relN scope sc0).lookup y = some .cell ∨ (relN scope sc0).lookup y = some .free := by
        rcases hy with hy | hy
        · exact .inl ((rel y).symm.trans hy)
        · exact .inr ((rel y).symm.trans hy)
      have hm : y ∈ cn := by
        rcases hy' with q | q
        · exact hok.has (y, .cell) (lookup_mem q) (.inl rfl)
        · exact hok.has (y, .free) (lookup_mem q) (.inr rfl)
      exact look_of_mem (cl := cl) (n := y) (by rw [hcn]; exact hm)
    · rcases (f2 b hb).2.2.2.1 with z | z
      · exact I2.ok.noex b o e z
      · exact absurd (Nat.lt_of_lt_of_le (Heap.lt_size e) (Nat.le_trans I2.ok.bsz z)) (Nat.lt_irrefl _)
  have I5 : Inv (compCx X scope cl C x N { s2 with heap := h3 } H3 fp) [] (none :: fr.map fun j => (σ[j]?).getD none) H3 { s2 with heap := h4, toks := s2.toks + ([] : List (Str × Value)).length } := by
    refine ⟨okX, rfl, I4.bare, Un.kept k34, ⟨_, hns, fun i y v e1 e2 e3 => ?_⟩, fun y c e => I4.cell y c (hcl.look e), H3C, fun y c e => I4.freeC y c (hcl.look e), fun p hp => absurd (show p ∈ ([] : List (Addr × Obj)) from hp) (by simp), I4.hok, by simp [compCx, lenF]⟩
    cases i with
    | zero => cases e2
    | succ j =>
      have e1' : N[j]? = some y := e1
      have e2' : (fr.map fun j => (σ[j]?).getD none)[j]? = some (some v) := e2
      obtain ⟨k, ek⟩ : ∃ k, fr[j]? = some k := by
        have : j < fr.length := by rw [lenF]; exact (List.getElem?_eq_some_iff.mp e1').1
        exact ⟨fr[j], List.getElem?_eq_getElem this⟩
      rw [List.getElem?_map, ek] at e2'
      have e2'' : (σ[k]?).getD none = some v := Option.some.inj e2'
      have eσ : σ[k]? = some (some v) := by
        cases q : σ[k]? with
        | none => rw [q] at e2''; cases e2''
        | some o => rw [q] at e2''; exact congrArg some e2''
      have eN : X.N[k]? = some y := by
        have z := congrArg (fun l => l[j]?) hfr
        simp only [List.getElem?_map, ek, e1', Option.map_some] at z
        exact Option.some.inj z
      obtain ⟨r1, r2, r3⟩ := hok.frs y (List.mem_of_getElem? e1')
      obtain ⟨m, _, hl⟩ := I4.loc
      obtain ⟨u, ru, look⟩ := hl k y v eN eσ (.inr (.inl (by rw [hsc]; exact r2)))
      refine ⟨u, ru, .inr ⟨.inl ((rel y).trans r1), ?_⟩⟩
      rcases look with ⟨l1, _⟩ | ⟨_, c, l1, l2⟩
      · exfalso
        have l1' : X.env.scope.names.lookup y = some .local := l1
        rw [hsc, r2] at l1'
        cases l1'
      · obtain ⟨c', l3⟩ := look_of_mem (cl := cl) (n := y) (by rw [hcn]; exact r3)
        have l4 := hcl.look l3
        rw [l1] at l4
        cases l4
        exact ⟨c, l3, l2⟩
  have st4 : tn 0 h4 := T.keep 0 s2.heap h4 st2 fun b hb o e => k34 b o (k23 b o e)
  have fp5 : ∀ {H' : Hp}, (∀ b ∈ fp, H' b = none) → ∀ b ∈ fp, FpOk (compCx X scope cl C x N { s2 with heap := h3 } H3 fp) [] H' b := fun hn b hb =>
    ⟨hn b hb, (fpo b hb).1, (fpo b hb).2, .inl hb, fun y c e => (f2 b hb).2.2.2.2.1 y c (hcl.look e), fun p hp => absurd (show p ∈ ([] : List (Addr × Obj)) from hp) (by simp)⟩
  have fr3 : ∀ b ∈ fp, H3 b = none := fun b hb => by
    obtain ⟨o, e, _⟩ := T.obj 0 s2.heap st2 b hb
    have : b ≠ D := Nat.ne_of_lt (hD ▸ Heap.lt_size e)
    rw [← hH3, upd_ne this]
    exact (f2 b hb).1
  have hx' : Loc (compCx X scope cl C x N { s2 with heap := h3 } H3 fp).env.scope x := .inl ((rel x).trans hok.hx')
  have fin : ∀ (H6 : Hp) (s6 : Shared) (σ6 : St), Inv (compCx X scope cl C x N { s2 with heap := h3 } H3 fp) [] σ6 H6 s6 → Inv X pins σ H6 s6 ∧ FpOk X pins H6 C := by
    intro H6 s6 σ6 I6
    refine ⟨I3.call' (s' := s6) (ch := fp) I6.os ⟨I6.base.keep, I6.base.slot, I6.base.free, I6.base.there, I6.base.tups, I6.base.frzs, I6.base.tbls⟩ I6.hok I6.bare (fun b hb => ?_), I3.fpOk (Nat.le_of_eq hC) I6.free⟩
    obtain ⟨_, n1, _, n3, n4, n5⟩ := f2 b hb
    exact ⟨n3, n1, n4, n5⟩
  have loop : codeAny (model X.prog X.w) X.A (.compLoop (.ListComp elt [⟨.Name x px, iter, [cc], 0⟩] scope pos) 0 (.ref it) (.ref D) (compEnvC scope cl C X.env))
      (RR (.ref D) C) { s2 with heap := h4, toks := s2.toks + ([] : List (Str × Value)).length } := by
    refine compLoop_if (fun n s' => ∃ i v0 ys H', Inv (compCx X scope cl C x N { s2 with heap := h3 } H3 fp) [] (v0 :: fr.map fun j => (σ[j]?).getD none) H' s' ∧ tn i s'.heap ∧ (∀ b ∈ fp, H' b = none) ∧ W i n ys H') ?_ m0
      ⟨0, none, [], H3, I5, st4, fr3, w0⟩
    rintro n s6 ⟨i, v0, ys, H6, I6, st6, fr6, w6⟩
    obtain ⟨hDl, hw⟩ := turn i n ys H6 w6
    rcases hw with ⟨stop, qn⟩ | ⟨go, hlen, N', hN', step⟩
    · refine thn (T.done (compCx X scope cl C x N { s2 with heap := h3 } H3 fp) rfl rfl rfl hc i [] s6 _ H6 _ I6 (fp5 fr6) st6 stop) fun r s7 ⟨hr, I7⟩ => ?_
      subst hr
      obtain ⟨m7, hn7, _⟩ := I7.loc
      obtain ⟨J7, F7⟩ := fin H6 s7 _ I7
      exact hRR C H6 s7 m7 hn7 J7 F7 qn
    · refine thn (T.item (compCx X scope cl C x N { s2 with heap := h3 } H3 fp) rfl rfl rfl hc i [] s6 _ H6 _ I6 (fp5 fr6) st6 go) fun r s7 ⟨u, hr, h7⟩ => ?_
      subst hr
      refine thn h7 fun _ s8 ⟨x8, H8, I8, r8, y8, st8, fr8⟩ => ?_
      have I8' := I8.pinned (fp5 fr8) (T.obj _ _ st8)
      refine wpAny_assign_Name (store_ok (i := 0) I8' hok.nd rfl hx' r8 (fun s9 I9 => ?_) (.inr ((rel x).trans hok.hx')))
      have I9' : Inv (compCx X scope cl C x N { s2 with heap := h3 } H3 fp) ([] ++ pinsAt fp s8.heap) (some x8 :: fr.map fun j => (σ[j]?).getD none) H8 s9 := I9
      refine wpAny_mono (hct C { s2 with heap := h3 } H3 fp _ s9 _ H8 _ I9' (step x8 H8 y8)) (fun okb s9b h9b => ?_) fun _ _ z => False.elim z
      obtain ⟨H9, I9b, n9⟩ := h9b
      cases okb with
      | false =>
        rw [if_neg Bool.false_ne_true] at n9 ⊢
        obtain ⟨m', hm, w9⟩ := n9
        refine ⟨m', hm, i + 1, some x8, ys, _, I9b.unpinned, T.keep _ _ _ st8 fun b hb o e => (I9b.pin (b, o) (List.mem_append_right _ (List.mem_append_right _ (mem_pinsAt hb e)))).1, fun b hb => ?_, w9⟩
        obtain ⟨o, e, d⟩ := T.obj _ _ st8 b hb
        exact (I9b.pin (b, o) (List.mem_append_right _ (List.mem_append_right _ (mem_pinsAt hb e)))).2.1
      | true =>
        rw [if_pos rfl] at n9 ⊢
        refine wpAny_mono (he C { s2 with heap := h3 } H3 fp _ s9b _ H9 _ I9b n9) (fun y s10 h10 => ?_) fun _ _ z => False.elim z
        obtain ⟨y10, H10, I10, r10, n10⟩ := h10
        obtain ⟨hD10, m', hm, w10⟩ := hN' y10 H10 n10
        refine wpAny_mono (mt_append (X := compCx X scope cl C x N { s2 with heap := h3 } H3 fp) _ s10 _ H10 (.ref D) [y10] (.ref D) [y] (fun _ H' => H' = upd H10 D (.lst (ys ++ [y10]))) I10 rfl (.cons r10 .nil) ⟨D, ys, y10, rfl, rfl, hD10, hlen, rfl⟩) (fun _ s11 h11 => ?_) fun _ _ z => False.elim z
        obtain ⟨_, H11, I11, _, e11⟩ := h11
        subst e11
        refine ⟨m', hm, i + 1, some x8, ys ++ [y10], _, I11.unpinned, T.keep _ _ _ st8 fun b hb o e => (I11.pin (b, o) (List.mem_append_right _ (List.mem_append_right _ (mem_pinsAt hb e)))).1, fun b hb => ?_, w10⟩
        obtain ⟨o, e, d⟩ := T.obj _ _ st8 b hb
        exact (I11.pin (b, o) (List.mem_append_right _ (List.mem_append_right _ (mem_pinsAt hb e)))).2.1
  exact codeAny_compStart_list loop (T.self _ 0 _ _ _ st4 loop)

theorem pe_compIf {X : Cx} {elt iter cc : Expr} {x : Str} {px pos : Pos} {scope sc0 : Scope} {cl : List (Str × Addr)} {cn N : List Str} {fr : List Nat} {wi : TI} {tt : TT} {te : TE}
    (hc : X.calm = true) (hi : PI X (.Name x px) iter wi) (he : ∀ (C : Addr) (s₂ : Shared) (H₂ : Hp) (fp : List Addr), PE (compCx X scope cl C x N s₂ H₂ fp) elt te) (hct : ∀ (C : Addr) (s₂ : Shared) (H₂ : Hp) (fp : List Addr), PT (compCx X scope cl C x N s₂ H₂ fp) cc tt)
    (hclos : closureFor scope X.env = pure cl) (hcl : CellsIn X.env cl) (hcn : cl.map (·.1) = cn) (hsc : X.env.scope = sc0) (hk : scope.kind = .function) (hok : CompOk scope sc0 x N cn)
    (hfr : fr.map (fun j => X.N[j]?) = N.map some) (hs : ∀ v, foldedSetIterable iter X.env v = pure v := by intro _; rfl) :
    PE X (.ListComp elt [⟨.Name x px, iter, [cc], 0⟩] scope pos) (tCompIf wi tt te fr) := by
  intro pins s σ H Q I h
  rw [eval_ListComp]
  refine wpAny_comprehension_free (use := none) rfl hs hclos hk hok.names (thn (hi pins s σ H _ I h) fun v s1 h1 => thn h1 fun itv s2 h2 => ?_)
  obtain ⟨it, fp, tn, J, H2, e, I2, T, st2, f2, hq⟩ := h2
  subst e
  obtain ⟨W, ⟨m0, w0⟩, turn⟩ := hq s2.heap.objs.size (I2.hok.fresh (Nat.le_refl _))
  exact comp_coreIf (RR := fun acc C => compPost (model X.prog X.w) X.A X.xe none (EP X pins σ Q) acc C) (R := fun H6 => Q (.ref s2.heap.objs.size) H6) hc he hct hcl hcn hsc hk hok hfr I2 T st2 f2 w0 turn
    fun C H6 s6 m6 hn I6 F6 q => ⟨m6, hn, fun h' sb => ⟨.ref s2.heap.objs.size, H6, I6.let_go F6 sb, rfl, q⟩⟩
/-- y = [.. for x in ..], straight to a local name -/
def tSetCompIf (i : Nat) (wi : TI) (tt : TT) (te : TE) (fr : List Nat) : TS := fun D σ H => tCompIf wi tt te fr σ H fun v H1 => D.nx (σ.set i (some v)) H1
/-- gone through a list of ints, those kept that pass, each told by g -/
theorem compIf_list {K : PySem.W.Frag} {a : Addr} {xs : List V} {p : V → Bool} {g : V → V} {Tt : V → Hp → (Bool → Hp → Prop) → Prop} {Te : V → Hp → (V → Hp → Prop) → Prop} {D : Addr} {H1 : Hp} {R : Hp → Prop}
    (ha : SqL K H1 a xs) (hD : H1 D = none) (hn : xs.length ≤ sizeLine) (hT : ∀ x ∈ xs, ∀ (H : Hp) (Q : Bool → Hp → Prop), Same H1 H → Q (p x) H → Tt x H Q) (hE : ∀ x ∈ xs, p x = true → ∀ (H : Hp) (Q : V → Hp → Prop), Same H1 H → Q (g x) H → Te x H Q)
    (hR : R (upd H1 D (.lst ((xs.filter p).map g)))) :
    ∃ W : Nat → Nat → List V → Hp → Prop, (∃ m, W 0 m [] (upd H1 D (.lst []))) ∧
      ∀ i m ys H2, W i m ys H2 → H2 D = some (.lst ys) ∧ (((Itl K a).stop i H2 ∧ R H2) ∨ ((Itl K a).go i H2 ∧ ys.length < sizeLine ∧ ∃ N : V → Hp → Prop, (∀ y H3, N y H3 → H3 D = some (.lst ys) ∧ ∃ m', m' < m ∧ W (i + 1) m' (ys ++ [y]) (upd H3 D (.lst (ys ++ [y])))) ∧
        ∀ x H', (Itl K a).yld i H2 x H' → Tt x H' fun b H3 => if b = true then Te x H3 N else ∃ m', m' < m ∧ W (i + 1) m' ys H3)) := by
  refine ⟨fun i m ys H => m = xs.length - i ∧ i ≤ xs.length ∧ ys = ((xs.take i).filter p).map g ∧ H = upd H1 D (.lst ys), ⟨xs.length, by simp, Nat.zero_le _, by simp, rfl⟩, ?_⟩
  rintro i m ys H2 ⟨rfl, hi, hy, rfl⟩
  have sm : Same H1 (upd H1 D (.lst ys)) := same_new hD _
  have q := sm.seq ha
  have hyl : ys.length ≤ i := by
    rw [hy, List.length_map]
    exact Nat.le_trans (List.length_filter_le _ _) (by rw [List.length_take]; exact Nat.min_le_left _ _)
  refine ⟨upd_same, ?_⟩
  by_cases hlt : i < xs.length
  · refine .inr ⟨⟨xs, xs[i], q, by simp [hlt]⟩, by omega, fun y H3 => H3 = upd H1 D (.lst ys) ∧ y = g xs[i] ∧ p xs[i] = true, fun y H3 ⟨z1, z2, z3⟩ => ⟨by rw [z1]; exact upd_same, xs.length - (i + 1), by omega, rfl, hlt, ?eq, by rw [z1, upd_upd]⟩, fun x H' y => ?st⟩
    case eq =>
      rw [List.take_succ_eq_append_getElem hlt, List.filter_append, List.map_append, ← hy, z2]
      simp [z3]
    case st =>
      obtain ⟨e, y⟩ := y
      subst e
      have hx : xs[i]? = some x := y xs q
      have hx' : xs[i] = x := by simpa [hlt] using hx
      have hm : x ∈ xs := by rw [← hx']; exact List.getElem_mem hlt
      refine hT x hm _ _ sm ?_
      by_cases hp : p x = true
      · rw [if_pos hp]
        exact hE x hm hp _ _ sm ⟨rfl, by rw [hx'], by rw [hx']; exact hp⟩
      · rw [if_neg hp]
        refine ⟨xs.length - (i + 1), by omega, rfl, hlt, ?_, rfl⟩
        rw [List.take_succ_eq_append_getElem hlt, List.filter_append, List.map_append, ← hy, hx']
        simp [hp]
  · have e : i = xs.length := by omega
    subst e
    refine .inl ⟨⟨xs, q, Nat.le_refl _⟩, ?_⟩
    rw [hy, List.take_length]
    exact hR
end L2
/-! my own rules over the layer: a def that calls itself; gone through by a map; sorted ints; xs[::-1]; trees of tuples -/
namespace L2
open PySem PySem.Spec PyProof.Rows
section
variable {P : Program} {w : World} {K : PySem.W.Frag} {mg : Str → Option Value} {base : Heap}
/-- what the call below promises: nothing at 0 -/
def prevSp (sp : Nat → Sp) : Nat → Sp
  | 0 => fun _ _ _ _ => False
  | e + 1 => sp e
/-- a def that calls itself, by a measure -/
theorem Def.recur {sp : Nat → Sp} {x : Str} {st : Stmt} {ps : List Str} (d : Def K mg x st ps) {k : Nat} (n : Nat)
    (step : ∀ e, e ≤ n → Cal P w K mg base (e + k) x ps (prevSp sp e) → ∀ (f : Addr) (fd : FuncData), Fun K x x st f fd → FnOk P w K mg base CX0 (e + (k + 1)) f fd ps (sp e)) :
    Cal P w K mg base (n + (k + 1)) x ps (fun vs H Q E => ∃ e, e ≤ n ∧ sp e vs H Q E) := by
  obtain ⟨f, fd, h1, h2, h3⟩ := d.ex
  have all : ∀ e, e ≤ n → FnOk P w K mg base CX0 (e + (k + 1)) f fd ps (sp e) := by
    intro e
    induction e with
    | zero => exact fun he => step 0 he ⟨f, fd, ⟨fun _ _ _ _ h => h.elim, fun _ _ _ _ _ _ _ _ _ _ _ _ _ h => h.elim⟩, .all h2, h1.kp, h3⟩ f fd h1
    | succ e ih => exact fun he => step (e + 1) he ⟨f, fd, (ih (by omega)).mono (by omega), .all h2, h1.kp, h3⟩ f fd h1
  refine ⟨f, fd, ⟨?_, ?_⟩, .all h2, h1.kp, h3⟩
  · rintro vs H Q E ⟨e, he, h⟩
    exact (all e he).len vs H Q E h
  · rintro A outer s H args us vs Q E hr he hb hv ⟨e, hle, h⟩
    exact (all e hle).run A outer s H args us vs Q E (hr.mono (by omega)) he hb hv h
end
/-- gone through a list, each told by g -/
theorem comp_listM {K : PySem.W.Frag} {a : Addr} {xs : List V} {g : V → V} {Te : V → Hp → (V → Hp → Prop) → Prop} {D : Addr} {H1 : Hp} {R : Hp → Prop}
    (ha : SqL K H1 a xs) (hD : H1 D = none) (hn : xs.length ≤ sizeLine) (hE : ∀ x ∈ xs, ∀ (H : Hp) (Q : V → Hp → Prop), Same H1 H → Q (g x) H → Te x H Q) (hR : R (upd H1 D (.lst (xs.map g)))) :
    ∃ W : Nat → Nat → List V → Hp → Prop, (∃ m, W 0 m [] (upd H1 D (.lst []))) ∧
      ∀ i m ys H2, W i m ys H2 → H2 D = some (.lst ys) ∧ (((Itl K a).stop i H2 ∧ R H2) ∨ ((Itl K a).go i H2 ∧ ys.length < sizeLine ∧ ∃ N : V → Hp → Prop, (∀ y H3, N y H3 → H3 D = some (.lst ys) ∧ ∃ m', m' < m ∧ W (i + 1) m' (ys ++ [y]) (upd H3 D (.lst (ys ++ [y])))) ∧
        ∀ x H', (Itl K a).yld i H2 x H' → Te x H' N)) := by
  refine ⟨fun i m ys H => m = xs.length - i ∧ i ≤ xs.length ∧ ys = (xs.take i).map g ∧ H = upd H1 D (.lst ys), ⟨xs.length, by simp, Nat.zero_le _, by simp, rfl⟩, ?_⟩
  rintro i m ys H2 ⟨rfl, hi, hy, rfl⟩
  have sm : Same H1 (upd H1 D (.lst ys)) := same_new hD _
  have q := sm.seq ha
  have hyl : ys.length ≤ i := by
    rw [hy, List.length_map, List.length_take]; exact Nat.min_le_left _ _
  refine ⟨upd_same, ?_⟩
  by_cases hlt : i < xs.length
  · refine .inr ⟨⟨xs, xs[i], q, by simp [hlt]⟩, by omega, fun y H3 => H3 = upd H1 D (.lst ys) ∧ y = g xs[i], fun y H3 ⟨z1, z2⟩ => ⟨by rw [z1]; exact upd_same, xs.length - (i + 1), by omega, rfl, hlt, ?eq, by rw [z1, upd_upd]⟩, fun x H' y => ?st⟩
    case eq =>
      rw [List.take_succ_eq_append_getElem hlt, List.map_append, ← hy, z2]
      rfl
    case st =>
      obtain ⟨e, y⟩ := y
      subst e
      have hx : xs[i]? = some x := y xs q
      have hx' : xs[i] = x := by simpa [hlt] using hx
      have hm : x ∈ xs := by rw [← hx']; exact List.getElem_mem hlt
      exact hE x hm _ _ sm ⟨rfl, by rw [hx']⟩
  · have e : i = xs.length := by omega
    subst e
    refine .inl ⟨⟨xs, q, Nat.le_refl _⟩, ?_⟩
    rw [hy, List.take_length]
    exact hR
section
variable {X : Cx}
/-- xs == ys of two lists of ints -/
theorem op_eqL (hu : X.A.units + 64 < cLine) : OpR X (compareOp .Eq) (fun x y H Q => ∃ (a b : Addr) (ns ms : List Int), x = .ref a ∧ y = .ref b ∧ SqL X.K H a (ns.map V.int) ∧ SqL X.K H b (ms.map V.int) ∧ Q (.bl (decide (ns = ms))) H) := by
  intro pins s σ H x y v u Q I rx ry h
  obtain ⟨a, b, ns, ms, rfl, rfl, ha, hb, q⟩ := h
  cases rx
  cases ry
  obtain ⟨its, r1, p1, _⟩ := I.list ha
  obtain ⟨its2, r2, p2, _⟩ := I.list hb
  exact PySem.W.ke_eq_ints p1.isList p2.isList (intsAre_of r1) (intsAre_of r2) hu ⟨.bl _, H, I, rfl, q⟩
/-- sorted(xs), fewer than 64 ints -/
theorem call_sortedI : CallR X (.builtin "sorted") (fun xs H Q => ∃ (p : Addr) (ns : List Int), xs = [.ref p] ∧ SqL X.K H p (ns.map V.int) ∧ ns.length < 64 ∧ ∀ (l : Addr) (ms : List Int), H l = none → ms.Perm ns → ms.Pairwise (· ≤ ·) → Q (.ref l) (upd H l (.lst (ms.map V.int)))) := by
  intro pins s σ H xs us Q I r h
  obtain ⟨p, ns, rfl, hq, h64, q⟩ := h
  obtain ⟨u, rfl, rx⟩ := vals1 r
  cases rx
  obtain ⟨its, r', pl, hz⟩ := I.list hq
  have hl := r'.length
  rw [List.length_map] at hl hz
  refine PyProof.Rows.sorted_ints pl.isList (intsAre_of r') (by omega) fun out ms a1 a2 a3 => ?_
  obtain ⟨e, he⟩ := PyProof.Rows.sortedAll_at s.heap its out
  have hml : ms.length = ns.length := a2.length_eq
  refine ⟨.ref (s.heap.objs.size + 1), _, I.laid (t' := s.toks) (a := s.heap.objs.size + 1) (o := .lst (ms.map V.int)) (fun b ob z => PyProof.Rows.sortedAll_old z) (Nat.le_succ _) ?_, rfl, q _ ms (I.hok.fresh (Nat.le_succ _)) a2 a3⟩
  refine ⟨by rw [List.length_map]; omega, out.toList, e, vals_ints a1, ?_⟩
  rw [he]
/-- xs[::-1] of a list -/
def tRev (K : PySem.W.Frag) (te : TE) : TE := fun σ H Q => te σ H fun x H1 => ∃ a xs, x = .ref a ∧ SqL K H1 a xs ∧ ∀ p, H1 p = none → Q (.ref p) (upd H1 p (.lst xs.reverse))
end

section
variable {X : Cx} {K : PySem.W.Frag}
end
/-! ### trees -/
inductive Tr where
  | non
  | many (n : Int)
  | part (ms : List Int) (l r : Tr)
def Tr.deep : Tr → Nat
  | .non => 0
  | .many _ => 0
  | .part _ l r => max l.deep r.deep + 1
/-- a value that is this tree -/
def TreeAt (H : Hp) : V → Tr → Prop
  | v, .non => v = .non
  | v, .many n => ∃ a, v = .ref a ∧ H a = some (.tup [.str "many", .int n])
  | v, .part ms l r => ∃ a m x y, v = .ref a ∧ H a = some (.tup [.str "part", .ref m, x, y]) ∧ TupF H m (ms.map V.int) ∧ TreeAt H x l ∧ TreeAt H y r
/-- what tuples there are stays -/
def TKeep (H H' : Hp) : Prop := ∀ b xs, (H b = some (.tup xs) → H' b = some (.tup xs)) ∧ ∀ o, H b = some (.frz o (.tup xs)) → H' b = some (.frz o (.tup xs))
theorem TKeep.trans {H H1 H2 : Hp} (a : TKeep H H1) (b : TKeep H1 H2) : TKeep H H2 := fun c xs => ⟨fun h => (b c xs).1 ((a c xs).1 h), fun o h => (b c xs).2 o ((a c xs).2 o h)⟩
theorem TKeep.same {H H' : Hp} (s : Same H H') : TKeep H H' := fun _ _ => ⟨s _ _, fun _ => s _ _⟩
theorem TKeep.keep {H H' : Hp} {p : Addr} {ys : List V} (s : Keep p H H') (e : H p = some (.lst ys)) : TKeep H H' := fun _ _ => ⟨fun h => s _ _ (ne_of h e (by intro z; cases z)) h, fun _ h => s _ _ (ne_of h e (by intro z; cases z)) h⟩
theorem TKeep.set {H : Hp} {p : Addr} {ys zs : List V} (e : H p = some (.lst ys)) : TKeep H (upd H p (.lst zs)) := .keep (Keep.set p H _) e
theorem TupF.tk {H H' : Hp} {a : Addr} {xs : List V} (h : TupF H a xs) (s : TKeep H H') : TupF H' a xs := by
  obtain ⟨o, h, c⟩ := h
  exact ⟨o, (s _ _).2 o h, c⟩
theorem TreeAt.tk {H H' : Hp} (s : TKeep H H') : ∀ {t : Tr} {v : V}, TreeAt H v t → TreeAt H' v t
  | .non, _, h => h
  | .many _, _, ⟨a, e, h⟩ => ⟨a, e, (s _ _).1 h⟩
  | .part _ _ _, _, ⟨a, m, x, y, e, h, hm, hl, hr⟩ => ⟨a, m, x, y, e, (s _ _).1 h, hm.tk s, TreeAt.tk s hl, TreeAt.tk s hr⟩
theorem TreeAt.same {H H' : Hp} (s : Same H H') {t : Tr} {v : V} (h : TreeAt H v t) : TreeAt H' v t := h.tk (.same s)
section
variable {X : Cx}
theorem eqAt_tup {pins : List (Addr × Obj)} {σ : St} {H : Hp} {s : Shared} {A : Around} {a b : Addr} {xs ys : List V} (I : Inv X pins σ H s) (ha : SqT X.K H a xs) (hb : SqT X.K H b ys) (hl : xs.length = ys.length)
    (he : ∀ (j : Nat) (x y : V), xs[j]? = some x → ys[j]? = some y → ∀ u v, RelV x u → RelV y v → SeqAt.EqAt A.in1 s u v true) (hu : A.units < cLine) :
    SeqAt.RcAt A s (.ref a) (.ref b) true ∧ SeqAt.RcNeAt A s (.ref a) (.ref b) false := by
  obtain ⟨its, r1, p1, _⟩ := I.tuple ha
  obtain ⟨its2, r2, p2, _⟩ := I.tuple hb
  have l1 := r1.length
  have l2 := r2.length
  have hz : its.toArray.size = its2.toArray.size := by rw [List.size_toArray, List.size_toArray]; omega
  have el : ∀ (j : Nat) (h1 : j < its.toArray.size) (h2 : j < its2.toArray.size), SeqAt.EqAt A.in1 s its.toArray[j] its2.toArray[j] ((fun _ => true) j) := by
    intro j h1 h2
    have h1' : j < xs.length := by rw [List.size_toArray] at h1; omega
    have h2' : j < ys.length := by rw [List.size_toArray] at h2; omega
    obtain ⟨v1, e1, r1'⟩ := r1.get (i := j) (x := xs[j]) (List.getElem?_eq_getElem h1')
    obtain ⟨v2, e2, r2'⟩ := r2.get (i := j) (x := ys[j]) (List.getElem?_eq_getElem h2')
    have g1 : its.toArray[j] = v1 := by
      have := List.getElem?_eq_some_iff.mp e1
      simpa using this.2
    have g2 : its2.toArray[j] = v2 := by
      have := List.getElem?_eq_some_iff.mp e2
      simpa using this.2
    rw [g1, g2]
    exact he j _ _ (List.getElem?_eq_getElem h1') (List.getElem?_eq_getElem h2') _ _ r1' r2'
  have t0 : ((List.range (min its.toArray.size its2.toArray.size)).all (fun _ => true) && its.toArray.size == its2.toArray.size) = true := by
    rw [hz]; simp
  constructor
  · rw [← t0]
    exact SeqAt.RcAt.tuples p1 p2 hu el
  · have z := SeqAt.RcNeAt.tuples (e := fun _ => true) p1 p2 hu el
    rw [t0] at z
    exact z
theorem eqAt_ref {A : Around} {s : Shared} {a b : Addr} (h : SeqAt.RcAt A s (.ref a) (.ref b) true) : SeqAt.EqAt A s (.ref a) (.ref b) true := by
  by_cases e : a = b
  · subst e
    exact SeqAt.EqAt.same _
  · exact .of_refs e h
theorem eqAt_int {A : Around} {s : Shared} {i : Int} {u v : Value} (r1 : RelV (.int i) u) (r2 : RelV (.int i) v) : SeqAt.EqAt A s u v true := by
  have z := eqAt_V (A := A) (s := s) r1 r2 rfl rfl
  have e : eqV (.int i) (.int i) = true := by simp [eqV]
  rw [e] at z
  exact z
theorem eqAt_str {A : Around} {s : Shared} {i : Str} {u v : Value} (r1 : RelV (.str i) u) (r2 : RelV (.str i) v) : SeqAt.EqAt A s u v true := by
  have z := eqAt_V (A := A) (s := s) r1 r2 rfl rfl
  have e : eqV (.str i) (.str i) = true := by simp [eqV]
  rw [e] at z
  exact z
theorem eqAt_ints {pins : List (Addr × Obj)} {σ : St} {H : Hp} {s : Shared} {A : Around} {a b : Addr} {ns : List Int} (I : Inv X pins σ H s) (ha : SqT X.K H a (ns.map V.int)) (hb : SqT X.K H b (ns.map V.int)) (hu : A.units < cLine) :
    SeqAt.RcAt A s (.ref a) (.ref b) true ∧ SeqAt.RcNeAt A s (.ref a) (.ref b) false := by
  refine eqAt_tup I ha hb rfl (fun j x y h1 h2 u v r1 r2 => ?_) hu
  rw [h1] at h2
  cases h2
  rw [List.getElem?_map] at h1
  cases e : ns[j]? with
  | none => rw [e] at h1; cases h1
  | some n =>
    rw [e] at h1
    cases h1
    exact eqAt_int r1 r2
/-- two values that are one tree are alike -/
theorem tree_eqAt {pins : List (Addr × Obj)} {σ : St} {H : Hp} {s : Shared} (I : Inv X pins σ H s) : ∀ (t : Tr) (A : Around) (x y : V) (u v : Value), TreeAt H x t → TreeAt H y t → RelV x u → RelV y v → A.units + t.deep + 2 < cLine →
    SeqAt.EqAt A s u v true ∧ SeqAt.RcNeAt A s u v false ∧ SeqAt.RcAt A s u v true
  | .non, A, x, y, u, v, hx, hy, ru, rv, hu => by
    cases hx
    cases hy
    cases ru
    cases rv
    exact ⟨SeqAt.EqAt.same _, SeqAt.RcNeAt.none_none, SeqAt.RcAt.none_none⟩
  | .many n, A, x, y, u, v, ⟨a, ea, ha⟩, ⟨b, eb, hb⟩, ru, rv, hu => by
    subst ea eb
    cases ru
    cases rv
    have z := eqAt_tup (A := A) I (SqT.of ha) (SqT.of hb) rfl (fun j x y h1 h2 u v r1 r2 => by
      match j, h1, h2 with
      | 0, h1, h2 => cases h1; cases h2; exact eqAt_str r1 r2
      | 1, h1, h2 => cases h1; cases h2; exact eqAt_int r1 r2
      | j + 2, h1, h2 => cases h1) (by omega)
    exact ⟨eqAt_ref z.1, z.2, z.1⟩
  | .part ms l r, A, x, y, u, v, ⟨a, m, x1, y1, ea, ha, hm, hl, hr⟩, ⟨b, m', x2, y2, eb, hb, hm', hl', hr'⟩, ru, rv, hu => by
    subst ea eb
    cases ru
    cases rv
    have hd : (Tr.part ms l r).deep = max l.deep r.deep + 1 := rfl
    have hA : A.in1.units = A.units + 1 := rfl
    have z := eqAt_tup (A := A) I (SqT.of ha) (SqT.of hb) rfl (fun j x y h1 h2 u v r1 r2 => by
      match j, h1, h2 with
      | 0, h1, h2 => cases h1; cases h2; exact eqAt_str r1 r2
      | 1, h1, h2 =>
        cases h1; cases h2
        cases r1
        cases r2
        exact eqAt_ref (eqAt_ints I hm.sq hm'.sq (by omega)).1
      | 2, h1, h2 => cases h1; cases h2; exact (tree_eqAt I l A.in1 _ _ _ _ hl hl' r1 r2 (by omega)).1
      | 3, h1, h2 => cases h1; cases h2; exact (tree_eqAt I r A.in1 _ _ _ _ hr hr' r1 r2 (by omega)).1
      | j + 4, h1, h2 => cases h1) (by omega)
    exact ⟨eqAt_ref z.1, z.2, z.1⟩
/-- t == u, both one tree -/
theorem op_eqTr (hu : X.A.units + 64 < cLine) : OpR X (compareOp .Eq) (fun x y H Q => ∃ t : Tr, TreeAt H x t ∧ TreeAt H y t ∧ t.deep ≤ 60 ∧ Q (.bl true) H) := by
  intro pins s σ H x y v u Q I rx ry h
  obtain ⟨t, hx, hy, hd, q⟩ := h
  exact (tree_eqAt I t X.A x y v u hx hy rx ry (by omega)).2.2 _ _ _ _ ⟨.bl true, H, I, rfl, q⟩
end
end L2
/-! my own rules over the layer: gone through a list or a tuple of ints; heaps kept -/
namespace L2
open PySem PySem.Spec PyProof.Rows
def onI {α : Type} (f : Int → α) (d : α) : V → α
  | .int n => f n
  | _ => d
theorem filt_onI {p : Int → Bool} {g : Int → V} (ns : List Int) : (((ns.map V.int).filter (onI p false)).map (onI g .non)) = (ns.filter p).map g := by
  induction ns with
  | nil => rfl
  | cons n ns ih =>
    rw [List.map_cons, List.filter_cons, List.filter_cons]
    have e : onI p false (.int n) = p n := rfl
    rw [e]
    by_cases h : p n = true
    · rw [if_pos h, if_pos h, List.map_cons, List.map_cons, ih]; rfl
    · rw [if_neg h, if_neg h]; exact ih
section
variable {K : PySem.W.Frag} {a : Addr} {ns : List Int} {p : Int → Bool} {g : Int → V} {Tt : V → Hp → (Bool → Hp → Prop) → Prop} {Te : V → Hp → (V → Hp → Prop) → Prop} {D : Addr} {H1 : Hp} {R : Hp → Prop}
theorem compIf_ints (ha : SqL K H1 a (ns.map V.int)) (hD : H1 D = none) (hn : ns.length ≤ sizeLine) (hT : ∀ n ∈ ns, ∀ (H : Hp) (Q : Bool → Hp → Prop), Same H1 H → Q (p n) H → Tt (.int n) H Q)
    (hE : ∀ n ∈ ns, p n = true → ∀ (H : Hp) (Q : V → Hp → Prop), Same H1 H → Q (g n) H → Te (.int n) H Q) (hR : R (upd H1 D (.lst ((ns.filter p).map g)))) :
    ∃ W : Nat → Nat → List V → Hp → Prop, (∃ m, W 0 m [] (upd H1 D (.lst []))) ∧
      ∀ i m ys H2, W i m ys H2 → H2 D = some (.lst ys) ∧ (((Itl K a).stop i H2 ∧ R H2) ∨ ((Itl K a).go i H2 ∧ ys.length < sizeLine ∧ ∃ N : V → Hp → Prop, (∀ y H3, N y H3 → H3 D = some (.lst ys) ∧ ∃ m', m' < m ∧ W (i + 1) m' (ys ++ [y]) (upd H3 D (.lst (ys ++ [y])))) ∧
        ∀ x H', (Itl K a).yld i H2 x H' → Tt x H' fun b H3 => if b = true then Te x H3 N else ∃ m', m' < m ∧ W (i + 1) m' ys H3)) := by
  refine compIf_list (p := onI p false) (g := onI g .non) ha hD (by rw [List.length_map]; exact hn) (fun x hx H Q s q => ?_) (fun x hx hp H Q s q => ?_) (by rw [filt_onI]; exact hR)
  · obtain ⟨n, hm, rfl⟩ := List.mem_map.mp hx
    exact hT n hm H Q s q
  · obtain ⟨n, hm, rfl⟩ := List.mem_map.mp hx
    exact hE n hm hp H Q s q
theorem comp_ints (ha : SqL K H1 a (ns.map V.int)) (hD : H1 D = none) (hn : ns.length ≤ sizeLine) (hE : ∀ n ∈ ns, ∀ (H : Hp) (Q : V → Hp → Prop), Same H1 H → Q (g n) H → Te (.int n) H Q) (hR : R (upd H1 D (.lst (ns.map g)))) :
    ∃ W : Nat → Nat → List V → Hp → Prop, (∃ m, W 0 m [] (upd H1 D (.lst []))) ∧
      ∀ i m ys H2, W i m ys H2 → H2 D = some (.lst ys) ∧ (((Itl K a).stop i H2 ∧ R H2) ∨ ((Itl K a).go i H2 ∧ ys.length < sizeLine ∧ ∃ N : V → Hp → Prop, (∀ y H3, N y H3 → H3 D = some (.lst ys) ∧ ∃ m', m' < m ∧ W (i + 1) m' (ys ++ [y]) (upd H3 D (.lst (ys ++ [y])))) ∧
        ∀ x H', (Itl K a).yld i H2 x H' → Te x H' N)) := by
  refine comp_listM (g := onI g .non) ha hD (by rw [List.length_map]; exact hn) (fun x hx H Q s q => ?_) (by rw [List.map_map]; exact hR)
  obtain ⟨n, hm, rfl⟩ := List.mem_map.mp hx
  exact hE n hm H Q s q
end
theorem Keep.free {p l : Addr} {H H' : Hp} {o : HO} (k : Keep p H H') (hl : H' l = none) (hp : H' p = some o) : H l = none := by
  cases e : H l with
  | none => rfl
  | some u =>
    have n : l ≠ p := fun z => by rw [z, hp] at hl; cases hl
    rw [k l u n e] at hl
    cases hl
/-- a list of ours that was not there before is written: all else is kept -/
theorem Keep.own {p r : Addr} {H H' : Hp} {o : HO} (k : Keep p H H') (hr : H r = none) : Keep p H (upd H' r o) := fun c u hc z => by
  rw [upd_ne (ne_of_none z hr)]
  exact k c u hc z
theorem p2pos (L : Nat) : (0 : Int) < 2 ^ L := by
  induction L with
  | zero => decide
  | succ L ih => rw [Int.pow_succ]; omega
theorem p2le {L : Nat} (h : L ≤ 40) : (2 : Int) ^ L ≤ 1099511627776 := by
  have e : (2 : Int) ^ L = ((2 ^ L : Nat) : Int) := by simp
  have : 2 ^ L ≤ 2 ^ 40 := Nat.pow_le_pow_right (by decide) h
  rw [e]
  have e2 : (2 : Nat) ^ 40 = 1099511627776 := by decide
  omega
theorem p2half (e : Nat) : (2 : Int) ^ (e + 1) / 2 = 2 ^ e := by rw [Int.pow_succ]; omega
theorem p2succ (e : Nat) : (2 : Int) ^ (e + 1) = 2 ^ e + 2 ^ e := by rw [Int.pow_succ]; omega
theorem p2one {e : Nat} (h : (2 : Int) ^ e = 1) : e = 0 := by
  cases e with
  | zero => rfl
  | succ e => have := p2pos e; rw [p2succ] at h; omega
theorem shlOne (L : Nat) : (1 : Int) * 2 ^ ((L : Int)).toNat = 2 ^ L := by rw [Int.one_mul]; rfl
end L2
/-! my own rules over the layer: things alike, however deep; list.insert -/
namespace L2
open PySem PySem.Spec PyProof.Rows
/-- two values that are alike, so deep at most: flat ones, tuples and lists of such -/
inductive Alk (K : PySem.W.Frag) (H : Hp) : Nat → V → V → Prop where
  | flat {n : Nat} {x : V} (h : flatV x = true) : Alk K H n x x
  | tup {n : Nat} {a b : Addr} {xs ys : List V} (ha : SqT K H a xs) (hb : SqT K H b ys) (hl : xs.length = ys.length) (h : ∀ (j : Nat) (x y : V), xs[j]? = some x → ys[j]? = some y → Alk K H n x y) : Alk K H (n + 1) (.ref a) (.ref b)
  | lst {n : Nat} {a b : Addr} {xs ys : List V} (ha : SqL K H a xs) (hb : SqL K H b ys) (hl : xs.length = ys.length) (h : ∀ (j : Nat) (x y : V), xs[j]? = some x → ys[j]? = some y → Alk K H n x y) : Alk K H (n + 1) (.ref a) (.ref b)
theorem eqV_self : ∀ {x : V}, flatV x = true → eqV x x = true := by
  intro x h
  cases x <;> simp [flatV] at h <;> simp [eqV]
section
variable {X : Cx}
theorem eqAt_lst {pins : List (Addr × Obj)} {σ : St} {H : Hp} {s : Shared} {A : Around} {a b : Addr} {xs ys : List V} (I : Inv X pins σ H s) (ha : SqL X.K H a xs) (hb : SqL X.K H b ys) (hl : xs.length = ys.length)
    (he : ∀ (j : Nat) (x y : V), xs[j]? = some x → ys[j]? = some y → ∀ u v, RelV x u → RelV y v → SeqAt.EqAt A.in1 s u v true) (hu : A.units < cLine) :
    SeqAt.RcAt A s (.ref a) (.ref b) true ∧ SeqAt.RcNeAt A s (.ref a) (.ref b) false := by
  obtain ⟨its, r1, p1, _⟩ := I.list ha
  obtain ⟨its2, r2, p2, _⟩ := I.list hb
  have l1 := r1.length
  have l2 := r2.length
  have hz : its.toArray.size = its2.toArray.size := by rw [List.size_toArray, List.size_toArray]; omega
  have el : ∀ (j : Nat) (h1 : j < its.toArray.size) (h2 : j < its2.toArray.size), SeqAt.EqAt A.in1 s its.toArray[j] its2.toArray[j] ((fun _ => true) j) := by
    intro j h1 h2
    have h1' : j < xs.length := by rw [List.size_toArray] at h1; omega
    have h2' : j < ys.length := by rw [List.size_toArray] at h2; omega
    obtain ⟨v1, e1, r1'⟩ := r1.get (i := j) (x := xs[j]) (List.getElem?_eq_getElem h1')
    obtain ⟨v2, e2, r2'⟩ := r2.get (i := j) (x := ys[j]) (List.getElem?_eq_getElem h2')
    have g1 : its.toArray[j] = v1 := by
      have := List.getElem?_eq_some_iff.mp e1
      simpa using this.2
    have g2 : its2.toArray[j] = v2 := by
      have := List.getElem?_eq_some_iff.mp e2
      simpa using this.2
    rw [g1, g2]
    exact he j _ _ (List.getElem?_eq_getElem h1') (List.getElem?_eq_getElem h2') _ _ r1' r2'
  have t0 : (List.range its.toArray.size).all (fun _ => true) = true := by simp
  constructor
  · rw [← t0]
    exact SeqAt.RcAt.lists p1.isList p2.isList hz hu el
  · have z := SeqAt.RcNeAt.lists (e := fun _ => true) p1.isList p2.isList hz hu el
    rw [t0] at z
    exact z
theorem alk_eqAt {pins : List (Addr × Obj)} {σ : St} {H : Hp} {s : Shared} (I : Inv X pins σ H s) {n : Nat} {x y : V} (h : Alk X.K H n x y) : ∀ (A : Around) (u v : Value), RelV x u → RelV y v → A.units + n + 1 < cLine → SeqAt.EqAt A s u v true := by
  induction h with
  | @flat n x hf =>
    intro A u v ru rv hu
    have z := eqAt_V (A := A) (s := s) ru rv hf hf
    rw [eqV_self hf] at z
    exact z
  | tup ha hb hl _ ih =>
    intro A u v ru rv hu
    cases ru
    cases rv
    exact eqAt_ref (eqAt_tup I ha hb hl (fun j x y h1 h2 u v r1 r2 => ih j x y h1 h2 A.in1 u v r1 r2 (by show A.units + 1 + _ + 1 < cLine; omega)) (by omega)).1
  | lst ha hb hl _ ih =>
    intro A u v ru rv hu
    cases ru
    cases rv
    exact eqAt_ref (eqAt_lst I ha hb hl (fun j x y h1 h2 u v r1 r2 => ih j x y h1 h2 A.in1 u v r1 r2 (by show A.units + 1 + _ + 1 < cLine; omega)) (by omega)).1
theorem alk_refs {pins : List (Addr × Obj)} {σ : St} {H : Hp} {s : Shared} (I : Inv X pins σ H s) {n : Nat} {a b : Addr} (h : Alk X.K H n (.ref a) (.ref b)) (A : Around) (hu : A.units + n + 1 < cLine) : SeqAt.RcAt A s (.ref a) (.ref b) true ∧ SeqAt.RcNeAt A s (.ref a) (.ref b) false := by
  cases h with
  | flat hf => exact absurd hf (by simp [flatV])
  | tup ha hb hl h => exact eqAt_tup I ha hb hl (fun j x y h1 h2 u v r1 r2 => alk_eqAt I (h j x y h1 h2) A.in1 u v r1 r2 (by show A.units + 1 + _ + 1 < cLine; omega)) (by omega)
  | lst ha hb hl h => exact eqAt_lst I ha hb hl (fun j x y h1 h2 u v r1 r2 => alk_eqAt I (h j x y h1 h2) A.in1 u v r1 r2 (by show A.units + 1 + _ + 1 < cLine; omega)) (by omega)
/-- x != y of two tuples or lists that are alike -/
theorem op_neAlk (hu : X.A.units + 64 < cLine) : OpR X (compareOp .NotEq) (fun x y H Q => ∃ (n : Nat) (a b : Addr), x = .ref a ∧ y = .ref b ∧ Alk X.K H n (.ref a) (.ref b) ∧ n ≤ 60 ∧ Q (.bl false) H) := by
  intro pins s σ H x y v u Q I rx ry h
  obtain ⟨n, a, b, rfl, rfl, hk, hn, q⟩ := h
  cases rx
  cases ry
  exact (alk_refs I hk X.A (by omega)).2 _ _ _ _ ⟨.bl false, H, I, rfl, q⟩
end
end L2
/-! my own rules over the layer: a list comprehension of any target, with tests or without -/
namespace L2
open PySem PySem.Spec PyProof.Rows
/-- tests of a comprehension -/
def PTs (X : Cx) (ifs : List Expr) (tt : TT) : Prop :=
  ∀ (pins : List (Addr × Obj)) (s : Shared) (σ : St) (H : Hp) (Q : Bool → Hp → Prop), Inv X pins σ H s → tt σ H Q →
    wpAny (model X.prog X.w) X.A (forIn ifs true fun c r => if r = true then do let ok ← isTrue c X.env (eval c X.env); pure (ForInStep.yield ok) else pure (ForInStep.yield r)) (TP X pins σ Q) X.xe s
structure CompOkG (scope sc0 : Scope) (N cn : List Str) : Prop where
  has : ∀ p ∈ relN scope sc0, (p.2 = .cell ∨ p.2 = .free) → p.1 ∈ cn
  nc : ∀ p ∈ scope.names, p.2 ≠ .cell
  names : ∀ p ∈ scope.names, p.2 = .local → scope.names.lookup p.1 = some .local
  frs : ∀ y ∈ N, (relN scope sc0).lookup y = some .cell ∧ sc0.names.lookup y = some .cell ∧ y ∈ cn
/-- the reading: any target, tests, what passes alone is kept -/
def tCompG (k : Nat) (wi : TI) (gt : TG) (tt : TT) (te : TE) (fr : List Nat) : TE := fun σ H Q => wi σ H fun J H1 => ∀ D, H1 D = none → ∃ W : Nat → Nat → List V → Hp → Prop, (∃ m, W 0 m [] (upd H1 D (.lst []))) ∧
  ∀ i m ys H2, W i m ys H2 → H2 D = some (.lst ys) ∧ ((J.stop i H2 ∧ Q (.ref D) H2) ∨ (J.go i H2 ∧ ys.length < sizeLine ∧ ∃ (N : V → Hp → Prop) (Z : Hp → Prop), (∀ y H3, N y H3 → H3 D = some (.lst ys) ∧ ∃ m', m' < m ∧ W (i + 1) m' (ys ++ [y]) (upd H3 D (.lst (ys ++ [y])))) ∧ (∀ H3, Z H3 → ∃ m', m' < m ∧ W (i + 1) m' ys H3) ∧
    ∀ x H', J.yld i H2 x H' → ∀ vs : St, vs.length = k → gt x (vs ++ fr.map fun j => (σ[j]?).getD none) H' fun σ' H3 => (∃ vs' : St, vs'.length = k ∧ σ' = vs' ++ fr.map fun j => (σ[j]?).getD none) ∧ tt σ' H3 fun b H4 => if b = true then te σ' H4 N else Z H4))
section
variable {prog : Program} {w : World} {A : Around} {R : Result → Shared → Prop} {s : Shared}
end
/-- y = [.. for x in ..], straight to a local name -/
def tSetCompG (i k : Nat) (wi : TI) (gt : TG) (tt : TT) (te : TE) (fr : List Nat) : TS := fun D σ H => tCompG k wi gt tt te fr σ H fun v H1 => D.nx (σ.set i (some v)) H1
end L2
/-! my own rules over the layer: gone through a range, each told by g, those alone that pass -/
namespace L2
open PySem PySem.Spec PyProof.Rows
section
variable {n : Nat} {lo : Int} {p : Nat → Bool} {g : Nat → V} {Tt : V → Hp → (Bool → Hp → Prop) → Prop} {Te : V → Hp → (V → Hp → Prop) → Prop} {D : Addr} {H1 : Hp} {R : Hp → Prop}
end
end L2
/-! my own rules over the layer: sum of ints; gone through a list, things made on the way; a tuple's names in a comprehension; trees alike -/
namespace L2
open PySem PySem.Spec PyProof.Rows
section
variable {X : Cx}
end
/-- [.. for x in xs], xs a list that stays -/
theorem comp_listP {K : PySem.W.Frag} {a : Addr} {xs : List V} {T : V → Hp → (V → Hp → Prop) → Prop} {D : Addr} {H1 : Hp} {R : Hp → Prop} (hn : xs.length ≤ sizeLine) (Pv : Nat → List V → Hp → Prop) (h0 : Pv 0 [] (upd H1 D (.lst [])))
    (hl : ∀ i ys H, Pv i ys H → SqL K H a xs) (hD : ∀ i ys H, Pv i ys H → H D = some (.lst ys) ∧ ys.length = i)
    (hs : ∀ i x ys H, xs[i]? = some x → Pv i ys H → T x H fun y H3 => H3 D = some (.lst ys) ∧ Pv (i + 1) (ys ++ [y]) (upd H3 D (.lst (ys ++ [y]))))
    (hd : ∀ ys H, Pv xs.length ys H → R H) :
    ∃ W : Nat → Nat → List V → Hp → Prop, (∃ m, W 0 m [] (upd H1 D (.lst []))) ∧
      ∀ i m ys H2, W i m ys H2 → H2 D = some (.lst ys) ∧ (((Itl K a).stop i H2 ∧ R H2) ∨ ((Itl K a).go i H2 ∧ ys.length < sizeLine ∧ ∃ N : V → Hp → Prop, (∀ y H3, N y H3 → H3 D = some (.lst ys) ∧ ∃ m', m' < m ∧ W (i + 1) m' (ys ++ [y]) (upd H3 D (.lst (ys ++ [y])))) ∧
        ∀ x H', (Itl K a).yld i H2 x H' → T x H' N)) := by
  refine ⟨fun i m ys H => m = xs.length - i ∧ i ≤ xs.length ∧ Pv i ys H, ⟨xs.length, by simp, Nat.zero_le _, h0⟩, ?_⟩
  rintro i m ys H2 ⟨rfl, hi, p⟩
  obtain ⟨d1, d2⟩ := hD i ys H2 p
  have q := hl i ys H2 p
  refine ⟨d1, ?_⟩
  by_cases hlt : i < xs.length
  · refine .inr ⟨⟨xs, xs[i], q, by simp [hlt]⟩, by omega, fun y H3 => H3 D = some (.lst ys) ∧ Pv (i + 1) (ys ++ [y]) (upd H3 D (.lst (ys ++ [y]))), fun y H3 ⟨z1, z2⟩ => ⟨z1, xs.length - (i + 1), by omega, rfl, hlt, z2⟩, fun x H' y => ?_⟩
    obtain ⟨e, y⟩ := y
    subst e
    exact hs i x ys _ (y xs q) p
  · have e : i = xs.length := by omega
    subst e
    exact .inl ⟨⟨xs, q, Nat.le_refl _⟩, hd ys H2 p⟩
end L2
/-! my own rules over the layer: t >= u, t * n of tuples, xs != [] -/
namespace HT
open PySem PySem.Spec PyProof.Rows
section
open PySem.SeqAt
open PySem.AutoSeq1 (wpAny_loadPart')
open PySem.MeetsSeq PySem.MeetsSeq2 PySem.MeetsSeq3
end
section
variable {prog : Program} {w : World} {A : Around} {E : Value → Shared → Prop} {s : Shared}
end
end HT
namespace L2
open PySem PySem.Spec PyProof.Rows
section
variable {X : Cx}
end
/-- a comprehension with a test, the heap growing -/
theorem compIf_tupP {K : PySem.W.Frag} {a : Addr} {xs : List V} {Tt : V → Hp → (Bool → Hp → Prop) → Prop} {Te : V → Hp → (V → Hp → Prop) → Prop} {D : Addr} {H1 : Hp} {R : Hp → Prop} (hn : xs.length ≤ sizeLine) (Pv : Nat → List V → Hp → Prop) (h0 : Pv 0 [] (upd H1 D (.lst [])))
    (hl : ∀ i ys H, Pv i ys H → SqT K H a xs) (hD : ∀ i ys H, Pv i ys H → H D = some (.lst ys) ∧ ys.length ≤ i)
    (hs : ∀ i x ys H, xs[i]? = some x → Pv i ys H → Tt x H fun b H3 => if b = true then Te x H3 (fun y H4 => H4 D = some (.lst ys) ∧ Pv (i + 1) (ys ++ [y]) (upd H4 D (.lst (ys ++ [y])))) else ∃ m', m' < xs.length - i ∧ m' = xs.length - (i + 1) ∧ i + 1 ≤ xs.length ∧ Pv (i + 1) ys H3)
    (hd : ∀ ys H, Pv xs.length ys H → R H) :
    ∃ W : Nat → Nat → List V → Hp → Prop, (∃ m, W 0 m [] (upd H1 D (.lst []))) ∧
      ∀ i m ys H2, W i m ys H2 → H2 D = some (.lst ys) ∧ (((Itt K a).stop i H2 ∧ R H2) ∨ ((Itt K a).go i H2 ∧ ys.length < sizeLine ∧ ∃ N : V → Hp → Prop, (∀ y H3, N y H3 → H3 D = some (.lst ys) ∧ ∃ m', m' < m ∧ W (i + 1) m' (ys ++ [y]) (upd H3 D (.lst (ys ++ [y])))) ∧
        ∀ x H', (Itt K a).yld i H2 x H' → Tt x H' fun b H3 => if b = true then Te x H3 N else ∃ m', m' < m ∧ W (i + 1) m' ys H3)) := by
  refine ⟨fun i m ys H => m = xs.length - i ∧ i ≤ xs.length ∧ Pv i ys H, ⟨xs.length, by simp, Nat.zero_le _, h0⟩, ?_⟩
  rintro i m ys H2 ⟨rfl, hi, p⟩
  obtain ⟨d1, d2⟩ := hD i ys H2 p
  have q := hl i ys H2 p
  refine ⟨d1, ?_⟩
  by_cases hlt : i < xs.length
  · refine .inr ⟨⟨xs, xs[i], q, by simp [hlt]⟩, by omega, fun y H3 => H3 D = some (.lst ys) ∧ Pv (i + 1) (ys ++ [y]) (upd H3 D (.lst (ys ++ [y]))), fun y H3 ⟨z1, z2⟩ => ⟨z1, xs.length - (i + 1), by omega, rfl, hlt, z2⟩, fun x H' y => ?_⟩
    obtain ⟨e, y⟩ := y
    subst e
    exact hs i x ys _ (y xs q) p
  · have e : i = xs.length := by omega
    subst e
    exact .inl ⟨⟨xs, q, Nat.le_refl _⟩, hd ys H2 p⟩
end L2
/-! my own rules over the layer: t == () of any tuple; sum of a tuple of ints; tuples written or joined that are known to the object -/
namespace L2
open PySem PySem.Spec PyProof.Rows
section
variable {X : Cx}
/-- a written tuple, known to the object -/
def tTupF (t : TA) : TE := fun σ H Q => t σ H fun xs H1 => xs.length ≤ sizeLine ∧ ∀ p H', Same H1 H' → TupF H' p xs → Q (.ref p) H'
end
end L2
/-! my own rules over the layer: a pair in a list of pairs; xs == []; a <= b <= c < d -/
namespace L2
open PySem PySem.Spec PyProof.Rows
def pairV (H : Hp) : Value → Option (Int × Int)
  | .ref b => match H b with
    | some (.tup [.int i, .int j]) => some (i, j)
    | _ => none
  | _ => none
section
variable {X : Cx}
def PairsIn (H : Hp) (xs : List V) (ps : List (Int × Int)) : Prop := xs.length = ps.length ∧ ∀ (j : Nat) (x : V) (q : Int × Int), xs[j]? = some x → ps[j]? = some q → ∃ b, x = .ref b ∧ H b = some (.tup [.int q.1, .int q.2])
/-- a op1 b op2 c op3 d, as a test -/
def tChain3 (r r' r'' : R2) (ta tb tc td : TE) : TE := fun σ H Q => ta σ H fun x H1 => tb σ H1 fun y H2 => r x y H2 fun z H3 => ∃ k, z = .bl k ∧
  (if k = true then tc σ H3 fun w' H4 => r' y w' H4 fun z2 H5 => ∃ k2, z2 = .bl k2 ∧ (if k2 = true then td σ H5 fun w'' H6 => r'' w' w'' H6 Q else Q (.bl false) H5) else Q (.bl false) H3)
variable {a b c d : Expr} {ta tb tc td : TE} {pos : Pos}
end
end L2
/-! my own rules over the layer: isinstance of any tuple; isinstance(x, (int, str)) of a number or a text -/
namespace L2
open PySem PySem.Spec PyProof.Rows
section
variable {X : Cx} {K : PySem.W.Frag}
/-- isinstance(x, T): of tuples of every kind, too -/
theorem call_isP (hK : X.K = K) : CallR X (.builtin "isinstance") (fun xs H Q => ∃ x c t b, xs = [x, .ty c] ∧ (TyOf K H x t ∨ ∃ a ys, x = .ref a ∧ SqT K H a ys ∧ t = .type "tuple") ∧ PySem.W.kitOne K t (.type c) = some b ∧ Q (.bl b) H) := by
  subst hK
  intro pins s σ H xs us Q I r h
  obtain ⟨x, c, t, b, rfl, ty, e, q⟩ := h
  obtain ⟨u, w', rfl, ru, rw'⟩ := vals2 r
  cases rw'
  rcases ty with ty | ⟨a, ys, rfl, ht, rfl⟩
  · exact isinst_ok I ru ty e fun tk => ⟨.bl b, H, I.tok tk, rfl, q⟩
  · cases ru
    obtain ⟨its, r1, p1, _⟩ := I.tuple ht
    obtain ⟨o, h1, h2, _⟩ := id p1
    exact PySem.W.kia_one PySem.W.kitx_tuple I.kIn ⟨o, h1, h2⟩ e (fun z => nomatch z) fun tk => ⟨.bl b, H, I.tok tk, rfl, q⟩
theorem kit_int_is : PySem.W.kitAny K (.type "int") [.type "int", .type "str"] = some true := by kernel_rfl
theorem kit_str_is : PySem.W.kitAny K (.type "str") [.type "int", .type "str"] = some true := by kernel_rfl
theorem kit_str_bool : PySem.W.kitOne K (.type "str") (.type "bool") = some false := by kernel_rfl
theorem call_isIS (hK : X.K = K) : CallR X (.builtin "isinstance") (fun xs H Q => ∃ x tp, xs = [x, .ref tp] ∧ ((∃ n, x = .int n) ∨ ∃ y, x = .str y) ∧ SqT K H tp [.ty "int", .ty "str"] ∧ Q (.bl true) H) := by
  subst hK
  intro pins s σ H xs us Q I r h
  obtain ⟨x, tp, rfl, hx, ht, q⟩ := h
  obtain ⟨u, w', rfl, ru, rw'⟩ := vals2 r
  cases rw'
  obtain ⟨its, r1, p1, _⟩ := I.tuple ht
  obtain ⟨⟨cls, dd, data, sl⟩, ho, hc, n, hd⟩ := id p1
  simp only at hc hd
  subst hc hd
  have z : its = [.type "int", .type "str"] := by
    obtain ⟨u1, u2, rfl, q1, q2⟩ := vals2 r1
    cases q1
    cases q2
    rfl
  subst z
  rcases hx with ⟨n, rfl⟩ | ⟨y, rfl⟩
  · obtain ⟨t, rfl⟩ := ru
    exact PySem.W.kia_tup PySem.W.kitx_int I.kIn True.intro ho kit_int_is (fun z => nomatch z) fun tk => ⟨.bl true, H, I.tok tk, rfl, q⟩
  · obtain ⟨t, rfl⟩ := ru
    exact PySem.W.kia_tup PySem.W.kitx_str I.kIn True.intro ho kit_str_is (fun z => nomatch z) fun tk => ⟨.bl true, H, I.tok tk, rfl, q⟩
end
end L2
/-! (x,) * n -/
namespace L2
open PySem PySem.Spec PyProof.Rows
section
variable {X : Cx}
end
end L2
namespace TS
open PySem PySem.W PyProof.Rows
abbrev M2 := StateT SortSt Sem
def gallop' : Bool → Keyed → Array Keyed → Nat → Nat → Nat → M2 (Option Nat) := sortPriv% PySem.Builtin.gallop
def mergeLo' : Array Keyed → Array Keyed → M2 (Array Keyed) := sortPriv% PySem.Builtin.mergeLo
def mergeHi' : Array Keyed → Array Keyed → M2 (Array Keyed) := sortPriv% PySem.Builtin.mergeHi
def setMG' : Nat → M2 Unit := sortPriv% PySem.Builtin.setMinGallop
def power' : Nat → Nat → Nat → Nat → Nat := sortPriv% PySem.Builtin.power
section
variable {prog : Program} {w : World} {A : Around} {E : Value → Shared → Prop}
/-- a loop over a list of numbers, by what holds ahead of each turn -/
theorem c_for {β : Type} {f : Nat → β → M2 (ForInStep β)} {Q : β → SortSt → Shared → Prop} (I : Nat → β → SortSt → Shared → Prop) :
    ∀ (l : List Nat) (n : Nat) (b : β) (st : SortSt) (s : Shared), I n b st s → (∀ b st s, I (n + l.length) b st s → Q b st s) →
    (∀ k x b st s, n ≤ k → k < n + l.length → I k b st s → kasC (model prog w) A E (f x b) (fun r st' s' => match r with | .done b' => Q b' st' s' | .yield b' => I (k + 1) b' st' s') st s) →
    kasC (model prog w) A E (forIn l b f) Q st s
  | [], n, b, st, s, hi, hq, _ => kasC_nil (hq b st s hi)
  | x :: l, n, b, st, s, hi, hq, hs => by
    refine kasC_cons (wpAny_mono (hs n x b st s (Nat.le_refl _) (by simp) hi) (fun r s' h => ?_) fun _ _ e => e)
    obtain ⟨r, st'⟩ := r
    cases r with
    | done b' => exact h
    | yield b' =>
      refine c_for I l (n + 1) b' st' s' h (fun b st s hb => hq b st s (by simpa [Nat.add_assoc, Nat.add_comm, Nat.add_left_comm] using hb)) (fun k x b st s h1 h2 h3 => hs k x b st s (by (clear h3 h2 h hs hq hi; omega)) (by simp at h2 ⊢; (clear h3 h1 h hs hq hi; omega)) h3)
theorem c_range {β : Type} {f : Nat → β → M2 (ForInStep β)} {Q : β → SortSt → Shared → Prop} {n : Nat} {b : β} {st : SortSt} {s : Shared} (I : Nat → β → SortSt → Shared → Prop) (h0 : I 0 b st s) (hq : ∀ b st s, I n b st s → Q b st s)
    (hs : ∀ k x b st s, k < n → I k b st s → kasC (model prog w) A E (f x b) (fun r st' s' => match r with | .done b' => Q b' st' s' | .yield b' => I (k + 1) b' st' s') st s) : kasC (model prog w) A E (forIn [0:n] b f) Q st s := by
  refine kasC_range (c_for I (List.range' 0 (n - 0)) 0 b st s h0 (fun b st s h => hq b st s ?_) (fun k x b st s h1 h2 h3 => hs k x b st s ?_ h3))
  · simpa using h
  · simpa using h2
theorem c_rangeR {β : Type} {f : Nat → β → M2 (ForInStep β)} {Q : β → SortSt → Shared → Prop} {n : Nat} {b : β} {st : SortSt} {s : Shared} (I : Nat → β → SortSt → Shared → Prop) (R : β → SortSt → Shared → Prop) (h0 : I 0 b st s) (he : ∀ b st s, I n b st s → R b st s)
    (hs : ∀ k x b st s, k < n → I k b st s → kasC (model prog w) A E (f x b) (fun r st' s' => match r with | .done b' => R b' st' s' | .yield b' => I (k + 1) b' st' s') st s) (hR : ∀ b st s, R b st s → Q b st s) : kasC (model prog w) A E (forIn [0:n] b f) Q st s :=
  wpAny_mono (c_range I h0 he hs) (fun r s' h => hR _ _ _ h) fun _ _ e => e
theorem c_elem {arr : Array Keyed} {i : Nat} {Q : Keyed → SortSt → Shared → Prop} {st : SortSt} {s : Shared} (hi : i < arr.size) (h : Q (kas_item arr i) st s) : kasC (model prog w) A E (elem' arr i) Q st s := by
  rw [elem'_eq]
  have e : arr[i]? = some (kas_item arr i) := by
    unfold kas_item
    simp [Array.getD, hi]
  rw [e]
  exact kasC_pure h
/-- the comparison of good things: this answer, and nothing changes -/
def Good (prog : Program) (w : World) (A : Around) (E : Value → Shared → Prop) (κ : SortKind) (P : Keyed → Prop) (lt : Keyed → Keyed → Bool) (s : Shared) : Prop :=
  ∀ (x y : Keyed) (st : SortSt) (Q : Option Bool → SortSt → Shared → Prop), P x → P y → kindOf st = κ → Q (some (lt x y)) st s → kasC (model prog w) A E (lt' x y) Q st s
variable {κ : SortKind} {P : Keyed → Prop} {lt : Keyed → Keyed → Bool}
theorem gallop_ {s : Shared} (G : Good prog w A E κ P lt s) {left : Bool} {key : Keyed} {arr : Array Keyed} {base n hint k : Nat} {Q : Option Nat → SortSt → Shared → Prop} {st : SortSt} (hst : kindOf st = κ) (hk : P key) (hP : ∀ i, i < n → P (kas_item arr (base + i)))
    (hsz : base + n ≤ arr.size) (hh : hint < n) (hkn : k ≤ n) (hB : ∀ i, i < n → (if left = true then lt (kas_item arr (base + i)) key else !(lt key (kas_item arr (base + i)))) = decide (i < k)) (h : Q (some k) st s) :
    kasC (model prog w) A E (gallop' left key arr base n hint) Q st s := by
  have bey : ∀ (i : Nat) (Q' : Option Bool → SortSt → Shared → Prop), i < n → Q' (some (decide (i < k))) st s → kasC (model prog w) A E (do
      let x ← elem' arr (base + i)
      if left = true then lt' x key else do
        let r ← lt' key x
        pure (Option.map (fun x => !x) r)) Q' st s := by
    intro i Q' hi hq
    refine kasC_bind (c_elem (by (clear hq h hB hkn hh hP hk hst G; omega)) ?_)
    have hb := hB i hi
    cases left with
    | true =>
      rw [if_pos rfl] at hb ⊢
      exact G _ _ _ _ (hP i hi) hk hst (by rw [hb]; exact hq)
    | false =>
      rw [if_neg Bool.false_ne_true] at hb ⊢
      refine kasC_bind (G _ _ _ _ hk (hP i hi) hst (kasC_pure ?_))
      show Q' (some (!(lt key (kas_item arr (base + i))))) st s
      rw [hb]
      exact hq
  refine kasC_bind (bey hint _ hh ?_)
  dsimp only
  by_cases c : hint < k
  · rw [if_pos (decide_eq_true c)]
    refine kasC_bind (c_rangeR (fun t r st' s' => st' = st ∧ s' = s ∧ ∃ la of, r = (none, la, of) ∧ la < of ∧ hint + la < k ∧ t + 1 ≤ of) (fun r st' s' => st' = st ∧ s' = s ∧ ∃ la of, r = (none, la, of) ∧ la < of ∧ hint + la < k ∧ k ≤ hint + min of (n - hint))
      ⟨rfl, rfl, 0, 1, rfl, by (clear c bey h hB hkn hh hsz hP hk hst G; omega), by (clear bey h hB hkn hh hsz hP hk hst G; omega), by (clear c bey h hB hkn hh hsz hP hk hst G; omega)⟩ ?_ ?_ ?_)
    · rintro r st' s' ⟨rfl, rfl, la, of, rfl, h1, h2, h3⟩
      exact ⟨rfl, rfl, la, of, rfl, h1, h2, by (clear h2 h1 bey h G hst c hB hsz hP hk; omega)⟩
    · rintro t x r st' s' ht ⟨rfl, rfl, la, of, rfl, h1, h2, h3⟩
      dsimp only
      by_cases c2 : of ≥ n - hint
      · rw [if_pos c2]
        exact kasC_pure ⟨rfl, rfl, la, of, rfl, h1, h2, by (clear h3 h2 h1 bey h G hst ht c hB hsz hP hk; omega)⟩
      · rw [if_neg c2]
        refine kasC_bind (bey (hint + of) _ (by (clear h3 h2 h1 bey h G hst ht c hB hkn hsz hP hk; omega)) ?_)
        dsimp only
        by_cases c3 : hint + of < k
        · rw [if_neg (by simp [c3])]
          exact kasC_pure ⟨rfl, rfl, of, 2 * of + 1, rfl, by (clear c3 c2 h3 h2 h1 bey h G hst ht c hB hkn hh hsz hP hk; omega), c3, by (clear c3 c2 h2 h1 bey h G hst ht c hB hkn hh hsz hP hk; omega)⟩
        · rw [if_pos (by simp [c3])]
          exact kasC_pure ⟨rfl, rfl, la, of, rfl, h1, h2, by (clear h3 h2 h1 bey h G hst ht c hB hkn hh hsz hP hk; omega)⟩
    · rintro r st' s' ⟨rfl, rfl, la, of, rfl, h1, h2, h3⟩
      dsimp only
      refine kasC_bind (c_rangeR (fun t r st₂ s₂ => st₂ = st' ∧ s₂ = s' ∧ ∃ lo hi, r = (none, lo, hi) ∧ lo ≤ k ∧ k ≤ hi ∧ hi ≤ n ∧ (hi - lo) + t ≤ n) (fun r st₂ s₂ => st₂ = st' ∧ s₂ = s' ∧ ∃ lo, r = (none, lo, k)) ⟨rfl, rfl, _, _, rfl, by (clear h3 h1 bey h G hst c hB hkn hh hsz hP hk; omega), by (clear h2 h1 bey h G hst c hB hkn hh hsz hP hk; omega), by (clear h3 h2 h1 bey h G hst c hB hkn hsz hP hk; omega), by (clear h1 bey h G hst c hB hkn hsz hP hk; omega)⟩ ?_ ?_ ?_)
      · rintro r st₂ s₂ ⟨rfl, rfl, lo, hi, rfl, g1, g2, g3, g4⟩
        obtain rfl : hi = k := by (clear g3 bey h G hst h3 h2 h1 c hB hkn hh hsz hP hk; omega)
        exact ⟨rfl, rfl, lo, rfl⟩
      · rintro t x r st₂ s₂ ht ⟨rfl, rfl, lo, hi, rfl, g1, g2, g3, g4⟩
        dsimp only
        by_cases c2 : lo ≥ hi
        · rw [if_pos c2]
          obtain rfl : hi = k := by (clear g4 g3 bey h G hst ht h3 h2 h1 c hB hkn hh hsz hP hk; omega)
          exact kasC_pure ⟨rfl, rfl, lo, rfl⟩
        · rw [if_neg c2]
          refine kasC_bind (bey (lo + (hi - lo) / 2) _ (by (clear g4 g2 g1 bey h G hst ht h3 h2 h1 c hB hkn hh hsz hP hk; omega)) ?_)
          dsimp only
          by_cases c3 : lo + (hi - lo) / 2 < k
          · rw [if_pos (decide_eq_true c3)]
            exact kasC_pure ⟨rfl, rfl, _, _, rfl, by (clear c2 g4 g3 g2 g1 bey h G hst ht h3 h2 h1 c hB hkn hh hsz hP hk; omega), by (clear c3 c2 g4 g3 g1 bey h G hst ht h3 h2 h1 c hB hkn hh hsz hP hk; omega), by (clear c3 c2 g4 g2 g1 bey h G hst ht h3 h2 h1 c hB hkn hh hsz hP hk; omega), by (clear c3 g3 g2 g1 bey h G hst h3 h2 h1 c hB hkn hh hsz hP hk; omega)⟩
          · rw [if_neg (by simp [c3])]
            exact kasC_pure ⟨rfl, rfl, _, _, rfl, by (clear c3 c2 g4 g3 g2 bey h G hst ht h3 h2 h1 c hB hkn hh hsz hP hk; omega), by (clear c2 g4 g3 g2 g1 bey h G hst ht h3 h2 h1 c hB hkn hh hsz hP hk; omega), by (clear c3 g4 g2 g1 bey h G hst ht h3 h2 h1 c hB hkn hh hsz hP hk; omega), by (clear c3 c2 g3 g2 g1 bey h G hst h3 h2 h1 c hB hkn hh hsz hP hk; omega)⟩
      · rintro r st₂ s₂ ⟨rfl, rfl, lo, rfl⟩
        exact kasC_pure h
  · rw [if_neg (by simp [c])]
    refine kasC_bind (c_rangeR (fun t r st' s' => st' = st ∧ s' = s ∧ ∃ la of, r = (none, la, of) ∧ la < of ∧ k ≤ hint - la ∧ la ≤ hint ∧ t + 1 ≤ of) (fun r st' s' => st' = st ∧ s' = s ∧ ∃ la of, r = (none, la, of) ∧ la < of ∧ k ≤ hint - la ∧ la ≤ hint ∧ hint + 1 - min of (hint + 1) ≤ k)
      ⟨rfl, rfl, 0, 1, rfl, by (clear c bey h hB hkn hh hsz hP hk hst G; omega), by (clear bey h hB hkn hh hsz hP hk hst G; omega), by (clear c bey h hB hkn hh hsz hP hk hst G; omega), by (clear c bey h hB hkn hh hsz hP hk hst G; omega)⟩ ?_ ?_ ?_)
    · rintro r st' s' ⟨rfl, rfl, la, of, rfl, h1, h2, h3, h4⟩
      exact ⟨rfl, rfl, la, of, rfl, h1, h2, h3, by (clear h3 h2 h1 bey h G hst c hB hkn hsz hP hk; omega)⟩
    · rintro t x r st' s' ht ⟨rfl, rfl, la, of, rfl, h1, h2, h3, h4⟩
      dsimp only
      by_cases c2 : of ≥ hint + 1
      · rw [if_pos c2]
        exact kasC_pure ⟨rfl, rfl, la, of, rfl, h1, h2, h3, by (clear h4 h3 h2 h1 bey h G hst ht c hB hkn hh hsz hP hk; omega)⟩
      · rw [if_neg c2]
        refine kasC_bind (bey (hint - of) _ (by (clear h4 h3 h2 bey h G hst ht c hB hkn hsz hP hk; omega)) ?_)
        dsimp only
        by_cases c3 : hint - of < k
        · rw [if_pos (decide_eq_true c3)]
          exact kasC_pure ⟨rfl, rfl, la, of, rfl, h1, h2, h3, by (clear h4 h3 h2 h1 bey h G hst ht c hB hkn hh hsz hP hk; omega)⟩
        · rw [if_neg (by simp [c3])]
          exact kasC_pure ⟨rfl, rfl, of, 2 * of + 1, rfl, by (clear c3 c2 h4 h3 h2 h1 bey h G hst ht c hB hkn hh hsz hP hk; omega), by (clear c2 h4 h3 h2 h1 bey h G hst ht c hB hkn hh hsz hP hk; omega), by (clear c3 h4 h3 h2 h1 bey h G hst ht c hB hkn hh hsz hP hk; omega), by (clear c3 c2 h3 h2 h1 bey h G hst ht c hB hkn hh hsz hP hk; omega)⟩
    · rintro r st' s' ⟨rfl, rfl, la, of, rfl, h1, h2, h3, h4⟩
      dsimp only
      refine kasC_bind (c_rangeR (fun t r st₂ s₂ => st₂ = st' ∧ s₂ = s' ∧ ∃ lo hi, r = (none, lo, hi) ∧ lo ≤ k ∧ k ≤ hi ∧ hi ≤ n ∧ (hi - lo) + t ≤ n) (fun r st₂ s₂ => st₂ = st' ∧ s₂ = s' ∧ ∃ lo, r = (none, lo, k)) ⟨rfl, rfl, _, _, rfl, by (clear h3 h2 h1 bey h G hst c hB hkn hh hsz hP hk; omega), by (clear h4 h3 h1 bey h G hst c hB hkn hh hsz hP hk; omega), by (clear h4 h2 h1 bey h G hst c hB hkn hsz hP hk; omega), by (clear h4 h3 h2 h1 bey h G hst c hB hkn hsz hP hk; omega)⟩ ?_ ?_ ?_)
      · rintro r st₂ s₂ ⟨rfl, rfl, lo, hi, rfl, g1, g2, g3, g4⟩
        obtain rfl : hi = k := by (clear g3 bey h G hst h4 h3 h2 h1 c hB hkn hh hsz hP hk; omega)
        exact ⟨rfl, rfl, lo, rfl⟩
      · rintro t x r st₂ s₂ ht ⟨rfl, rfl, lo, hi, rfl, g1, g2, g3, g4⟩
        dsimp only
        by_cases c2 : lo ≥ hi
        · rw [if_pos c2]
          obtain rfl : hi = k := by (clear g4 g3 bey h G hst ht h4 h3 h2 h1 c hB hkn hh hsz hP hk; omega)
          exact kasC_pure ⟨rfl, rfl, lo, rfl⟩
        · rw [if_neg c2]
          refine kasC_bind (bey (lo + (hi - lo) / 2) _ (by (clear g4 g2 bey h G hst ht h4 h3 h2 h1 hB hkn hsz hP hk; omega)) ?_)
          dsimp only
          by_cases c3 : lo + (hi - lo) / 2 < k
          · rw [if_pos (decide_eq_true c3)]
            exact kasC_pure ⟨rfl, rfl, _, _, rfl, by (clear c2 g4 g3 g2 g1 bey h G hst ht h4 h3 h2 h1 c hB hkn hh hsz hP hk; omega), by (clear c3 c2 g4 g3 g1 bey h G hst ht h4 h3 h2 h1 c hB hkn hh hsz hP hk; omega), by (clear c3 c2 g4 g2 g1 bey h G hst ht h4 h3 h2 h1 c hB hkn hh hsz hP hk; omega), by (clear c3 g3 g2 g1 bey h G hst h4 h3 h2 h1 c hB hkn hh hsz hP hk; omega)⟩
          · rw [if_neg (by simp [c3])]
            exact kasC_pure ⟨rfl, rfl, _, _, rfl, by (clear c3 c2 g4 g3 g2 bey h G hst ht h4 h3 h2 h1 c hB hkn hh hsz hP hk; omega), by (clear c2 g4 g3 g2 g1 bey h G hst ht h4 h3 h2 h1 c hB hkn hh hsz hP hk; omega), by (clear c3 g4 g2 bey h G hst ht h4 h3 h2 h1 hB hkn hsz hP hk; omega), by (clear c3 c2 g3 g2 g1 bey h G hst h4 h3 h2 h1 c hB hkn hh hsz hP hk; omega)⟩
      · rintro r st₂ s₂ ⟨rfl, rfl, lo, rfl⟩
        exact kasC_pure h
end
/-! ### merging, as lists -/
section
variable {P : Keyed → Prop} {lt : Keyed → Keyed → Bool}
structure Tot (P : Keyed → Prop) (lt : Keyed → Keyed → Bool) : Prop where
  trans : ∀ x y z, P x → P y → P z → lt y x = false → lt z y = false → lt z x = false
  asym : ∀ x y, P x → P y → lt x y = true → lt y x = false
def Srt (lt : Keyed → Keyed → Bool) (l : List Keyed) : Prop := l.Pairwise fun x y => lt y x = false
structure MInv (lt : Keyed → Keyed → Bool) (al bl o : List Keyed) (i j : Nat) : Prop where
  perm : o.Perm (al.take i ++ bl.take j)
  srt : Srt lt o
  ba : ∀ x ∈ o, ∀ y ∈ al.drop i, lt y x = false
  bb : ∀ x ∈ o, ∀ y ∈ bl.drop j, lt y x = false
theorem MInv.zero (al bl : List Keyed) : MInv lt al bl [] 0 0 := ⟨by simp, .nil, fun x hx => absurd hx (by simp), fun x hx => absurd hx (by simp)⟩
theorem drop_split (l : List Keyed) (i k : Nat) : l.drop i = (l.drop i).take k ++ l.drop (i + k) := by
  rw [← List.drop_drop, List.take_append_drop]
theorem take_split (l : List Keyed) (i k : Nat) : l.take (i + k) = l.take i ++ (l.drop i).take k := List.take_add
theorem MInv.chunkA {al bl o : List Keyed} {i j : Nat} (m : MInv lt al bl o i j) (ha : Srt lt al) (k : Nat) (hc : ∀ x ∈ (al.drop i).take k, ∀ y ∈ bl.drop j, lt y x = false) : MInv lt al bl (o ++ (al.drop i).take k) (i + k) j := by
  have hd := drop_split al i k
  have hs : Srt lt (al.drop i) := List.Pairwise.sublist (List.drop_sublist i al) ha
  rw [hd] at hs
  have hs' := List.pairwise_append.mp hs
  have sub1 : ∀ y ∈ (al.drop i).take k, y ∈ al.drop i := fun y hy => List.mem_of_mem_take hy
  have sub2 : ∀ y ∈ al.drop (i + k), y ∈ al.drop i := fun y hy => by rw [hd]; exact List.mem_append_right _ hy
  refine ⟨?_, ?_, fun x hx y hy => ?_, fun x hx y hy => ?_⟩
  · rw [take_split]
    refine (m.perm.append_right _).trans ?_
    rw [List.append_assoc, List.append_assoc]
    exact List.Perm.append_left _ List.perm_append_comm
  · refine List.pairwise_append.mpr ⟨m.srt, ?_, fun x hx y hy => m.ba x hx y (sub1 y hy)⟩
    have := hs'.1
    simpa [List.take_take] using this
  · rcases List.mem_append.mp hx with h | h
    · exact m.ba x h y (sub2 y hy)
    · exact hs'.2.2 x (by simpa [List.take_take] using h) y hy
  · rcases List.mem_append.mp hx with h | h
    · exact m.bb x h y hy
    · exact hc x h y hy
theorem MInv.swap {al bl o : List Keyed} {i j : Nat} (m : MInv lt al bl o i j) : MInv lt bl al o j i := ⟨m.perm.trans List.perm_append_comm, m.srt, m.bb, m.ba⟩
theorem MInv.chunkB {al bl o : List Keyed} {i j : Nat} (m : MInv lt al bl o i j) (hb : Srt lt bl) (k : Nat) (hc : ∀ x ∈ (bl.drop j).take k, ∀ y ∈ al.drop i, lt y x = false) : MInv lt al bl (o ++ (bl.drop j).take k) i (j + k) :=
  (m.swap.chunkA hb k hc).swap
def Fin2 (lt : Keyed → Keyed → Bool) (al bl r : List Keyed) : Prop := r.Perm (al ++ bl) ∧ Srt lt r
theorem MInv.fin {al bl o : List Keyed} {i j : Nat} (m : MInv lt al bl o i j) (hi : al.length ≤ i) (hj : bl.length ≤ j) : Fin2 lt al bl o := by
  have p := m.perm
  rw [List.take_of_length_le hi, List.take_of_length_le hj] at p
  exact ⟨p, m.srt⟩
theorem MInv.doneB {al bl o : List Keyed} {i j : Nat} (m : MInv lt al bl o i j) (ha : Srt lt al) (hj : bl.length ≤ j) : Fin2 lt al bl (o ++ al.drop i ++ bl.drop j) := by
  have e : bl.drop j = [] := List.drop_of_length_le hj
  have z := m.chunkA ha al.length (fun x _ y hy => by rw [e] at hy; cases hy)
  rw [e, List.append_nil]
  have e2 : (al.drop i).take al.length = al.drop i := List.take_of_length_le (by rw [List.length_drop]; (clear z e hj ha m; omega))
  rw [e2] at z
  exact z.fin (by (clear e2 z e hj ha m; omega)) hj
theorem MInv.doneA {al bl o : List Keyed} {i j : Nat} (m : MInv lt al bl o i j) (hb : Srt lt bl) (hi : al.length ≤ i) : Fin2 lt al bl (o ++ al.drop i ++ bl.drop j) := by
  have e : al.drop i = [] := List.drop_of_length_le hi
  have z := m.chunkB hb bl.length (fun x _ y hy => by rw [e] at hy; cases hy)
  rw [e, List.append_nil]
  have e2 : (bl.drop j).take bl.length = bl.drop j := List.take_of_length_le (by rw [List.length_drop]; (clear z e hi hb m; omega))
  rw [e2] at z
  exact z.fin hi (by (clear e2 z e hi hb m; omega))
theorem MInv.lastA {al bl o : List Keyed} {i j : Nat} (m : MInv lt al bl o i j) (ha : Srt lt al) (hb : Srt lt bl) (hl : ∀ x ∈ bl, ∀ y ∈ al.drop i, lt y x = false) : Fin2 lt al bl (o ++ bl.drop j ++ al.drop i) := by
  have z := m.chunkB hb bl.length (fun x hx y hy => hl x (List.mem_of_mem_drop (List.mem_of_mem_take hx)) y hy)
  have e2 : (bl.drop j).take bl.length = bl.drop j := List.take_of_length_le (by rw [List.length_drop]; (clear z hl hb ha m; omega))
  rw [e2] at z
  have z2 := z.doneB ha (by (clear e2 z hl hb ha m; omega))
  have e3 : bl.drop (j + bl.length) = [] := List.drop_of_length_le (by (clear z2 e2 z hl hb ha m; omega))
  rw [e3, List.append_nil] at z2
  exact z2
theorem bound (B : Nat → Bool) : ∀ n, (∀ i j, i ≤ j → j < n → B j = true → B i = true) → ∃ k, k ≤ n ∧ ∀ i, i < n → B i = decide (i < k)
  | 0, _ => ⟨0, Nat.le_refl _, fun i hi => absurd hi (Nat.not_lt_zero _)⟩
  | n + 1, h => by
    obtain ⟨k, hk, hB⟩ := bound B n fun i j a b c => h i j a (by (clear c a h; omega)) c
    cases hn : B n with
    | true =>
      refine ⟨n + 1, Nat.le_refl _, fun i hi => ?_⟩
      rw [h i n (by (clear hn hB hk h; omega)) (by (clear hi hn hB hk h; omega)) hn, decide_eq_true hi]
    | false =>
      refine ⟨k, by (clear hn hB h; omega), fun i hi => ?_⟩
      by_cases e : i = n
      · rw [e, hn, decide_eq_false (by (clear hi hn hB h; omega))]
      · exact hB i (by (clear hn hB hk h; omega))
theorem item_get {a : Array Keyed} {i : Nat} (h : i < a.size) : a.toList[i]? = some (kas_item a i) := by
  unfold kas_item
  simp [Array.getD, h]
theorem item_mem {a : Array Keyed} {i : Nat} (h : i < a.size) : kas_item a i ∈ a.toList := List.mem_of_getElem? (item_get h)
theorem drop_item {a : Array Keyed} {i : Nat} {y : Keyed} (h : y ∈ a.toList.drop i) : ∃ j, i ≤ j ∧ j < a.size ∧ y = kas_item a j := by
  obtain ⟨k, hk⟩ := List.mem_iff_getElem?.mp h
  rw [List.getElem?_drop] at hk
  have hl := (List.getElem?_eq_some_iff.mp hk).1
  have hl' : i + k < a.size := by simpa using hl
  refine ⟨i + k, by (clear hl' hl hk h; omega), hl', ?_⟩
  rw [item_get hl'] at hk
  exact (Option.some.inj hk).symm
theorem chunk_item {a : Array Keyed} {i k : Nat} {y : Keyed} (h : y ∈ (a.toList.drop i).take k) : ∃ j, i ≤ j ∧ j < i + k ∧ j < a.size ∧ y = kas_item a j := by
  obtain ⟨m, hm⟩ := List.mem_iff_getElem?.mp h
  rw [List.getElem?_take] at hm
  by_cases c : m < k
  · rw [if_pos c, List.getElem?_drop] at hm
    have hl := (List.getElem?_eq_some_iff.mp hm).1
    have hl' : i + m < a.size := by simpa using hl
    refine ⟨i + m, by (clear hl' hl c hm h; omega), by (clear hl' hl hm h; omega), hl', ?_⟩
    rw [item_get hl'] at hm
    exact (Option.some.inj hm).symm
  · rw [if_neg c] at hm
    cases hm
theorem srt_item {a : Array Keyed} {i j : Nat} (T : Tot P lt) (h : Srt lt a.toList) (hP : ∀ x ∈ a.toList, P x) (hij : i < j) (hj : j < a.size) : lt (kas_item a j) (kas_item a i) = false := by
  have hi : i < a.size := by (clear hP h T; omega)
  have z := List.pairwise_iff_getElem.mp h i j (by simpa using hi) (by simpa using hj) hij
  have e1 := (List.getElem?_eq_some_iff.mp (item_get hi)).2
  have e2 := (List.getElem?_eq_some_iff.mp (item_get hj)).2
  rw [e1, e2] at z
  exact z
end
end TS
namespace TS
open PySem PySem.W PyProof.Rows
section
variable {P : Keyed → Prop} {lt : Keyed → Keyed → Bool} {a b out : Array Keyed} {i j k : Nat}
abbrev AInv (lt : Keyed → Keyed → Bool) (a b out : Array Keyed) (i j : Nat) : Prop := MInv lt a.toList b.toList out.toList i j
abbrev FinA (lt : Keyed → Keyed → Bool) (a b r : Array Keyed) : Prop := Fin2 lt a.toList b.toList r.toList
theorem ext_list (h : k ≤ a.size) : (a.extract i k).toList = (a.toList.drop i).take (k - i) := by
  simp [List.extract_eq_take_drop]
theorem ext_all : (a.extract i a.size).toList = a.toList.drop i := by
  rw [ext_list (Nat.le_refl _)]
  exact List.take_of_length_le (by simp)
theorem one_chunk (h : i < a.size) : (a.toList.drop i).take 1 = [kas_item a i] := by
  have e := (List.getElem?_eq_some_iff.mp (item_get h))
  obtain ⟨h1, h2⟩ := e
  rw [List.drop_eq_getElem_cons h1, h2]
  rfl
theorem pushB (T : Tot P lt) (sb : Srt lt b.toList) (sa : Srt lt a.toList) (pa : ∀ x ∈ a.toList, P x) (pb : ∀ x ∈ b.toList, P x) (m : AInv lt a b out i j) (hi : i < a.size) (hj : j < b.size) (h : lt (kas_item b j) (kas_item a i) = true) : AInv lt a b (out.push (kas_item b j)) i (j + 1) := by
  have z := m.chunkB sb 1 (fun x hx y hy => by
    rw [one_chunk hj] at hx
    cases List.mem_singleton.mp hx
    obtain ⟨j', h1, h2, rfl⟩ := drop_item hy
    have q1 := T.asym _ _ (pb _ (item_mem hj)) (pa _ (item_mem hi)) h
    by_cases e : i = j'
    · rw [← e]; exact q1
    · exact T.trans _ _ _ (pb _ (item_mem hj)) (pa _ (item_mem hi)) (pa _ (item_mem h2)) q1 (srt_item T sa pa (by (clear q1 hy h2 hx h hj hi m pb pa sa sb T; omega)) h2))
  rw [one_chunk hj] at z
  simpa [AInv] using z
theorem pushA (T : Tot P lt) (sb : Srt lt b.toList) (sa : Srt lt a.toList) (pa : ∀ x ∈ a.toList, P x) (pb : ∀ x ∈ b.toList, P x) (m : AInv lt a b out i j) (hi : i < a.size) (h : j < b.size → lt (kas_item b j) (kas_item a i) = false) : AInv lt a b (out.push (kas_item a i)) (i + 1) j := by
  have z := m.chunkA sa 1 (fun x hx y hy => by
    rw [one_chunk hi] at hx
    cases List.mem_singleton.mp hx
    obtain ⟨j', h1, h2, rfl⟩ := drop_item hy
    have hj : j < b.size := by (clear hy hx h hi m pb pa sa sb T; omega)
    have q1 := h hj
    by_cases e : j = j'
    · rw [← e]; exact q1
    · exact T.trans _ _ _ (pa _ (item_mem hi)) (pb _ (item_mem hj)) (pb _ (item_mem h2)) q1 (srt_item T sb pb (by (clear q1 hj hy h2 hx h hi m pb pa sa sb T; omega)) h2))
  rw [one_chunk hi] at z
  simpa [AInv] using z
theorem exA (T : Tot P lt) (sa : Srt lt a.toList) (pa : ∀ x ∈ a.toList, P x) {key : Keyed} (hk : P key) (n : Nat) (hn : i + n ≤ a.size) : ∃ k, k ≤ n ∧ ∀ t, t < n → (if false = true then lt (kas_item a (i + t)) key else !(lt key (kas_item a (i + t)))) = decide (t < k) := by
  refine bound _ n fun t u htu hu h => ?_
  rw [if_neg Bool.false_ne_true] at h ⊢
  rw [Bool.not_eq_true'] at h ⊢
  by_cases e : t = u
  · rw [e]; exact h
  · exact T.trans _ _ _ (pa _ (item_mem (by (clear e h hk pa sa T; omega)))) (pa _ (item_mem (by (clear e h htu hk pa sa T; omega)))) hk (srt_item T sa pa (by (clear h hu hn hk pa sa T; omega)) (by (clear e h htu hk pa sa T; omega))) h
theorem exB (T : Tot P lt) (sb : Srt lt b.toList) (pb : ∀ x ∈ b.toList, P x) {key : Keyed} (hk : P key) (n : Nat) (hn : j + n ≤ b.size) : ∃ k, k ≤ n ∧ ∀ t, t < n → (if true = true then lt (kas_item b (j + t)) key else !(lt key (kas_item b (j + t)))) = decide (t < k) := by
  refine bound _ n fun t u htu hu h => ?_
  rw [if_pos rfl] at h ⊢
  by_cases e : t = u
  · rw [e]; exact h
  · cases c : lt (kas_item b (j + t)) key with
    | true => rfl
    | false =>
      have z := T.trans _ _ _ hk (pb _ (item_mem (by (clear c e h hk pb sb T; omega)))) (pb _ (item_mem (by (clear c e h htu hk pb sb T; omega)))) c (srt_item T sb pb (show j + t < j + u by (clear c h hu hn hk pb sb T; omega)) (by (clear c e h htu hk pb sb T; omega)))
      rw [h] at z
      cases z
theorem galA (T : Tot P lt) (sb : Srt lt b.toList) (sa : Srt lt a.toList) (pa : ∀ x ∈ a.toList, P x) (pb : ∀ x ∈ b.toList, P x) (m : AInv lt a b out i j) (hi : i ≤ a.size) (hj : j < b.size) (hk : k ≤ a.size - i)
    (h : ∀ t, t < a.size - i → (if false = true then lt (kas_item a (i + t)) (kas_item b j) else !(lt (kas_item b j) (kas_item a (i + t)))) = decide (t < k)) :
    AInv lt a b (out ++ a.extract i (i + k)) (i + k) j ∧ (i + k < a.size → lt (kas_item b j) (kas_item a (i + k)) = true) := by
  constructor
  · have z := m.chunkA sa k (fun x hx y hy => by
      obtain ⟨i', g1, g2, g3, rfl⟩ := chunk_item hx
      obtain ⟨j', h1, h2, rfl⟩ := drop_item hy
      have q := h (i' - i) (by (clear hy h2 h1 hx g3 h hj hi m pb pa sa sb T; omega))
      rw [if_neg Bool.false_ne_true, show i + (i' - i) = i' by (clear q hy h2 h1 hx g3 g2 h hk hj hi m pb pa sa sb T; omega), decide_eq_true (by (clear q hy h2 h1 hx g3 h hk hj hi m pb pa sa sb T; omega)), Bool.not_eq_true'] at q
      by_cases e : j = j'
      · rw [← e]; exact q
      · exact T.trans _ _ _ (pa _ (item_mem g3)) (pb _ (item_mem hj)) (pb _ (item_mem h2)) q (srt_item T sb pb (by (clear q hy h2 hx g3 g2 g1 h hk hj hi m pb pa sa sb T; omega)) h2))
    have e : (out ++ a.extract i (i + k)).toList = out.toList ++ (a.toList.drop i).take k := by
      rw [Array.toList_append, ext_list (by (clear z h hj m pb pa sa sb T; omega)), show i + k - i = k by (clear z h hk hj hi m pb pa sa sb T; omega)]
    show MInv lt _ _ (out ++ a.extract i (i + k)).toList _ _
    rw [e]
    exact z
  · intro hlt
    have q := h k (by (clear h hj m pb pa sa sb T; omega))
    rw [if_neg Bool.false_ne_true, decide_eq_false (by (clear q hlt h hk hj hi m pb pa sa sb T; omega)), Bool.not_eq_false'] at q
    exact q
theorem galB (T : Tot P lt) (sb : Srt lt b.toList) (sa : Srt lt a.toList) (pa : ∀ x ∈ a.toList, P x) (pb : ∀ x ∈ b.toList, P x) (m : AInv lt a b out i j) (hi : i < a.size) (hj : j ≤ b.size) (hk : k ≤ b.size - j)
    (h : ∀ t, t < b.size - j → (if true = true then lt (kas_item b (j + t)) (kas_item a i) else !(lt (kas_item a i) (kas_item b (j + t)))) = decide (t < k)) :
    AInv lt a b (out ++ b.extract j (j + k)) i (j + k) ∧ (j + k < b.size → lt (kas_item b (j + k)) (kas_item a i) = false) := by
  constructor
  · have z := m.chunkB sb k (fun x hx y hy => by
      obtain ⟨j', g1, g2, g3, rfl⟩ := chunk_item hx
      obtain ⟨i', h1, h2, rfl⟩ := drop_item hy
      have q := h (j' - j) (by (clear hy h2 h1 hx g3 h hj hi m pb pa sa sb T; omega))
      rw [if_pos rfl, show j + (j' - j) = j' by (clear q hy h2 h1 hx g3 g2 h hk hj hi m pb pa sa sb T; omega), decide_eq_true (by (clear q hy h2 h1 hx g3 h hk hj hi m pb pa sa sb T; omega))] at q
      have q1 := T.asym _ _ (pb _ (item_mem g3)) (pa _ (item_mem hi)) q
      by_cases e : i = i'
      · rw [← e]; exact q1
      · exact T.trans _ _ _ (pb _ (item_mem g3)) (pa _ (item_mem hi)) (pa _ (item_mem h2)) q1 (srt_item T sa pa (by (clear q1 q hy h2 hx g3 g2 g1 h hk hj hi m pb pa sa sb T; omega)) h2))
    have e : (out ++ b.extract j (j + k)).toList = out.toList ++ (b.toList.drop j).take k := by
      rw [Array.toList_append, ext_list (by (clear z h hi m pb pa sa sb T; omega)), show j + k - j = k by (clear z h hk hj hi m pb pa sa sb T; omega)]
    show MInv lt _ _ (out ++ b.extract j (j + k)).toList _ _
    rw [e]
    exact z
  · intro hlt
    have q := h k (by (clear h hi m pb pa sa sb T; omega))
    rw [if_pos rfl, decide_eq_false (by (clear q hlt h hk hj hi m pb pa sa sb T; omega))] at q
    exact q
theorem doneB (sa : Srt lt a.toList) (m : AInv lt a b out i j) (h : j = b.size) : FinA lt a b (out ++ a.extract i a.size ++ b.extract j b.size) := by
  have z := MInv.doneB m sa (by rw [h]; simp)
  show Fin2 lt _ _ (out ++ a.extract i a.size ++ b.extract j b.size).toList
  rw [Array.toList_append, Array.toList_append, ext_all, ext_all]
  exact z
theorem doneA (sb : Srt lt b.toList) (m : AInv lt a b out i j) (h : i = a.size) : FinA lt a b (out ++ a.extract i a.size ++ b.extract j b.size) := by
  have z := MInv.doneA m sb (by rw [h]; simp)
  show Fin2 lt _ _ (out ++ a.extract i a.size ++ b.extract j b.size).toList
  rw [Array.toList_append, Array.toList_append, ext_all, ext_all]
  exact z
theorem lastA (sa : Srt lt a.toList) (sb : Srt lt b.toList) (m : AInv lt a b out i j) (h : i + 1 = a.size) (hl : ∀ x ∈ b.toList, lt (kas_item a (a.size - 1)) x = false) : FinA lt a b (out ++ b.extract j b.size ++ a.extract i a.size) := by
  have z := MInv.lastA m sa sb (fun x hx y hy => by
    obtain ⟨i', g1, g2, rfl⟩ := drop_item hy
    have : i' = a.size - 1 := by (clear hy hx hl m sb sa; omega)
    rw [this]
    exact hl x hx)
  show Fin2 lt _ _ (out ++ b.extract j b.size ++ a.extract i a.size).toList
  rw [Array.toList_append, Array.toList_append, ext_all, ext_all]
  exact z
end
section
variable {prog : Program} {w : World} {A : Around} {E : Value → Shared → Prop} {κ : SortKind} {P : Keyed → Prop} {lt : Keyed → Keyed → Bool}
/-- all but the gallop's number stays -/
def Kp (st st' : SortSt) : Prop := kindOf st' = kindOf st ∧ arrOf st' = arrOf st ∧ pendingOf st' = pendingOf st ∧ failedOf st' = failedOf st
theorem Kp.refl (st : SortSt) : Kp st st := ⟨rfl, rfl, rfl, rfl⟩
theorem Kp.trans {a b c : SortSt} (h : Kp a b) (g : Kp b c) : Kp a c := ⟨g.1.trans h.1, g.2.1.trans h.2.1, g.2.2.1.trans h.2.2.1, g.2.2.2.trans h.2.2.2⟩
theorem setMG_ {g : Nat} {Q : Unit → SortSt → Shared → Prop} {st : SortSt} {s : Shared} (h : ∀ st', Kp st st' → Q () st' s) : kasC (model prog w) A E (setMG' g) Q st s := by
  refine kasC_modify (h _ ⟨rfl, rfl, rfl, rfl⟩)
theorem c_mg {α : Type} {X Y : Nat → M2 α} {Q : α → SortSt → Shared → Prop} {st : SortSt} {s : Shared} (hX : ∀ mg, X mg = Y (mg - 1)) (h : ∀ g, kasC (model prog w) A E (Y g) Q st s) :
    ∀ mg : Nat, kasC (model prog w) A E (if mg > 1 then X mg else Y mg) Q st s := by
  intro mg
  by_cases c : mg > 1
  · rw [if_pos c, hX]
    exact h _
  · rw [if_neg c]
    exact h _
end
end TS
namespace TS
open PySem PySem.W PyProof.Rows
section
variable {prog : Program} {w : World} {A : Around} {E : Value → Shared → Prop} {κ : SortKind} {P : Keyed → Prop} {lt : Keyed → Keyed → Bool}
theorem mergeLo_ {s : Shared} (G : Good prog w A E κ P lt s) (T : Tot P lt) {a b : Array Keyed} {Q : Array Keyed → SortSt → Shared → Prop} {st : SortSt} (hst : kindOf st = κ) (pa : ∀ x ∈ a.toList, P x) (pb : ∀ x ∈ b.toList, P x) (sa : Srt lt a.toList) (sb : Srt lt b.toList)
    (na : 0 < a.size) (nb : 0 < b.size) (h0 : lt (kas_item b 0) (kas_item a 0) = true) (hl : ∀ x ∈ b.toList, lt (kas_item a (a.size - 1)) x = false) (h : ∀ r st', Kp st st' → FinA lt a b r → Q r st' s) : kasC (model prog w) A E (mergeLo' a b) Q st s := by
  have m0 : AInv lt a b (#[] : Array Keyed) 0 0 := MInv.zero _ _
  have m1 := pushB T sb sa pa pb m0 na nb h0
  refine kasC_bind (kasC_lift (wpAny_rule ?_))
  refine kasC_bind (c_elem nb ?_)
  dsimp only
  by_cases c1 : 1 = b.size
  · rw [if_pos (by simp [← c1])]
    exact kasC_pure (h _ _ (Kp.refl _) (doneB sa m1 c1))
  rw [if_neg (by simpa using c1)]
  by_cases c2 : 0 + 1 = a.size
  · rw [if_pos (by simp [← c2])]
    exact kasC_pure (h _ _ (Kp.refl _) (lastA sa sb m1 c2 hl))
  rw [if_neg (by simpa using c2)]
  refine kasC_bind (kasC_get ?_)
  refine kasC_bind (c_rangeR (fun t r st' s' => Kp st st' ∧ s' = s ∧ ∃ out i j mg, r = (none, out, i, j, mg) ∧ AInv lt a b out i j ∧ i + 1 < a.size ∧ j < b.size ∧ t ≤ i + j)
    (fun r st' s' => Kp st st' ∧ s' = s ∧ ∃ res z, r = (some res, z) ∧ FinA lt a b res) ⟨Kp.refl _, rfl, _, _, _, _, rfl, m1, by (clear c1 m1 m0 h hl h0 nb sb sa pb pa hst T G; omega), by (clear m1 m0 h hl h0 sb sa pb pa hst T G; omega), by (clear c2 c1 m1 m0 h hl h0 nb na sb sa pb pa hst T G; omega)⟩ ?_ ?_ ?_)
  · rintro r st' s' ⟨_, _, out, i, j, mg, _, _, h1, h2, h3⟩
    (clear c2 c1 m1 m0 h hl h0 nb na sb sa pb pa hst T G; omega)
  · rintro t x r st' s' ht ⟨K1, rfl, out, i, j, mg, rfl, m, hi, hj, hij⟩
    dsimp only
    refine kasC_bind (c_rangeR (fun u r st₂ s₂ => st₂ = st' ∧ s₂ = s' ∧ ∃ out₂ i₂ j₂ ac bc, r = (none, out₂, i₂, j₂, ac, bc) ∧ AInv lt a b out₂ i₂ j₂ ∧ i₂ + 1 < a.size ∧ j₂ < b.size ∧ u + (i + j) ≤ i₂ + j₂)
      (fun r st₂ s₂ => st₂ = st' ∧ s₂ = s' ∧ ((∃ res z, r = (some res, z) ∧ FinA lt a b res) ∨ ∃ out₂ i₂ j₂ ac bc, r = (none, out₂, i₂, j₂, ac, bc) ∧ AInv lt a b out₂ i₂ j₂ ∧ i₂ + 1 < a.size ∧ j₂ < b.size ∧ i + j ≤ i₂ + j₂))
      ⟨rfl, rfl, _, _, _, _, _, rfl, m, hi, hj, by (clear hij hj hi m h G K1 ht c2 c1 m1 m0 hl h0 nb na sb sa pb pa hst T; omega)⟩ ?_ ?_ ?_)
    · rintro r st₂ s₂ ⟨_, _, out₂, i₂, j₂, ac, bc, _, _, h1, h2, h3⟩
      (clear hj hi m h G K1 ht c2 c1 m1 m0 hl h0 nb na sb sa pb pa hst T; omega)
    · rintro u x r st₂ s₂ hu ⟨rfl, rfl, out₂, i₂, j₂, ac, bc, rfl, m₂, hi₂, hj₂, hu₂⟩
      dsimp only
      refine kasC_bind (c_elem hj₂ (kasC_bind (c_elem (show i₂ < a.size by (clear hu₂ hj₂ m₂ h G K1 hu hij hj hi m ht c2 c1 m1 m0 hl h0 nb na sb sa pb pa hst T; omega)) ?_)))
      refine kasC_bind (G _ _ _ _ (pb _ (item_mem hj₂)) (pa _ (item_mem (show i₂ < a.size by (clear hu₂ hj₂ m₂ h G K1 hu hij hj hi m ht c2 c1 m1 m0 hl h0 nb na sb sa pb pa hst T; omega)))) (K1.1.trans hst) ?_)
      dsimp only
      cases hb : lt (kas_item b j₂) (kas_item a i₂) with
      | true =>
        rw [if_pos rfl]
        refine kasC_bind (c_elem hj₂ ?_)
        have m₃ := pushB T sb sa pa pb m₂ (by (clear hb hu₂ hj₂ m₂ h G K1 hu hij hj hi m ht c2 c1 m1 m0 hl h0 nb na sb sa pb pa hst T; omega)) hj₂ hb
        by_cases d1 : j₂ + 1 = b.size
        · rw [if_pos (by simp [← d1])]
          exact kasC_pure ⟨rfl, rfl, .inl ⟨_, _, rfl, doneB sa m₃ d1⟩⟩
        rw [if_neg (by simpa using d1)]
        by_cases d2 : bc + 1 ≥ mg
        · rw [if_pos d2]
          exact kasC_pure ⟨rfl, rfl, .inr ⟨_, _, _, _, _, rfl, m₃, hi₂, by (clear d2 m₃ hb hu₂ hi₂ m₂ h G K1 hu hij hj hi m ht c2 c1 m1 m0 hl h0 nb na sb sa pb pa hst T; omega), by (clear d2 d1 m₃ hb hj₂ hi₂ m₂ h G K1 hu hij hj hi m ht c2 c1 m1 m0 hl h0 nb na sb sa pb pa hst T; omega)⟩⟩
        · rw [if_neg d2]
          exact kasC_pure ⟨rfl, rfl, _, _, _, _, _, rfl, m₃, hi₂, by (clear d2 m₃ hb hu₂ hi₂ m₂ h G K1 hu hij hj hi m ht c2 c1 m1 m0 hl h0 nb na sb sa pb pa hst T; omega), by (clear d2 d1 m₃ hb hj₂ hi₂ m₂ h G K1 hu hij hj hi m ht c2 c1 m1 m0 hl h0 nb na sb sa pb pa hst T; omega)⟩
      | false =>
        rw [if_neg Bool.false_ne_true]
        refine kasC_bind (c_elem (show i₂ < a.size by (clear hb hu₂ hj₂ m₂ h G K1 hu hij hj hi m ht c2 c1 m1 m0 hl h0 nb na sb sa pb pa hst T; omega)) ?_)
        have m₃ := pushA T sb sa pa pb m₂ (by (clear hb hu₂ hj₂ m₂ h G K1 hu hij hj hi m ht c2 c1 m1 m0 hl h0 nb na sb sa pb pa hst T; omega)) (fun _ => hb)
        by_cases d1 : i₂ + 1 + 1 = a.size
        · rw [if_pos (by simp [← d1])]
          exact kasC_pure ⟨rfl, rfl, .inl ⟨_, _, rfl, lastA sa sb m₃ d1 hl⟩⟩
        rw [if_neg (by simpa using d1)]
        by_cases d2 : ac + 1 ≥ mg
        · rw [if_pos d2]
          exact kasC_pure ⟨rfl, rfl, .inr ⟨_, _, _, _, _, rfl, m₃, by (clear d2 m₃ hb hu₂ hj₂ m₂ h G K1 hu hij hj hi m ht c2 c1 m1 m0 hl h0 nb na sb sa pb pa hst T; omega), hj₂, by (clear d2 d1 m₃ hb hj₂ hi₂ m₂ h G K1 hu hij hj hi m ht c2 c1 m1 m0 hl h0 nb na sb sa pb pa hst T; omega)⟩⟩
        · rw [if_neg d2]
          exact kasC_pure ⟨rfl, rfl, _, _, _, _, _, rfl, m₃, by (clear d2 m₃ hb hu₂ hj₂ m₂ h G K1 hu hij hj hi m ht c2 c1 m1 m0 hl h0 nb na sb sa pb pa hst T; omega), hj₂, by (clear d2 d1 m₃ hb hj₂ hi₂ m₂ h G K1 hu hij hj hi m ht c2 c1 m1 m0 hl h0 nb na sb sa pb pa hst T; omega)⟩
    · rintro r st₂ s₂ ⟨rfl, rfl, hr⟩
      rcases hr with ⟨res, z, rfl, hf⟩ | ⟨out₂, i₂, j₂, ac, bc, rfl, m₂, hi₂, hj₂, hu₂⟩
      · exact kasC_pure ⟨K1, rfl, _, _, rfl, hf⟩
      dsimp only
      refine kasC_bind (kasC_lift (wpAny_rule ?_))
      refine kasC_bind (c_rangeR (fun u r st₃ s₃ => Kp st st₃ ∧ s₃ = s₂ ∧ ∃ out₃ i₃ j₃ mg ac bc, r = (none, out₃, i₃, j₃, mg, ac, bc) ∧ AInv lt a b out₃ i₃ j₃ ∧ i₃ + 1 < a.size ∧ j₃ < b.size ∧ u + (i₂ + j₂) ≤ i₃ + j₃)
        (fun r st₃ s₃ => Kp st st₃ ∧ s₃ = s₂ ∧ ((∃ res z, r = (some res, z) ∧ FinA lt a b res) ∨ ∃ out₃ i₃ j₃ mg ac bc, r = (none, out₃, i₃, j₃, mg, ac, bc) ∧ AInv lt a b out₃ i₃ j₃ ∧ i₃ + 1 < a.size ∧ j₃ < b.size ∧ i₂ + j₂ + 1 ≤ i₃ + j₃))
        ⟨K1, rfl, _, _, _, _, _, _, rfl, m₂, hi₂, hj₂, by (clear hu₂ hj₂ hi₂ m₂ h G K1 hij hj hi m ht c2 c1 m1 m0 hl h0 nb na sb sa pb pa hst T; omega)⟩ ?_ ?_ ?_)
      · rintro r st₃ s₃ ⟨_, _, out₃, i₃, j₃, mg, ac, bc, _, _, h1, h2, h3⟩
        (clear hj₂ hi₂ m₂ h G K1 hj hi m ht c2 c1 m1 m0 hl h0 nb na sb sa pb pa hst T; omega)
      · rintro u x r st₃ s₃ hu ⟨K3, rfl, out₃, i₃, j₃, mg, ac, bc, rfl, m₃, hi₃, hj₃, hu₃⟩
        dsimp only
        obtain ⟨k, hk, hB⟩ := exA T sa pa (pb _ (item_mem hj₃)) (a.size - i₃) (i := i₃) (by (clear hu₃ hj₃ m₃ h G K3 hu hu₂ hj₂ hi₂ m₂ K1 hij hj hi m ht c2 c1 m1 m0 hl h0 nb na sb sa pb pa hst T; omega))
        obtain ⟨m₄, hk4⟩ := galA T sb sa pa pb m₃ (by (clear hB hk hu₃ hj₃ m₃ h G K3 hu hu₂ hj₂ hi₂ m₂ K1 hij hj hi m ht c2 c1 m1 m0 hl h0 nb na sb sa pb pa hst T; omega)) hj₃ hk hB
        have key : ∀ st₄, Kp st st₄ → kindOf st₄ = κ := fun st₄ K4 => K4.1.trans hst
        revert mg
        refine c_mg ?_ fun mgx => ?_
        · intro _; rfl
        refine kasC_bind (setMG_ fun st₄ K4 => ?_)
        have K5 := K3.trans K4
        refine kasC_bind (c_elem hj₃ ?_)
        refine kasC_bind (gallop_ G (key _ K5) (pb _ (item_mem hj₃)) (fun t ht => pa _ (item_mem (by (clear K5 K4 key m₄ hB hk hu₃ hj₃ m₃ h G K3 hu hu₂ hj₂ hi₂ m₂ K1 hij hj hi m c2 c1 m1 m0 hl h0 nb na sb sa pb pa hst T; omega)))) (by (clear K5 K4 key m₄ hB hk hu₃ hj₃ m₃ h G K3 hu hu₂ hj₂ hi₂ m₂ K1 hij hj hi m ht c2 c1 m1 m0 hl h0 nb na sb sa pb pa hst T; omega)) (by (clear K5 K4 key m₄ hB hu₃ hj₃ m₃ h G K3 hu hu₂ hj₂ hi₂ m₂ K1 hij hj hi m ht c2 c1 m1 m0 hl h0 nb na sb sa pb pa hst T; omega)) hk hB ?_)
        dsimp only
        by_cases hk0 : k > 0
        · rw [if_pos hk0]
          by_cases d1 : i₃ + k + 1 = a.size
          · rw [if_pos (by simp [← d1])]
            exact kasC_pure ⟨K5, rfl, .inl ⟨_, _, rfl, lastA sa sb m₄ d1 hl⟩⟩
          rw [if_neg (by simpa using d1)]
          by_cases d2 : i₃ + k = a.size
          · rw [if_pos (by simp [← d2])]
            exact kasC_pure ⟨K5, rfl, .inl ⟨_, _, rfl, doneA sb m₄ d2⟩⟩
          rw [if_neg (by simpa using d2)]
          refine kasC_bind (c_elem hj₃ ?_)
          have m₅ := pushB T sb sa pa pb m₄ (show i₃ + k < a.size by (clear hk0 K5 K4 key m₄ hB hu₃ hj₃ m₃ h G K3 hu hu₂ hj₂ hi₂ m₂ K1 hij hj hi m ht c2 c1 m1 m0 hl h0 nb na sb sa pb pa hst T; omega)) hj₃ (hk4 (by (clear hk0 K5 K4 key m₄ hB hu₃ hj₃ m₃ h G K3 hu hu₂ hj₂ hi₂ m₂ K1 hij hj hi m ht c2 c1 m1 m0 hl h0 nb na sb sa pb pa hst T; omega)))
          by_cases d3 : j₃ + 1 = b.size
          · rw [if_pos (by simp [← d3])]
            exact kasC_pure ⟨K5, rfl, .inl ⟨_, _, rfl, doneB sa m₅ d3⟩⟩
          rw [if_neg (by simpa using d3)]
          have hi5 : i₃ + k < a.size := by (clear m₅ hk0 K5 K4 key m₄ hB hu₃ m₃ h G K3 hu hu₂ hj₂ hi₂ m₂ K1 hij hj hi m ht c2 c1 m1 m0 hl h0 nb na sb sa pb pa hst T; omega)
          refine kasC_bind (c_elem hi5 ?_)
          obtain ⟨k2, hk2, hB2⟩ := exB T sb pb (pa _ (item_mem hi5)) (b.size - (j₃ + 1)) (j := j₃ + 1) (by (clear hi5 d3 m₅ d2 d1 hk0 K5 K4 key hk4 m₄ hB hk hu₃ hi₃ m₃ h G K3 hu hu₂ hj₂ hi₂ m₂ K1 hij hj hi m ht c2 c1 m1 m0 hl h0 nb na sb sa pb pa hst T; omega))
          obtain ⟨m₆, hk6⟩ := galB T sb sa pa pb m₅ hi5 (by (clear hB2 hk2 hi5 d3 m₅ d2 d1 hk0 K5 K4 key hk4 m₄ hB hk hu₃ hi₃ m₃ h G K3 hu hu₂ hj₂ hi₂ m₂ K1 hij hj hi m ht c2 c1 m1 m0 hl h0 nb na sb sa pb pa hst T; omega)) hk2 hB2
          refine kasC_bind (gallop_ G (key _ K5) (pa _ (item_mem hi5)) (fun t ht => pb _ (item_mem (by (clear m₆ hB2 hk2 hi5 d3 m₅ d2 d1 hk0 K5 K4 key hk4 m₄ hB hk hu₃ hi₃ m₃ h G K3 hu hu₂ hj₂ hi₂ m₂ K1 hij hj hi m c2 c1 m1 m0 hl h0 nb na sb sa pb pa hst T; omega)))) (by (clear m₆ hB2 hk2 hi5 d3 m₅ d2 d1 hk0 K5 K4 key hk4 m₄ hB hk hu₃ hi₃ m₃ h G K3 hu hu₂ hj₂ hi₂ m₂ K1 hij hj hi m ht c2 c1 m1 m0 hl h0 nb na sb sa pb pa hst T; omega)) (by (clear m₆ hB2 hk2 hi5 m₅ d2 d1 hk0 K5 K4 key hk4 m₄ hB hk hu₃ hi₃ m₃ h G K3 hu hu₂ hj₂ hi₂ m₂ K1 hij hj hi m ht c2 c1 m1 m0 hl h0 nb na sb sa pb pa hst T; omega)) hk2 hB2 ?_)
          dsimp only
          by_cases hk20 : k2 > 0
          · rw [if_pos hk20]
            by_cases d4 : j₃ + 1 + k2 = b.size
            · rw [if_pos (by simp [← d4])]
              exact kasC_pure ⟨K5, rfl, .inl ⟨_, _, rfl, doneB sa m₆ d4⟩⟩
            rw [if_neg (by simpa using d4)]
            refine kasC_bind (c_elem hi5 ?_)
            have m₇ := pushA T sb sa pa pb m₆ hi5 (fun hh => hk6 hh)
            by_cases d5 : i₃ + k + 1 + 1 = a.size
            · rw [if_pos (by simp [← d5])]
              exact kasC_pure ⟨K5, rfl, .inl ⟨_, _, rfl, lastA sa sb m₇ d5 hl⟩⟩
            rw [if_neg (by simpa using d5)]
            by_cases d6 : (decide (k < 7) && decide (k2 < 7)) = true
            · rw [if_pos d6]
              exact kasC_pure ⟨K5, rfl, .inr ⟨_, _, _, _, _, _, rfl, m₇, by (clear d6 m₇ hk20 m₆ hB2 m₅ hk0 K5 K4 key hk4 m₄ hB hk hu₃ hi₃ m₃ h G K3 hu hu₂ hj₂ hi₂ m₂ K1 hij hj hi m ht c2 c1 m1 m0 hl h0 nb na sb sa pb pa hst T; omega), by (clear d6 m₇ hk20 m₆ hB2 hi5 d3 m₅ d2 d1 hk0 K5 K4 key hk4 m₄ hB hk hu₃ hi₃ m₃ h G K3 hu hu₂ hj₂ hi₂ m₂ K1 hij hj hi m ht c2 c1 m1 m0 hl h0 nb na sb sa pb pa hst T; omega), by (clear d6 d5 m₇ d4 hk6 m₆ hB2 hk2 hi5 d3 m₅ d2 d1 K5 K4 key hk4 m₄ hB hk hj₃ hi₃ m₃ h G K3 hu hu₂ hj₂ hi₂ m₂ K1 hij hj hi m ht c2 c1 m1 m0 hl h0 nb na sb sa pb pa hst T; omega)⟩⟩
            · rw [if_neg d6]
              exact kasC_pure ⟨K5, rfl, _, _, _, _, _, _, rfl, m₇, by (clear d6 m₇ hk20 m₆ hB2 m₅ hk0 K5 K4 key hk4 m₄ hB hk hu₃ hi₃ m₃ h G K3 hu hu₂ hj₂ hi₂ m₂ K1 hij hj hi m ht c2 c1 m1 m0 hl h0 nb na sb sa pb pa hst T; omega), by (clear d6 m₇ hk20 m₆ hB2 hi5 d3 m₅ d2 d1 hk0 K5 K4 key hk4 m₄ hB hk hu₃ hi₃ m₃ h G K3 hu hu₂ hj₂ hi₂ m₂ K1 hij hj hi m ht c2 c1 m1 m0 hl h0 nb na sb sa pb pa hst T; omega), by (clear d6 d5 m₇ d4 hk6 m₆ hB2 hk2 hi5 d3 m₅ d2 d1 K5 K4 key hk4 m₄ hB hk hj₃ hi₃ m₃ h G K3 hu hu₂ hj₂ hi₂ m₂ K1 hij hj hi m ht c2 c1 m1 m0 hl h0 nb na sb sa pb pa hst T; omega)⟩
          · rw [if_neg hk20]
            have ek2 : k2 = 0 := by (clear hk6 m₆ hB2 hk2 hi5 d3 m₅ d2 d1 hk0 K5 K4 key hk4 m₄ hB hk hu₃ hj₃ hi₃ m₃ h G K3 hu hu₂ hj₂ hi₂ m₂ K1 hij hj hi m ht c2 c1 m1 m0 hl h0 nb na sb sa pb pa hst T; omega)
            subst ek2
            refine kasC_bind (c_elem hi5 ?_)
            have m₇ := pushA T sb sa pa pb m₅ hi5 (fun hh => hk6 hh)
            by_cases d5 : i₃ + k + 1 + 1 = a.size
            · rw [if_pos (by simp [← d5])]
              exact kasC_pure ⟨K5, rfl, .inl ⟨_, _, rfl, lastA sa sb m₇ d5 hl⟩⟩
            rw [if_neg (by simpa using d5)]
            by_cases d6 : (decide (k < 7) && decide (0 < 7)) = true
            · rw [if_pos d6]
              exact kasC_pure ⟨K5, rfl, .inr ⟨_, _, _, _, _, _, rfl, m₇, by (clear d6 m₇ hk20 m₆ hB2 hk2 m₅ hk0 K5 K4 key hk4 m₄ hB hk hu₃ hi₃ m₃ h G K3 hu hu₂ hj₂ hi₂ m₂ K1 hij hj hi m ht c2 c1 m1 m0 hl h0 nb na sb sa pb pa hst T; omega), by (clear d6 m₇ hk20 m₆ hB2 hk2 hi5 m₅ d2 d1 hk0 K5 K4 key hk4 m₄ hB hk hu₃ hi₃ m₃ h G K3 hu hu₂ hj₂ hi₂ m₂ K1 hij hj hi m ht c2 c1 m1 m0 hl h0 nb na sb sa pb pa hst T; omega), by (clear d6 d5 m₇ hk20 hk6 m₆ hB2 hk2 hi5 d3 m₅ d2 d1 K5 K4 key hk4 m₄ hB hk hj₃ hi₃ m₃ h G K3 hu hu₂ hj₂ hi₂ m₂ K1 hij hj hi m ht c2 c1 m1 m0 hl h0 nb na sb sa pb pa hst T; omega)⟩⟩
            · rw [if_neg d6]
              exact kasC_pure ⟨K5, rfl, _, _, _, _, _, _, rfl, m₇, by (clear d6 m₇ hk20 m₆ hB2 hk2 m₅ hk0 K5 K4 key hk4 m₄ hB hk hu₃ hi₃ m₃ h G K3 hu hu₂ hj₂ hi₂ m₂ K1 hij hj hi m ht c2 c1 m1 m0 hl h0 nb na sb sa pb pa hst T; omega), by (clear d6 m₇ hk20 m₆ hB2 hk2 hi5 m₅ d2 d1 hk0 K5 K4 key hk4 m₄ hB hk hu₃ hi₃ m₃ h G K3 hu hu₂ hj₂ hi₂ m₂ K1 hij hj hi m ht c2 c1 m1 m0 hl h0 nb na sb sa pb pa hst T; omega), by (clear d6 d5 m₇ hk20 hk6 m₆ hB2 hk2 hi5 d3 m₅ d2 d1 K5 K4 key hk4 m₄ hB hk hj₃ hi₃ m₃ h G K3 hu hu₂ hj₂ hi₂ m₂ K1 hij hj hi m ht c2 c1 m1 m0 hl h0 nb na sb sa pb pa hst T; omega)⟩
        · rw [if_neg hk0]
          have ek : k = 0 := by (clear K5 K4 key hk4 m₄ hB hk hu₃ hj₃ hi₃ m₃ h G K3 hu hu₂ hj₂ hi₂ m₂ K1 hij hj hi m ht c2 c1 m1 m0 hl h0 nb na sb sa pb pa hst T; omega)
          subst ek
          refine kasC_bind (c_elem hj₃ ?_)
          have m₅ := pushB T sb sa pa pb m₃ (show i₃ < a.size by (clear hk0 hk4 m₄ hB hk K5 K4 key hu₃ hj₃ m₃ h G K3 hu hu₂ hj₂ hi₂ m₂ K1 hij hj hi m ht c2 c1 m1 m0 hl h0 nb na sb sa pb pa hst T; omega)) hj₃ (hk4 (by (clear hk0 hk4 m₄ hB hk K5 K4 key hu₃ hj₃ m₃ h G K3 hu hu₂ hj₂ hi₂ m₂ K1 hij hj hi m ht c2 c1 m1 m0 hl h0 nb na sb sa pb pa hst T; omega)))
          by_cases d3 : j₃ + 1 = b.size
          · rw [if_pos (by simp [← d3])]
            exact kasC_pure ⟨K5, rfl, .inl ⟨_, _, rfl, doneB sa m₅ d3⟩⟩
          rw [if_neg (by simpa using d3)]
          have hi5 : i₃ < a.size := by (clear d3 m₅ hk0 hk4 m₄ hB hk K5 K4 key hu₃ hj₃ m₃ h G K3 hu hu₂ hj₂ hi₂ m₂ K1 hij hj hi m ht c2 c1 m1 m0 hl h0 nb na sb sa pb pa hst T; omega)
          refine kasC_bind (c_elem hi5 ?_)
          obtain ⟨k2, hk2, hB2⟩ := exB T sb pb (pa _ (item_mem hi5)) (b.size - (j₃ + 1)) (j := j₃ + 1) (by (clear hi5 d3 m₅ hk0 hk4 m₄ hB hk K5 K4 key hu₃ hi₃ m₃ h G K3 hu hu₂ hj₂ hi₂ m₂ K1 hij hj hi m ht c2 c1 m1 m0 hl h0 nb na sb sa pb pa hst T; omega))
          obtain ⟨m₆, hk6⟩ := galB T sb sa pa pb m₅ hi5 (by (clear hB2 hk2 hi5 d3 m₅ hk0 hk4 m₄ hB hk K5 K4 key hu₃ hi₃ m₃ h G K3 hu hu₂ hj₂ hi₂ m₂ K1 hij hj hi m ht c2 c1 m1 m0 hl h0 nb na sb sa pb pa hst T; omega)) hk2 hB2
          refine kasC_bind (gallop_ G (key _ K5) (pa _ (item_mem hi5)) (fun t ht => pb _ (item_mem (by (clear m₆ hB2 hk2 hi5 d3 m₅ hk0 hk4 m₄ hB hk K5 K4 key hu₃ hi₃ m₃ h G K3 hu hu₂ hj₂ hi₂ m₂ K1 hij hj hi m c2 c1 m1 m0 hl h0 nb na sb sa pb pa hst T; omega)))) (by (clear m₆ hB2 hk2 hi5 d3 m₅ hk0 hk4 m₄ hB hk K5 K4 key hu₃ hi₃ m₃ h G K3 hu hu₂ hj₂ hi₂ m₂ K1 hij hj hi m ht c2 c1 m1 m0 hl h0 nb na sb sa pb pa hst T; omega)) (by (clear m₆ hB2 hk2 hi5 m₅ hk0 hk4 m₄ hB hk K5 K4 key hu₃ hi₃ m₃ h G K3 hu hu₂ hj₂ hi₂ m₂ K1 hij hj hi m ht c2 c1 m1 m0 hl h0 nb na sb sa pb pa hst T; omega)) hk2 hB2 ?_)
          dsimp only
          by_cases hk20 : k2 > 0
          · rw [if_pos hk20]
            by_cases d4 : j₃ + 1 + k2 = b.size
            · rw [if_pos (by simp [← d4])]
              exact kasC_pure ⟨K5, rfl, .inl ⟨_, _, rfl, doneB sa m₆ d4⟩⟩
            rw [if_neg (by simpa using d4)]
            refine kasC_bind (c_elem hi5 ?_)
            have m₇ := pushA T sb sa pa pb m₆ hi5 (fun hh => hk6 hh)
            by_cases d5 : i₃ + 1 + 1 = a.size
            · rw [if_pos (by simp [← d5])]
              exact kasC_pure ⟨K5, rfl, .inl ⟨_, _, rfl, lastA sa sb m₇ d5 hl⟩⟩
            rw [if_neg (by simpa using d5)]
            by_cases d6 : (decide (0 < 7) && decide (k2 < 7)) = true
            · rw [if_pos d6]
              exact kasC_pure ⟨K5, rfl, .inr ⟨_, _, _, _, _, _, rfl, m₇, by (clear d6 m₇ d4 hk20 hk6 m₆ hB2 hk2 hi5 d3 m₅ hk0 hk4 m₄ hB hk K5 K4 key hu₃ hj₃ m₃ h G K3 hu hu₂ hj₂ hi₂ m₂ K1 hij hj hi m ht c2 c1 m1 m0 hl h0 nb na sb sa pb pa hst T; omega), by (clear d6 m₇ hk20 m₆ hB2 hi5 d3 m₅ hk0 hk4 m₄ hB hk K5 K4 key hu₃ m₃ h G K3 hu hu₂ hj₂ hi₂ m₂ K1 hij hj hi m ht c2 c1 m1 m0 hl h0 nb na sb sa pb pa hst T; omega), by (clear d6 d5 m₇ d4 hk6 m₆ hB2 hk2 hi5 d3 m₅ hk0 hk4 m₄ hB hk K5 K4 key hj₃ hi₃ m₃ h G K3 hu hu₂ hj₂ hi₂ m₂ K1 hij hj hi m ht c2 c1 m1 m0 hl h0 nb na sb sa pb pa hst T; omega)⟩⟩
            · rw [if_neg d6]
              exact kasC_pure ⟨K5, rfl, _, _, _, _, _, _, rfl, m₇, by (clear d6 m₇ d4 hk20 hk6 m₆ hB2 hk2 hi5 d3 m₅ hk0 hk4 m₄ hB hk K5 K4 key hu₃ hj₃ m₃ h G K3 hu hu₂ hj₂ hi₂ m₂ K1 hij hj hi m ht c2 c1 m1 m0 hl h0 nb na sb sa pb pa hst T; omega), by (clear d6 m₇ hk20 m₆ hB2 hi5 d3 m₅ hk0 hk4 m₄ hB hk K5 K4 key hu₃ m₃ h G K3 hu hu₂ hj₂ hi₂ m₂ K1 hij hj hi m ht c2 c1 m1 m0 hl h0 nb na sb sa pb pa hst T; omega), by (clear d6 d5 m₇ d4 hk6 m₆ hB2 hk2 hi5 d3 m₅ hk0 hk4 m₄ hB hk K5 K4 key hj₃ hi₃ m₃ h G K3 hu hu₂ hj₂ hi₂ m₂ K1 hij hj hi m ht c2 c1 m1 m0 hl h0 nb na sb sa pb pa hst T; omega)⟩
          · rw [if_neg hk20]
            have ek2 : k2 = 0 := by (clear hk6 m₆ hB2 hk2 hi5 d3 m₅ hk0 hk4 m₄ hB hk K5 K4 key hu₃ hj₃ hi₃ m₃ h G K3 hu hu₂ hj₂ hi₂ m₂ K1 hij hj hi m ht c2 c1 m1 m0 hl h0 nb na sb sa pb pa hst T; omega)
            subst ek2
            refine kasC_bind (c_elem hi5 ?_)
            have m₇ := pushA T sb sa pa pb m₅ hi5 (fun hh => hk6 hh)
            by_cases d5 : i₃ + 1 + 1 = a.size
            · rw [if_pos (by simp [← d5])]
              exact kasC_pure ⟨K5, rfl, .inl ⟨_, _, rfl, lastA sa sb m₇ d5 hl⟩⟩
            rw [if_neg (by simpa using d5)]
            by_cases d6 : (decide (0 < 7) && decide (0 < 7)) = true
            · rw [if_pos d6]
              exact kasC_pure ⟨K5, rfl, .inr ⟨_, _, _, _, _, _, rfl, m₇, by (clear d6 m₇ hk20 hk6 m₆ hB2 hk2 hi5 d3 m₅ hk0 hk4 m₄ hB hk K5 K4 key hu₃ hj₃ m₃ h G K3 hu hu₂ hj₂ hi₂ m₂ K1 hij hj hi m ht c2 c1 m1 m0 hl h0 nb na sb sa pb pa hst T; omega), by (clear d6 m₇ hk20 m₆ hB2 hk2 hi5 m₅ hk0 hk4 m₄ hB hk K5 K4 key hu₃ m₃ h G K3 hu hu₂ hj₂ hi₂ m₂ K1 hij hj hi m ht c2 c1 m1 m0 hl h0 nb na sb sa pb pa hst T; omega), by (clear d6 d5 m₇ hk20 hk6 m₆ hB2 hk2 hi5 d3 m₅ hk0 hk4 m₄ hB hk K5 K4 key hj₃ hi₃ m₃ h G K3 hu hu₂ hj₂ hi₂ m₂ K1 hij hj hi m ht c2 c1 m1 m0 hl h0 nb na sb sa pb pa hst T; omega)⟩⟩
            · rw [if_neg d6]
              exact kasC_pure ⟨K5, rfl, _, _, _, _, _, _, rfl, m₇, by (clear d6 m₇ hk20 hk6 m₆ hB2 hk2 hi5 d3 m₅ hk0 hk4 m₄ hB hk K5 K4 key hu₃ hj₃ m₃ h G K3 hu hu₂ hj₂ hi₂ m₂ K1 hij hj hi m ht c2 c1 m1 m0 hl h0 nb na sb sa pb pa hst T; omega), by (clear d6 m₇ hk20 m₆ hB2 hk2 hi5 m₅ hk0 hk4 m₄ hB hk K5 K4 key hu₃ m₃ h G K3 hu hu₂ hj₂ hi₂ m₂ K1 hij hj hi m ht c2 c1 m1 m0 hl h0 nb na sb sa pb pa hst T; omega), by (clear d6 d5 m₇ hk20 hk6 m₆ hB2 hk2 hi5 d3 m₅ hk0 hk4 m₄ hB hk K5 K4 key hj₃ hi₃ m₃ h G K3 hu hu₂ hj₂ hi₂ m₂ K1 hij hj hi m ht c2 c1 m1 m0 hl h0 nb na sb sa pb pa hst T; omega)⟩
      · rintro r st₃ s₃ ⟨K3, rfl, hr⟩
        rcases hr with ⟨res, z, rfl, hf⟩ | ⟨out₃, i₃, j₃, mg, ac, bc, rfl, m₃, hi₃, hj₃, hu₃⟩
        · exact kasC_pure ⟨K3, rfl, _, _, rfl, hf⟩
        dsimp only
        refine kasC_bind (setMG_ fun st₄ K4 => ?_)
        exact kasC_pure ⟨K3.trans K4, rfl, _, _, _, _, rfl, m₃, hi₃, hj₃, by (clear K4 hj₃ hi₃ m₃ h G K3 hj₂ hi₂ m₂ K1 hj hi m ht c2 c1 m1 m0 hl h0 nb na sb sa pb pa hst T; omega)⟩
  · rintro r st' s' ⟨K1, rfl, res, z, rfl, hf⟩
    exact kasC_pure (h _ _ K1 hf)
end
end TS
namespace TS
open PySem PySem.W PyProof.Rows
section
variable {P : Keyed → Prop} {lt : Keyed → Keyed → Bool}
structure HInv (lt : Keyed → Keyed → Bool) (al bl o : List Keyed) (i j : Nat) : Prop where
  perm : o.Perm (al.drop i ++ bl.drop j)
  srt : Srt lt o
  ba : ∀ x ∈ al.take i, ∀ y ∈ o, lt y x = false
  bb : ∀ x ∈ bl.take j, ∀ y ∈ o, lt y x = false
theorem HInv.swap {al bl o : List Keyed} {i j : Nat} (m : HInv lt al bl o i j) : HInv lt bl al o j i := ⟨m.perm.trans List.perm_append_comm, m.srt, m.bb, m.ba⟩
theorem HInv.chunkA {al bl o : List Keyed} {i j : Nat} (m : HInv lt al bl o i j) (ha : Srt lt al) (at_ : Nat) (h : at_ ≤ i) (hi : i ≤ al.length) (hc : ∀ x ∈ bl.take j, ∀ y ∈ (al.take i).drop at_, lt y x = false) : HInv lt al bl ((al.take i).drop at_ ++ o) at_ j := by
  have hs : Srt lt (al.take i) := List.Pairwise.sublist (List.take_sublist i al) ha
  have e0 : (al.take i).take at_ = al.take at_ := by rw [List.take_take, Nat.min_eq_left h]
  have e1 : al.take i = al.take at_ ++ (al.take i).drop at_ := by rw [← e0, List.take_append_drop]
  have hs2 := hs
  rw [e1] at hs2
  have hs' := List.pairwise_append.mp hs2
  have e2 : al.drop at_ = (al.take i).drop at_ ++ al.drop i := by
    have z : al = al.take i ++ al.drop i := (List.take_append_drop i al).symm
    have z2 := congrArg (List.drop at_) z
    rw [List.drop_append_of_le_length (by rw [List.length_take]; (clear z2 z hs' hs2 e1 e0 hs hc ha m; omega))] at z2
    exact z2
  have sub1 : ∀ y ∈ (al.take i).drop at_, y ∈ al.take i := fun y hy => List.mem_of_mem_drop hy
  have sub2 : ∀ y ∈ al.take at_, y ∈ al.take i := fun y hy => by rw [e1]; exact List.mem_append_left _ hy
  refine ⟨?_, ?_, fun x hx y hy => ?_, fun x hx y hy => ?_⟩
  · rw [e2, List.append_assoc]
    exact m.perm.append_left _
  · exact List.pairwise_append.mpr ⟨hs'.2.1, m.srt, fun x hx y hy => m.ba x (sub1 x hx) y hy⟩
  · rcases List.mem_append.mp hy with h' | h'
    · exact hs'.2.2 x hx y h'
    · exact m.ba x (sub2 x hx) y h'
  · rcases List.mem_append.mp hy with h' | h'
    · exact hc x hx y h'
    · exact m.bb x hx y h'
theorem HInv.chunkB {al bl o : List Keyed} {i j : Nat} (m : HInv lt al bl o i j) (hb : Srt lt bl) (at_ : Nat) (h : at_ ≤ j) (hj : j ≤ bl.length) (hc : ∀ x ∈ al.take i, ∀ y ∈ (bl.take j).drop at_, lt y x = false) : HInv lt al bl ((bl.take j).drop at_ ++ o) i at_ :=
  (m.swap.chunkA hb at_ h hj hc).swap
theorem HInv.zero (al bl : List Keyed) : HInv lt al bl [] al.length bl.length := ⟨by simp, .nil, fun x hx y hy => absurd hy (by simp), fun x hx y hy => absurd hy (by simp)⟩
theorem HInv.fin {al bl o : List Keyed} (m : HInv lt al bl o 0 0) : Fin2 lt al bl o := ⟨by simpa using m.perm, m.srt⟩
variable {a b out : Array Keyed} {i j k : Nat}
abbrev BInv (lt : Keyed → Keyed → Bool) (a b out : Array Keyed) (i j : Nat) : Prop := HInv lt a.toList b.toList out.reverse.toList i j
theorem ext0 (h : i ≤ a.size) : (a.extract k i).toList = (a.toList.take i).drop k := by
  rw [ext_list h, List.drop_take]
theorem take_item {x : Keyed} (h : x ∈ a.toList.take i) : ∃ t, t < i ∧ t < a.size ∧ x = kas_item a t := by
  obtain ⟨m, hm⟩ := List.mem_iff_getElem?.mp h
  rw [List.getElem?_take] at hm
  by_cases c : m < i
  · rw [if_pos c] at hm
    have hl := (List.getElem?_eq_some_iff.mp hm).1
    have hl' : m < a.size := by simpa using hl
    refine ⟨m, c, hl', ?_⟩
    rw [item_get hl'] at hm
    exact (Option.some.inj hm).symm
  · rw [if_neg c] at hm
    cases hm
theorem mid_item {x : Keyed} (h : x ∈ (a.toList.take i).drop k) : ∃ t, k ≤ t ∧ t < i ∧ t < a.size ∧ x = kas_item a t := by
  obtain ⟨m, hm⟩ := List.mem_iff_getElem?.mp h
  rw [List.getElem?_drop, List.getElem?_take] at hm
  by_cases c : k + m < i
  · rw [if_pos c] at hm
    have hl := (List.getElem?_eq_some_iff.mp hm).1
    have hl' : k + m < a.size := by simpa using hl
    refine ⟨k + m, by (clear hl' hl c hm h; omega), c, hl', ?_⟩
    rw [item_get hl'] at hm
    exact (Option.some.inj hm).symm
  · rw [if_neg c] at hm
    cases hm
theorem one_last (h0 : 0 < i) (h : i ≤ a.size) : (a.toList.take i).drop (i - 1) = [kas_item a (i - 1)] := by
  obtain ⟨t, rfl⟩ : ∃ t, i = t + 1 := ⟨i - 1, by (clear h; omega)⟩
  have e := item_get (a := a) (i := t) (by (clear h0; omega))
  rw [Nat.add_sub_cancel, List.take_add_one, e, List.drop_append_of_le_length (by simp; (clear e h0; omega)), List.drop_of_length_le (by rw [List.length_take]; (clear e h h0; omega))]
  rfl
theorem hgalA (T : Tot P lt) (sb : Srt lt b.toList) (sa : Srt lt a.toList) (pa : ∀ x ∈ a.toList, P x) (pb : ∀ x ∈ b.toList, P x) (m : BInv lt a b out i j) (hi : i ≤ a.size) (hj0 : 0 < j) (hj : j ≤ b.size) (hk : k ≤ i)
    (h : ∀ t, k ≤ t → t < i → lt (kas_item b (j - 1)) (kas_item a t) = true) : BInv lt a b (out ++ (a.extract k i).reverse) k j := by
  have z := m.chunkA sa k hk (by simpa using hi) (fun x hx y hy => by
    obtain ⟨j', h1, h2, rfl⟩ := take_item hx
    obtain ⟨t, g1, g2, g3, rfl⟩ := mid_item hy
    have q := T.asym _ _ (pb _ (item_mem (by (clear hy g3 g2 g1 hx h2 h1 h hk hi m pb pa sa sb T; omega)))) (pa _ (item_mem g3)) (h t g1 g2)
    by_cases e : j' = j - 1
    · rw [e]; exact q
    · exact T.trans _ _ _ (pb _ (item_mem h2)) (pb _ (item_mem (by (clear e q hy g3 g2 g1 hx h2 h1 h hk hi m pb pa sa sb T; omega)))) (pa _ (item_mem g3)) (srt_item T sb pb (by (clear q hy g3 g2 g1 hx h2 h hk hj hi m pb pa sa sb T; omega)) (by (clear e q hy g3 g2 g1 hx h2 h1 h hk hi m pb pa sa sb T; omega))) q)
  have e : (out ++ (a.extract k i).reverse).reverse.toList = (a.toList.take i).drop k ++ out.reverse.toList := by
    rw [← ext0 hi]
    simp
  show HInv lt _ _ (out ++ (a.extract k i).reverse).reverse.toList _ _
  rw [e]
  exact z
theorem hgalB (T : Tot P lt) (sb : Srt lt b.toList) (sa : Srt lt a.toList) (pa : ∀ x ∈ a.toList, P x) (pb : ∀ x ∈ b.toList, P x) (m : BInv lt a b out i j) (hi0 : 0 < i) (hi : i ≤ a.size) (hj : j ≤ b.size) (hk : k ≤ j)
    (h : ∀ t, k ≤ t → t < j → lt (kas_item b t) (kas_item a (i - 1)) = false) : BInv lt a b (out ++ (b.extract k j).reverse) i k := by
  have z := m.chunkB sb k hk (by simpa using hj) (fun x hx y hy => by
    obtain ⟨i', h1, h2, rfl⟩ := take_item hx
    obtain ⟨t, g1, g2, g3, rfl⟩ := mid_item hy
    have q := h t g1 g2
    by_cases e : i' = i - 1
    · rw [e]; exact q
    · exact T.trans _ _ _ (pa _ (item_mem h2)) (pa _ (item_mem (by (clear e q hy g3 g2 g1 hx h2 h1 h hk hj m pb pa sa sb T; omega)))) (pb _ (item_mem g3)) (srt_item T sa pa (by (clear q hy g3 g2 g1 hx h2 h hk hj hi m pb pa sa sb T; omega)) (by (clear e q hy g3 g2 g1 hx h2 h1 h hk hj m pb pa sa sb T; omega))) q)
  have e : (out ++ (b.extract k j).reverse).reverse.toList = (b.toList.take j).drop k ++ out.reverse.toList := by
    rw [← ext0 hj]
    simp
  show HInv lt _ _ (out ++ (b.extract k j).reverse).reverse.toList _ _
  rw [e]
  exact z
theorem push_one (h0 : 0 < i) (h : i ≤ a.size) : out ++ (a.extract (i - 1) i).reverse = out.push (kas_item a (i - 1)) := by
  apply Array.toList_inj.mp
  rw [Array.toList_append, Array.toList_reverse, ext0 h, one_last h0 h]
  simp
theorem hpushA (T : Tot P lt) (sb : Srt lt b.toList) (sa : Srt lt a.toList) (pa : ∀ x ∈ a.toList, P x) (pb : ∀ x ∈ b.toList, P x) (m : BInv lt a b out i j) (hi0 : 0 < i) (hi : i ≤ a.size) (hj0 : 0 < j) (hj : j ≤ b.size) (h : lt (kas_item b (j - 1)) (kas_item a (i - 1)) = true) : BInv lt a b (out.push (kas_item a (i - 1))) (i - 1) j := by
  rw [← push_one hi0 hi]
  exact hgalA T sb sa pa pb m hi hj0 hj (by (clear h hj hj0 hi m pb pa sa sb T; omega)) fun t h1 h2 => by
    have : t = i - 1 := by (clear h hj hj0 hi m pb pa sa sb T; omega)
    rw [this]; exact h
theorem hpushB (T : Tot P lt) (sb : Srt lt b.toList) (sa : Srt lt a.toList) (pa : ∀ x ∈ a.toList, P x) (pb : ∀ x ∈ b.toList, P x) (m : BInv lt a b out i j) (hi0 : 0 < i) (hi : i ≤ a.size) (hj0 : 0 < j) (hj : j ≤ b.size) (h : lt (kas_item b (j - 1)) (kas_item a (i - 1)) = false) : BInv lt a b (out.push (kas_item b (j - 1))) i (j - 1) := by
  rw [← push_one hj0 hj]
  exact hgalB T sb sa pa pb m hi0 hi hj (by (clear h hj hi hi0 m pb pa sa sb T; omega)) fun t h1 h2 => by
    have : t = j - 1 := by (clear h hj hi hi0 m pb pa sa sb T; omega)
    rw [this]; exact h
theorem hdoneA (sb : Srt lt b.toList) (m : BInv lt a b out i j) (hj : j ≤ b.size) (h : i = 0) : FinA lt a b (a.extract 0 i ++ b.extract 0 j ++ out.reverse) := by
  subst h
  have z := (m.chunkB sb 0 (Nat.zero_le _) (by simpa using hj) (fun x hx => absurd hx (by simp))).fin
  show Fin2 lt _ _ (a.extract 0 0 ++ b.extract 0 j ++ out.reverse).toList
  rw [Array.toList_append, Array.toList_append, ext0 hj, ext0 (Nat.zero_le _)]
  simpa using z
theorem hdoneB (sa : Srt lt a.toList) (m : BInv lt a b out i j) (hi : i ≤ a.size) (h : j = 0) : FinA lt a b (a.extract 0 i ++ b.extract 0 j ++ out.reverse) := by
  subst h
  have z := (m.chunkA sa 0 (Nat.zero_le _) (by simpa using hi) (fun x hx => absurd hx (by simp))).fin
  show Fin2 lt _ _ (a.extract 0 i ++ b.extract 0 0 ++ out.reverse).toList
  rw [Array.toList_append, Array.toList_append, ext0 hi, ext0 (Nat.zero_le _)]
  simpa using z
theorem hfirst (sa : Srt lt a.toList) (sb : Srt lt b.toList) (m : BInv lt a b out i j) (hi : i ≤ a.size) (hj : j ≤ b.size) (h : j = 1) (hf : ∀ x ∈ a.toList, lt x (kas_item b 0) = false) : FinA lt a b (b.extract 0 j ++ a.extract 0 i ++ out.reverse) := by
  subst h
  have z := m.chunkA sa 0 (Nat.zero_le _) (by simpa using hi) (fun x hx y hy => by
    obtain ⟨t, h1, h2, rfl⟩ := take_item hx
    have : t = 0 := by (clear hx h2 hy hj m hf hi sb sa; omega)
    subst this
    exact hf y (List.mem_of_mem_take (List.mem_of_mem_drop hy)))
  have z2 := (z.chunkB sb 0 (Nat.zero_le _) (by simpa using hj) (fun x hx => absurd hx (by simp))).fin
  show Fin2 lt _ _ (b.extract 0 1 ++ a.extract 0 i ++ out.reverse).toList
  rw [Array.toList_append, Array.toList_append, ext0 hi, ext0 hj]
  simpa using z2
end
section
variable {prog : Program} {w : World} {A : Around} {E : Value → Shared → Prop} {κ : SortKind} {P : Keyed → Prop} {lt : Keyed → Keyed → Bool}
theorem mergeHi_ {s : Shared} (G : Good prog w A E κ P lt s) (T : Tot P lt) {a b : Array Keyed} {Q : Array Keyed → SortSt → Shared → Prop} {st : SortSt} (hst : kindOf st = κ) (pa : ∀ x ∈ a.toList, P x) (pb : ∀ x ∈ b.toList, P x) (sa : Srt lt a.toList) (sb : Srt lt b.toList)
    (na : 0 < a.size) (nb : 0 < b.size) (hl : lt (kas_item b (b.size - 1)) (kas_item a (a.size - 1)) = true) (hf : ∀ x ∈ a.toList, lt x (kas_item b 0) = false) (h : ∀ r st', Kp st st' → FinA lt a b r → Q r st' s) : kasC (model prog w) A E (mergeHi' a b) Q st s := by
  have m0 : BInv lt a b (#[] : Array Keyed) a.size b.size := by
    have z := HInv.zero (lt := lt) a.toList b.toList
    simpa [BInv] using z
  have m1 := hpushA T sb sa pa pb m0 na (Nat.le_refl _) nb (Nat.le_refl _) hl
  refine kasC_bind (kasC_lift (wpAny_rule ?_))
  refine kasC_bind (c_elem (show a.size - 1 < a.size by (clear m1 m0 h hf hl nb sb sa pb pa hst T G; omega)) ?_)
  dsimp only
  by_cases c1 : a.size - 1 = 0
  · rw [if_pos (by simp [c1])]
    exact kasC_pure (h _ _ (Kp.refl _) (hdoneA sb m1 (Nat.le_refl _) c1))
  rw [if_neg (by simpa using c1)]
  by_cases c2 : b.size = 1
  · rw [if_pos (by simp [c2])]
    exact kasC_pure (h _ _ (Kp.refl _) (hfirst sa sb m1 (by (clear c2 c1 m1 m0 h hf hl nb sb sa pb pa hst T G; omega)) (Nat.le_refl _) c2 hf))
  rw [if_neg (by simpa using c2)]
  refine kasC_bind (kasC_get ?_)
  refine kasC_bind (c_rangeR (fun t r st' s' => Kp st st' ∧ s' = s ∧ ∃ i j out mg, r = (none, i, j, out, mg) ∧ BInv lt a b out i j ∧ 1 ≤ i ∧ i ≤ a.size ∧ 2 ≤ j ∧ j ≤ b.size ∧ t + i + j ≤ a.size + b.size)
    (fun r st' s' => Kp st st' ∧ s' = s ∧ ∃ res z, r = (some res, z) ∧ FinA lt a b res) ⟨Kp.refl _, rfl, _, _, _, _, rfl, m1, by (clear m1 m0 h hf hl sb sa pb pa hst T G; omega), by (clear c2 c1 m1 m0 h hf hl nb sb sa pb pa hst T G; omega), by (clear c1 m1 m0 h hf hl na sb sa pb pa hst T G; omega), by (clear c2 c1 m1 m0 h hf hl nb na sb sa pb pa hst T G; omega), by (clear c2 c1 m1 m0 h hf hl nb sb sa pb pa hst T G; omega)⟩ ?_ ?_ ?_)
  · rintro r st' s' ⟨_, _, i, j, out, mg, _, _, h1, h2, h3, h4, h5⟩
    (clear h4 h2 c2 c1 m1 m0 h hf hl nb na sb sa pb pa hst T G; omega)
  · rintro t x r st' s' ht ⟨K1, rfl, i, j, out, mg, rfl, m, hi0, hi, hj0, hj, hij⟩
    dsimp only
    refine kasC_bind (c_rangeR (fun u r st₂ s₂ => st₂ = st' ∧ s₂ = s' ∧ ∃ i₂ j₂ out₂ ac bc, r = (none, i₂, j₂, out₂, ac, bc) ∧ BInv lt a b out₂ i₂ j₂ ∧ 1 ≤ i₂ ∧ i₂ ≤ a.size ∧ 2 ≤ j₂ ∧ j₂ ≤ b.size ∧ u + i₂ + j₂ ≤ i + j)
      (fun r st₂ s₂ => st₂ = st' ∧ s₂ = s' ∧ ((∃ res z, r = (some res, z) ∧ FinA lt a b res) ∨ ∃ i₂ j₂ out₂ ac bc, r = (none, i₂, j₂, out₂, ac, bc) ∧ BInv lt a b out₂ i₂ j₂ ∧ 1 ≤ i₂ ∧ i₂ ≤ a.size ∧ 2 ≤ j₂ ∧ j₂ ≤ b.size ∧ i₂ + j₂ ≤ i + j))
      ⟨rfl, rfl, _, _, _, _, _, rfl, m, hi0, hi, hj0, hj, by (clear hij hj hj0 hi hi0 m h G K1 ht c2 c1 m1 m0 hf hl nb na sb sa pb pa hst T; omega)⟩ ?_ ?_ ?_)
    · rintro r st₂ s₂ ⟨_, _, i₂, j₂, out₂, ac, bc, _, _, h1, h2, h3, h4, h5⟩
      (clear h4 h2 hj hj0 hi hi0 m h G K1 ht c2 c1 m1 m0 hf hl nb na sb sa pb pa hst T; omega)
    · rintro u x r st₂ s₂ hu ⟨rfl, rfl, i₂, j₂, out₂, ac, bc, rfl, m₂, hi₂0, hi₂, hj₂0, hj₂, hu₂⟩
      dsimp only
      have ja : j₂ - 1 < b.size := by (clear hu₂ hi₂ hi₂0 m₂ h G K1 hu hij hj hj0 hi hi0 m ht c2 c1 m1 m0 hf hl nb na sb sa pb pa hst T; omega)
      have ia : i₂ - 1 < a.size := by (clear ja hu₂ hj₂ hj₂0 m₂ h G K1 hu hij hj hj0 hi hi0 m ht c2 c1 m1 m0 hf hl nb na sb sa pb pa hst T; omega)
      refine kasC_bind (c_elem ja (kasC_bind (c_elem ia ?_)))
      refine kasC_bind (G _ _ _ _ (pb _ (item_mem ja)) (pa _ (item_mem ia)) (K1.1.trans hst) ?_)
      dsimp only
      cases hb : lt (kas_item b (j₂ - 1)) (kas_item a (i₂ - 1)) with
      | true =>
        rw [if_pos rfl]
        refine kasC_bind (c_elem ia ?_)
        have m₃ := hpushA T sb sa pa pb m₂ (by (clear hb ia ja hu₂ hj₂ hj₂0 hi₂ m₂ h G K1 hu hij hj hj0 hi hi0 m ht c2 c1 m1 m0 hf hl nb na sb sa pb pa hst T; omega)) hi₂ (by (clear hb ia ja hu₂ hj₂ hi₂ hi₂0 m₂ h G K1 hu hij hj hj0 hi hi0 m ht c2 c1 m1 m0 hf hl nb na sb sa pb pa hst T; omega)) hj₂ hb
        by_cases d1 : i₂ - 1 = 0
        · rw [if_pos (by simp [d1])]
          exact kasC_pure ⟨rfl, rfl, .inl ⟨_, _, rfl, hdoneA sb m₃ hj₂ d1⟩⟩
        rw [if_neg (by simpa using d1)]
        by_cases d2 : ac + 1 ≥ mg
        · rw [if_pos d2]
          exact kasC_pure ⟨rfl, rfl, .inr ⟨_, _, _, _, _, rfl, m₃, by (clear d2 m₃ hb ia ja hu₂ hj₂ hj₂0 hi₂ hi₂0 m₂ h G K1 hu hij hj hj0 hi hi0 m ht c2 c1 m1 m0 hf hl nb na sb sa pb pa hst T; omega), by (clear d2 d1 m₃ hb ja hu₂ hj₂ hj₂0 hi₂ hi₂0 m₂ h G K1 hu hij hj hj0 hi hi0 m ht c2 c1 m1 m0 hf hl nb na sb sa pb pa hst T; omega), by (clear d2 d1 m₃ hb ia ja hu₂ hj₂ hi₂ hi₂0 m₂ h G K1 hu hij hj hj0 hi hi0 m ht c2 c1 m1 m0 hf hl nb na sb sa pb pa hst T; omega), by (clear d2 d1 m₃ hb ia ja hu₂ hj₂0 hi₂ hi₂0 m₂ h G K1 hu hij hj hj0 hi hi0 m ht c2 c1 m1 m0 hf hl nb na sb sa pb pa hst T; omega), by (clear d2 m₃ hb ia ja hj₂ hj₂0 hi₂ m₂ h G K1 hu hij hj hj0 hi hi0 m ht c2 c1 m1 m0 hf hl nb na sb sa pb pa hst T; omega)⟩⟩
        · rw [if_neg d2]
          exact kasC_pure ⟨rfl, rfl, _, _, _, _, _, rfl, m₃, by (clear d2 m₃ hb ia ja hu₂ hj₂ hj₂0 hi₂ hi₂0 m₂ h G K1 hu hij hj hj0 hi hi0 m ht c2 c1 m1 m0 hf hl nb na sb sa pb pa hst T; omega), by (clear d2 d1 m₃ hb ja hu₂ hj₂ hj₂0 hi₂ hi₂0 m₂ h G K1 hu hij hj hj0 hi hi0 m ht c2 c1 m1 m0 hf hl nb na sb sa pb pa hst T; omega), by (clear d2 d1 m₃ hb ia ja hu₂ hj₂ hi₂ hi₂0 m₂ h G K1 hu hij hj hj0 hi hi0 m ht c2 c1 m1 m0 hf hl nb na sb sa pb pa hst T; omega), by (clear d2 d1 m₃ hb ia ja hu₂ hj₂0 hi₂ hi₂0 m₂ h G K1 hu hij hj hj0 hi hi0 m ht c2 c1 m1 m0 hf hl nb na sb sa pb pa hst T; omega), by (clear d2 m₃ hb ia ja hj₂ hj₂0 hi₂ m₂ h G K1 hu hij hj hj0 hi hi0 m ht c2 c1 m1 m0 hf hl nb na sb sa pb pa hst T; omega)⟩
      | false =>
        rw [if_neg Bool.false_ne_true]
        refine kasC_bind (c_elem ja ?_)
        have m₃ := hpushB T sb sa pa pb m₂ (by (clear hb ia ja hu₂ hj₂ hj₂0 hi₂ m₂ h G K1 hu hij hj hj0 hi hi0 m ht c2 c1 m1 m0 hf hl nb na sb sa pb pa hst T; omega)) hi₂ (by (clear hb ia ja hu₂ hj₂ hi₂ hi₂0 m₂ h G K1 hu hij hj hj0 hi hi0 m ht c2 c1 m1 m0 hf hl nb na sb sa pb pa hst T; omega)) hj₂ hb
        by_cases d1 : j₂ - 1 = 1
        · rw [if_pos (by simp [d1])]
          exact kasC_pure ⟨rfl, rfl, .inl ⟨_, _, rfl, hfirst sa sb m₃ hi₂ (by (clear m₃ hb ia hu₂ hj₂ hj₂0 hi₂ hi₂0 m₂ h G K1 hu hij hj hj0 hi hi0 m ht c2 c1 m1 m0 hf hl nb na sb sa pb pa hst T; omega)) d1 hf⟩⟩
        rw [if_neg (by simpa using d1)]
        by_cases d2 : bc + 1 ≥ mg
        · rw [if_pos d2]
          exact kasC_pure ⟨rfl, rfl, .inr ⟨_, _, _, _, _, rfl, m₃, by (clear d2 d1 m₃ hb ia ja hu₂ hj₂ hj₂0 hi₂ m₂ h G K1 hu hij hj hj0 hi hi0 m ht c2 c1 m1 m0 hf hl nb na sb sa pb pa hst T; omega), by (clear d2 d1 m₃ hb ia ja hu₂ hj₂ hj₂0 hi₂0 m₂ h G K1 hu hij hj hj0 hi hi0 m ht c2 c1 m1 m0 hf hl nb na sb sa pb pa hst T; omega), by (clear d2 m₃ hb ia ja hu₂ hj₂ hi₂ m₂ h G K1 hu hij hj hj0 hi hi0 m ht c2 c1 m1 m0 hf hl nb na sb sa pb pa hst T; omega), by (clear d2 d1 m₃ hb ia hu₂ hj₂ hj₂0 hi₂ hi₂0 m₂ h G K1 hu hij hj hj0 hi hi0 m ht c2 c1 m1 m0 hf hl nb na sb sa pb pa hst T; omega), by (clear d2 m₃ hb ia ja hj₂ hi₂ m₂ h G K1 hu hij hj hj0 hi hi0 m ht c2 c1 m1 m0 hf hl nb na sb sa pb pa hst T; omega)⟩⟩
        · rw [if_neg d2]
          exact kasC_pure ⟨rfl, rfl, _, _, _, _, _, rfl, m₃, by (clear d2 d1 m₃ hb ia ja hu₂ hj₂ hj₂0 hi₂ m₂ h G K1 hu hij hj hj0 hi hi0 m ht c2 c1 m1 m0 hf hl nb na sb sa pb pa hst T; omega), by (clear d2 d1 m₃ hb ia ja hu₂ hj₂ hj₂0 hi₂0 m₂ h G K1 hu hij hj hj0 hi hi0 m ht c2 c1 m1 m0 hf hl nb na sb sa pb pa hst T; omega), by (clear d2 m₃ hb ia ja hu₂ hj₂ hi₂ m₂ h G K1 hu hij hj hj0 hi hi0 m ht c2 c1 m1 m0 hf hl nb na sb sa pb pa hst T; omega), by (clear d2 d1 m₃ hb ia hu₂ hj₂ hj₂0 hi₂ hi₂0 m₂ h G K1 hu hij hj hj0 hi hi0 m ht c2 c1 m1 m0 hf hl nb na sb sa pb pa hst T; omega), by (clear d2 m₃ hb ia ja hj₂ hi₂ m₂ h G K1 hu hij hj hj0 hi hi0 m ht c2 c1 m1 m0 hf hl nb na sb sa pb pa hst T; omega)⟩
    · rintro r st₂ s₂ ⟨rfl, rfl, hr⟩
      rcases hr with ⟨res, z, rfl, hfin⟩ | ⟨i₂, j₂, out₂, ac, bc, rfl, m₂, hi₂0, hi₂, hj₂0, hj₂, hu₂⟩
      · exact kasC_pure ⟨K1, rfl, _, _, rfl, hfin⟩
      dsimp only
      refine kasC_bind (kasC_lift (wpAny_rule ?_))
      refine kasC_bind (c_rangeR (fun u r st₃ s₃ => Kp st st₃ ∧ s₃ = s₂ ∧ ∃ i₃ j₃ out₃ mg ac bc, r = (none, i₃, j₃, out₃, mg, ac, bc) ∧ BInv lt a b out₃ i₃ j₃ ∧ 1 ≤ i₃ ∧ i₃ ≤ a.size ∧ 2 ≤ j₃ ∧ j₃ ≤ b.size ∧ u + i₃ + j₃ ≤ i₂ + j₂)
        (fun r st₃ s₃ => Kp st st₃ ∧ s₃ = s₂ ∧ ((∃ res z, r = (some res, z) ∧ FinA lt a b res) ∨ ∃ i₃ j₃ out₃ mg ac bc, r = (none, i₃, j₃, out₃, mg, ac, bc) ∧ BInv lt a b out₃ i₃ j₃ ∧ 1 ≤ i₃ ∧ i₃ ≤ a.size ∧ 2 ≤ j₃ ∧ j₃ ≤ b.size ∧ 1 + i₃ + j₃ ≤ i₂ + j₂))
        ⟨K1, rfl, _, _, _, _, _, _, rfl, m₂, hi₂0, hi₂, hj₂0, hj₂, by (clear hu₂ hj₂ hj₂0 hi₂ hi₂0 m₂ h G K1 hij hj hj0 hi hi0 m ht c2 c1 m1 m0 hf hl nb na sb sa pb pa hst T; omega)⟩ ?_ ?_ ?_)
      · rintro r st₃ s₃ ⟨_, _, i₃, j₃, out₃, mg, ac, bc, _, _, h1, h2, h3, h4, h5⟩
        (clear h4 h2 hj₂ hj₂0 hi₂ hi₂0 m₂ h G K1 hj hj0 hi hi0 m ht c2 c1 m1 m0 hf hl nb na sb sa pb pa hst T; omega)
      · rintro u x r st₃ s₃ hu ⟨K3, rfl, i₃, j₃, out₃, mg, ac, bc, rfl, m₃, hi₃0, hi₃, hj₃0, hj₃, hu₃⟩
        dsimp only
        have ja : j₃ - 1 < b.size := by (clear hu₃ hi₃ hi₃0 m₃ h G K3 hu hu₂ hj₂ hj₂0 hi₂ hi₂0 m₂ K1 hij hj hj0 hi hi0 m ht c2 c1 m1 m0 hf hl nb na sb sa pb pa hst T; omega)
        obtain ⟨k, hk, hB⟩ := exA T sa pa (pb _ (item_mem ja)) i₃ (i := 0) (by (clear ja hu₃ hj₃ hj₃0 hi₃0 m₃ h G K3 hu hu₂ hj₂ hj₂0 hi₂ hi₂0 m₂ K1 hij hj hj0 hi hi0 m ht c2 c1 m1 m0 hf hl nb na sb sa pb pa hst T; omega))
        have gA : ∀ t, t < k → lt (kas_item b (j₃ - 1)) (kas_item a t) = false := fun t ht => by
          have q := hB t (by (clear hB ja hu₃ hj₃ hj₃0 hi₃ hi₃0 m₃ h G K3 hu hu₂ hj₂ hj₂0 hi₂ hi₂0 m₂ K1 hij hj hj0 hi hi0 m c2 c1 m1 m0 hf hl nb na sb sa pb pa hst T; omega))
          rw [if_neg Bool.false_ne_true, Nat.zero_add, decide_eq_true ht, Bool.not_eq_true'] at q
          exact q
        have gB : ∀ t, k ≤ t → t < i₃ → lt (kas_item b (j₃ - 1)) (kas_item a t) = true := fun t h1 h2 => by
          have q := hB t h2
          rw [if_neg Bool.false_ne_true, Nat.zero_add, decide_eq_false (by (clear q h2 gA hB hk ja hu₃ hj₃ hj₃0 hi₃ hi₃0 m₃ h G K3 hu hu₂ hj₂ hj₂0 hi₂ hi₂0 m₂ K1 hij hj hj0 hi hi0 m ht c2 c1 m1 m0 hf hl nb na sb sa pb pa hst T; omega)), Bool.not_eq_false'] at q
          exact q
        have m₄ := hgalA T sb sa pa pb m₃ hi₃ (by (clear gB gA hB hk ja hu₃ hj₃ hi₃ hi₃0 m₃ h G K3 hu hu₂ hj₂ hj₂0 hi₂ hi₂0 m₂ K1 hij hj hj0 hi hi0 m ht c2 c1 m1 m0 hf hl nb na sb sa pb pa hst T; omega)) hj₃ hk gB
        have key : ∀ st₄, Kp st st₄ → kindOf st₄ = κ := fun st₄ K4 => K4.1.trans hst
        revert mg
        refine c_mg ?_ fun mgx => ?_
        · intro _; rfl
        refine kasC_bind (setMG_ fun st₄ K4 => ?_)
        have K5 := K3.trans K4
        refine kasC_bind (c_elem ja ?_)
        refine kasC_bind (gallop_ G (key _ K5) (pb _ (item_mem ja)) (fun t ht => pa _ (item_mem (by (clear K5 K4 key m₄ gB gA hB hk ja hu₃ hj₃ hj₃0 hi₃0 m₃ h G K3 hu hu₂ hj₂ hj₂0 hi₂ hi₂0 m₂ K1 hij hj hj0 hi hi0 m c2 c1 m1 m0 hf hl nb na sb sa pb pa hst T; omega)))) (by (clear K5 K4 key m₄ gB gA hB hk ja hu₃ hj₃ hj₃0 hi₃0 m₃ h G K3 hu hu₂ hj₂ hj₂0 hi₂ hi₂0 m₂ K1 hij hj hj0 hi hi0 m ht c2 c1 m1 m0 hf hl nb na sb sa pb pa hst T; omega)) (by (clear K5 K4 key m₄ gB gA hB hk ja hu₃ hj₃ hj₃0 hi₃ m₃ h G K3 hu hu₂ hj₂ hj₂0 hi₂ hi₂0 m₂ K1 hij hj hj0 hi hi0 m ht c2 c1 m1 m0 hf hl nb na sb sa pb pa hst T; omega)) hk hB ?_)
        dsimp only
        by_cases hz : i₃ - k > 0
        · rw [if_pos hz]
          by_cases d1 : k = 0
          · rw [if_pos (by simp [d1])]
            exact kasC_pure ⟨K5, rfl, .inl ⟨_, _, rfl, hdoneA sb m₄ hj₃ d1⟩⟩
          rw [if_neg (by simpa using d1)]
          refine kasC_bind (c_elem (show j₃ - 1 < b.size by (clear d1 hz K5 K4 key m₄ gB gA hB hk hu₃ hj₃ hj₃0 hi₃ hi₃0 m₃ h G K3 hu hu₂ hj₂ hj₂0 hi₂ hi₂0 m₂ K1 hij hj hj0 hi hi0 m ht c2 c1 m1 m0 hf hl nb na sb sa pb pa hst T; omega)) ?_)
          have m₅ := hpushB T sb sa pa pb m₄ (show 0 < k by (clear hz K5 K4 key m₄ gB gA hB hk ja hu₃ hj₃ hj₃0 hi₃ hi₃0 m₃ h G K3 hu hu₂ hj₂ hj₂0 hi₂ hi₂0 m₂ K1 hij hj hj0 hi hi0 m ht c2 c1 m1 m0 hf hl nb na sb sa pb pa hst T; omega)) (by (clear d1 hz K5 K4 key m₄ gB gA hB ja hu₃ hj₃ hj₃0 hi₃0 m₃ h G K3 hu hu₂ hj₂ hj₂0 hi₂ hi₂0 m₂ K1 hij hj hj0 hi hi0 m ht c2 c1 m1 m0 hf hl nb na sb sa pb pa hst T; omega)) (by (clear d1 hz K5 K4 key m₄ gB gA hB hk ja hu₃ hj₃ hi₃ hi₃0 m₃ h G K3 hu hu₂ hj₂ hj₂0 hi₂ hi₂0 m₂ K1 hij hj hj0 hi hi0 m ht c2 c1 m1 m0 hf hl nb na sb sa pb pa hst T; omega)) (by (clear d1 hz K5 K4 key m₄ gB gA hB hk ja hu₃ hj₃0 hi₃ hi₃0 m₃ h G K3 hu hu₂ hj₂ hj₂0 hi₂ hi₂0 m₂ K1 hij hj hj0 hi hi0 m ht c2 c1 m1 m0 hf hl nb na sb sa pb pa hst T; omega)) (gA (k - 1) (by (clear hz K5 K4 key m₄ gB gA hB hk ja hu₃ hj₃ hj₃0 hi₃ hi₃0 m₃ h G K3 hu hu₂ hj₂ hj₂0 hi₂ hi₂0 m₂ K1 hij hj hj0 hi hi0 m ht c2 c1 m1 m0 hf hl nb na sb sa pb pa hst T; omega)))
          by_cases d3 : j₃ - 1 = 1
          · rw [if_pos (by simp [d3])]
            exact kasC_pure ⟨K5, rfl, .inl ⟨_, _, rfl, hfirst sa sb m₅ (by (clear d3 m₅ d1 hz K5 K4 key m₄ gB gA hB ja hu₃ hj₃ hj₃0 hi₃0 m₃ h G K3 hu hu₂ hj₂ hj₂0 hi₂ hi₂0 m₂ K1 hij hj hj0 hi hi0 m ht c2 c1 m1 m0 hf hl nb na sb sa pb pa hst T; omega)) (by (clear m₅ d1 hz K5 K4 key m₄ gB gA hB hk hu₃ hj₃ hj₃0 hi₃ hi₃0 m₃ h G K3 hu hu₂ hj₂ hj₂0 hi₂ hi₂0 m₂ K1 hij hj hj0 hi hi0 m ht c2 c1 m1 m0 hf hl nb na sb sa pb pa hst T; omega)) d3 hf⟩⟩
          rw [if_neg (by simpa using d3)]
          have hi5 : k - 1 < a.size := by (clear d3 m₅ d1 hz K5 K4 key m₄ gB gA hB ja hu₃ hj₃ hj₃0 hi₃0 m₃ h G K3 hu hu₂ hj₂ hj₂0 hi₂ hi₂0 m₂ K1 hij hj hj0 hi hi0 m ht c2 c1 m1 m0 hf hl nb sb sa pb pa hst T; omega)
          refine kasC_bind (c_elem hi5 ?_)
          obtain ⟨k2, hk2, hB2⟩ := exB T sb pb (pa _ (item_mem hi5)) (j₃ - 1) (j := 0) (by (clear hi5 d3 m₅ d1 hz K5 K4 key m₄ gB gA hB hk hu₃ hj₃ hj₃0 hi₃ hi₃0 m₃ h G K3 hu hu₂ hj₂ hj₂0 hi₂ hi₂0 m₂ K1 hij hj hj0 hi hi0 m ht c2 c1 m1 m0 hf hl nb na sb sa pb pa hst T; omega))
          have gA2 : ∀ t, t < k2 → lt (kas_item b t) (kas_item a (k - 1)) = true := fun t ht => by
            have q := hB2 t (by (clear hB2 hi5 d3 m₅ d1 hz K5 K4 key m₄ gB gA hB hk ja hu₃ hj₃ hj₃0 hi₃ hi₃0 m₃ h G K3 hu hu₂ hj₂ hj₂0 hi₂ hi₂0 m₂ K1 hij hj hj0 hi hi0 m c2 c1 m1 m0 hf hl nb na sb sa pb pa hst T; omega))
            rw [if_pos rfl, Nat.zero_add, decide_eq_true ht] at q
            exact q
          have gB2 : ∀ t, k2 ≤ t → t < j₃ - 1 → lt (kas_item b t) (kas_item a (k - 1)) = false := fun t h1 h2 => by
            have q := hB2 t h2
            rw [if_pos rfl, Nat.zero_add, decide_eq_false (by (clear q h2 gA2 hB2 hk2 hi5 d3 m₅ d1 hz K5 K4 key m₄ gB gA hB hk ja hu₃ hj₃ hj₃0 hi₃ hi₃0 m₃ h G K3 hu hu₂ hj₂ hj₂0 hi₂ hi₂0 m₂ K1 hij hj hj0 hi hi0 m ht c2 c1 m1 m0 hf hl nb na sb sa pb pa hst T; omega))] at q
            exact q
          refine kasC_bind (gallop_ G (key _ K5) (pa _ (item_mem hi5)) (fun t ht => pb _ (item_mem (by (clear gB2 gA2 hB2 hk2 hi5 d3 m₅ d1 hz K5 K4 key m₄ gB gA hB hk hu₃ hj₃ hj₃0 hi₃ hi₃0 m₃ h G K3 hu hu₂ hj₂ hj₂0 hi₂ hi₂0 m₂ K1 hij hj hj0 hi hi0 m c2 c1 m1 m0 hf hl nb na sb sa pb pa hst T; omega)))) (by (clear gB2 gA2 hB2 hk2 hi5 d3 m₅ d1 hz K5 K4 key m₄ gB gA hB hk hu₃ hj₃ hj₃0 hi₃ hi₃0 m₃ h G K3 hu hu₂ hj₂ hj₂0 hi₂ hi₂0 m₂ K1 hij hj hj0 hi hi0 m ht c2 c1 m1 m0 hf hl nb na sb sa pb pa hst T; omega)) (by (clear gB2 gA2 hB2 hk2 hi5 m₅ hz K5 K4 key m₄ gB gA hB ja hu₃ hj₃ hi₃ hi₃0 m₃ h G K3 hu hu₂ hj₂ hj₂0 hi₂ hi₂0 m₂ K1 hij hj hj0 hi hi0 m ht c2 c1 m1 m0 hf hl nb na sb sa pb pa hst T; omega)) hk2 hB2 ?_)
          dsimp only
          by_cases hz2 : j₃ - 1 - k2 > 0
          · rw [if_pos hz2]
            have m₆ := hgalB T sb sa pa pb m₅ (show 0 < k by (clear gB2 gA2 hB2 hk2 hi5 m₅ hz K5 K4 key m₄ gB gA hB hk ja hu₃ hj₃ hj₃0 hi₃ hi₃0 m₃ h G K3 hu hu₂ hj₂ hj₂0 hi₂ hi₂0 m₂ K1 hij hj hj0 hi hi0 m ht c2 c1 m1 m0 hf hl nb na sb sa pb pa hst T; omega)) (by (clear hz2 gB2 gA2 hB2 hk2 hi5 d3 m₅ d1 hz K5 K4 key m₄ gB gA hB ja hu₃ hj₃ hj₃0 hi₃0 m₃ h G K3 hu hu₂ hj₂ hj₂0 hi₂ hi₂0 m₂ K1 hij hj hj0 hi hi0 m ht c2 c1 m1 m0 hf hl nb na sb sa pb pa hst T; omega)) (by (clear hz2 gB2 gA2 hB2 hk2 hi5 d3 m₅ d1 hz K5 K4 key m₄ gB gA hB hk hu₃ hj₃ hj₃0 hi₃ hi₃0 m₃ h G K3 hu hu₂ hj₂ hj₂0 hi₂ hi₂0 m₂ K1 hij hj hj0 hi hi0 m ht c2 c1 m1 m0 hf hl nb na sb sa pb pa hst T; omega)) (show k2 ≤ j₃ - 1 by (clear hz2 gB2 gA2 hB2 hi5 d3 m₅ d1 hz K5 K4 key m₄ gB gA hB hk ja hu₃ hj₃ hj₃0 hi₃ hi₃0 m₃ h G K3 hu hu₂ hj₂ hj₂0 hi₂ hi₂0 m₂ K1 hij hj hj0 hi hi0 m ht c2 c1 m1 m0 hf hl nb na sb sa pb pa hst T; omega)) (fun t h1 h2 => gB2 t h1 h2)
            by_cases d4 : k2 = 1
            · rw [if_pos (by simp [d4])]
              exact kasC_pure ⟨K5, rfl, .inl ⟨_, _, rfl, hfirst sa sb m₆ (by (clear d4 m₆ hz2 gB2 gA2 hB2 hk2 hi5 d3 m₅ d1 hz K5 K4 key m₄ gB gA hB ja hu₃ hj₃ hj₃0 hi₃0 m₃ h G K3 hu hu₂ hj₂ hj₂0 hi₂ hi₂0 m₂ K1 hij hj hj0 hi hi0 m ht c2 c1 m1 m0 hf hl nb na sb sa pb pa hst T; omega)) (by (clear m₆ hz2 gB2 gA2 hB2 hi5 d3 m₅ d1 hz K5 K4 key m₄ gB gA hB hk hu₃ hj₃ hj₃0 hi₃ hi₃0 m₃ h G K3 hu hu₂ hj₂ hj₂0 hi₂ hi₂0 m₂ K1 hij hj hj0 hi hi0 m ht c2 c1 m1 m0 hf hl nb na sb sa pb pa hst T; omega)) d4 hf⟩⟩
            rw [if_neg (by simpa using d4)]
            by_cases d5 : k2 = 0
            · rw [if_pos (by simp [d5])]
              exact kasC_pure ⟨K5, rfl, .inl ⟨_, _, rfl, hdoneB sa m₆ (by (clear d5 d4 m₆ hz2 gB2 gA2 hB2 hk2 hi5 d3 m₅ d1 hz K5 K4 key m₄ gB gA hB ja hu₃ hj₃ hj₃0 hi₃0 m₃ h G K3 hu hu₂ hj₂ hj₂0 hi₂ hi₂0 m₂ K1 hij hj hj0 hi hi0 m ht c2 c1 m1 m0 hf hl nb na sb sa pb pa hst T; omega)) d5⟩⟩
            rw [if_neg (by simpa using d5)]
            refine kasC_bind (c_elem hi5 ?_)
            have m₇ := hpushA T sb sa pa pb m₆ (show 0 < k by (clear m₆ gB2 gA2 hB2 hi5 m₅ hz K5 K4 key m₄ gB gA hB hk ja hu₃ hj₃ hj₃0 hi₃ hi₃0 m₃ h G K3 hu hu₂ hj₂ hj₂0 hi₂ hi₂0 m₂ K1 hij hj hj0 hi hi0 m ht c2 c1 m1 m0 hf hl nb na sb sa pb pa hst T; omega)) (by (clear d5 d4 m₆ hz2 gB2 gA2 hB2 hk2 hi5 d3 m₅ d1 hz K5 K4 key m₄ gB gA hB ja hu₃ hj₃ hj₃0 hi₃0 m₃ h G K3 hu hu₂ hj₂ hj₂0 hi₂ hi₂0 m₂ K1 hij hj hj0 hi hi0 m ht c2 c1 m1 m0 hf hl nb na sb sa pb pa hst T; omega)) (by (clear d4 m₆ hz2 gB2 gA2 hB2 hk2 hi5 d3 m₅ d1 hz K5 K4 key m₄ gB gA hB hk ja hu₃ hj₃ hj₃0 hi₃ hi₃0 m₃ h G K3 hu hu₂ hj₂ hj₂0 hi₂ hi₂0 m₂ K1 hij hj hj0 hi hi0 m ht c2 c1 m1 m0 hf hl nb na sb sa pb pa hst T; omega)) (by (clear d5 d4 m₆ hz2 gB2 gA2 hB2 hi5 d3 m₅ d1 hz K5 K4 key m₄ gB gA hB hk hu₃ hj₃ hj₃0 hi₃ hi₃0 m₃ h G K3 hu hu₂ hj₂ hj₂0 hi₂ hi₂0 m₂ K1 hij hj hj0 hi hi0 m ht c2 c1 m1 m0 hf hl nb na sb sa pb pa hst T; omega)) (gA2 (k2 - 1) (by (clear d4 m₆ hz2 gB2 gA2 hB2 hk2 hi5 d3 m₅ d1 hz K5 K4 key m₄ gB gA hB hk ja hu₃ hj₃ hj₃0 hi₃ hi₃0 m₃ h G K3 hu hu₂ hj₂ hj₂0 hi₂ hi₂0 m₂ K1 hij hj hj0 hi hi0 m ht c2 c1 m1 m0 hf hl nb na sb sa pb pa hst T; omega)))
            by_cases d6 : k - 1 = 0
            · rw [if_pos (by simp [d6])]
              exact kasC_pure ⟨K5, rfl, .inl ⟨_, _, rfl, hdoneA sb m₇ (by (clear d6 m₇ d5 d4 m₆ hz2 gB2 gA2 hB2 hi5 d3 m₅ d1 hz K5 K4 key m₄ gB gA hB hk hu₃ hj₃ hj₃0 hi₃ hi₃0 m₃ h G K3 hu hu₂ hj₂ hj₂0 hi₂ hi₂0 m₂ K1 hij hj hj0 hi hi0 m ht c2 c1 m1 m0 hf hl nb na sb sa pb pa hst T; omega)) d6⟩⟩
            rw [if_neg (by simpa using d6)]
            by_cases d7 : (decide (i₃ - k < 7) && decide (j₃ - 1 - k2 < 7)) = true
            · rw [if_pos d7]
              exact kasC_pure ⟨K5, rfl, .inr ⟨_, _, _, _, _, _, rfl, m₇, by (clear d7 m₇ d5 d4 m₆ hz2 gB2 gA2 hB2 hk2 hi5 d3 m₅ d1 hz K5 K4 key m₄ gB gA hB hk ja hu₃ hj₃ hj₃0 hi₃ hi₃0 m₃ h G K3 hu hu₂ hj₂ hj₂0 hi₂ hi₂0 m₂ K1 hij hj hj0 hi hi0 m ht c2 c1 m1 m0 hf hl nb na sb sa pb pa hst T; omega), by (clear d7 d6 m₇ d5 d4 m₆ hz2 gB2 gA2 hB2 hk2 d3 m₅ d1 hz K5 K4 key m₄ gB gA hB hk ja hu₃ hj₃ hj₃0 hi₃ hi₃0 m₃ h G K3 hu hu₂ hj₂ hj₂0 hi₂ hi₂0 m₂ K1 hij hj hj0 hi hi0 m ht c2 c1 m1 m0 hf hl nb na sb sa pb pa hst T; omega), by (clear d7 m₇ m₆ hz2 gB2 gA2 hB2 hk2 hi5 d3 m₅ d1 hz K5 K4 key m₄ gB gA hB hk ja hu₃ hj₃ hj₃0 hi₃ hi₃0 m₃ h G K3 hu hu₂ hj₂ hj₂0 hi₂ hi₂0 m₂ K1 hij hj hj0 hi hi0 m ht c2 c1 m1 m0 hf hl nb na sb sa pb pa hst T; omega), by (clear d7 d6 m₇ d5 d4 m₆ hz2 gB2 gA2 hB2 hi5 d3 m₅ d1 hz K5 K4 key m₄ gB gA hB hk hu₃ hj₃ hj₃0 hi₃ hi₃0 m₃ h G K3 hu hu₂ hj₂ hj₂0 hi₂ hi₂0 m₂ K1 hij hj hj0 hi hi0 m ht c2 c1 m1 m0 hf hl nb na sb sa pb pa hst T; omega), by (clear d7 m₇ m₆ gB2 gA2 hB2 hk2 hi5 d3 m₅ d1 hz K5 K4 key m₄ gB gA hB ja hj₃ hj₃0 hi₃ hi₃0 m₃ h G K3 hu hu₂ hj₂ hj₂0 hi₂ hi₂0 m₂ K1 hij hj hj0 hi hi0 m ht c2 c1 m1 m0 hf hl nb na sb sa pb pa hst T; omega)⟩⟩
            · rw [if_neg d7]
              exact kasC_pure ⟨K5, rfl, _, _, _, _, _, _, rfl, m₇, by (clear d7 m₇ d5 d4 m₆ hz2 gB2 gA2 hB2 hk2 hi5 d3 m₅ d1 hz K5 K4 key m₄ gB gA hB hk ja hu₃ hj₃ hj₃0 hi₃ hi₃0 m₃ h G K3 hu hu₂ hj₂ hj₂0 hi₂ hi₂0 m₂ K1 hij hj hj0 hi hi0 m ht c2 c1 m1 m0 hf hl nb na sb sa pb pa hst T; omega), by (clear d7 d6 m₇ d5 d4 m₆ hz2 gB2 gA2 hB2 hk2 d3 m₅ d1 hz K5 K4 key m₄ gB gA hB hk ja hu₃ hj₃ hj₃0 hi₃ hi₃0 m₃ h G K3 hu hu₂ hj₂ hj₂0 hi₂ hi₂0 m₂ K1 hij hj hj0 hi hi0 m ht c2 c1 m1 m0 hf hl nb na sb sa pb pa hst T; omega), by (clear d7 m₇ m₆ hz2 gB2 gA2 hB2 hk2 hi5 d3 m₅ d1 hz K5 K4 key m₄ gB gA hB hk ja hu₃ hj₃ hj₃0 hi₃ hi₃0 m₃ h G K3 hu hu₂ hj₂ hj₂0 hi₂ hi₂0 m₂ K1 hij hj hj0 hi hi0 m ht c2 c1 m1 m0 hf hl nb na sb sa pb pa hst T; omega), by (clear d7 d6 m₇ d5 d4 m₆ hz2 gB2 gA2 hB2 hi5 d3 m₅ d1 hz K5 K4 key m₄ gB gA hB hk hu₃ hj₃ hj₃0 hi₃ hi₃0 m₃ h G K3 hu hu₂ hj₂ hj₂0 hi₂ hi₂0 m₂ K1 hij hj hj0 hi hi0 m ht c2 c1 m1 m0 hf hl nb na sb sa pb pa hst T; omega), by (clear d7 m₇ m₆ gB2 gA2 hB2 hk2 hi5 d3 m₅ d1 hz K5 K4 key m₄ gB gA hB ja hj₃ hj₃0 hi₃ hi₃0 m₃ h G K3 hu hu₂ hj₂ hj₂0 hi₂ hi₂0 m₂ K1 hij hj hj0 hi hi0 m ht c2 c1 m1 m0 hf hl nb na sb sa pb pa hst T; omega)⟩
          · rw [if_neg hz2]
            refine kasC_bind (c_elem hi5 ?_)
            have m₇ := hpushA T sb sa pa pb m₅ (show 0 < k by (clear gB2 gA2 hB2 hi5 m₅ hz K5 K4 key m₄ gB gA hB hk ja hu₃ hj₃ hi₃ hi₃0 m₃ h G K3 hu hu₂ hj₂ hj₂0 hi₂ hi₂0 m₂ K1 hij hj hj0 hi hi0 m ht c2 c1 m1 m0 hf hl nb na sb sa pb pa hst T; omega)) (by (clear hz2 gB2 gA2 hB2 hk2 hi5 d3 m₅ d1 hz K5 K4 key m₄ gB gA hB ja hu₃ hj₃ hj₃0 hi₃0 m₃ h G K3 hu hu₂ hj₂ hj₂0 hi₂ hi₂0 m₂ K1 hij hj hj0 hi hi0 m ht c2 c1 m1 m0 hf hl nb na sb sa pb pa hst T; omega)) (by (clear gB2 gA2 hB2 hi5 d3 m₅ d1 hz K5 K4 key m₄ gB gA hB hk ja hu₃ hj₃ hi₃ hi₃0 m₃ h G K3 hu hu₂ hj₂ hj₂0 hi₂ hi₂0 m₂ K1 hij hj hj0 hi hi0 m ht c2 c1 m1 m0 hf hl nb na sb sa pb pa hst T; omega)) (by (clear hz2 gB2 gA2 hB2 hk2 hi5 d3 m₅ d1 hz K5 K4 key m₄ gB gA hB hk hu₃ hj₃ hj₃0 hi₃ hi₃0 m₃ h G K3 hu hu₂ hj₂ hj₂0 hi₂ hi₂0 m₂ K1 hij hj hj0 hi hi0 m ht c2 c1 m1 m0 hf hl nb na sb sa pb pa hst T; omega)) (gA2 (j₃ - 1 - 1) (by (clear gB2 gA2 hB2 hk2 hi5 d3 m₅ d1 hz K5 K4 key m₄ gB gA hB hk ja hu₃ hj₃ hi₃ hi₃0 m₃ h G K3 hu hu₂ hj₂ hj₂0 hi₂ hi₂0 m₂ K1 hij hj hj0 hi hi0 m ht c2 c1 m1 m0 hf hl nb na sb sa pb pa hst T; omega)))
            by_cases d6 : k - 1 = 0
            · rw [if_pos (by simp [d6])]
              exact kasC_pure ⟨K5, rfl, .inl ⟨_, _, rfl, hdoneA sb m₇ (by (clear d6 m₇ hz2 gB2 gA2 hB2 hk2 hi5 d3 m₅ d1 hz K5 K4 key m₄ gB gA hB hk hu₃ hj₃ hj₃0 hi₃ hi₃0 m₃ h G K3 hu hu₂ hj₂ hj₂0 hi₂ hi₂0 m₂ K1 hij hj hj0 hi hi0 m ht c2 c1 m1 m0 hf hl nb na sb sa pb pa hst T; omega)) d6⟩⟩
            rw [if_neg (by simpa using d6)]
            by_cases d7 : (decide (i₃ - k < 7) && decide (j₃ - 1 - k2 < 7)) = true
            · rw [if_pos d7]
              exact kasC_pure ⟨K5, rfl, .inr ⟨_, _, _, _, _, _, rfl, m₇, by (clear d7 m₇ hz2 gB2 gA2 hB2 hk2 hi5 d3 m₅ d1 hz K5 K4 key m₄ gB gA hB hk ja hu₃ hj₃ hj₃0 hi₃ hi₃0 m₃ h G K3 hu hu₂ hj₂ hj₂0 hi₂ hi₂0 m₂ K1 hij hj hj0 hi hi0 m ht c2 c1 m1 m0 hf hl nb na sb sa pb pa hst T; omega), by (clear d7 d6 m₇ hz2 gB2 gA2 hB2 hk2 d3 m₅ d1 hz K5 K4 key m₄ gB gA hB hk ja hu₃ hj₃ hj₃0 hi₃ hi₃0 m₃ h G K3 hu hu₂ hj₂ hj₂0 hi₂ hi₂0 m₂ K1 hij hj hj0 hi hi0 m ht c2 c1 m1 m0 hf hl nb na sb sa pb pa hst T; omega), by (clear d7 m₇ gB2 gA2 hB2 hi5 m₅ d1 hz K5 K4 key m₄ gB gA hB hk ja hu₃ hj₃ hi₃ hi₃0 m₃ h G K3 hu hu₂ hj₂ hj₂0 hi₂ hi₂0 m₂ K1 hij hj hj0 hi hi0 m ht c2 c1 m1 m0 hf hl nb na sb sa pb pa hst T; omega), by (clear d7 d6 m₇ hz2 gB2 gA2 hB2 hk2 hi5 d3 m₅ d1 hz K5 K4 key m₄ gB gA hB hk hu₃ hj₃ hj₃0 hi₃ hi₃0 m₃ h G K3 hu hu₂ hj₂ hj₂0 hi₂ hi₂0 m₂ K1 hij hj hj0 hi hi0 m ht c2 c1 m1 m0 hf hl nb na sb sa pb pa hst T; omega), by (clear d7 m₇ gB2 gA2 hB2 hi5 m₅ K5 K4 key m₄ gB gA hB ja hj₃ hi₃ hi₃0 m₃ h G K3 hu hu₂ hj₂ hj₂0 hi₂ hi₂0 m₂ K1 hij hj hj0 hi hi0 m ht c2 c1 m1 m0 hf hl nb na sb sa pb pa hst T; omega)⟩⟩
            · rw [if_neg d7]
              exact kasC_pure ⟨K5, rfl, _, _, _, _, _, _, rfl, m₇, by (clear d7 m₇ hz2 gB2 gA2 hB2 hk2 hi5 d3 m₅ d1 hz K5 K4 key m₄ gB gA hB hk ja hu₃ hj₃ hj₃0 hi₃ hi₃0 m₃ h G K3 hu hu₂ hj₂ hj₂0 hi₂ hi₂0 m₂ K1 hij hj hj0 hi hi0 m ht c2 c1 m1 m0 hf hl nb na sb sa pb pa hst T; omega), by (clear d7 d6 m₇ hz2 gB2 gA2 hB2 hk2 d3 m₅ d1 hz K5 K4 key m₄ gB gA hB hk ja hu₃ hj₃ hj₃0 hi₃ hi₃0 m₃ h G K3 hu hu₂ hj₂ hj₂0 hi₂ hi₂0 m₂ K1 hij hj hj0 hi hi0 m ht c2 c1 m1 m0 hf hl nb na sb sa pb pa hst T; omega), by (clear d7 m₇ gB2 gA2 hB2 hi5 m₅ d1 hz K5 K4 key m₄ gB gA hB hk ja hu₃ hj₃ hi₃ hi₃0 m₃ h G K3 hu hu₂ hj₂ hj₂0 hi₂ hi₂0 m₂ K1 hij hj hj0 hi hi0 m ht c2 c1 m1 m0 hf hl nb na sb sa pb pa hst T; omega), by (clear d7 d6 m₇ hz2 gB2 gA2 hB2 hk2 hi5 d3 m₅ d1 hz K5 K4 key m₄ gB gA hB hk hu₃ hj₃ hj₃0 hi₃ hi₃0 m₃ h G K3 hu hu₂ hj₂ hj₂0 hi₂ hi₂0 m₂ K1 hij hj hj0 hi hi0 m ht c2 c1 m1 m0 hf hl nb na sb sa pb pa hst T; omega), by (clear d7 m₇ gB2 gA2 hB2 hi5 m₅ K5 K4 key m₄ gB gA hB ja hj₃ hi₃ hi₃0 m₃ h G K3 hu hu₂ hj₂ hj₂0 hi₂ hi₂0 m₂ K1 hij hj hj0 hi hi0 m ht c2 c1 m1 m0 hf hl nb na sb sa pb pa hst T; omega)⟩
        · rw [if_neg hz]
          have ek : i₃ = k := by (clear K5 K4 key m₄ gB gA hB ja hu₃ hj₃ hj₃0 hi₃ hi₃0 m₃ h G K3 hu hu₂ hj₂ hj₂0 hi₂ hi₂0 m₂ K1 hij hj hj0 hi hi0 m ht c2 c1 m1 m0 hf hl nb na sb sa pb pa hst T; omega)
          refine kasC_bind (c_elem (show j₃ - 1 < b.size by (clear ek hz K5 K4 key m₄ gB gA hB hk hu₃ hj₃ hj₃0 hi₃ hi₃0 m₃ h G K3 hu hu₂ hj₂ hj₂0 hi₂ hi₂0 m₂ K1 hij hj hj0 hi hi0 m ht c2 c1 m1 m0 hf hl nb na sb sa pb pa hst T; omega)) ?_)
          have m₅ := hpushB T sb sa pa pb m₃ (show 0 < i₃ by (clear hz K5 K4 key m₄ gB gA hB hk ja hu₃ hj₃ hj₃0 hi₃ m₃ h G K3 hu hu₂ hj₂ hj₂0 hi₂ hi₂0 m₂ K1 hij hj hj0 hi hi0 m ht c2 c1 m1 m0 hf hl nb na sb sa pb pa hst T; omega)) (by (clear ek hz K5 K4 key m₄ gB gA hB hk ja hu₃ hj₃ hj₃0 hi₃0 m₃ h G K3 hu hu₂ hj₂ hj₂0 hi₂ hi₂0 m₂ K1 hij hj hj0 hi hi0 m ht c2 c1 m1 m0 hf hl nb na sb sa pb pa hst T; omega)) (by (clear ek hz K5 K4 key m₄ gB gA hB hk ja hu₃ hj₃ hi₃ hi₃0 m₃ h G K3 hu hu₂ hj₂ hj₂0 hi₂ hi₂0 m₂ K1 hij hj hj0 hi hi0 m ht c2 c1 m1 m0 hf hl nb na sb sa pb pa hst T; omega)) (by (clear ek hz K5 K4 key m₄ gB gA hB hk ja hu₃ hj₃0 hi₃ hi₃0 m₃ h G K3 hu hu₂ hj₂ hj₂0 hi₂ hi₂0 m₂ K1 hij hj hj0 hi hi0 m ht c2 c1 m1 m0 hf hl nb na sb sa pb pa hst T; omega)) (gA (i₃ - 1) (by (clear hz K5 K4 key m₄ gB gA hB hk ja hu₃ hj₃ hj₃0 hi₃ m₃ h G K3 hu hu₂ hj₂ hj₂0 hi₂ hi₂0 m₂ K1 hij hj hj0 hi hi0 m ht c2 c1 m1 m0 hf hl nb na sb sa pb pa hst T; omega)))
          by_cases d3 : j₃ - 1 = 1
          · rw [if_pos (by simp [d3])]
            exact kasC_pure ⟨K5, rfl, .inl ⟨_, _, rfl, hfirst sa sb m₅ (by (clear d3 m₅ ek hz K5 K4 key m₄ gB gA hB hk ja hu₃ hj₃ hj₃0 hi₃0 m₃ h G K3 hu hu₂ hj₂ hj₂0 hi₂ hi₂0 m₂ K1 hij hj hj0 hi hi0 m ht c2 c1 m1 m0 hf hl nb na sb sa pb pa hst T; omega)) (by (clear m₅ ek hz K5 K4 key m₄ gB gA hB hk hu₃ hj₃ hj₃0 hi₃ hi₃0 m₃ h G K3 hu hu₂ hj₂ hj₂0 hi₂ hi₂0 m₂ K1 hij hj hj0 hi hi0 m ht c2 c1 m1 m0 hf hl nb na sb sa pb pa hst T; omega)) d3 hf⟩⟩
          rw [if_neg (by simpa using d3)]
          have hi5 : i₃ - 1 < a.size := by (clear d3 m₅ hz K5 K4 key m₄ gB gA hB hk ja hu₃ hj₃ hj₃0 m₃ h G K3 hu hu₂ hj₂ hj₂0 hi₂ hi₂0 m₂ K1 hij hj hj0 hi hi0 m ht c2 c1 m1 m0 hf hl nb na sb sa pb pa hst T; omega)
          refine kasC_bind (c_elem hi5 ?_)
          obtain ⟨k2, hk2, hB2⟩ := exB T sb pb (pa _ (item_mem hi5)) (j₃ - 1) (j := 0) (by (clear hi5 d3 m₅ ek hz K5 K4 key m₄ gB gA hB hk hu₃ hj₃ hj₃0 hi₃ hi₃0 m₃ h G K3 hu hu₂ hj₂ hj₂0 hi₂ hi₂0 m₂ K1 hij hj hj0 hi hi0 m ht c2 c1 m1 m0 hf hl nb na sb sa pb pa hst T; omega))
          have gA2 : ∀ t, t < k2 → lt (kas_item b t) (kas_item a (i₃ - 1)) = true := fun t ht => by
            have q := hB2 t (by (clear hB2 hi5 d3 m₅ ek hz K5 K4 key m₄ gB gA hB hk ja hu₃ hj₃ hj₃0 hi₃ hi₃0 m₃ h G K3 hu hu₂ hj₂ hj₂0 hi₂ hi₂0 m₂ K1 hij hj hj0 hi hi0 m c2 c1 m1 m0 hf hl nb na sb sa pb pa hst T; omega))
            rw [if_pos rfl, Nat.zero_add, decide_eq_true ht] at q
            exact q
          have gB2 : ∀ t, k2 ≤ t → t < j₃ - 1 → lt (kas_item b t) (kas_item a (i₃ - 1)) = false := fun t h1 h2 => by
            have q := hB2 t h2
            rw [if_pos rfl, Nat.zero_add, decide_eq_false (by (clear q h2 gA2 hB2 hk2 hi5 d3 m₅ ek hz K5 K4 key m₄ gB gA hB hk ja hu₃ hj₃ hj₃0 hi₃ hi₃0 m₃ h G K3 hu hu₂ hj₂ hj₂0 hi₂ hi₂0 m₂ K1 hij hj hj0 hi hi0 m ht c2 c1 m1 m0 hf hl nb na sb sa pb pa hst T; omega))] at q
            exact q
          refine kasC_bind (gallop_ G (key _ K5) (pa _ (item_mem hi5)) (fun t ht => pb _ (item_mem (by (clear gB2 gA2 hB2 hk2 hi5 d3 m₅ ek hz K5 K4 key m₄ gB gA hB hk hu₃ hj₃ hj₃0 hi₃ hi₃0 m₃ h G K3 hu hu₂ hj₂ hj₂0 hi₂ hi₂0 m₂ K1 hij hj hj0 hi hi0 m c2 c1 m1 m0 hf hl nb na sb sa pb pa hst T; omega)))) (by (clear gB2 gA2 hB2 hk2 hi5 d3 m₅ ek hz K5 K4 key m₄ gB gA hB hk hu₃ hj₃ hj₃0 hi₃ hi₃0 m₃ h G K3 hu hu₂ hj₂ hj₂0 hi₂ hi₂0 m₂ K1 hij hj hj0 hi hi0 m ht c2 c1 m1 m0 hf hl nb na sb sa pb pa hst T; omega)) (by (clear gB2 gA2 hB2 hk2 hi5 m₅ hz K5 K4 key m₄ gB gA hB hk ja hu₃ hj₃ hi₃ m₃ h G K3 hu hu₂ hj₂ hj₂0 hi₂ hi₂0 m₂ K1 hij hj hj0 hi hi0 m ht c2 c1 m1 m0 hf hl nb na sb sa pb pa hst T; omega)) hk2 hB2 ?_)
          dsimp only
          by_cases hz2 : j₃ - 1 - k2 > 0
          · rw [if_pos hz2]
            have m₆ := hgalB T sb sa pa pb m₅ (show 0 < i₃ by (clear hz2 gB2 gA2 hB2 hk2 hi5 d3 m₅ hz K5 K4 key m₄ gB gA hB hk ja hu₃ hj₃ hj₃0 hi₃ m₃ h G K3 hu hu₂ hj₂ hj₂0 hi₂ hi₂0 m₂ K1 hij hj hj0 hi hi0 m ht c2 c1 m1 m0 hf hl nb na sb sa pb pa hst T; omega)) (by (clear hz2 gB2 gA2 hB2 hk2 hi5 d3 m₅ ek hz K5 K4 key m₄ gB gA hB hk ja hu₃ hj₃ hj₃0 hi₃0 m₃ h G K3 hu hu₂ hj₂ hj₂0 hi₂ hi₂0 m₂ K1 hij hj hj0 hi hi0 m ht c2 c1 m1 m0 hf hl nb na sb sa pb pa hst T; omega)) (by (clear hz2 gB2 gA2 hB2 hk2 hi5 d3 m₅ ek hz K5 K4 key m₄ gB gA hB hk hu₃ hj₃ hj₃0 hi₃ hi₃0 m₃ h G K3 hu hu₂ hj₂ hj₂0 hi₂ hi₂0 m₂ K1 hij hj hj0 hi hi0 m ht c2 c1 m1 m0 hf hl nb na sb sa pb pa hst T; omega)) (show k2 ≤ j₃ - 1 by (clear hz2 gB2 gA2 hB2 hi5 d3 m₅ ek hz K5 K4 key m₄ gB gA hB hk ja hu₃ hj₃ hj₃0 hi₃ hi₃0 m₃ h G K3 hu hu₂ hj₂ hj₂0 hi₂ hi₂0 m₂ K1 hij hj hj0 hi hi0 m ht c2 c1 m1 m0 hf hl nb na sb sa pb pa hst T; omega)) (fun t h1 h2 => gB2 t h1 h2)
            by_cases d4 : k2 = 1
            · rw [if_pos (by simp [d4])]
              exact kasC_pure ⟨K5, rfl, .inl ⟨_, _, rfl, hfirst sa sb m₆ (by (clear d4 m₆ hz2 gB2 gA2 hB2 hk2 hi5 d3 m₅ ek hz K5 K4 key m₄ gB gA hB hk ja hu₃ hj₃ hj₃0 hi₃0 m₃ h G K3 hu hu₂ hj₂ hj₂0 hi₂ hi₂0 m₂ K1 hij hj hj0 hi hi0 m ht c2 c1 m1 m0 hf hl nb na sb sa pb pa hst T; omega)) (by (clear m₆ hz2 gB2 gA2 hB2 hi5 d3 m₅ ek hz K5 K4 key m₄ gB gA hB hk hu₃ hj₃ hj₃0 hi₃ hi₃0 m₃ h G K3 hu hu₂ hj₂ hj₂0 hi₂ hi₂0 m₂ K1 hij hj hj0 hi hi0 m ht c2 c1 m1 m0 hf hl nb na sb sa pb pa hst T; omega)) d4 hf⟩⟩
            rw [if_neg (by simpa using d4)]
            by_cases d5 : k2 = 0
            · rw [if_pos (by simp [d5])]
              exact kasC_pure ⟨K5, rfl, .inl ⟨_, _, rfl, hdoneB sa m₆ (by (clear d5 d4 m₆ hz2 gB2 gA2 hB2 hk2 hi5 d3 m₅ ek hz K5 K4 key m₄ gB gA hB hk ja hu₃ hj₃ hj₃0 hi₃0 m₃ h G K3 hu hu₂ hj₂ hj₂0 hi₂ hi₂0 m₂ K1 hij hj hj0 hi hi0 m ht c2 c1 m1 m0 hf hl nb na sb sa pb pa hst T; omega)) d5⟩⟩
            rw [if_neg (by simpa using d5)]
            refine kasC_bind (c_elem hi5 ?_)
            have m₇ := hpushA T sb sa pa pb m₆ (show 0 < i₃ by (clear d5 d4 m₆ hz2 gB2 gA2 hB2 hk2 hi5 d3 m₅ hz K5 K4 key m₄ gB gA hB hk ja hu₃ hj₃ hj₃0 hi₃ m₃ h G K3 hu hu₂ hj₂ hj₂0 hi₂ hi₂0 m₂ K1 hij hj hj0 hi hi0 m ht c2 c1 m1 m0 hf hl nb na sb sa pb pa hst T; omega)) (by (clear d5 d4 m₆ hz2 gB2 gA2 hB2 hk2 hi5 d3 m₅ ek hz K5 K4 key m₄ gB gA hB hk ja hu₃ hj₃ hj₃0 hi₃0 m₃ h G K3 hu hu₂ hj₂ hj₂0 hi₂ hi₂0 m₂ K1 hij hj hj0 hi hi0 m ht c2 c1 m1 m0 hf hl nb na sb sa pb pa hst T; omega)) (by (clear d4 m₆ hz2 gB2 gA2 hB2 hk2 hi5 d3 m₅ ek hz K5 K4 key m₄ gB gA hB hk ja hu₃ hj₃ hj₃0 hi₃ hi₃0 m₃ h G K3 hu hu₂ hj₂ hj₂0 hi₂ hi₂0 m₂ K1 hij hj hj0 hi hi0 m ht c2 c1 m1 m0 hf hl nb na sb sa pb pa hst T; omega)) (by (clear d5 d4 m₆ hz2 gB2 gA2 hB2 hi5 d3 m₅ ek hz K5 K4 key m₄ gB gA hB hk hu₃ hj₃ hj₃0 hi₃ hi₃0 m₃ h G K3 hu hu₂ hj₂ hj₂0 hi₂ hi₂0 m₂ K1 hij hj hj0 hi hi0 m ht c2 c1 m1 m0 hf hl nb na sb sa pb pa hst T; omega)) (gA2 (k2 - 1) (by (clear d4 m₆ hz2 gB2 gA2 hB2 hk2 hi5 d3 m₅ ek hz K5 K4 key m₄ gB gA hB hk ja hu₃ hj₃ hj₃0 hi₃ hi₃0 m₃ h G K3 hu hu₂ hj₂ hj₂0 hi₂ hi₂0 m₂ K1 hij hj hj0 hi hi0 m ht c2 c1 m1 m0 hf hl nb na sb sa pb pa hst T; omega)))
            by_cases d6 : i₃ - 1 = 0
            · rw [if_pos (by simp [d6])]
              exact kasC_pure ⟨K5, rfl, .inl ⟨_, _, rfl, hdoneA sb m₇ (by (clear d6 m₇ d5 d4 m₆ hz2 gB2 gA2 hB2 hi5 d3 m₅ ek hz K5 K4 key m₄ gB gA hB hk hu₃ hj₃ hj₃0 hi₃ hi₃0 m₃ h G K3 hu hu₂ hj₂ hj₂0 hi₂ hi₂0 m₂ K1 hij hj hj0 hi hi0 m ht c2 c1 m1 m0 hf hl nb na sb sa pb pa hst T; omega)) d6⟩⟩
            rw [if_neg (by simpa using d6)]
            by_cases d7 : (decide (i₃ - k < 7) && decide (j₃ - 1 - k2 < 7)) = true
            · rw [if_pos d7]
              exact kasC_pure ⟨K5, rfl, .inr ⟨_, _, _, _, _, _, rfl, m₇, by (clear d7 m₇ d5 d4 m₆ hz2 gB2 gA2 hB2 hk2 hi5 d3 m₅ ek hz K5 K4 key m₄ gB gA hB hk ja hu₃ hj₃ hj₃0 hi₃ hi₃0 m₃ h G K3 hu hu₂ hj₂ hj₂0 hi₂ hi₂0 m₂ K1 hij hj hj0 hi hi0 m ht c2 c1 m1 m0 hf hl nb na sb sa pb pa hst T; omega), by (clear d7 d6 m₇ d5 d4 m₆ hz2 gB2 gA2 hB2 hk2 d3 m₅ ek hz K5 K4 key m₄ gB gA hB hk ja hu₃ hj₃ hj₃0 hi₃ hi₃0 m₃ h G K3 hu hu₂ hj₂ hj₂0 hi₂ hi₂0 m₂ K1 hij hj hj0 hi hi0 m ht c2 c1 m1 m0 hf hl nb na sb sa pb pa hst T; omega), by (clear d7 m₇ m₆ hz2 gB2 gA2 hB2 hk2 hi5 d3 m₅ ek hz K5 K4 key m₄ gB gA hB hk ja hu₃ hj₃ hj₃0 hi₃ hi₃0 m₃ h G K3 hu hu₂ hj₂ hj₂0 hi₂ hi₂0 m₂ K1 hij hj hj0 hi hi0 m ht c2 c1 m1 m0 hf hl nb na sb sa pb pa hst T; omega), by (clear d7 d6 m₇ d5 d4 m₆ hz2 gB2 gA2 hB2 hi5 d3 m₅ ek hz K5 K4 key m₄ gB gA hB hk hu₃ hj₃ hj₃0 hi₃ hi₃0 m₃ h G K3 hu hu₂ hj₂ hj₂0 hi₂ hi₂0 m₂ K1 hij hj hj0 hi hi0 m ht c2 c1 m1 m0 hf hl nb na sb sa pb pa hst T; omega), by (clear d7 m₇ m₆ gB2 gA2 hB2 hk2 hi5 d3 m₅ hz K5 K4 key m₄ gB gA hB hk ja hj₃ hj₃0 hi₃ m₃ h G K3 hu hu₂ hj₂ hj₂0 hi₂ hi₂0 m₂ K1 hij hj hj0 hi hi0 m ht c2 c1 m1 m0 hf hl nb na sb sa pb pa hst T; omega)⟩⟩
            · rw [if_neg d7]
              exact kasC_pure ⟨K5, rfl, _, _, _, _, _, _, rfl, m₇, by (clear d7 m₇ d5 d4 m₆ hz2 gB2 gA2 hB2 hk2 hi5 d3 m₅ ek hz K5 K4 key m₄ gB gA hB hk ja hu₃ hj₃ hj₃0 hi₃ hi₃0 m₃ h G K3 hu hu₂ hj₂ hj₂0 hi₂ hi₂0 m₂ K1 hij hj hj0 hi hi0 m ht c2 c1 m1 m0 hf hl nb na sb sa pb pa hst T; omega), by (clear d7 d6 m₇ d5 d4 m₆ hz2 gB2 gA2 hB2 hk2 d3 m₅ ek hz K5 K4 key m₄ gB gA hB hk ja hu₃ hj₃ hj₃0 hi₃ hi₃0 m₃ h G K3 hu hu₂ hj₂ hj₂0 hi₂ hi₂0 m₂ K1 hij hj hj0 hi hi0 m ht c2 c1 m1 m0 hf hl nb na sb sa pb pa hst T; omega), by (clear d7 m₇ m₆ hz2 gB2 gA2 hB2 hk2 hi5 d3 m₅ ek hz K5 K4 key m₄ gB gA hB hk ja hu₃ hj₃ hj₃0 hi₃ hi₃0 m₃ h G K3 hu hu₂ hj₂ hj₂0 hi₂ hi₂0 m₂ K1 hij hj hj0 hi hi0 m ht c2 c1 m1 m0 hf hl nb na sb sa pb pa hst T; omega), by (clear d7 d6 m₇ d5 d4 m₆ hz2 gB2 gA2 hB2 hi5 d3 m₅ ek hz K5 K4 key m₄ gB gA hB hk hu₃ hj₃ hj₃0 hi₃ hi₃0 m₃ h G K3 hu hu₂ hj₂ hj₂0 hi₂ hi₂0 m₂ K1 hij hj hj0 hi hi0 m ht c2 c1 m1 m0 hf hl nb na sb sa pb pa hst T; omega), by (clear d7 m₇ m₆ gB2 gA2 hB2 hk2 hi5 d3 m₅ hz K5 K4 key m₄ gB gA hB hk ja hj₃ hj₃0 hi₃ m₃ h G K3 hu hu₂ hj₂ hj₂0 hi₂ hi₂0 m₂ K1 hij hj hj0 hi hi0 m ht c2 c1 m1 m0 hf hl nb na sb sa pb pa hst T; omega)⟩
          · rw [if_neg hz2]
            refine kasC_bind (c_elem hi5 ?_)
            have m₇ := hpushA T sb sa pa pb m₅ (show 0 < i₃ by (clear hz2 gB2 gA2 hB2 hk2 hi5 d3 m₅ hz K5 K4 key m₄ gB gA hB hk ja hu₃ hj₃ hj₃0 hi₃ m₃ h G K3 hu hu₂ hj₂ hj₂0 hi₂ hi₂0 m₂ K1 hij hj hj0 hi hi0 m ht c2 c1 m1 m0 hf hl nb na sb sa pb pa hst T; omega)) (by (clear hz2 gB2 gA2 hB2 hk2 hi5 d3 m₅ ek hz K5 K4 key m₄ gB gA hB hk ja hu₃ hj₃ hj₃0 hi₃0 m₃ h G K3 hu hu₂ hj₂ hj₂0 hi₂ hi₂0 m₂ K1 hij hj hj0 hi hi0 m ht c2 c1 m1 m0 hf hl nb na sb sa pb pa hst T; omega)) (by (clear gB2 gA2 hB2 hi5 d3 m₅ ek hz K5 K4 key m₄ gB gA hB hk ja hu₃ hj₃ hi₃ hi₃0 m₃ h G K3 hu hu₂ hj₂ hj₂0 hi₂ hi₂0 m₂ K1 hij hj hj0 hi hi0 m ht c2 c1 m1 m0 hf hl nb na sb sa pb pa hst T; omega)) (by (clear hz2 gB2 gA2 hB2 hk2 hi5 d3 m₅ ek hz K5 K4 key m₄ gB gA hB hk hu₃ hj₃ hj₃0 hi₃ hi₃0 m₃ h G K3 hu hu₂ hj₂ hj₂0 hi₂ hi₂0 m₂ K1 hij hj hj0 hi hi0 m ht c2 c1 m1 m0 hf hl nb na sb sa pb pa hst T; omega)) (gA2 (j₃ - 1 - 1) (by (clear gB2 gA2 hB2 hk2 hi5 d3 m₅ ek hz K5 K4 key m₄ gB gA hB hk ja hu₃ hj₃ hi₃ hi₃0 m₃ h G K3 hu hu₂ hj₂ hj₂0 hi₂ hi₂0 m₂ K1 hij hj hj0 hi hi0 m ht c2 c1 m1 m0 hf hl nb na sb sa pb pa hst T; omega)))
            by_cases d6 : i₃ - 1 = 0
            · rw [if_pos (by simp [d6])]
              exact kasC_pure ⟨K5, rfl, .inl ⟨_, _, rfl, hdoneA sb m₇ (by (clear d6 m₇ hz2 gB2 gA2 hB2 hk2 hi5 d3 m₅ ek hz K5 K4 key m₄ gB gA hB hk hu₃ hj₃ hj₃0 hi₃ hi₃0 m₃ h G K3 hu hu₂ hj₂ hj₂0 hi₂ hi₂0 m₂ K1 hij hj hj0 hi hi0 m ht c2 c1 m1 m0 hf hl nb na sb sa pb pa hst T; omega)) d6⟩⟩
            rw [if_neg (by simpa using d6)]
            by_cases d7 : (decide (i₃ - k < 7) && decide (j₃ - 1 - k2 < 7)) = true
            · rw [if_pos d7]
              exact kasC_pure ⟨K5, rfl, .inr ⟨_, _, _, _, _, _, rfl, m₇, by (clear d7 m₇ hz2 gB2 gA2 hB2 hk2 hi5 d3 m₅ ek hz K5 K4 key m₄ gB gA hB hk ja hu₃ hj₃ hj₃0 hi₃ hi₃0 m₃ h G K3 hu hu₂ hj₂ hj₂0 hi₂ hi₂0 m₂ K1 hij hj hj0 hi hi0 m ht c2 c1 m1 m0 hf hl nb na sb sa pb pa hst T; omega), by (clear d7 d6 m₇ hz2 gB2 gA2 hB2 hk2 d3 m₅ ek hz K5 K4 key m₄ gB gA hB hk ja hu₃ hj₃ hj₃0 hi₃ hi₃0 m₃ h G K3 hu hu₂ hj₂ hj₂0 hi₂ hi₂0 m₂ K1 hij hj hj0 hi hi0 m ht c2 c1 m1 m0 hf hl nb na sb sa pb pa hst T; omega), by (clear d7 m₇ gB2 gA2 hB2 hi5 m₅ hz K5 K4 key m₄ gB gA hB hk ja hu₃ hj₃ hi₃ m₃ h G K3 hu hu₂ hj₂ hj₂0 hi₂ hi₂0 m₂ K1 hij hj hj0 hi hi0 m ht c2 c1 m1 m0 hf hl nb na sb sa pb pa hst T; omega), by (clear d7 d6 m₇ hz2 gB2 gA2 hB2 hk2 hi5 d3 m₅ ek hz K5 K4 key m₄ gB gA hB hk hu₃ hj₃ hj₃0 hi₃ hi₃0 m₃ h G K3 hu hu₂ hj₂ hj₂0 hi₂ hi₂0 m₂ K1 hij hj hj0 hi hi0 m ht c2 c1 m1 m0 hf hl nb na sb sa pb pa hst T; omega), by (clear d7 m₇ gB2 gA2 hB2 hi5 m₅ hz K5 K4 key m₄ gB gA hB hk ja hj₃ hi₃ m₃ h G K3 hu hu₂ hj₂ hj₂0 hi₂ hi₂0 m₂ K1 hij hj hj0 hi hi0 m ht c2 c1 m1 m0 hf hl nb na sb sa pb pa hst T; omega)⟩⟩
            · rw [if_neg d7]
              exact kasC_pure ⟨K5, rfl, _, _, _, _, _, _, rfl, m₇, by (clear d7 m₇ hz2 gB2 gA2 hB2 hk2 hi5 d3 m₅ ek hz K5 K4 key m₄ gB gA hB hk ja hu₃ hj₃ hj₃0 hi₃ hi₃0 m₃ h G K3 hu hu₂ hj₂ hj₂0 hi₂ hi₂0 m₂ K1 hij hj hj0 hi hi0 m ht c2 c1 m1 m0 hf hl nb na sb sa pb pa hst T; omega), by (clear d7 d6 m₇ hz2 gB2 gA2 hB2 hk2 d3 m₅ ek hz K5 K4 key m₄ gB gA hB hk ja hu₃ hj₃ hj₃0 hi₃ hi₃0 m₃ h G K3 hu hu₂ hj₂ hj₂0 hi₂ hi₂0 m₂ K1 hij hj hj0 hi hi0 m ht c2 c1 m1 m0 hf hl nb na sb sa pb pa hst T; omega), by (clear d7 m₇ gB2 gA2 hB2 hi5 m₅ hz K5 K4 key m₄ gB gA hB hk ja hu₃ hj₃ hi₃ m₃ h G K3 hu hu₂ hj₂ hj₂0 hi₂ hi₂0 m₂ K1 hij hj hj0 hi hi0 m ht c2 c1 m1 m0 hf hl nb na sb sa pb pa hst T; omega), by (clear d7 d6 m₇ hz2 gB2 gA2 hB2 hk2 hi5 d3 m₅ ek hz K5 K4 key m₄ gB gA hB hk hu₃ hj₃ hj₃0 hi₃ hi₃0 m₃ h G K3 hu hu₂ hj₂ hj₂0 hi₂ hi₂0 m₂ K1 hij hj hj0 hi hi0 m ht c2 c1 m1 m0 hf hl nb na sb sa pb pa hst T; omega), by (clear d7 m₇ gB2 gA2 hB2 hi5 m₅ hz K5 K4 key m₄ gB gA hB hk ja hj₃ hi₃ m₃ h G K3 hu hu₂ hj₂ hj₂0 hi₂ hi₂0 m₂ K1 hij hj hj0 hi hi0 m ht c2 c1 m1 m0 hf hl nb na sb sa pb pa hst T; omega)⟩
      · rintro r st₃ s₃ ⟨K3, rfl, hr⟩
        rcases hr with ⟨res, z, rfl, hfin⟩ | ⟨i₃, j₃, out₃, mg, ac, bc, rfl, m₃, hi₃0, hi₃, hj₃0, hj₃, hu₃⟩
        · exact kasC_pure ⟨K3, rfl, _, _, rfl, hfin⟩
        dsimp only
        refine kasC_bind (setMG_ fun st₄ K4 => ?_)
        exact kasC_pure ⟨K3.trans K4, rfl, _, _, _, _, rfl, m₃, hi₃0, hi₃, hj₃0, hj₃, by (clear K4 hj₃ hj₃0 hi₃ hi₃0 m₃ h G K3 hj₂ hj₂0 hi₂ hi₂0 m₂ K1 hj hj0 hi hi0 m ht c2 c1 m1 m0 hf hl nb na sb sa pb pa hst T; omega)⟩
  · rintro r st' s' ⟨K1, rfl, res, z, rfl, hfin⟩
    exact kasC_pure (h _ _ K1 hfin)
end
end TS
namespace TS
open PySem PySem.W PyProof.Rows
section
variable {prog : Program} {w : World} {A : Around} {E : Value → Shared → Prop}
theorem c_upto {β : Type} {f : Nat → β → M2 (ForInStep β)} {R : β → SortSt → Shared → Prop} (I : Nat → β → SortSt → Shared → Prop) :
    ∀ (m a : Nat) (b : β) (st : SortSt) (s : Shared), I a b st s → (∀ b st s, I (a + m) b st s → R b st s) →
    (∀ k b st s, a ≤ k → k < a + m → I k b st s → kasC (model prog w) A E (f k b) (fun r st' s' => match r with | .done b' => R b' st' s' | .yield b' => I (k + 1) b' st' s') st s) →
    kasC (model prog w) A E (forIn (List.range' a m) b f) R st s
  | 0, a, b, st, s, hi, hq, _ => kasC_nil (hq b st s hi)
  | m + 1, a, b, st, s, hi, hq, hs => by
    rw [List.range'_succ]
    refine kasC_cons (wpAny_mono (hs a b st s (Nat.le_refl _) (by (clear hs hq hi; omega)) hi) (fun r s' h => ?_) fun _ _ e => e)
    obtain ⟨r, st'⟩ := r
    cases r with
    | done b' => exact h
    | yield b' => exact c_upto I m (a + 1) b' st' s' h (fun b st s hb => hq b st s (by rw [show a + (m + 1) = a + 1 + m by (clear hb h hs hq hi; omega)]; exact hb)) (fun k b st s h1 h2 h3 => hs k b st s (by (clear h3 h2 h hs hq hi; omega)) (by (clear h3 h1 h hs hq hi; omega)) h3)
theorem c_between {β : Type} {f : Nat → β → M2 (ForInStep β)} {Q : β → SortSt → Shared → Prop} {a n : Nat} {b : β} {st : SortSt} {s : Shared} (han : a ≤ n) (I : Nat → β → SortSt → Shared → Prop) (R : β → SortSt → Shared → Prop) (h0 : I a b st s) (he : ∀ b st s, I n b st s → R b st s)
    (hs : ∀ k b st s, a ≤ k → k < n → I k b st s → kasC (model prog w) A E (f k b) (fun r st' s' => match r with | .done b' => R b' st' s' | .yield b' => I (k + 1) b' st' s') st s) (hR : ∀ b st s, R b st s → Q b st s) : kasC (model prog w) A E (forIn [a:n] b f) Q st s := by
  refine kasC_range (wpAny_mono (c_upto I (n - a) a b st s h0 (fun b st s h => he b st s (by rw [show a + (n - a) = n by (clear h hR hs he h0; omega)] at h; exact h)) (fun k b st s h1 h2 h3 => hs k b st s h1 (by (clear h3 h1 hR hs he h0; omega)) h3)) (fun r s' h => hR _ _ _ h) fun _ _ e => e)
end
section
variable {P : Keyed → Prop} {lt : Keyed → Keyed → Bool}
theorem item_eq {xs ys : Array Keyed} {i j : Nat} (h : xs[i]? = ys[j]?) : kas_item xs i = kas_item ys j := by
  unfold kas_item
  rw [Array.getD_eq_getD_getElem?, Array.getD_eq_getD_getElem?, h]
theorem item_bubble {xs : Array Keyed} {src d : Nat} (hs : src < xs.size) (hd : d ≤ src) (t : Nat) : kas_item (bubble xs src d) t = if t = src - d then kas_item xs src else if src - d < t ∧ t ≤ src then kas_item xs (t - 1) else kas_item xs t := by
  have e := getElem?_bubble hs d hd t
  by_cases h1 : t = src - d
  · rw [if_pos h1] at e ⊢; exact item_eq e
  · rw [if_neg h1] at e ⊢
    by_cases h2 : src - d < t ∧ t ≤ src
    · rw [if_pos h2] at e ⊢; exact item_eq e
    · rw [if_neg h2] at e ⊢; exact item_eq e
theorem item_mirror {xs : Array Keyed} {i j : Nat} (hj : j ≤ xs.size) (t : Nat) : kas_item (mirror xs i j ((j - i) / 2)) t = if i ≤ t ∧ t < j then kas_item xs (i + j - 1 - t) else kas_item xs t := by
  have e := getElem?_mirror_all (i := i) hj t
  by_cases h1 : i ≤ t ∧ t < j
  · rw [if_pos h1] at e ⊢; exact item_eq e
  · rw [if_neg h1] at e ⊢; exact item_eq e
structure Loc (xs ys : Array Keyed) (lo hi : Nat) : Prop where
  size : ys.size = xs.size
  perm : ys.Perm xs
  out : ∀ t, t < lo ∨ hi ≤ t → ys[t]? = xs[t]?
theorem Loc.refl (xs : Array Keyed) (lo hi : Nat) : Loc xs xs lo hi := ⟨rfl, Array.Perm.refl _, fun _ _ => rfl⟩
theorem Loc.trans {xs ys zs : Array Keyed} {lo hi : Nat} (a : Loc xs ys lo hi) (b : Loc ys zs lo hi) : Loc xs zs lo hi := ⟨b.size.trans a.size, b.perm.trans a.perm, fun t ht => (b.out t ht).trans (a.out t ht)⟩
theorem Loc.wide {xs ys : Array Keyed} {lo hi lo' hi' : Nat} (a : Loc xs ys lo hi) (h1 : lo' ≤ lo) (h2 : hi ≤ hi') : Loc xs ys lo' hi' := ⟨a.size, a.perm, fun t ht => a.out t (by (clear a; omega))⟩
theorem Loc.good {xs ys : Array Keyed} {lo hi : Nat} (a : Loc xs ys lo hi) (h : ∀ x ∈ xs.toList, P x) : ∀ x ∈ ys.toList, P x := fun x hx => h x ((Array.perm_iff_toList_perm.mp a.perm).mem_iff.mp hx)
theorem loc_bubble {xs : Array Keyed} {src d : Nat} (hs : src < xs.size) (hd : d ≤ src) : Loc xs (bubble xs src d) (src - d) (src + 1) := ⟨bubble_size _ _ _, bubble_perm _ _ _, fun t ht => by
  rw [getElem?_bubble hs d hd t]
  by_cases h1 : t = src - d
  · (clear hs; omega)
  · rw [if_neg h1, if_neg (by (clear hs; omega))]⟩
theorem loc_mirror {xs : Array Keyed} {i j : Nat} (hj : j ≤ xs.size) : Loc xs (mirror xs i j ((j - i) / 2)) i j := ⟨mirror_size _ _ _ _, mirror_perm _ _ _ _, fun t ht => by
  rw [getElem?_mirror_all hj t, if_neg (by (clear hj; omega))]⟩
def Asc (lt : Keyed → Keyed → Bool) (xs : Array Keyed) (lo n : Nat) : Prop := ∀ p q, p < q → q < n → lt (kas_item xs (lo + q)) (kas_item xs (lo + p)) = false
/-- the kind, the runs and the failing stay -/
def Su (st st' : SortSt) : Prop := kindOf st' = kindOf st ∧ pendingOf st' = pendingOf st ∧ failedOf st' = failedOf st
theorem Su.refl (st : SortSt) : Su st st := ⟨rfl, rfl, rfl⟩
theorem Su.trans {a b c : SortSt} (h : Su a b) (g : Su b c) : Su a c := ⟨g.1.trans h.1, g.2.1.trans h.2.1, g.2.2.trans h.2.2⟩
theorem ins_asc (T : Tot P lt) {xs : Array Keyed} {lo k l : Nat} (hp : ∀ x ∈ xs.toList, P x) (hz : lo + k < xs.size) (hl : l ≤ k) (hs : Asc lt xs lo k) (h1 : ∀ t, t < l → lt (kas_item xs (lo + k)) (kas_item xs (lo + t)) = false) (h2 : ∀ t, l ≤ t → t < k → lt (kas_item xs (lo + k)) (kas_item xs (lo + t)) = true) :
    Asc lt (bubble xs (lo + k) (lo + k - (lo + l))) lo (k + 1) := by
  have pm : ∀ t, t ≤ k → P (kas_item xs (lo + t)) := fun t ht => hp _ (item_mem (by (clear h2 h1 hs hl hp T; omega)))
  intro p q hpq hq
  rw [item_bubble hz (by (clear hq hpq pm h2 h1 hs hz hp T; omega)), item_bubble hz (by (clear hq hpq pm h2 h1 hs hz hp T; omega))]
  by_cases q1 : q = l
  · rw [if_pos (by (clear hq pm h2 h1 hs hz hp T; omega)), if_neg (by (clear hq pm h2 h1 hs hz hp T; omega)), if_neg (by (clear hq pm h2 h1 hs hz hp T; omega))]
    exact h1 p (by (clear hq pm h2 h1 hs hl hz hp T; omega))
  · rw [if_neg (show ¬ lo + q = lo + k - (lo + k - (lo + l)) by (clear hq pm h2 h1 hs hz hp T; omega))]
    by_cases q2 : l < q
    · rw [if_pos (show lo + k - (lo + k - (lo + l)) < lo + q ∧ lo + q ≤ lo + k by (clear q1 pm h2 h1 hs hz hp T; omega)), show lo + q - 1 = lo + (q - 1) by (clear q2 q1 hq pm h2 h1 hs hl hz hp T; omega)]
      by_cases p1 : p = l
      · rw [if_pos (by (clear q2 q1 hq hpq pm h2 h1 hs hz hp T; omega))]
        exact T.asym _ _ (pm k (Nat.le_refl _)) (pm (q - 1) (by (clear q1 hpq pm h2 h1 hs hl hz hp T; omega))) (h2 (q - 1) (by (clear q1 hq hpq pm h2 h1 hs hl hz hp T; omega)) (by (clear q1 hpq pm h2 h1 hs hl hz hp T; omega)))
      · rw [if_neg (by (clear q2 q1 hq hpq pm h2 h1 hs hz hp T; omega))]
        by_cases p2 : l < p
        · rw [if_pos (by (clear p1 q2 q1 pm h2 h1 hs hz hp T; omega)), show lo + p - 1 = lo + (p - 1) by (clear p1 q2 q1 hq hpq pm h2 h1 hs hl hz hp T; omega)]
          exact hs (p - 1) (q - 1) (by (clear p1 q2 q1 hq pm h2 h1 hs hl hz hp T; omega)) (by (clear p2 p1 q2 q1 pm h2 h1 hs hl hz hp T; omega))
        · rw [if_neg (by (clear p1 q2 q1 hq hpq pm h2 h1 hs hz hp T; omega))]
          exact hs p (q - 1) (by (clear q1 hq pm h2 h1 hs hl hz hp T; omega)) (by (clear p2 p1 q2 q1 pm h2 h1 hs hl hz hp T; omega))
    · rw [if_neg (by (clear q1 hq hpq pm h2 h1 hs hz hp T; omega)), if_neg (by (clear q1 hq pm h2 h1 hs hz hp T; omega)), if_neg (by (clear q1 hq pm h2 h1 hs hz hp T; omega))]
      exact hs p q hpq (by (clear hpq pm h2 h1 hs hz hp T; omega))
end
section
variable {prog : Program} {w : World} {A : Around} {E : Value → Shared → Prop} {κ : SortKind} {P : Keyed → Prop} {lt : Keyed → Keyed → Bool}
theorem c_ltAt {s : Shared} (G : Good prog w A E κ P lt s) {i j : Nat} {Q : Option Bool → SortSt → Shared → Prop} {st : SortSt} (hst : kindOf st = κ) (hp : ∀ x ∈ (arrOf st).toList, P x) (hi : i < (arrOf st).size) (hj : j < (arrOf st).size)
    (h : Q (some (lt (kas_item (arrOf st) i) (kas_item (arrOf st) j))) st s) : kasC (model prog w) A E (ltAt' i j) Q st s := by
  rw [ltAt'_eq]
  refine kasC_bind (kasC_get (kasC_bind (c_elem hi (kasC_bind (c_elem hj ?_)))))
  exact G _ _ _ _ (hp _ (item_mem hi)) (hp _ (item_mem hj)) hst h
theorem c_move {k l : Nat} {Q : Unit → SortSt → Shared → Prop} {st : SortSt} {s : Shared} (h : ∀ st', Su st st' → arrOf st' = bubble (arrOf st) k (k - l) → Q () st' s) : kasC (model prog w) A E (moveDown' k l) Q st s := by
  rw [moveDown'_eq]
  exact kasC_modify (h _ ⟨rfl, rfl, rfl⟩ rfl)
theorem c_rev {i j : Nat} {Q : Unit → SortSt → Shared → Prop} {st : SortSt} {s : Shared} (h : ∀ st', Su st st' → arrOf st' = mirror (arrOf st) i j ((j - i) / 2) → Q () st' s) : kasC (model prog w) A E (reverseSlice' i j) Q st s := by
  rw [reverseSlice'_eq]
  exact kasC_modify (h _ ⟨rfl, rfl, rfl⟩ rfl)
theorem binarySort_ {s : Shared} (G : Good prog w A E κ P lt s) (T : Tot P lt) {lo n ok : Nat} {Q : Bool → SortSt → Shared → Prop} {st : SortSt} (hst : kindOf st = κ) (hp : ∀ x ∈ (arrOf st).toList, P x) (hn : lo + n ≤ (arrOf st).size) (hok : ok ≤ n) (h1 : 1 ≤ n) (hs : Asc lt (arrOf st) lo ok)
    (h : ∀ st', Su st st' → Loc (arrOf st) (arrOf st') lo (lo + n) → Asc lt (arrOf st') lo n → Q true st' s) : kasC (model prog w) A E (binarySort' lo n ok) Q st s := by
  refine kasC_bind (c_between (show max ok 1 ≤ n by (clear h hs hn hp hst T G; omega)) (fun k r st' s' => s' = s ∧ r = (none, ()) ∧ Su st st' ∧ Loc (arrOf st) (arrOf st') lo (lo + n) ∧ Asc lt (arrOf st') lo k) (fun r st' s' => s' = s ∧ r = (none, ()) ∧ Su st st' ∧ Loc (arrOf st) (arrOf st') lo (lo + n) ∧ Asc lt (arrOf st') lo n)
    ⟨rfl, rfl, Su.refl _, Loc.refl _ _ _, fun p q h1 h2 => hs p q h1 (by (clear h hs hok hn hp hst T G; omega))⟩ (fun _ _ _ h => h) ?_ ?_)
  · rintro k r st' s' hk1 hk2 ⟨rfl, rfl, S1, L1, A1⟩
    dsimp only
    have hp' := L1.good hp
    have hz : (arrOf st').size = (arrOf st).size := L1.size
    refine kasC_bind (c_rangeR (fun u r st₂ s₂ => st₂ = st' ∧ s₂ = s' ∧ ∃ l r', r = (none, l, r') ∧ l ≤ r' ∧ r' ≤ k ∧ (r' - l) + u ≤ k ∧ (∀ t, t < l → lt (kas_item (arrOf st') (lo + k)) (kas_item (arrOf st') (lo + t)) = false) ∧ ∀ t, r' ≤ t → t < k → lt (kas_item (arrOf st') (lo + k)) (kas_item (arrOf st') (lo + t)) = true)
      (fun r st₂ s₂ => st₂ = st' ∧ s₂ = s' ∧ ∃ l r', r = (none, l, r') ∧ l ≤ k ∧ (∀ t, t < l → lt (kas_item (arrOf st') (lo + k)) (kas_item (arrOf st') (lo + t)) = false) ∧ ∀ t, l ≤ t → t < k → lt (kas_item (arrOf st') (lo + k)) (kas_item (arrOf st') (lo + t)) = true)
      ⟨rfl, rfl, 0, k, rfl, by (clear hz hp' A1 L1 S1 h G hk2 hk1 hs h1 hok hn hp hst T; omega), by (clear hz hp' A1 L1 S1 h G hk2 hk1 hs h1 hok hn hp hst T; omega), by (clear hz hp' A1 L1 S1 h G hk2 hk1 hs h1 hok hn hp hst T; omega), fun t ht => absurd ht (Nat.not_lt_zero _), fun t h1 h2 => by (clear hz hp' A1 L1 S1 h G hk2 hk1 hs hok hn hp hst T; omega)⟩ ?_ ?_ ?_)
    · rintro r st₂ s₂ ⟨rfl, rfl, l, r', rfl, g1, g2, g3, g4, g5⟩
      exact ⟨rfl, rfl, l, r', rfl, by (clear g5 g4 g3 h G hz hp' A1 L1 S1 hk2 hk1 hs h1 hok hn hp hst T; omega), g4, fun t h1 h2 => g5 t (by (clear h2 g5 g4 g2 h G hz hp' A1 L1 S1 hk2 hk1 hs hok hn hp hst T; omega)) h2⟩
    · rintro u x r st₂ s₂ hu ⟨rfl, rfl, l, r', rfl, g1, g2, g3, g4, g5⟩
      dsimp only
      by_cases c : l ≥ r'
      · rw [if_pos c]
        exact kasC_pure ⟨rfl, rfl, l, r', rfl, by (clear g5 g4 g3 h G hz hp' A1 L1 S1 hu hk2 hk1 hs h1 hok hn hp hst T; omega), g4, fun t h1 h2 => g5 t (by (clear h2 g5 g4 g3 g2 h G hz hp' A1 L1 S1 hu hk2 hk1 hs hok hn hp hst T; omega)) h2⟩
      rw [if_neg c]
      refine kasC_bind (c_ltAt G (S1.1.trans hst) hp' (by (clear c g5 g4 g3 g2 g1 h G hp' A1 L1 S1 hu hk1 hs h1 hok hp hst T; omega)) (by (clear g5 g4 g3 g1 h G hp' A1 L1 S1 hu hk1 hs h1 hok hp hst T; omega)) ?_)
      dsimp only
      have pm : ∀ t, t ≤ k → P (kas_item (arrOf st₂) (lo + t)) := fun t ht => hp' _ (item_mem (by (clear c g5 g4 g3 g2 g1 h G hp' A1 L1 S1 hu hk1 hs h1 hok hp hst T; omega)))
      cases hl : lt (kas_item (arrOf st₂) (lo + k)) (kas_item (arrOf st₂) (lo + (l + r') / 2)) with
      | true =>
        rw [if_pos rfl]
        refine kasC_pure ⟨rfl, rfl, _, _, rfl, by (clear hl pm g5 g4 g3 g2 g1 h G hz hp' A1 L1 S1 hu hk2 hk1 hs h1 hok hn hp hst T; omega), by (clear hl pm g5 g4 g3 g1 h G hz hp' A1 L1 S1 hu hk2 hk1 hs h1 hok hn hp hst T; omega), by (clear hl pm g5 g4 g2 g1 h G hz hp' A1 L1 S1 hk2 hk1 hs h1 hok hn hp hst T; omega), g4, fun t h1 h2 => ?_⟩
        by_cases e : t = (l + r') / 2
        · rw [e]; exact hl
        · cases c2 : lt (kas_item (arrOf st₂) (lo + k)) (kas_item (arrOf st₂) (lo + t)) with
          | true => rfl
          | false =>
            have z := T.trans _ _ _ (pm ((l + r') / 2) (by (clear c2 e hl pm c g5 g4 g3 g2 g1 h G hz hp' A1 L1 S1 hu hk2 hk1 hs hok hn hp hst T; omega))) (pm t (by (clear c2 e h1 hl pm c g5 g4 g3 g2 g1 h G hz hp' A1 L1 S1 hu hk2 hk1 hs hok hn hp hst T; omega))) (pm k (Nat.le_refl _)) (A1 _ _ (by (clear c2 h2 hl pm c g5 g4 g3 g2 g1 h G hz hp' A1 L1 S1 hu hk2 hk1 hs hok hn hp hst T; omega)) h2) c2
            rw [hl] at z
            cases z
      | false =>
        rw [if_neg Bool.false_ne_true]
        refine kasC_pure ⟨rfl, rfl, _, _, rfl, by (clear hl pm g5 g4 g3 g2 g1 h G hz hp' A1 L1 S1 hu hk2 hk1 hs h1 hok hn hp hst T; omega), by (clear hl pm c g5 g4 g3 g1 h G hz hp' A1 L1 S1 hu hk2 hk1 hs h1 hok hn hp hst T; omega), by (clear hl pm g5 g4 g2 g1 h G hz hp' A1 L1 S1 hk2 hk1 hs h1 hok hn hp hst T; omega), fun t ht => ?_, g5⟩
        by_cases e : t = (l + r') / 2
        · rw [e]; exact hl
        · exact T.trans _ _ _ (pm t (by (clear e hl pm g5 g4 g3 g1 h G hz hp' A1 L1 S1 hu hk2 hk1 hs h1 hok hn hp hst T; omega))) (pm ((l + r') / 2) (by (clear e ht hl pm g5 g4 g3 g1 h G hz hp' A1 L1 S1 hu hk2 hk1 hs h1 hok hn hp hst T; omega))) (pm k (Nat.le_refl _)) (A1 _ _ (by (clear hl pm c g5 g4 g3 g2 g1 h G hz hp' A1 L1 S1 hu hk2 hk1 hs h1 hok hn hp hst T; omega)) (by (clear e ht hl pm g5 g4 g3 g1 h G hz hp' A1 L1 S1 hu hk2 hk1 hs h1 hok hn hp hst T; omega))) hl
    · rintro r st₂ s₂ ⟨rfl, rfl, l, r', rfl, g1, g4, g5⟩
      dsimp only
      refine kasC_bind (c_move fun st₃ S3 e3 => kasC_pure ⟨rfl, rfl, S1.trans S3, ?_, ?_⟩)
      · rw [e3]
        exact L1.trans ((loc_bubble (by (clear e3 S3 g5 g4 g1 h G hp' A1 L1 S1 hk1 hs h1 hok hp hst T; omega)) (by (clear e3 S3 g5 g4 h G hz hp' A1 L1 S1 hk2 hk1 hs h1 hok hn hp hst T; omega))).wide (by (clear e3 S3 g5 g4 h G hz hp' A1 L1 S1 hk2 hk1 hs h1 hok hn hp hst T; omega)) (by (clear e3 S3 g5 g4 g1 h G hz hp' A1 L1 S1 hk1 hs h1 hok hn hp hst T; omega)))
      · rw [e3]
        exact ins_asc T hp' (by (clear e3 S3 g5 g4 g1 h G hp' A1 L1 S1 hk1 hs h1 hok hp hst T; omega)) g1 A1 g4 g5
  · rintro r st' s' ⟨rfl, rfl, S1, L1, A1⟩
    exact kasC_pure (h _ S1 L1 A1)
end
end TS
namespace TS
open PySem PySem.W PyProof.Rows
section
variable {P : Keyed → Prop} {lt : Keyed → Keyed → Bool}
def Desc (lt : Keyed → Keyed → Bool) (xs : Array Keyed) (lo n : Nat) : Prop := ∀ p q, p < q → q < n → lt (kas_item xs (lo + p)) (kas_item xs (lo + q)) = false
def EqT (lt : Keyed → Keyed → Bool) (xs : Array Keyed) (lo i m : Nat) : Prop := ∀ p q, i ≤ p → p < m → i ≤ q → q < m → lt (kas_item xs (lo + p)) (kas_item xs (lo + q)) = false
theorem desc_snoc (T : Tot P lt) {xs : Array Keyed} {lo m : Nat} (hp : ∀ x ∈ xs.toList, P x) (hz : lo + m < xs.size) (h : Desc lt xs lo m) (h1 : 0 < m → lt (kas_item xs (lo + m - 1)) (kas_item xs (lo + m)) = false) : Desc lt xs lo (m + 1) := by
  have pm : ∀ t, t ≤ m → P (kas_item xs (lo + t)) := fun t ht => hp _ (item_mem (by (clear h1 h hp T; omega)))
  intro p q hpq hq
  by_cases e : q = m
  · have z := h1 (by (clear hq pm h1 h hz hp T; omega))
    rw [show lo + m - 1 = lo + (m - 1) by (clear z hq pm h1 h hz hp T; omega)] at z
    rw [e]
    by_cases e2 : p = m - 1
    · rw [e2]; exact z
    · exact T.trans _ _ _ (pm m (Nat.le_refl _)) (pm (m - 1) (by (clear e2 z hq pm h1 h hz hp T; omega))) (pm p (by (clear e2 z hq pm h1 h hz hp T; omega))) z (h p (m - 1) (by (clear z hq pm h1 h hz hp T; omega)) (by (clear e2 z hq pm h1 h hz hp T; omega)))
  · exact h p q hpq (by (clear hpq pm h1 h hz hp T; omega))
theorem asc_snoc (T : Tot P lt) {xs : Array Keyed} {lo m : Nat} (hp : ∀ x ∈ xs.toList, P x) (hz : lo + m < xs.size) (h : Asc lt xs lo m) (h1 : 0 < m → lt (kas_item xs (lo + m)) (kas_item xs (lo + m - 1)) = false) : Asc lt xs lo (m + 1) := by
  have pm : ∀ t, t ≤ m → P (kas_item xs (lo + t)) := fun t ht => hp _ (item_mem (by (clear h1 h hp T; omega)))
  intro p q hpq hq
  by_cases e : q = m
  · have z := h1 (by (clear hq pm h1 h hz hp T; omega))
    rw [show lo + m - 1 = lo + (m - 1) by (clear z hq pm h1 h hz hp T; omega)] at z
    rw [e]
    by_cases e2 : p = m - 1
    · rw [e2]; exact z
    · exact T.trans _ _ _ (pm p (by (clear e2 z hq pm h1 h hz hp T; omega))) (pm (m - 1) (by (clear e2 z hq pm h1 h hz hp T; omega))) (pm m (Nat.le_refl _)) (h p (m - 1) (by (clear z hq pm h1 h hz hp T; omega)) (by (clear e2 z hq pm h1 h hz hp T; omega))) z
  · exact h p q hpq (by (clear hpq pm h1 h hz hp T; omega))
theorem it_mirror {xs : Array Keyed} {lo i m t : Nat} (hz : lo + m ≤ xs.size) (ht : t < m) : kas_item (mirror xs (lo + i) (lo + m) ((lo + m - (lo + i)) / 2)) (lo + t) = if i ≤ t then kas_item xs (lo + (i + m - 1 - t)) else kas_item xs (lo + t) := by
  rw [item_mirror hz]
  by_cases c : i ≤ t
  · rw [if_pos (by (clear hz; omega)), if_pos c, show lo + i + (lo + m) - 1 - (lo + t) = lo + (i + m - 1 - t) by (clear c hz; omega)]
  · rw [if_neg (by (clear ht hz; omega)), if_neg c]
theorem desc_mirror {xs : Array Keyed} {lo i m : Nat} (hz : lo + m ≤ xs.size) (h : Desc lt xs lo m) (he : EqT lt xs lo i m) : Desc lt (mirror xs (lo + i) (lo + m) ((lo + m - (lo + i)) / 2)) lo m := by
  intro p q hpq hq
  rw [it_mirror hz (by (clear he h hz; omega)), it_mirror hz hq]
  by_cases c1 : i ≤ p
  · rw [if_pos c1, if_pos (by (clear hq he h hz; omega))]
    exact he _ _ (by (clear c1 he h hz; omega)) (by (clear he h hz; omega)) (by (clear c1 hpq he h hz; omega)) (by (clear he h hz; omega))
  · rw [if_neg c1]
    by_cases c2 : i ≤ q
    · rw [if_pos c2]
      exact h _ _ (by (clear c2 hpq he h hz; omega)) (by (clear hpq he h hz; omega))
    · rw [if_neg c2]
      exact h p q hpq hq
theorem asc_mirror {xs : Array Keyed} {lo m : Nat} (hz : lo + m ≤ xs.size) (h : Desc lt xs lo m) : Asc lt (mirror xs lo (lo + m) ((lo + m - lo) / 2)) lo m := by
  have e : mirror xs lo (lo + m) ((lo + m - lo) / 2) = mirror xs (lo + 0) (lo + m) ((lo + m - (lo + 0)) / 2) := rfl
  rw [e]
  intro p q hpq hq
  rw [it_mirror hz hq, it_mirror hz (by (clear e h hz; omega)), if_pos (Nat.zero_le _), if_pos (Nat.zero_le _)]
  exact h _ _ (by (clear e h hz; omega)) (by (clear e h hz; omega))
end
section
variable {prog : Program} {w : World} {A : Around} {E : Value → Shared → Prop} {κ : SortKind} {P : Keyed → Prop} {lt : Keyed → Keyed → Bool}
theorem countRun_ {s : Shared} (G : Good prog w A E κ P lt s) (T : Tot P lt) {lo nrem : Nat} {Q : Option Nat → SortSt → Shared → Prop} {st : SortSt} (hst : kindOf st = κ) (hp : ∀ x ∈ (arrOf st).toList, P x) (hn : lo + nrem ≤ (arrOf st).size) (h1 : 1 ≤ nrem)
    (h : ∀ n st', 1 ≤ n → n ≤ nrem → Su st st' → Loc (arrOf st) (arrOf st') lo (lo + nrem) → Asc lt (arrOf st') lo n → Q (some n) st' s) : kasC (model prog w) A E (countRun' lo nrem) Q st s := by
  have irr : ∀ x, P x → lt x x = false := fun x hx => by
    cases c : lt x x with
    | false => rfl
    | true => exact c.symm.trans (T.asym x x hx hx c)
  refine kasC_bind (c_between (show 1 ≤ nrem by (clear irr h hn hp hst T G; omega)) (fun k r st₉ s₉ => st₉ = st ∧ s₉ = s ∧ r = (none, k) ∧ Asc lt (arrOf st) lo k) (fun r st₉ s₉ => st₉ = st ∧ s₉ = s ∧ ∃ k, r = (none, k) ∧ 1 ≤ k ∧ k ≤ nrem ∧ Asc lt (arrOf st) lo k ∧ (k = nrem ∨ lt (kas_item (arrOf st) (lo + k)) (kas_item (arrOf st) (lo + k - 1)) = true))
    ⟨rfl, rfl, rfl, fun p q a b => absurd b (by (clear irr h h1 hn hp hst T G; omega))⟩ (fun r st₉ s₉ ⟨e1, e2, e3, e4⟩ => ⟨e1, e2, nrem, e3, by (clear e4 e3 e2 e1 irr h hn hp hst T G; omega), Nat.le_refl _, e4, .inl rfl⟩) ?_ ?_)
  · rintro k r st₉ s₉ hk1 hk2 ⟨rfl, rfl, rfl, A9⟩
    dsimp only
    refine kasC_bind (c_ltAt G hst hp (by (clear A9 h G hp hst hk1 irr h1 T; omega)) (by (clear A9 h G hp hst irr h1 T; omega)) ?_)
    dsimp only
    cases hl : lt (kas_item (arrOf st₉) (lo + k)) (kas_item (arrOf st₉) (lo + k - 1)) with
    | true =>
      rw [if_pos rfl]
      exact kasC_pure ⟨rfl, rfl, k, rfl, hk1, by (clear hl A9 h G hn hp hst hk1 irr h1 T; omega), A9, .inr hl⟩
    | false =>
      rw [if_neg Bool.false_ne_true]
      exact kasC_pure ⟨rfl, rfl, rfl, asc_snoc T hp (by (clear hl A9 h G hp hst hk1 irr h1 T; omega)) A9 fun _ => hl⟩
  · rintro r st₁ s₁ ⟨rfl, rfl, n, rfl, g1, g2, A1, hbr⟩
    dsimp only
    by_cases c1 : n = nrem
    · rw [if_pos (by simp [c1])]
      exact kasC_pure (h n _ g1 g2 (Su.refl _) (Loc.refl _ _ _) A1)
    rw [if_neg (by simpa using c1)]
    have hbr' : lt (kas_item (arrOf st₁) (lo + n)) (kas_item (arrOf st₁) (lo + n - 1)) = true := by
      rcases hbr with z | z
      · exact absurd z c1
      · exact z
    have pm1 : ∀ t, t ≤ n → P (kas_item (arrOf st₁) (lo + t)) := fun t ht => hp _ (item_mem (by (clear hbr' hbr A1 g1 h G hp hst irr h1 T; omega)))
    rw [show lo + n - 1 = lo + (n - 1) by (clear pm1 hbr' c1 hbr A1 g2 h G hn hp hst irr h1 T; omega)] at hbr'
    have hge1 := T.asym _ _ (pm1 n (Nat.le_refl _)) (pm1 (n - 1) (by (clear pm1 hbr' c1 hbr A1 g2 h G hn hp hst irr h1 T; omega))) hbr'
    by_cases c2 : n > 1
    · rw [if_pos c2]
      refine kasC_bind (c_ltAt G hst hp (by (clear c2 hge1 pm1 hbr' c1 hbr A1 g2 g1 h G hp hst irr T; omega)) (by (clear hge1 pm1 hbr' c1 hbr A1 g1 h G hp hst irr h1 T; omega)) ?_)
      dsimp only
      cases hl0 : lt (kas_item (arrOf st₁) lo) (kas_item (arrOf st₁) (lo + n - 1)) with
      | true =>
        rw [if_pos rfl]
        exact kasC_pure (h n _ g1 g2 (Su.refl _) (Loc.refl _ _ _) A1)
      | false =>
        rw [if_neg Bool.false_ne_true]
        rw [show lo + n - 1 = lo + (n - 1) by (clear hl0 hge1 pm1 hbr' c1 hbr A1 g2 g1 h G hn hp hst irr h1 T; omega)] at hl0
        have hl0' : lt (kas_item (arrOf st₁) (lo + 0)) (kas_item (arrOf st₁) (lo + (n - 1))) = false := hl0
        have E1 : EqT lt (arrOf st₁) lo 0 n := fun p q _ hp1 _ hq1 => by
          have z1 : lt (kas_item (arrOf st₁) (lo + (n - 1))) (kas_item (arrOf st₁) (lo + q)) = false := by
            by_cases e : q = n - 1
            · rw [e]; exact irr _ (pm1 (n - 1) (by (clear hp1 hl0' hl0 c2 hge1 pm1 hbr' c1 hbr A1 g2 g1 h G hn hp hst irr h1 T; omega)))
            · exact A1 _ _ (by (clear hp1 hl0' hl0 hge1 pm1 hbr' c1 hbr A1 g2 g1 h G hn hp hst irr h1 T; omega)) (by (clear e hq1 hp1 hl0' hl0 hge1 pm1 hbr' c1 hbr A1 g2 g1 h G hn hp hst irr h1 T; omega))
          have z2 : lt (kas_item (arrOf st₁) (lo + p)) (kas_item (arrOf st₁) (lo + 0)) = false := by
            by_cases e : p = 0
            · rw [e]; exact irr _ (pm1 0 (by (clear e z1 hq1 hp1 hl0' hl0 hge1 pm1 hbr' c1 hbr A1 g2 g1 h G hn hp hst irr h1 T; omega)))
            · exact A1 _ _ (by (clear z1 hq1 hp1 hl0' hl0 c2 hge1 pm1 hbr' c1 hbr A1 g2 g1 h G hn hp hst irr h1 T; omega)) (by (clear e z1 hq1 hl0' hl0 c2 hge1 pm1 hbr' c1 hbr A1 g2 g1 h G hn hp hst irr h1 T; omega))
          have z3 := T.trans _ _ _ (pm1 q (by (clear z2 z1 hp1 hl0' hl0 c2 hge1 pm1 hbr' c1 hbr A1 g2 g1 h G hn hp hst irr h1 T; omega))) (pm1 (n - 1) (by (clear z2 z1 hq1 hp1 hl0' hl0 hge1 pm1 hbr' c1 hbr A1 g2 g1 h G hn hp hst irr h1 T; omega))) (pm1 0 (by (clear z2 z1 hq1 hp1 hl0' hl0 hge1 pm1 hbr' c1 hbr A1 g2 g1 h G hn hp hst irr h1 T; omega))) z1 hl0'
          exact T.trans _ _ _ (pm1 q (by (clear z3 z2 z1 hp1 hl0' hl0 c2 hge1 pm1 hbr' c1 hbr A1 g2 g1 h G hn hp hst irr h1 T; omega))) (pm1 0 (by (clear z3 z2 z1 hq1 hp1 hl0' hl0 hge1 pm1 hbr' c1 hbr A1 g2 g1 h G hn hp hst irr h1 T; omega))) (pm1 p (by (clear z3 z2 z1 hq1 hl0' hl0 c2 hge1 pm1 hbr' c1 hbr A1 g2 g1 h G hn hp hst irr h1 T; omega))) z3 z2
        refine kasC_bind (c_rev fun st₂ S2 e2 => ?_)
        have L2 : Loc (arrOf st₁) (arrOf st₂) lo (lo + nrem) := by
          rw [e2]
          exact (loc_mirror (by (clear e2 S2 E1 hl0' hl0 c2 hge1 pm1 hbr' c1 hbr A1 g1 h G hp hst irr h1 T; omega))).wide (Nat.le_refl _) (by (clear e2 S2 E1 hl0' hl0 c2 hge1 pm1 hbr' c1 hbr A1 g1 h G hn hp hst irr h1 T; omega))
        have D2 : Desc lt (arrOf st₂) lo (n + 1) := by
          have D1 := desc_mirror (i := 0) (show lo + n ≤ (arrOf st₁).size by (clear L2 e2 S2 E1 hl0' hl0 c2 hge1 pm1 hbr' c1 hbr A1 g1 h G hp hst irr h1 T; omega)) (fun p q a b => E1 p q (Nat.zero_le _) (by (clear L2 e2 S2 E1 hl0' hl0 c2 hge1 pm1 hbr' c1 hbr A1 g2 g1 h G hn hp hst irr h1 T; omega)) (Nat.zero_le _) b) E1
          have hp2 := (loc_mirror (xs := arrOf st₁) (i := lo) (j := lo + n) (by (clear D1 L2 e2 S2 E1 hl0' hl0 c2 hge1 pm1 hbr' c1 hbr A1 g1 h G hp hst irr h1 T; omega))).good hp
          have z1 : kas_item (mirror (arrOf st₁) lo (lo + n) ((lo + n - lo) / 2)) (lo + n) = kas_item (arrOf st₁) (lo + n) := by
            rw [item_mirror (by (clear hp2 D1 L2 e2 S2 E1 hl0' hl0 c2 hge1 pm1 hbr' c1 hbr A1 g1 h G hp hst irr h1 T; omega)), if_neg (by (clear hp2 D1 L2 e2 S2 E1 hl0' hl0 c2 hge1 pm1 hbr' c1 hbr A1 g2 g1 h G hn hp hst irr h1 T; omega))]
          rw [e2]
          refine desc_snoc T hp2 (by rw [mirror_size]; (clear z1 hp2 D1 L2 e2 S2 E1 hl0' hl0 c2 hge1 pm1 hbr' hbr A1 g1 h G hp hst irr h1 T; omega)) D1 fun _ => ?_
          have z2 := it_mirror (xs := arrOf st₁) (lo := lo) (i := 0) (m := n) (t := n - 1) (by (clear z1 hp2 D1 L2 e2 S2 E1 hl0' hl0 c2 hge1 pm1 hbr' c1 hbr A1 g1 h G hp hst irr h1 T; omega)) (by (clear z1 hp2 D1 L2 e2 S2 E1 hl0' hl0 hge1 pm1 hbr' c1 hbr A1 g2 g1 h G hn hp hst irr h1 T; omega))
          rw [if_pos (Nat.zero_le _)] at z2
          rw [show lo + n - 1 = lo + (n - 1) by (clear z2 z1 hp2 D1 L2 e2 S2 E1 hl0' hl0 hge1 pm1 hbr' c1 hbr A1 g2 g1 h G hn hp hst irr h1 T; omega), z1]
          have z3 : kas_item (mirror (arrOf st₁) lo (lo + n) ((lo + n - lo) / 2)) (lo + (n - 1)) = kas_item (arrOf st₁) (lo + (0 + n - 1 - (n - 1))) := z2
          rw [z3]
          exact T.trans _ _ _ (pm1 n (Nat.le_refl _)) (pm1 (n - 1) (by (clear z3 z2 z1 hp2 D1 L2 e2 S2 E1 hl0' hl0 hge1 pm1 hbr' c1 hbr A1 g2 g1 h G hn hp hst irr h1 T; omega))) (pm1 _ (by (clear z3 z2 z1 hp2 D1 L2 e2 S2 E1 hl0' hl0 hge1 pm1 hbr' c1 hbr A1 g2 g1 h G hn hp hst irr h1 T; omega))) hge1 (E1 _ _ (Nat.zero_le _) (by (clear z3 z2 z1 hp2 D1 L2 e2 S2 E1 hl0' hl0 hge1 pm1 hbr' c1 hbr A1 g2 g1 h G hn hp hst irr h1 T; omega)) (Nat.zero_le _) (by (clear z3 z2 z1 hp2 D1 L2 e2 S2 E1 hl0' hl0 hge1 pm1 hbr' c1 hbr A1 g2 g1 h G hn hp hst irr h1 T; omega)))
        refine kasC_bind (kasC_lift (wpAny_rule ?_))
        refine kasC_bind (c_between (show n + 1 ≤ nrem by (clear D2 L2 e2 S2 E1 hl0' hl0 c2 hge1 pm1 hbr' hbr A1 g1 h G hn hp hst irr h1 T; omega)) (fun k r st₄ s₄ => s₄ = s₁ ∧ Su st₁ st₄ ∧ Loc (arrOf st₁) (arrOf st₄) lo (lo + nrem) ∧ ∃ q, r = (none, k, q) ∧ q + 1 ≤ k ∧ Desc lt (arrOf st₄) lo k ∧ EqT lt (arrOf st₄) lo (k - (q + 1)) k)
          (fun r st₄ s₄ => s₄ = s₁ ∧ Su st₁ st₄ ∧ Loc (arrOf st₁) (arrOf st₄) lo (lo + nrem) ∧ ∃ m q, r = (none, m, q) ∧ q + 1 ≤ m ∧ m ≤ nrem ∧ Desc lt (arrOf st₄) lo m ∧ EqT lt (arrOf st₄) lo (m - (q + 1)) m)
          ⟨rfl, S2, L2, 0, rfl, by (clear D2 L2 e2 S2 E1 hl0' hl0 hge1 pm1 hbr' c1 hbr A1 g2 g1 h G hn hp hst irr h1 T; omega), D2, fun p q h1 h2 h3 h4 => by
            have ep : p = n := by (clear h4 h3 D2 L2 e2 S2 E1 hl0' hl0 hge1 pm1 hbr' c1 hbr A1 g2 g1 h G hn hp hst irr T; omega)
            have eq' : q = n := by (clear h2 h1 D2 L2 e2 S2 E1 hl0' hl0 hge1 pm1 hbr' c1 hbr A1 g2 g1 h G hn hp hst irr T; omega)
            rw [ep, eq']
            exact irr _ (L2.good hp _ (item_mem (by have := L2.size; (clear h4 h3 h2 h1 D2 L2 e2 S2 E1 hl0' hl0 hge1 pm1 hbr' hbr A1 g1 h G hp hst irr T; omega))))⟩ (fun r st₄ s₄ ⟨e1, e2, e3, q, e4, e5, e6, e7⟩ => ⟨e1, e2, e3, nrem, q, e4, e5, Nat.le_refl _, e6, e7⟩) ?_ ?_)
        · rintro k r st₄ s₄ hk1 hk2 ⟨rfl, S4, L4, q, rfl, hq, D4, E4⟩
          dsimp only
          have hz4 := L4.size
          have hp4 := L4.good hp
          have hk4 : kindOf st₄ = κ := S4.1.trans hst
          have pm : ∀ t, t ≤ k → P (kas_item (arrOf st₄) (lo + t)) := fun t ht => hp4 _ (item_mem (by (clear hk4 hp4 E4 D4 hq L4 S4 h G hk1 D2 L2 e2 S2 E1 hl0' hl0 c2 hge1 pm1 hbr' c1 hbr A1 g2 g1 hp hst irr h1 T; omega)))
          refine kasC_bind (c_ltAt G hk4 hp4 (by (clear pm hk4 hp4 E4 D4 hq L4 S4 h G hk1 D2 L2 e2 S2 E1 hl0' hl0 c2 hge1 pm1 hbr' c1 hbr A1 g2 g1 hp hst irr h1 T; omega)) (by (clear pm hk4 hp4 E4 D4 L4 S4 h G hk1 D2 L2 e2 S2 E1 hl0' hl0 c2 hge1 pm1 hbr' c1 hbr A1 g2 g1 hp hst irr h1 T; omega)) ?_)
          dsimp only
          cases hl : lt (kas_item (arrOf st₄) (lo + k)) (kas_item (arrOf st₄) (lo + k - 1)) with
          | true =>
            rw [if_pos rfl]
            rw [show lo + k - 1 = lo + (k - 1) by (clear hl pm hk4 hp4 hz4 E4 D4 L4 S4 h G hk2 hk1 D2 L2 e2 S2 E1 hl0' hl0 c2 hge1 pm1 hbr' c1 hbr A1 g2 g1 hn hp hst irr h1 T; omega)] at hl
            have hge := T.asym _ _ (pm k (Nat.le_refl _)) (pm (k - 1) (by (clear hl pm hk4 hp4 hz4 E4 D4 L4 S4 h G hk2 hk1 D2 L2 e2 S2 E1 hl0' hl0 c2 hge1 pm1 hbr' c1 hbr A1 g2 g1 hn hp hst irr h1 T; omega))) hl
            by_cases hq0 : q > 0
            · rw [if_pos hq0]
              refine kasC_bind (c_rev fun st₅ S5 e5 => kasC_pure ⟨rfl, S4.trans S5, ?_, 0, rfl, by (clear e5 S5 hq0 hge hl pm hk4 hp4 hz4 E4 D4 hq L4 S4 h G hk2 hk1 D2 L2 e2 S2 E1 hl0' hl0 c2 hge1 pm1 hbr' c1 hbr A1 g2 g1 hn hp hst irr h1 T; omega), ?_, fun p q' h1 h2 h3 h4 => ?_⟩)
              · rw [e5]
                exact L4.trans ((loc_mirror (by (clear e5 S5 hq0 hge hl pm hk4 hp4 E4 D4 hq L4 S4 h G hk1 D2 L2 e2 S2 E1 hl0' hl0 c2 hge1 pm1 hbr' c1 hbr A1 g2 g1 hp hst irr h1 T; omega))).wide (by (clear e5 S5 hq0 hge hl pm hk4 hp4 hz4 E4 D4 L4 S4 h G hk2 hk1 D2 L2 e2 S2 E1 hl0' hl0 c2 hge1 pm1 hbr' c1 hbr A1 g2 g1 hn hp hst irr h1 T; omega)) (by (clear e5 S5 hq0 hge hl pm hk4 hp4 hz4 E4 D4 hq L4 S4 h G hk1 D2 L2 e2 S2 E1 hl0' hl0 c2 hge1 pm1 hbr' c1 hbr A1 g2 g1 hn hp hst irr h1 T; omega)))
              · rw [e5, show lo + k - (q + 1) = lo + (k - (q + 1)) by (clear e5 S5 hq0 hge hl pm hk4 hp4 hz4 E4 D4 L4 S4 h G hk2 hk1 D2 L2 e2 S2 E1 hl0' hl0 c2 hge1 pm1 hbr' c1 hbr A1 g2 g1 hn hp hst irr h1 T; omega)]
                have D5 := desc_mirror (by (clear e5 S5 hq0 hge hl pm hk4 hp4 E4 D4 hq L4 S4 h G hk1 D2 L2 e2 S2 E1 hl0' hl0 c2 hge1 pm1 hbr' c1 hbr A1 g2 g1 hp hst irr h1 T; omega)) D4 E4
                have hp5 := (loc_mirror (xs := arrOf st₄) (i := lo + (k - (q + 1))) (j := lo + k) (by (clear D5 e5 S5 hq0 hge hl pm hk4 hp4 E4 D4 hq L4 S4 h G hk1 D2 L2 e2 S2 E1 hl0' hl0 c2 hge1 pm1 hbr' c1 hbr A1 g2 g1 hp hst irr h1 T; omega))).good hp4
                have z1 : kas_item (mirror (arrOf st₄) (lo + (k - (q + 1))) (lo + k) ((lo + k - (lo + (k - (q + 1)))) / 2)) (lo + k) = kas_item (arrOf st₄) (lo + k) := by
                  rw [item_mirror (by (clear hp5 D5 e5 S5 hq0 hge hl pm hk4 hp4 E4 D4 hq L4 S4 h G hk1 D2 L2 e2 S2 E1 hl0' hl0 c2 hge1 pm1 hbr' c1 hbr A1 g2 g1 hp hst irr h1 T; omega)), if_neg (by (clear hp5 D5 e5 S5 hq0 hge hl pm hk4 hp4 hz4 E4 D4 hq L4 S4 h G hk2 hk1 D2 L2 e2 S2 E1 hl0' hl0 c2 hge1 pm1 hbr' c1 hbr A1 g2 g1 hn hp hst irr h1 T; omega))]
                refine desc_snoc T hp5 (by rw [mirror_size]; (clear z1 hp5 D5 e5 S5 hq0 hge hl pm hk4 hp4 E4 D4 hq L4 S4 h G hk1 D2 L2 e2 S2 E1 hl0' hl0 c2 hge1 pm1 hbr' c1 hbr A1 g2 g1 hp hst irr h1 T; omega)) D5 fun _ => ?_
                rw [show lo + k - 1 = lo + (k - 1) by (clear z1 hp5 D5 e5 S5 hq0 hge hl pm hk4 hp4 hz4 E4 D4 hq L4 S4 h G hk2 hk1 D2 L2 e2 S2 E1 hl0' hl0 c2 hge1 pm1 hbr' c1 hbr A1 g2 g1 hn hp hst irr h1 T; omega), z1, it_mirror (by (clear z1 hp5 D5 e5 S5 hq0 hge hl pm hk4 hp4 E4 D4 hq L4 S4 h G hk1 D2 L2 e2 S2 E1 hl0' hl0 c2 hge1 pm1 hbr' c1 hbr A1 g2 g1 hp hst irr h1 T; omega)) (by (clear z1 hp5 D5 e5 S5 hq0 hge hl pm hk4 hp4 hz4 E4 D4 hq L4 S4 h G hk2 hk1 D2 L2 e2 S2 E1 hl0' hl0 c2 hge1 pm1 hbr' c1 hbr A1 g2 g1 hn hp hst irr h1 T; omega)), if_pos (by (clear z1 hp5 D5 e5 S5 hge hl pm hk4 hp4 hz4 E4 D4 L4 S4 h G hk2 hk1 D2 L2 e2 S2 E1 hl0' hl0 c2 hge1 pm1 hbr' c1 hbr A1 g2 g1 hn hp hst irr h1 T; omega))]
                exact T.trans _ _ _ (pm k (Nat.le_refl _)) (pm (k - 1) (by (clear z1 hp5 D5 e5 S5 hq0 hge hl pm hk4 hp4 hz4 E4 D4 hq L4 S4 h G hk2 hk1 D2 L2 e2 S2 E1 hl0' hl0 c2 hge1 pm1 hbr' c1 hbr A1 g2 g1 hn hp hst irr h1 T; omega))) (pm _ (by (clear z1 hp5 D5 e5 S5 hge hl pm hk4 hp4 hz4 E4 D4 L4 S4 h G hk2 hk1 D2 L2 e2 S2 E1 hl0' hl0 c2 hge1 pm1 hbr' c1 hbr A1 g2 g1 hn hp hst irr h1 T; omega))) hge (E4 _ _ (by (clear z1 hp5 D5 e5 S5 hq0 hge hl pm hk4 hp4 hz4 E4 D4 hq L4 S4 h G hk2 hk1 D2 L2 e2 S2 E1 hl0' hl0 c2 hge1 pm1 hbr' c1 hbr A1 g2 g1 hn hp hst irr h1 T; omega)) (by (clear z1 hp5 D5 e5 S5 hge hl pm hk4 hp4 hz4 E4 D4 L4 S4 h G hk2 hk1 D2 L2 e2 S2 E1 hl0' hl0 c2 hge1 pm1 hbr' c1 hbr A1 g2 g1 hn hp hst irr h1 T; omega)) (by (clear z1 hp5 D5 e5 S5 hge hl pm hk4 hp4 hz4 E4 D4 L4 S4 h G hk2 hk1 D2 L2 e2 S2 E1 hl0' hl0 c2 hge1 pm1 hbr' c1 hbr A1 g2 g1 hn hp hst irr h1 T; omega)) (by (clear z1 hp5 D5 e5 S5 hq0 hge hl pm hk4 hp4 hz4 E4 D4 hq L4 S4 h G hk2 hk1 D2 L2 e2 S2 E1 hl0' hl0 c2 hge1 pm1 hbr' c1 hbr A1 g2 g1 hn hp hst irr h1 T; omega)))
              · have ep : p = k := by (clear h4 h3 e5 S5 hq0 hge hl pm hk4 hp4 hz4 E4 D4 hq L4 S4 h G hk2 hk1 D2 L2 e2 S2 E1 hl0' hl0 c2 hge1 pm1 hbr' c1 hbr A1 g2 g1 hn hp hst irr T; omega)
                have eq' : q' = k := by (clear h2 h1 e5 S5 hq0 hge hl pm hk4 hp4 hz4 E4 D4 hq L4 S4 h G hk2 hk1 D2 L2 e2 S2 E1 hl0' hl0 c2 hge1 pm1 hbr' c1 hbr A1 g2 g1 hn hp hst irr T; omega)
                rw [ep, eq']
                refine irr _ ?_
                have L5 : Loc (arrOf st₄) (arrOf st₅) (lo + k - (q + 1)) (lo + k) := by
                  rw [e5]
                  exact loc_mirror (by (clear h4 h3 h2 h1 e5 S5 hq0 hge hl pm hk4 hp4 E4 D4 hq L4 S4 h G hk1 D2 L2 e2 S2 E1 hl0' hl0 c2 hge1 pm1 hbr' c1 hbr A1 g2 g1 hp hst irr T; omega))
                exact L5.good hp4 _ (item_mem (by have := L5.size; (clear L5 h4 h3 h2 h1 e5 S5 hq0 hge hl pm hk4 hp4 E4 D4 hq L4 S4 h G hk1 D2 L2 e2 S2 E1 hl0' hl0 c2 hge1 pm1 hbr' c1 hbr A1 g2 g1 hp hst irr T; omega)))
            · rw [if_neg hq0]
              refine kasC_pure ⟨rfl, S4, L4, 0, rfl, by (clear hq0 hge hl pm hk4 hp4 hz4 E4 D4 hq L4 S4 h G hk2 hk1 D2 L2 e2 S2 E1 hl0' hl0 c2 hge1 pm1 hbr' c1 hbr A1 g2 g1 hn hp hst irr h1 T; omega), desc_snoc T hp4 (by (clear hq0 hge hl pm hk4 hp4 E4 D4 hq L4 S4 h G hk1 D2 L2 e2 S2 E1 hl0' hl0 c2 hge1 pm1 hbr' c1 hbr A1 g2 g1 hp hst irr h1 T; omega)) D4 fun _ => ?_, fun p q' h1 h2 h3 h4 => ?_⟩
              · rw [show lo + k - 1 = lo + (k - 1) by (clear hq0 hge hl pm hk4 hp4 hz4 E4 D4 hq L4 S4 h G hk2 hk1 D2 L2 e2 S2 E1 hl0' hl0 c2 hge1 pm1 hbr' c1 hbr A1 g2 g1 hn hp hst irr h1 T; omega)]
                exact hge
              · have ep : p = k := by (clear h4 h3 hq0 hge hl pm hk4 hp4 hz4 E4 D4 hq L4 S4 h G hk2 hk1 D2 L2 e2 S2 E1 hl0' hl0 c2 hge1 pm1 hbr' c1 hbr A1 g2 g1 hn hp hst irr T; omega)
                have eq' : q' = k := by (clear h2 h1 hge hl pm hk4 hp4 hz4 E4 D4 L4 S4 h G hk2 hk1 D2 L2 e2 S2 E1 hl0' hl0 c2 hge1 pm1 hbr' c1 hbr A1 g2 g1 hn hp hst irr T; omega)
                rw [ep, eq']
                exact irr _ (pm k (Nat.le_refl _))
          | false =>
            rw [if_neg Bool.false_ne_true]
            refine kasC_bind (c_ltAt G hk4 hp4 (by (clear hl pm hk4 hp4 E4 D4 L4 S4 h G hk1 D2 L2 e2 S2 E1 hl0' hl0 c2 hge1 pm1 hbr' c1 hbr A1 g2 g1 hp hst irr h1 T; omega)) (by (clear hl pm hk4 hp4 E4 D4 hq L4 S4 h G hk1 D2 L2 e2 S2 E1 hl0' hl0 c2 hge1 pm1 hbr' c1 hbr A1 g2 g1 hp hst irr h1 T; omega)) ?_)
            dsimp only
            cases hl2 : lt (kas_item (arrOf st₄) (lo + k - 1)) (kas_item (arrOf st₄) (lo + k)) with
            | true =>
              rw [if_pos rfl]
              exact kasC_pure ⟨rfl, S4, L4, k, q, rfl, hq, by (clear hl2 hl pm hk4 hp4 hz4 E4 D4 hq L4 S4 h G hk1 D2 L2 e2 S2 E1 hl0' hl0 c2 hge1 pm1 hbr' c1 hbr A1 g2 g1 hn hp hst irr h1 T; omega), D4, E4⟩
            | false =>
              rw [if_neg Bool.false_ne_true]
              refine kasC_pure ⟨rfl, S4, L4, q + 1, rfl, by (clear hl2 hl pm hk4 hp4 hz4 E4 D4 L4 S4 h G hk2 hk1 D2 L2 e2 S2 E1 hl0' hl0 c2 hge1 pm1 hbr' c1 hbr A1 g2 g1 hn hp hst irr h1 T; omega), desc_snoc T hp4 (by (clear hl2 hl pm hk4 hp4 E4 D4 hq L4 S4 h G hk1 D2 L2 e2 S2 E1 hl0' hl0 c2 hge1 pm1 hbr' c1 hbr A1 g2 g1 hp hst irr h1 T; omega)) D4 fun _ => hl2, fun p q' h1 h2 h3 h4 => ?_⟩
              rw [show lo + k - 1 = lo + (k - 1) by (clear h4 h3 h2 h1 hl2 hl pm hk4 hp4 hz4 E4 D4 L4 S4 h G hk2 hk1 D2 L2 e2 S2 E1 hl0' hl0 c2 hge1 pm1 hbr' c1 hbr A1 g2 g1 hn hp hst irr T; omega)] at hl hl2
              by_cases ep : p = k
              · by_cases eq' : q' = k
                · rw [ep, eq']
                  exact irr _ (pm k (Nat.le_refl _))
                · rw [ep]
                  exact T.trans _ _ _ (pm q' (by (clear eq' h3 h2 h1 hl2 hl pm hk4 hp4 hz4 E4 D4 hq L4 S4 h G hk2 hk1 D2 L2 e2 S2 E1 hl0' hl0 c2 hge1 pm1 hbr' c1 hbr A1 g2 g1 hn hp hst irr T; omega))) (pm (k - 1) (by (clear eq' h4 h3 h2 h1 hl2 hl pm hk4 hp4 hz4 E4 D4 hq L4 S4 h G hk2 hk1 D2 L2 e2 S2 E1 hl0' hl0 c2 hge1 pm1 hbr' c1 hbr A1 g2 g1 hn hp hst irr T; omega))) (pm k (Nat.le_refl _)) (E4 _ _ (by (clear eq' h4 h3 h2 h1 hl2 hl pm hk4 hp4 hz4 E4 D4 L4 S4 h G hk2 D2 L2 e2 S2 E1 hl0' hl0 hge1 pm1 hbr' c1 hbr A1 g2 g1 hn hp hst irr T; omega)) (by (clear eq' h4 h3 h2 h1 hl2 hl pm hk4 hp4 hz4 E4 D4 hq L4 S4 h G hk2 D2 L2 e2 S2 E1 hl0' hl0 hge1 pm1 hbr' c1 hbr A1 g2 g1 hn hp hst irr T; omega)) (by (clear h2 h1 hl2 hl pm hk4 hp4 hz4 E4 D4 L4 S4 h G hk2 hk1 D2 L2 e2 S2 E1 hl0' hl0 c2 hge1 pm1 hbr' c1 hbr A1 g2 g1 hn hp hst irr T; omega)) (by (clear h3 h2 h1 hl2 hl pm hk4 hp4 hz4 E4 D4 hq L4 S4 h G hk2 hk1 D2 L2 e2 S2 E1 hl0' hl0 c2 hge1 pm1 hbr' c1 hbr A1 g2 g1 hn hp hst irr T; omega))) hl
              · by_cases eq' : q' = k
                · rw [eq']
                  exact T.trans _ _ _ (pm k (Nat.le_refl _)) (pm (k - 1) (by (clear ep h4 h3 h2 h1 hl2 hl pm hk4 hp4 hz4 E4 D4 hq L4 S4 h G hk2 hk1 D2 L2 e2 S2 E1 hl0' hl0 c2 hge1 pm1 hbr' c1 hbr A1 g2 g1 hn hp hst irr T; omega))) (pm p (by (clear ep h4 h3 h1 hl2 hl pm hk4 hp4 hz4 E4 D4 hq L4 S4 h G hk2 hk1 D2 L2 e2 S2 E1 hl0' hl0 c2 hge1 pm1 hbr' c1 hbr A1 g2 g1 hn hp hst irr T; omega))) hl2 (E4 _ _ (by (clear h4 h3 hl2 hl pm hk4 hp4 hz4 E4 D4 L4 S4 h G hk2 hk1 D2 L2 e2 S2 E1 hl0' hl0 c2 hge1 pm1 hbr' c1 hbr A1 g2 g1 hn hp hst irr T; omega)) (by (clear h4 h3 h1 hl2 hl pm hk4 hp4 hz4 E4 D4 hq L4 S4 h G hk2 hk1 D2 L2 e2 S2 E1 hl0' hl0 c2 hge1 pm1 hbr' c1 hbr A1 g2 g1 hn hp hst irr T; omega)) (by (clear ep h4 h3 h2 h1 hl2 hl pm hk4 hp4 hz4 E4 D4 L4 S4 h G hk2 D2 L2 e2 S2 E1 hl0' hl0 hge1 pm1 hbr' c1 hbr A1 g2 g1 hn hp hst irr T; omega)) (by (clear ep h4 h3 h2 h1 hl2 hl pm hk4 hp4 hz4 E4 D4 hq L4 S4 h G hk2 D2 L2 e2 S2 E1 hl0' hl0 hge1 pm1 hbr' c1 hbr A1 g2 g1 hn hp hst irr T; omega)))
                · exact E4 _ _ (by (clear h3 hl2 hl pm hk4 hp4 hz4 E4 D4 L4 S4 h G hk2 hk1 D2 L2 e2 S2 E1 hl0' hl0 c2 hge1 pm1 hbr' c1 hbr A1 g2 g1 hn hp hst irr T; omega)) (by (clear h3 h1 hl2 hl pm hk4 hp4 hz4 E4 D4 hq L4 S4 h G hk2 hk1 D2 L2 e2 S2 E1 hl0' hl0 c2 hge1 pm1 hbr' c1 hbr A1 g2 g1 hn hp hst irr T; omega)) (by (clear h1 hl2 hl pm hk4 hp4 hz4 E4 D4 L4 S4 h G hk2 hk1 D2 L2 e2 S2 E1 hl0' hl0 c2 hge1 pm1 hbr' c1 hbr A1 g2 g1 hn hp hst irr T; omega)) (by (clear ep h3 h2 h1 hl2 hl pm hk4 hp4 hz4 E4 D4 hq L4 S4 h G hk2 hk1 D2 L2 e2 S2 E1 hl0' hl0 c2 hge1 pm1 hbr' c1 hbr A1 g2 g1 hn hp hst irr T; omega))
        · rintro r st₄ s₄ ⟨rfl, S4, L4, m, q, rfl, hq, hm, D4, E4⟩
          dsimp only
          have hz4 := L4.size
          have hp4 := L4.good hp
          by_cases hq0 : q > 0
          · rw [if_pos hq0]
            refine kasC_bind (c_rev fun st₅ S5 e5 => ?_)
            have L5 : Loc (arrOf st₁) (arrOf st₅) lo (lo + nrem) := by
              rw [e5]
              exact L4.trans ((loc_mirror (by (clear e5 S5 hq0 hp4 E4 D4 hq L4 S4 h G D2 L2 e2 S2 E1 hl0' hl0 c2 hge1 pm1 hbr' c1 hbr A1 g2 g1 hp hst irr h1 T; omega))).wide (by (clear e5 S5 hq0 hp4 hz4 E4 D4 hm L4 S4 h G D2 L2 e2 S2 E1 hl0' hl0 c2 hge1 pm1 hbr' c1 hbr A1 g2 g1 hn hp hst irr h1 T; omega)) (by (clear e5 S5 hq0 hp4 hz4 E4 D4 hq L4 S4 h G D2 L2 e2 S2 E1 hl0' hl0 c2 hge1 pm1 hbr' c1 hbr A1 g2 g1 hn hp hst irr h1 T; omega)))
            have D5 : Desc lt (arrOf st₅) lo m := by
              rw [e5, show lo + m - (q + 1) = lo + (m - (q + 1)) by (clear L5 e5 S5 hq0 hp4 hz4 E4 D4 hm L4 S4 h G D2 L2 e2 S2 E1 hl0' hl0 c2 hge1 pm1 hbr' c1 hbr A1 g2 g1 hn hp hst irr h1 T; omega)]
              exact desc_mirror (by (clear L5 e5 S5 hq0 hp4 E4 D4 hq L4 S4 h G D2 L2 e2 S2 E1 hl0' hl0 c2 hge1 pm1 hbr' c1 hbr A1 g2 g1 hp hst irr h1 T; omega)) D4 E4
            have hz5 := L5.size
            refine kasC_bind (c_rev fun st₆ S6 e6 => ?_)
            have L6 : Loc (arrOf st₁) (arrOf st₆) lo (lo + nrem) := by
              rw [e6]
              exact L5.trans ((loc_mirror (by (clear e6 S6 D5 L5 e5 S5 hq0 hp4 E4 D4 hq L4 S4 h G D2 L2 e2 S2 E1 hl0' hl0 c2 hge1 pm1 hbr' c1 hbr A1 g2 g1 hp hst irr h1 T; omega))).wide (Nat.le_refl _) (by (clear e6 S6 hz5 D5 L5 e5 S5 hq0 hp4 hz4 E4 D4 hq L4 S4 h G D2 L2 e2 S2 E1 hl0' hl0 c2 hge1 pm1 hbr' c1 hbr A1 g2 g1 hn hp hst irr h1 T; omega)))
            have A6 : Asc lt (arrOf st₆) lo m := by
              rw [e6]
              exact asc_mirror (by (clear L6 e6 S6 D5 L5 e5 S5 hq0 hp4 E4 D4 hq L4 S4 h G D2 L2 e2 S2 E1 hl0' hl0 c2 hge1 pm1 hbr' c1 hbr A1 g2 g1 hp hst irr h1 T; omega)) D5
            have hz6 := L6.size
            have hp6 := L6.good hp
            have hk6 : kindOf st₆ = κ := ((S4.trans S5).trans S6).1.trans hst
            refine kasC_bind (c_between (show m ≤ nrem by (clear hk6 hp6 hz6 A6 L6 e6 S6 hz5 D5 L5 e5 S5 hq0 hp4 hz4 E4 D4 hq L4 S4 h G D2 L2 e2 S2 E1 hl0' hl0 c2 hge1 pm1 hbr' c1 hbr A1 g2 g1 hn hp hst irr h1 T; omega)) (fun k r st₉ s₉ => st₉ = st₆ ∧ s₉ = s₄ ∧ r = (none, k) ∧ Asc lt (arrOf st₆) lo k) (fun r st₉ s₉ => st₉ = st₆ ∧ s₉ = s₄ ∧ ∃ k, r = (none, k) ∧ m ≤ k ∧ k ≤ nrem ∧ Asc lt (arrOf st₆) lo k ∧ (k = nrem ∨ lt (kas_item (arrOf st₆) (lo + k)) (kas_item (arrOf st₆) (lo + k - 1)) = true))
              ⟨rfl, rfl, rfl, A6⟩ (fun r st₉ s₉ ⟨e1, e2, e3, e4⟩ => ⟨e1, e2, nrem, e3, by (clear e4 e3 e2 e1 hk6 hp6 hz6 A6 L6 e6 S6 hz5 D5 L5 e5 S5 hq0 hp4 hz4 E4 D4 hq L4 S4 h G D2 L2 S2 E1 hl0' hl0 c2 hge1 pm1 hbr' c1 hbr A1 g2 g1 hn hp hst irr h1 T; omega), Nat.le_refl _, e4, .inl rfl⟩) ?_ ?_)
            · rintro k r st₉ s₉ hk1 hk2 ⟨rfl, rfl, rfl, A9⟩
              dsimp only
              refine kasC_bind (c_ltAt G hk6 hp6 (by (clear A9 h G hk6 hp6 A6 L6 e6 S6 hk1 D5 L5 e5 S5 hq0 hp4 E4 D4 hm hq L4 S4 D2 L2 e2 S2 E1 hl0' hl0 c2 hge1 pm1 hbr' c1 hbr A1 g2 g1 hp hst irr h1 T; omega)) (by (clear A9 h G hk6 hp6 A6 L6 e6 S6 hk1 D5 L5 e5 S5 hq0 hp4 E4 D4 hm hq L4 S4 D2 L2 e2 S2 E1 hl0' hl0 c2 hge1 pm1 hbr' c1 hbr A1 g2 g1 hp hst irr T; omega)) ?_)
              dsimp only
              cases hl : lt (kas_item (arrOf st₉) (lo + k)) (kas_item (arrOf st₉) (lo + k - 1)) with
              | true =>
                rw [if_pos rfl]
                exact kasC_pure ⟨rfl, rfl, k, rfl, hk1, by (clear hl A9 h G hk6 hp6 hz6 A6 L6 e6 S6 hk1 hz5 D5 L5 e5 S5 hq0 hp4 hz4 E4 D4 hm hq L4 S4 D2 L2 e2 S2 E1 hl0' hl0 c2 hge1 pm1 hbr' c1 hbr A1 g2 g1 hn hp hst irr h1 T; omega), A9, .inr hl⟩
              | false =>
                rw [if_neg Bool.false_ne_true]
                exact kasC_pure ⟨rfl, rfl, rfl, asc_snoc T hp6 (by (clear hl A9 h G hk6 hp6 A6 L6 e6 S6 hk1 D5 L5 e5 S5 hq0 hp4 E4 D4 hm hq L4 S4 D2 L2 e2 S2 E1 hl0' hl0 c2 hge1 pm1 hbr' c1 hbr A1 g2 g1 hp hst irr h1 T; omega)) A9 fun _ => hl⟩
            · rintro r st₇ s₇ ⟨rfl, rfl, k, rfl, g1, g2, g3, _⟩
              exact kasC_pure (h k _ (by (clear g3 g2 h G hk6 hp6 hz6 A6 L6 e6 S6 hz5 D5 L5 e5 S5 hp4 hz4 E4 D4 hm L4 S4 D2 L2 e2 S2 E1 hl0' hl0 c2 hge1 pm1 hbr' c1 hbr A1 hn hp hst irr h1 T; omega)) g2 ((S4.trans S5).trans S6) L6 g3)
          · rw [if_neg hq0]
            refine kasC_bind (c_rev fun st₆ S6 e6 => ?_)
            have L6 : Loc (arrOf st₁) (arrOf st₆) lo (lo + nrem) := by
              rw [e6]
              exact L4.trans ((loc_mirror (by (clear e6 S6 hq0 hp4 E4 D4 hq L4 S4 h G D2 L2 e2 S2 E1 hl0' hl0 c2 hge1 pm1 hbr' c1 hbr A1 g2 g1 hp hst irr h1 T; omega))).wide (Nat.le_refl _) (by (clear e6 S6 hq0 hp4 hz4 E4 D4 hq L4 S4 h G D2 L2 e2 S2 E1 hl0' hl0 c2 hge1 pm1 hbr' c1 hbr A1 g2 g1 hn hp hst irr h1 T; omega)))
            have A6 : Asc lt (arrOf st₆) lo m := by
              rw [e6]
              exact asc_mirror (by (clear L6 e6 S6 hq0 hp4 E4 D4 hq L4 S4 h G D2 L2 e2 S2 E1 hl0' hl0 c2 hge1 pm1 hbr' c1 hbr A1 g2 g1 hp hst irr h1 T; omega)) D4
            have hz6 := L6.size
            have hp6 := L6.good hp
            have hk6 : kindOf st₆ = κ := (S4.trans S6).1.trans hst
            refine kasC_bind (c_between (show m ≤ nrem by (clear hk6 hp6 hz6 A6 L6 e6 S6 hq0 hp4 hz4 E4 D4 hq L4 S4 h G D2 L2 e2 S2 E1 hl0' hl0 c2 hge1 pm1 hbr' c1 hbr A1 g2 g1 hn hp hst irr h1 T; omega)) (fun k r st₉ s₉ => st₉ = st₆ ∧ s₉ = s₄ ∧ r = (none, k) ∧ Asc lt (arrOf st₆) lo k) (fun r st₉ s₉ => st₉ = st₆ ∧ s₉ = s₄ ∧ ∃ k, r = (none, k) ∧ m ≤ k ∧ k ≤ nrem ∧ Asc lt (arrOf st₆) lo k ∧ (k = nrem ∨ lt (kas_item (arrOf st₆) (lo + k)) (kas_item (arrOf st₆) (lo + k - 1)) = true))
              ⟨rfl, rfl, rfl, A6⟩ (fun r st₉ s₉ ⟨e1, e2, e3, e4⟩ => ⟨e1, e2, nrem, e3, by (clear e4 e3 e2 e1 hk6 hp6 hz6 A6 L6 e6 S6 hq0 hp4 hz4 E4 D4 hq L4 S4 h G D2 L2 S2 E1 hl0' hl0 c2 hge1 pm1 hbr' c1 hbr A1 g2 g1 hn hp hst irr h1 T; omega), Nat.le_refl _, e4, .inl rfl⟩) ?_ ?_)
            · rintro k r st₉ s₉ hk1 hk2 ⟨rfl, rfl, rfl, A9⟩
              dsimp only
              refine kasC_bind (c_ltAt G hk6 hp6 (by (clear A9 h G hk6 hp6 A6 L6 e6 S6 hk1 hq0 hp4 E4 D4 hm hq L4 S4 D2 L2 e2 S2 E1 hl0' hl0 c2 hge1 pm1 hbr' c1 hbr A1 g2 g1 hp hst irr h1 T; omega)) (by (clear A9 h G hk6 hp6 A6 L6 e6 S6 hk1 hq0 hp4 E4 D4 hm hq L4 S4 D2 L2 e2 S2 E1 hl0' hl0 c2 hge1 pm1 hbr' c1 hbr A1 g2 g1 hp hst irr h1 T; omega)) ?_)
              dsimp only
              cases hl : lt (kas_item (arrOf st₉) (lo + k)) (kas_item (arrOf st₉) (lo + k - 1)) with
              | true =>
                rw [if_pos rfl]
                exact kasC_pure ⟨rfl, rfl, k, rfl, hk1, by (clear hl A9 h G hk6 hp6 hz6 A6 L6 e6 S6 hk1 hq0 hp4 hz4 E4 D4 hm hq L4 S4 D2 L2 e2 S2 E1 hl0' hl0 c2 hge1 pm1 hbr' c1 hbr A1 g2 g1 hn hp hst irr h1 T; omega), A9, .inr hl⟩
              | false =>
                rw [if_neg Bool.false_ne_true]
                exact kasC_pure ⟨rfl, rfl, rfl, asc_snoc T hp6 (by (clear hl A9 h G hk6 hp6 A6 L6 e6 S6 hk1 hq0 hp4 E4 D4 hm hq L4 S4 D2 L2 e2 S2 E1 hl0' hl0 c2 hge1 pm1 hbr' c1 hbr A1 g2 g1 hp hst irr h1 T; omega)) A9 fun _ => hl⟩
            · rintro r st₇ s₇ ⟨rfl, rfl, k, rfl, g1, g2, g3, _⟩
              exact kasC_pure (h k _ (by (clear g3 g2 h G hk6 hp6 hz6 A6 L6 e6 S6 hp4 hz4 E4 D4 hm L4 S4 D2 L2 e2 S2 E1 hl0' hl0 c2 hge1 pm1 hbr' c1 hbr A1 hn hp hst irr h1 T; omega)) g2 (S4.trans S6) L6 g3)
    · rw [if_neg c2]
      have en : n = 1 := by (clear hge1 pm1 hbr' c1 hbr A1 g2 h G hn hp hst irr h1 T; omega)
      have D2 : Desc lt (arrOf st₁) lo (n + 1) := by
        refine desc_snoc T hp (by (clear en hge1 pm1 hbr' hbr A1 h G hp hst irr h1 T; omega)) (fun p q a b => absurd b (by (clear en hge1 pm1 hbr' c1 hbr A1 g2 h G hn hp hst irr h1 T; omega))) fun _ => ?_
        rw [show lo + n - 1 = lo + (n - 1) by (clear en hge1 pm1 hbr' c1 hbr A1 g2 h G hn hp hst irr h1 T; omega)]
        exact hge1
      have S2 := Su.refl st₁
      have L2 := Loc.refl (arrOf st₁) lo (lo + nrem)
      refine kasC_bind (kasC_lift (wpAny_rule ?_))
      refine kasC_bind (c_between (show n + 1 ≤ nrem by (clear L2 S2 D2 en hge1 pm1 hbr' hbr A1 h G hn hp hst irr h1 T; omega)) (fun k r st₄ s₄ => s₄ = s₁ ∧ Su st₁ st₄ ∧ Loc (arrOf st₁) (arrOf st₄) lo (lo + nrem) ∧ ∃ q, r = (none, k, q) ∧ q + 1 ≤ k ∧ Desc lt (arrOf st₄) lo k ∧ EqT lt (arrOf st₄) lo (k - (q + 1)) k)
        (fun r st₄ s₄ => s₄ = s₁ ∧ Su st₁ st₄ ∧ Loc (arrOf st₁) (arrOf st₄) lo (lo + nrem) ∧ ∃ m q, r = (none, m, q) ∧ q + 1 ≤ m ∧ m ≤ nrem ∧ Desc lt (arrOf st₄) lo m ∧ EqT lt (arrOf st₄) lo (m - (q + 1)) m)
        ⟨rfl, S2, L2, 0, rfl, by (clear L2 S2 D2 en hge1 pm1 hbr' c1 hbr A1 g2 h G hn hp hst irr h1 T; omega), D2, fun p q h1 h2 h3 h4 => by
          have ep : p = n := by (clear h4 h3 L2 S2 D2 en hge1 pm1 hbr' c1 hbr A1 g2 h G hn hp hst irr T; omega)
          have eq' : q = n := by (clear ep h2 h1 L2 S2 D2 en hge1 pm1 hbr' c1 hbr A1 g2 h G hn hp hst irr T; omega)
          rw [ep, eq']
          exact irr _ (L2.good hp _ (item_mem (by have := L2.size; (clear this eq' ep h4 h3 h2 h1 L2 S2 D2 en hge1 pm1 hbr' hbr A1 h G hp hst irr T; omega))))⟩ (fun r st₄ s₄ ⟨e1, e2, e3, q, e4, e5, e6, e7⟩ => ⟨e1, e2, e3, nrem, q, e4, e5, Nat.le_refl _, e6, e7⟩) ?_ ?_)
      · rintro k r st₄ s₄ hk1 hk2 ⟨rfl, S4, L4, q, rfl, hq, D4, E4⟩
        dsimp only
        have hz4 := L4.size
        have hp4 := L4.good hp
        have hk4 : kindOf st₄ = κ := S4.1.trans hst
        have pm : ∀ t, t ≤ k → P (kas_item (arrOf st₄) (lo + t)) := fun t ht => hp4 _ (item_mem (by (clear hk4 hp4 E4 D4 hq L4 S4 h G hk1 L2 S2 D2 en c2 hge1 pm1 hbr' c1 hbr A1 g2 g1 hp hst irr h1 T; omega)))
        refine kasC_bind (c_ltAt G hk4 hp4 (by (clear pm hk4 hp4 E4 D4 hq L4 S4 h G hk1 L2 S2 D2 en c2 hge1 pm1 hbr' c1 hbr A1 g2 g1 hp hst irr h1 T; omega)) (by (clear pm hk4 hp4 E4 D4 hq L4 S4 h G L2 S2 D2 en hge1 pm1 hbr' c1 hbr A1 g2 hp hst irr h1 T; omega)) ?_)
        dsimp only
        cases hl : lt (kas_item (arrOf st₄) (lo + k)) (kas_item (arrOf st₄) (lo + k - 1)) with
        | true =>
          rw [if_pos rfl]
          rw [show lo + k - 1 = lo + (k - 1) by (clear hl pm hk4 hp4 hz4 E4 D4 hq L4 S4 h G hk2 L2 S2 D2 en hge1 pm1 hbr' c1 hbr A1 g2 hn hp hst irr h1 T; omega)] at hl
          have hge := T.asym _ _ (pm k (Nat.le_refl _)) (pm (k - 1) (by (clear hl pm hk4 hp4 hz4 E4 D4 hq L4 S4 h G hk2 L2 S2 D2 en hge1 pm1 hbr' c1 hbr A1 g2 hn hp hst irr h1 T; omega))) hl
          by_cases hq0 : q > 0
          · rw [if_pos hq0]
            refine kasC_bind (c_rev fun st₅ S5 e5 => kasC_pure ⟨rfl, S4.trans S5, ?_, 0, rfl, by (clear e5 S5 hq0 hge hl pm hk4 hp4 hz4 E4 D4 hq L4 S4 h G hk2 L2 S2 D2 en hge1 pm1 hbr' c1 hbr A1 g2 hn hp hst irr h1 T; omega), ?_, fun p q' h1 h2 h3 h4 => ?_⟩)
            · rw [e5]
              exact L4.trans ((loc_mirror (by (clear e5 S5 hq0 hge hl pm hk4 hp4 E4 D4 hq L4 S4 h G hk1 L2 S2 D2 en c2 hge1 pm1 hbr' c1 hbr A1 g2 g1 hp hst irr h1 T; omega))).wide (by (clear e5 S5 hq0 hge hl pm hk4 hp4 hz4 E4 D4 L4 S4 h G hk2 hk1 L2 S2 D2 en c2 hge1 pm1 hbr' c1 hbr A1 g2 g1 hn hp hst irr h1 T; omega)) (by (clear e5 S5 hq0 hge hl pm hk4 hp4 hz4 E4 D4 hq L4 S4 h G hk1 L2 S2 D2 en c2 hge1 pm1 hbr' c1 hbr A1 g2 g1 hn hp hst irr h1 T; omega)))
            · rw [e5, show lo + k - (q + 1) = lo + (k - (q + 1)) by (clear e5 S5 hq0 hge hl pm hk4 hp4 hz4 E4 D4 L4 S4 h G hk2 hk1 L2 S2 D2 en c2 hge1 pm1 hbr' c1 hbr A1 g2 g1 hn hp hst irr h1 T; omega)]
              have D5 := desc_mirror (by (clear e5 S5 hq0 hge hl pm hk4 hp4 E4 D4 hq L4 S4 h G hk1 L2 S2 D2 en c2 hge1 pm1 hbr' c1 hbr A1 g2 g1 hp hst irr h1 T; omega)) D4 E4
              have hp5 := (loc_mirror (xs := arrOf st₄) (i := lo + (k - (q + 1))) (j := lo + k) (by (clear D5 e5 S5 hq0 hge hl pm hk4 hp4 E4 D4 hq L4 S4 h G hk1 L2 S2 D2 en c2 hge1 pm1 hbr' c1 hbr A1 g2 g1 hp hst irr h1 T; omega))).good hp4
              have z1 : kas_item (mirror (arrOf st₄) (lo + (k - (q + 1))) (lo + k) ((lo + k - (lo + (k - (q + 1)))) / 2)) (lo + k) = kas_item (arrOf st₄) (lo + k) := by
                rw [item_mirror (by (clear hp5 D5 e5 S5 hq0 hge hl pm hk4 hp4 E4 D4 hq L4 S4 h G hk1 L2 S2 D2 en c2 hge1 pm1 hbr' c1 hbr A1 g2 g1 hp hst irr h1 T; omega)), if_neg (by (clear hp5 D5 e5 S5 hq0 hge hl pm hk4 hp4 hz4 E4 D4 hq L4 S4 h G hk2 hk1 L2 S2 D2 en c2 hge1 pm1 hbr' c1 hbr A1 g2 g1 hn hp hst irr h1 T; omega))]
              refine desc_snoc T hp5 (by rw [mirror_size]; (clear z1 hp5 D5 e5 S5 hq0 hge hl pm hk4 hp4 E4 D4 hq L4 S4 h G hk1 L2 S2 D2 en c2 hge1 pm1 hbr' c1 hbr A1 g2 g1 hp hst irr h1 T; omega)) D5 fun _ => ?_
              rw [show lo + k - 1 = lo + (k - 1) by (clear z1 hp5 D5 e5 S5 hq0 hge hl pm hk4 hp4 hz4 E4 D4 hq L4 S4 h G hk2 L2 S2 D2 en hge1 pm1 hbr' c1 hbr A1 g2 hn hp hst irr h1 T; omega), z1, it_mirror (by (clear z1 hp5 D5 e5 S5 hq0 hge hl pm hk4 hp4 E4 D4 hq L4 S4 h G hk1 L2 S2 D2 en c2 hge1 pm1 hbr' c1 hbr A1 g2 g1 hp hst irr h1 T; omega)) (by (clear z1 hp5 D5 e5 S5 hq0 hge hl pm hk4 hp4 hz4 E4 D4 hq L4 S4 h G hk2 L2 S2 D2 en hge1 pm1 hbr' c1 hbr A1 g2 hn hp hst irr h1 T; omega)), if_pos (by (clear z1 hp5 D5 e5 S5 hge hl pm hk4 hp4 hz4 E4 D4 L4 S4 h G hk2 L2 S2 D2 en hge1 pm1 hbr' c1 hbr A1 g2 hn hp hst irr h1 T; omega))]
              exact T.trans _ _ _ (pm k (Nat.le_refl _)) (pm (k - 1) (by (clear z1 hp5 D5 e5 S5 hq0 hge hl pm hk4 hp4 hz4 E4 D4 hq L4 S4 h G hk2 L2 S2 D2 en hge1 pm1 hbr' c1 hbr A1 g2 hn hp hst irr h1 T; omega))) (pm _ (by (clear z1 hp5 D5 e5 S5 hge hl pm hk4 hp4 hz4 E4 D4 L4 S4 h G hk2 L2 S2 D2 en hge1 pm1 hbr' c1 hbr A1 g2 hn hp hst irr h1 T; omega))) hge (E4 _ _ (by (clear z1 hp5 D5 e5 S5 hq0 hge hl pm hk4 hp4 hz4 E4 D4 hq L4 S4 h G hk2 L2 S2 D2 en hge1 pm1 hbr' c1 hbr A1 g2 hn hp hst irr h1 T; omega)) (by (clear z1 hp5 D5 e5 S5 hge hl pm hk4 hp4 hz4 E4 D4 L4 S4 h G hk2 L2 S2 D2 en hge1 pm1 hbr' c1 hbr A1 g2 hn hp hst irr h1 T; omega)) (by (clear z1 hp5 D5 e5 S5 hge hl pm hk4 hp4 hz4 E4 D4 L4 S4 h G hk2 L2 S2 D2 en hge1 pm1 hbr' c1 hbr A1 g2 hn hp hst irr h1 T; omega)) (by (clear z1 hp5 D5 e5 S5 hq0 hge hl pm hk4 hp4 hz4 E4 D4 hq L4 S4 h G hk2 L2 S2 D2 en hge1 pm1 hbr' c1 hbr A1 g2 hn hp hst irr h1 T; omega)))
            · have ep : p = k := by (clear h4 h3 e5 S5 hq0 hge hl pm hk4 hp4 hz4 E4 D4 hq L4 S4 h G hk2 L2 S2 D2 en hge1 pm1 hbr' c1 hbr A1 g2 hn hp hst irr T; omega)
              have eq' : q' = k := by (clear h2 h1 e5 S5 hq0 hge hl pm hk4 hp4 hz4 E4 D4 hq L4 S4 h G hk2 L2 S2 D2 en hge1 pm1 hbr' c1 hbr A1 g2 hn hp hst irr T; omega)
              rw [ep, eq']
              refine irr _ ?_
              have L5 : Loc (arrOf st₄) (arrOf st₅) (lo + k - (q + 1)) (lo + k) := by
                rw [e5]
                exact loc_mirror (by (clear h4 h3 h2 h1 e5 S5 hq0 hge hl pm hk4 hp4 E4 D4 hq L4 S4 h G hk1 L2 S2 D2 en c2 hge1 pm1 hbr' c1 hbr A1 g2 g1 hp hst irr T; omega))
              exact L5.good hp4 _ (item_mem (by have := L5.size; (clear L5 h4 h3 h2 h1 e5 S5 hq0 hge hl pm hk4 hp4 E4 D4 hq L4 S4 h G hk1 L2 S2 D2 en c2 hge1 pm1 hbr' c1 hbr A1 g2 g1 hp hst irr T; omega)))
          · rw [if_neg hq0]
            refine kasC_pure ⟨rfl, S4, L4, 0, rfl, by (clear hq0 hge hl pm hk4 hp4 hz4 E4 D4 hq L4 S4 h G hk2 L2 S2 D2 en hge1 pm1 hbr' c1 hbr A1 g2 hn hp hst irr h1 T; omega), desc_snoc T hp4 (by (clear hq0 hge hl pm hk4 hp4 E4 D4 hq L4 S4 h G hk1 L2 S2 D2 en c2 hge1 pm1 hbr' c1 hbr A1 g2 g1 hp hst irr h1 T; omega)) D4 fun _ => ?_, fun p q' h1 h2 h3 h4 => ?_⟩
            · rw [show lo + k - 1 = lo + (k - 1) by (clear hq0 hge hl pm hk4 hp4 hz4 E4 D4 hq L4 S4 h G hk2 L2 S2 D2 en hge1 pm1 hbr' c1 hbr A1 g2 hn hp hst irr h1 T; omega)]
              exact hge
            · have ep : p = k := by (clear h4 h3 hq0 hge hl pm hk4 hp4 hz4 E4 D4 hq L4 S4 h G hk2 L2 S2 D2 en hge1 pm1 hbr' c1 hbr A1 g2 hn hp hst irr T; omega)
              have eq' : q' = k := by (clear h2 h1 hq0 hge hl pm hk4 hp4 hz4 E4 D4 hq L4 S4 h G hk2 L2 S2 D2 en hge1 pm1 hbr' c1 hbr A1 g2 hn hp hst irr T; omega)
              rw [ep, eq']
              exact irr _ (pm k (Nat.le_refl _))
        | false =>
          rw [if_neg Bool.false_ne_true]
          refine kasC_bind (c_ltAt G hk4 hp4 (by (clear hl pm hk4 hp4 E4 D4 hq L4 S4 h G L2 S2 D2 en hge1 pm1 hbr' c1 hbr A1 g2 hp hst irr h1 T; omega)) (by (clear hl pm hk4 hp4 E4 D4 hq L4 S4 h G hk1 L2 S2 D2 en c2 hge1 pm1 hbr' c1 hbr A1 g2 g1 hp hst irr h1 T; omega)) ?_)
          dsimp only
          cases hl2 : lt (kas_item (arrOf st₄) (lo + k - 1)) (kas_item (arrOf st₄) (lo + k)) with
          | true =>
            rw [if_pos rfl]
            exact kasC_pure ⟨rfl, S4, L4, k, q, rfl, hq, by (clear hl2 hl pm hk4 hp4 hz4 E4 D4 hq L4 S4 h G hk1 L2 S2 D2 en c2 hge1 pm1 hbr' c1 hbr A1 g2 g1 hn hp hst irr h1 T; omega), D4, E4⟩
          | false =>
            rw [if_neg Bool.false_ne_true]
            refine kasC_pure ⟨rfl, S4, L4, q + 1, rfl, by (clear hl2 hl pm hk4 hp4 hz4 E4 D4 L4 S4 h G hk2 hk1 L2 S2 D2 en c2 hge1 pm1 hbr' c1 hbr A1 g2 g1 hn hp hst irr h1 T; omega), desc_snoc T hp4 (by (clear hl2 hl pm hk4 hp4 E4 D4 hq L4 S4 h G hk1 L2 S2 D2 en c2 hge1 pm1 hbr' c1 hbr A1 g2 g1 hp hst irr h1 T; omega)) D4 fun _ => hl2, fun p q' h1 h2 h3 h4 => ?_⟩
            rw [show lo + k - 1 = lo + (k - 1) by (clear h4 h3 h2 h1 hl2 hl pm hk4 hp4 hz4 E4 D4 hq L4 S4 h G hk2 L2 S2 D2 en hge1 pm1 hbr' c1 hbr A1 g2 hn hp hst irr T; omega)] at hl hl2
            by_cases ep : p = k
            · by_cases eq' : q' = k
              · rw [ep, eq']
                exact irr _ (pm k (Nat.le_refl _))
              · rw [ep]
                exact T.trans _ _ _ (pm q' (by (clear eq' h3 h2 h1 hl2 hl pm hk4 hp4 hz4 E4 D4 hq L4 S4 h G hk2 hk1 L2 S2 D2 en c2 hge1 pm1 hbr' c1 hbr A1 g2 g1 hn hp hst irr T; omega))) (pm (k - 1) (by (clear eq' h4 h3 h2 h1 hl2 hl pm hk4 hp4 hz4 E4 D4 hq L4 S4 h G hk2 L2 S2 D2 en hge1 pm1 hbr' c1 hbr A1 g2 hn hp hst irr T; omega))) (pm k (Nat.le_refl _)) (E4 _ _ (by (clear eq' h4 h3 h2 h1 hl2 hl pm hk4 hp4 hz4 E4 D4 L4 S4 h G hk2 L2 S2 D2 en hge1 pm1 hbr' c1 hbr A1 g2 hn hp hst irr T; omega)) (by (clear eq' h4 h3 h2 h1 hl2 hl pm hk4 hp4 hz4 E4 D4 hq L4 S4 h G hk2 L2 S2 D2 en hge1 pm1 hbr' c1 hbr A1 g2 hn hp hst irr T; omega)) (by (clear h2 h1 hl2 hl pm hk4 hp4 hz4 E4 D4 L4 S4 h G hk2 hk1 L2 S2 D2 en c2 hge1 pm1 hbr' c1 hbr A1 g2 g1 hn hp hst irr T; omega)) (by (clear h3 h2 h1 hl2 hl pm hk4 hp4 hz4 E4 D4 hq L4 S4 h G hk2 hk1 L2 S2 D2 en c2 hge1 pm1 hbr' c1 hbr A1 g2 g1 hn hp hst irr T; omega))) hl
            · by_cases eq' : q' = k
              · rw [eq']
                exact T.trans _ _ _ (pm k (Nat.le_refl _)) (pm (k - 1) (by (clear ep h4 h3 h2 h1 hl2 hl pm hk4 hp4 hz4 E4 D4 hq L4 S4 h G hk2 L2 S2 D2 en hge1 pm1 hbr' c1 hbr A1 g2 hn hp hst irr T; omega))) (pm p (by (clear ep h4 h3 h1 hl2 hl pm hk4 hp4 hz4 E4 D4 hq L4 S4 h G hk2 hk1 L2 S2 D2 en c2 hge1 pm1 hbr' c1 hbr A1 g2 g1 hn hp hst irr T; omega))) hl2 (E4 _ _ (by (clear h4 h3 hl2 hl pm hk4 hp4 hz4 E4 D4 L4 S4 h G hk2 hk1 L2 S2 D2 en c2 hge1 pm1 hbr' c1 hbr A1 g2 g1 hn hp hst irr T; omega)) (by (clear h4 h3 h1 hl2 hl pm hk4 hp4 hz4 E4 D4 hq L4 S4 h G hk2 hk1 L2 S2 D2 en c2 hge1 pm1 hbr' c1 hbr A1 g2 g1 hn hp hst irr T; omega)) (by (clear ep h4 h3 h2 h1 hl2 hl pm hk4 hp4 hz4 E4 D4 L4 S4 h G hk2 L2 S2 D2 en hge1 pm1 hbr' c1 hbr A1 g2 hn hp hst irr T; omega)) (by (clear ep h4 h3 h2 h1 hl2 hl pm hk4 hp4 hz4 E4 D4 hq L4 S4 h G hk2 L2 S2 D2 en hge1 pm1 hbr' c1 hbr A1 g2 hn hp hst irr T; omega)))
              · exact E4 _ _ (by (clear h3 hl2 hl pm hk4 hp4 hz4 E4 D4 L4 S4 h G hk2 hk1 L2 S2 D2 en c2 hge1 pm1 hbr' c1 hbr A1 g2 g1 hn hp hst irr T; omega)) (by (clear h3 h1 hl2 hl pm hk4 hp4 hz4 E4 D4 hq L4 S4 h G hk2 hk1 L2 S2 D2 en c2 hge1 pm1 hbr' c1 hbr A1 g2 g1 hn hp hst irr T; omega)) (by (clear h1 hl2 hl pm hk4 hp4 hz4 E4 D4 L4 S4 h G hk2 hk1 L2 S2 D2 en c2 hge1 pm1 hbr' c1 hbr A1 g2 g1 hn hp hst irr T; omega)) (by (clear ep h3 h2 h1 hl2 hl pm hk4 hp4 hz4 E4 D4 hq L4 S4 h G hk2 hk1 L2 S2 D2 en c2 hge1 pm1 hbr' c1 hbr A1 g2 g1 hn hp hst irr T; omega))
      · rintro r st₄ s₄ ⟨rfl, S4, L4, m, q, rfl, hq, hm, D4, E4⟩
        dsimp only
        have hz4 := L4.size
        have hp4 := L4.good hp
        by_cases hq0 : q > 0
        · rw [if_pos hq0]
          refine kasC_bind (c_rev fun st₅ S5 e5 => ?_)
          have L5 : Loc (arrOf st₁) (arrOf st₅) lo (lo + nrem) := by
            rw [e5]
            exact L4.trans ((loc_mirror (by (clear e5 S5 hq0 hp4 E4 D4 hq L4 S4 h G L2 S2 D2 en c2 hge1 pm1 hbr' c1 hbr A1 g2 g1 hp hst irr h1 T; omega))).wide (by (clear e5 S5 hq0 hp4 hz4 E4 D4 hm L4 S4 h G L2 S2 D2 en c2 hge1 pm1 hbr' c1 hbr A1 g2 g1 hn hp hst irr h1 T; omega)) (by (clear e5 S5 hq0 hp4 hz4 E4 D4 hq L4 S4 h G L2 S2 D2 en c2 hge1 pm1 hbr' c1 hbr A1 g2 g1 hn hp hst irr h1 T; omega)))
          have D5 : Desc lt (arrOf st₅) lo m := by
            rw [e5, show lo + m - (q + 1) = lo + (m - (q + 1)) by (clear L5 e5 S5 hq0 hp4 hz4 E4 D4 hm L4 S4 h G L2 S2 D2 en c2 hge1 pm1 hbr' c1 hbr A1 g2 g1 hn hp hst irr h1 T; omega)]
            exact desc_mirror (by (clear L5 e5 S5 hq0 hp4 E4 D4 hq L4 S4 h G L2 S2 D2 en c2 hge1 pm1 hbr' c1 hbr A1 g2 g1 hp hst irr h1 T; omega)) D4 E4
          have hz5 := L5.size
          refine kasC_bind (c_rev fun st₆ S6 e6 => ?_)
          have L6 : Loc (arrOf st₁) (arrOf st₆) lo (lo + nrem) := by
            rw [e6]
            exact L5.trans ((loc_mirror (by (clear e6 S6 D5 L5 e5 S5 hq0 hp4 E4 D4 hq L4 S4 h G L2 S2 D2 en c2 hge1 pm1 hbr' c1 hbr A1 g2 g1 hp hst irr h1 T; omega))).wide (Nat.le_refl _) (by (clear e6 S6 hz5 D5 L5 e5 S5 hq0 hp4 hz4 E4 D4 hq L4 S4 h G L2 S2 D2 en c2 hge1 pm1 hbr' c1 hbr A1 g2 g1 hn hp hst irr h1 T; omega)))
          have A6 : Asc lt (arrOf st₆) lo m := by
            rw [e6]
            exact asc_mirror (by (clear L6 e6 S6 D5 L5 e5 S5 hq0 hp4 E4 D4 hq L4 S4 h G L2 S2 D2 en c2 hge1 pm1 hbr' c1 hbr A1 g2 g1 hp hst irr h1 T; omega)) D5
          have hz6 := L6.size
          have hp6 := L6.good hp
          have hk6 : kindOf st₆ = κ := ((S4.trans S5).trans S6).1.trans hst
          refine kasC_bind (c_between (show m ≤ nrem by (clear hk6 hp6 hz6 A6 L6 e6 S6 hz5 D5 L5 e5 S5 hq0 hp4 hz4 E4 D4 hq L4 S4 h G L2 S2 D2 en c2 hge1 pm1 hbr' c1 hbr A1 g2 g1 hn hp hst irr h1 T; omega)) (fun k r st₉ s₉ => st₉ = st₆ ∧ s₉ = s₄ ∧ r = (none, k) ∧ Asc lt (arrOf st₆) lo k) (fun r st₉ s₉ => st₉ = st₆ ∧ s₉ = s₄ ∧ ∃ k, r = (none, k) ∧ m ≤ k ∧ k ≤ nrem ∧ Asc lt (arrOf st₆) lo k ∧ (k = nrem ∨ lt (kas_item (arrOf st₆) (lo + k)) (kas_item (arrOf st₆) (lo + k - 1)) = true))
            ⟨rfl, rfl, rfl, A6⟩ (fun r st₉ s₉ ⟨e1, e2, e3, e4⟩ => ⟨e1, e2, nrem, e3, by (clear e4 e3 e2 e1 hk6 hp6 hz6 A6 L6 e6 S6 hz5 D5 L5 e5 S5 hq0 hp4 hz4 E4 D4 hq L4 S4 h G L2 S2 D2 en c2 hge1 pm1 hbr' c1 hbr A1 g2 g1 hn hp hst irr h1 T; omega), Nat.le_refl _, e4, .inl rfl⟩) ?_ ?_)
          · rintro k r st₉ s₉ hk1 hk2 ⟨rfl, rfl, rfl, A9⟩
            dsimp only
            refine kasC_bind (c_ltAt G hk6 hp6 (by (clear A9 h G hk6 hp6 A6 L6 e6 S6 hk1 D5 L5 e5 S5 hq0 hp4 E4 D4 hm hq L4 S4 L2 S2 D2 en c2 hge1 pm1 hbr' c1 hbr A1 g2 g1 hp hst irr h1 T; omega)) (by (clear A9 h G hk6 hp6 A6 L6 e6 S6 hk1 D5 L5 e5 S5 hq0 hp4 E4 D4 hm hq L4 S4 L2 S2 D2 en c2 hge1 pm1 hbr' c1 hbr A1 g2 g1 hp hst irr T; omega)) ?_)
            dsimp only
            cases hl : lt (kas_item (arrOf st₉) (lo + k)) (kas_item (arrOf st₉) (lo + k - 1)) with
            | true =>
              rw [if_pos rfl]
              exact kasC_pure ⟨rfl, rfl, k, rfl, hk1, by (clear hl A9 h G hk6 hp6 hz6 A6 L6 e6 S6 hk1 hz5 D5 L5 e5 S5 hq0 hp4 hz4 E4 D4 hm hq L4 S4 L2 S2 D2 en c2 hge1 pm1 hbr' c1 hbr A1 g2 g1 hn hp hst irr h1 T; omega), A9, .inr hl⟩
            | false =>
              rw [if_neg Bool.false_ne_true]
              exact kasC_pure ⟨rfl, rfl, rfl, asc_snoc T hp6 (by (clear hl A9 h G hk6 hp6 A6 L6 e6 S6 hk1 D5 L5 e5 S5 hq0 hp4 E4 D4 hm hq L4 S4 L2 S2 D2 en c2 hge1 pm1 hbr' c1 hbr A1 g2 g1 hp hst irr h1 T; omega)) A9 fun _ => hl⟩
          · rintro r st₇ s₇ ⟨rfl, rfl, k, rfl, g1, g2, g3, _⟩
            exact kasC_pure (h k _ (by (clear g3 g2 h G hk6 hp6 hz6 A6 L6 e6 S6 hz5 D5 L5 e5 S5 hp4 hz4 E4 D4 hm L4 S4 L2 S2 D2 en c2 hge1 pm1 hbr' c1 hbr A1 hn hp hst irr h1 T; omega)) g2 ((S4.trans S5).trans S6) L6 g3)
        · rw [if_neg hq0]
          refine kasC_bind (c_rev fun st₆ S6 e6 => ?_)
          have L6 : Loc (arrOf st₁) (arrOf st₆) lo (lo + nrem) := by
            rw [e6]
            exact L4.trans ((loc_mirror (by (clear e6 S6 hq0 hp4 E4 D4 hq L4 S4 h G L2 S2 D2 en c2 hge1 pm1 hbr' c1 hbr A1 g2 g1 hp hst irr h1 T; omega))).wide (Nat.le_refl _) (by (clear e6 S6 hq0 hp4 hz4 E4 D4 hq L4 S4 h G L2 S2 D2 en c2 hge1 pm1 hbr' c1 hbr A1 g2 g1 hn hp hst irr h1 T; omega)))
          have A6 : Asc lt (arrOf st₆) lo m := by
            rw [e6]
            exact asc_mirror (by (clear L6 e6 S6 hq0 hp4 E4 D4 hq L4 S4 h G L2 S2 D2 en c2 hge1 pm1 hbr' c1 hbr A1 g2 g1 hp hst irr h1 T; omega)) D4
          have hz6 := L6.size
          have hp6 := L6.good hp
          have hk6 : kindOf st₆ = κ := (S4.trans S6).1.trans hst
          refine kasC_bind (c_between (show m ≤ nrem by (clear hk6 hp6 hz6 A6 L6 e6 S6 hq0 hp4 hz4 E4 D4 hq L4 S4 h G L2 S2 D2 en c2 hge1 pm1 hbr' c1 hbr A1 g2 g1 hn hp hst irr h1 T; omega)) (fun k r st₉ s₉ => st₉ = st₆ ∧ s₉ = s₄ ∧ r = (none, k) ∧ Asc lt (arrOf st₆) lo k) (fun r st₉ s₉ => st₉ = st₆ ∧ s₉ = s₄ ∧ ∃ k, r = (none, k) ∧ m ≤ k ∧ k ≤ nrem ∧ Asc lt (arrOf st₆) lo k ∧ (k = nrem ∨ lt (kas_item (arrOf st₆) (lo + k)) (kas_item (arrOf st₆) (lo + k - 1)) = true))
            ⟨rfl, rfl, rfl, A6⟩ (fun r st₉ s₉ ⟨e1, e2, e3, e4⟩ => ⟨e1, e2, nrem, e3, by (clear e4 e3 e2 e1 hk6 hp6 hz6 A6 L6 e6 S6 hq0 hp4 hz4 E4 D4 hq L4 S4 h G L2 S2 D2 en c2 hge1 pm1 hbr' c1 hbr A1 g2 g1 hn hp hst irr h1 T; omega), Nat.le_refl _, e4, .inl rfl⟩) ?_ ?_)
          · rintro k r st₉ s₉ hk1 hk2 ⟨rfl, rfl, rfl, A9⟩
            dsimp only
            refine kasC_bind (c_ltAt G hk6 hp6 (by (clear A9 h G hk6 hp6 A6 L6 e6 S6 hk1 hq0 hp4 E4 D4 hm hq L4 S4 L2 S2 D2 en c2 hge1 pm1 hbr' c1 hbr A1 g2 g1 hp hst irr h1 T; omega)) (by (clear A9 h G hk6 hp6 A6 L6 e6 S6 hk1 hq0 hp4 E4 D4 hm hq L4 S4 L2 S2 D2 en c2 hge1 pm1 hbr' c1 hbr A1 g2 g1 hp hst irr h1 T; omega)) ?_)
            dsimp only
            cases hl : lt (kas_item (arrOf st₉) (lo + k)) (kas_item (arrOf st₉) (lo + k - 1)) with
            | true =>
              rw [if_pos rfl]
              exact kasC_pure ⟨rfl, rfl, k, rfl, hk1, by (clear hl A9 h G hk6 hp6 hz6 A6 L6 e6 S6 hk1 hq0 hp4 hz4 E4 D4 hm hq L4 S4 L2 S2 D2 en c2 hge1 pm1 hbr' c1 hbr A1 g2 g1 hn hp hst irr h1 T; omega), A9, .inr hl⟩
            | false =>
              rw [if_neg Bool.false_ne_true]
              exact kasC_pure ⟨rfl, rfl, rfl, asc_snoc T hp6 (by (clear hl A9 h G hk6 hp6 A6 L6 e6 S6 hk1 hq0 hp4 E4 D4 hm hq L4 S4 L2 S2 D2 en c2 hge1 pm1 hbr' c1 hbr A1 g2 g1 hp hst irr h1 T; omega)) A9 fun _ => hl⟩
          · rintro r st₇ s₇ ⟨rfl, rfl, k, rfl, g1, g2, g3, _⟩
            exact kasC_pure (h k _ (by (clear g3 g2 h G hk6 hp6 hz6 A6 L6 e6 S6 hp4 hz4 E4 D4 hm L4 S4 L2 S2 D2 en c2 hge1 pm1 hbr' c1 hbr A1 hn hp hst irr h1 T; omega)) g2 (S4.trans S6) L6 g3)
end
end TS
namespace TS
open PySem PySem.W PyProof.Rows
section
variable {P : Keyed → Prop} {lt : Keyed → Keyed → Bool}
theorem set_list : ∀ (l : List Keyed) (xs : Array Keyed) (b off : Nat), b + off + l.length ≤ xs.size →
    ((l.zipIdx off).foldl (fun a x => a.setIfInBounds (b + x.snd) x.fst) xs).toList = xs.toList.take (b + off) ++ l ++ xs.toList.drop (b + off + l.length)
  | [], xs, b, off, h => by simp
  | x :: l, xs, b, off, h => by
    rw [List.length_cons] at h
    rw [List.zipIdx_cons, List.foldl_cons]
    have ih := set_list l (xs.setIfInBounds (b + off) x) b (off + 1) (by rw [Array.size_setIfInBounds]; omega)
    rw [ih, Array.toList_setIfInBounds]
    have hl : b + off < xs.toList.length := by simp; (clear ih; omega)
    have tl : (xs.toList.take (b + off)).length = b + off := by rw [List.length_take]; (clear ih h; omega)
    have es : xs.toList.set (b + off) x = xs.toList.take (b + off) ++ x :: xs.toList.drop (b + off + 1) := by rw [List.set_eq_take_append_cons_drop, if_pos hl]
    have e1 : (xs.toList.set (b + off) x).take (b + (off + 1)) = xs.toList.take (b + off) ++ [x] := by
      rw [es, List.take_append, tl, List.take_of_length_le (by (clear es hl ih h; omega)), show b + (off + 1) - (b + off) = 1 by (clear es tl hl ih h; omega)]
      rfl
    have e2 : (xs.toList.set (b + off) x).drop (b + (off + 1) + l.length) = xs.toList.drop (b + off + (x :: l).length) := by
      rw [List.drop_set, if_pos (by (clear e1 es tl hl ih h; omega)), List.length_cons]
      congr 1
      (clear e1 es tl hl ih h; omega)
    rw [e1, e2, List.append_assoc, List.append_assoc, List.append_assoc]
    rfl
theorem item_ext {xs : Array Keyed} {b e t : Nat} (he : e ≤ xs.size) (ht : b + t < e) : kas_item (xs.extract b e) t = kas_item xs (b + t) := by
  refine item_eq ?_
  rw [Array.getElem?_extract, if_pos (by omega)]
theorem ext_size {xs : Array Keyed} {b e : Nat} (he : e ≤ xs.size) : (xs.extract b e).size = e - b := by
  rw [Array.size_extract]
  omega
theorem srt_of {xs : Array Keyed} (h : ∀ p q, p < q → q < xs.size → lt (kas_item xs q) (kas_item xs p) = false) : Srt lt xs.toList := by
  refine List.pairwise_iff_getElem.mpr fun i j hi hj hij => ?_
  have hj' : j < xs.size := by simpa using hj
  have hi' : i < xs.size := by simpa using hi
  have e1 := (List.getElem?_eq_some_iff.mp (item_get hi')).2
  have e2 := (List.getElem?_eq_some_iff.mp (item_get hj')).2
  rw [e1, e2]
  exact h i j hij hj'
theorem mem_item {xs : Array Keyed} {y : Keyed} (h : y ∈ xs.toList) : ∃ t, t < xs.size ∧ y = kas_item xs t := by
  obtain ⟨j, _, h2, h3⟩ := drop_item (i := 0) (a := xs) (by simpa using h)
  exact ⟨j, h2, h3⟩
end
section
variable {prog : Program} {w : World} {A : Around} {E : Value → Shared → Prop} {κ : SortKind} {P : Keyed → Prop} {lt : Keyed → Keyed → Bool}
theorem c_set {st₁ st : SortSt} {Q : PUnit → SortSt → Shared → Prop} {s : Shared} (h : Q ⟨⟩ st₁ s) : kasC (model prog w) A E (set st₁ : M2 PUnit) Q st s := by
  unfold kasC
  rw [StateT.run_set]
  exact wpAny_pure h
theorem mergeAt_ {s : Shared} (G : Good prog w A E κ P lt s) (T : Tot P lt) {i sa na pw sb nb pw2 : Nat} {Q : Bool → SortSt → Shared → Prop} {st : SortSt} (hst : kindOf st = κ) (hf : failedOf st = none) (hp : ∀ x ∈ (arrOf st).toList, P x)
    (h1 : (pendingOf st)[i]? = some (sa, na, pw)) (h2 : (pendingOf st)[i + 1]? = some (sb, nb, pw2)) (hsb : sb = sa + na) (hna : 0 < na) (hnb : 0 < nb) (hz : sb + nb ≤ (arrOf st).size) (A1 : Asc lt (arrOf st) sa na) (A2 : Asc lt (arrOf st) sb nb)
    (h : ∀ st' : SortSt, kindOf st' = κ → failedOf st' = none → pendingOf st' = ((pendingOf st).setIfInBounds i (sa, na + nb, pw)).eraseIdxIfInBounds (i + 1) → Loc (arrOf st) (arrOf st') sa (sb + nb) → Asc lt (arrOf st') sa (na + nb) → Q true st' s) :
    kasC (model prog w) A E (mergeAt' i) Q st s := by
  have irr : ∀ x, P x → lt x x = false := fun x hx => by
    cases c : lt x x with
    | false => rfl
    | true => exact c.symm.trans (T.asym x x hx hx c)
  have p1 : ∀ t, t < na → P (kas_item (arrOf st) (sa + t)) := fun t ht => hp _ (item_mem (by (clear irr h A2 A1 hna h2 h1 hp hf hst T G; omega)))
  have p2 : ∀ t, t < nb → P (kas_item (arrOf st) (sb + t)) := fun t ht => hp _ (item_mem (by (clear p1 irr h A2 A1 hnb hna h2 h1 hp hf hst T G; omega)))
  refine kasC_bind (kasC_get ?_)
  dsimp only
  rw [h1, h2]
  dsimp only
  refine kasC_bind (c_set ?_)
  refine kasC_bind (c_elem (show sb < (arrOf st).size by (clear p2 p1 irr h A2 A1 hna h2 h1 hp hf hst T G; omega)) ?_)
  have pk : P (kas_item (arrOf st) sb) := p2 0 hnb
  obtain ⟨k, hk, hB⟩ : ∃ k, k ≤ na ∧ ∀ t, t < na → (if false = true then lt (kas_item (arrOf st) (sa + t)) (kas_item (arrOf st) sb) else !(lt (kas_item (arrOf st) sb) (kas_item (arrOf st) (sa + t)))) = decide (t < k) := by
    refine bound _ na fun t u htu hu hh => ?_
    rw [if_neg Bool.false_ne_true, Bool.not_eq_true'] at hh ⊢
    by_cases e : t = u
    · rw [e]; exact hh
    · exact T.trans _ _ _ (p1 t (by (clear e hh pk p2 p1 irr h A2 A1 hz hnb hna hsb h2 h1 hp hf hst T G; omega))) (p1 u hu) pk (A1 t u (by (clear hh hu pk p2 p1 irr h A2 A1 hz hnb hna hsb h2 h1 hp hf hst T G; omega)) hu) hh
  have B1 : ∀ t, t < k → lt (kas_item (arrOf st) sb) (kas_item (arrOf st) (sa + t)) = false := fun t ht => by
    have q := hB t (by (clear hB pk p2 p1 irr h A2 A1 hz hnb hna hsb h2 h1 hp hf hst T G; omega))
    rw [if_neg Bool.false_ne_true, decide_eq_true ht, Bool.not_eq_true'] at q
    exact q
  have B2 : ∀ t, k ≤ t → t < na → lt (kas_item (arrOf st) sb) (kas_item (arrOf st) (sa + t)) = true := fun t g1 g2 => by
    have q := hB t g2
    rw [if_neg Bool.false_ne_true, decide_eq_false (by (clear q g2 B1 hB hk pk p2 p1 irr h A2 A1 hz hnb hna hsb h2 h1 hp hf hst T G; omega)), Bool.not_eq_false'] at q
    exact q
  -- the first of the second run is below all of it
  have C1 : ∀ t, t < nb → lt (kas_item (arrOf st) (sb + t)) (kas_item (arrOf st) sb) = false := fun t ht => by
    by_cases e : t = 0
    · rw [e]; exact irr _ pk
    · exact A2 0 t (by (clear ht B2 B1 hB hk pk p2 p1 irr h A2 A1 hz hnb hna hsb h2 h1 hp hf hst T G; omega)) ht
  refine kasC_bind (gallop_ G hst pk (fun t ht => p1 t ht) (show sa + na ≤ (arrOf st).size by (clear C1 B2 B1 hB hk pk p2 p1 irr h A2 A1 hna h2 h1 hp hf hst T G; omega)) hna hk hB ?_)
  dsimp only
  have key : ∀ t, t < k → ∀ u, u < nb → lt (kas_item (arrOf st) (sb + u)) (kas_item (arrOf st) (sa + t)) = false := fun t ht u hu =>
    T.trans _ _ _ (p1 t (by (clear hu C1 B2 B1 hB pk p2 p1 irr h A2 A1 hz hnb hna hsb h2 h1 hp hf hst T G; omega))) pk (p2 u hu) (B1 t ht) (C1 u hu)
  by_cases c1 : na - k = 0
  · rw [if_pos (by simp [c1])]
    refine kasC_pure (h _ hst hf rfl (Loc.refl _ _ _) fun p q hpq hq => ?_)
    by_cases q1 : q < na
    · exact A1 p q hpq q1
    · have eq1 : sa + q = sb + (q - na) := by (clear hq hpq c1 key C1 B2 B1 hB hk pk p2 p1 irr h A2 A1 hz hnb hna h2 h1 hp hf hst T G; omega)
      by_cases p3 : p < na
      · rw [eq1]
        exact key p (by (clear hq hpq key C1 B2 B1 hB pk p2 p1 irr h A2 A1 hz hnb hna h2 h1 hp hf hst T G; omega)) (q - na) (by (clear p3 q1 hpq c1 key C1 B2 B1 hB hk pk p2 p1 irr h A2 A1 hz hnb hna h2 h1 hp hf hst T G; omega))
      · rw [eq1, show sa + p = sb + (p - na) by (clear q1 hq hpq c1 key C1 B2 B1 hB hk pk p2 p1 irr h A2 A1 hz hnb hna h2 h1 hp hf hst T G; omega)]
        exact A2 _ _ (by (clear q1 hq c1 key C1 B2 B1 hB hk pk p2 p1 irr h A2 A1 hz hnb hna h2 h1 hp hf hst T G; omega)) (by (clear p3 q1 hpq c1 key C1 B2 B1 hB hk pk p2 p1 irr h A2 A1 hz hnb hna h2 h1 hp hf hst T G; omega))
  rw [if_neg (by simpa using c1)]
  have elast : sa + k + (na - k) - 1 = sa + (na - 1) := by (clear c1 key C1 B2 B1 hB pk p2 p1 irr h A2 A1 hz hnb h2 h1 hp hf hst T G; omega)
  rw [elast]
  have pl : P (kas_item (arrOf st) (sa + (na - 1))) := p1 _ (by (clear elast c1 key C1 B2 B1 hB hk pk p2 p1 irr h A2 A1 hz hnb hsb h2 h1 hp hf hst T G; omega))
  refine kasC_bind (c_elem (show sa + (na - 1) < (arrOf st).size by (clear pl c1 key C1 B2 B1 hB hk pk p2 p1 irr h A2 A1 h2 h1 hp hf hst T G; omega)) ?_)
  obtain ⟨k2, hk2, hB2⟩ : ∃ k2, k2 ≤ nb ∧ ∀ t, t < nb → (if true = true then lt (kas_item (arrOf st) (sb + t)) (kas_item (arrOf st) (sa + (na - 1))) else !(lt (kas_item (arrOf st) (sa + (na - 1))) (kas_item (arrOf st) (sb + t)))) = decide (t < k2) := by
    refine bound _ nb fun t u htu hu hh => ?_
    rw [if_pos rfl] at hh ⊢
    by_cases e : t = u
    · rw [e]; exact hh
    · cases c : lt (kas_item (arrOf st) (sb + t)) (kas_item (arrOf st) (sa + (na - 1))) with
      | true => rfl
      | false =>
        have z := T.trans _ _ _ pl (p2 t (by (clear c e hh pl elast c1 key C1 B2 B1 hB hk pk p2 p1 irr h A2 A1 hz hnb hna hsb h2 h1 hp hf hst T G; omega))) (p2 u hu) c (A2 t u (by (clear c hh hu pl elast c1 key C1 B2 B1 hB hk pk p2 p1 irr h A2 A1 hz hnb hna hsb h2 h1 hp hf hst T G; omega)) hu)
        rw [hh] at z
        cases z
  have B3 : ∀ t, t < k2 → lt (kas_item (arrOf st) (sb + t)) (kas_item (arrOf st) (sa + (na - 1))) = true := fun t ht => by
    have q := hB2 t (by (clear hB2 pl elast c1 key C1 B2 B1 hB hk pk p2 p1 irr h A2 A1 hz hnb hna hsb h2 h1 hp hf hst T G; omega))
    rw [if_pos rfl, decide_eq_true ht] at q
    exact q
  have B4 : ∀ t, k2 ≤ t → t < nb → lt (kas_item (arrOf st) (sb + t)) (kas_item (arrOf st) (sa + (na - 1))) = false := fun t g1 g2 => by
    have q := hB2 t g2
    rw [if_pos rfl, decide_eq_false (by (clear q g2 B3 hB2 hk2 pl elast c1 key C1 B2 B1 hB hk pk p2 p1 irr h A2 A1 hz hnb hna hsb h2 h1 hp hf hst T G; omega))] at q
    exact q
  have key2 : ∀ t, t < na → ∀ u, k2 ≤ u → u < nb → lt (kas_item (arrOf st) (sb + u)) (kas_item (arrOf st) (sa + t)) = false := fun t ht u g1 g2 => by
    by_cases e : t = na - 1
    · rw [e]; exact B4 u g1 g2
    · exact T.trans _ _ _ (p1 t ht) pl (p2 u g2) (A1 t (na - 1) (by (clear g2 g1 B4 B3 hB2 hk2 pl elast c1 key C1 B2 B1 hB hk pk p2 p1 irr h A2 A1 hz hnb hsb h2 h1 hp hf hst T G; omega)) (by (clear g2 g1 B4 B3 hB2 hk2 pl elast c1 key C1 B2 B1 hB hk pk p2 p1 irr h A2 A1 hz hnb hsb h2 h1 hp hf hst T G; omega))) (B4 u g1 g2)
  refine kasC_bind (gallop_ G hst pl (fun t ht => p2 t ht) (show sb + nb ≤ (arrOf st).size by (clear key2 B4 B3 hB2 hk2 pl elast c1 key C1 B2 B1 hB hk pk p2 p1 irr h A2 A1 hnb hna hsb h2 h1 hp hf hst T G; omega)) (by (clear key2 B4 B3 hB2 hk2 pl elast c1 key C1 B2 B1 hB hk pk p2 p1 irr h A2 A1 hz hna hsb h2 h1 hp hf hst T G; omega)) hk2 hB2 ?_)
  dsimp only
  by_cases c2 : k2 = 0
  · rw [if_pos (by simp [c2])]
    refine kasC_pure (h _ hst hf rfl (Loc.refl _ _ _) fun p q hpq hq => ?_)
    by_cases q1 : q < na
    · exact A1 p q hpq q1
    · have eq1 : sa + q = sb + (q - na) := by (clear hq hpq c2 key2 B4 B3 hB2 hk2 pl elast c1 key C1 B2 B1 hB hk pk p2 p1 irr h A2 A1 hz hnb hna h2 h1 hp hf hst T G; omega)
      by_cases p3 : p < na
      · rw [eq1]
        exact key2 p p3 (q - na) (by (clear p3 hq hpq key2 B4 B3 hB2 hk2 pl elast c1 key C1 B2 B1 hB hk pk p2 p1 irr h A2 A1 hz hnb hna h2 h1 hp hf hst T G; omega)) (by (clear p3 q1 hpq c2 key2 B4 B3 hB2 hk2 pl elast c1 key C1 B2 B1 hB hk pk p2 p1 irr h A2 A1 hz hnb hna h2 h1 hp hf hst T G; omega))
      · rw [eq1, show sa + p = sb + (p - na) by (clear q1 hq hpq c2 key2 B4 B3 hB2 hk2 pl elast c1 key C1 B2 B1 hB hk pk p2 p1 irr h A2 A1 hz hnb hna h2 h1 hp hf hst T G; omega)]
        exact A2 _ _ (by (clear q1 hq c2 key2 B4 B3 hB2 hk2 pl elast c1 key C1 B2 B1 hB hk pk p2 p1 irr h A2 A1 hz hnb hna h2 h1 hp hf hst T G; omega)) (by (clear p3 q1 hpq c2 key2 B4 B3 hB2 hk2 pl elast c1 key C1 B2 B1 hB hk pk p2 p1 irr h A2 A1 hz hnb hna h2 h1 hp hf hst T G; omega))
  rw [if_neg (by simpa using c2)]
  -- the two pieces that are merged
  have xz : ((arrOf st).extract (sa + k) sb).size = na - k := by rw [ext_size (by (clear c2 key2 B4 B3 hB2 hk2 pl c1 key C1 B2 B1 hB hk pk p2 p1 irr h A2 A1 hna h2 h1 hp hf hst T G; omega))]; (clear c2 key2 B4 B3 hB2 hk2 pl elast c1 key C1 B2 B1 hB pk p2 p1 irr h A2 A1 hz hnb hna h2 h1 hp hf hst T G; omega)
  have yz : ((arrOf st).extract sb (sb + k2)).size = k2 := by rw [ext_size (by (clear xz c2 key2 B4 B3 hB2 pl c1 key C1 B2 B1 hB hk pk p2 p1 irr h A2 A1 hnb hna h2 h1 hp hf hst T G; omega))]; (clear xz c2 key2 B4 B3 hB2 hk2 pl elast c1 key C1 B2 B1 hB hk pk p2 p1 irr h A2 A1 hz hnb hna hsb h2 h1 hp hf hst T G; omega)
  have xi : ∀ t, t < na - k → kas_item ((arrOf st).extract (sa + k) sb) t = kas_item (arrOf st) (sa + (k + t)) := fun t ht => by
    rw [item_ext (by (clear ht yz xz c2 key2 B4 B3 hB2 hk2 pl c1 key C1 B2 B1 hB hk pk p2 p1 irr h A2 A1 hna h2 h1 hp hf hst T G; omega)) (by (clear yz xz c2 key2 B4 B3 hB2 hk2 pl elast c1 key C1 B2 B1 hB pk p2 p1 irr h A2 A1 hz hnb hna h2 h1 hp hf hst T G; omega)), show sa + k + t = sa + (k + t) by (clear ht yz xz c2 key2 B4 B3 hB2 hk2 pl elast c1 key C1 B2 B1 hB hk pk p2 p1 irr h A2 A1 hz hnb hna hsb h2 h1 hp hf hst T G; omega)]
  have yi : ∀ t, t < k2 → kas_item ((arrOf st).extract sb (sb + k2)) t = kas_item (arrOf st) (sb + t) := fun t ht => item_ext (by (clear ht xi xz c2 key2 B4 B3 hB2 pl c1 key C1 B2 B1 hB hk pk p2 p1 irr h A2 A1 hnb hna h2 h1 hp hf hst T G; omega)) (by (clear xi xz c2 key2 B4 B3 hB2 hk2 pl elast c1 key C1 B2 B1 hB hk pk p2 p1 irr h A2 A1 hz hnb hna hsb h2 h1 hp hf hst T G; omega))
  have xm : ∀ z ∈ ((arrOf st).extract (sa + k) sb).toList, ∃ t, k ≤ t ∧ t < na ∧ z = kas_item (arrOf st) (sa + t) := fun z hz' => by
    obtain ⟨t, g1, rfl⟩ := mem_item hz'
    rw [xz] at g1
    exact ⟨k + t, by (clear hz' g1 yi xi yz xz c2 key2 B4 B3 hB2 hk2 pl elast c1 key C1 B2 B1 hB hk pk p2 p1 irr h A2 A1 hz hnb hna hsb h2 h1 hp hf hst T G; omega), by (clear hz' yi xi yz xz c2 key2 B4 B3 hB2 hk2 pl elast c1 key C1 B2 B1 hB pk p2 p1 irr h A2 A1 hz hnb hna hsb h2 h1 hp hf hst T G; omega), xi t g1⟩
  have ym : ∀ z ∈ ((arrOf st).extract sb (sb + k2)).toList, ∃ t, t < k2 ∧ z = kas_item (arrOf st) (sb + t) := fun z hz' => by
    obtain ⟨t, g1, rfl⟩ := mem_item hz'
    rw [yz] at g1
    exact ⟨t, g1, yi t g1⟩
  have px : ∀ z ∈ ((arrOf st).extract (sa + k) sb).toList, P z := fun z hz' => by
    obtain ⟨t, g1, g2, rfl⟩ := xm z hz'
    exact p1 t g2
  have py : ∀ z ∈ ((arrOf st).extract sb (sb + k2)).toList, P z := fun z hz' => by
    obtain ⟨t, g1, rfl⟩ := ym z hz'
    exact p2 t (by (clear hz' px ym xm yi xi xz c2 key2 B4 B3 hB2 pl elast c1 key C1 B2 B1 hB hk pk p2 p1 irr h A2 A1 hz hnb hna hsb h2 h1 hp hf hst T G; omega))
  have sx : Srt lt ((arrOf st).extract (sa + k) sb).toList := srt_of fun p q g1 g2 => by
    rw [xz] at g2
    rw [xi p (by (clear py px ym xm yi xi yz xz c2 key2 B4 B3 hB2 hk2 pl elast c1 key C1 B2 B1 hB hk pk p2 p1 irr h A2 A1 hz hnb hna hsb h2 h1 hp hf hst T G; omega)), xi q g2]
    exact A1 _ _ (by (clear g2 py px ym xm yi xi yz xz c2 key2 B4 B3 hB2 hk2 pl elast c1 key C1 B2 B1 hB hk pk p2 p1 irr h A2 A1 hz hnb hna hsb h2 h1 hp hf hst T G; omega)) (by (clear g1 py px ym xm yi xi yz xz c2 key2 B4 B3 hB2 hk2 pl elast c1 key C1 B2 B1 hB pk p2 p1 irr h A2 A1 hz hnb hna hsb h2 h1 hp hf hst T G; omega))
  have sy : Srt lt ((arrOf st).extract sb (sb + k2)).toList := srt_of fun p q g1 g2 => by
    rw [yz] at g2
    rw [yi p (by (clear sx py px ym xm yi xi xz c2 key2 B4 B3 hB2 hk2 pl elast c1 key C1 B2 B1 hB hk pk p2 p1 irr h A2 A1 hz hnb hna hsb h2 h1 hp hf hst T G; omega)), yi q g2]
    exact A2 _ _ (by (clear g2 sx py px ym xm yi xi yz xz c2 key2 B4 B3 hB2 hk2 pl elast c1 key C1 B2 B1 hB hk pk p2 p1 irr h A2 A1 hz hnb hna hsb h2 h1 hp hf hst T G; omega)) (by (clear g1 sx py px ym xm yi xi xz c2 key2 B4 B3 hB2 pl elast c1 key C1 B2 B1 hB hk pk p2 p1 irr h A2 A1 hz hnb hna hsb h2 h1 hp hf hst T G; omega))
  have xl : (arrOf st).toList.take (sa + k) ++ (((arrOf st).extract (sa + k) sb).toList ++ ((arrOf st).extract sb (sb + k2)).toList) ++ (arrOf st).toList.drop (sb + k2) = (arrOf st).toList := by
    rw [ext0 (show sb ≤ (arrOf st).size by (clear sy sx py px ym xm yi xi yz xz c2 key2 B4 B3 hB2 hk2 pl c1 key C1 B2 B1 hB hk pk p2 p1 irr h A2 A1 hna h2 h1 hp hf hst T G; omega)), ext0 (show sb + k2 ≤ (arrOf st).size by (clear sy sx py px ym xm yi xi xz c2 key2 B4 B3 hB2 pl c1 key C1 B2 B1 hB hk pk p2 p1 irr h A2 A1 hnb hna h2 h1 hp hf hst T G; omega))]
    generalize (arrOf st).toList = l
    have e1 : l.take sb = l.take (sa + k) ++ (l.take sb).drop (sa + k) := by
      have : (l.take sb).take (sa + k) = l.take (sa + k) := by rw [List.take_take, Nat.min_eq_left (by (clear sy sx py px ym xm yi xi yz xz c2 key2 B4 B3 hB2 hk2 pl elast c1 key C1 B2 B1 hB pk p2 p1 irr h A2 A1 hz hnb hna h2 h1 hp hf hst T G; omega))]
      rw [← this, List.take_append_drop]
    have e2 : l.take (sb + k2) = l.take sb ++ (l.take (sb + k2)).drop sb := by
      have : (l.take (sb + k2)).take sb = l.take sb := by rw [List.take_take, Nat.min_eq_left (by (clear e1 sy sx py px ym xm yi xi xz c2 key2 B4 B3 hB2 hk2 pl elast c1 key C1 B2 B1 hB hk pk p2 p1 irr h A2 A1 hz hnb hna hsb h2 h1 hp hf hst T G; omega))]
      rw [← this, List.take_append_drop]
    rw [← List.append_assoc, ← e1, ← e2, List.take_append_drop]
  have fin : ∀ (r : Array Keyed) (st₂ : SortSt), arrOf st₂ = arrOf st → FinA lt ((arrOf st).extract (sa + k) sb) ((arrOf st).extract sb (sb + k2)) r →
      Loc (arrOf st) (List.foldl (fun a x => a.setIfInBounds (sa + k + x.snd) x.fst) (arrOf st₂) r.toList.zipIdx) sa (sb + nb) ∧ Asc lt (List.foldl (fun a x => a.setIfInBounds (sa + k + x.snd) x.fst) (arrOf st₂) r.toList.zipIdx) sa (na + nb) := by
    intro r st₂ K2 F
    rw [K2]
    have rz : r.toList.length = na - k + k2 := by
      rw [F.1.length_eq, List.length_append, Array.length_toList, Array.length_toList, xz, yz]
    have ys := set_list r.toList (arrOf st) (sa + k) 0 (by (clear F K2 xl sy sx py px ym xm yi xi xz c2 key2 B4 B3 hB2 pl c1 key C1 B2 B1 hB pk p2 p1 irr h A2 A1 hnb hna h2 h1 hp hf hst T G; omega))
    generalize List.foldl (fun a x => a.setIfInBounds (sa + k + x.snd) x.fst) (arrOf st) r.toList.zipIdx = zs at ys ⊢
    rw [Nat.add_zero, rz, show sa + k + (na - k + k2) = sb + k2 by (clear ys F K2 xl sy sx py px ym xm yi xi xz c2 key2 B4 B3 hB2 hk2 pl elast c1 key C1 B2 B1 hB pk p2 p1 irr h A2 A1 hz hnb hna h2 h1 hp hf hst T G; omega)] at ys
    have tl : ((arrOf st).toList.take (sa + k)).length = sa + k := by rw [List.length_take, Array.length_toList]; (clear ys rz F K2 xl sy sx py px ym xm yi xi yz xz c2 key2 B4 B3 hB2 hk2 pl c1 key C1 B2 B1 hB pk p2 p1 irr h A2 A1 hna h2 h1 hp hf hst T G; omega)
    -- what stands where
    have gl : ∀ t, zs[t]? = if t < sa + k then (arrOf st)[t]? else if t < sb + k2 then r.toList[t - (sa + k)]? else (arrOf st)[t]? := fun t => by
      rw [← Array.getElem?_toList, ys]
      by_cases g1 : t < sa + k
      · rw [if_pos g1, List.append_assoc, List.getElem?_append_left (by (clear ys rz F K2 xl sy sx py px ym xm yi xi yz xz c2 key2 B4 B3 hB2 hk2 pl c1 key C1 B2 B1 hB hk pk p2 p1 irr h A2 A1 hz hnb hna hsb h2 h1 hp hf hst T G; omega)), List.getElem?_take, if_pos g1, Array.getElem?_toList]
      · rw [if_neg g1]
        by_cases g2 : t < sb + k2
        · rw [if_pos g2, List.getElem?_append_left (by rw [List.length_append]; (clear g1 ys F K2 xl sy sx py px ym xm yi xi xz c2 key2 B4 B3 hB2 hk2 pl c1 key C1 B2 B1 hB pk p2 p1 irr h A2 A1 hz hnb hna h2 h1 hp hf hst T G; omega)), List.getElem?_append_right (by (clear g2 ys rz F K2 xl sy sx py px ym xm yi xi yz xz c2 key2 B4 B3 hB2 hk2 pl c1 key C1 B2 B1 hB hk pk p2 p1 irr h A2 A1 hz hnb hna hsb h2 h1 hp hf hst T G; omega)), tl]
        · rw [if_neg g2, List.getElem?_append_right (by rw [List.length_append]; (clear g1 ys F K2 xl sy sx py px ym xm yi xi xz c2 key2 B4 B3 hB2 hk2 pl c1 key C1 B2 B1 hB pk p2 p1 irr h A2 A1 hz hnb hna h2 h1 hp hf hst T G; omega)), List.getElem?_drop, List.length_append, tl, rz, Array.getElem?_toList]
          congr 1
          (clear g1 ys F K2 xl sy sx py px ym xm yi xi xz c2 key2 B4 B3 hB2 hk2 pl c1 key C1 B2 B1 hB pk p2 p1 irr h A2 A1 hz hnb hna h2 h1 hp hf hst T G; omega)
    have pz : zs.toList.Perm (arrOf st).toList := by
      rw [ys]
      refine List.Perm.trans ?_ (List.Perm.of_eq xl)
      exact (List.Perm.append_left _ F.1).append_right _
    have zz : zs.size = (arrOf st).size := by
      have := pz.length_eq
      simpa using this
    refine ⟨⟨zz, Array.perm_iff_toList_perm.mpr pz, fun t ht => ?_⟩, fun p q hpq hq => ?_⟩
    · rw [gl t]
      by_cases g1 : t < sa + k
      · rw [if_pos g1]
      · rw [if_neg g1, if_neg (by (clear zz pz gl ys rz F K2 xl sy sx py px ym xm yi xi xz c2 key2 B4 B3 hB2 pl c1 key C1 B2 B1 hB hk pk p2 p1 irr h A2 A1 hz hnb hna h2 h1 hp hf hst T G; omega))]
    · have rm : ∀ t, k ≤ t → t < na + k2 → kas_item zs (sa + t) = kas_item r (t - k) ∧ ((∃ u, k ≤ u ∧ u < na ∧ kas_item zs (sa + t) = kas_item (arrOf st) (sa + u)) ∨ ∃ u, u < k2 ∧ kas_item zs (sa + t) = kas_item (arrOf st) (sb + u)) := fun t g1 g2 => by
        have e := gl (sa + t)
        rw [if_neg (by (clear e g2 hq hpq zz pz gl ys rz F K2 xl sy sx py px ym xm yi xi yz xz c2 key2 B4 B3 hB2 hk2 pl c1 key C1 B2 B1 hB hk pk p2 p1 irr h A2 A1 hz hnb hna hsb h2 h1 hp hf hst T G; omega)), if_pos (by (clear e g1 hq hpq zz pz gl tl ys rz F K2 xl sy sx py px ym xm yi xi xz c2 key2 B4 B3 hB2 hk2 pl elast c1 key C1 B2 B1 hB hk pk p2 p1 irr h A2 A1 hz hnb hna h2 h1 hp hf hst T G; omega)), show sa + t - (sa + k) = t - k by (clear e g2 hq hpq zz pz gl ys rz F K2 xl sy sx py px ym xm yi xi yz xz c2 key2 B4 B3 hB2 hk2 pl c1 key C1 B2 B1 hB hk pk p2 p1 irr h A2 A1 hz hnb hna hsb h2 h1 hp hf hst T G; omega), Array.getElem?_toList] at e
        have e2 := item_eq e
        refine ⟨e2, ?_⟩
        have hm := item_mem (a := r) (i := t - k) (by rw [← Array.length_toList, rz]; (clear e2 e hq hpq zz pz gl ys F K2 xl sy sx py px ym xm yi xi xz c2 key2 B4 B3 hB2 hk2 pl c1 key C1 B2 B1 hB pk p2 p1 irr h A2 A1 hz hnb hna hsb h2 h1 hp hf hst T G; omega))
        rcases List.mem_append.mp (F.1.mem_iff.mp hm) with z | z
        · obtain ⟨u, a1, a2, a3⟩ := xm _ z
          exact .inl ⟨u, a1, a2, e2.trans a3⟩
        · obtain ⟨u, a1, a3⟩ := ym _ z
          exact .inr ⟨u, a1, e2.trans a3⟩
      have lowi : ∀ t, t < k → kas_item zs (sa + t) = kas_item (arrOf st) (sa + t) := fun t ht => item_eq (by rw [gl, if_pos (by (clear rm hq hpq zz pz gl ys rz F K2 xl sy sx py px ym xm yi xi yz xz c2 key2 B4 B3 hB2 hk2 pl c1 key C1 B2 B1 hB hk pk p2 p1 irr h A2 A1 hz hnb hna hsb h2 h1 hp hf hst T G; omega))])
      have hii : ∀ t, na + k2 ≤ t → kas_item zs (sa + t) = kas_item (arrOf st) (sb + (t - na)) := fun t ht => by
        refine item_eq ?_
        rw [gl, if_neg (by (clear lowi rm hq hpq zz pz gl ys rz F K2 xl sy sx py px ym xm yi xi xz c2 key2 B4 B3 hB2 hk2 pl c1 key C1 B2 B1 hB pk p2 p1 irr h A2 A1 hz hnb hna hsb h2 h1 hp hf hst T G; omega)), if_neg (by (clear lowi rm hq hpq zz pz gl tl ys rz F K2 xl sy sx py px ym xm yi xi xz c2 key2 B4 B3 hB2 hk2 pl elast c1 key C1 B2 B1 hB hk pk p2 p1 irr h A2 A1 hz hnb hna h2 h1 hp hf hst T G; omega)), show sb + (t - na) = sa + t by (clear lowi rm hq hpq zz pz gl tl ys rz F K2 xl sy sx py px ym xm yi xi xz c2 key2 B4 B3 hB2 hk2 pl elast c1 key C1 B2 B1 hB hk pk p2 p1 irr h A2 A1 hz hnb hna h2 h1 hp hf hst T G; omega)]
      by_cases p3 : p < k
      · rw [lowi p p3]
        by_cases q1 : q < k
        · rw [lowi q q1]
          exact A1 p q hpq (by (clear p3 hii lowi rm hq hpq zz pz gl ys rz F K2 xl sy sx py px ym xm yi xi yz xz c2 key2 B4 B3 hB2 hk2 pl c1 key C1 B2 B1 hB pk p2 p1 irr h A2 A1 hz hnb hna hsb h2 h1 hp hf hst T G; omega))
        · by_cases q2 : q < na + k2
          · rcases (rm q (by (clear q2 p3 hii lowi rm hq hpq zz pz gl ys rz F K2 xl sy sx py px ym xm yi xi yz xz c2 key2 B4 B3 hB2 hk2 pl c1 key C1 B2 B1 hB hk pk p2 p1 irr h A2 A1 hz hnb hna hsb h2 h1 hp hf hst T G; omega)) q2).2 with ⟨u, a1, a2, a3⟩ | ⟨u, a1, a3⟩
            · rw [a3]
              exact A1 p u (by (clear a3 a2 q2 q1 hii lowi rm hq hpq zz pz gl ys rz F K2 xl sy sx py px ym xm yi xi yz xz c2 key2 B4 B3 hB2 hk2 pl c1 key C1 B2 B1 hB hk pk p2 p1 irr h A2 A1 hz hnb hna hsb h2 h1 hp hf hst T G; omega)) a2
            · rw [a3]
              exact key p p3 u (by (clear a3 q2 q1 p3 hii lowi rm hq hpq zz pz gl tl ys rz F K2 xl sy sx py px ym xm yi xi xz c2 key2 B4 B3 hB2 pl elast c1 key C1 B2 B1 hB hk pk p2 p1 irr h A2 A1 hz hnb hna hsb h2 h1 hp hf hst T G; omega))
          · rw [hii q (by (clear q1 p3 hii lowi rm hq hpq zz pz gl tl ys rz F K2 xl sy sx py px ym xm yi xi xz c2 key2 B4 B3 hB2 hk2 pl elast c1 key C1 B2 B1 hB hk pk p2 p1 irr h A2 A1 hz hnb hna hsb h2 h1 hp hf hst T G; omega))]
            exact key p p3 _ (by (clear q1 p3 hii lowi rm hpq zz pz gl tl ys rz F K2 xl sy sx py px ym xm yi xi xz c2 key2 B4 B3 hB2 hk2 pl elast c1 key C1 B2 B1 hB hk pk p2 p1 irr h A2 A1 hz hnb hna hsb h2 h1 hp hf hst T G; omega))
      · by_cases p4 : p < na + k2
        · by_cases q2 : q < na + k2
          · rw [(rm p (by (clear q2 p4 hii lowi rm hq hpq zz pz gl ys rz F K2 xl sy sx py px ym xm yi xi yz xz c2 key2 B4 B3 hB2 hk2 pl c1 key C1 B2 B1 hB hk pk p2 p1 irr h A2 A1 hz hnb hna hsb h2 h1 hp hf hst T G; omega)) p4).1, (rm q (by (clear q2 p4 hii lowi rm hq zz pz gl ys rz F K2 xl sy sx py px ym xm yi xi yz xz c2 key2 B4 B3 hB2 hk2 pl c1 key C1 B2 B1 hB hk pk p2 p1 irr h A2 A1 hz hnb hna hsb h2 h1 hp hf hst T G; omega)) q2).1]
            have z := List.pairwise_iff_getElem.mp F.2 (p - k) (q - k) (by (clear q2 hii lowi rm hq hpq zz pz gl ys F K2 xl sy sx py px ym xm yi xi xz c2 key2 B4 B3 hB2 hk2 pl c1 key C1 B2 B1 hB pk p2 p1 irr h A2 A1 hz hnb hna hsb h2 h1 hp hf hst T G; omega)) (by (clear p4 hii lowi rm hq zz pz gl ys F K2 xl sy sx py px ym xm yi xi xz c2 key2 B4 B3 hB2 hk2 pl c1 key C1 B2 B1 hB pk p2 p1 irr h A2 A1 hz hnb hna hsb h2 h1 hp hf hst T G; omega)) (by (clear q2 p4 hii lowi rm hq zz pz gl ys rz F K2 xl sy sx py px ym xm yi xi yz xz c2 key2 B4 B3 hB2 hk2 pl c1 key C1 B2 B1 hB hk pk p2 p1 irr h A2 A1 hz hnb hna hsb h2 h1 hp hf hst T G; omega))
            have e1 := (List.getElem?_eq_some_iff.mp (item_get (a := r) (i := p - k) (by rw [← Array.length_toList, rz]; (clear z q2 hii lowi rm hq hpq zz pz gl ys F K2 xl sy sx py px ym xm yi xi xz c2 key2 B4 B3 hB2 hk2 pl c1 key C1 B2 B1 hB pk p2 p1 irr h A2 A1 hz hnb hna hsb h2 h1 hp hf hst T G; omega)))).2
            have e2 := (List.getElem?_eq_some_iff.mp (item_get (a := r) (i := q - k) (by rw [← Array.length_toList, rz]; (clear e1 z p4 hii lowi rm hq zz pz gl ys F K2 xl sy sx py px ym xm yi xi xz c2 key2 B4 B3 hB2 hk2 pl c1 key C1 B2 B1 hB pk p2 p1 irr h A2 A1 hz hnb hna hsb h2 h1 hp hf hst T G; omega)))).2
            rw [e1, e2] at z
            exact z
          · rw [hii q (by (clear p4 p3 hii lowi rm hq hpq zz pz gl tl ys rz F K2 xl sy sx py px ym xm yi xi xz c2 key2 B4 B3 hB2 hk2 pl elast c1 key C1 B2 B1 hB hk pk p2 p1 irr h A2 A1 hz hnb hna hsb h2 h1 hp hf hst T G; omega))]
            rcases (rm p (by (clear q2 p4 hii lowi rm hq hpq zz pz gl ys rz F K2 xl sy sx py px ym xm yi xi yz xz c2 key2 B4 B3 hB2 hk2 pl c1 key C1 B2 B1 hB hk pk p2 p1 irr h A2 A1 hz hnb hna hsb h2 h1 hp hf hst T G; omega)) p4).2 with ⟨u, a1, a2, a3⟩ | ⟨u, a1, a3⟩
            · rw [a3]
              exact key2 u a2 _ (by (clear a3 a2 a1 p4 p3 hii lowi rm hq hpq zz pz gl tl ys rz F K2 xl sy sx py px ym xm yi xi xz c2 key2 B4 B3 hB2 hk2 pl elast c1 key C1 B2 B1 hB hk pk p2 p1 irr h A2 A1 hz hnb hna hsb h2 h1 hp hf hst T G; omega)) (by (clear a3 a2 a1 q2 p4 p3 hii lowi rm hpq zz pz gl tl ys rz F K2 xl sy sx py px ym xm yi xi yz xz c2 key2 B4 B3 hB2 hk2 pl elast c1 key C1 B2 B1 hB hk pk p2 p1 irr h A2 A1 hz hna hsb h2 h1 hp hf hst T G; omega))
            · rw [a3]
              exact A2 u _ (by (clear a3 p4 p3 hii lowi rm hq hpq zz pz gl tl ys rz F K2 xl sy sx py px ym xm yi xi xz c2 key2 B4 B3 hB2 hk2 pl elast c1 key C1 B2 B1 hB hk pk p2 p1 irr h A2 A1 hz hnb hna hsb h2 h1 hp hf hst T G; omega)) (by (clear a3 a1 q2 p4 p3 hii lowi rm hpq zz pz gl tl ys rz F K2 xl sy sx py px ym xm yi xi yz xz c2 key2 B4 B3 hB2 hk2 pl elast c1 key C1 B2 B1 hB hk pk p2 p1 irr h A2 A1 hz hna hsb h2 h1 hp hf hst T G; omega))
        · rw [hii p (by (clear p3 hii lowi rm hq hpq zz pz gl tl ys rz F K2 xl sy sx py px ym xm yi xi xz c2 key2 B4 B3 hB2 hk2 pl elast c1 key C1 B2 B1 hB hk pk p2 p1 irr h A2 A1 hz hnb hna hsb h2 h1 hp hf hst T G; omega)), hii q (by (clear p3 hii lowi rm hq zz pz gl tl ys rz F K2 xl sy sx py px ym xm yi xi xz c2 key2 B4 B3 hB2 hk2 pl elast c1 key C1 B2 B1 hB hk pk p2 p1 irr h A2 A1 hz hnb hna hsb h2 h1 hp hf hst T G; omega))]
          exact A2 _ _ (by (clear p3 hii lowi rm hq zz pz gl tl ys rz F K2 xl sy sx py px ym xm yi xi xz c2 key2 B4 B3 hB2 hk2 pl elast c1 key C1 B2 B1 hB hk pk p2 p1 irr h A2 A1 hz hnb hna hsb h2 h1 hp hf hst T G; omega)) (by (clear p4 p3 hii lowi rm hpq zz pz gl tl ys rz F K2 xl sy sx py px ym xm yi xi yz xz c2 key2 B4 B3 hB2 hk2 pl elast c1 key C1 B2 B1 hB hk pk p2 p1 irr h A2 A1 hz hna hsb h2 h1 hp hf hst T G; omega))
  have x0 : kas_item ((arrOf st).extract (sa + k) sb) 0 = kas_item (arrOf st) (sa + k) := xi 0 (by (clear fin xl sy sx py px ym xm yi xi key2 B4 B3 hB2 hk2 pl key C1 B2 B1 hB pk p2 p1 irr h A2 A1 hz hnb h2 h1 hp hf hst T G; omega))
  have y0 : kas_item ((arrOf st).extract sb (sb + k2)) 0 = kas_item (arrOf st) sb := yi 0 (by (clear x0 fin xl sy sx py px ym xm yi xi xz key2 B4 B3 hB2 hk2 pl elast c1 key C1 B2 B1 hB pk p2 p1 irr h A2 A1 hz hnb hna hsb h2 h1 hp hf hst T G; omega))
  have xe : kas_item ((arrOf st).extract (sa + k) sb) (((arrOf st).extract (sa + k) sb).size - 1) = kas_item (arrOf st) (sa + (na - 1)) := by
    rw [xz, xi _ (by (clear y0 x0 fin xl sy sx py px ym xm yi xi xz key2 B4 B3 hB2 hk2 pl key C1 B2 B1 hB pk p2 p1 irr h A2 A1 hz hnb hsb h2 h1 hp hf hst T G; omega))]
    congr 1
    (clear y0 x0 fin xl sy sx py px ym xm yi xi xz key2 B4 B3 hB2 hk2 pl key C1 B2 B1 hB pk p2 p1 irr h A2 A1 hz hnb hsb h2 h1 hp hf hst T G; omega)
  have ye : kas_item ((arrOf st).extract sb (sb + k2)) (((arrOf st).extract sb (sb + k2)).size - 1) = kas_item (arrOf st) (sb + (k2 - 1)) := by
    rw [yz, yi _ (by (clear xe y0 x0 fin xl sy sx py px ym xm yi xi xz key2 B4 B3 hB2 hk2 pl elast c1 key C1 B2 B1 hB pk p2 p1 irr h A2 A1 hz hnb hna hsb h2 h1 hp hf hst T G; omega))]
  by_cases c3 : na - k ≤ k2
  · rw [if_pos c3]
    refine kasC_bind (mergeLo_ G T hst px py sx sy (show 0 < ((arrOf st).extract (sa + k) sb).size by rw [xz]; (clear c3 ye xe y0 x0 fin xl sy sx py px ym xm yi xi key2 B4 B3 hB2 hk2 pl key C1 B2 B1 hB pk p2 p1 irr h A2 A1 hz hnb h2 h1 hp hf hst T G; omega)) (show 0 < ((arrOf st).extract sb (sb + k2)).size by rw [yz]; (clear c3 ye xe y0 x0 fin xl sy sx py px ym xm yi xi xz key2 B4 B3 hB2 hk2 pl elast c1 key C1 B2 B1 hB pk p2 p1 irr h A2 A1 hz hnb hna hsb h2 h1 hp hf hst T G; omega)) (by rw [x0, y0]; exact B2 k (Nat.le_refl _) (by (clear c3 ye xe y0 x0 fin xl sy sx py px ym xm yi xi xz key2 B4 B3 hB2 hk2 pl key C1 B2 B1 hB pk p2 p1 irr h A2 A1 hz hnb hsb h2 h1 hp hf hst T G; omega))) (fun z hz' => ?_) fun r st₂ K2 F => ?_)
    · rw [xe]
      obtain ⟨t, g1, rfl⟩ := ym z hz'
      exact T.asym _ _ (p2 t (by (clear hz' c3 ye xe y0 x0 fin xl sy sx py px ym xm yi xi xz c2 key2 B4 B3 hB2 pl elast c1 key C1 B2 B1 hB hk pk p2 p1 irr h A2 A1 hz hnb hna hsb h2 h1 hp hf hst T G; omega))) pl (B3 t g1)
    · obtain ⟨f1, f2⟩ := fin r st₂ K2.2.1 F
      refine kasC_bind (kasC_modify (kasC_bind (kasC_get (kasC_pure ?_))))
      have ef : failedOf st₂ = none := K2.2.2.2.trans hf
      show Q (failedOf st₂).isNone _ s
      rw [ef]
      exact h _ (K2.1.trans hst) ef K2.2.2.1 f1 f2
  · rw [if_neg c3]
    refine kasC_bind (mergeHi_ G T hst px py sx sy (show 0 < ((arrOf st).extract (sa + k) sb).size by rw [xz]; (clear ye xe y0 x0 fin xl sy sx py px ym xm yi xi c2 key2 B4 B3 hB2 hk2 pl elast c1 key C1 B2 B1 hB hk pk p2 p1 irr h A2 A1 hz hnb hna hsb h2 h1 hp hf hst T G; omega)) (show 0 < ((arrOf st).extract sb (sb + k2)).size by rw [yz]; (clear c3 ye xe y0 x0 fin xl sy sx py px ym xm yi xi xz key2 B4 B3 hB2 hk2 pl elast c1 key C1 B2 B1 hB pk p2 p1 irr h A2 A1 hz hnb hna hsb h2 h1 hp hf hst T G; omega)) (by rw [xe, ye]; exact B3 _ (by (clear c3 ye xe y0 x0 fin xl sy sx py px ym xm yi xi xz key2 B4 B3 hB2 hk2 pl elast c1 key C1 B2 B1 hB pk p2 p1 irr h A2 A1 hz hnb hna hsb h2 h1 hp hf hst T G; omega))) (fun z hz' => ?_) fun r st₂ K2 F => ?_)
    · rw [y0]
      obtain ⟨t, g1, g2, rfl⟩ := xm z hz'
      exact T.asym _ _ pk (p1 t g2) (B2 t g1 g2)
    · obtain ⟨f1, f2⟩ := fin r st₂ K2.2.1 F
      refine kasC_bind (kasC_modify (kasC_bind (kasC_get (kasC_pure ?_))))
      have ef : failedOf st₂ = none := K2.2.2.2.trans hf
      show Q (failedOf st₂).isNone _ s
      rw [ef]
      exact h _ (K2.1.trans hst) ef K2.2.2.1 f1 f2
end
end TS
namespace TS
open PySem PySem.W PyProof.Rows
section
variable {P : Keyed → Prop} {lt : Keyed → Keyed → Bool}
abbrev pr (p : Nat × Nat × Nat) : Nat × Nat := (p.1, p.2.1)
def Runs (lt : Keyed → Keyed → Bool) (xs : Array Keyed) : Nat → List (Nat × Nat) → Nat → Prop
  | b, [], e => b = e
  | b, (s, l) :: r, e => s = b ∧ 0 < l ∧ Asc lt xs b l ∧ Runs lt xs (b + l) r e
theorem Runs.le {xs : Array Keyed} : ∀ {l : List (Nat × Nat)} {b e : Nat}, Runs lt xs b l e → b + l.length ≤ e
  | [], b, e, h => by
    have : b = e := h
    simp [this]
  | (s, l) :: r, b, e, ⟨_, h1, _, h2⟩ => by
    have := h2.le
    rw [List.length_cons]
    (clear h2; omega)
theorem Runs.app {xs : Array Keyed} : ∀ {l1 l2 : List (Nat × Nat)} {b e : Nat}, Runs lt xs b (l1 ++ l2) e ↔ ∃ m, Runs lt xs b l1 m ∧ Runs lt xs m l2 e
  | [], l2, b, e => ⟨fun h => ⟨b, rfl, h⟩, fun ⟨m, h1, h2⟩ => by
      have : b = m := h1
      rw [this]; exact h2⟩
  | (s, l) :: r, l2, b, e => ⟨fun ⟨h1, h2, h3, h4⟩ => by
      obtain ⟨m, g1, g2⟩ := Runs.app.mp h4
      exact ⟨m, ⟨h1, h2, h3, g1⟩, g2⟩, fun ⟨m, ⟨h1, h2, h3, h4⟩, g⟩ => ⟨h1, h2, h3, Runs.app.mpr ⟨m, h4, g⟩⟩⟩
theorem Asc.same {xs ys : Array Keyed} {b l : Nat} (h : ∀ t, b ≤ t → t < b + l → kas_item ys t = kas_item xs t) (a : Asc lt xs b l) : Asc lt ys b l := fun p q h1 h2 => by
  rw [h _ (by (clear h2 a h; omega)) (by (clear h1 a h; omega)), h _ (by (clear h2 h1 a h; omega)) (by (clear a h; omega))]
  exact a p q h1 h2
theorem Runs.same {xs ys : Array Keyed} : ∀ {l : List (Nat × Nat)} {b e : Nat}, (∀ t, b ≤ t → t < e → kas_item ys t = kas_item xs t) → Runs lt xs b l e → Runs lt ys b l e
  | [], b, e, _, h => h
  | (s, l) :: r, b, e, h, ⟨h1, h2, h3, h4⟩ => by
    have hl := h4.le
    exact ⟨h1, h2, h3.same fun t g1 g2 => h t g1 (by (clear g1 h4 h3 h2 h1 h; omega)), h4.same fun t g1 g2 => h t (by (clear g2 hl h4 h3 h1 h; omega)) g2⟩
theorem Loc.item {xs ys : Array Keyed} {lo hi t : Nat} (a : Loc xs ys lo hi) (h : t < lo ∨ hi ≤ t) : kas_item ys t = kas_item xs t := item_eq (a.out t h)
theorem two_split {α : Type} {l : List α} {i : Nat} (h : i + 1 < l.length) : ∃ l1 a b l2, l = l1 ++ a :: b :: l2 ∧ l1.length = i ∧ l[i]? = some a ∧ l[i + 1]? = some b := by
  have h0 : i < l.length := by omega
  refine ⟨l.take i, l[i], l[i + 1], l.drop (i + 2), ?_, by rw [List.length_take]; (clear h0; omega), List.getElem?_eq_getElem h0, List.getElem?_eq_getElem h⟩
  rw [← List.drop_eq_getElem_cons h, ← List.drop_eq_getElem_cons h0, List.take_append_drop]
theorem erase_two {α : Type} (l1 l2 : List α) (a b v : α) : ((l1 ++ a :: b :: l2).set l1.length v).eraseIdx (l1.length + 1) = l1 ++ v :: l2 := by
  induction l1 with
  | nil => rfl
  | cons x l1 ih => simpa using ih
theorem modify_pr (pd : Array (Nat × Nat × Nat)) (i : Nat) (f : Nat × Nat × Nat → Nat × Nat × Nat) (hf : ∀ x, pr (f x) = pr x) : (pd.modify i f).toList.map pr = pd.toList.map pr := by
  apply List.ext_getElem?
  intro j
  rw [List.getElem?_map, List.getElem?_map, Array.getElem?_toList, Array.getElem?_toList, Array.getElem?_modify]
  by_cases c : i = j
  · rw [if_pos c]
    cases pd[j]? with
    | none => rfl
    | some x => simp [hf x]
  · rw [if_neg c]
end
section
variable {prog : Program} {w : World} {A : Around} {E : Value → Shared → Prop} {κ : SortKind} {P : Keyed → Prop} {lt : Keyed → Keyed → Bool}
theorem ite_lt {c : Prop} [Decidable c] {a b n : Nat} (h1 : a + 1 < n) (h2 : b + 1 < n) : (if c then a else b) + 1 < n := by split <;> assumption
theorem c_iteT {α : Type} {c : Prop} [Decidable c] {x y : M2 α} {Q : α → SortSt → Shared → Prop} {st : SortSt} {s : Shared} (hc : c) (h : kasC (model prog w) A E x Q st s) : kasC (model prog w) A E (if c then x else y) Q st s := by rw [if_pos hc]; exact h
theorem c_iteF {α : Type} {c : Prop} [Decidable c] {x y : M2 α} {Q : α → SortSt → Shared → Prop} {st : SortSt} {s : Shared} (hc : ¬ c) (h : kasC (model prog w) A E y Q st s) : kasC (model prog w) A E (if c then x else y) Q st s := by rw [if_neg hc]; exact h
theorem mergeRuns_ {s : Shared} (G : Good prog w A E κ P lt s) (T : Tot P lt) {i lo : Nat} {Q : Bool → SortSt → Shared → Prop} {st : SortSt} (hst : kindOf st = κ) (hf : failedOf st = none) (hp : ∀ x ∈ (arrOf st).toList, P x)
    (hi : i + 1 < (pendingOf st).size) (hlo : lo ≤ (arrOf st).size) (hr : Runs lt (arrOf st) 0 ((pendingOf st).toList.map pr) lo)
    (h : ∀ st' : SortSt, kindOf st' = κ → failedOf st' = none → (pendingOf st').size + 1 = (pendingOf st).size → Loc (arrOf st) (arrOf st') 0 lo → Runs lt (arrOf st') 0 ((pendingOf st').toList.map pr) lo → Q true st' s) :
    kasC (model prog w) A E (mergeAt' i) Q st s := by
  obtain ⟨l1, ⟨sa, na, pw⟩, ⟨sb, nb, pw2⟩, l2, e, el, g1, g2⟩ := two_split (l := (pendingOf st).toList) (i := i) (by simpa using hi)
  rw [Array.getElem?_toList] at g1 g2
  rw [e, List.map_append, List.map_cons, List.map_cons] at hr
  obtain ⟨m, r1, rfl, na0, A1, hsb, nb0, A2, r2⟩ := Runs.app.mp hr
  have hsb' : sb = sa + na := hsb
  have na0' : 0 < na := na0
  have nb0' : 0 < nb := nb0
  have r2' : Runs lt (arrOf st) (sa + na + nb) (l2.map pr) lo := r2
  have hl2 := r2'.le
  have A2' : Asc lt (arrOf st) sb nb := by rw [hsb']; exact A2
  refine mergeAt_ G T hst hf hp g1 g2 hsb' na0' nb0' (by (clear A2' r2' nb0' na0' r2 A2 nb0 hsb A1 na0 r1 g2 g1 el e hr h hi hp hf hst T G; omega)) A1 A2' fun st' k1 k2 k3 L A3 => ?_
  have ep : (pendingOf st').toList = l1 ++ (sa, na + nb, pw) :: l2 := by
    rw [k3, Array.toList_eraseIdxIfInBounds, Array.toList_setIfInBounds, e, ← el]
    exact erase_two l1 l2 _ _ _
  refine h st' k1 k2 ?_ (L.wide (Nat.zero_le _) (by (clear ep A3 L k3 k2 k1 A2' r2' nb0' na0' r2 A2 nb0 hsb A1 na0 r1 g2 g1 el e hr h hlo hi hp hf hst T G; omega))) ?_
  · rw [← Array.length_toList, ← Array.length_toList, ep, e]
    simp
    (clear ep A3 L k3 k2 k1 A2' hl2 r2' nb0' na0' hsb' r2 A2 nb0 hsb A1 na0 r1 g2 g1 el e hr h hlo hi hp hf hst T G; omega)
  · rw [ep, List.map_append, List.map_cons]
    refine Runs.app.mpr ⟨sa, r1.same fun t _ ht => L.item (.inl ht), rfl, (show 0 < na + nb by (clear ep A3 L k3 k2 k1 A2' hl2 r2' na0' r2 A2 nb0 A1 r1 g2 g1 el e hr h hlo hi hp hf hst T G; omega)), A3, ?_⟩
    show Runs lt (arrOf st') (sa + (na + nb)) (l2.map pr) lo
    rw [← Nat.add_assoc]
    exact r2'.same fun t ht _ => L.item (.inr (by (clear ep A3 L k3 k2 k1 A2' hl2 r2' nb0' na0' r2 A2 nb0 hsb A1 na0 r1 g2 g1 el e hr h hlo hi hp hf hst T G; omega)))
theorem sortRuns_ {s : Shared} (G : Good prog w A E κ P lt s) (T : Tot P lt) {Q : Unit → SortSt → Shared → Prop} {st : SortSt} (hst : kindOf st = κ) (hf : failedOf st = none) (hpd : pendingOf st = #[]) (hp : ∀ x ∈ (arrOf st).toList, P x) (hn : 1 ≤ (arrOf st).size)
    (h : ∀ st' : SortSt, failedOf st' = none → (arrOf st').Perm (arrOf st) → Asc lt (arrOf st') 0 (arrOf st').size → Q () st' s) : kasC (model prog w) A E sortRuns' Q st s := by
  refine kasC_bind (kasC_get ?_)
  try dsimp only
  refine kasC_bind (c_rangeR (fun t r st' s' => s' = s ∧ kindOf st' = κ ∧ failedOf st' = none ∧ Loc (arrOf st) (arrOf st') 0 (arrOf st).size ∧ ∃ lo, r = (none, lo) ∧ lo ≤ (arrOf st).size ∧ t ≤ lo ∧ Runs lt (arrOf st') 0 ((pendingOf st').toList.map pr) lo)
    (fun r st' s' => s' = s ∧ kindOf st' = κ ∧ failedOf st' = none ∧ Loc (arrOf st) (arrOf st') 0 (arrOf st).size ∧ r = (none, (arrOf st).size) ∧ Runs lt (arrOf st') 0 ((pendingOf st').toList.map pr) (arrOf st).size)
    ⟨rfl, hst, hf, Loc.refl _ _ _, 0, rfl, Nat.zero_le _, Nat.zero_le _, by rw [hpd]; exact rfl⟩ ?_ ?_ ?_)
  · rintro r st' s' ⟨e1, e2, e3, e4, lo, e5, e6, e7, e8⟩
    have e7' : (arrOf st).size ≤ lo := e7
    have el : lo = (arrOf st).size := by (clear e8 e7 e5 e4 e3 e2 e1 h hn hp hpd hf hst T G; omega)
    subst el
    exact ⟨e1, e2, e3, e4, e5, e8⟩
  · rintro t x r st' s' ht ⟨rfl, k1, f1, L1, lo, rfl, hlo, htl, R1⟩
    try dsimp only
    have hz1 := L1.size
    have hp1 := L1.good hp
    by_cases c1 : lo ≥ (arrOf st).size
    · rw [if_pos c1]
      have el : lo = (arrOf st).size := by (clear hp1 R1 htl L1 f1 k1 h G ht hn hp hpd hf hst T; omega)
      subst el
      exact kasC_pure ⟨rfl, k1, f1, L1, rfl, R1⟩
    rw [if_neg c1]
    refine kasC_bind (countRun_ G T k1 hp1 (show lo + ((arrOf st).size - lo) ≤ (arrOf st').size by (clear hp1 R1 htl hlo L1 f1 k1 h G ht hn hp hpd hf hst T; omega)) (show 1 ≤ (arrOf st).size - lo by (clear hp1 R1 htl hlo L1 f1 k1 h G ht hn hp hpd hf hst T; omega)) fun fo st₂ fo1 fo2' S2 L2' A2 => ?_)
    try dsimp only
    have fo2 : fo ≤ (arrOf st).size - lo := fo2'
    have L2 : Loc (arrOf st') (arrOf st₂) lo (lo + ((arrOf st).size - lo)) := L2'
    have L12 : Loc (arrOf st) (arrOf st₂) 0 (arrOf st).size := L1.trans (L2.wide (Nat.zero_le _) (by (clear L2 fo2 A2 L2' S2 fo2' fo1 hp1 R1 htl hlo L1 f1 k1 h G ht hn hp hpd hf hst T; omega)))
    have k2 : kindOf st₂ = κ := S2.1.trans k1
    have f2 : failedOf st₂ = none := S2.2.2.trans f1
    have R2 : Runs lt (arrOf st₂) 0 ((pendingOf st₂).toList.map pr) lo := by
      rw [S2.2.1]
      exact R1.same fun t _ ht => L2.item (.inl ht)
    have hz2 := L12.size
    by_cases c2 : fo < minRun' (arrOf st).size (arrOf st).size 0
    · refine c_iteT c2 ?_
      refine kasC_bind (kasC_lift (wpAny_rule ?_))
      refine kasC_bind (binarySort_ G T k2 (L12.good hp) (show lo + (min ((arrOf st).size - lo) (minRun' (arrOf st).size (arrOf st).size 0)) ≤ (arrOf st₂).size by (clear c2 R2 f2 k2 L12 L2 fo2 A2 L2' S2 fo2' fo1 hp1 R1 htl hlo L1 f1 k1 h G ht hn hp hpd hf hst T; omega)) (show fo ≤ (min ((arrOf st).size - lo) (minRun' (arrOf st).size (arrOf st).size 0)) by (clear hz2 R2 f2 k2 L12 L2 A2 L2' S2 fo2' fo1 c1 hp1 hz1 R1 htl hlo L1 f1 k1 h G ht hn hp hpd hf hst T; omega)) (show 1 ≤ (min ((arrOf st).size - lo) (minRun' (arrOf st).size (arrOf st).size 0)) by (clear hz2 R2 f2 k2 L12 L2 A2 L2' S2 fo2' c1 hp1 hz1 R1 htl hlo L1 f1 k1 h G ht hn hp hpd hf hst T; omega)) A2 fun st₃ S3 L3' A3' => ?_)
      have L3 : Loc (arrOf st₂) (arrOf st₃) lo (lo + (min ((arrOf st).size - lo) (minRun' (arrOf st).size (arrOf st).size 0))) := L3'
      have A3 : Asc lt (arrOf st₃) lo (min ((arrOf st).size - lo) (minRun' (arrOf st).size (arrOf st).size 0)) := A3'
      have kS : kindOf st₃ = κ := S3.1.trans k2
      have fS : failedOf st₃ = none := S3.2.2.trans f2
      have LS : Loc (arrOf st) (arrOf st₃) 0 (arrOf st).size := L12.trans (L3.wide (Nat.zero_le _) (by (clear fS kS A3 L3 A3' L3' S3 c2 R2 f2 k2 L12 L2 fo2 A2 L2' S2 fo2' fo1 hp1 R1 htl hlo L1 f1 k1 h G ht hn hp hpd hf hst T; omega)))
      have RS : Runs lt (arrOf st₃) 0 ((pendingOf st₃).toList.map pr) lo := by
        rw [S3.2.1]
        exact R2.same fun t _ ht => L3.item (.inl ht)
      have Am := A3
      have hm : 0 < (min ((arrOf st).size - lo) (minRun' (arrOf st).size (arrOf st).size 0)) := by (clear Am RS LS fS kS A3 L3 A3' L3' S3 hz2 R2 f2 k2 L12 L2 A2 L2' S2 fo2' c1 hp1 hz1 R1 htl hlo L1 f1 k1 h G ht hn hp hpd hf hst T; omega)
      refine c_iteF (by simp) ?_
      refine kasC_bind (kasC_get ?_)
      try dsimp only
      cases hb : (pendingOf st₃).back? with
      | none =>
        refine kasC_bind (kasC_modify (kasC_pure ⟨rfl, kS, fS, LS, lo + (min ((arrOf st).size - lo) (minRun' (arrOf st).size (arrOf st).size 0)), rfl, (show lo + (min ((arrOf st).size - lo) (minRun' (arrOf st).size (arrOf st).size 0)) ≤ (arrOf st).size by (clear hb hm Am RS LS fS kS A3 L3 A3' L3' S3 c2 R2 f2 k2 L12 L2 fo2 A2 L2' S2 fo2' fo1 hp1 R1 htl hlo L1 f1 k1 h G ht hn hp hpd hf hst T; omega)), (show t + 1 ≤ lo + (min ((arrOf st).size - lo) (minRun' (arrOf st).size (arrOf st).size 0)) by (clear hb Am RS LS fS kS A3 L3 A3' L3' S3 c2 hz2 R2 f2 k2 L12 L2 fo2 A2 L2' S2 fo2' fo1 c1 hp1 hz1 R1 hlo L1 f1 k1 h G ht hn hp hpd hf hst T; omega)), ?_⟩))
        show Runs lt (arrOf st₃) 0 (((pendingOf st₃).push (lo, (min ((arrOf st).size - lo) (minRun' (arrOf st).size (arrOf st).size 0)), 0)).toList.map pr) (lo + (min ((arrOf st).size - lo) (minRun' (arrOf st).size (arrOf st).size 0)))
        rw [Array.toList_push, List.map_append]
        exact Runs.app.mpr ⟨lo, RS, rfl, hm, Am, rfl⟩
      | some x =>
        obtain ⟨s1, n1, z1⟩ := x
        try dsimp only
        refine kasC_bind (c_rangeR (fun u r st₄ s₄ => s₄ = s' ∧ r = (none, ()) ∧ kindOf st₄ = κ ∧ failedOf st₄ = none ∧ Loc (arrOf st) (arrOf st₄) 0 (arrOf st).size ∧ Runs lt (arrOf st₄) 0 ((pendingOf st₄).toList.map pr) lo ∧ Asc lt (arrOf st₄) lo (min ((arrOf st).size - lo) (minRun' (arrOf st).size (arrOf st).size 0)))
          (fun r st₄ s₄ => s₄ = s' ∧ r = (none, ()) ∧ kindOf st₄ = κ ∧ failedOf st₄ = none ∧ Loc (arrOf st) (arrOf st₄) 0 (arrOf st).size ∧ Runs lt (arrOf st₄) 0 ((pendingOf st₄).toList.map pr) lo ∧ Asc lt (arrOf st₄) lo (min ((arrOf st).size - lo) (minRun' (arrOf st).size (arrOf st).size 0)))
          ⟨rfl, rfl, kS, fS, LS, RS, Am⟩ (fun _ _ _ z => z) ?_ ?_)
        · rintro u x r st₄ s₄ hu ⟨rfl, rfl, k4, f4, L4, R4, A4⟩
          try dsimp only
          refine kasC_bind (kasC_get ?_)
          try dsimp only
          have hz4 := L4.size
          have stop : kasC (model prog w) A E (pure (ForInStep.done ((none : Option Unit), ())) : M2 _) (fun r st' s' => match r with
              | .done b' => s' = s₄ ∧ b' = (none, ()) ∧ kindOf st' = κ ∧ failedOf st' = none ∧ Loc (arrOf st) (arrOf st') 0 (arrOf st).size ∧ Runs lt (arrOf st') 0 ((pendingOf st').toList.map pr) lo ∧ Asc lt (arrOf st') lo (min ((arrOf st).size - lo) (minRun' (arrOf st).size (arrOf st).size 0))
              | .yield b' => s' = s₄ ∧ b' = (none, ()) ∧ kindOf st' = κ ∧ failedOf st' = none ∧ Loc (arrOf st) (arrOf st') 0 (arrOf st).size ∧ Runs lt (arrOf st') 0 ((pendingOf st').toList.map pr) lo ∧ Asc lt (arrOf st') lo (min ((arrOf st).size - lo) (minRun' (arrOf st).size (arrOf st).size 0))) st₄ s₄ := kasC_pure ⟨rfl, rfl, k4, f4, L4, R4, A4⟩
          by_cases c5 : (pendingOf st₄).size > 1
          · rw [if_pos c5]
            cases h5 : (pendingOf st₄)[(pendingOf st₄).size - 2]? with
            | none => exact stop
            | some y =>
              obtain ⟨y1, y2, older⟩ := y
              try dsimp only
              split
              · exact stop
              · refine kasC_bind (mergeRuns_ G T k4 f4 (L4.good hp) (show (pendingOf st₄).size - 2 + 1 < (pendingOf st₄).size by (clear h5 stop hz4 A4 R4 L4 f4 k4 h G hu hb hm Am RS LS fS kS A3 L3 A3' L3' S3 c2 hz2 R2 f2 k2 L12 L2 fo2 A2 L2' S2 fo2' fo1 c1 hp1 hz1 R1 htl hlo L1 f1 k1 ht hn hp hpd hf hst T; omega)) (by (clear h5 c5 stop A4 R4 L4 f4 k4 h G hu hb hm Am RS LS fS kS A3 L3 A3' L3' S3 c2 R2 f2 k2 L12 L2 fo2 A2 L2' S2 fo2' fo1 hp1 R1 htl hlo L1 f1 k1 ht hn hp hpd hf hst T; omega)) R4 fun st₅ k5 f5 _ L5 R5 => ?_)
                exact kasC_pure ⟨rfl, rfl, k5, f5, L4.trans (L5.wide (Nat.le_refl _) (by (clear R5 L5 f5 k5 h5 c5 stop hz4 A4 R4 L4 f4 k4 h G hu hb hm Am RS LS fS kS A3 L3 A3' L3' S3 c2 hz2 R2 f2 k2 L12 L2 fo2 A2 L2' S2 fo2' fo1 c1 hp1 hz1 R1 htl L1 f1 k1 ht hn hp hpd hf hst T; omega))), R5, A4.same fun t g1 _ => L5.item (.inr g1)⟩
          · rw [if_neg c5]
            exact stop
        · rintro r st₄ s₄ ⟨rfl, rfl, k4, f4, L4, R4, A4⟩
          try dsimp only
          refine kasC_bind (kasC_modify (kasC_bind (kasC_modify (kasC_pure ⟨rfl, k4, f4, L4, lo + (min ((arrOf st).size - lo) (minRun' (arrOf st).size (arrOf st).size 0)), rfl, (show lo + (min ((arrOf st).size - lo) (minRun' (arrOf st).size (arrOf st).size 0)) ≤ (arrOf st).size by (clear A4 R4 L4 f4 k4 h G hb hm Am RS LS fS kS A3 L3 A3' L3' S3 c2 R2 f2 k2 L12 L2 fo2 A2 L2' S2 fo2' fo1 hp1 R1 htl hlo L1 f1 k1 ht hn hp hpd hf hst T; omega)), (show t + 1 ≤ lo + (min ((arrOf st).size - lo) (minRun' (arrOf st).size (arrOf st).size 0)) by (clear A4 R4 L4 f4 k4 h G hb Am RS LS fS kS A3 L3 A3' L3' S3 c2 hz2 R2 f2 k2 L12 L2 fo2 A2 L2' S2 fo2' fo1 c1 hp1 hz1 R1 hlo L1 f1 k1 ht hn hp hpd hf hst T; omega)), ?_⟩))))
          show Runs lt (arrOf st₄) 0 (((Array.modify (pendingOf st₄) _ _).push (lo, (min ((arrOf st).size - lo) (minRun' (arrOf st).size (arrOf st).size 0)), 0)).toList.map pr) (lo + (min ((arrOf st).size - lo) (minRun' (arrOf st).size (arrOf st).size 0)))
          rw [Array.toList_push, List.map_append, modify_pr]
          · exact Runs.app.mpr ⟨lo, R4, rfl, hm, A4, rfl⟩
          · exact fun _ => rfl
    · refine c_iteF c2 ?_
      have kS := k2
      have fS := f2
      have LS := L12
      have RS := R2
      have Am := A2
      have hm : 0 < fo := fo1
      have hm2 : lo + fo ≤ (arrOf st).size := by (clear hm Am RS LS fS kS c2 R2 f2 k2 L12 L2 A2 L2' S2 fo2' fo1 hp1 R1 htl hlo L1 f1 k1 h G ht hn hp hpd hf hst T; omega)
      refine kasC_bind (kasC_get ?_)
      try dsimp only
      cases hb : (pendingOf st₂).back? with
      | none =>
        refine kasC_bind (kasC_modify (kasC_pure ⟨rfl, kS, fS, LS, lo + fo, rfl, (show lo + fo ≤ (arrOf st).size by (clear hb hm Am RS LS fS kS c2 hz2 R2 f2 k2 L12 L2 fo2 A2 L2' S2 fo2' fo1 c1 hp1 hz1 R1 htl hlo L1 f1 k1 h G ht hn hp hpd hf hst T; omega)), (show t + 1 ≤ lo + fo by (clear hb hm2 hm Am RS LS fS kS c2 hz2 R2 f2 k2 L12 L2 fo2 A2 L2' S2 fo2' c1 hp1 hz1 R1 hlo L1 f1 k1 h G ht hn hp hpd hf hst T; omega)), ?_⟩))
        show Runs lt (arrOf st₂) 0 (((pendingOf st₂).push (lo, fo, 0)).toList.map pr) (lo + fo)
        rw [Array.toList_push, List.map_append]
        exact Runs.app.mpr ⟨lo, RS, rfl, hm, Am, rfl⟩
      | some x =>
        obtain ⟨s1, n1, z1⟩ := x
        try dsimp only
        refine kasC_bind (c_rangeR (fun u r st₄ s₄ => s₄ = s' ∧ r = (none, ()) ∧ kindOf st₄ = κ ∧ failedOf st₄ = none ∧ Loc (arrOf st) (arrOf st₄) 0 (arrOf st).size ∧ Runs lt (arrOf st₄) 0 ((pendingOf st₄).toList.map pr) lo ∧ Asc lt (arrOf st₄) lo fo)
          (fun r st₄ s₄ => s₄ = s' ∧ r = (none, ()) ∧ kindOf st₄ = κ ∧ failedOf st₄ = none ∧ Loc (arrOf st) (arrOf st₄) 0 (arrOf st).size ∧ Runs lt (arrOf st₄) 0 ((pendingOf st₄).toList.map pr) lo ∧ Asc lt (arrOf st₄) lo fo)
          ⟨rfl, rfl, kS, fS, LS, RS, Am⟩ (fun _ _ _ z => z) ?_ ?_)
        · rintro u x r st₄ s₄ hu ⟨rfl, rfl, k4, f4, L4, R4, A4⟩
          try dsimp only
          refine kasC_bind (kasC_get ?_)
          try dsimp only
          have hz4 := L4.size
          have stop : kasC (model prog w) A E (pure (ForInStep.done ((none : Option Unit), ())) : M2 _) (fun r st' s' => match r with
              | .done b' => s' = s₄ ∧ b' = (none, ()) ∧ kindOf st' = κ ∧ failedOf st' = none ∧ Loc (arrOf st) (arrOf st') 0 (arrOf st).size ∧ Runs lt (arrOf st') 0 ((pendingOf st').toList.map pr) lo ∧ Asc lt (arrOf st') lo fo
              | .yield b' => s' = s₄ ∧ b' = (none, ()) ∧ kindOf st' = κ ∧ failedOf st' = none ∧ Loc (arrOf st) (arrOf st') 0 (arrOf st).size ∧ Runs lt (arrOf st') 0 ((pendingOf st').toList.map pr) lo ∧ Asc lt (arrOf st') lo fo) st₄ s₄ := kasC_pure ⟨rfl, rfl, k4, f4, L4, R4, A4⟩
          by_cases c5 : (pendingOf st₄).size > 1
          · rw [if_pos c5]
            cases h5 : (pendingOf st₄)[(pendingOf st₄).size - 2]? with
            | none => exact stop
            | some y =>
              obtain ⟨y1, y2, older⟩ := y
              try dsimp only
              split
              · exact stop
              · refine kasC_bind (mergeRuns_ G T k4 f4 (L4.good hp) (show (pendingOf st₄).size - 2 + 1 < (pendingOf st₄).size by (clear h5 stop hz4 A4 R4 L4 f4 k4 h G hu hb hm2 hm Am RS LS fS kS c2 hz2 R2 f2 k2 L12 L2 fo2 A2 L2' S2 fo2' fo1 c1 hp1 hz1 R1 htl hlo L1 f1 k1 ht hn hp hpd hf hst T; omega)) (by (clear h5 c5 stop A4 R4 L4 f4 k4 h G hu hb hm2 hm Am RS LS fS kS c2 R2 f2 k2 L12 L2 fo2 A2 L2' S2 fo2' fo1 hp1 R1 htl hlo L1 f1 k1 ht hn hp hpd hf hst T; omega)) R4 fun st₅ k5 f5 _ L5 R5 => ?_)
                exact kasC_pure ⟨rfl, rfl, k5, f5, L4.trans (L5.wide (Nat.le_refl _) (by (clear R5 L5 f5 k5 h5 c5 stop hz4 A4 R4 L4 f4 k4 h G hu hb hm2 hm Am RS LS fS kS c2 hz2 R2 f2 k2 L12 L2 fo2 A2 L2' S2 fo2' fo1 c1 hp1 hz1 R1 htl L1 f1 k1 ht hn hp hpd hf hst T; omega))), R5, A4.same fun t g1 _ => L5.item (.inr g1)⟩
          · rw [if_neg c5]
            exact stop
        · rintro r st₄ s₄ ⟨rfl, rfl, k4, f4, L4, R4, A4⟩
          try dsimp only
          refine kasC_bind (kasC_modify (kasC_bind (kasC_modify (kasC_pure ⟨rfl, k4, f4, L4, lo + fo, rfl, (show lo + fo ≤ (arrOf st).size by (clear A4 R4 L4 f4 k4 h G hb hm Am RS LS fS kS c2 hz2 R2 f2 k2 L12 L2 fo2 A2 L2' S2 fo2' fo1 c1 hp1 hz1 R1 htl hlo L1 f1 k1 ht hn hp hpd hf hst T; omega)), (show t + 1 ≤ lo + fo by (clear A4 R4 L4 f4 k4 h G hb hm2 hm Am RS LS fS kS c2 hz2 R2 f2 k2 L12 L2 fo2 A2 L2' S2 fo2' c1 hp1 hz1 R1 hlo L1 f1 k1 ht hn hp hpd hf hst T; omega)), ?_⟩))))
          show Runs lt (arrOf st₄) 0 (((Array.modify (pendingOf st₄) _ _).push (lo, fo, 0)).toList.map pr) (lo + fo)
          rw [Array.toList_push, List.map_append, modify_pr]
          · exact Runs.app.mpr ⟨lo, R4, rfl, hm, A4, rfl⟩
          · exact fun _ => rfl
  · rintro r st' s' ⟨rfl, k1, f1, L1, rfl, R1⟩
    try dsimp only
    have hz1 := L1.size
    refine kasC_bind (c_rangeR (fun t r st₂ s₂ => s₂ = s' ∧ r = (none, ()) ∧ kindOf st₂ = κ ∧ failedOf st₂ = none ∧ Loc (arrOf st) (arrOf st₂) 0 (arrOf st).size ∧ Runs lt (arrOf st₂) 0 ((pendingOf st₂).toList.map pr) (arrOf st).size ∧ (pendingOf st₂).size + t ≤ (arrOf st).size)
      (fun r st₂ s₂ => s₂ = s' ∧ r = (none, ()) ∧ failedOf st₂ = none ∧ Loc (arrOf st) (arrOf st₂) 0 (arrOf st).size ∧ Runs lt (arrOf st₂) 0 ((pendingOf st₂).toList.map pr) (arrOf st).size ∧ (pendingOf st₂).size ≤ 1)
      ⟨rfl, rfl, k1, f1, L1, R1, by have := R1.le; simp at this; (clear hz1 R1 L1 f1 k1 h G hn hp hpd hf hst T; omega)⟩ ?_ ?_ ?_)
    · rintro r st₂ s₂ ⟨e1, e2, e3, e4, e5, e6, e7⟩
      have e7' : (pendingOf st₂).size + (arrOf st).size ≤ (arrOf st).size := e7
      exact ⟨e1, e2, e4, e5, e6, by (clear e7 e6 e5 e4 e3 e2 e1 hz1 R1 L1 f1 k1 h G hn hp hpd hf hst T; omega)⟩
    · rintro t x r st₂ s₂ ht ⟨rfl, rfl, k2, f2, L2, R2, hs2⟩
      try dsimp only
      refine kasC_bind (kasC_get ?_)
      try dsimp only
      have hz2 := L2.size
      by_cases c1 : (pendingOf st₂).size ≤ 1
      · rw [if_pos c1]
        exact kasC_pure ⟨rfl, rfl, f2, L2, R2, c1⟩
      rw [if_neg c1]
      refine kasC_bind (mergeRuns_ G T k2 f2 (L2.good hp) (ite_lt (show (pendingOf st₂).size - 2 - 1 + 1 < (pendingOf st₂).size by (clear hz2 hs2 R2 L2 f2 k2 h G ht hz1 R1 L1 f1 k1 hn hp hpd hf hst T; omega)) (show (pendingOf st₂).size - 2 + 1 < (pendingOf st₂).size by (clear hz2 hs2 R2 L2 f2 k2 h G ht hz1 R1 L1 f1 k1 hn hp hpd hf hst T; omega))) (show (arrOf st).size ≤ (arrOf st₂).size by (clear c1 hs2 R2 L2 f2 k2 h G ht R1 L1 f1 k1 hn hp hpd hf hst T; omega)) R2 fun st₅ k5 f5 e5 L5 R5 => ?_)
      exact kasC_pure ⟨rfl, rfl, k5, f5, L2.trans (L5.wide (Nat.le_refl _) (by (clear R5 L5 e5 f5 k5 c1 hz2 hs2 R2 L2 f2 k2 h G ht hz1 R1 L1 f1 k1 hn hp hpd hf hst T; omega))), R5, by (clear R5 L5 f5 k5 c1 R2 L2 f2 k2 h G ht R1 L1 f1 k1 hn hp hpd hf hst T; omega)⟩
    · rintro r st₂ s₂ ⟨rfl, rfl, f2, L2, R2, hs2⟩
      have hz2 := L2.size
      refine kasC_pure (h st₂ f2 L2.perm ?_)
      rw [hz2]
      cases hl : (pendingOf st₂).toList with
      | nil =>
        rw [hl] at R2
        have z : 0 = (arrOf st).size := R2
        (clear hl hs2 R2 L2 f2 h G R1 L1 f1 k1 hp hpd hf hst T; omega)
      | cons y l =>
        have hll : l = [] := by
          have : (pendingOf st₂).toList.length ≤ 1 := by simpa using hs2
          rw [hl, List.length_cons] at this
          exact List.eq_nil_of_length_eq_zero (by (clear hl hz2 hs2 R2 L2 f2 h G hz1 R1 L1 f1 k1 hn hp hpd hf hst T; omega))
        rw [hl, hll] at R2
        obtain ⟨_, _, A9, e9⟩ := R2
        have e9' : 0 + y.2.1 = (arrOf st).size := e9
        rw [← e9', Nat.zero_add]
        exact A9
end
end TS
namespace TS
open PySem PySem.W PyProof.Rows
abbrev I3 := Int × Int × Int
def lex3 (a b : I3) : Bool := if a.1 = b.1 then (if a.2.1 = b.2.1 then decide (a.2.2 < b.2.2) else decide (a.2.1 < b.2.1)) else decide (a.1 < b.1)
def TupI (h : Heap) (v : Value) (t : I3) : Prop := ∃ (a : Addr) (o : Obj) (n : Nat) (t1 t2 t3 : Tok), v = .ref a ∧ h.get? a = some o ∧ o.cls = .type "tuple" ∧ o.data = .seq #[.int t.1 t1, .int t.2.1 t2, .int t.2.2 t3] n
section
variable {prog : Program} {w : World} {A : Around} {E : Value → Shared → Prop} {s : Shared}
theorem one_lt {a b : Int} {t u : Tok} {Q : Bool → Shared → Prop} (h : Q (decide (a < b)) s) : wpAny (model prog w) A (oneLt' false (.int a t) (.int b u)) Q E s :=
  kat_one _ _ (lt_int h)
end
end TS
namespace TS
open PySem PySem.W PyProof.Rows
open Classical in
noncomputable def tsOf (h : Heap) (v : Value) : I3 := if q : ∃ u, TupI h v u then q.choose else (0, 0, 0)
end TS
namespace L2
open PySem PySem.Spec PyProof.Rows
def TripAt (K : PySem.W.Frag) (H : Hp) (y : V) (u : TS.I3) : Prop := ∃ a, y = .ref a ∧ SqT K H a [.int u.1, .int u.2.1, .int u.2.2]
def absR : Value → V
  | .ref a => .ref a
  | _ => .non
theorem paired_map {α β γ : Type} {R : β → γ → Prop} {f : α → β} {g : α → γ} : ∀ (l : List α), (∀ v ∈ l, R (f v) (g v)) → Paired R (l.map f) (l.map g)
  | [], _ => .nil
  | x :: l, h => .cons (h x (List.mem_cons_self ..)) (paired_map l fun v hv => h v (List.mem_cons_of_mem _ hv))
section
variable {X : Cx}
end
end L2
namespace L2
open PySem PySem.Spec PyProof.Rows

/-! ### methods -/
/-- a method call o.m(e) of a built-in, with one argument: what must be seen of the text -/
structure M1 (X : Cx) (o : Expr) (m : Str) (apos : Pos) (e : Expr) (cpos : Pos) : Prop where
  base : attributeBase o m X.env (eval o X.env) = eval o X.env
  few : ((backTo cpos (starEach [e] X.env)).all (fun x => !x.1) && (backToKw cpos (keywordEach [] X.env)).all (fun x => x.1.isSome)
    && decide (([e] : List Expr).length + ([] : List Keyword).length + (if ([] : List Keyword).isEmpty then 0 else 1) < 30)) = true
  line : (apos.endLine == cpos.line) = true
  trees : backTo cpos (starEach [e] X.env) = [(false, eval e X.env)]
structure M2 (X : Cx) (o : Expr) (m : Str) (apos : Pos) (e f : Expr) (cpos : Pos) : Prop where
  base : attributeBase o m X.env (eval o X.env) = eval o X.env
  few : ((backTo cpos (starEach [e, f] X.env)).all (fun x => !x.1) && (backToKw cpos (keywordEach [] X.env)).all (fun x => x.1.isSome)
    && decide (([e, f] : List Expr).length + ([] : List Keyword).length + (if ([] : List Keyword).isEmpty then 0 else 1) < 30)) = true
  line : (apos.endLine == cpos.line) = true
  trees : backTo cpos (starEach [e, f] X.env) = [(false, eval e X.env), (false, eval f X.env)]

/-- a is a dict, whatever its keys -/
def IsD (H : Hp) (a : Addr) : Prop := (∃ kvs, Rd H a (.dK kvs)) ∨ ∃ kvs, Rd H a (.dT kvs)
theorem isD_at {X : Cx} {pins : List (Addr × Obj)} {σ : St} {H : Hp} {s : Shared} {a : Addr} (I : Inv X pins σ H s) (d : IsD H a) :
    s.TypeIs (.ref a) "dict" ∧ (∀ b, Value.ref a = .ref b → ∃ ob, s.heap.get? b = some ob ∧ ob.dict = none) ∧ (a == sysModules) = false := by
  rcases d with ⟨kvs, e⟩ | ⟨kvs, e⟩
  · obtain ⟨_, hd, vs, _, dd⟩ := dk_rd I.hok e
    refine ⟨dd.typeIs, fun b q => ?_, hd⟩
    cases q
    obtain ⟨ob, _, _, h1, h2, _⟩ := dd
    exact ⟨ob, h1, h2.2.1⟩
  · obtain ⟨_, hd, xs, _, dd⟩ := dt_rd I.hok e
    refine ⟨dd.typeIs, fun b q => ?_, hd⟩
    cases q
    obtain ⟨ob, _, _, h1, h2, _⟩ := dd
    exact ⟨ob, h1, h2.2.1⟩

section
variable {X : Cx} {pins : List (Addr × Obj)} {σ : St} {H : Hp} {s : Shared} {a : Addr} {y d : V} {u r : Value} {o : Option V} {A : Around} {E : Value → Shared → Prop}
/-- d.get(y, x) -/
theorem d_get2 {Q : Value → Shared → Prop} (hu : A.units + 1 < cLine) (I : Inv X pins σ H s) (g : DGet H a y o) (ry : RelV y u) (rd : RelV d r) (h : ∀ w' s', Inv X pins σ H s' → RelV (o.getD d) w' → Q w' s') :
    wpAny (model X.prog X.w) A (call (.builtin "dict.get") [.ref a, u, r]) Q E s := by
  rcases g with ⟨kvs, k, e, ey, l⟩ | ⟨kvs, k, b, e, ey, eb, l⟩
  · subst ey
    obtain ⟨z, hd, vs, rel, dd⟩ := dk_rd I.hok e
    refine call_meetsIn PySem.F.slot_dict_get dd.typeIs PySem.F.entry_dict_get (PySem.F.args_dict_get_3 _ _ _) (meets_dict_get_default (mixKind X.prog X.w) a (kV_is ry) hd r) ⟨_, dd.mapOf, h _ _ (I.tok _) ?_⟩
    rw [l]
    exact (rel.val k).getD rd
  · subst ey
    cases (show u = Value.ref b from ry)
    obtain ⟨z, hd, xs, rel, dd⟩ := dt_rd I.hok e
    refine call_meetsIn PySem.F.slot_dict_get dd.typeIs PySem.F.entry_dict_get (PySem.F.args_dict_get_3 _ _ _) (meetsH_dict_get_default (tupleKind (mixKind X.prog X.w)) a b hd r) ⟨tupleKind_room_in1 hu, k, xs, key_of I.hok eb, dd, h _ _ (I.tok _) ?_⟩
    rw [l]
    exact (rel.val k).getD rd
end

def tDGet1 (td ty : TE) : TE := fun σ H Q => td σ H fun x H1 => ∃ a, x = .ref a ∧ IsD H1 a ∧ ty σ H1 fun y H2 => ∃ o, DGet H2 a y o ∧ Q (o.getD .non) H2
def tDGet2 (td ty tx : TE) : TE := fun σ H Q => td σ H fun x H1 => ∃ a, x = .ref a ∧ IsD H1 a ∧ ty σ H1 fun y H2 => tx σ H2 fun z H3 => ∃ o, DGet H3 a y o ∧ Q (o.getD z) H3
/-- d.pop(k): there; d.pop(k, x): there or not -/
def tDPop1 (td ty : TE) : TE := fun σ H Q => td σ H fun x H1 => ∃ a, x = .ref a ∧ IsD H1 a ∧ ty σ H1 fun y H2 => ∃ kvs k v, H2 a = some (.dK kvs) ∧ y = kV k ∧ valV kvs k = some v ∧ Q v (upd H2 a (.dK (dropK kvs k)))
def tDPop2 (td ty tx : TE) : TE := fun σ H Q => td σ H fun x H1 => ∃ a, x = .ref a ∧ IsD H1 a ∧ ty σ H1 fun y H2 => tx σ H2 fun z H3 => ∃ kvs k, H3 a = some (.dK kvs) ∧ y = kV k ∧
  (∀ v, valV kvs k = some v → Q v (upd H3 a (.dK (dropK kvs k)))) ∧ (valV kvs k = none → Q z H3)
section
variable {X : Cx} {o e f : Expr} {apos cpos : Pos} {td ty tx : TE}
theorem pe_dget2 (hu : X.A.units + 1 < cLine) (ho : PE X o td) (he : PE X e ty) (hf : PE X f tx) (m : M2 X o "get" apos e f cpos) : PE X (.Call (.Attribute o "get" apos) [e, f] [] cpos) (tDGet2 td ty tx) := by
  intro pins s σ H Q I h
  refine wpAny_Call_method m.base m.few m.line PySem.F.plainAttrs_dict PySem.F.slot_dict_get PySem.F.type_dict_get (thn (ho pins s σ H _ I h) fun u s1 ⟨x, H1, I1, rx, a, ex, d, q1⟩ => ?_)
  subst ex
  obtain rfl : u = Value.ref a := rx
  obtain ⟨t1, t2, _⟩ := isD_at I1 d
  refine ⟨t1, t2, ?_⟩
  rw [m.trees]
  refine Calls.callWith_builtin rfl (Calls.evalArgs_plain (Calls.spliced_cons (thn (he pins s1 σ H1 _ I1 q1) fun iv s2 ⟨y, H2, I2, ry, q2⟩ =>
    Calls.spliced_cons (thn (hf pins s2 σ H2 _ I2 q2) fun fv s3 ⟨z, H3, I3, rz, ov, g, q3⟩ => Calls.spliced_nil ?_))))
  exact d_get2 hu I3 g ry rz fun w' s4 I4 rw' => ⟨_, H3, I4, rw', q3⟩
end
end L2
namespace TS
open PySem PySem.W PyProof.Rows
abbrev I2 := Int × Int
def lex2 (a b : I2) : Bool := if a.1 = b.1 then decide (a.2 < b.2) else decide (a.1 < b.1)
def TupI2 (h : Heap) (v : Value) (t : I2) : Prop := ∃ (a : Addr) (o : Obj) (n : Nat) (t1 t2 : Tok), v = .ref a ∧ h.get? a = some o ∧ o.cls = .type "tuple" ∧ o.data = .seq #[.int t.1 t1, .int t.2 t2] n
section
variable {prog : Program} {w : World} {A : Around} {E : Value → Shared → Prop} {s : Shared}
open Classical in
noncomputable def tsOf2 (h : Heap) (v : Value) : I2 := if q : ∃ u, TupI2 h v u then q.choose else (0, 0)
end
end TS
/-! my own rules over the layer: d.items(), sorted(d.items()) of whole numbers by whole numbers -/
namespace L2
open PySem PySem.Spec PyProof.Rows
section
variable {X : Cx}
/-- several objects laid at once -/
theorem Inv.laidM {pins : List (Addr × Obj)} {σ : St} {H H' : Hp} {s : Shared} {h' : Heap} {t' : Nat} (I : Inv X pins σ H s) (k : ∀ b u, s.heap.get? b = some u → h'.get? b = some u) (old : ∀ b u, H b = some u → H' b = some u)
    (off : ∀ b u, s.heap.get? b = some u → H b = none → H' b = none) (new : ∀ b u, H' b = some u → H b = none → ObjOk X.prog X.w H' h' b u) : Inv X pins σ H' { s with heap := h', toks := t' } := by
  refine I.un ⟨fun b u q _ _ _ => k b u q, fun b u q _ _ _ => ⟨u.slots, k b u q⟩, fun b u q n _ => off b u q n, fun b u q _ => ⟨u, k b u q⟩, fun b xs q => old b _ q, fun b o u q => old b _ q, fun b ps q => ⟨#[], by rw [old b _ q]; simp⟩⟩ fun b u e => ?_
  cases q : H b with
  | none => exact new b u e q
  | some v =>
    rw [old b v q] at e
    cases e
    exact (I.hok b _ q).stay (fun c v _ q => k c v q) (fun c q => old c _ q) fun c xs q => old c _ q
def PrAt (H : Hp) (z : V) (p : TS.I2) : Prop := ∃ a, z = .ref a ∧ H a = some (.tup [.int p.1, .int p.2])
end
end L2
namespace TS
open PySem
abbrev Up (l : List Nat) : Prop := l.Pairwise (· < ·)
/-- what is told of a table: who leads it, and that its places rise while it is plain -/
structure GT (b : Bool) (t : SetTable) : Prop where
  led : t.led = b
  up : t.plain = true → Up t.place.toList
end TS
namespace TS
open PySem
def stD (ks : List Int) (k : Int) : List Int := if ks.any (· == k) then ks else ks ++ [k]
/-- the world's word on the order of sets -/
def byT (w : World) : Bool := w.params.followText "set-order"
def kOf : Value → Int
  | .int k _ => k
  | _ => 0
def AllI (vs : List Value) : Prop := ∀ v ∈ vs, ∃ k t, v = Value.int k t
structure SetS (prog : Program) (w : World) (o : Obj) (es : Array (Int × Value)) (ep : Nat) (t : SetTable) (ks : List Int) : Prop where
  ex : o.ExactSet
  dat : o.data = .set es ep t
  el : ElemsOf (intKind prog w) es.toList
  few : es.size < scanBound
  fit : t.fits es.size = true
  gt : GT (!(byT w)) t
  pm : (es.toList.map fun e => kOf e.2).Perm ks
  nd : ks.Nodup
def SetI (prog : Program) (w : World) (h : Heap) (a : Addr) (ks : List Int) : Prop := ∃ o es ep t, h.get? a = some o ∧ SetS prog w o es ep t ks
section
variable {prog : Program} {w : World} {A : Around} {E : Value → Shared → Prop} {s : Shared}
end
end TS
namespace TS
open PySem
section
variable {prog : Program} {w : World} {A : Around} {E : Value → Shared → Prop} {s : Shared}
abbrev itObj (first : Value) (i : Nat) (S : Addr) (n ep : Nat) : Obj := { cls := .type "set_iterator", dict := none, data := .fields #[first, rawInt i, .ref S, rawInt n, rawInt ep], slots := #[] }
variable {S I : Addr} {o : Obj} {es : Array (Int × Value)} {ep : Nat} {t : SetTable} {ks : List Int}
/-- the order in which a set that is not drawn is gone through -/
def ordN (w : World) (S : Addr) (ep : Nat) (es : Array (Int × Value)) : Array (Int × Value) := if byT w then pickOrder (w.params.setOrder S ep) es else es
def slotN (w : World) (t : SetTable) : Nat → Nat
  | 0 => 0
  | i + 1 => if byT w then 0 else t.place.getD i 0 + 1
def NotDrawn (w : World) (es : Array (Int × Value)) (t : SetTable) : Prop := byT w = true ∨ t.plain = true ∨ es.size ≤ 1
end
end TS
namespace TS
open PySem
section
variable {prog : Program} {w : World} {A : Around} {E : Value → Shared → Prop} {s : Shared} {S I T : Addr} {o : Obj} {es : Array (Int × Value)} {ep : Nat} {t : SetTable} {ks : List Int}
end
end TS
namespace TS
open PySem PyProof.Rows
section
variable {prog : Program} {w : World} {A : Around} {E : Value → Shared → Prop} {s : Shared}
end
end TS
namespace TS
open PySem PySem.W PyProof.Rows
section
variable {prog : Program} {w : World} {A : Around} {E : Value → Shared → Prop} {s : Shared}
/-- list.sort, whatever the order: what is asked of it is that it changes nothing and is total -/
theorem list_sort_g {κ : SortKind} {P : Value → Prop} {lt : Value → Value → Bool} {a : Addr} {vs : List Value} {n : Nat} {Q : PySem.Fin → Shared → Prop} (ho : s.heap.get? a = some (seqObj "list" vs.toArray n)) (hz : vs.length ≤ sizeLine)
    (hk : ∀ h6 : Heap, (∀ b o, b ≠ a → s.heap.get? b = some o → h6.get? b = some o) → 2 ≤ vs.length → ∀ Q' : SortKind → Shared → Prop, Q' κ { s with heap := h6 } → wpAny (model prog w) A (keyKind' vs.toArray) Q' E { s with heap := h6 })
    (hg : ∀ h6 : Heap, (∀ b o, b ≠ a → s.heap.get? b = some o → h6.get? b = some o) → Good prog w A E κ (fun x => P x.1) (fun x y => lt x.1 y.1) { s with heap := h6 })
    (ht : Tot (fun x => P x.1) (fun x y => lt x.1 y.1)) (hP : ∀ v ∈ vs, P v)
    (h : ∀ out : Array Value, out.toList.Perm vs → (out.toList.Pairwise fun x y => lt y x = false) → Q (.done (.ret .none)) { s with heap := sortedHeap s.heap a vs out }) : wpAny (model prog w) A (Builtin.«list.sort» ⟨[.ref a], []⟩) Q E s := by
  have hvz : vs.toArray.size = vs.length := List.size_toArray ..
  obtain ⟨e1, ho1⟩ : ∃ e1, (s.heap.update a (Obj.mapSeq fun _ => (#[] : Array Value))).get? a = some (seqObj "list" #[] e1) := ⟨_, get?_update_seq ho fun _ => #[]⟩
  rw [list_sort_plain]
  refine wpAny_bind (listItems_at ho rfl (wpAny_bind (listUpdate_at ho rfl ?_ (by rw [hvz]; exact hz) (Nat.zero_le _))))
  refine wpAny_bind (seqEpoch_at ho1 rfl (wpAny_bind (wpAny_newTuple (wpAny_bind (wpAny_newList (wpAny_holding ?_) (Nat.zero_le _))) (by show vs.length ≤ _; exact hz))))
  obtain ⟨h6, e6⟩ : ∃ h6, h6 = ((s.heap.update a (Obj.mapSeq fun _ => (#[] : Array Value))).push (seqObj "tuple" vs.toArray 0)).push (seqObj "list" #[] 0) := ⟨_, rfl⟩
  have ho6 : h6.get? a = some (seqObj "list" #[] e1) := by
    rw [e6]
    exact Heap.get?_push_of_some _ (Heap.get?_push_of_some _ ho1)
  have k6 : ∀ b o, b ≠ a → s.heap.get? b = some o → h6.get? b = some o := fun b o hb z => by
    rw [e6]
    exact Heap.get?_push_of_some _ (Heap.get?_push_of_some _ (((Heap.SameBut.update s.heap a (Obj.mapSeq fun _ => (#[] : Array Value))).2 b hb).trans z))
  show wpAny (model prog w) A _ Q E { s with heap := ((s.heap.update a (Obj.mapSeq fun _ => (#[] : Array Value))).push (seqObj "tuple" vs.toArray 0)).push (seqObj "list" #[] 0) }
  have hfin : ∀ out : Array Value, out.toList.Perm vs → (out.toList.Pairwise fun x y => lt y x = false) → Q (.done (.ret .none)) { s with heap := h6.update a (Obj.mapSeq fun _ => out) } := fun out p1 p2 => by
    rw [e6]
    exact h out p1 p2
  rw [← e6]
  dsimp only
  by_cases h2 : vs.toArray.size < 2
  · rw [if_pos h2, if_pos h2]
    refine wpAny_bind (wpAny_pure ?_)
    rw [StateT.run_pure]
    refine wpAny_bind (wpAny_pure ?_)
    dsimp only
    have eo : ((arrOf (SortSt.mk' general' (vs.toArray.zip vs.toArray) #[] 7 none)).map (·.2)) = vs.toArray := by
      show (vs.toArray.zip vs.toArray).map (·.2) = vs.toArray
      apply Array.toList_inj.mp
      simp [List.map_snd_zip]
    rw [eo]
    refine wpAny_bind (seqEpoch_at ho6 rfl (wpAny_bind (listUpdate_at ho6 rfl ?_ (Nat.zero_le _) (by rw [hvz]; exact Nat.le_succ_of_le hz))))
    simp only [bne_self_eq_false, Bool.false_eq_true, if_false]
    refine wpAny_pure (hfin vs.toArray (List.Perm.refl _) ?_)
    match vs, h2 with
    | [], _ => exact .nil
    | [x], _ => exact List.pairwise_singleton _ _
    | x :: y :: l, h2 => exact absurd h2 (by simp)
  · rw [if_neg h2, if_neg h2]
    refine wpAny_bind (hk h6 k6 (by rw [← hvz]; exact Nat.not_lt.mp h2) _ ?_)
    have zl : (vs.toArray.zip vs.toArray).toList = vs.zip vs := by simp
    have pz : ∀ x ∈ (vs.toArray.zip vs.toArray).toList, P x.1 := fun x hx => by
      rw [zl] at hx
      exact hP _ (mem_zip_self hx).2
    have run := sortRuns_ (prog := prog) (w := w) (A := A) (E := E) (hg h6 k6) ht (Q := fun _ st' s' => s' = { s with heap := h6 } ∧ failedOf st' = none ∧ (arrOf st').Perm (vs.toArray.zip vs.toArray) ∧ Asc (fun x y => lt x.1 y.1) (arrOf st') 0 (arrOf st').size)
      (st := SortSt.mk' κ (vs.toArray.zip vs.toArray) #[] 7 none) rfl rfl rfl pz (by show 1 ≤ (vs.toArray.zip vs.toArray).size; simp; (clear pz zl hfin ho6 e6 ho1 h hz hk hg ht hP k6 ho; omega)) (fun st' f1 f2 f3 => ⟨rfl, f1, f2, f3⟩)
    refine wpAny_bind (wpAny_mono run ?_ fun _ _ e => e)
    rintro ⟨⟨⟩, st'⟩ s' ⟨rfl, f1, f2, f3⟩
    dsimp only
    have p0 := Array.perm_iff_toList_perm.mp f2
    rw [zl] at p0
    have osz : ((arrOf st').map (·.2)).size = vs.length := by
      rw [Array.size_map, ← Array.length_toList, p0.length_eq]
      simp
    refine wpAny_bind (seqEpoch_at ho6 rfl (wpAny_bind (listUpdate_at ho6 rfl ?_ (Nat.zero_le _) (Nat.le_trans (Nat.le_of_eq osz) (Nat.le_succ_of_le hz)))))
    rw [f1]
    simp only [bne_self_eq_false, Bool.false_eq_true, if_false]
    refine wpAny_pure (hfin _ ?_ ?_)
    · rw [Array.toList_map]
      refine (p0.map _).trans (List.Perm.of_eq ?_)
      exact List.map_snd_zip (Nat.le_refl _)
    · rw [Array.toList_map, List.pairwise_map]
      have sr : Srt (fun x y => lt x.1 y.1) (arrOf st').toList := srt_of fun p q g1 g2 => by
        have := f3 p q g1 g2
        rw [Nat.zero_add, Nat.zero_add] at this
        exact this
      refine List.Pairwise.imp_of_mem ?_ sr
      intro x y hx hy hxy
      have ex := (mem_zip_self (p0.mem_iff.mp hx)).1
      have ey := (mem_zip_self (p0.mem_iff.mp hy)).1
      rw [← ex, ← ey]
      exact hxy
def ltI (x y : Value) : Bool := decide (kOf x < kOf y)
end
end TS
/-! my own rules over the layer: set(xs), sorted(a set) of whole numbers -/
namespace L2
open PySem PySem.Spec PyProof.Rows
section
variable {X : Cx}
end
end L2
namespace L2
open PySem PySem.Spec PyProof.Rows
section
variable {X : Cx} {st : Stmt} {t : TS}
/-- a statement, and what is known behind it, said on its own -/
def tJoin (t : TS) : TS := fun D σ H => ∃ R : St → Hp → Prop, t { D with nx := R } σ H ∧ ∀ σ' H', R σ' H' → D.nx σ' H'
theorem ps_join (h : PS X st t) : PS X st (tJoin t) := by
  intro pins s σ H D I ⟨R, h1, h2⟩
  refine thn (h pins s σ H { D with nx := R } I h1) fun f s1 q => ?_
  cases f with
  | next =>
    obtain ⟨σ', H', I', q⟩ := q
    exact ⟨σ', H', I', h2 _ _ q⟩
  | ret v => exact q
  | brk => exact q
  | cont => exact q
end
end L2
namespace L2
open PySem
end L2
namespace L2
open PySem PySem.Spec PyProof.Rows
section
variable {X : Cx}
end
end L2
/-! tuples of whole numbers of any length in order; the keys of a dict, sorted -/
namespace TS
open PySem PySem.W PyProof.Rows
theorem lex_tr : ∀ (x y z : List Int), HT.lexLt y x = false → HT.lexLt z y = false → HT.lexLt z x = false
  | [], _, [], _, _ => rfl
  | [], _, _ :: _, _, _ => rfl
  | _ :: _, [], _, h, _ => by cases h
  | _ :: _, _ :: _, [], _, h => by cases h
  | a :: x, b :: y, c :: z, h1, h2 => by
    rw [HT.lexLt_cons] at h1 h2 ⊢
    by_cases e1 : b = a
    · rw [if_pos e1] at h1
      by_cases e2 : c = b
      · rw [if_pos e2] at h2
        rw [if_pos (e2.trans e1)]
        exact lex_tr x y z h1 h2
      · rw [if_neg e2, decide_eq_false_iff_not] at h2
        rw [if_neg (by omega), decide_eq_false_iff_not]
        omega
    · rw [if_neg e1, decide_eq_false_iff_not] at h1
      by_cases e2 : c = b
      · rw [if_neg (by omega), decide_eq_false_iff_not]
        omega
      · rw [if_neg e2, decide_eq_false_iff_not] at h2
        rw [if_neg (by omega), decide_eq_false_iff_not]
        omega
theorem lex_as : ∀ (x y : List Int), HT.lexLt x y = true → HT.lexLt y x = false
  | [], [], h => by cases h
  | [], _ :: _, _ => rfl
  | _ :: _, [], h => by cases h
  | a :: x, b :: y, h => by
    rw [HT.lexLt_cons] at h ⊢
    by_cases e : a = b
    · rw [if_pos e] at h
      rw [if_pos e.symm]
      exact lex_as x y h
    · rw [if_neg e, decide_eq_true_eq] at h
      rw [if_neg (by omega), decide_eq_false_iff_not]
      omega
theorem lex_eq : ∀ (x y : List Int), HT.lexLt x y = false → HT.lexLt y x = false → x = y
  | [], [], _, _ => rfl
  | [], _ :: _, h, _ => by cases h
  | _ :: _, [], _, h => by cases h
  | a :: x, b :: y, h1, h2 => by
    rw [HT.lexLt_cons] at h1 h2
    by_cases e : a = b
    · rw [if_pos e] at h1
      rw [if_pos e.symm] at h2
      rw [e, lex_eq x y h1 h2]
    · rw [if_neg e, decide_eq_false_iff_not] at h1
      rw [if_neg (fun z => e z.symm), decide_eq_false_iff_not] at h2
      omega
/-- a tuple of whole numbers -/
def TupW (h : Heap) (v : Value) (t : List Int) : Prop := ∃ (a : Addr) (xs : Array Value), v = .ref a ∧ IsTup h a xs ∧ IntsAre xs.toList t
theorem TupW.keep {h h' : Heap} {v : Value} {t : List Int} (k : ∀ b o, h.get? b = some o → o.cls = .type "tuple" → h'.get? b = some o) (z : TupW h v t) : TupW h' v t := by
  obtain ⟨a, xs, e, ⟨o, ho, hc, r⟩, hi⟩ := z
  exact ⟨a, xs, e, ⟨o, k a o ho hc, hc, r⟩, hi⟩
section
variable {prog : Program} {w : World} {A : Around} {E : Value → Shared → Prop} {s : Shared}
theorem kat_ints {fin : Bool} {Q : Bool → Shared → Prop} : ∀ {vs ws : List Value} {ns ms : List Int} (i : Nat), IntsAre vs ns → IntsAre ws ms → fin = decide (ns.length < ms.length) → Q (HT.lexLt ns ms) s → KatLex prog w A true fin Q (vs.zip ws) i s
  | _, _, _, _, i, .nil, .nil, e, h => by
    subst e
    exact kat_nil h
  | _, _, _, _, i, .nil, .cons c u r, e, h => by
    subst e
    exact kat_nil h
  | _, _, _, _, i, .cons a t r, .nil, e, h => by
    subst e
    exact kat_nil h
  | _, _, _, _, i, .cons (ns := ns) a t r, .cons (ns := ms) c u r', e, h => by
    rw [HT.lexLt_cons] at h
    rw [List.zip_cons_cons]
    refine kat_cons (wpAny_eqBool_int (kat_go (fun z => kat_yes ?_) (fun z => kat_no ?_)))
    · rw [if_pos (beq_iff_eq.mp z)] at h
      refine kat_ints (i + 1) r r' ?_ h
      rw [e]
      simp only [List.length_cons, Nat.add_lt_add_iff_right]
    · rw [if_neg (fun q => by rw [beq_iff_eq.mpr q] at z; cases z)] at h
      cases i with
      | zero => exact oneLt_int h
      | succ i => exact one_lt h
theorem cmpW {x y : Value} {t u : List Int} {Q : Bool → Shared → Prop} (hx : TupW s.heap x t) (hy : TupW s.heap y u) (h : Q (HT.lexLt t u) s) : wpAny (model prog w) A (keyLt' (tuples' true) x y) Q E s := by
  obtain ⟨a, xs, rfl, ⟨o, ho, _, n, hd⟩, hi⟩ := hx
  obtain ⟨b, ys, rfl, ⟨o', ho', _, n', hd'⟩, hj⟩ := hy
  refine kat_lt ho hd ho' hd' (kat_ints 0 hi hj ?_ h)
  have z1 := hi.length
  have z2 := hj.length
  rw [Array.length_toList] at z1 z2
  rw [z1, z2]
theorem cmpG {x y : Value} {t u : List Int} {Q : Bool → Shared → Prop} (hu : A.units < cLine) (hx : TupW s.heap x t) (hy : TupW s.heap y u) (h : Q (HT.lexLt t u) s) : wpAny (model prog w) A (keyLt' general' x y) Q E s := by
  obtain ⟨a, xs, rfl, ha, hi⟩ := hx
  obtain ⟨b, ys, rfl, hb, hj⟩ := hy
  show wpAny (model prog w) A (oneLt' false (.ref a) (.ref b)) Q E s
  exact kat_one _ _ (HT.lt_tupInts ha hb hi hj hu h)
theorem cmpO {x y : Value} {t u : List Int} {Q : Bool → Shared → Prop} (hu : A.units < cLine) (hx : TupW s.heap x t) (hy : TupW s.heap y u) (h : Q (HT.lexLt t u) s) : wpAny (model prog w) A (keyLt' oneType' x y) Q E s := by
  obtain ⟨a, xs, rfl, ⟨⟨cls, dd, data, sl⟩, ho, hc, n, hd⟩, hi⟩ := hx
  obtain ⟨b, ys, rfl, ⟨⟨cls2, dd2, data2, sl2⟩, ho2, hc2, n2, hd2⟩, hj⟩ := hy
  simp only at hc hd hc2 hd2
  subst hc hd hc2 hd2
  rw [keyLt'_oneType, oneLt'_eq]
  simp only [if_true]
  refine wpAny_bind (wpAny_cRoomFor hu (wpAny_bind (wpAny_callSpecialIfBound?_slot ⟨_, ho, rfl⟩ PySem.F.slot_tuple_lt (call_meets PySem.F.slot_tuple_lt ⟨_, ho, rfl⟩ PySem.F.entry_tuple_lt (PySem.F.args_tuple_lt_2 _ _) (HT.tuple_lt_ints a b xs ys n n2 dd dd2 sl sl2 t u hi hj) ⟨ho, ho2, ?_⟩))))
  exact wpAny_truthy_bool h
/-- the three ways in which tuples are compared -/
def KindW (κ : SortKind) : Prop := κ = tuples' true ∨ κ = general' ∨ κ = oneType'
theorem goodW {κ : SortKind} (hκ : KindW κ) (hu : A.units < cLine) {h0 : Heap} (ts : Value → List Int) (hk : ∀ v t, TupW h0 v t → TupW s.heap v t) : Good prog w A E κ (fun x => TupW h0 x.1 (ts x.1)) (fun x y => HT.lexLt (ts x.1) (ts y.1)) s := by
  intro x y st Q hx hy hst hq
  rw [lt'_eq]
  refine kasC_bind (kasC_get (kasC_bind (kasC_lift (wpAny_attempt ?_))))
  rw [hst]
  rcases hκ with rfl | rfl | rfl
  · exact cmpW (E := _) (hk _ _ hx) (hk _ _ hy) (kasC_pure hq)
  · exact cmpG (E := _) hu (hk _ _ hx) (hk _ _ hy) (kasC_pure hq)
  · exact cmpO (E := _) hu (hk _ _ hx) (hk _ _ hy) (kasC_pure hq)
theorem totW {P : Keyed → Prop} (ts : Value → List Int) : Tot P (fun x y => HT.lexLt (ts x.1) (ts y.1)) :=
  ⟨fun x y z _ _ _ h1 h2 => lex_tr _ _ _ h1 h2, fun x y _ _ h => lex_as _ _ h⟩
theorem katW {h : Heap} {ts : Value → List Int} : ∀ (vs : List Value), (∀ v ∈ vs, TupW h v (ts v)) → (∀ v ∈ vs, ts v ≠ []) → ∃ fs : List Value, KatTups h vs fs ∧ fs.length = vs.length ∧ ∀ v ∈ fs, ∃ i t, v = Value.int i t
  | [], _, _ => ⟨[], trivial, rfl, fun v hv => absurd hv (by simp)⟩
  | v :: vs, hT, hn => by
    obtain ⟨fs, k1, k2, k3⟩ := katW vs (fun u hu => hT u (List.mem_cons_of_mem _ hu)) fun u hu => hn u (List.mem_cons_of_mem _ hu)
    obtain ⟨a, xs, e, ⟨o, ho, hc, n, hd⟩, hi⟩ := hT v (List.mem_cons_self ..)
    have hnv := hn v (List.mem_cons_self ..)
    generalize ts v = t at hi hnv
    subst e
    have z : ∃ i tk, xs[0]? = some (Value.int i tk) := by
      rw [← Array.getElem?_toList]
      generalize xs.toList = l at hi ⊢
      cases hi with
      | nil => exact absurd rfl hnv
      | cons i tk r => exact ⟨i, tk, rfl⟩
    obtain ⟨i, tk, z⟩ := z
    exact ⟨_ :: fs, KatTups.cons ho hc hd z k1, by simp [k2], fun u hu => by
      rcases List.mem_cons.mp hu with e | e
      · exact ⟨_, _, e⟩
      · exact k3 u e⟩
theorem firstsW {M : Model} {ts : Value → List Int} : ∀ (vs : List Value), (∀ v ∈ vs, TupW s.heap v (ts v)) → ∃ fs : List (Option Value), fs.map (·.isSome) = vs.map (fun v => !(ts v).isEmpty) ∧ ∀ (Q : List (Option Value) → Shared → Prop), Q fs s → wpAny M A (vs.mapM firstOfTuple') Q E s
  | [], _ => ⟨[], rfl, fun Q h => by rw [List.mapM_nil]; exact wpAny_pure h⟩
  | v :: vs, hT => by
    obtain ⟨fs, k1, k2⟩ := firstsW (M := M) vs fun u hu => hT u (List.mem_cons_of_mem _ hu)
    obtain ⟨a, xs, e, ⟨o, ho, hc, n, hd⟩, hi⟩ := hT v (List.mem_cons_self ..)
    refine ⟨xs[0]? :: fs, ?_, fun Q h => ?_⟩
    · rw [List.map_cons, List.map_cons, k1, ← Array.getElem?_toList]
      congr 1
      generalize ts v = t at hi
      generalize xs.toList = l at hi
      cases hi with
      | nil => rfl
      | cons i tk r => rfl
    · subst e
      rw [List.mapM_cons]
      refine wpAny_bind ?_
      rw [kas_first_eq]
      refine wpAny_bind (Looks.here (show Looks M s.heap (typeOf (.ref a)) o.cls from (Looks.ld ho).andThen .now) ?_)
      rw [hc, if_neg (by first | decide | simp)]
      exact wpAny_bind (listItems_at ho hd (wpAny_pure (wpAny_bind (k2 _ (wpAny_pure h)))))
/-- how tuples are compared: by whether there is an empty one, and where -/
def kindW (ts : Value → List Int) (vs : List Value) : SortKind :=
  if vs.all (fun v => !(ts v).isEmpty) = true then tuples' true else if ((vs.map fun v => !(ts v).isEmpty)[0]?).getD false = true then general' else oneType'
theorem kindW_is (ts : Value → List Int) (vs : List Value) : KindW (kindW ts vs) := by
  unfold kindW
  split
  · exact .inl rfl
  split
  · exact .inr (.inl rfl)
  · exact .inr (.inr rfl)
theorem kind_of {M : Model} {ts : Value → List Int} {vs : List Value} (h2 : 2 ≤ vs.length) (hT : ∀ v ∈ vs, TupW s.heap v (ts v)) {Q : SortKind → Shared → Prop} (h : Q (kindW ts vs) s) : wpAny M A (keyKind' vs.toArray) Q E s := by
  unfold kindW at h
  by_cases c : vs.all (fun v => !(ts v).isEmpty) = true
  · rw [if_pos c] at h
    obtain ⟨fs, k1, k2, k3⟩ := katW vs hT fun v hv z => by
      have := List.all_eq_true.mp c v hv
      rw [z] at this
      cases this
    refine kat_kind (T := .type "int") k1 (by omega) (fun v hv => ?_) (by rfl) h
    obtain ⟨i, t, rfl⟩ := k3 v hv
    exact Looks.of_pure rfl
  · rw [if_neg c] at h
    obtain ⟨fs, k1, k2⟩ := firstsW (E := E) (A := A) (M := M) vs hT
    rw [← k1] at h
    rw [kat_kind_eq, List.mapM_toArray, map_eq_pure_bind]
    refine wpAny_bind (wpAny_bind (k2 _ (wpAny_pure ?_)))
    have c1 : ¬ (fs.toArray.all fun x => x.isSome) = true := fun z => c (by
      rw [List.all_toArray] at z
      have z' : (fs.map (·.isSome)).all id = true := by rw [List.all_map]; exact z
      rw [k1, List.all_map] at z'
      exact z')
    rw [if_neg c1]
    have e1 : ((fs.toArray[0]?).bind id).isSome = ((fs.map (·.isSome))[0]?).getD false := by
      cases fs with
      | nil => rfl
      | cons f r => cases f <;> rfl
    rw [e1]
    by_cases c2 : ((fs.map (·.isSome))[0]?).getD false = true
    · rw [if_pos c2] at h ⊢
      exact wpAny_pure h
    · rw [if_neg c2] at h ⊢
      rw [oneTypeOnly'_eq, List.mapM_toArray, map_eq_pure_bind]
      refine wpAny_bind (wpAny_bind (wpAny_bind (kas_mapM (r := Value.type "tuple") _ (fun v hv Q' hq => ?_) (wpAny_pure ?_))))
      · obtain ⟨a, xs, rfl, ⟨o, ho, hc, _⟩, _⟩ := hT v hv
        refine Looks.here (show Looks M s.heap (typeOf (.ref a)) o.cls from (Looks.ld ho).andThen .now) ?_
        rw [hc]
        exact hq
      · obtain ⟨v, l, rfl⟩ : ∃ v l, vs = v :: l := by
          match vs, h2 with
          | v :: l, _ => exact ⟨v, l, rfl⟩
        have a0 : (List.map (fun _ => Value.type "tuple") (v :: l)).toArray[0]? = some (Value.type "tuple") := by simp
        have a1 : ((List.map (fun _ => Value.type "tuple") (v :: l)).toArray.all fun x => x == Value.type "tuple") = true := by
          simp only [List.all_toArray, List.all_map, List.all_eq_true]
          intro _ _
          rfl
        rw [a0]
        simp only [a1, if_true]
        exact wpAny_pure (wpAny_pure h)
/-- the entries of a dict, whatever the keys -/
def RawD (h : Heap) (d : Addr) (es : Array DictEntry) (ep : Nat) : Prop := ∃ q, h.get? d = some q ∧ q.ExactDict ∧ q.data = .dict es ep
theorem RawD.at {h h' : Heap} {d : Addr} {es : Array DictEntry} {ep : Nat} (x : RawD h d es ep) (e : ∀ o, h.get? d = some o → h'.get? d = some o) : RawD h' d es ep := let ⟨q, a, b⟩ := x; ⟨q, e _ a, b⟩
theorem RawD.ty {d : Addr} {es : Array DictEntry} {ep : Nat} (x : RawD s.heap d es ep) : s.TypeIs (.ref d) "dict" := let ⟨q, a, b, _⟩ := x; ⟨q, a, b.1⟩
theorem raw_iter {d : Addr} {es : Array DictEntry} {ep : Nat} {Q : Value → Shared → Prop} (lo : (d == sysModules) = false) (hm : RawD s.heap d es ep)
    (hq : Q (.ref s.heap.objs.size) { s with heap := s.heap.push { cls := .type "dict_keyiterator", data := .fields #[.ref d, .int 0 0, .int es.size 0, .int ep 0] } }) : wpAny (model prog w) A (pyIter (.ref d)) Q E s := by
  obtain ⟨q, h1, h2, h3⟩ := id hm
  refine wpAny_pyIter_slot hm.ty PySem.F.slot_dict_iter (wpAny_call_entry PySem.F.slot_dict_iter hm.ty PySem.F.entry_dict_iter ?_ (PySem.F.args_dict_iter_1 _))
  unfold Builtin.«dict.__iter__» Builtin.Dict.dictSlotNone
  refine wpAny_bind (wpAny_bind (wpAny_notOrdered_dict hm.ty ?_))
  show wpAny _ _ (pure (Value.ref d)) _ _ s
  refine wpAny_pure ?_
  show wpAny _ _ (Builtin.Dict.showsAll d >>= _) _ _ s
  unfold Builtin.Dict.showsAll
  rw [if_neg (by rw [lo]; decide)]
  refine wpAny_bind (wpAny_pure (wpAny_bind (wpAny_dictEntries h1 h3 (wpAny_bind (wpAny_dictEpoch h1 h3 ?_)))))
  exact wpAny_bind (wpAny_newObj_type (wpAny_pure ⟨_, rfl, "dict_keyiterator", _, ⟨_, Heap.get?_push_size _ rfl, rfl⟩, PySem.F.slot_dict_keyiterator_next.lookup, hq⟩))
theorem raw_item {it d : Addr} {i ep : Nat} {es : Array DictEntry} {Q : Option Value → Shared → Prop} (hit : s.heap.IsKeyIter it d i es.size ep) (hm : RawD s.heap d es ep) (hi : i < es.size)
    (hQ : ∀ h', h'.IsKeyIter it d (i + 1) es.size ep → Heap.SameBut it s.heap h' → Q (some es[i].key) { s with heap := h' }) : wpAny (model prog w) A (pyNext (.ref it)) Q E s := by
  obtain ⟨o, g1, g2, g3⟩ := id hit
  obtain ⟨q, h1, h2, h3⟩ := id hm
  unfold pyNext
  refine wpAny_bind (wpAny_attempt (wpAny_callSpecial?_slot (name := Str.ofString "__next__") hit.typeIs PySem.F.slot_dict_keyiterator_next (wpAny_call_entry PySem.F.slot_dict_keyiterator_next hit.typeIs PySem.F.entry_dict_keyiterator_next ?_ (PySem.F.args_dict_keyiterator_next_1 _))))
  refine wpAny_bind (wpAny_pure (wpAny_bind (wpAny_bind ?_)))
  first | refine wpAny_bind (wpAny_typeNameOfWhole_keyiter hit.typeIs (wpAny_pure (wpAny_bind (wpAny_fieldsOf g1 g3 ?_)))) | refine wpAny_bind (wpAny_typeNameOf_keyiter hit.typeIs (wpAny_pure (wpAny_bind (wpAny_fieldsOf g1 g3 ?_))))
  have own : Builtin.Dict_items.ownsTuple "dict_keyiterator" = false := by decide
  simp only [own, Bool.false_eq_true, if_false]
  show wpAny _ _ (if (Value.ref d == Value.none) = true then _ else _) _ _ s
  rw [if_neg (fun z : (Value.ref d == Value.none) = true => Bool.false_ne_true z)]
  refine wpAny_bind (wpAny_pure (wpAny_bind (wpAny_dictEntries h1 h3 ?_)))
  rw [if_neg (by simp)]
  refine wpAny_bind (wpAny_pure (wpAny_bind (wpAny_dictEpoch h1 h3 ?_)))
  rw [if_neg (by simp)]
  refine wpAny_pure ?_
  simp only [show ¬ ((i : Int) < 0) from Int.not_lt.mpr (Int.natCast_nonneg i), if_false, Int.toNat_natCast, Array.getElem?_eq_getElem hi]
  refine wpAny_bind ?_
  first | refine wpAny_bind (wpAny_typeNameOfWhole_keyiter hit.typeIs (wpAny_pure (wpAny_bind (wpAny_isOneOf_keyiter hit.typeIs ?_)))) | refine wpAny_bind (wpAny_typeNameOf_keyiter hit.typeIs (wpAny_pure (wpAny_bind (wpAny_isOneOf_keyiter hit.typeIs ?_))))
  show wpAny _ _ (setField (.ref it) 1 (rawInt ((i : Int) + 1)) >>= _) _ _ s
  refine wpAny_bind (wpAny_setField g1 g3 (by simp) ?_)
  have nx : (s.heap.update it (Obj.mapFields (·.setIfInBounds 1 (rawInt ((i : Int) + 1))))).IsKeyIter it d (i + 1) es.size ep :=
    ⟨_, Heap.get?_update_self _ g1 (Obj.isFreed_of_fields (Obj.data_mapFields g3 _)), (Obj.cls_mapFields ..).trans g2, by rw [Obj.data_mapFields g3]; simp [rawInt]⟩
  refine wpAny_bind (wpAny_holding (wpAny_bind (wpAny_isOneOf_keyiter (s := { s with heap := s.heap.update it (Obj.mapFields (·.setIfInBounds 1 (rawInt ((i : Int) + 1)))) }) nx.typeIs ?_)))
  show wpAny _ _ (pure es[i].key) _ _ _
  exact wpAny_pure (wpAny_pure ⟨_, rfl, wpAny_pure (hQ _ nx (Heap.SameBut.update ..))⟩)
theorem raw_end {it d : Addr} {i ep : Nat} {es : Array DictEntry} {Q : Option Value → Shared → Prop} (hh : A.handled = none) (hit : s.heap.IsKeyIter it d i es.size ep) (hm : RawD s.heap d es ep) (hi : es.size ≤ i)
    (hQ : ∀ h', Heap.ExtBut it s.heap h' → Q none { s with heap := h' }) : wpAny (model prog w) A (pyNext (.ref it)) Q E s := by
  obtain ⟨o, g1, g2, g3⟩ := id hit
  obtain ⟨q, h1, h2, h3⟩ := id hm
  unfold pyNext
  refine wpAny_bind (wpAny_attempt (wpAny_callSpecial?_slot (name := Str.ofString "__next__") hit.typeIs PySem.F.slot_dict_keyiterator_next (wpAny_call_entry PySem.F.slot_dict_keyiterator_next hit.typeIs PySem.F.entry_dict_keyiterator_next ?_ (PySem.F.args_dict_keyiterator_next_1 _))))
  refine wpAny_bind (wpAny_pure (wpAny_bind (wpAny_bind ?_)))
  first | refine wpAny_bind (wpAny_typeNameOfWhole_keyiter hit.typeIs (wpAny_pure (wpAny_bind (wpAny_fieldsOf g1 g3 ?_)))) | refine wpAny_bind (wpAny_typeNameOf_keyiter hit.typeIs (wpAny_pure (wpAny_bind (wpAny_fieldsOf g1 g3 ?_))))
  have own : Builtin.Dict_items.ownsTuple "dict_keyiterator" = false := by decide
  simp only [own, Bool.false_eq_true, if_false]
  show wpAny _ _ (if (Value.ref d == Value.none) = true then _ else _) _ _ s
  rw [if_neg (fun z : (Value.ref d == Value.none) = true => Bool.false_ne_true z)]
  refine wpAny_bind (wpAny_pure (wpAny_bind (wpAny_dictEntries h1 h3 ?_)))
  rw [if_neg (by simp)]
  refine wpAny_bind (wpAny_pure (wpAny_bind (wpAny_dictEpoch h1 h3 ?_)))
  rw [if_neg (by simp)]
  refine wpAny_pure ?_
  simp only [show ¬ ((i : Int) < 0) from Int.not_lt.mpr (Int.natCast_nonneg i), if_false, Int.toNat_natCast, Array.getElem?_eq_none hi]
  refine wpAny_bind ?_
  first | refine wpAny_bind (wpAny_typeNameOfWhole_keyiter hit.typeIs (wpAny_pure ?_)) | refine wpAny_bind (wpAny_typeNameOf_keyiter hit.typeIs (wpAny_pure ?_)) | skip
  show wpAny _ _ (setField (.ref it) 0 .none >>= _) _ _ s
  refine wpAny_bind (wpAny_setField g1 g3 (by simp) ?_)
  show wpAny _ _ (newExc (.type "StopIteration") [] >>= _) _ _ _
  refine wpAny_bind ?_
  simp only [newExc, newTuple]
  refine wpAny_bind (wpAny_newObj_type (wpAny_bind (m := firstArgMember _ _) (wpAny_of_eq (a := Value.none) (by first | rfl | (simp only [firstArgMember]; rfl)) (wpAny_newObj_type ?_ (by size_fits)))) (by size_fits))
  simp only [raiseNew]
  refine wpAny_bind (wpAny_handled ?_)
  rw [show A.in1.handled = none from hh]
  refine wpAny_bind (wpAny_pure (wpAny_throw ?_))
  refine wpAny_bind (wpAny_isInstance (b := true) (T := "StopIteration") ⟨_, Heap.get?_push_size _ rfl, rfl⟩ isSubtype_stop ?_)
  exact wpAny_pure (hQ _ (((Heap.SameBut.update ..).extBut.push _).push _))
theorem raw_walks (hh : A.handled = none) (I d : Addr) (hne : d ≠ I) (es : Array DictEntry) (ep : Nat) :
    Walks prog w A I [I, d] [I] es.size (fun i v => ∃ e, es[i]? = some e ∧ v = e.key) (fun i h => h.IsKeyIter I d i es.size ep ∧ RawD h d es ep) where
  sub := fun b hb => by simp at hb; simp [hb]
  frame := fun _ _ _ z hk => ⟨z.1.at fun o e => hk I (by simp) o e, z.2.at fun o e => hk d (by simp) o e⟩
  item := fun i s Q E hi z hQ => raw_item z.1 z.2 hi fun h' g1 g2 => hQ _ h' s.toks ⟨_, Array.getElem?_eq_getElem hi, rfl⟩ ⟨g1, z.2.at fun o e => g2.extBut d o hne e⟩ fun b o hb e => g2.extBut b o (fun h => hb (by simp [h])) e
  done := fun s Q E z hQ => raw_end hh z.1 z.2 (Nat.le_refl _) fun h' he => hQ h' s.toks fun b o hb e => he b o (fun h => hb (by simp [h])) e
  self := fun _ _ _ _ z hQ => wpAny_pyIter_keyiter z.1 hQ
theorem raw_src {d : Addr} {es : Array DictEntry} {ep : Nat} (lo : (d == sysModules) = false) : KdlSrc prog w "dict" d d es.size (fun i v => ∃ e, es[i]? = some e ∧ v = e.key) (fun h => RawD h d es ep) where
  type := fun _ hm => hm.ty
  there := fun _ ⟨_, a, _⟩ => ⟨Heap.lt_size a, Heap.lt_size a⟩
  keep := fun _ _ hm hk => hm.at fun o e => hk d (.inl rfl) o e
  notList := by decide
  notTuple := by decide
  hint := fun _ _ _ _ hm hq => kdl_hint_dict hm.ty hq
  iter := fun _ _ hh hm => ⟨_, _, (fun _ _ hq => raw_iter lo hm hq), raw_walks hh _ d (Nat.ne_of_lt (let ⟨_, a, _⟩ := hm; Heap.lt_size a)) es ep, ⟨⟨_, Heap.get?_push_size _ rfl, rfl, rfl⟩, hm.at fun o e => Heap.get?_push_of_some _ e⟩⟩
/-- sorted(a dict by tuples of whole numbers) -/
theorem sorted_dW {d : Addr} {es : Array DictEntry} {ep : Nat} {ts : Value → List Int} {Q : Value → Shared → Prop} (hu : A.units + 64 < cLine) (hh : A.handled = none) (lo : (d == sysModules) = false) (hm : RawD s.heap d es ep) (hz : es.size ≤ sizeLine)
    (hT : ∀ e ∈ es.toList, TupW s.heap e.key (ts e.key))
    (h : ∀ (hF : Heap) (tk : Nat) (l : Addr) (n : Nat) (out : List Value), (∀ b o, s.heap.get? b = some o → hF.get? b = some o) → (∃ h1 : Heap, (∀ b o, s.heap.get? b = some o → h1.get? b = some o) ∧ h1.objs.size ≤ l) → hF.get? l = some (seqObj "list" out.toArray n) → out.Perm (es.toList.map (·.key)) → (out.Pairwise fun x y => HT.lexLt (ts y) (ts x) = false) →
      Q (.ref l) { s with heap := hF, toks := tk }) : wpAny (model prog w) A (call (.builtin "sorted") [.ref d]) Q E s := by
  refine Calls.call_function_entry kind_sorted plain_sorted entry_sorted (args_sorted1 _) ?_
  unfold Builtin.«sorted»
  refine wpAny_bind (m := checkCount "sorted" 1 1 _) (wpAny_pure (wpAny_bind (kdu_collect (A := A.in1) (raw_src (ep := ep) (es := es) lo) (show A.in1.handled = none from hh) hm hz fun h' tk acc k1 hacc => ?_)))
  have ea : acc.toList = es.toList.map (·.key) := by
    apply List.ext_getElem?
    intro j
    rw [List.getElem?_map, Array.getElem?_toList, Array.getElem?_toList]
    cases ej : acc[j]? with
    | none =>
      have := Array.getElem?_eq_none_iff.mp ej
      rw [Array.getElem?_eq_none (by rw [← hacc.1]; exact this)]
      rfl
    | some v =>
      obtain ⟨e, h1, h2⟩ := hacc.2 j v ej
      rw [h1, h2]
      rfl
  have lz : acc.toList.length ≤ sizeLine := by rw [ea, List.length_map, Array.length_toList]; exact hz
  have hT1 : ∀ v ∈ acc.toList, TupW s.heap v (ts v) := fun v hv => by
    rw [ea] at hv
    obtain ⟨e, he, rfl⟩ := List.mem_map.mp hv
    exact hT e he
  generalize acc.toList = vs at *
  refine wpAny_bind (wpAny_newList ?_ lz)
  have oL : (h'.push (seqObj "list" vs.toArray 0)).get? h'.objs.size = some (seqObj "list" vs.toArray 0) := Heap.get?_push_size _ rfl
  have up : ∀ h6 : Heap, (∀ b o, b ≠ h'.objs.size → (h'.push (seqObj "list" vs.toArray 0)).get? b = some o → h6.get? b = some o) → ∀ v t, TupW s.heap v t → TupW h6 v t := fun h6 k6 v t z => z.keep fun b o hb _ => k6 b o (Nat.ne_of_lt (Heap.lt_size (k1 b o hb))) (Heap.get?_push_of_some _ (k1 b o hb))
  show wpAny _ _ _ _ _ { s with heap := h'.push (seqObj "list" vs.toArray 0), toks := tk }
  refine wpAny_bind (wpAny_holding (wpAny_call_entry slot_list_sort ⟨_, oL, rfl⟩ entry_list_sort (list_sort_g (κ := kindW ts vs) (P := fun v => TupW s.heap v (ts v)) (lt := fun x y => HT.lexLt (ts x) (ts y)) oL lz (fun h6 k6 h2 Q' hq => ?_) (fun h6 k6 => ?_) (totW ts) hT1 fun out a1 a2 => ⟨_, rfl, wpAny_pure ⟨_, rfl, ?_⟩⟩) (args_list_sort _)))
  · exact kind_of h2 (fun v hv => up h6 k6 v _ (hT1 v hv)) hq
  · refine goodW (kindW_is ts vs) ?_ ts (up h6 k6)
    simp only [units_in1]
    omega
  obtain ⟨e, he⟩ := sortedHeap_at (h := h'.push (seqObj "list" vs.toArray 0)) (a := h'.objs.size) (vs := vs) (out := out) oL
  refine h _ tk h'.objs.size e out.toList (fun b o hb => ?_) ⟨h', k1, Nat.le_refl _⟩ (by rw [Array.toArray_toList]; exact he) (by rw [← ea]; exact a1) a2
  have hlt := Heap.lt_size (k1 b o hb)
  rw [sortedHeap_old (Nat.ne_of_lt hlt) (by rw [size_push']; exact Nat.lt_succ_of_lt hlt)]
  exact Heap.get?_push_of_some _ (k1 b o hb)
end
end TS
namespace TS
open PySem PySem.W PyProof.Rows
theorem ints_inj : ∀ {vs : List Value} {t u : List Int}, IntsAre vs t → IntsAre vs u → t = u
  | _, _, _, .nil, .nil => rfl
  | _, _, _, .cons a t r, .cons _ _ r' => by rw [ints_inj r r']
theorem TupW.inj {h : Heap} {v : Value} {t u : List Int} (x : TupW h v t) (y : TupW h v u) : t = u := by
  obtain ⟨a, xs, rfl, ⟨o, ho, _, n, hd⟩, hi⟩ := x
  obtain ⟨b, ys, e, ⟨o', ho', _, n', hd'⟩, hj⟩ := y
  cases e
  rw [ho] at ho'
  cases ho'
  rw [hd] at hd'
  cases hd'
  exact ints_inj hi hj
open Classical in
noncomputable def tsOfW (h : Heap) (v : Value) : List Int := if q : ∃ u, TupW h v u then q.choose else []
theorem tsOfW_eq {h : Heap} {v : Value} {u : List Int} (x : TupW h v u) : tsOfW h v = u := by
  unfold tsOfW
  have q : ∃ u, TupW h v u := ⟨u, x⟩
  rw [dif_pos q]
  exact q.choose_spec.inj x
end TS
namespace L2
open PySem PySem.Spec PyProof.Rows
/-- a way, a tuple of whole numbers -/
def WayAt (H : Hp) (z : V) (v : List Int) : Prop := ∃ a, z = .ref a ∧ H a = some (.tup (v.map V.int))
theorem pair_get {α β : Type} {R : α → β → Prop} : ∀ {l : List α} {m : List β}, Paired R l m → ∀ {i : Nat} {x : α}, l[i]? = some x → ∃ y, m[i]? = some y ∧ R x y
  | _, _, .nil, _, _, h => by simp at h
  | _, _, .cons r _, 0, _, h => by cases h; exact ⟨_, rfl, r⟩
  | _, _, .cons _ t, i + 1, _, h => pair_get t (i := i) (by simpa using h)
abbrev wkey (v : List Int) : List Key := v.map Sum.inl
theorem wkey_kV (v : List Int) : (wkey v).map kV = v.map V.int := by rw [List.map_map]; rfl
theorem wkey_inj {u v : List Int} (h : wkey u = wkey v) : u = v := by
  have := congrArg (List.map kV) h
  rw [wkey_kV, wkey_kV] at this
  exact List.map_inj_right (fun x y e => V.int.inj e) |>.mp this
theorem vals_intsW : ∀ {t : List Int} {us : List Value}, Vals (t.map V.int) us → IntsAre us t
  | [], _, r => by rw [List.map_nil] at r; cases r; exact .nil
  | i :: t, _, r => by
    rw [List.map_cons] at r
    cases r with
    | cons h rr =>
      obtain ⟨k, rfl⟩ := h
      exact .cons i k (vals_intsW rr)
section
variable {X : Cx}
/-- sorted(d) of a dict by tuples of whole numbers -/
theorem call_sortedD (hc : X.calm = true) (hu : X.A.units + 64 < cLine) : CallR X (.builtin "sorted") (fun xs H Q => ∃ (d : Addr) (ks : List (List Int × V)), xs = [.ref d] ∧ H d = some (.dT (ks.map fun p => (wkey p.1, p.2))) ∧
    ∀ (l : Addr) (zs : List V) (vs : List (List Int)), H l = none → Paired (WayAt H) zs vs → vs.Perm (ks.map (·.1)) → (vs.Pairwise fun x y => HT.lexLt y x = false) → Q (.ref l) (upd H l (.lst zs))) := by
  intro pins s σ H xs us Q I r h
  obtain ⟨d, ks, rfl, hd, q⟩ := h
  obtain ⟨u, rfl, rx⟩ := vals1 r
  cases rx
  obtain ⟨z, lo, xs, rel, o, es, ep, g1, g2, g3, g4, g5, _⟩ := dt_of I.hok hd
  have key : ∀ (ks : List (List Int × V)) (xs : List (List Key × Addr × Value)), KT H (ks.map fun p => (wkey p.1, p.2)) xs → Paired (WayAt H) (xs.map fun x => V.ref x.2.1) (ks.map (·.1)) := by
    intro ks
    induction ks with
    | nil => intro xs r; cases r; exact .nil
    | cons p ks ih =>
      intro xs r
      rw [List.map_cons] at r
      cases r with
      | cons h t =>
        rw [List.map_cons, List.map_cons]
        refine .cons ⟨_, rfl, ?_⟩ (ih _ t)
        rw [← wkey_kV]
        exact h.2.1
  have kw := key ks xs rel
  have tup : ∀ a v, H a = some (.tup (v.map V.int)) → TS.TupW s.heap (.ref a) v := fun a v e => by
    obtain ⟨its, r1, p1, _⟩ := I.tuple (X := X) (.inl (.inl e))
    exact ⟨a, its.toArray, rfl, p1, by simpa using vals_intsW r1⟩
  have hw : ∀ x ∈ xs, ∃ v : List Int, H x.2.1 = some (.tup (v.map V.int)) := fun x hx => by
    obtain ⟨j, hj⟩ := List.mem_iff_getElem?.mp hx
    obtain ⟨v, _, a, ea, h1⟩ := pair_get kw (i := j) (x := V.ref x.2.1) (by rw [List.getElem?_map, hj]; rfl)
    cases ea
    exact ⟨v, h1⟩
  have ek : es.toList.map (·.key) = xs.map fun x => Value.ref x.2.1 := by
    rw [g4, List.map_map]
    rfl
  have esz : es.size = ks.length := by
    rw [← Array.length_toList, g4, List.length_map, ← Paired.length rel, List.length_map]
  rw [List.length_map] at z
  refine TS.sorted_dW (ts := TS.tsOfW s.heap) (es := es) (ep := ep) hu (I.ok.hd hc) lo ⟨o, g1, g2, g3⟩ (by rw [esz]; exact z) (fun e he => ?_) fun hF tk l n out k1 hl hL hp ho => ?_
  · have : e.key ∈ xs.map fun x => Value.ref x.2.1 := by rw [← ek]; exact List.mem_map_of_mem he
    obtain ⟨x, hx, ex⟩ := List.mem_map.mp this
    obtain ⟨v, hv⟩ := hw x hx
    rw [← ex, TS.tsOfW_eq (tup _ _ hv)]
    exact tup _ _ hv
  rw [ek] at hp
  have hlH : H l = none := by
    cases q : H l with
    | none => rfl
    | some v =>
      obtain ⟨h1, k1, l1⟩ := hl
      exact absurd ((I.hok l v q).stay (H' := H) (fun c u _ z => k1 c u z) (fun c z => z) fun c ys z => z).lt (Nat.not_lt_of_le l1)
  have hou : ∀ v ∈ out, WayAt H (absR v) (TS.tsOfW s.heap v) ∧ RelV (absR v) v := fun v hv => by
    obtain ⟨x, hx, rfl⟩ := List.mem_map.mp (hp.mem_iff.mp hv)
    obtain ⟨t, ht⟩ := hw x hx
    rw [TS.tsOfW_eq (tup _ _ ht)]
    exact ⟨⟨_, rfl, ht⟩, rfl⟩
  have tk1 : xs.map (fun x => TS.tsOfW s.heap (Value.ref x.2.1)) = ks.map (·.1) := by
    apply List.ext_getElem?
    intro j
    rw [List.getElem?_map]
    cases ej : xs[j]? with
    | none =>
      have hl2 := Paired.length kw
      rw [List.length_map] at hl2
      rw [List.getElem?_eq_none (by rw [← hl2]; exact List.getElem?_eq_none_iff.mp ej)]
      rfl
    | some x =>
      obtain ⟨v, e1, a, ea, h1⟩ := pair_get kw (i := j) (x := V.ref x.2.1) (by rw [List.getElem?_map, ej]; rfl)
      cases ea
      rw [e1]
      exact congrArg some (TS.tsOfW_eq (tup _ _ h1))
  have hol : out.length = ks.length := by rw [hp.length_eq, List.length_map, ← Paired.length rel, List.length_map]
  refine ⟨.ref l, upd H l (.lst (out.map absR)), I.laidM (t' := tk) k1 (fun b u e => ?_) (fun b u hb hn => ?_) (fun b u e hn => ?_), rfl, q l (out.map absR) (out.map (TS.tsOfW s.heap)) hlH ?_ ?_ ?_⟩
  · rw [upd_ne (ne_of_none e hlH)]
    exact e
  · obtain ⟨h1, k2, l1⟩ := hl
    rw [upd_ne (fun z => by rw [z] at hb; exact absurd (Heap.lt_size (k2 _ _ hb)) (Nat.not_lt_of_le l1))]
    exact hn
  · by_cases c : b = l
    · subst c
      rw [upd_same] at e
      cases e
      refine ⟨by rw [List.length_map, hol]; exact z, out, _, ?_, hL⟩
      have zz := paired_map (R := RelV) (f := absR) (g := id) out fun v hv => (hou v hv).2
      rw [List.map_id] at zz
      exact zz
    · rw [upd_ne c, hn] at e
      cases e
  · exact paired_map out fun v hv => (hou v hv).1
  · rw [← tk1]
    have := hp.map (TS.tsOfW s.heap)
    rw [List.map_map] at this
    exact this
  · rw [List.pairwise_map]
    exact ho
end
end L2
namespace My
open PySem L2

def top (i : Nat) : Stmt := PySem.Challenge.pw_manyleast_k50_falls_by_ways.main.body.getD i (.Pass ⟨0, 0, 0, 0⟩)
abbrev s_ahead : Stmt := top 4
abbrev s_crossed : Stmt := top 5
abbrev s_many_worths : Stmt := top 7
abbrev s_top_of : Stmt := top 8
abbrev s_where : Stmt := top 9
abbrev s_tree_of : Stmt := top 11
abbrev s_grown : Stmt := top 12
abbrev s_half_of : Stmt := top 13
abbrev s_led_stretch : Stmt := top 15
abbrev s_falls_by_ways : Stmt := top 17
abbrev s_falls_from : Stmt := top 18
abbrev s__law_pen : Stmt := top 20
abbrev s__law_mixed : Stmt := top 21
abbrev s__law_take : Stmt := top 22
abbrev s__law_bounds : Stmt := top 23
abbrev s__law_row : Stmt := top 24
abbrev s__law_tree : Stmt := top 25
abbrev s__law_plain : Stmt := top 26
abbrev s__law_is : Stmt := top 27
abbrev s__law_way : Stmt := top 28
abbrev s__law_due : Stmt := top 29
abbrev s__law_right : Stmt := top 30
abbrev s_law : Stmt := top 31
theorem sc_ahead : FnScope ["marks", "mark", "place"] ["marks", "mark", "place"] (defScope s_ahead) := ⟨rfl, rfl, rfl, by decide +kernel, rfl, by decide +kernel, by decide +kernel⟩
theorem sc_crossed : FnScope ["marks", "start", "end", "ones", "pairs", "place"] ["marks", "start", "end"] (defScope s_crossed) := ⟨rfl, rfl, rfl, by decide +kernel, rfl, by decide +kernel, by decide +kernel⟩
theorem sc_many_worths : FnScope ["levels", "many", "level"] ["levels"] (defScope s_many_worths) := ⟨rfl, rfl, rfl, by decide +kernel, rfl, by decide +kernel, by decide +kernel⟩
theorem sc_top_of : FnScope ["bounds"] ["bounds"] (defScope s_top_of) := ⟨rfl, rfl, rfl, by decide +kernel, rfl, by decide +kernel, by decide +kernel⟩
theorem sc_where : FnScope ["bounds", "number"] ["bounds", "number"] (defScope s_where) := ⟨rfl, rfl, rfl, by decide +kernel, rfl, by decide +kernel, by decide +kernel⟩
theorem sc_tree_of : FnScope ["bounds", "row", "number"] ["bounds", "row"] (defScope s_tree_of) := ⟨rfl, rfl, rfl, by decide +kernel, rfl, by decide +kernel, by decide +kernel⟩
theorem sc_grown : FnScope ["least", "many", "row", "half", "middle", "marks", "lower", "upper"] ["least", "many", "row"] (defScope s_grown) := ⟨rfl, rfl, rfl, by decide +kernel, rfl, by decide +kernel, by decide +kernel⟩
theorem sc_half_of : FnScope ["tree", "mark"] ["tree", "mark"] (defScope s_half_of) := ⟨rfl, rfl, rfl, by decide +kernel, rfl, by decide +kernel, by decide +kernel⟩
theorem sc_led_stretch : FnScope ["stretch", "way", "part", "start", "end", "turn", "half"] ["stretch", "way"] (defScope s_led_stretch) := ⟨rfl, rfl, rfl, by decide +kernel, rfl, by decide +kernel, by decide +kernel⟩
theorem sc_falls_by_ways : FnScope ["stretch"] ["stretch"] (defScope s_falls_by_ways) := ⟨rfl, rfl, rfl, by decide +kernel, rfl, by decide +kernel, by decide +kernel⟩
theorem sc_falls_from : FnScope ["stretch", "way", "own", "found", "turn"] ["stretch", "way"] (defScope s_falls_from) := ⟨rfl, rfl, rfl, by decide +kernel, rfl, by decide +kernel, by decide +kernel⟩
theorem sc__law_pen : FnScope ["_law_script", "_law_k", "_law_cell"] ["_law_script", "_law_k"] (defScope s__law_pen) := ⟨rfl, rfl, rfl, by decide +kernel, rfl, by decide +kernel, by decide +kernel⟩
theorem sc__law_mixed : FnScope ["_law_pen_here", "_law_number"] ["_law_pen_here"] (defScope s__law_mixed) := ⟨rfl, rfl, rfl, by decide +kernel, rfl, by decide +kernel, by decide +kernel⟩
theorem sc__law_take : FnScope ["_law_pen_here", "_law_size", "_law_found", "_law_wide"] ["_law_pen_here", "_law_size"] (defScope s__law_take) := ⟨rfl, rfl, rfl, by decide +kernel, rfl, by decide +kernel, by decide +kernel⟩
theorem sc__law_bounds : FnScope ["_law_pen_here", "_law_levels", "_law_way_here", "_law_low"] ["_law_pen_here"] (defScope s__law_bounds) := ⟨rfl, rfl, rfl, by decide +kernel, rfl, by decide +kernel, by decide +kernel⟩
theorem sc__law_row : FnScope ["_law_pen_here", "_law_bounds_here", "_law_longest", "_law_low", "_law_levels", "_law_size", "_law_way_here", "_law_few", "_law_row_here", "_law_k", "_law_spot"] ["_law_pen_here", "_law_bounds_here", "_law_longest"] (defScope s__law_row) := ⟨rfl, rfl, rfl, by decide +kernel, rfl, by decide +kernel, by decide +kernel⟩
theorem sc__law_tree : FnScope ["_law_low", "_law_levels", "_law_row_here", "_law_half", "_law_marks", "_law_lower"] ["_law_low", "_law_levels", "_law_row_here"] (defScope s__law_tree) := ⟨rfl, rfl, rfl, by decide +kernel, rfl, by decide +kernel, by decide +kernel⟩
theorem sc__law_plain : FnScope ["_law_thing"] ["_law_thing"] (defScope s__law_plain) := ⟨rfl, rfl, rfl, by decide +kernel, rfl, by decide +kernel, by decide +kernel⟩
theorem sc__law_is : FnScope ["_law_found", "_law_bounds_here", "_law_row_here"] ["_law_found", "_law_bounds_here", "_law_row_here"] (defScope s__law_is) := ⟨rfl, rfl, rfl, by decide +kernel, rfl, by decide +kernel, by decide +kernel⟩
theorem sc__law_way : FnScope ["_law_bounds_here", "_law_one", "_law_other", "_law_low", "_law_levels", "_law_way_here", "_law_half", "_law_marks"] ["_law_bounds_here", "_law_one", "_law_other"] (defScope s__law_way) := ⟨rfl, rfl, rfl, by decide +kernel, rfl, by decide +kernel, by decide +kernel⟩
theorem sc__law_due : FnScope ["_law_bounds_here", "_law_row_here", "_law_found", "_law_k", "_law_j", "_law_way_here"] ["_law_bounds_here", "_law_row_here"] (defScope s__law_due) := ⟨rfl, rfl, rfl, by decide +kernel, rfl, by decide +kernel, by decide +kernel⟩
theorem sc__law_right : FnScope ["_law_stretch", "_law_due_here", "_law_turn", "_law_found"] ["_law_stretch", "_law_due_here"] (defScope s__law_right) := ⟨rfl, rfl, rfl, by decide +kernel, rfl, by decide +kernel, by decide +kernel⟩
theorem sc_law : FnScope ["_law_script", "_law_pen_here", "_law_bounds_here", "_law_row_here", "_law_tree_here", "_law_many", "_law_spots", "_law_k", "_law_start", "_law_end"] ["_law_script"] (defScope s_law) := ⟨rfl, rfl, rfl, by decide +kernel, rfl, by decide +kernel, by decide +kernel⟩
structure Bz (mg : Str → Option Value) : Prop where
  bool_ : mg "bool" = none
  int_ : mg "int" = none
  isinstance_ : mg "isinstance" = none
  len_ : mg "len" = none
  list_ : mg "list" = none
  max_ : mg "max" = none
  min_ : mg "min" = none
  range_ : mg "range" = none
  sorted_ : mg "sorted" = none
  str_ : mg "str" = none
  tuple_ : mg "tuple" = none
def Wths (low : Int) (L : Nat) (ns : List Int) : Prop := ∀ x ∈ ns, low ≤ x ∧ x < low + 2 ^ L
theorem Wths.snoc {low : Int} {L : Nat} {ns : List Int} {y : Int} (h : Wths low L ns) (h0 : low ≤ y) (h1 : y < low + 2 ^ L) : Wths low L (ns ++ [y]) := fun x hx => by
  rcases List.mem_append.mp hx with h' | h'
  · exact h x h'
  · cases List.mem_singleton.mp h'
    exact ⟨h0, h1⟩

abbrev k_many_worths : Nat := 1
def sp_many_worths (_ : PySem.W.Frag) : Sp := fun vs H Q _ => ∃ L : Nat, vs = [.int (L : Int)] ∧ L ≤ 40 ∧ Q (.int (2 ^ L)) H
abbrev k_top_of : Nat := 2
def sp_top_of (K : PySem.W.Frag) : Sp := fun vs H Q _ => ∃ (b : Addr) (low : Int) (L : Nat), vs = [.ref b] ∧ SqT K H b [.int low, .int (L : Int)] ∧ L ≤ 40 ∧ Q (.int (low + 2 ^ L - 1)) H
section
variable {P : Program} {w : World} {K : PySem.W.Frag} {mg : Str → Option Value} {base : Heap}
theorem ok_many_worths (d : Def K mg "many_worths" s_many_worths ["levels"]) (z : Bz mg)  : Cal P w K mg base k_many_worths "many_worths" ["levels"] (sp_many_worths K) := by
  have sc := sc_many_worths
  refine d.cal fun f fd F => F.ok sc (fun vs H Q E h => ?_) (fun cdv A outer s H vs Q E hr h => ?_)
  · obtain ⟨L, rfl, _⟩ := h
    rfl
  obtain ⟨L, rfl, hL, q⟩ := h
  refine ⟨_, (pss_cons (ps_set (i := 1) sc.nd rfl (Or.inl rfl) pe_int)
 (pss_cons (ps_for PassesOwn.never rfl (pi_range1 rfl z.range_ (pa_cons (pv 0) pa_nil)) (pg_name (i := 2) sc.nd rfl (Or.inl rfl))
  (pss_one (ps_set (i := 1) sc.nd rfl (Or.inl rfl) (pe_op op_mul (pv 1) pe_int))))
 (pss_one (ps_ret (pv 1))))), ?_⟩
  refine ⟨_, rfl, (L : Int), rfl, by omega, by omega, for_range (n := L) (fun i σ H2 => ∃ v : Option V, σ = [some (.int (L : Int)), some (.int (2 ^ i)), v] ∧ H2 = H) ⟨none, rfl, rfl⟩ ?_ ?_⟩
  · rintro i σ H2 hi ⟨v, rfl, rfl⟩
    refine ⟨_, rfl, _, _, rfl, rfl, .inr ⟨by decide, by decide⟩, ?_⟩
    exact ⟨_, by rw [Int.pow_succ]; rfl, rfl⟩
  · rintro σ H2 ⟨v, rfl, rfl⟩
    exact ⟨_, rfl, q⟩
theorem ok_top_of (d : Def K mg "top_of" s_top_of ["bounds"]) (z : Bz mg) (c_many_worths : Cal P w K mg base k_many_worths "many_worths" ["levels"] (sp_many_worths K)) : Cal P w K mg base k_top_of "top_of" ["bounds"] (sp_top_of K) := by
  have sc := sc_top_of
  refine d.cal fun f fd F => F.ok sc (fun vs H Q E h => ?_) (fun cdv A outer s H vs Q E hr h => ?_)
  · obtain ⟨b, low, L, rfl, _⟩ := h
    rfl
  obtain ⟨b, low, L, rfl, hb, hL, q⟩ := h
  refine ⟨_, (pss_one (ps_ret (pe_op op_sub (pe_op op_add (pe_ix ix_tup (pv 0) pe_int (fun _ _ => rfl)) (pe_fn c_many_worths (hr.mono (by decide)) (by rfl) (pa_cons (pe_ix ix_tup (pv 0) pe_int (fun _ _ => rfl)) pa_nil))) pe_int))), ?_⟩
  exact ⟨_, rfl, b, _, _, _, rfl, rfl, hb, rfl, _, rfl, b, _, _, _, rfl, rfl, hb, rfl, L, rfl, hL, _, _, rfl, rfl, _, _, rfl, rfl, q⟩
end

abbrev k_where : Nat := 3
def whereS (low : Int) (L : Nat) (n : Int) : Str := if n < low then "below" else if low + 2 ^ L - 1 < n then "above" else "within"
theorem whereS_in {low n : Int} {L : Nat} (h : low ≤ n ∧ n < low + 2 ^ L) : whereS low L n = "within" := by
  unfold whereS
  rw [if_neg (by omega), if_neg (by omega)]
def sp_where (K : PySem.W.Frag) : Sp := fun vs H Q _ => ∃ (b : Addr) (low n : Int) (L : Nat), vs = [.ref b, .int n] ∧ SqT K H b [.int low, .int (L : Int)] ∧ L ≤ 40 ∧ Q (.str (whereS low L n)) H
section
variable {P : Program} {w : World} {K : PySem.W.Frag} {mg : Str → Option Value} {base : Heap}
theorem ok_where (d : Def K mg "where" s_where ["bounds", "number"]) (z : Bz mg) (c_top_of : Cal P w K mg base k_top_of "top_of" ["bounds"] (sp_top_of K)) : Cal P w K mg base k_where "where" ["bounds", "number"] (sp_where K) := by
  have sc := sc_where
  refine d.cal fun f fd F => F.ok sc (fun vs H Q E h => ?_) (fun cdv A outer s H vs Q E hr h => ?_)
  · obtain ⟨b, low, n, L, rfl, _⟩ := h
    rfl
  obtain ⟨b, low, n, L, rfl, hb, hL, q⟩ := h
  refine ⟨_, (pss_cons (ps_if (pt_cmpR op_lt (pv 1) (pe_ix ix_tup (pv 0) pe_int (fun _ _ => rfl)) (nomark _))
  (pss_one (ps_ret pe_str))
  pss_nil)
 (pss_cons (ps_if (pt_cmpR op_gt (pv 1) (pe_fn c_top_of (hr.mono (by decide)) (by rfl) (pa_cons (pv 0) pa_nil)) (nomark _))
  (pss_one (ps_ret pe_str))
  pss_nil)
 (pss_one (ps_ret pe_str)))), ?_⟩
  unfold whereS at q
  refine ⟨_, rfl, _, rfl, b, _, _, _, rfl, rfl, hb, rfl, _, _, rfl, rfl, _, rfl, ?_⟩
  refine ite2 (fun c => ?_) (fun c => ?_)
  · rw [if_pos (of_decide_eq_true c)] at q
    exact q
  · rw [if_neg (fun z => c (decide_eq_true z))] at q
    refine ⟨_, rfl, _, rfl, b, low, L, rfl, hb, hL, _, _, rfl, rfl, _, rfl, ?_⟩
    refine ite2 (fun c => ?_) (fun c => ?_)
    · rw [if_pos (of_decide_eq_true c)] at q
      exact q
    · rw [if_neg (fun z => c (decide_eq_true z))] at q
      exact q
end

def wayW : Nat → Int → List Int
  | 0, _ => []
  | e + 1, o => if o < 2 ^ e then 0 :: wayW e o else 1 :: wayW e (o - 2 ^ e)
/-! ### the tree of a row -/
def grow (low : Int) : Nat → List Int → Tr
  | 0, ns => if ns = [] then .non else .many ns.length
  | e + 1, ns => if ns = [] then .non else .part (ns.map fun n => if n < low + 2 ^ e then 0 else 1) (grow low e (ns.filter fun n => decide (n < low + 2 ^ e))) (grow (low + 2 ^ e) e (ns.filter fun n => decide (low + 2 ^ e ≤ n)))
theorem grow_nil (low : Int) (e : Nat) : grow low e [] = .non := by cases e <;> rfl
theorem grow_zero {low : Int} {ns : List Int} (h : ns ≠ []) : grow low 0 ns = .many ns.length := by unfold grow; rw [if_neg h]
theorem grow_succ {low : Int} {e : Nat} {ns : List Int} (h : ns ≠ []) : grow low (e + 1) ns = .part (ns.map fun n => if n < low + 2 ^ e then 0 else 1) (grow low e (ns.filter fun n => decide (n < low + 2 ^ e))) (grow (low + 2 ^ e) e (ns.filter fun n => decide (low + 2 ^ e ≤ n))) := by
  rw [grow, if_neg h]
theorem grow_deep : ∀ (e : Nat) (low : Int) (ns : List Int), (grow low e ns).deep ≤ e
  | 0, low, ns => by
    by_cases h : ns = []
    · rw [h, grow_nil]; exact Nat.le_refl _
    · rw [grow_zero h]; exact Nat.le_refl _
  | e + 1, low, ns => by
    by_cases h : ns = []
    · rw [h, grow_nil]; exact Nat.zero_le _
    · rw [grow_succ h]
      have h1 := grow_deep e low (ns.filter fun n => decide (n < low + 2 ^ e))
      have h2 := grow_deep e (low + 2 ^ e) (ns.filter fun n => decide (low + 2 ^ e ≤ n))
      show max _ _ + 1 ≤ e + 1
      omega
/-- no marks are long -/
def Tr.fit (b : Nat) : Tr → Prop
  | .non => True
  | .many _ => True
  | .part ms l r => ms.length ≤ b ∧ Tr.fit b l ∧ Tr.fit b r
theorem grow_fit {b : Nat} : ∀ (e : Nat) (low : Int) (ns : List Int), ns.length ≤ b → Tr.fit b (grow low e ns)
  | 0, low, ns, _ => by
    by_cases h : ns = []
    · rw [h, grow_nil]; trivial
    · rw [grow_zero h]; trivial
  | e + 1, low, ns, hl => by
    by_cases h : ns = []
    · rw [h, grow_nil]; trivial
    · rw [grow_succ h]
      exact ⟨by rw [List.length_map]; exact hl, grow_fit e _ _ (Nat.le_trans (List.length_filter_le _ _) hl), grow_fit e _ _ (Nat.le_trans (List.length_filter_le _ _) hl)⟩

abbrev kb_grown : Nat := 0
abbrev kn_grown : Nat := 40
abbrev k_grown : Nat := 41
def spe_grown (K : PySem.W.Frag) (e : Nat) : Sp := fun vs H Q _ => ∃ (least : Int) (a : Addr) (ns : List Int), vs = [.int least, .int (2 ^ e), .ref a] ∧ SqL K H a (ns.map V.int) ∧ ns.length ≤ 1000 ∧ ∀ (H' : Hp) (v : V), Same H H' → TreeAt H' v (grow least e ns) → Q v H'
def sp_grown (K : PySem.W.Frag) : Sp := fun vs H Q E => ∃ e, e ≤ kn_grown ∧ spe_grown K e vs H Q E
section
variable {P : Program} {w : World} {K : PySem.W.Frag} {mg : Str → Option Value} {base : Heap}
theorem ok_grown (d : Def K mg "grown" s_grown ["least", "many", "row"]) (z : Bz mg)  : Cal P w K mg base k_grown "grown" ["least", "many", "row"] (sp_grown K) := by
  have sc := sc_grown
  refine d.recur (k := kb_grown) (sp := spe_grown K) kn_grown fun e hen c_grown f fd F => F.ok sc (fun vs H Q E h => ?_) (fun cdv A outer s H vs Q E hr h => ?_)
  · obtain ⟨least, a, ns, rfl, _⟩ := h
    rfl
  obtain ⟨least, a, ns, rfl, ha, hl, q⟩ := h
  refine ⟨_, (pss_cons (ps_if (pt_cmpR op_eq (pe_callB call_len_seq (by rfl) z.len_ bt_len (pa_cons (pv 2) pa_nil)) pe_int (nomark _))
  (pss_one (ps_ret pe_non))
  pss_nil)
 (pss_cons (ps_if (pt_cmpR op_eq (pv 1) pe_int (nomark _))
  (pss_one (ps_ret (pe_tup (pa_cons pe_str (pa_cons (pe_callB call_len_seq (by rfl) z.len_ bt_len (pa_cons (pv 2) pa_nil)) pa_nil)))))
  pss_nil)
 (pss_cons (ps_set (i := 3) sc.nd rfl (Or.inl rfl) (pe_op op_fdivB (pv 1) pe_int))
 (pss_cons (ps_set (i := 4) sc.nd rfl (Or.inr rfl) (pe_op op_add (pv 0) (pv 3)))
 (pss_cons (ps_set (i := 5) sc.nd rfl (Or.inl rfl) (pe_callTy call_tupleF (by rfl) z.tuple_ bt_tuple (pa_cons (pe_comp (cl := [("middle", s.heap.objs.size + 1 + 0)]) (cn := ["middle"]) (N := ["middle"]) (fr := [4]) (sc0 := defScope s_grown) rfl (pi_list (pv 2)) (fun C s₂ H₂ fp => (pe_ifExp (pt_cmpR op_lt (pv 0) (pv 1) (nomark _)) pe_int pe_int)) (by with_unfolding_all rfl) ⟨by with_unfolding_all rfl, trivial⟩ rfl rfl rfl ⟨by decide +kernel, by decide +kernel, by decide +kernel, by decide +kernel, by decide +kernel, by decide +kernel, by decide +kernel⟩ rfl) pa_nil)))
 (pss_cons (ps_set (i := 6) sc.nd rfl (Or.inl rfl) (pe_fn c_grown (hr.mono (Nat.le_refl _)) (by rfl) (pa_cons (pv 0) (pa_cons (pv 3) (pa_cons (pe_compIf (cl := [("middle", s.heap.objs.size + 1 + 0)]) (cn := ["middle"]) (N := ["middle"]) (fr := [4]) (sc0 := defScope s_grown) rfl (pi_list (pv 2)) (fun C s₂ H₂ fp => (pv 0)) (fun C s₂ H₂ fp => (pt_cmpR op_lt (pv 0) (pv 1) (nomark _))) (by with_unfolding_all rfl) ⟨by with_unfolding_all rfl, trivial⟩ rfl rfl rfl ⟨by decide +kernel, by decide +kernel, by decide +kernel, by decide +kernel, by decide +kernel, by decide +kernel, by decide +kernel⟩ rfl) pa_nil)))))
 (pss_cons (ps_set (i := 7) sc.nd rfl (Or.inl rfl) (pe_fn c_grown (hr.mono (Nat.le_refl _)) (by rfl) (pa_cons (pv 4) (pa_cons (pv 3) (pa_cons (pe_compIf (cl := [("middle", s.heap.objs.size + 1 + 0)]) (cn := ["middle"]) (N := ["middle"]) (fr := [4]) (sc0 := defScope s_grown) rfl (pi_list (pv 2)) (fun C s₂ H₂ fp => (pv 0)) (fun C s₂ H₂ fp => (pt_cmpR op_ge (pv 0) (pv 1) (nomark _))) (by with_unfolding_all rfl) ⟨by with_unfolding_all rfl, trivial⟩ rfl rfl rfl ⟨by decide +kernel, by decide +kernel, by decide +kernel, by decide +kernel, by decide +kernel, by decide +kernel, by decide +kernel⟩ rfl) pa_nil)))))
 (pss_one (ps_ret (pe_tup (pa_cons pe_str (pa_cons (pv 5) (pa_cons (pv 6) (pa_cons (pv 7) pa_nil)))))))))))))), ?_⟩
  have hz : ns.length ≤ sizeLine := sz hl
  refine ⟨_, rfl, a, _, rfl, .inl ha, rfl, _, rfl, ?_⟩
  refine ite2 (fun c => ?_) (fun c => ?_)
  · have c' : (((ns.map V.int).length : Nat) : Int) = 0 := V.int.inj (of_decide_eq_true c)
    rw [List.length_map] at c'
    have e0 : ns = [] := List.eq_nil_of_length_eq_zero (by omega)
    subst e0
    exact q H .non (Same.refl H) (by rw [grow_nil]; rfl)
  · have hne : ns ≠ [] := fun z => c (by rw [z]; exact decide_eq_true rfl)
    refine ⟨_, rfl, rfl, _, rfl, ?_⟩
    refine ite2 (fun c2 => ?_) (fun c2 => ?_)
    · have e0 : e = 0 := p2one (V.int.inj (of_decide_eq_true c2))
      subst e0
      refine ⟨_, rfl, a, _, rfl, .inl ha, szb rfl, fun p hp => q _ _ (same_new hp _) ?_⟩
      rw [grow_zero hne]
      refine ⟨p, rfl, ?_⟩
      rw [upd_same, List.length_map]
    · cases e with
      | zero => exact absurd (decide_eq_true rfl) c2
      | succ e =>
        refine ⟨_, rfl, _, _, rfl, rfl, ⟨by decide, by decide⟩, ?_⟩
        dsimp only
        rw [p2half]
        refine ⟨_, rfl, _, rfl, _, _, rfl, rfl, ?_⟩
        refine ⟨_, rfl, a, rfl, ⟨_, ha⟩, fun D hD => ?_⟩
        refine comp_ints (g := fun n => .int (if n < least + 2 ^ e then 0 else 1)) ha hD hz (fun n _ H1 Q1 _ q1 => ?_) ?_
        · refine ⟨_, rfl, _, rfl, _, _, rfl, rfl, _, rfl, ?_⟩
          refine ite2 (fun c3 => ?_) (fun c3 => ?_)
          · rw [if_pos (of_decide_eq_true c3)] at q1
            exact q1
          · rw [if_neg (fun z => c3 (decide_eq_true z))] at q1
            exact q1
        have s1 : Same H (upd H D (.lst (ns.map fun n => V.int (if n < least + 2 ^ e then 0 else 1)))) := same_new hD _
        refine ⟨D, _, rfl, SqL.of upd_same, fun m H2 s2 hm => ?_⟩
        have s02 : Same H H2 := s1.trans s2
        have hm' : TupF H2 m ((ns.map fun n => if n < least + 2 ^ e then (0 : Int) else 1).map V.int) := by rw [List.map_map]; exact hm
        refine ⟨_, rfl, _, rfl, _, rfl, a, rfl, ⟨_, s02.seq ha⟩, fun D2 hD2 => ?_⟩
        refine compIf_ints (p := fun n => decide (n < least + 2 ^ e)) (g := V.int) (s02.seq ha) hD2 hz (fun n _ H1 Q1 _ q1 => ⟨_, rfl, _, rfl, _, _, rfl, rfl, _, rfl, q1⟩) (fun n _ _ H1 Q1 _ q1 => ⟨_, rfl, q1⟩) ?_
        refine ⟨least, D2, _, rfl, SqL.of upd_same, Nat.le_trans (List.length_filter_le _ _) hl, fun H3 lo s3 hlo => ?_⟩
        have s03 : Same H H3 := s02.trans ((same_new hD2 _).trans s3)
        refine ⟨_, rfl, _, rfl, _, rfl, a, rfl, ⟨_, s03.seq ha⟩, fun D3 hD3 => ?_⟩
        refine compIf_ints (p := fun n => decide (least + 2 ^ e ≤ n)) (g := V.int) (s03.seq ha) hD3 hz (fun n _ H1 Q1 _ q1 => ⟨_, rfl, _, rfl, _, _, rfl, rfl, _, rfl, q1⟩) (fun n _ _ H1 Q1 _ q1 => ⟨_, rfl, q1⟩) ?_
        refine ⟨least + 2 ^ e, D3, _, rfl, SqL.of upd_same, Nat.le_trans (List.length_filter_le _ _) hl, fun H4 hi s4 hhi => ?_⟩
        have s34 : Same H3 H4 := (same_new hD3 _).trans s4
        refine ⟨_, rfl, _, rfl, _, rfl, szb rfl, fun p hp => q _ _ (s03.trans (s34.trans (same_new hp _))) ?_⟩
        rw [grow_succ hne]
        have sp : Same H4 (upd H4 p (.tup [.str "part", .ref m, lo, hi])) := same_new hp _
        have s24 : Same H2 H4 := (same_new hD2 _).trans (s3.trans s34)
        exact ⟨p, m, lo, hi, rfl, upd_same, (hm'.same s24).same sp, (hlo.same s34).same sp, hhi.same sp⟩
end
abbrev k_tree_of : Nat := 42
def sp_tree_of (K : PySem.W.Frag) : Sp := fun vs H Q _ => ∃ (b a : Addr) (low : Int) (L : Nat) (ns : List Int), vs = [.ref b, .ref a] ∧ SqT K H b [.int low, .int (L : Int)] ∧ L ≤ 40 ∧ SqL K H a (ns.map V.int) ∧ ns.length ≤ 1000 ∧ Wths low L ns ∧
  ∀ (H' : Hp) (v : V), Same H H' → TreeAt H' v (grow low L ns) → Q v H'
section
variable {P : Program} {w : World} {K : PySem.W.Frag} {mg : Str → Option Value} {base : Heap}
theorem ok_tree_of (d : Def K mg "tree_of" s_tree_of ["bounds", "row"]) (z : Bz mg) (c_grown : Cal P w K mg base k_grown "grown" ["least", "many", "row"] (sp_grown K)) (c_many_worths : Cal P w K mg base k_many_worths "many_worths" ["levels"] (sp_many_worths K)) (c_where : Cal P w K mg base k_where "where" ["bounds", "number"] (sp_where K)) : Cal P w K mg base k_tree_of "tree_of" ["bounds", "row"] (sp_tree_of K) := by
  have sc := sc_tree_of
  refine d.cal fun f fd F => F.ok sc (fun vs H Q E h => ?_) (fun cdv A outer s H vs Q E hr h => ?_)
  · obtain ⟨b, a, low, L, ns, rfl, _⟩ := h
    rfl
  obtain ⟨b, a, low, L, ns, rfl, hb, hL, ha, hl, hw, q⟩ := h
  refine ⟨_, (pss_cons (ps_for PassesOwn.never rfl (pi_list (pv 1)) (pg_name (i := 2) sc.nd rfl (Or.inl rfl))
  (pss_one (ps_if (pt_cmpR op_ne (pe_fn c_where (hr.mono (by decide)) (by rfl) (pa_cons (pv 0) (pa_cons (pv 2) pa_nil))) pe_str (nomark _))
  (pss_one ps_never)
  pss_nil)))
 (pss_one (ps_ret (pe_fn c_grown (hr.mono (by decide)) (by rfl) (pa_cons (pe_ix ix_tup (pv 0) pe_int (fun _ _ => rfl)) (pa_cons (pe_fn c_many_worths (hr.mono (by decide)) (by rfl) (pa_cons (pe_ix ix_tup (pv 0) pe_int (fun _ _ => rfl)) pa_nil)) (pa_cons (pv 1) pa_nil))))))), ?_⟩
  refine ⟨_, rfl, a, rfl, ⟨_, ha⟩, for_list (K := K) (a := a) (xs := ns.map V.int) (fun i σ H2 => ∃ v : Option V, σ = [some (.ref b), some (.ref a), v] ∧ H2 = H) ⟨none, rfl, rfl⟩ (fun i σ H2 _ ⟨_, _, e⟩ => by rw [e]; exact ha) ?_ ?_⟩
  · rintro i x σ H2 hi ⟨v, rfl, rfl⟩
    obtain ⟨n, hn, rfl⟩ := List.mem_map.mp (List.mem_of_getElem? hi)
    refine ⟨_, rfl, _, rfl, b, low, n, L, rfl, hb, hL, rfl, _, rfl, iteNS (by rw [whereS_in (hw n hn)]) ?_⟩
    exact ⟨_, rfl, rfl⟩
  · rintro σ H2 ⟨v, rfl, rfl⟩
    refine ⟨_, rfl, b, _, _, _, rfl, rfl, hb, rfl, _, rfl, b, _, _, _, rfl, rfl, hb, rfl, L, rfl, hL, ?_⟩
    exact ⟨_, rfl, L, hL, low, a, ns, rfl, ha, hl, q⟩
end

abbrev kb__law_tree : Nat := 0
abbrev kn__law_tree : Nat := 40
abbrev k__law_tree : Nat := 41
def spe__law_tree (K : PySem.W.Frag) (e : Nat) : Sp := fun vs H Q _ => ∃ (low : Int) (a : Addr) (ns : List Int), vs = [.int low, .int (e : Int), .ref a] ∧ SqL K H a (ns.map V.int) ∧ ns.length ≤ 1000 ∧ ∀ (H' : Hp) (v : V), Same H H' → TreeAt H' v (grow low e ns) → Q v H'
def sp__law_tree (K : PySem.W.Frag) : Sp := fun vs H Q E => ∃ e, e ≤ kn__law_tree ∧ spe__law_tree K e vs H Q E
section
variable {P : Program} {w : World} {K : PySem.W.Frag} {mg : Str → Option Value} {base : Heap}
theorem ok__law_tree (d : Def K mg "_law_tree" s__law_tree ["_law_low", "_law_levels", "_law_row_here"]) (z : Bz mg)  : Cal P w K mg base k__law_tree "_law_tree" ["_law_low", "_law_levels", "_law_row_here"] (sp__law_tree K) := by
  have sc := sc__law_tree
  refine d.recur (k := kb__law_tree) (sp := spe__law_tree K) kn__law_tree fun e hen c__law_tree f fd F => F.ok sc (fun vs H Q E h => ?_) (fun cdv A outer s H vs Q E hr h => ?_)
  · obtain ⟨least, a, ns, rfl, _⟩ := h
    rfl
  obtain ⟨least, a, ns, rfl, ha, hl, q⟩ := h
  refine ⟨_, (pss_cons (ps_if (pt_cmpR (op_eqL hr.units) (pv 2) (pe_lst pa_nil) (nomark _))
  (pss_one (ps_ret pe_non))
  pss_nil)
 (pss_cons (ps_if (pt_cmpR op_eq (pv 1) pe_int (nomark _))
  (pss_one (ps_ret (pe_tup (pa_cons pe_str (pa_cons (pe_callB call_len_seq (by rfl) z.len_ bt_len (pa_cons (pv 2) pa_nil)) pa_nil)))))
  pss_nil)
 (pss_cons (ps_set (i := 3) sc.nd rfl (Or.inr rfl) (pe_op op_add (pv 0) (pe_op op_shl pe_int (pe_op op_sub (pv 1) pe_int))))
 (pss_cons (ps_set (i := 4) sc.nd rfl (Or.inl rfl) (pe_callTy call_tupleF (by rfl) z.tuple_ bt_tuple (pa_cons (pe_comp (cl := [("_law_half", s.heap.objs.size + 1 + 0)]) (cn := ["_law_half"]) (N := ["_law_half"]) (fr := [3]) (sc0 := defScope s__law_tree) rfl (pi_list (pv 2)) (fun C s₂ H₂ fp => (pe_callTy call_int1 (by rfl) z.int_ bt_int (pa_cons (pe_cmpR op_ge (pv 0) (pv 1) (nomark _)) pa_nil))) (by with_unfolding_all rfl) ⟨by with_unfolding_all rfl, trivial⟩ rfl rfl rfl ⟨by decide +kernel, by decide +kernel, by decide +kernel, by decide +kernel, by decide +kernel, by decide +kernel, by decide +kernel⟩ rfl) pa_nil)))
 (pss_cons (ps_set (i := 5) sc.nd rfl (Or.inl rfl) (pe_fn c__law_tree (hr.mono (Nat.le_refl _)) (by rfl) (pa_cons (pv 0) (pa_cons (pe_op op_sub (pv 1) pe_int) (pa_cons (pe_compIf (cl := [("_law_half", s.heap.objs.size + 1 + 0)]) (cn := ["_law_half"]) (N := ["_law_half"]) (fr := [3]) (sc0 := defScope s__law_tree) rfl (pi_list (pv 2)) (fun C s₂ H₂ fp => (pv 0)) (fun C s₂ H₂ fp => (pt_cmpR op_lt (pv 0) (pv 1) (nomark _))) (by with_unfolding_all rfl) ⟨by with_unfolding_all rfl, trivial⟩ rfl rfl rfl ⟨by decide +kernel, by decide +kernel, by decide +kernel, by decide +kernel, by decide +kernel, by decide +kernel, by decide +kernel⟩ rfl) pa_nil)))))
 (pss_one (ps_ret (pe_tup (pa_cons pe_str (pa_cons (pv 4) (pa_cons (pv 5) (pa_cons (pe_fn c__law_tree (hr.mono (Nat.le_refl _)) (by rfl) (pa_cons (pv 3) (pa_cons (pe_op op_sub (pv 1) pe_int) (pa_cons (pe_compIf (cl := [("_law_half", s.heap.objs.size + 1 + 0)]) (cn := ["_law_half"]) (N := ["_law_half"]) (fr := [3]) (sc0 := defScope s__law_tree) rfl (pi_list (pv 2)) (fun C s₂ H₂ fp => (pv 0)) (fun C s₂ H₂ fp => (pt_cmpR op_ge (pv 0) (pv 1) (nomark _))) (by with_unfolding_all rfl) ⟨by with_unfolding_all rfl, trivial⟩ rfl rfl rfl ⟨by decide +kernel, by decide +kernel, by decide +kernel, by decide +kernel, by decide +kernel, by decide +kernel, by decide +kernel⟩ rfl) pa_nil)))) pa_nil)))))))))))), ?_⟩
  have hz : ns.length ≤ sizeLine := sz hl
  refine ⟨_, rfl, szb rfl, fun p0 hp0 => ?_⟩
  have s0 : Same H (upd H p0 (.lst [])) := same_new hp0 _
  refine ⟨a, p0, ns, [], rfl, rfl, s0.seq ha, SqL.of upd_same, _, rfl, ?_⟩
  have ha := s0.seq ha
  refine ite2 (fun c => ?_) (fun c => ?_)
  · have e0 : ns = [] := of_decide_eq_true c
    subst e0
    exact q _ .non s0 (by rw [grow_nil]; rfl)
  · have hne : ns ≠ [] := fun z => c (decide_eq_true z)
    generalize hH0 : upd H p0 (.lst []) = H0 at *
    refine ⟨_, rfl, rfl, _, rfl, ?_⟩
    refine ite2 (fun c2 => ?_) (fun c2 => ?_)
    · have e0' : ((e : Nat) : Int) = 0 := V.int.inj (of_decide_eq_true c2)
      have e0 : e = 0 := by omega
      subst e0
      refine ⟨_, rfl, a, _, rfl, .inl ha, szb rfl, fun p hp => q _ _ (s0.trans (same_new hp _)) ?_⟩
      rw [grow_zero hne]
      refine ⟨p, rfl, ?_⟩
      rw [upd_same, List.length_map]
    · cases e with
      | zero => exact absurd (decide_eq_true rfl) c2
      | succ e =>
        have hen' : e + 1 ≤ 40 := hen
        have ee : (((e + 1 : Nat) : Int) - 1) = (e : Int) := by omega
        refine ⟨_, rfl, _, rfl, _, _, rfl, rfl, _, _, rfl, rfl, ⟨by omega, by omega, by decide⟩, _, _, rfl, rfl, ?_⟩
        dsimp only
        rw [ee, shlOne]
        refine ⟨_, rfl, a, rfl, ⟨_, ha⟩, fun D hD => ?_⟩
        refine comp_ints (g := fun n => .int (if n < least + 2 ^ e then 0 else 1)) ha hD hz (fun n _ H1 Q1 _ q1 => ?_) ?_
        · refine ⟨_, rfl, _, rfl, _, _, rfl, rfl, .inr ⟨_, rfl, ?_⟩⟩
          by_cases c3 : n < least + 2 ^ e
          · rw [if_pos c3] at q1
            rw [if_neg (by intro z; have := of_decide_eq_true z; omega)]
            exact q1
          · rw [if_neg c3] at q1
            rw [if_pos (decide_eq_true (by omega))]
            exact q1
        have s1 : Same H0 (upd H0 D (.lst (ns.map fun n => V.int (if n < least + 2 ^ e then 0 else 1)))) := same_new hD _
        refine ⟨D, _, rfl, SqL.of upd_same, fun m H2 s2 hm => ?_⟩
        have s02 : Same H0 H2 := s1.trans s2
        have hm' : TupF H2 m ((ns.map fun n => if n < least + 2 ^ e then (0 : Int) else 1).map V.int) := by rw [List.map_map]; exact hm
        refine ⟨_, rfl, _, rfl, _, _, rfl, rfl, _, rfl, a, rfl, ⟨_, s02.seq ha⟩, fun D2 hD2 => ?_⟩
        refine compIf_ints (p := fun n => decide (n < least + 2 ^ e)) (g := V.int) (s02.seq ha) hD2 hz (fun n _ H1 Q1 _ q1 => ⟨_, rfl, _, rfl, _, _, rfl, rfl, _, rfl, q1⟩) (fun n _ _ H1 Q1 _ q1 => ⟨_, rfl, q1⟩) ?_
        refine ⟨least, D2, _, congrArg (fun t => [V.int least, V.int t, V.ref D2]) ee, SqL.of upd_same, Nat.le_trans (List.length_filter_le _ _) hl, fun H3 lo s3 hlo => ?_⟩
        have s03 : Same H0 H3 := s02.trans ((same_new hD2 _).trans s3)
        refine ⟨_, rfl, _, rfl, _, rfl, _, rfl, _, _, rfl, rfl, _, rfl, a, rfl, ⟨_, s03.seq ha⟩, fun D3 hD3 => ?_⟩
        refine compIf_ints (p := fun n => decide (least + 2 ^ e ≤ n)) (g := V.int) (s03.seq ha) hD3 hz (fun n _ H1 Q1 _ q1 => ⟨_, rfl, _, rfl, _, _, rfl, rfl, _, rfl, q1⟩) (fun n _ _ H1 Q1 _ q1 => ⟨_, rfl, q1⟩) ?_
        refine ⟨least + 2 ^ e, D3, _, congrArg (fun t => [V.int (least + 2 ^ e), V.int t, V.ref D3]) ee, SqL.of upd_same, Nat.le_trans (List.length_filter_le _ _) hl, fun H4 hi s4 hhi => ?_⟩
        have s34 : Same H3 H4 := (same_new hD3 _).trans s4
        refine ⟨szb rfl, fun p hp => q _ _ (s0.trans (s03.trans (s34.trans (same_new hp _)))) ?_⟩
        rw [grow_succ hne]
        have sp : Same H4 (upd H4 p (.tup [.str "part", .ref m, lo, hi])) := same_new hp _
        have s24 : Same H2 H4 := (same_new hD2 _).trans (s3.trans s34)
        exact ⟨p, m, lo, hi, rfl, upd_same, (hm'.same s24).same sp, (hlo.same s34).same sp, hhi.same sp⟩
end

/-! ### sizes, halves, places -/
def trSize : Tr → Int
  | .non => 0
  | .many n => n
  | .part ms _ _ => ms.length
def trHalf : Tr → Int → Tr
  | .part _ l r, mk => if mk = 0 then l else r
  | _, _ => .non
abbrev k_half_of : Nat := 1
def sp_half_of (_ : PySem.W.Frag) : Sp := fun vs H Q _ => ∃ (v : V) (t : Tr) (mk : Int), vs = [v, .int mk] ∧ TreeAt H v t ∧ (mk = 0 ∨ mk = 1) ∧ ∀ u, TreeAt H u (trHalf t mk) → Q u H
section
variable {P : Program} {w : World} {K : PySem.W.Frag} {mg : Str → Option Value} {base : Heap}
theorem ok_half_of (d : Def K mg "half_of" s_half_of ["tree", "mark"]) (z : Bz mg)  : Cal P w K mg base k_half_of "half_of" ["tree", "mark"] (sp_half_of K) := by
  have sc := sc_half_of
  refine d.cal fun f fd F => F.ok sc (fun vs H Q E h => ?_) (fun cdv A outer s H vs Q E hr h => ?_)
  · obtain ⟨v, t, mk, rfl, _⟩ := h
    rfl
  obtain ⟨v, t, mk, rfl, ht, hmk, q⟩ := h
  refine ⟨_, (pss_cons (ps_if (PW.pt (pw_or (pt_cmpR op_isN (pv 0) pe_non (nomark _)) (pw_or1 (pt_cmpR op_eq (pe_ix ix_tup (pv 0) pe_int (fun _ _ => rfl)) pe_str (nomark _)))))
  (pss_one (ps_ret pe_non))
  pss_nil)
 (pss_one (ps_ret (pe_ix ix_tup (pv 0) (pe_op op_add pe_int (pv 1)) (fun _ _ => rfl))))), ?_⟩
  refine ⟨_, rfl, rfl, _, rfl, ?_⟩
  cases t with
  | non =>
    cases ht
    exact ite2 (fun c => q .non rfl) (fun c => absurd (decide_eq_true rfl) c)
  | many n =>
    obtain ⟨a, rfl, ha⟩ := ht
    refine ite2 (fun c => absurd (of_decide_eq_true c) (by intro z; cases z)) (fun c => ?_)
    refine ⟨_, rfl, a, _, _, _, rfl, rfl, SqT.of ha, rfl, rfl, _, rfl, ?_⟩
    exact ite2 (fun c => q .non rfl) (fun c => absurd (decide_eq_true rfl) c)
  | part ms l r =>
    obtain ⟨a, m, x, y, rfl, ha, hm, hl, hr'⟩ := ht
    refine ite2 (fun c => absurd (of_decide_eq_true c) (by intro z; cases z)) (fun c => ?_)
    refine ⟨_, rfl, a, _, _, _, rfl, rfl, SqT.of ha, rfl, rfl, _, rfl, ?_⟩
    refine ite2 (fun c => absurd (of_decide_eq_true c) (by decide)) (fun c => ?_)
    refine ⟨_, rfl, _, rfl, _, _, rfl, rfl, ?_⟩
    rcases hmk with rfl | rfl
    · exact ⟨a, _, _, _, rfl, rfl, SqT.of ha, rfl, q x hl⟩
    · exact ⟨a, _, _, _, rfl, rfl, SqT.of ha, rfl, q y hr'⟩
end

theorem all_flat (ms : List Int) : (ms.map V.int).all flatV = true := by
  rw [List.all_eq_true]
  intro x hx
  obtain ⟨i, _, rfl⟩ := List.mem_map.mp hx
  rfl
theorem count_map (ms : List Int) (m : Int) : (ms.map V.int).countP (fun y => eqV y (.int m)) = ms.count m := by
  rw [List.countP_map, List.count_eq_countP]
  rfl
theorem cut_take (ms : List Int) (k : Nat) : cutV (ms.map V.int) none (some (k : Int)) = (ms.take k).map V.int := by
  unfold cutV
  rw [HT.sIx_nat, HT.sIx_none, List.drop_zero, Nat.sub_zero, List.map_take]
  by_cases h : k ≤ (ms.map V.int).length
  · rw [Nat.min_eq_left h]
  · rw [Nat.min_eq_right (by omega), List.take_length, List.take_of_length_le (by omega)]
abbrev k_ahead : Nat := 1
def sp_ahead (_ : PySem.W.Frag) : Sp := fun vs H Q _ => ∃ (t : Addr) (ms : List Int) (mk : Int) (pl : Nat), vs = [.ref t, .int mk, .int (pl : Int)] ∧ TupF H t (ms.map V.int) ∧ ∀ H', Same H H' → Q (.int ((ms.take pl).count mk : Nat)) H'
section
variable {P : Program} {w : World} {K : PySem.W.Frag} {mg : Str → Option Value} {base : Heap}
theorem ok_ahead (d : Def K mg "ahead" s_ahead ["marks", "mark", "place"]) (z : Bz mg)  : Cal P w K mg base k_ahead "ahead" ["marks", "mark", "place"] (sp_ahead K) := by
  have sc := sc_ahead
  refine d.cal fun f fd F => F.ok sc (fun vs H Q E h => ?_) (fun cdv A outer s H vs Q E hr h => ?_)
  · obtain ⟨t, ms, mk, pl, rfl, _⟩ := h
    rfl
  obtain ⟨t, ms, mk, pl, rfl, ht, q⟩ := h
  refine ⟨_, (pss_one (ps_ret (pe_bmF PySem.F.plainAttrs_tuple PySem.F.slot_tuple_count PySem.F.type_tuple_count mt_countT (pe_slice sl_tupF (pv 0) po_none (po_some (pe_callB (call_max2 rfl) (by rfl) z.max_ bt_max (pa_cons (pv 2) (pa_cons pe_int pa_nil))))) (pa_cons (pv 1) pa_nil)))), ?_⟩
  have e1 : (if (0 : Int) > (pl : Int) then (0 : Int) else (pl : Int)) = (pl : Int) := if_neg (by omega)
  refine ⟨_, rfl, _, rfl, _, _, rfl, _, rfl, t, _, rfl, ht, fun p H1 s1 h1 => ?_⟩
  rw [e1, cut_take] at h1
  obtain ⟨o, ho, hc, hd⟩ := id h1
  refine ⟨⟨p, o, _, rfl, ho, hc, hd⟩, _, rfl, p, _, _, rfl, rfl, h1.sq, rfl, all_flat _, ?_⟩
  rw [count_map]
  exact q H1 s1
end

/-! ### the pen of the third kind: a cell, whether it is great, how often it was mixed -/
/-- the script: known to the object, or the module's own -/
def Scr (K : PySem.W.Frag) (H : Hp) (a : Addr) (xs : List V) : Prop :=
  (∃ o, H a = some (.frz o (.lst xs))) ∨
    ∃ (o : Obj) (its : Array Value) (n : Nat), K.lookup a = some o ∧ o.cls = .type "list" ∧ o.dict = none ∧ o.data = .seq its n ∧ its.size ≤ sizeLine ∧ Vals xs its.toList
theorem Scr.sq {K : PySem.W.Frag} {H : Hp} {a : Addr} {xs : List V} (h : Scr K H a xs) : SqL K H a xs := by
  rcases h with h | h
  · exact .inl (.inr h)
  · exact .inr h
theorem Scr.of {K : PySem.W.Frag} {H : Hp} {a : Addr} {xs : List V} (h : SqL K H a xs) (o : Only H) : Scr K H a xs := by
  rcases h with (h | h) | h
  · rcases o a with z | ⟨ob, ys, z⟩
    · rw [z] at h; cases h
    · rw [z] at h; cases h
  · exact .inl h
  · exact .inr h
theorem Scr.same {K : PySem.W.Frag} {H H' : Hp} {a : Addr} {xs : List V} (h : Scr K H a xs) (s : Same H H') : Scr K H' a xs := by
  rcases h with ⟨o, h⟩ | h
  · exact .inl ⟨o, s _ _ h⟩
  · exact .inr h
theorem Scr.keep {K : PySem.W.Frag} {H H' : Hp} {a p : Addr} {xs ys : List V} (h : Scr K H a xs) (k : Keep p H H') (e : H p = some (.lst ys)) : Scr K H' a xs := by
  rcases h with ⟨ob, h⟩ | h
  · exact .inl ⟨ob, k _ _ (ne_of h e (by intro z; cases z)) h⟩
  · exact .inr h
def PenM (H : Hp) (pen : Addr) : Prop := ∃ (c : Int) (b : Bool) (n : Int), H pen = some (.lst [.int c, .bl b, .int n])
theorem PenM.same {H H' : Hp} {pen : Addr} (p : PenM H pen) (s : Same H H') : PenM H' pen := by
  obtain ⟨c, b, n, h⟩ := p
  exact ⟨c, b, n, s _ _ h⟩
theorem PenM.new {H : Hp} {pen q : Addr} (p : PenM H pen) (h : H q = none) (o : HO) : PenM (upd H q o) pen := p.same (same_new h o)
theorem PenM.at {H : Hp} {pen : Addr} (p : PenM H pen) : ∃ xs, H pen = some (.lst xs) := by
  obtain ⟨c, b, n, h⟩ := p
  exact ⟨_, h⟩
theorem PenM.ne {H : Hp} {pen b : Addr} {xs : List V} (p : PenM H pen) (h : H b = some (.tup xs)) : b ≠ pen := by
  obtain ⟨ys, e⟩ := p.at
  exact ne_of h e (by intro z; cases z)
theorem PenM.fresh {H : Hp} {pen b : Addr} (p : PenM H pen) (h : H b = none) : b ≠ pen := by
  obtain ⟨ys, e⟩ := p.at
  exact Ne.symm (ne_of_none e h)
theorem PenM.other {H : Hp} {pen q : Addr} (p : PenM H pen) (hq : q ≠ pen) (o : HO) : PenM (upd H q o) pen := by
  obtain ⟨c, b, n, e⟩ := p
  exact ⟨c, b, n, by rw [upd_ne (Ne.symm hq)]; exact e⟩
theorem PenM.keep {H H' : Hp} {pen q : Addr} (p : PenM H pen) (hq : q ≠ pen) (k : Keep q H H') : PenM H' pen := by
  obtain ⟨c, b, n, e⟩ := p
  exact ⟨c, b, n, k _ _ (Ne.symm hq) e⟩
theorem PenM.tk {H H' : Hp} {pen : Addr} (p : PenM H pen) (k : Keep pen H H') : TKeep H H' := by
  obtain ⟨xs, e⟩ := p.at
  exact TKeep.keep k e
theorem PenM.free {H H' : Hp} {pen l : Addr} (p : PenM H' pen) (k : Keep pen H H') (h : H' l = none) : H l = none := by
  obtain ⟨xs, e⟩ := p.at
  exact k.free h e
theorem PenM.scr {K : PySem.W.Frag} {H H' : Hp} {pen a : Addr} {xs : List V} (p : PenM H pen) (k : Keep pen H H') (h : Scr K H a xs) : Scr K H' a xs := by
  obtain ⟨ys, e⟩ := p.at
  exact h.keep k e
abbrev k__law_pen : Nat := 1
def sp__law_pen (K : PySem.W.Frag) : Sp := fun vs H Q _ => ∃ (a : Addr) (ns : List Int) (k : Int), vs = [.ref a, .int k] ∧ SqL K H a (ns.map V.int) ∧ ns.length ≤ 63 ∧ 0 ≤ k ∧ k < 1000 ∧
  ∀ (p : Addr) (H' : Hp), H p = none → Same H H' → PenM H' p → Q (.ref p) H'
abbrev k__law_mixed : Nat := 1
def sp__law_mixed (_ : PySem.W.Frag) : Sp := fun vs H Q _ => ∃ (pen : Addr), vs = [.ref pen] ∧ PenM H pen ∧ ∀ (v : Int) (H' : Hp), Keep pen H H' → PenM H' pen → 0 ≤ v → Q (.int v) H'
abbrev k__law_take : Nat := 2
def sp__law_take (_ : PySem.W.Frag) : Sp := fun vs H Q _ => ∃ (pen : Addr) (size : Int), vs = [.ref pen, .int size] ∧ PenM H pen ∧ 0 < size ∧ size < 10 ^ 60 ∧
  ∀ (v : Int) (H' : Hp), Keep pen H H' → PenM H' pen → 0 ≤ v → v < size → Q (.int v) H'
abbrev k__law_bounds : Nat := 3
def sp__law_bounds (_ : PySem.W.Frag) : Sp := fun vs H Q _ => ∃ (pen : Addr), vs = [.ref pen] ∧ PenM H pen ∧
  ∀ (b : Addr) (low : Int) (L : Nat) (H' : Hp), Keep pen H H' → PenM H' pen → H' b = some (.tup [.int low, .int (L : Int)]) → L ≤ 40 → -(10 ^ 40) < low → low < 10 ^ 40 → Q (.ref b) H'
abbrev k__law_row : Nat := 3
def sp__law_row (_ : PySem.W.Frag) : Sp := fun vs H Q _ => ∃ (pen b : Addr) (low g : Int) (L : Nat), vs = [.ref pen, .ref b, .int g] ∧ PenM H pen ∧ H b = some (.tup [.int low, .int (L : Int)]) ∧ L ≤ 40 ∧ 0 ≤ g ∧ g ≤ 60 ∧
  ∀ (r : Addr) (ns : List Int) (H' : Hp), Keep pen H H' → PenM H' pen → H' r = some (.lst (ns.map V.int)) → H r = none → (ns.length : Int) ≤ g → Wths low L ns → Q (.ref r) H'
def muT : St → Nat := fun σ => match σ[3]? with
  | some (some (V.int m)) => m.toNat
  | _ => 0
section
variable {P : Program} {w : World} {K : PySem.W.Frag} {mg : Str → Option Value} {base : Heap}
theorem ok__law_pen (d : Def K mg "_law_pen" s__law_pen ["_law_script", "_law_k"]) (z : Bz mg)  : Cal P w K mg base k__law_pen "_law_pen" ["_law_script", "_law_k"] (sp__law_pen K) := by
  have sc := sc__law_pen
  refine d.cal fun f fd F => F.ok sc (fun vs H Q E h => ?_) (fun cdv A outer s H vs Q E hr h => ?_)
  · obtain ⟨a, ns, k, rfl, _⟩ := h
    rfl
  obtain ⟨a, ns, k, rfl, hS, h63, h0, hk, q⟩ := h
  refine ⟨_, (pss_cons (ps_set (i := 2) sc.nd rfl (Or.inl rfl) (pe_op op_add (pe_op op_mul pe_int (pv 1)) pe_int))
 (pss_cons (ps_if (pt_cmpR op_lt (pv 1) (pe_callB call_len_seq (by rfl) z.len_ bt_len (pa_cons (pv 0) pa_nil)) (nomark _))
  (pss_one (ps_set (i := 2) sc.nd rfl (Or.inl rfl) (pe_ix ix_list (pv 0) (pv 1) (fun _ _ => rfl))))
  (pss_one (ps_if (pt_cmpR op_gt (pe_callB call_len_seq (by rfl) z.len_ bt_len (pa_cons (pv 0) pa_nil)) pe_int (nomark _))
  (pss_one (ps_set (i := 2) sc.nd rfl (Or.inl rfl) (pe_op op_add (pv 2) (pe_op op_mod (pe_ix ix_list (pv 0) (pe_op op_mod (pv 1) (pe_callB call_len_seq (by rfl) z.len_ bt_len (pa_cons (pv 0) pa_nil))) (fun _ _ => rfl)) (pe_op op_pow pe_int pe_int)))))
  pss_nil)))
 (pss_one (ps_ret (pe_lst (pa_cons (pv 2) (pa_cons (pe_cmpR op_ge (pv 2) (pe_op op_pow pe_int pe_int) (nomark _)) (pa_cons pe_int pa_nil)))))))), ?_⟩
  have hl : (ns.map V.int).length = ns.length := List.length_map _
  refine ⟨_, rfl, _, _, rfl, rfl, .inl ⟨by decide, by decide⟩, _, _, rfl, rfl, ?_⟩
  refine ⟨_, rfl, _, rfl, a, _, rfl, .inl hS, _, _, rfl, rfl, _, rfl, ?_⟩
  refine ite2 (fun c => ?_) (fun c => ?_)
  · have c' : k < (((ns.map V.int).length : Nat) : Int) := of_decide_eq_true c
    rw [hl] at c'
    obtain ⟨v, _, hv⟩ := atI_ints h0 c'
    refine ⟨_, rfl, _, rfl, a, _, _, _, rfl, rfl, hS, hv, ?_⟩
    exact ⟨_, rfl, _, rfl, _, _, rfl, rfl, ⟨by decide, by decide, by decide⟩, _, _, rfl, rfl, szb rfl, fun p hp => q p _ hp (same_new hp _) ⟨_, _, _, upd_same⟩⟩
  · refine ⟨_, rfl, a, _, rfl, .inl hS, _, _, rfl, rfl, _, rfl, ?_⟩
    refine ite2 (fun c2 => ?_) (fun c2 => ?_)
    · have c2' : (0 : Int) < (((ns.map V.int).length : Nat) : Int) := of_decide_eq_true c2
      have m0 : 0 ≤ k % (((ns.map V.int).length : Nat) : Int) := Int.emod_nonneg _ (by omega)
      have m1 : k % (((ns.map V.int).length : Nat) : Int) < (((ns.map V.int).length : Nat) : Int) := Int.emod_lt_of_pos _ c2'
      obtain ⟨v, _, hv⟩ := atI_ints (l := ns) m0 (by rw [hl] at m1 ⊢; exact m1)
      refine ⟨_, rfl, _, rfl, _, rfl, _, rfl, a, _, rfl, .inl hS, _, _, rfl, rfl, c2', a, _, _, _, rfl, rfl, hS, hv, _, _, rfl, rfl, ⟨by decide, by decide, by decide⟩, _, _, rfl, rfl, (by show (0 : Int) < 10 ^ 15; decide), _, _, rfl, rfl, ?_⟩
      exact ⟨_, rfl, _, rfl, _, _, rfl, rfl, ⟨by decide, by decide, by decide⟩, _, _, rfl, rfl, szb rfl, fun p hp => q p _ hp (same_new hp _) ⟨_, _, _, upd_same⟩⟩
    · exact ⟨_, rfl, _, rfl, _, _, rfl, rfl, ⟨by decide, by decide, by decide⟩, _, _, rfl, rfl, szb rfl, fun p hp => q p _ hp (same_new hp _) ⟨_, _, _, upd_same⟩⟩
theorem ok__law_mixed (d : Def K mg "_law_mixed" s__law_mixed ["_law_pen_here"]) (z : Bz mg)  : Cal P w K mg base k__law_mixed "_law_mixed" ["_law_pen_here"] (sp__law_mixed K) := by
  have sc := sc__law_mixed
  refine d.cal fun f fd F => F.ok sc (fun vs H Q E h => ?_) (fun cdv A outer s H vs Q E hr h => ?_)
  · obtain ⟨pen, rfl, _⟩ := h
    rfl
  obtain ⟨pen, rfl, ⟨c, b, n, hp⟩, q⟩ := h
  refine ⟨_, (pss_cons (ps_asg (pe_op op_add (pe_ix ix_list (pv 0) pe_int (fun _ _ => rfl)) pe_int) (pg_sub (pv 0) pe_int set_list))
 (pss_cons (ps_set (i := 1) sc.nd rfl (Or.inl rfl) (pe_op op_mod (pe_op op_mul (pe_op op_add (pe_op op_mod (pe_ix ix_list (pv 0) pe_int (fun _ _ => rfl)) pe_int) (pe_op op_mul pe_int (pe_ix ix_list (pv 0) pe_int (fun _ _ => rfl)))) pe_int) pe_int))
 (pss_cons (ps_set (i := 1) sc.nd rfl (Or.inl rfl) (pe_op op_mod (pe_op op_mul (pe_op op_add (pv 1) (pe_op op_mul pe_int (pe_ix ix_list (pv 0) pe_int (fun _ _ => rfl)))) (pe_op op_add (pv 1) pe_int)) pe_int))
 (pss_one (ps_ret (pe_op op_fdivB (pv 1) pe_int)))))), ?_⟩
  refine ⟨_, rfl, pen, _, _, _, rfl, rfl, SqL.of hp, rfl, _, _, rfl, rfl, _, rfl, pen, _, _, 2, rfl, rfl, hp, rfl, ?_⟩
  refine ⟨_, rfl, pen, _, _, _, rfl, rfl, SqL.of upd_same, rfl, _, _, rfl, rfl, (by show (0 : Int) < 2147483647; decide), _, rfl, pen, _, _, _, rfl, rfl, SqL.of upd_same, rfl, _, _, rfl, rfl, .inl ⟨by decide, by decide⟩, _, _, rfl, rfl, _, _, rfl, rfl, .inr ⟨by decide, by decide⟩, _, _, rfl, rfl, (by show (0 : Int) < 2147483629; decide), ?_⟩
  refine ⟨_, rfl, _, rfl, pen, _, _, _, rfl, rfl, SqL.of upd_same, rfl, _, _, rfl, rfl, .inl ⟨by decide, by decide⟩, _, _, rfl, rfl, _, rfl, _, _, rfl, rfl, _, _, rfl, rfl, .inr ⟨by omega, by omega⟩, _, _, rfl, rfl, (by show (0 : Int) < 2147483587; decide), ?_⟩
  refine ⟨_, rfl, _, _, rfl, rfl, ⟨by decide, by decide⟩, ?_⟩
  exact q _ _ (Keep.set pen H _) ⟨_, _, _, upd_same⟩ (Int.ediv_nonneg (Int.emod_nonneg _ (by decide)) (by decide))
theorem ok__law_take (d : Def K mg "_law_take" s__law_take ["_law_pen_here", "_law_size"]) (z : Bz mg) (c__law_mixed : Cal P w K mg base k__law_mixed "_law_mixed" ["_law_pen_here"] (sp__law_mixed K)) : Cal P w K mg base k__law_take "_law_take" ["_law_pen_here", "_law_size"] (sp__law_take K) := by
  have sc := sc__law_take
  refine d.cal fun f fd F => F.ok sc (fun vs H Q E h => ?_) (fun cdv A outer s H vs Q E hr h => ?_)
  · obtain ⟨pen, size, rfl, _⟩ := h
    rfl
  obtain ⟨pen, size, rfl, P0, s0, s1, q⟩ := h
  refine ⟨_, (pss_cons (ps_if (pt_val (pe_ix ix_list (pv 0) pe_int (fun _ _ => rfl)))
  (pss_cons (ps_set (i := 2) sc.nd rfl (Or.inl rfl) (pe_op op_mod (pe_ix ix_list (pv 0) pe_int (fun _ _ => rfl)) (pv 1)))
 (pss_cons (ps_asg (pe_op op_fdivB (pe_ix ix_list (pv 0) pe_int (fun _ _ => rfl)) (pv 1)) (pg_sub (pv 0) pe_int set_list))
 (pss_one (ps_ret (pv 2)))))
  pss_nil)
 (pss_cons (ps_set (i := 2) sc.nd rfl (Or.inl rfl) (pe_fn c__law_mixed (hr.mono (by decide)) (by rfl) (pa_cons (pv 0) pa_nil)))
 (pss_cons (ps_set (i := 3) sc.nd rfl (Or.inl rfl) (pv 1))
 (pss_cons (ps_while PassesOwn.never (pt_cmpR op_gt (pv 3) (pe_op op_pow pe_int pe_int) (nomark _))
  (pss_cons (ps_set (i := 2) sc.nd rfl (Or.inl rfl) (pe_op op_add (pe_op op_mul (pv 2) pe_int) (pe_fn c__law_mixed (hr.mono (by decide)) (by rfl) (pa_cons (pv 0) pa_nil))))
 (pss_one (ps_set (i := 3) sc.nd rfl (Or.inl rfl) (pe_op op_fdivB (pv 3) (pe_op op_pow pe_int pe_int))))))
 (pss_one (ps_ret (pe_op op_mod (pv 2) (pv 1)))))))), ?_⟩
  obtain ⟨c, b, n, hp⟩ := id P0
  refine ⟨_, rfl, pen, _, _, _, rfl, rfl, SqL.of hp, rfl, b, rfl, ?_⟩
  refine ite2 (fun _ => ?_) (fun _ => ?_)
  · refine ⟨_, rfl, pen, _, _, _, rfl, rfl, SqL.of hp, rfl, _, rfl, _, _, rfl, rfl, s0, ?_⟩
    refine ⟨_, rfl, pen, _, _, _, rfl, rfl, SqL.of hp, rfl, _, rfl, _, _, rfl, rfl, ⟨s0, s1⟩, _, rfl, pen, _, _, 0, rfl, rfl, hp, rfl, _, rfl, ?_⟩
    exact q _ _ (Keep.set pen H _) ⟨_, _, _, upd_same⟩ (Int.emod_nonneg _ (by omega)) (Int.emod_lt_of_pos _ s0)
  · refine ⟨_, rfl, pen, rfl, P0, fun v H1 k1 P1 v0 => ?_⟩
    refine ⟨_, rfl, ?_⟩
    refine while_by (fun σ H2 => ∃ (f wd : Int), σ = [some (.ref pen), some (.int size), some (.int f), some (.int wd)] ∧ Keep pen H H2 ∧ PenM H2 pen) (fun σ _ => muT σ) ⟨v, size, rfl, k1, P1⟩ ?_ ?_
    · rintro σ H2 ⟨f, wd, rfl, k2, P2⟩
      refine ⟨_, rfl, _, _, rfl, rfl, ⟨by decide, by decide, by decide⟩, _, _, rfl, rfl, _, rfl, ?_⟩
      refine ite2 (fun c2 => ?_) (fun c2 => ?_)
      · have c2' : (10 : Int) ^ 8 < wd := of_decide_eq_true c2
        refine ⟨_, rfl, _, _, rfl, rfl, .inr ⟨by decide, by decide⟩, _, rfl, pen, rfl, P2, fun v3 H3 k3 P3 _ => ⟨_, _, rfl, rfl, ?_⟩⟩
        refine ⟨_, rfl, _, _, rfl, rfl, ⟨by decide, by decide, by decide⟩, _, _, rfl, rfl, ⟨by decide, by decide⟩, ⟨_, _, rfl, k2.trans k3, P3⟩, ?_⟩
        show (wd / (10 : Int) ^ 8).toNat < wd.toNat
        omega
      · refine ⟨_, rfl, _, rfl, _, _, rfl, rfl, s0, ?_⟩
        exact q _ _ k2 P2 (Int.emod_nonneg _ (by omega)) (Int.emod_lt_of_pos _ s0)
    · rintro σ H2 Q1 Q2 hq ⟨_, e0, i, j, e1, e2, e3, i2, j2, e4, e5, k, e6, h⟩
      exact ⟨_, e0, i, j, e1, e2, e3, i2, j2, e4, e5, k, e6, hq _ _ h⟩
theorem ok__law_bounds (d : Def K mg "_law_bounds" s__law_bounds ["_law_pen_here"]) (z : Bz mg) (c__law_take : Cal P w K mg base k__law_take "_law_take" ["_law_pen_here", "_law_size"] (sp__law_take K)) : Cal P w K mg base k__law_bounds "_law_bounds" ["_law_pen_here"] (sp__law_bounds K) := by
  have sc := sc__law_bounds
  refine d.cal fun f fd F => F.ok sc (fun vs H Q E h => ?_) (fun cdv A outer s H vs Q E hr h => ?_)
  · obtain ⟨pen, rfl, _⟩ := h
    rfl
  obtain ⟨pen, rfl, P0, q⟩ := h
  refine ⟨_, (pss_cons (ps_set (i := 1) sc.nd rfl (Or.inl rfl) (pe_ix ix_list (pe_lst (pa_cons pe_int (pa_cons pe_int (pa_cons pe_int (pa_cons pe_int (pa_cons pe_int (pa_cons pe_int (pa_cons pe_int (pa_cons pe_int pa_nil))))))))) (pe_fn c__law_take (hr.mono (by decide)) (by rfl) (pa_cons (pv 0) (pa_cons pe_int pa_nil))) (fun _ _ => rfl)))
 (pss_cons (ps_set (i := 2) sc.nd rfl (Or.inl rfl) (pe_fn c__law_take (hr.mono (by decide)) (by rfl) (pa_cons (pv 0) (pa_cons pe_int pa_nil))))
 (pss_cons (ps_set (i := 3) sc.nd rfl (Or.inl rfl) (pe_fn c__law_take (hr.mono (by decide)) (by rfl) (pa_cons (pv 0) (pa_cons (pe_ix ix_list (pe_lst (pa_cons pe_int (pa_cons pe_int (pa_cons pe_int (pa_cons (pe_op op_sub (pe_op op_mul pe_int (pe_op op_pow pe_int pe_int)) pe_int) pa_nil))))) (pv 2) (fun _ _ => rfl)) pa_nil))))
 (pss_one (ps_ret (pe_tup (pa_cons (pe_ix ix_list (pe_lst (pa_cons pe_int (pa_cons (pe_op op_sub pe_int (pv 3)) (pa_cons (pe_op op_sub (pe_op op_sub (pe_op op_pow pe_int pe_int) pe_int) (pv 3)) (pa_cons (pe_op op_add (pe_op op_sub (pv 3) (pe_op op_pow pe_int pe_int)) pe_int) pa_nil))))) (pv 2) (fun _ _ => rfl)) (pa_cons (pv 1) pa_nil)))))))), ?_⟩
  refine ⟨szb rfl, fun p hp => ?_⟩
  refine ⟨_, rfl, pen, 8, rfl, P0.new hp _, by decide, by decide, fun v1 H1 k1 P1 a1 b1 => ?_⟩
  obtain ⟨L', hm, hv⟩ := atI_ints (l := [0, 1, 2, 3, 4, 5, 8, 40]) a1 b1
  have hL : 0 ≤ L' ∧ L' ≤ 40 := by
    simp only [List.mem_cons, List.not_mem_nil, or_false] at hm
    omega
  obtain ⟨L, rfl⟩ := Int.eq_ofNat_of_zero_le hL.1
  have hL2 : L ≤ 40 := by omega
  refine ⟨p, _, _, _, rfl, rfl, SqL.of (k1 _ _ (P0.fresh hp) upd_same), hv, ?_⟩
  refine ⟨_, rfl, pen, 4, rfl, P1, by decide, by decide, fun v2 H2 k2 P2 a2 b2 => ?_⟩
  have k02 : Keep pen H H2 := (Keep.new hp _).trans (k1.trans k2)
  obtain ⟨S, hS, S0, S1, hlow⟩ : ∃ S : Int, atI [V.int 1, .int 20, .int 9, .int (2 * 10 ^ (40 : Int).toNat - 1)] v2 = some (.int S) ∧ 0 < S ∧ S < 10 ^ 60 ∧ ∀ x : Int, 0 ≤ x → x < S →
      ∃ y : Int, atI [V.int 0, .int (0 - x), .int (10 ^ (40 : Int).toNat - 1 - x), .int (x - 10 ^ (40 : Int).toNat + 1)] v2 = some (.int y) ∧ -(10 ^ 40) < y ∧ y < 10 ^ 40 := by
    have h4 : v2 = 0 ∨ v2 = 1 ∨ v2 = 2 ∨ v2 = 3 := by omega
    rcases h4 with rfl | rfl | rfl | rfl
    · exact ⟨1, rfl, by decide, by decide, fun x _ _ => ⟨0, rfl, by decide, by decide⟩⟩
    · exact ⟨20, rfl, by decide, by decide, fun x _ _ => ⟨_, rfl, by omega, by omega⟩⟩
    · refine ⟨9, rfl, by decide, by decide, fun x _ _ => ⟨_, rfl, ?_, ?_⟩⟩
      · show -(10 ^ 40) < (10 : Int) ^ 40 - 1 - x
        omega
      · show (10 : Int) ^ 40 - 1 - x < 10 ^ 40
        omega
    · refine ⟨_, rfl, by decide, by decide, fun x x0 x1 => ⟨_, rfl, ?_, ?_⟩⟩
      · show -(10 ^ 40) < x - (10 : Int) ^ 40 + 1
        omega
      · show x - (10 : Int) ^ 40 + 1 < 10 ^ 40
        have x1' : x < 2 * (10 : Int) ^ 40 - 1 := x1
        omega
  refine ⟨_, rfl, _, _, rfl, rfl, ⟨by decide, by decide, by decide⟩, _, _, rfl, rfl, .inl ⟨by decide, by decide⟩, _, _, rfl, rfl, szb rfl, fun p2 hp2 => ?_⟩
  refine ⟨_, rfl, p2, _, _, _, rfl, rfl, SqL.of upd_same, hS, pen, _, rfl, P2.new hp2 _, S0, S1, fun v3 H3 k3 P3 a3 b3 => ?_⟩
  obtain ⟨y, hy, y0, y1⟩ := hlow v3 a3 b3
  refine ⟨_, rfl, _, _, rfl, rfl, _, _, rfl, rfl, ⟨by decide, by decide, by decide⟩, _, _, rfl, rfl, _, rfl, _, _, rfl, rfl, _, rfl, _, _, rfl, rfl, ⟨by decide, by decide, by decide⟩, _, _, rfl, rfl, _, _, rfl, rfl, szb rfl, fun p3 hp3 => ?_⟩
  refine ⟨_, rfl, p3, _, _, _, rfl, rfl, SqL.of upd_same, hy, _, rfl, szb rfl, fun b hb => ?_⟩
  exact q b y L _ (k02.trans ((Keep.new hp2 _).trans (k3.trans ((Keep.new hp3 _).trans (Keep.new hb _))))) ((P3.new hp3 _).new hb _) upd_same hL2 y0 y1
theorem ok__law_row (d : Def K mg "_law_row" s__law_row ["_law_pen_here", "_law_bounds_here", "_law_longest"]) (z : Bz mg) (c__law_take : Cal P w K mg base k__law_take "_law_take" ["_law_pen_here", "_law_size"] (sp__law_take K)) : Cal P w K mg base k__law_row "_law_row" ["_law_pen_here", "_law_bounds_here", "_law_longest"] (sp__law_row K) := by
  have sc := sc__law_row
  refine d.cal fun f fd F => F.ok sc (fun vs H Q E h => ?_) (fun cdv A outer s H vs Q E hr h => ?_)
  · obtain ⟨pen, b, low, g, L, rfl, _⟩ := h
    rfl
  obtain ⟨pen, b, low, g, L, rfl, P0, hb, hL, g0, g1, q⟩ := h
  refine ⟨_, (pss_cons (ps_asg (pv 1) (pg_tup rfl (pgs_cons (pg_name (i := 3) sc.nd rfl (Or.inl rfl)) (pgs_cons (pg_name (i := 4) sc.nd rfl (Or.inl rfl)) pgs_nil))))
 (pss_cons (ps_set (i := 5) sc.nd rfl (Or.inr rfl) (pe_op op_shl pe_int (pv 4)))
 (pss_cons (ps_set (i := 6) sc.nd rfl (Or.inl rfl) (pe_fn c__law_take (hr.mono (by decide)) (by rfl) (pa_cons (pv 0) (pa_cons pe_int pa_nil))))
 (pss_cons (ps_setComp (i := 7) (cl := [("_law_size", s.heap.objs.size + 1 + 1), ("_law_pen_here", s.heap.objs.size + 1 + 0)]) (cn := ["_law_size", "_law_pen_here"]) (N := ["_law_pen_here", "_law_size"]) (fr := [0, 5]) (sc0 := defScope s__law_row) sc.nd rfl (Or.inl rfl) rfl (pi_range1 rfl z.range_ (pa_cons pe_int pa_nil)) (fun C s₂ H₂ fp => (pe_fn c__law_take (hr.mono (by decide)) (by rfl) (pa_cons (pv 1) (pa_cons (pv 2) pa_nil)))) (by with_unfolding_all rfl) ⟨by with_unfolding_all rfl, by with_unfolding_all rfl, trivial⟩ rfl rfl rfl ⟨by decide +kernel, by decide +kernel, by decide +kernel, by decide +kernel, by decide +kernel, by decide +kernel, by decide +kernel⟩ rfl (by with_unfolding_all rfl) (.inl rfl))
 (pss_cons (ps_set (i := 8) sc.nd rfl (Or.inl rfl) (pe_lst pa_nil))
 (pss_cons (ps_for PassesOwn.never rfl (pi_range1 rfl z.range_ (pa_cons (pe_fn c__law_take (hr.mono (by decide)) (by rfl) (pa_cons (pv 0) (pa_cons (pe_op op_add (pv 2) pe_int) pa_nil))) pa_nil)) (pg_name (i := 9) sc.nd rfl (Or.inl rfl))
  (pss_cons (ps_set (i := 10) sc.nd rfl (Or.inl rfl) (pe_fn c__law_take (hr.mono (by decide)) (by rfl) (pa_cons (pv 0) (pa_cons (pe_ix ix_list (pe_lst (pa_cons (pv 5) (pa_cons (pv 5) (pa_cons pe_int (pa_cons (pe_callB (call_min2 rfl) (by rfl) z.min_ bt_min (pa_cons (pv 5) (pa_cons pe_int pa_nil))) pa_nil))))) (pv 6) (fun _ _ => rfl)) pa_nil))))
 (pss_cons (ps_if (pt_cmpR op_eq (pv 6) pe_int (nomark _))
  (pss_one (ps_set (i := 10) sc.nd rfl (Or.inl rfl) (pe_ix ix_list (pv 7) (pv 10) (fun _ _ => rfl))))
  pss_nil)
 (pss_cons (ps_if (pt_cmpR op_eq (pv 6) pe_int (nomark _))
  (pss_one (ps_set (i := 10) sc.nd rfl (Or.inl rfl) (pe_op op_mod (pe_op op_add (pe_ix ix_list (pv 7) pe_int (fun _ _ => rfl)) (pv 10)) (pv 5))))
  pss_nil)
 (pss_one (ps_expr (pe_bm PySem.F.plainAttrs_list PySem.F.slot_list_append PySem.F.type_list_append mt_append (pv 8) (pa_cons (pe_op op_add (pv 3) (pv 10)) pa_nil))))))))
 (pss_one (ps_ret (pv 8))))))))), ?_⟩
  have hp := p2pos L
  have hq := p2le hL
  refine ⟨_, rfl, b, _, rfl, SqT.of hb, rfl, _, _, rfl, _, _, rfl, rfl, ?_⟩
  refine ⟨_, rfl, _, _, rfl, rfl, ⟨by omega, by omega, by decide⟩, ?_⟩
  dsimp only
  rw [shlOne]
  refine ⟨_, rfl, pen, 4, rfl, P0, by decide, by decide, fun wv H1 k1 P1 w0 w1 => ?_⟩
  refine ⟨3, rfl, by decide, by decide, fun D hD => ?_⟩
  have hD0 : H D = none := P1.free k1 hD
  have hDp : D ≠ pen := P1.fresh hD
  refine comp_range (n := 3) (sz (by decide)) (fun j ys H6 => ∃ fs : List Int, ys = fs.map V.int ∧ fs.length = j ∧ (∀ x ∈ fs, 0 ≤ x ∧ x < (2 : Int) ^ L) ∧ H6 D = some (.lst ys) ∧ Keep pen H H6 ∧ PenM H6 pen)
    ⟨[], rfl, rfl, fun x hx => absurd hx (by simp), upd_same, k1.own hD0, P1.new hD _⟩ (fun j ys H6 ⟨fs, e1, e2, _, e3, _⟩ => ⟨e3, by rw [e1, List.length_map]; exact e2⟩) ?_ ?_
  · rintro j ys H6 hj ⟨fs, e1, e2, e4, e3, k6, P6⟩
    refine ⟨_, rfl, _, rfl, pen, _, rfl, P6, hp, by omega, fun u3 H7 k7 P7 z0 z1 => ?_⟩
    have e3' : H7 D = some (.lst ys) := k7 _ _ hDp e3
    refine ⟨e3', fs ++ [u3], by rw [List.map_append, e1] <;> rfl, by rw [List.length_append, e2] <;> rfl, fun x hx => ?_, upd_same, (k6.trans k7).own hD0, P7.other hDp _⟩
    rcases List.mem_append.mp hx with h' | h'
    · exact e4 x h'
    · cases List.mem_singleton.mp h'
      exact ⟨z0, z1⟩
  · rintro ys H6 ⟨fs, e1, e2, e4, e3, k6, P6⟩
    rw [e1] at e3
    refine ⟨szb rfl, fun r hr => ?_⟩
    have hr0 : H r = none := P6.free k6 hr
    have hrD : D ≠ r := ne_of_none e3 hr
    have hrp : r ≠ pen := P6.fresh hr
    have P7 : PenM (upd H6 r (.lst [])) pen := P6.new hr _
    refine ⟨_, rfl, _, rfl, _, _, rfl, rfl, pen, _, rfl, P7, by omega, by omega, fun m H7 k7 P7 m0 m1 => ⟨m, rfl, by omega, by omega, for_range (n := m.toNat) (fun i σ H8 => ∃ (ns : List Int) (v9 v10 : Option V), σ = [some (.ref pen), some (.ref b), some (.int g), some (.int low), some (.int (L : Int)), some (.int (2 ^ L)), some (.int wv), some (.ref D), some (.ref r), v9, v10] ∧ H8 r = some (.lst (ns.map V.int)) ∧ ns.length = i ∧ Wths low L ns ∧
      H8 D = some (.lst (fs.map V.int)) ∧ Keep pen H H8 ∧ PenM H8 pen) ⟨[], _, _, rfl, k7 _ _ hrp upd_same, rfl, fun x hx => absurd hx (by simp), k7 _ _ hDp (by rw [upd_ne hrD]; exact e3), (k6.own hr0).trans k7, P7⟩ ?_ ?_⟩⟩
    · rintro i σ H8 hi ⟨ns, v9, v10, rfl, hr8, hl8, hw8, hD8, k8, P8⟩
      obtain ⟨S, hS, S0, S1, S2, S3⟩ : ∃ S : Int, atI [V.int (2 ^ L), .int (2 ^ L), .int 3, .int (if (5 : Int) < 2 ^ L then 5 else 2 ^ L)] wv = some (.int S) ∧ 0 < S ∧ S < 10 ^ 60 ∧ (wv = 2 → S = 3) ∧ (wv ≠ 2 → S ≤ 2 ^ L) := by
        have h4 : wv = 0 ∨ wv = 1 ∨ wv = 2 ∨ wv = 3 := by omega
        rcases h4 with rfl | rfl | rfl | rfl
        · exact ⟨_, rfl, hp, by omega, fun z => absurd z (by decide), fun _ => Int.le_refl _⟩
        · exact ⟨_, rfl, hp, by omega, fun z => absurd z (by decide), fun _ => Int.le_refl _⟩
        · exact ⟨3, rfl, by decide, by decide, fun _ => rfl, fun z => absurd rfl z⟩
        · refine ⟨_, rfl, ?_, ?_, fun z => absurd z (by decide), fun _ => ?_⟩
          · split <;> omega
          · split <;> omega
          · split <;> omega
      have fin : ∀ (y : Int) (v : Option V) (H9 : Hp), 0 ≤ y → y < 2 ^ L → Keep pen H8 H9 → PenM H9 pen → H9 r = some (.lst (ns.map V.int)) ∧ (ns.map V.int).length < sizeLine ∧
          ∃ (ns' : List Int) (v9' v10' : Option V), [some (V.ref pen), some (.ref b), some (.int g), some (.int low), some (.int (L : Int)), some (.int (2 ^ L)), some (.int wv), some (.ref D), some (.ref r), some (.int (0 + (i : Int))), v] = [some (V.ref pen), some (.ref b), some (.int g), some (.int low), some (.int (L : Int)), some (.int (2 ^ L)), some (.int wv), some (.ref D), some (.ref r), v9', v10'] ∧
            (upd H9 r (.lst (ns.map V.int ++ [.int (low + y)]))) r = some (.lst (ns'.map V.int)) ∧ ns'.length = i + 1 ∧ Wths low L ns' ∧ (upd H9 r (.lst (ns.map V.int ++ [.int (low + y)]))) D = some (.lst (fs.map V.int)) ∧ Keep pen H (upd H9 r (.lst (ns.map V.int ++ [.int (low + y)]))) ∧ PenM (upd H9 r (.lst (ns.map V.int ++ [.int (low + y)]))) pen := by
        intro y v H9 y0 y1 k9 P9
        have hr9 := k9 _ _ hrp hr8
        have hD9 := k9 _ _ hDp hD8
        refine ⟨hr9, by rw [List.length_map, hl8]; exact small1000 (by omega), ns ++ [low + y], _, _, rfl, ?_, by rw [List.length_append, hl8] <;> rfl, hw8.snoc (by omega) (by omega), by rw [upd_ne hrD]; exact hD9, (k8.trans k9).own hr0, P9.other hrp _⟩
        rw [upd_same, List.map_append]
        rfl
      refine ⟨_, rfl, _, rfl, _, rfl, _, rfl, _, _, rfl, szb rfl, fun p2 hp2 => ?_⟩
      refine ⟨_, rfl, p2, _, _, _, rfl, rfl, SqL.of upd_same, hS, pen, _, rfl, P8.new hp2 _, S0, S1, fun u H9 k9 P9 u0 u1 => ?_⟩
      have k89 : Keep pen H8 H9 := (Keep.new hp2 _).trans k9
      refine ⟨_, rfl, rfl, _, rfl, ?_⟩
      refine ite2 (fun c => ?_) (fun c => ?_)
      · have c' : wv = 2 := V.int.inj (of_decide_eq_true c)
        have e3S := S2 c'
        obtain ⟨fv, hm, hv⟩ := atI_ints (l := fs) (i := u) u0 (by omega)
        obtain ⟨y0, y1⟩ := e4 fv hm
        refine ⟨_, rfl, _, rfl, D, _, _, _, rfl, rfl, SqL.of (k89 _ _ hDp hD8), hv, ?_⟩
        refine ⟨_, rfl, rfl, _, rfl, ?_⟩
        refine ite2 (fun c3 => ?_) (fun c3 => ?_)
        · have c3' : wv = 3 := V.int.inj (of_decide_eq_true c3)
          omega
        · obtain ⟨f1, f2, f3⟩ := fin fv (some (.int fv)) H9 y0 y1 k89 P9
          exact ⟨_, rfl, .inl ⟨rfl, _, SqL.of f1⟩, _, rfl, _, rfl, _, _, rfl, rfl, r, _, _, rfl, rfl, f1, f2, f3⟩
      · have c' : wv ≠ 2 := fun z => c (decide_eq_true (by rw [z]))
        have e3S := S3 c'
        refine ⟨_, rfl, rfl, _, rfl, ?_⟩
        refine ite2 (fun c3 => ?_) (fun c3 => ?_)
        · obtain ⟨f0, hm, hv⟩ := atI_ints (l := fs) (i := 0) (by omega) (by omega)
          have b0 : 0 ≤ (f0 + u) % (2 : Int) ^ L := Int.emod_nonneg _ (by omega)
          have b1 : (f0 + u) % (2 : Int) ^ L < 2 ^ L := Int.emod_lt_of_pos _ hp
          refine ⟨_, rfl, D, _, _, _, rfl, rfl, SqL.of (k89 _ _ hDp hD8), hv, _, rfl, _, _, rfl, rfl, _, rfl, _, _, rfl, rfl, hp, ?_⟩
          obtain ⟨f1, f2, f3⟩ := fin ((f0 + u) % (2 : Int) ^ L) (some (.int ((f0 + u) % (2 : Int) ^ L))) H9 b0 b1 k89 P9
          exact ⟨_, rfl, .inl ⟨rfl, _, SqL.of f1⟩, _, rfl, _, rfl, _, _, rfl, rfl, r, _, _, rfl, rfl, f1, f2, f3⟩
        · obtain ⟨f1, f2, f3⟩ := fin u (some (.int u)) H9 u0 (by omega) k89 P9
          exact ⟨_, rfl, .inl ⟨rfl, _, SqL.of f1⟩, _, rfl, _, rfl, _, _, rfl, rfl, r, _, _, rfl, rfl, f1, f2, f3⟩
    · rintro σ H8 ⟨ns, v9, v10, rfl, hr8, hl8, hw8, hD8, k8, P8⟩
      exact ⟨_, rfl, q r ns _ k8 P8 hr8 hr0 (by omega) hw8⟩
end

/-! ### a number put in, a number taken out -/
def mkOf (mid n : Int) : Int := if n < mid then 0 else 1
theorem mk01 (mid n : Int) : mkOf mid n = 0 ∨ mkOf mid n = 1 := by
  unfold mkOf
  split
  · exact .inl rfl
  · exact .inr rfl
def loI (mid : Int) : Int → Bool := fun n => decide (n < mid)
def hiI (mid : Int) : Int → Bool := fun n => decide (mid ≤ n)
theorem cnt_lo {mid : Int} (l : List Int) : (l.map (mkOf mid)).count 0 = l.countP (loI mid) := by
  induction l with
  | nil => rfl
  | cons n l ih =>
    rw [List.map_cons, List.count_cons, List.countP_cons, ih]
    unfold mkOf loI
    by_cases c : n < mid
    · simp [c]
    · simp [c]
theorem cnt_hi {mid : Int} (l : List Int) : (l.map (mkOf mid)).count 1 = l.countP (hiI mid) := by
  induction l with
  | nil => rfl
  | cons n l ih =>
    rw [List.map_cons, List.count_cons, List.countP_cons, ih]
    unfold mkOf hiI
    by_cases c : n < mid
    · have c2 : ¬ mid ≤ n := by omega
      simp [c, c2]
    · have c2 : mid ≤ n := by omega
      simp [c, c2]
theorem Wths.lower {low : Int} {e : Nat} {ns : List Int} (h : Wths low (e + 1) ns) : Wths low e (ns.filter (loI (low + 2 ^ e))) := fun x hx => by
  obtain ⟨h1, h2⟩ := List.mem_filter.mp hx
  exact ⟨(h x h1).1, of_decide_eq_true h2⟩
theorem Wths.upper {low : Int} {e : Nat} {ns : List Int} (h : Wths low (e + 1) ns) : Wths (low + 2 ^ e) e (ns.filter (hiI (low + 2 ^ e))) := fun x hx => by
  obtain ⟨h1, h2⟩ := List.mem_filter.mp hx
  have := (h x h1).2
  rw [p2succ] at this
  exact ⟨of_decide_eq_true h2, by omega⟩
theorem grow_part {low : Int} {e : Nat} {ns : List Int} (h : ns ≠ []) : grow low (e + 1) ns = .part (ns.map (mkOf (low + 2 ^ e))) (grow low e (ns.filter (loI (low + 2 ^ e)))) (grow (low + 2 ^ e) e (ns.filter (hiI (low + 2 ^ e)))) := grow_succ h
theorem half_lo (low : Int) (e : Nat) (ns : List Int) : trHalf (grow low (e + 1) ns) 0 = grow low e (ns.filter (loI (low + 2 ^ e))) := by
  by_cases h : ns = []
  · rw [h, grow_nil, List.filter_nil, grow_nil]; rfl
  · rw [grow_part h]; rfl
theorem half_hi (low : Int) (e : Nat) (ns : List Int) : trHalf (grow low (e + 1) ns) 1 = grow (low + 2 ^ e) e (ns.filter (hiI (low + 2 ^ e))) := by
  by_cases h : ns = []
  · rw [h, grow_nil, List.filter_nil, grow_nil]; rfl
  · rw [grow_part h]; rfl
theorem filt_parts (p : Int → Bool) (ns : List Int) (pl : Nat) : ns.filter p = (ns.take pl).filter p ++ (ns.drop pl).filter p := by
  rw [← List.filter_append, List.take_append_drop]
theorem filt_take (p : Int → Bool) (ns : List Int) (pl : Nat) : (ns.filter p).take ((ns.take pl).countP p) = (ns.take pl).filter p := by
  rw [filt_parts p ns pl, List.countP_eq_length_filter]
  exact List.take_left
theorem filt_drop (p : Int → Bool) (ns : List Int) (pl : Nat) : (ns.filter p).drop ((ns.take pl).countP p) = (ns.drop pl).filter p := by
  rw [filt_parts p ns pl, List.countP_eq_length_filter]
  exact List.drop_left
def insAt (ns : List Int) (pl : Nat) (x : Int) : List Int := ns.take pl ++ x :: ns.drop pl
def hlf (mid mk : Int) : Int → Bool := if mk = 0 then loI mid else hiI mid
def lowOf (low : Int) (e : Nat) (mk : Int) : Int := if mk = 0 then low else low + 2 ^ e
theorem half_grow {low mk : Int} {e : Nat} {ns : List Int} (h : mk = 0 ∨ mk = 1) : trHalf (grow low (e + 1) ns) mk = grow (lowOf low e mk) e (ns.filter (hlf (low + 2 ^ e) mk)) := by
  rcases h with rfl | rfl
  · exact half_lo low e ns
  · exact half_hi low e ns
theorem cnt_half {mid mk : Int} {ns : List Int} {pl : Nat} (h : mk = 0 ∨ mk = 1) : ((ns.map (mkOf mid)).take pl).count mk = (ns.take pl).countP (hlf mid mk) := by
  rw [← List.map_take]
  rcases h with rfl | rfl
  · exact cnt_lo _
  · exact cnt_hi _
theorem Wths.half {low mk : Int} {e : Nat} {ns : List Int} (h : Wths low (e + 1) ns) (hk : mk = 0 ∨ mk = 1) : Wths (lowOf low e mk) e (ns.filter (hlf (low + 2 ^ e) mk)) := by
  rcases hk with rfl | rfl
  · exact h.lower
  · exact h.upper
def delAt (ns : List Int) (pl : Nat) : List Int := ns.take pl ++ ns.drop (pl + 1)
/-! ### what is plain: tuples, texts, None, whole numbers -/
def LeafV (v : V) : Prop := v = .non ∨ (∃ n, v = .int n) ∨ ∃ y, v = .str y
def PlnAt (K : PySem.W.Frag) (H : Hp) : Nat → V → Prop
  | 0, v => LeafV v
  | e + 1, v => LeafV v ∨ ∃ a xs, v = .ref a ∧ SqT K H a xs ∧ xs.length ≤ 1000 ∧ ∀ x ∈ xs, PlnAt K H e x
theorem pln_leaf {K : PySem.W.Frag} {H : Hp} {v : V} (h : LeafV v) : ∀ e, PlnAt K H e v
  | 0 => h
  | _ + 1 => .inl h
theorem PlnAt.same {K : PySem.W.Frag} {H H' : Hp} (s : Same H H') : ∀ {e : Nat} {v : V}, PlnAt K H e v → PlnAt K H' e v
  | 0, _, h => h
  | _ + 1, _, .inl h => .inl h
  | _ + 1, _, .inr ⟨a, xs, e1, h1, h2, h3⟩ => .inr ⟨a, xs, e1, s.seqT h1, h2, fun x hx => (h3 x hx).same s⟩
theorem pln_ints {K : PySem.W.Frag} {H : Hp} {m : Addr} {ms : List Int} (hm : SqT K H m (ms.map V.int)) (hl : ms.length ≤ 1000) (e : Nat) : PlnAt K H (e + 1) (.ref m) :=
  .inr ⟨m, _, rfl, hm, by rw [List.length_map]; exact hl, fun x hx => by
    obtain ⟨n, _, rfl⟩ := List.mem_map.mp hx
    exact pln_leaf (.inr (.inl ⟨n, rfl⟩)) e⟩
theorem pln_tree {K : PySem.W.Frag} {H : Hp} : ∀ (t : Tr) (v : V) (e : Nat), TreeAt H v t → t.deep + 2 ≤ e → Tr.fit 1000 t → PlnAt K H e v
  | .non, v, e, h, _, _ => pln_leaf (.inl h) e
  | .many n, v, 0, h, hd, _ => absurd hd (by omega)
  | .many n, v, e + 1, ⟨a, e1, h⟩, hd, _ => .inr ⟨a, _, e1, SqT.of h, (by decide : 2 ≤ 1000), fun x hx => by
    simp only [List.mem_cons, List.not_mem_nil, or_false] at hx
    rcases hx with rfl | rfl
    · exact pln_leaf (.inr (.inr ⟨_, rfl⟩)) e
    · exact pln_leaf (.inr (.inl ⟨_, rfl⟩)) e⟩
  | .part ms l r, v, 0, h, hd, _ => absurd hd (by omega)
  | .part ms l r, v, 1, h, hd, _ => absurd hd (by omega)
  | .part ms l r, v, e + 2, ⟨a, m, x, y, e1, h, hm, hl, hr⟩, hd, hf => .inr ⟨a, _, e1, SqT.of h, (by decide : 4 ≤ 1000), fun z hz => by
    have hd' : max l.deep r.deep + 1 + 2 ≤ e + 2 := hd
    simp only [List.mem_cons, List.not_mem_nil, or_false] at hz
    rcases hz with rfl | rfl | rfl | rfl
    · exact pln_leaf (.inr (.inr ⟨_, rfl⟩)) _
    · exact pln_ints hm.sq hf.1 e
    · exact pln_tree l _ _ hl (by omega) hf.2.1
    · exact pln_tree r _ _ hr (by omega) hf.2.2⟩
abbrev kb__law_plain : Nat := 0
abbrev kn__law_plain : Nat := 43
abbrev k__law_plain : Nat := 44
def spe__law_plain (K : PySem.W.Frag) (e : Nat) : Sp := fun vs H Q _ => ∃ (v : V), vs = [v] ∧ PlnAt K H e v ∧ ∀ H', Same H H' → Q (.bl true) H'
def sp__law_plain (K : PySem.W.Frag) : Sp := fun vs H Q E => ∃ e, e ≤ kn__law_plain ∧ spe__law_plain K e vs H Q E
abbrev k__law_is : Nat := 45
def sp__law_is (K : PySem.W.Frag) : Sp := fun vs H Q _ => ∃ (v : V) (b r : Addr) (low : Int) (L : Nat) (ns : List Int), vs = [v, .ref b, .ref r] ∧ SqT K H b [.int low, .int (L : Int)] ∧ L ≤ 40 ∧ SqL K H r (ns.map V.int) ∧ ns.length ≤ 1000 ∧ TreeAt H v (grow low L ns) ∧ ∀ H', Same H H' → Q (.bl true) H'
section
variable {P : Program} {w : World} {K : PySem.W.Frag} {mg : Str → Option Value} {base : Heap}
theorem ok__law_plain (d : Def K mg "_law_plain" s__law_plain ["_law_thing"]) (z : Bz mg)  : Cal P w K mg base k__law_plain "_law_plain" ["_law_thing"] (sp__law_plain K) := by
  have sc := sc__law_plain
  refine d.recur (k := kb__law_plain) (sp := spe__law_plain K) kn__law_plain fun e hen c__law_plain f fd F => F.ok sc (fun vs H Q E h => ?_) (fun cdv A outer s H vs Q E hr h => ?_)
  · obtain ⟨v, rfl, _⟩ := h
    rfl
  obtain ⟨v, rfl, hv, q⟩ := h
  refine ⟨_, (pss_cons (ps_if (pt_val (pe_callB (call_isP (K := K) rfl) (by rfl) z.isinstance_ bt_isinstance (pa_cons (pv 0) (pa_cons (pe_bltn (v := .ty "tuple") (u := .type "tuple") (by rfl) z.tuple_ bt_tuple rfl) pa_nil))))
  (pss_one (ps_ret (pe_cmpR op_eq (pe_callB call_len_seq (by rfl) z.len_ bt_len (pa_cons (pe_compIf (cl := []) (cn := []) (N := []) (fr := []) (sc0 := defScope s__law_plain) rfl (pi_tup (pv 0)) (fun C s₂ H₂ fp => (pv 0)) (fun C s₂ H₂ fp => (pt_not (pt_val (pe_fn c__law_plain (hr.mono (Nat.le_refl _)) (by rfl) (pa_cons (pv 0) pa_nil))))) (by with_unfolding_all rfl) trivial rfl rfl rfl ⟨by decide +kernel, by decide +kernel, by decide +kernel, by decide +kernel, by decide +kernel, by decide +kernel, by decide +kernel⟩ rfl) pa_nil)) pe_int (nomark _))))
  pss_nil)
 (pss_one (ps_ret (pe_or (pe_cmpR op_isN (pv 0) pe_non (nomark _)) (pe_one (pe_and (pe_callB (call_isIS (K := K) rfl) (by rfl) z.isinstance_ bt_isinstance (pa_cons (pv 0) (pa_cons (pe_tup (pa_cons (pe_bltn (v := .ty "int") (u := .type "int") (by rfl) z.int_ bt_int rfl) (pa_cons (pe_bltn (v := .ty "str") (u := .type "str") (by rfl) z.str_ bt_str rfl) pa_nil))) pa_nil))) (pe_one (pe_not (pe_callB (call_isP (K := K) rfl) (by rfl) z.isinstance_ bt_isinstance (pa_cons (pv 0) (pa_cons (pe_bltn (v := .ty "bool") (u := .type "bool") (by rfl) z.bool_ bt_bool rfl) pa_nil))))))))))), ?_⟩
  have hcase : LeafV v ∨ ∃ e' a xs, e = e' + 1 ∧ v = .ref a ∧ SqT K H a xs ∧ xs.length ≤ 1000 ∧ ∀ x ∈ xs, PlnAt K H e' x := by
    cases e with
    | zero => exact .inl hv
    | succ e =>
      rcases hv with h | ⟨a, xs, h⟩
      · exact .inl h
      · exact .inr ⟨e, a, xs, rfl, h⟩
  rcases hcase with (rfl | ⟨n, rfl⟩ | ⟨y, rfl⟩) | ⟨e', a, xs, rfl, rfl, ha, hl, hx⟩
  · refine ⟨_, rfl, _, _, _, _, rfl, .inl .non, kit_none_tuple, _, rfl, iteF ?_⟩
    refine ⟨_, rfl, rfl, _, rfl, ?_⟩
    exact ite2 (fun c => q H (Same.refl H)) (fun c => absurd (decide_eq_true rfl) c)
  · refine ⟨_, rfl, _, _, _, _, rfl, .inl (.int _), kit_int_tuple, _, rfl, iteF ?_⟩
    refine ⟨_, rfl, rfl, _, rfl, ?_⟩
    refine ite2 (fun c => absurd (of_decide_eq_true c) (by intro z; cases z)) (fun c => ?_)
    refine ⟨_, rfl, szb rfl, fun p hp => ⟨_, p, rfl, .inl ⟨_, rfl⟩, SqT.of upd_same, _, rfl, iteT ?_⟩⟩
    exact ⟨_, rfl, _, _, _, _, rfl, .inl (.int _), kit_int_bool, false, rfl, q _ (same_new hp _)⟩
  · refine ⟨_, rfl, _, _, _, _, rfl, .inl (.str _), kit_str_tuple, _, rfl, iteF ?_⟩
    refine ⟨_, rfl, rfl, _, rfl, ?_⟩
    refine ite2 (fun c => absurd (of_decide_eq_true c) (by intro z; cases z)) (fun c => ?_)
    refine ⟨_, rfl, szb rfl, fun p hp => ⟨_, p, rfl, .inr ⟨_, rfl⟩, SqT.of upd_same, _, rfl, iteT ?_⟩⟩
    exact ⟨_, rfl, _, _, _, _, rfl, .inl (.str _), kit_str_bool, false, rfl, q _ (same_new hp _)⟩
  · refine ⟨_, rfl, _, _, _, _, rfl, .inr ⟨a, xs, rfl, ha, rfl⟩, kit_tuple_tuple, _, rfl, iteT ?_⟩
    refine ⟨_, rfl, a, rfl, ⟨_, ha⟩, fun D hD => ?_⟩
    refine compIf_tupP (xs := xs) (sz hl) (fun i ys H2 => ys = [] ∧ Same H H2 ∧ H2 D = some (.lst [])) ⟨rfl, same_new hD _, upd_same⟩ (fun i ys H2 ⟨_, s2, _⟩ => s2.seqT ha) (fun i ys H2 ⟨e1, _, h2⟩ => ⟨by rw [e1]; exact h2, by rw [e1]; exact Nat.zero_le _⟩) ?_ ?_
    · rintro i x ys H2 hi ⟨rfl, s2, h2⟩
      have hlt : i < xs.length := (List.getElem?_eq_some_iff.mp hi).1
      exact ⟨_, rfl, x, rfl, (hx x (List.mem_of_getElem? hi)).same s2, fun H3 s3 => ⟨true, rfl, iteF ⟨xs.length - (i + 1), by omega, rfl, hlt, rfl, s2.trans s3, s3 _ _ h2⟩⟩⟩
    · rintro ys H2 ⟨rfl, s2, h2⟩
      refine ⟨D, [], rfl, .inl (SqL.of h2), rfl, ?_⟩
      have e0 : decide (V.int (([] : List V).length : Int) = V.int 0) = true := decide_eq_true rfl
      rw [e0]
      exact q H2 s2
theorem ok__law_is (d : Def K mg "_law_is" s__law_is ["_law_found", "_law_bounds_here", "_law_row_here"]) (z : Bz mg) (c__law_plain : Cal P w K mg base k__law_plain "_law_plain" ["_law_thing"] (sp__law_plain K)) (c__law_tree : Cal P w K mg base k__law_tree "_law_tree" ["_law_low", "_law_levels", "_law_row_here"] (sp__law_tree K)) : Cal P w K mg base k__law_is "_law_is" ["_law_found", "_law_bounds_here", "_law_row_here"] (sp__law_is K) := by
  have sc := sc__law_is
  refine d.cal fun f fd F => F.ok sc (fun vs H Q E h => ?_) (fun cdv A outer s H vs Q E hr h => ?_)
  · obtain ⟨v, b, r, low, L, ns, rfl, _⟩ := h
    rfl
  obtain ⟨v, b, r, low, L, ns, rfl, hb, hL, hr1, hl, ht, q⟩ := h
  refine ⟨_, (pss_one (ps_ret (pe_and (pe_fn c__law_plain (hr.mono (by decide)) (by rfl) (pa_cons (pv 0) pa_nil)) (pe_one (pe_cmpR (op_eqTr hr.units) (pv 0) (pe_fn c__law_tree (hr.mono (by decide)) (by rfl) (pa_cons (pe_ix ix_tup (pv 1) pe_int (fun _ _ => rfl)) (pa_cons (pe_ix ix_tup (pv 1) pe_int (fun _ _ => rfl)) (pa_cons (pv 2) pa_nil)))) (nomark _)))))), ?_⟩
  have hd := grow_deep L low ns
  refine ⟨_, rfl, 42, by decide, v, rfl, pln_tree _ _ _ ht (by omega) (grow_fit L low ns hl), fun H1 s1 => ⟨true, rfl, iteT ?_⟩⟩
  have hb1 := s1.seqT hb
  refine ⟨_, rfl, _, rfl, b, _, _, _, rfl, rfl, hb1, rfl, _, rfl, b, _, _, _, rfl, rfl, hb1, rfl, _, rfl, L, hL, low, r, ns, rfl, s1.seq hr1, hl, fun H2 u s2 hu => ?_⟩
  exact ⟨_, (ht.same s1).same s2, hu, by omega, q H2 (s1.trans s2)⟩
end

/-! ### stretches cut out, rows joined -/
def segI (ns : List Int) (st en : Nat) : List Int := (ns.take en).drop st
theorem seg_len {ns : List Int} {st en : Nat} (h : en ≤ ns.length) : (segI ns st en).length = en - st := by
  unfold segI
  rw [List.length_drop, List.length_take]
  omega
theorem seg_map (f : Int → Int) (ns : List Int) (st en : Nat) : (segI ns st en).map f = ((ns.map f).take en).drop st := by
  unfold segI
  rw [List.map_drop, List.map_take]
theorem take_le {ns : List Int} {st en : Nat} (h : st ≤ en) : (ns.take en).take st = ns.take st := by
  rw [List.take_take, Nat.min_eq_left h]
theorem seg_filter (p : Int → Bool) {ns : List Int} {st en : Nat} (h : st ≤ en) : (segI ns st en).filter p = segI (ns.filter p) ((ns.take st).countP p) ((ns.take en).countP p) := by
  have e := filt_drop p (ns.take en) st
  rw [take_le h] at e
  unfold segI
  rw [filt_take, e]
theorem cnt_mono (p : Int → Bool) {ns : List Int} {st en : Nat} (h : st ≤ en) : (ns.take st).countP p ≤ (ns.take en).countP p := by
  rw [← take_le h]
  exact List.Sublist.countP_le (List.take_sublist _ _)
theorem cnt_le (p : Int → Bool) (ns : List Int) (en : Nat) : (ns.take en).countP p ≤ (ns.filter p).length := by
  rw [← List.countP_eq_length_filter]
  exact List.Sublist.countP_le (List.take_sublist _ _)
theorem grow_non {low : Int} {e : Nat} {ns : List Int} {H : Hp} (h : TreeAt H .non (grow low e ns)) : ns = [] := by
  by_cases z : ns = []
  · exact z
  · cases e with
    | zero => rw [grow_zero z] at h; obtain ⟨a, e1, _⟩ := h; cases e1
    | succ e => rw [grow_part z] at h; obtain ⟨a, m, x, y, e1, _⟩ := h; cases e1
theorem cut_seg (ms : List Int) (st en : Nat) (h : st ≤ en) (h2 : en ≤ ms.length) : cutV (ms.map V.int) (some (st : Int)) (some (en : Int)) = ((ms.take en).drop st).map V.int := by
  unfold cutV
  rw [HT.sIx_nat, HT.sIx_nat, List.length_map, Nat.min_eq_left h2, Nat.min_eq_left (Nat.le_trans h h2), List.map_drop, List.map_take, List.drop_take]
abbrev k_led_stretch : Nat := 2
def sp_led_stretch (K : PySem.W.Frag) : Sp := fun vs H Q _ => ∃ (sa wy : Addr) (v : V) (st en : Nat) (low mk : Int) (e : Nat) (ns : List Int), vs = [.ref sa, .ref wy] ∧ SqT K H sa [v, .int (st : Int), .int (en : Int)] ∧ SqT K H wy [.int mk] ∧ (mk = 0 ∨ mk = 1) ∧ TreeAt H v (grow low (e + 1) ns) ∧
  ∀ (p : Addr) (u : V) (H' : Hp), Same H H' → H' p = some (.tup [u, .int ((ns.take st).countP (hlf (low + 2 ^ e) mk) : Nat), .int ((ns.take en).countP (hlf (low + 2 ^ e) mk) : Nat)]) → TreeAt H' u (grow (lowOf low e mk) e (ns.filter (hlf (low + 2 ^ e) mk))) → Q (.ref p) H'
section
variable {P : Program} {w : World} {K : PySem.W.Frag} {mg : Str → Option Value} {base : Heap}
theorem ok_led_stretch (d : Def K mg "led_stretch" s_led_stretch ["stretch", "way"]) (z : Bz mg) (c_ahead : Cal P w K mg base k_ahead "ahead" ["marks", "mark", "place"] (sp_ahead K)) (c_half_of : Cal P w K mg base k_half_of "half_of" ["tree", "mark"] (sp_half_of K)) : Cal P w K mg base k_led_stretch "led_stretch" ["stretch", "way"] (sp_led_stretch K) := by
  have sc := sc_led_stretch
  refine d.cal fun f fd F => F.ok sc (fun vs H Q E h => ?_) (fun cdv A outer s H vs Q E hr h => ?_)
  · obtain ⟨sa, wy, v, st, en, low, mk, e, ns, rfl, _⟩ := h
    rfl
  obtain ⟨sa, wy, v, st, en, low, mk, e, ns, rfl, hs, hwy, hmk, ht, q⟩ := h
  refine ⟨_, (pss_cons (ps_set (i := 2) sc.nd rfl (Or.inl rfl) (pe_ix ix_tup (pv 0) pe_int (fun _ _ => rfl)))
 (pss_cons (ps_set (i := 3) sc.nd rfl (Or.inl rfl) (pe_ix ix_tup (pv 0) pe_int (fun _ _ => rfl)))
 (pss_cons (ps_set (i := 4) sc.nd rfl (Or.inl rfl) (pe_ix ix_tup (pv 0) pe_int (fun _ _ => rfl)))
 (pss_cons (ps_for PassesOwn.never rfl (pi_tup (pv 1)) (pg_name (i := 5) sc.nd rfl (Or.inl rfl))
  (pss_cons (ps_set (i := 6) sc.nd rfl (Or.inl rfl) (pe_fn c_half_of (hr.mono (by decide)) (by rfl) (pa_cons (pv 2) (pa_cons (pv 5) pa_nil))))
 (pss_cons (ps_if (pt_cmpR op_isN (pv 6) pe_non (nomark _))
  (pss_one (ps_ret (pe_tup (pa_cons pe_non (pa_cons pe_int (pa_cons pe_int pa_nil))))))
  pss_nil)
 (pss_cons (ps_set (i := 3) sc.nd rfl (Or.inl rfl) (pe_fn c_ahead (hr.mono (by decide)) (by rfl) (pa_cons (pe_ix ix_tup (pv 2) pe_int (fun _ _ => rfl)) (pa_cons (pv 5) (pa_cons (pv 3) pa_nil)))))
 (pss_cons (ps_set (i := 4) sc.nd rfl (Or.inl rfl) (pe_fn c_ahead (hr.mono (by decide)) (by rfl) (pa_cons (pe_ix ix_tup (pv 2) pe_int (fun _ _ => rfl)) (pa_cons (pv 5) (pa_cons (pv 4) pa_nil)))))
 (pss_one (ps_set (i := 2) sc.nd rfl (Or.inl rfl) (pv 6))))))))
 (pss_one (ps_ret (pe_tup (pa_cons (pv 2) (pa_cons (pv 3) (pa_cons (pv 4) pa_nil)))))))))), ?_⟩
  refine ⟨_, rfl, sa, _, _, _, rfl, rfl, hs, rfl, ?_⟩
  refine ⟨_, rfl, sa, _, _, _, rfl, rfl, hs, rfl, ?_⟩
  refine ⟨_, rfl, sa, _, _, _, rfl, rfl, hs, rfl, ?_⟩
  refine ⟨_, rfl, wy, rfl, ⟨_, hwy⟩, for_tup (K := K) (a := wy) (xs := [V.int mk]) (fun i σ H2 => (i = 0 → H2 = H ∧ σ = [some (.ref sa), some (.ref wy), some v, some (.int (st : Int)), some (.int (en : Int)), none, none]) ∧
      (i ≠ 0 → ∃ (u : V) (v5 v6 : Option V), σ = [some (.ref sa), some (.ref wy), some u, some (.int ((ns.take st).countP (hlf (low + 2 ^ e) mk) : Nat)), some (.int ((ns.take en).countP (hlf (low + 2 ^ e) mk) : Nat)), v5, v6] ∧ Same H H2 ∧ TreeAt H2 u (grow (lowOf low e mk) e (ns.filter (hlf (low + 2 ^ e) mk)))) ∧ Same H H2)
    ⟨fun _ => ⟨rfl, rfl⟩, fun z => absurd rfl z, Same.refl H⟩ (fun i σ H2 _ ⟨_, _, s2⟩ => s2.seqT hwy) ?_ ?_⟩
  · rintro i x σ H2 hi ⟨h0, _, _⟩
    cases i with
    | succ i => cases hi
    | zero =>
      obtain ⟨rfl, rfl⟩ := h0 rfl
      cases hi
      refine ⟨_, rfl, _, rfl, v, _, mk, rfl, ht, hmk, fun h hh => ?_⟩
      rw [half_grow hmk] at hh
      refine ⟨_, rfl, rfl, _, rfl, ?_⟩
      refine ite2 (fun c => ?_) (fun c => ?_)
      · have c' : h = .non := of_decide_eq_true c
        subst c'
        have e0 := grow_non hh
        have z1 : (ns.take st).countP (hlf (low + 2 ^ e) mk) = 0 := by
          have := cnt_le (hlf (low + 2 ^ e) mk) ns st
          rw [e0, List.length_nil] at this
          omega
        have z2 : (ns.take en).countP (hlf (low + 2 ^ e) mk) = 0 := by
          have := cnt_le (hlf (low + 2 ^ e) mk) ns en
          rw [e0, List.length_nil] at this
          omega
        refine ⟨szb rfl, fun p hp => q p .non _ (same_new hp _) ?_ (hh.same (same_new hp _))⟩
        rw [z1, z2]
        exact upd_same
      · have hne : ns ≠ [] := fun z => c (by
          rw [z, List.filter_nil, grow_nil] at hh
          exact decide_eq_true hh)
        have ht1 := ht
        rw [grow_part hne] at ht1
        obtain ⟨a, m, x, y, rfl, ha, hm, _, _⟩ := ht1
        refine ⟨_, rfl, a, _, _, _, rfl, rfl, SqT.of ha, rfl, _, rfl, _, rfl, m, ns.map (mkOf (low + 2 ^ e)), mk, st, rfl, hm, fun H3 s3 => ?_⟩
        refine ⟨_, rfl, a, _, _, _, rfl, rfl, SqT.of (s3 _ _ ha), rfl, _, rfl, _, rfl, m, ns.map (mkOf (low + 2 ^ e)), mk, en, rfl, hm.same s3, fun H4 s4 => ?_⟩
        have s04 := s3.trans s4
        exact ⟨_, rfl, fun z => absurd z (by omega), fun _ => ⟨h, _, _, by rw [cnt_half hmk, cnt_half hmk] <;> rfl, s04, hh.same s04⟩, s04⟩
  · rintro σ H2 ⟨_, h1, _⟩
    obtain ⟨u, v5, v6, rfl, s2, hu⟩ := h1 (by intro z; cases z)
    refine ⟨_, rfl, _, rfl, _, rfl, szb rfl, fun p hp => q p u _ (s2.trans (same_new hp _)) upd_same (hu.same (same_new hp _))⟩
end
/-! ### crossed pairs -/
def crS (p : Int × Int) (m : Int) : Int × Int := if m = 1 then (p.1 + 1, p.2) else (p.1, p.2 + p.1)
def dueL : List Int → Int
  | [] => 0
  | m :: r => (if m = 1 then (r.count 0 : Int) else 0) + dueL r
def B01 (l : List Int) : Prop := ∀ m ∈ l, m = 0 ∨ m = 1
theorem cross_fold : ∀ (l : List Int) (o p : Int), B01 l → l.foldl crS (o, p) = (o + (l.count 1 : Int), p + o * (l.count 0 : Int) + dueL l)
  | [], o, p, _ => by simp [dueL]
  | m :: r, o, p, h => by
    have hr : B01 r := fun x hx => h x (List.mem_cons_of_mem _ hx)
    rw [List.foldl_cons]
    rcases h m List.mem_cons_self with rfl | rfl
    · have e : crS (o, p) 0 = (o, p + o) := by unfold crS; rw [if_neg (by decide)]
      rw [e, cross_fold r o (p + o) hr]
      simp only [List.count_cons, dueL]
      refine Prod.ext ?_ ?_
      · simp
      · simp [Int.mul_add]; omega
    · have e : crS (o, p) 1 = (o + 1, p) := by unfold crS; rw [if_pos rfl]
      rw [e, cross_fold r (o + 1) p hr]
      simp only [List.count_cons, dueL]
      refine Prod.ext ?_ ?_
      · simp; omega
      · simp [Int.add_mul]; omega
/-- the marks from a on, below b -/
def seg (ms : List Int) (a b : Nat) : List Int := (ms.take b).drop a
theorem segC_len {ms : List Int} {a b : Nat} (hb : b ≤ ms.length) : (seg ms a b).length = b - a := by
  unfold seg; rw [List.length_drop, List.length_take]; omega
theorem seg_get {ms : List Int} {a b i : Nat} (h : i < b - a) (hb : b ≤ ms.length) : ∃ m, (seg ms a b)[i]? = some m ∧ ms[a + i]? = some m := by
  have h1 : a + i < ms.length := by omega
  refine ⟨ms[a + i], ?_, List.getElem?_eq_getElem h1⟩
  unfold seg
  rw [List.getElem?_drop, List.getElem?_take_of_lt (by omega)]
  exact List.getElem?_eq_getElem h1
theorem seg_01 {ms : List Int} {a b : Nat} (h : B01 ms) : B01 (seg ms a b) := fun m hm => h m (List.mem_of_mem_take (List.mem_of_mem_drop hm))
theorem take_snoc {α : Type} {l : List α} {i : Nat} {x : α} (h : l[i]? = some x) : l.take (i + 1) = l.take i ++ [x] := by rw [List.take_add_one, h]; rfl
theorem fold_snoc {α β : Type} {f : β → α → β} {b : β} {l : List α} {i : Nat} {x : α} (h : l[i]? = some x) : (l.take (i + 1)).foldl f b = f ((l.take i).foldl f b) x := by
  rw [take_snoc h, List.foldl_append]; rfl
theorem cross2 {l : List Int} (h : B01 l) : (l.foldl crS (0, 0)).2 = dueL l := by rw [cross_fold l 0 0 h]; simp
/-! ### pairs that fall, rise, are alike -/
def invN : List Int → Nat
  | [] => 0
  | x :: l => l.countP (fun y => decide (y < x)) + invN l
def risN : List Int → Nat
  | [] => 0
  | x :: l => l.countP (fun y => decide (x < y)) + risN l
def alkN : List Int → Nat
  | [] => 0
  | x :: l => l.countP (fun y => decide (y = x)) + alkN l
theorem inv_half (mid : Int) : ∀ l : List Int, (invN l : Int) = dueL (l.map (mkOf mid)) + (invN (l.filter (loI mid)) : Int) + (invN (l.filter (hiI mid)) : Int)
  | [] => rfl
  | x :: l => by
    have ih := inv_half mid l
    have cnt0 : (l.map (mkOf mid)).count 0 = (l.filter (loI mid)).length := by
      rw [List.count_eq_countP, List.countP_map, ← List.countP_eq_length_filter]
      refine List.countP_congr fun y _ => ?_
      simp only [Function.comp, mkOf, loI, beq_iff_eq, decide_eq_true_eq]
      by_cases c : y < mid <;> simp [c]
    by_cases c : x < mid
    · have e1 : mkOf mid x = 0 := by unfold mkOf; rw [if_pos c]
      have e2 : loI mid x = true := decide_eq_true c
      have e3 : hiI mid x = false := by unfold hiI; simp; omega
      rw [List.map_cons, e1, List.filter_cons_of_pos e2, List.filter_cons_of_neg (by rw [e3]; decide)]
      simp only [invN, dueL]
      have e4 : (l.filter (loI mid)).countP (fun y => decide (y < x)) = l.countP (fun y => decide (y < x)) := by
        rw [List.countP_filter]
        refine List.countP_congr fun y _ => ?_
        simp only [loI, Bool.and_eq_true, decide_eq_true_eq]
        omega
      rw [e4, if_neg (by decide)]
      omega
    · have e1 : mkOf mid x = 1 := by unfold mkOf; rw [if_neg c]
      have e2 : loI mid x = false := decide_eq_false c
      have e3 : hiI mid x = true := by unfold hiI; simp; omega
      rw [List.map_cons, e1, List.filter_cons_of_neg (by rw [e2]; decide), List.filter_cons_of_pos e3]
      simp only [invN, dueL]
      have e4 : l.countP (fun y => decide (y < x)) = (l.filter (loI mid)).length + (l.filter (hiI mid)).countP (fun y => decide (y < x)) := by
        rw [← List.countP_eq_length_filter, List.countP_filter]
        clear ih cnt0
        induction l with
        | nil => rfl
        | cons y l ih =>
          rw [List.countP_cons, List.countP_cons, List.countP_cons, ih]
          by_cases d : y < mid
          · have d1 : y < x := by omega
            have d2 : ¬ mid ≤ y := by omega
            simp [loI, hiI, d, d1, d2]; omega
          · have d2 : mid ≤ y := by omega
            by_cases d1 : y < x <;> simp [loI, hiI, d, d1, d2] <;> omega
      rw [cnt0, if_pos trivial, e4]
      omega
theorem short_inv {l : List Int} (h : l.length < 2) : invN l = 0 ∧ alkN l = 0 := by
  match l, h with
  | [], _ => exact ⟨rfl, rfl⟩
  | [x], _ => exact ⟨rfl, rfl⟩
theorem due_zero {mid : Int} {l : List Int} (h : l.filter (loI mid) = [] ∨ l.filter (hiI mid) = []) : dueL (l.map (mkOf mid)) = 0 := by
  induction l with
  | nil => rfl
  | cons x l ih =>
    rw [List.map_cons]
    by_cases c : x < mid
    · have e1 : mkOf mid x = 0 := by unfold mkOf; rw [if_pos c]
      have e2 : loI mid x = true := decide_eq_true c
      have e3 : hiI mid x = false := by unfold hiI; simp; omega
      rw [List.filter_cons_of_pos e2, List.filter_cons_of_neg (by rw [e3]; decide)] at h
      rcases h with h | h
      · cases h
      · simp only [dueL, e1, if_neg (show ¬ (0 : Int) = 1 by decide), ih (.inr h)]
        rfl
    · have e1 : mkOf mid x = 1 := by unfold mkOf; rw [if_neg c]
      have e2 : loI mid x = false := decide_eq_false c
      have e3 : hiI mid x = true := by unfold hiI; simp; omega
      rw [List.filter_cons_of_neg (by rw [e2]; decide), List.filter_cons_of_pos e3] at h
      rcases h with h | h
      · have z : (l.map (mkOf mid)).count 0 = 0 := by
          rw [List.count_eq_zero]
          intro hm
          obtain ⟨y, hy, e⟩ := List.mem_map.mp hm
          have : ¬ y < mid := fun d => by
            have := List.filter_eq_nil_iff.mp h y hy
            exact this (decide_eq_true d)
          unfold mkOf at e
          rw [if_neg this] at e
          cases e
        simp only [dueL, e1, if_pos, ih (.inl h), z]
        rfl
      · cases h
theorem len_half (mid : Int) (l : List Int) : (l.filter (loI mid)).length + (l.filter (hiI mid)).length = l.length := by
  induction l with
  | nil => rfl
  | cons x l ih =>
    by_cases c : x < mid
    · have e2 : loI mid x = true := decide_eq_true c
      have e3 : hiI mid x = false := by unfold hiI; simp; omega
      rw [List.filter_cons_of_pos e2, List.filter_cons_of_neg (by rw [e3]; decide), List.length_cons, List.length_cons]
      omega
    · have e2 : loI mid x = false := decide_eq_false c
      have e3 : hiI mid x = true := by unfold hiI; simp; omega
      rw [List.filter_cons_of_neg (by rw [e2]; decide), List.filter_cons_of_pos e3, List.length_cons, List.length_cons]
      omega
theorem due_nonneg : ∀ l : List Int, 0 ≤ dueL l
  | [] => Int.le_refl _
  | m :: r => by
    have ih := due_nonneg r
    simp only [dueL]
    by_cases c : m = 1
    · rw [if_pos c]; omega
    · rw [if_neg c]; omega
/-! ### what falls, by ways -/
abbrev WM := List Int × Int
def fwv : Nat → Int → List Int → List WM
  | 0, _, _ => []
  | e + 1, low, l => (if 0 < dueL (l.map (mkOf (low + 2 ^ e))) then [([], dueL (l.map (mkOf (low + 2 ^ e))))] else []) ++ (fwv e low (l.filter (loI (low + 2 ^ e)))).map (fun p => (0 :: p.1, p.2)) ++ (fwv e (low + 2 ^ e) (l.filter (hiI (low + 2 ^ e)))).map (fun p => (1 :: p.1, p.2))
theorem fwv_succ (e : Nat) (low : Int) (l : List Int) : fwv (e + 1) low l = (if 0 < dueL (l.map (mkOf (low + 2 ^ e))) then [([], dueL (l.map (mkOf (low + 2 ^ e))))] else []) ++ (fwv e low (l.filter (loI (low + 2 ^ e)))).map (fun p => (0 :: p.1, p.2)) ++ (fwv e (low + 2 ^ e) (l.filter (hiI (low + 2 ^ e)))).map (fun p => (1 :: p.1, p.2)) := rfl
def pre (ws : List Int) (ms : List WM) : List WM := ms.map fun p => (ws ++ p.1, p.2)
theorem pre_app (ws : List Int) (a b : List WM) : pre ws (a ++ b) = pre ws a ++ pre ws b := List.map_append
theorem pre_snoc (ws : List Int) (mk : Int) (a : List WM) : pre (ws ++ [mk]) a = pre ws (a.map fun p => (mk :: p.1, p.2)) := by
  unfold pre
  rw [List.map_map]
  apply List.map_congr_left
  intro p _
  show (ws ++ [mk] ++ p.1, p.2) = (ws ++ mk :: p.1, p.2)
  rw [List.append_assoc]
  rfl
theorem pre_nil (a : List WM) : pre [] a = a := by
  unfold pre
  exact List.map_id _
theorem fwv_short : ∀ (e : Nat) (low : Int) (l : List Int), l.length < 2 → fwv e low l = []
  | 0, _, _, _ => rfl
  | e + 1, low, l, h => by
    have h1 := short_inv h
    have h2 := inv_half (low + 2 ^ e) l
    have h3 := due_nonneg (l.map (mkOf (low + 2 ^ e)))
    rw [h1.1] at h2
    have h4 := List.length_filter_le (loI (low + 2 ^ e)) l
    have h5 := List.length_filter_le (hiI (low + 2 ^ e)) l
    rw [fwv_succ, if_neg (by omega), fwv_short e low _ (by omega), fwv_short e _ _ (by omega)]
    rfl
/-- the way of all halves in which two worths lie -/
def cway : Nat → Int → Int → Int → List Int
  | 0, _, _, _ => []
  | e + 1, low, y, x => if mkOf (low + 2 ^ e) y = mkOf (low + 2 ^ e) x then mkOf (low + 2 ^ e) y :: cway e (lowOf low e (mkOf (low + 2 ^ e) y)) y x else []
theorem cway_succ (e : Nat) (low y x : Int) : cway (e + 1) low y x = if mkOf (low + 2 ^ e) y = mkOf (low + 2 ^ e) x then mkOf (low + 2 ^ e) y :: cway e (lowOf low e (mkOf (low + 2 ^ e) y)) y x else [] := rfl
/-- how many pairs fall at a way -/
def nW (e : Nat) (low : Int) (w : List Int) : List Int → Nat
  | [] => 0
  | x :: l => l.countP (fun y => decide (y < x) && decide (cway e low x y = w)) + nW e low w l
theorem nW_snoc (e : Nat) (low : Int) (w : List Int) (x : Int) : ∀ l : List Int, nW e low w (l ++ [x]) = nW e low w l + l.countP (fun y => decide (x < y) && decide (cway e low y x = w))
  | [] => rfl
  | z :: l => by
    rw [List.cons_append]
    simp only [nW]
    rw [nW_snoc e low w x l, List.countP_append, List.countP_singleton, List.countP_cons]
    omega
theorem nW_zero {low : Int} (w : List Int) : ∀ {l : List Int}, (∀ x ∈ l, x = low) → nW 0 low w l = 0
  | [], _ => rfl
  | x :: l, h => by
    simp only [nW]
    rw [nW_zero w fun y hy => h y (List.mem_cons_of_mem _ hy), List.countP_eq_zero.mpr fun y hy => ?_]
    rw [h x List.mem_cons_self, h y (List.mem_cons_of_mem _ hy)]
    simp
theorem mkOf_lo {mid n : Int} (h : n < mid) : mkOf mid n = 0 := if_pos h
theorem mkOf_hi {mid n : Int} (h : mid ≤ n) : mkOf mid n = 1 := if_neg (by omega)
theorem cnt_hi0 {mid : Int} (l : List Int) : (l.map (mkOf mid)).count 0 = l.countP (fun y => decide (y < mid)) := cnt_lo l
theorem nW_own (e : Nat) (low : Int) : ∀ l : List Int, (nW (e + 1) low [] l : Int) = dueL (l.map (mkOf (low + 2 ^ e)))
  | [] => rfl
  | x :: l => by
    have ih := nW_own e low l
    simp only [nW, List.map_cons, dueL]
    rw [cnt_hi0, ← ih]
    by_cases c : x < low + 2 ^ e
    · rw [mkOf_lo c, if_neg (by decide), List.countP_eq_zero.mpr fun y hy => ?_]
      · simp
      · intro z
        rw [Bool.and_eq_true, decide_eq_true_eq, decide_eq_true_eq, cway_succ, mkOf_lo c] at z
        obtain ⟨z1, z2⟩ := z
        rw [mkOf_lo (by omega), if_pos rfl] at z2
        cases z2
    · rw [mkOf_hi (by omega), if_pos rfl]
      have e1 : l.countP (fun y => decide (y < x) && decide (cway (e + 1) low x y = [])) = l.countP (fun y => decide (y < low + 2 ^ e)) := by
        apply List.countP_congr
        intro y _
        rw [Bool.and_eq_true, decide_eq_true_eq, decide_eq_true_eq, decide_eq_true_eq, cway_succ, mkOf_hi (by omega : low + 2 ^ e ≤ x)]
        constructor
        · rintro ⟨_, z⟩
          apply Classical.byContradiction
          intro n
          rw [mkOf_hi (by omega), if_pos rfl] at z
          cases z
        · intro z
          rw [mkOf_lo z, if_neg (by decide)]
          exact ⟨by omega, rfl⟩
      rw [e1]
      omega
theorem nW_half (e : Nat) (low mk : Int) (hmk : mk = 0 ∨ mk = 1) (w : List Int) : ∀ l : List Int, nW (e + 1) low (mk :: w) l = nW e (lowOf low e mk) w (l.filter (hlf (low + 2 ^ e) mk))
  | [] => rfl
  | x :: l => by
    have ih := nW_half e low mk hmk w l
    simp only [nW]
    rw [ih]
    have hx : hlf (low + 2 ^ e) mk x = decide (mkOf (low + 2 ^ e) x = mk) := by
      rcases hmk with rfl | rfl
      · show decide (x < low + 2 ^ e) = _
        by_cases c : x < low + 2 ^ e
        · rw [mkOf_lo c, decide_eq_true c]; rfl
        · rw [mkOf_hi (by omega), decide_eq_false c]; rfl
      · show decide (low + 2 ^ e ≤ x) = _
        by_cases c : x < low + 2 ^ e
        · rw [mkOf_lo c, decide_eq_false (by omega)]; rfl
        · rw [mkOf_hi (by omega), decide_eq_true (by omega)]; rfl
    by_cases c : mkOf (low + 2 ^ e) x = mk
    · rw [List.filter_cons_of_pos (by rw [hx, decide_eq_true c])]
      simp only [nW]
      congr 1
      rw [List.countP_filter]
      apply List.countP_congr
      intro y _
      have hy : hlf (low + 2 ^ e) mk y = decide (mkOf (low + 2 ^ e) y = mk) := by
        rcases hmk with rfl | rfl
        · show decide (y < low + 2 ^ e) = _
          by_cases c : y < low + 2 ^ e
          · rw [mkOf_lo c, decide_eq_true c]; rfl
          · rw [mkOf_hi (by omega), decide_eq_false c]; rfl
        · show decide (low + 2 ^ e ≤ y) = _
          by_cases c : y < low + 2 ^ e
          · rw [mkOf_lo c, decide_eq_false (by omega)]; rfl
          · rw [mkOf_hi (by omega), decide_eq_true (by omega)]; rfl
      rw [hy, Bool.and_eq_true, Bool.and_eq_true, Bool.and_eq_true, decide_eq_true_eq, decide_eq_true_eq, decide_eq_true_eq, decide_eq_true_eq, cway_succ, c]
      constructor
      · rintro ⟨z1, z2⟩
        by_cases d : mk = mkOf (low + 2 ^ e) y
        · rw [if_pos d] at z2
          injection z2 with _ z2
          exact ⟨⟨z1, z2⟩, d.symm⟩
        · rw [if_neg d] at z2
          cases z2
      · rintro ⟨⟨z1, z2⟩, d⟩
        rw [if_pos d.symm, z2]
        exact ⟨z1, rfl⟩
    · rw [List.filter_cons_of_neg (by rw [hx, decide_eq_false c]; decide), List.countP_eq_zero.mpr fun y hy => ?_, Nat.zero_add]
      intro z
      rw [Bool.and_eq_true, decide_eq_true_eq, decide_eq_true_eq, cway_succ] at z
      obtain ⟨z1, z2⟩ := z
      by_cases d : mkOf (low + 2 ^ e) x = mkOf (low + 2 ^ e) y
      · rw [if_pos d] at z2
        injection z2 with z2 _
        exact c z2
      · rw [if_neg d] at z2
        cases z2
theorem nW_other (e : Nat) (low mk : Int) (hmk : ¬ (mk = 0 ∨ mk = 1)) (w : List Int) : ∀ l : List Int, nW (e + 1) low (mk :: w) l = 0
  | [] => rfl
  | x :: l => by
    simp only [nW]
    rw [nW_other e low mk hmk w l, List.countP_eq_zero.mpr fun y hy => ?_]
    intro z
    rw [Bool.and_eq_true, decide_eq_true_eq, decide_eq_true_eq, cway_succ] at z
    obtain ⟨z1, z2⟩ := z
    by_cases d : mkOf (low + 2 ^ e) x = mkOf (low + 2 ^ e) y
    · rw [if_pos d] at z2
      injection z2 with z2 _
      exact hmk (z2 ▸ mk01 _ _)
    · rw [if_neg d] at z2
      cases z2
theorem fwv_mem : ∀ (e : Nat) (low : Int) (l : List Int), Wths low e l → ∀ (w : List Int) (m : Int), (w, m) ∈ fwv e low l ↔ (m = (nW e low w l : Int) ∧ 0 < m)
  | 0, low, l, h, w, m => by
    rw [nW_zero w fun x hx => by
      have := h x hx
      have e1 : (2 : Int) ^ 0 = 1 := rfl
      omega]
    exact ⟨fun z => absurd z (by simp [fwv]), fun z => by omega⟩
  | e + 1, low, l, h, w, m => by
    have h0 := fwv_mem e low (l.filter (loI (low + 2 ^ e))) (Wths.half h (mk := 0) (.inl rfl))
    have h1 := fwv_mem e (low + 2 ^ e) (l.filter (hiI (low + 2 ^ e))) (Wths.half h (mk := 1) (.inr rfl))
    have mem : ∀ (mk : Int) (ms : List WM), (w, m) ∈ ms.map (fun p => (mk :: p.1, p.2)) ↔ ∃ w', w = mk :: w' ∧ (w', m) ∈ ms := fun mk ms => by
      constructor
      · intro z
        obtain ⟨p, hp, e⟩ := List.mem_map.mp z
        injection e with e1 e2
        exact ⟨p.1, e1.symm, e2 ▸ hp⟩
      · rintro ⟨w', rfl, z⟩
        exact List.mem_map.mpr ⟨_, z, rfl⟩
    rw [fwv_succ, List.mem_append, List.mem_append, mem, mem]
    have own : (w, m) ∈ (if 0 < dueL (l.map (mkOf (low + 2 ^ e))) then [(([] : List Int), dueL (l.map (mkOf (low + 2 ^ e))))] else []) ↔ (w = [] ∧ m = dueL (l.map (mkOf (low + 2 ^ e))) ∧ 0 < m) := by
      by_cases c : 0 < dueL (l.map (mkOf (low + 2 ^ e)))
      · rw [if_pos c, List.mem_singleton, Prod.mk.injEq]
        exact ⟨fun ⟨a, b⟩ => ⟨a, b, b ▸ c⟩, fun ⟨a, b, _⟩ => ⟨a, b⟩⟩
      · rw [if_neg c]
        exact ⟨fun z => absurd z (by simp), fun ⟨_, b, d⟩ => absurd (b ▸ d) c⟩
    rw [own]
    cases w with
    | nil =>
      rw [nW_own]
      constructor
      · rintro ((⟨_, a, b⟩ | ⟨_, e1, _⟩) | ⟨_, e1, _⟩)
        · exact ⟨a, b⟩
        · cases e1
        · cases e1
      · rintro ⟨a, b⟩
        exact .inl (.inl ⟨rfl, a, b⟩)
    | cons mk w =>
      by_cases c0 : mk = 0
      · subst c0
        rw [nW_half e low 0 (.inl rfl) w l]
        constructor
        · rintro ((⟨e1, _⟩ | ⟨w', e1, z⟩) | ⟨_, e1, _⟩)
          · cases e1
          · cases e1
            exact (h0 _ _).mp z
          · injection e1 with e1 _
            cases e1
        · intro z
          exact .inl (.inr ⟨w, rfl, (h0 _ _).mpr z⟩)
      by_cases c1 : mk = 1
      · subst c1
        rw [nW_half e low 1 (.inr rfl) w l]
        constructor
        · rintro ((⟨e1, _⟩ | ⟨w', e1, z⟩) | ⟨_, e1, z⟩)
          · cases e1
          · injection e1 with e1 _
            cases e1
          · cases e1
            exact (h1 _ _).mp z
        · intro z
          exact .inr ⟨w, rfl, (h1 _ _).mpr z⟩
      · rw [nW_other e low mk (fun z => z.elim c0 c1) w l]
        constructor
        · rintro ((⟨e1, _⟩ | ⟨w', e1, z⟩) | ⟨_, e1, z⟩)
          · cases e1
          · injection e1 with e1 _
            exact absurd e1 c0
          · injection e1 with e1 _
            exact absurd e1 c1
        · intro z
          omega
abbrev wLt (p q : WM) : Prop := HT.lexLt p.1 q.1 = true
theorem wLt_cons (mk : Int) {ms : List WM} (h : ms.Pairwise wLt) : (ms.map fun p => ((mk :: p.1, p.2) : WM)).Pairwise wLt := by
  rw [List.pairwise_map]
  refine h.imp fun {a b} z => ?_
  show HT.lexLt (mk :: a.1) (mk :: b.1) = true
  rw [HT.lexLt_cons, if_pos rfl]
  exact z
theorem fwv_up : ∀ (e : Nat) (low : Int) (l : List Int), (fwv e low l).Pairwise wLt
  | 0, _, _ => .nil
  | e + 1, low, l => by
    rw [fwv_succ, List.pairwise_append, List.pairwise_append]
    refine ⟨⟨?_, wLt_cons 0 (fwv_up e low _), fun a ha b hb => ?_⟩, wLt_cons 1 (fwv_up e _ _), fun a ha b hb => ?_⟩
    · split
      · exact List.pairwise_singleton _ _
      · exact .nil
    · obtain ⟨q, _, rfl⟩ := List.mem_map.mp hb
      split at ha
      · cases List.mem_singleton.mp ha
        rfl
      · cases ha
    · obtain ⟨q, _, rfl⟩ := List.mem_map.mp hb
      rcases List.mem_append.mp ha with ha | ha
      · split at ha
        · cases List.mem_singleton.mp ha
          rfl
        · cases ha
      · obtain ⟨p, _, rfl⟩ := List.mem_map.mp ha
        rfl
theorem eq_strict {α : Type} {R : α → α → Prop} (as : ∀ a b, R a b → R b a → False) : ∀ {a b : List α}, a.Pairwise R → b.Pairwise R → (∀ x, x ∈ a ↔ x ∈ b) → a = b
  | [], [], _, _, _ => rfl
  | [], y :: b, _, _, h => absurd ((h y).mpr List.mem_cons_self) (by simp)
  | x :: a, [], _, _, h => absurd ((h x).mp List.mem_cons_self) (by simp)
  | x :: a, y :: b, ha, hb, h => by
    rw [List.pairwise_cons] at ha hb
    have exy : x = y := by
      rcases List.mem_cons.mp ((h x).mp List.mem_cons_self) with z | z
      · exact z
      · rcases List.mem_cons.mp ((h y).mpr List.mem_cons_self) with z' | z'
        · exact z'.symm
        · exact (as _ _ (ha.1 y z') (hb.1 x z)).elim
    subst exy
    rw [eq_strict as ha.2 hb.2 fun u => ?_]
    constructor
    · intro z
      rcases List.mem_cons.mp ((h u).mp (List.mem_cons_of_mem _ z)) with e | e
      · subst e
        exact (as _ _ (ha.1 u z) (ha.1 u z)).elim
      · exact e
    · intro z
      rcases List.mem_cons.mp ((h u).mpr (List.mem_cons_of_mem _ z)) with e | e
      · subst e
        exact (as _ _ (hb.1 u z) (hb.1 u z)).elim
      · exact e
def AllAt {α : Type} (R : Hp → V → α → Prop) (H : Hp) (xs : List V) (ps : List α) : Prop := xs.length = ps.length ∧ ∀ (j : Nat) (x : V) (p : α), xs[j]? = some x → ps[j]? = some p → R H x p
section
variable {α : Type} {R : Hp → V → α → Prop} {H H' : Hp} {xs ys : List V} {ps qs : List α}
theorem AllAt.imp (h : AllAt R H xs ps) (f : ∀ x p, R H x p → R H' x p) : AllAt R H' xs ps := ⟨h.1, fun j x p h1 h2 => f x p (h.2 j x p h1 h2)⟩
theorem AllAt.nil : AllAt R H [] [] := ⟨rfl, fun j x p h1 _ => by simp at h1⟩
theorem AllAt.get (h : AllAt R H xs ps) {j : Nat} {x : V} (hx : xs[j]? = some x) : ∃ p, ps[j]? = some p ∧ R H x p := by
  have hj : j < ps.length := by rw [← h.1]; exact (List.getElem?_eq_some_iff.mp hx).1
  exact ⟨ps[j], List.getElem?_eq_getElem hj, h.2 j x ps[j] hx (List.getElem?_eq_getElem hj)⟩
theorem AllAt.app (h : AllAt R H xs ps) (k : AllAt R H ys qs) : AllAt R H (xs ++ ys) (ps ++ qs) := by
  refine ⟨by rw [List.length_append, List.length_append, h.1, k.1], fun j y p h1 h2 => ?_⟩
  by_cases c : j < xs.length
  · rw [List.getElem?_append_left c] at h1
    rw [List.getElem?_append_left (by rw [← h.1]; exact c)] at h2
    exact h.2 j y p h1 h2
  · rw [List.getElem?_append_right (by omega)] at h1
    rw [List.getElem?_append_right (by rw [← h.1]; omega), ← h.1] at h2
    exact k.2 _ y p h1 h2
theorem AllAt.one {x : V} {p : α} (h : R H x p) : AllAt R H [x] [p] := ⟨rfl, fun j y q h1 h2 => by
  match j, h1, h2 with
  | 0, h1, h2 => cases h1; cases h2; exact h⟩
end
/-- a way with how many fall there -/
def FwR (K : PySem.W.Frag) (H : Hp) (v : V) (p : WM) : Prop := ∃ a w, v = .ref a ∧ H a = some (.tup [.ref w, .int p.2]) ∧ SqT K H w (p.1.map V.int)
theorem sqT_tk {K : PySem.W.Frag} {H H' : Hp} (k : TKeep H H') {a : Addr} {xs : List V} (h : SqT K H a xs) : SqT K H' a xs := by
  rcases h with (h | ⟨o, h⟩) | h
  · exact .inl (.inl ((k _ _).1 h))
  · exact .inl (.inr ⟨o, (k _ _).2 o h⟩)
  · exact .inr h
theorem FwR.tk {K : PySem.W.Frag} {H H' : Hp} (k : TKeep H H') {v : V} {p : WM} (h : FwR K H v p) : FwR K H' v p := by
  obtain ⟨a, w, e, h1, h2⟩ := h
  exact ⟨a, w, e, (k _ _).1 h1, sqT_tk k h2⟩
theorem fw_tk {K : PySem.W.Frag} {H H' : Hp} {xs : List V} {ms : List WM} (h : AllAt (FwR K) H xs ms) (k : TKeep H H') : AllAt (FwR K) H' xs ms := h.imp fun _ _ z => z.tk k
theorem own2 {H H' : Hp} {r : Addr} {o : HO} (k : Same H H') (hr : H r = none) : Same H (upd H' r o) := fun c u z => by
  rw [upd_ne (ne_of_none z hr)]
  exact k c u z
theorem segI_mem {ns : List Int} {st en : Nat} {x : Int} (h : x ∈ segI ns st en) : x ∈ ns := List.mem_of_mem_take (List.mem_of_mem_drop h)
abbrev k_crossed : Nat := 1
def sp_crossed (K : PySem.W.Frag) : Sp := fun vs H Q _ => ∃ (t : Addr) (ms : List Int) (a b : Nat), vs = [.ref t, .int (a : Int), .int (b : Int)] ∧ SqT K H t (ms.map V.int) ∧ a ≤ b ∧ b ≤ ms.length ∧ ms.length ≤ 1000 ∧ Q (.int ((seg ms a b).foldl crS (0, 0)).2) H
theorem at_nat {ms : List Int} {a i : Nat} {m : Int} (h : ms[a + i]? = some m) : atI (ms.map V.int) ((a : Int) + (i : Int)) = some (.int m) := by
  have e : (a : Int) + (i : Int) = ((a + i : Nat) : Int) := by omega
  rw [e]
  exact atI_nat (by rw [List.getElem?_map, h] <;> rfl)
abbrev kb_falls_from : Nat := 2
abbrev kn_falls_from : Nat := 40
abbrev k_falls_from : Nat := 43
def spe_falls_from (K : PySem.W.Frag) (e : Nat) : Sp := fun vs H Q _ => ∃ (sa wy : Addr) (v : V) (st en : Nat) (low : Int) (ns ws : List Int), vs = [.ref sa, .ref wy] ∧ SqT K H sa [v, .int (st : Int), .int (en : Int)] ∧ TreeAt H v (grow low e ns) ∧ Wths low e ns ∧ st ≤ en ∧ en ≤ ns.length ∧ ns.length ≤ 900 ∧ SqT K H wy (ws.map V.int) ∧ ws.length + e ≤ 40 ∧
  ∀ (D : Addr) (zs : List V) (H' : Hp), Same H H' → H D = none → H' D = some (.lst zs) → AllAt (FwR K) H' zs (pre ws (fwv e low (segI ns st en))) → zs.length ≤ (segI ns st en).length - 1 → Q (.ref D) H'
def sp_falls_from (K : PySem.W.Frag) : Sp := fun vs H Q E => ∃ e, e ≤ kn_falls_from ∧ spe_falls_from K e vs H Q E
/-- a stretch, as it is handed in -/
def StA (K : PySem.W.Frag) (H : Hp) (sa : Addr) (st en : Nat) (low : Int) (L : Nat) (ns : List Int) : Prop := ∃ v, SqT K H sa [v, .int (st : Int), .int (en : Int)] ∧ TreeAt H v (grow low L ns) ∧ Wths low L ns ∧ st ≤ en ∧ en ≤ ns.length ∧ ns.length ≤ 900 ∧ L ≤ 40
theorem StA.same {K : PySem.W.Frag} {H H' : Hp} {sa : Addr} {st en : Nat} {low : Int} {L : Nat} {ns : List Int} (s : Same H H') (h : StA K H sa st en low L ns) : StA K H' sa st en low L ns := by
  obtain ⟨v, h1, h2, h3⟩ := h
  exact ⟨v, s.seqT h1, h2.same s, h3⟩
abbrev k_falls_by_ways : Nat := 44
def sp_falls_by_ways (K : PySem.W.Frag) : Sp := fun vs H Q _ => ∃ (sa : Addr) (st en : Nat) (low : Int) (L : Nat) (ns : List Int), vs = [.ref sa] ∧ StA K H sa st en low L ns ∧
  ∀ (D : Addr) (zs : List V) (H' : Hp), Same H H' → H D = none → H' D = some (.lst zs) → AllAt (FwR K) H' zs (fwv L low (segI ns st en)) → zs.length ≤ 900 → Q (.ref D) H'
section
variable {P : Program} {w : World} {K : PySem.W.Frag} {mg : Str → Option Value} {base : Heap}
theorem ok_crossed (d : Def K mg "crossed" s_crossed ["marks", "start", "end"]) (z : Bz mg)  : Cal P w K mg base k_crossed "crossed" ["marks", "start", "end"] (sp_crossed K) := by
  have sc := sc_crossed
  refine d.cal fun f fd F => F.ok sc (fun vs H Q E h => ?_) (fun cdv A outer s H vs Q E hr h => ?_)
  · obtain ⟨t, ms, a, b, rfl, _⟩ := h
    rfl
  obtain ⟨t, ms, a, b, rfl, ht, hab, hb, hl, q⟩ := h
  refine ⟨_, (pss_cons (ps_set (i := 3) sc.nd rfl (Or.inl rfl) pe_int)
 (pss_cons (ps_set (i := 4) sc.nd rfl (Or.inl rfl) pe_int)
 (pss_cons (ps_for PassesOwn.never rfl (pi_range2 rfl z.range_ (pa_cons (pe_callB (call_max2 rfl) (by rfl) z.max_ bt_max (pa_cons (pv 1) (pa_cons pe_int pa_nil))) (pa_cons (pe_callB (call_min2 rfl) (by rfl) z.min_ bt_min (pa_cons (pv 2) (pa_cons (pe_callB call_len_seq (by rfl) z.len_ bt_len (pa_cons (pv 0) pa_nil)) pa_nil))) pa_nil))) (pg_name (i := 5) sc.nd rfl (Or.inl rfl))
  (pss_one (ps_if (pt_cmpR op_eq (pe_ix ix_tup (pv 0) (pv 5) (fun _ _ => rfl)) pe_int (nomark _))
  (pss_one (ps_set (i := 3) sc.nd rfl (Or.inl rfl) (pe_op op_add (pv 3) pe_int)))
  (pss_one (ps_set (i := 4) sc.nd rfl (Or.inl rfl) (pe_op op_add (pv 4) (pv 3)))))))
 (pss_one (ps_ret (pv 4)))))), ?_⟩
  have e1 : (if (0 : Int) > (a : Int) then (0 : Int) else (a : Int)) = (a : Int) := if_neg (by omega)
  have e2 : (if (((ms.map V.int).length : Nat) : Int) < (b : Int) then (((ms.map V.int).length : Nat) : Int) else (b : Int)) = (b : Int) := if_neg (by rw [List.length_map]; omega)
  have hs := segC_len (a := a) hb
  refine ⟨_, rfl, _, _, rfl, _, rfl, _, rfl, t, _, rfl, .inr ht, _, _, rfl, (a : Int), (b : Int), by rw [e1, e2], ⟨by omega, by omega, by omega, by omega⟩,
    for_range (fun i σ H2 => ∃ v : Option V, σ = [some (.ref t), some (.int (a : Int)), some (.int (b : Int)), some (.int (((seg ms a b).take i).foldl crS (0, 0)).1), some (.int (((seg ms a b).take i).foldl crS (0, 0)).2), v] ∧ H2 = H) ⟨none, rfl, rfl⟩ ?_ ?_⟩
  · rintro i σ H2 hi ⟨v, rfl, rfl⟩
    obtain ⟨m, g1, g2⟩ := seg_get (a := a) (b := b) (i := i) (by omega) hb
    refine ⟨_, rfl, _, rfl, t, _, _, _, rfl, rfl, ht, at_nat g2, rfl, _, rfl, ?_⟩
    refine ite2 (fun c => ?_) (fun c => ?_)
    · have c' : m = 1 := V.int.inj (of_decide_eq_true c)
      refine ⟨_, rfl, _, _, rfl, rfl, some (.int ((a : Int) + (i : Int))), ?_, rfl⟩
      rw [fold_snoc g1]
      unfold crS
      rw [if_pos c']
      rfl
    · have c' : ¬ m = 1 := fun z => c (by rw [z]; exact decide_eq_true rfl)
      refine ⟨_, rfl, _, rfl, _, _, rfl, rfl, some (.int ((a : Int) + (i : Int))), ?_, rfl⟩
      rw [fold_snoc g1]
      unfold crS
      rw [if_neg c']
      rfl
  · rintro σ H2 ⟨v, rfl, rfl⟩
    refine ⟨_, rfl, ?_⟩
    have e : (seg ms a b).take ((b : Int) - (a : Int)).toNat = seg ms a b := List.take_of_length_le (by omega)
    rw [e]
    exact q
theorem ok_falls_from (d : Def K mg "falls_from" s_falls_from ["stretch", "way"]) (z : Bz mg) (c_crossed : Cal P w K mg base k_crossed "crossed" ["marks", "start", "end"] (sp_crossed K)) (c_led_stretch : Cal P w K mg base k_led_stretch "led_stretch" ["stretch", "way"] (sp_led_stretch K)) : Cal P w K mg base k_falls_from "falls_from" ["stretch", "way"] (sp_falls_from K) := by
  have sc := sc_falls_from
  refine d.recur (k := kb_falls_from) (sp := spe_falls_from K) kn_falls_from fun e hen c_falls_from f fd F => F.ok sc (fun vs H Q E h => ?_) (fun cdv A outer s H vs Q E hr h => ?_)
  · obtain ⟨sa, wy, v, st, en, low, ns, ws, rfl, _⟩ := h
    rfl
  obtain ⟨sa, wy, v, st, en, low, ns, ws, rfl, hs, ht, hw, h1, h2, hl, hwy, hwl, q⟩ := h
  refine ⟨_, (pss_cons (ps_if (PW.pt (pw_or (pt_cmpR op_lt (pe_op op_sub (pe_ix ix_tup (pv 0) pe_int (fun _ _ => rfl)) (pe_ix ix_tup (pv 0) pe_int (fun _ _ => rfl))) pe_int (nomark _)) (pw_or1 (pt_cmpR op_eq (pe_ix ix_tup (pe_ix ix_tup (pv 0) pe_int (fun _ _ => rfl)) pe_int (fun _ _ => rfl)) pe_str (nomark _)))))
  (pss_one (ps_ret (pe_lst pa_nil)))
  pss_nil)
 (pss_cons (ps_set (i := 2) sc.nd rfl (Or.inl rfl) (pe_fn c_crossed (hr.mono (Nat.le_trans (by decide : k_crossed ≤ kb_falls_from) (Nat.le_add_left _ _))) (by rfl) (pa_cons (pe_ix ix_tup (pe_ix ix_tup (pv 0) pe_int (fun _ _ => rfl)) pe_int (fun _ _ => rfl)) (pa_cons (pe_ix ix_tup (pv 0) pe_int (fun _ _ => rfl)) (pa_cons (pe_ix ix_tup (pv 0) pe_int (fun _ _ => rfl)) pa_nil)))))
 (pss_cons (ps_join (ps_set (i := 3) sc.nd rfl (Or.inl rfl) (pe_ifExp (pt_cmpR op_gt (pv 2) pe_int (nomark _)) (pe_lst (pa_cons (pe_tup (pa_cons (pv 1) (pa_cons (pv 2) pa_nil))) pa_nil)) (pe_lst pa_nil))))
 (pss_cons (ps_for PassesOwn.never rfl (pi_tup (pe_tup (pa_cons pe_int (pa_cons pe_int pa_nil)))) (pg_name (i := 4) sc.nd rfl (Or.inl rfl))
  (pss_one (ps_expr (pe_bm PySem.F.plainAttrs_list PySem.F.slot_list_extend PySem.F.type_list_extend mt_extend (pv 3) (pa_cons (pe_fn c_falls_from (hr.mono (Nat.le_refl _)) (by rfl) (pa_cons (pe_fn c_led_stretch (hr.mono (Nat.le_trans (by decide : k_led_stretch ≤ kb_falls_from) (Nat.le_add_left _ _))) (by rfl) (pa_cons (pv 0) (pa_cons (pe_tup (pa_cons (pv 4) pa_nil)) pa_nil))) (pa_cons (pe_op op_catU (pv 1) (pe_tup (pa_cons (pv 4) pa_nil))) pa_nil))) pa_nil)))))
 (pss_one (ps_ret (pv 3))))))), ?_⟩
  have hsl := seg_len (st := st) h2
  refine ⟨_, rfl, sa, _, _, _, rfl, rfl, hs, rfl, _, rfl, sa, _, _, _, rfl, rfl, hs, rfl, _, _, rfl, rfl, _, _, rfl, rfl, _, rfl, ?_⟩
  by_cases c : (en : Int) - (st : Int) < 2
  · refine ite2 (fun _ => ?_) (fun d => absurd (decide_eq_true c) d)
    refine ⟨szb rfl, fun D hD => q D [] _ (same_new hD _) hD upd_same ?_ (Nat.zero_le _)⟩
    rw [fwv_short e low _ (by omega)]
    exact .nil
  refine ite2 (fun d => absurd (of_decide_eq_true d) c) (fun _ => ?_)
  have hne : ns ≠ [] := fun z => by rw [z, List.length_nil] at h2; omega
  cases e with
  | zero =>
    have ht1 := ht
    rw [grow_zero hne] at ht1
    obtain ⟨a, rfl, ha⟩ := ht1
    refine ⟨_, rfl, sa, _, _, _, rfl, rfl, hs, rfl, a, _, _, _, rfl, rfl, SqT.of ha, rfl, rfl, _, rfl, ?_⟩
    refine ite2 (fun _ => ?_) (fun d => absurd (decide_eq_true rfl) d)
    refine ⟨szb rfl, fun D hD => q D [] _ (same_new hD _) hD upd_same .nil (Nat.zero_le _)⟩
  | succ e =>
    have ht1 := ht
    rw [grow_part hne] at ht1
    obtain ⟨a, m, xl, xr, rfl, ha, hm, _, _⟩ := ht1
    refine ⟨_, rfl, sa, _, _, _, rfl, rfl, hs, rfl, a, _, _, _, rfl, rfl, SqT.of ha, rfl, rfl, _, rfl, ?_⟩
    refine ite2 (fun d => absurd (of_decide_eq_true d) (by decide)) (fun _ => ?_)
    have hml : (ns.map (mkOf (low + 2 ^ e))).length = ns.length := List.length_map _
    refine ⟨_, rfl, sa, _, _, _, rfl, rfl, hs, rfl, a, _, _, _, rfl, rfl, SqT.of ha, rfl, _, rfl, sa, _, _, _, rfl, rfl, hs, rfl, _, rfl, sa, _, _, _, rfl, rfl, hs, rfl, m, ns.map (mkOf (low + 2 ^ e)), st, en, rfl, hm.sq, h1, by omega, by omega, ?_⟩
    have hB : B01 (ns.map (mkOf (low + 2 ^ e))) := fun x hx => by
      obtain ⟨n, _, rfl⟩ := List.mem_map.mp hx
      unfold mkOf
      by_cases c : n < low + 2 ^ e
      · rw [if_pos c]; exact .inl rfl
      · rw [if_neg c]; exact .inr rfl
    have hdue : (((seg (ns.map (mkOf (low + 2 ^ e))) st en).foldl crS (0, 0)).2) = dueL ((segI ns st en).map (mkOf (low + 2 ^ e))) := by
      rw [cross2 (seg_01 hB), seg_map]
      rfl
    have hfw := congrArg (pre ws) (fwv_succ e low (segI ns st en))
    have hlh := len_half (low + 2 ^ e) (segI ns st en)
    have hdz := due_zero (mid := low + 2 ^ e) (l := segI ns st en)
    rw [hdue]
    have hf0 : (segI ns st en).filter (loI (low + 2 ^ e)) = segI (ns.filter (hlf (low + 2 ^ e) 0)) ((ns.take st).countP (hlf (low + 2 ^ e) 0)) ((ns.take en).countP (hlf (low + 2 ^ e) 0)) := seg_filter _ h1
    have hf1 : (segI ns st en).filter (hiI (low + 2 ^ e)) = segI (ns.filter (hlf (low + 2 ^ e) 1)) ((ns.take st).countP (hlf (low + 2 ^ e) 1)) ((ns.take en).countP (hlf (low + 2 ^ e) 1)) := seg_filter _ h1
    rw [pre_app, pre_app, hf0, hf1] at hfw
    rw [hf0, hf1] at hlh hdz
    generalize dueL ((segI ns st en).map (mkOf (low + 2 ^ e))) = due at *
    let own : List WM := pre ws (if 0 < due then [([], due)] else [])
    refine ⟨fun σ G => ∃ (D : Addr) (zs : List V), σ = [some (.ref sa), some (.ref wy), some (.int due), some (.ref D), none] ∧ Same H G ∧ H D = none ∧ G D = some (.lst zs) ∧ AllAt (FwR K) G zs own ∧ zs.length ≤ 1 ∧ (due = 0 → zs.length = 0), ?_, ?_⟩
    · refine ⟨_, rfl, _, _, rfl, rfl, _, rfl, ?_⟩
      by_cases c : (0 : Int) < due
      · refine ite2 (fun _ => ?_) (fun d => absurd (decide_eq_true c) d)
        refine ⟨_, rfl, _, rfl, szb rfl, fun p hp => ⟨szb rfl, fun D hD => ?_⟩⟩
        have s1 := same_new hp (.tup [V.ref wy, .int due])
        have e1 : upd H p (.tup [V.ref wy, .int due]) p = some (.tup [V.ref wy, .int due]) := upd_same
        have hD0 : H D = none := by
          cases z : H D with
          | none => rfl
          | some o => rw [s1 _ _ z] at hD; cases hD
        refine ⟨D, _, rfl, s1.trans (same_new hD _), hD0, upd_same, ?_, Nat.le_refl _, fun z => by omega⟩
        show AllAt (FwR K) _ _ (pre ws (if 0 < due then [([], due)] else []))
        rw [if_pos c]
        exact .one ⟨p, wy, rfl, same_new hD _ _ _ e1, by simpa using (s1.trans (same_new hD _)).seqT hwy⟩
      · refine ite2 (fun d => absurd (of_decide_eq_true d) c) (fun _ => ?_)
        have d0 : due = 0 := by
          have : 0 ≤ due := by
            rw [← hdue, cross2 (seg_01 hB)]
            exact due_nonneg _
          omega
        refine ⟨szb rfl, fun D hD => ⟨D, [], rfl, same_new hD _, hD, upd_same, ?_, Nat.zero_le _, fun _ => rfl⟩⟩
        show AllAt (FwR K) _ _ (pre ws (if 0 < due then [([], due)] else []))
        rw [if_neg c]
        exact .nil
    · rintro σ H1 ⟨D, zs, rfl, s1, hD0, hD1, hA1, hz1, hz0⟩
      refine ⟨szb rfl, fun tp htp => ?_⟩
      have s2 := same_new htp (.tup [V.int 0, .int 1])
      have e2 : upd H1 tp (.tup [V.int 0, .int 1]) tp = some (.tup [V.int 0, .int 1]) := upd_same
      have hD2 := s2 _ _ hD1
      have hA2 := fw_tk hA1 (.same s2)
      have s02 := s1.trans s2
      have htpD : tp ≠ D := fun z => by rw [z, hD1] at htp; cases htp
      generalize upd H1 tp (.tup [V.int 0, .int 1]) = H2 at *
      let sg : Int → List Int := fun mk => segI (ns.filter (hlf (low + 2 ^ e) mk)) ((ns.take st).countP (hlf (low + 2 ^ e) mk)) ((ns.take en).countP (hlf (low + 2 ^ e) mk))
      refine ⟨tp, rfl, ⟨_, SqT.of e2⟩, for_tup (K := K) (a := tp) (xs := [V.int 0, .int 1]) (fun i σ G => ∃ (zs : List V) (w4 : Option V), σ = [some (.ref sa), some (.ref wy), some (.int due), some (.ref D), w4] ∧ Same H G ∧ G tp = some (.tup [V.int 0, .int 1]) ∧ G D = some (.lst zs) ∧ AllAt (FwR K) G zs (own ++ (([pre (ws ++ [0]) (fwv e (lowOf low e 0) (sg 0)), pre (ws ++ [1]) (fwv e (lowOf low e 1) (sg 1))] : List (List WM)).take i).flatten) ∧ zs.length ≤ (if due = 0 then 0 else 1) + (([(sg 0).length - 1, (sg 1).length - 1].take i).sum))
        ⟨zs, _, rfl, s02, e2, hD2, by simpa using hA2, by
          by_cases z : due = 0
          · rw [if_pos z, hz0 z]; exact Nat.zero_le _
          · rw [if_neg z]; exact hz1⟩ (fun i σ G _ ⟨_, _, _, _, e, _⟩ => SqT.of e) ?_ ?_⟩
      · rintro i x σ G hi ⟨zs, w4, rfl, sG, etp, hDG, hAG, hzG⟩
        obtain ⟨mk, rfl, hmk, hi2⟩ : ∃ mk : Int, x = .int mk ∧ (mk = 0 ∨ mk = 1) ∧ ([(0 : Int), 1])[i]? = some mk := by
          match i, hi with
          | 0, hi => cases hi; exact ⟨0, rfl, .inl rfl, rfl⟩
          | 1, hi => cases hi; exact ⟨1, rfl, .inr rfl, rfl⟩
        refine ⟨_, rfl, .inl ⟨rfl, _, SqL.of hDG⟩, _, rfl, _, rfl, szb rfl, fun w0 hw0 => ?_⟩
        have t1 : Same G (upd G w0 (.tup [.int mk])) := same_new hw0 _
        have ew0 : upd G w0 (.tup [.int mk]) w0 = some (.tup [.int mk]) := upd_same
        generalize upd G w0 (.tup [.int mk]) = G1 at *
        have sG1 := sG.trans t1
        refine ⟨sa, w0, _, st, en, low, mk, e, ns, rfl, sG1.seqT hs, SqT.of ew0, hmk, ht.same sG1, fun p2 u2 G2 t2 hp2 hu2 => ?_⟩
        have sG2 := sG1.trans t2
        refine ⟨_, rfl, _, rfl, szb rfl, fun w3 hw3 => ?_⟩
        have t3 : Same G2 (upd G2 w3 (.tup [.int mk])) := same_new hw3 _
        have ew3 : upd G2 w3 (.tup [.int mk]) w3 = some (.tup [.int mk]) := upd_same
        generalize upd G2 w3 (.tup [.int mk]) = G3' at *
        have sG3 := sG2.trans t3
        refine ⟨wy, w3, _, _, rfl, rfl, sG3.seqT hwy, SqT.of ew3, sz (by simp; omega), fun wz G4 t4 hwz _ => ?_⟩
        have t14 := t2.trans (t3.trans t4)
        have hwz' : SqT K G4 wz ((ws ++ [mk]).map V.int) := by rw [List.map_append]; exact hwz
        refine ⟨p2, wz, u2, _, _, lowOf low e mk, _, ws ++ [mk], rfl, SqT.of ((t3.trans t4) _ _ hp2), hu2.same (t3.trans t4), Wths.half hw hmk, cnt_mono _ h1, cnt_le _ _ _, Nat.le_trans (List.length_filter_le _ _) hl, hwz', by rw [List.length_append]; simp; omega, fun D5 z5 H5 t5 hD5n hD5 hA5 hz5 => ?_⟩
        have t15 : Same G H5 := t1.trans (t14.trans t5)
        have hDH5 := t15 _ _ hDG
        have hDD : D5 ≠ D := fun z => by rw [z, (t1.trans t14) _ _ hDG] at hD5n; cases hD5n
        have hgl := sg mk
        refine ⟨D, D5, zs, z5, rfl, rfl, hDH5, hD5, ?_, ?_⟩
        · refine sz ?_
          have l1 : (segI (ns.filter (hlf (low + 2 ^ e) mk)) ((ns.take st).countP (hlf (low + 2 ^ e) mk)) ((ns.take en).countP (hlf (low + 2 ^ e) mk))).length ≤ 900 := by
            have := seg_len (ns := ns.filter (hlf (low + 2 ^ e) mk)) (st := (ns.take st).countP (hlf (low + 2 ^ e) mk)) (cnt_le (hlf (low + 2 ^ e) mk) ns en)
            have := cnt_le (hlf (low + 2 ^ e) mk) ns en
            have := List.length_filter_le (hlf (low + 2 ^ e) mk) ns
            omega
          have l2 : zs.length ≤ 950 := by
            have b0 : (sg 0).length + (sg 1).length = (segI ns st en).length := hlh
            match i, hi2 with
            | 0, _ =>
              simp only [List.take_zero, List.sum_nil] at hzG
              split at hzG <;> omega
            | 1, _ =>
              simp only [List.take_succ_cons, List.take_zero, List.sum_cons, List.sum_nil] at hzG
              split at hzG <;> omega
          have l3 : (segI (ns.filter (hlf (low + 2 ^ e) mk)) ((ns.take st).countP (hlf (low + 2 ^ e) mk)) ((ns.take en).countP (hlf (low + 2 ^ e) mk))).length + 0 ≤ 900 := l1
          match i, hi2 with
          | 0, _ =>
            simp only [List.take_zero, List.sum_nil] at hzG
            split at hzG <;> omega
          | 1, hi2 =>
            have e1 : mk = 1 := (Option.some.inj hi2).symm
            subst e1
            have b0 : (sg 0).length + (sg 1).length = (segI ns st en).length := hlh
            have b1 : z5.length ≤ (sg 1).length - 1 := hz5
            simp only [List.take_succ_cons, List.take_zero, List.sum_cons, List.sum_nil] at hzG
            split at hzG <;> omega
        have tkD : TKeep H5 (upd H5 D (.lst (zs ++ z5))) := TKeep.set hDH5
        refine ⟨zs ++ z5, _, rfl, own2 (sG.trans t15) hD0, by rw [upd_ne htpD]; exact t15 _ _ etp, upd_same, ?_, ?_⟩
        · have hAA := (fw_tk (fw_tk hAG (.same t15)) tkD).app (fw_tk hA5 tkD)
          match i, hi2 with
          | 0, hi2 =>
            have e1 : mk = 0 := (Option.some.inj hi2).symm
            subst e1
            simpa using hAA
          | 1, hi2 =>
            have e1 : mk = 1 := (Option.some.inj hi2).symm
            subst e1
            simpa using hAA
        · rw [List.length_append]
          match i, hi2 with
          | 0, hi2 =>
            have e1 : mk = 0 := (Option.some.inj hi2).symm
            subst e1
            have b1 : z5.length ≤ (sg 0).length - 1 := hz5
            simp only [List.take_succ_cons, List.take_zero, List.sum_cons, List.sum_nil] at hzG ⊢
            omega
          | 1, hi2 =>
            have e1 : mk = 1 := (Option.some.inj hi2).symm
            subst e1
            have b1 : z5.length ≤ (sg 1).length - 1 := hz5
            simp only [List.take_succ_cons, List.take_zero, List.sum_cons, List.sum_nil] at hzG ⊢
            omega
      · rintro σ G ⟨zs, w4, rfl, sG, etp, hDG, hAG, hzG⟩
        refine ⟨_, rfl, q D zs G sG hD0 hDG ?_ ?_⟩
        · rw [hfw]
          rw [pre_snoc, pre_snoc] at hAG
          have hz : AllAt (FwR K) G zs (own ++ (pre ws ((fwv e (lowOf low e 0) (sg 0)).map (fun p => (0 :: p.1, p.2))) ++ pre ws ((fwv e (lowOf low e 1) (sg 1)).map (fun p => (1 :: p.1, p.2))))) := by simpa using hAG
          rw [List.append_assoc]
          exact hz
        · have b0 : (sg 0).length + (sg 1).length = (segI ns st en).length := hlh
          have bz : (sg 0 = [] ∨ sg 1 = []) → due = 0 := hdz
          have hzG' : zs.length ≤ (if due = 0 then 0 else 1) + ((sg 0).length - 1 + ((sg 1).length - 1 + 0)) := hzG
          by_cases z : due = 0
          · rw [if_pos z] at hzG'
            omega
          · rw [if_neg z] at hzG'
            have n0 : (sg 0).length ≠ 0 := fun y => z (bz (.inl (List.eq_nil_of_length_eq_zero y)))
            have n1 : (sg 1).length ≠ 0 := fun y => z (bz (.inr (List.eq_nil_of_length_eq_zero y)))
            omega
theorem ok_falls_by_ways (d : Def K mg "falls_by_ways" s_falls_by_ways ["stretch"]) (z : Bz mg) (c_falls_from : Cal P w K mg base k_falls_from "falls_from" ["stretch", "way"] (sp_falls_from K)) : Cal P w K mg base k_falls_by_ways "falls_by_ways" ["stretch"] (sp_falls_by_ways K) := by
  have sc := sc_falls_by_ways
  refine d.cal fun f fd F => F.ok sc (fun vs H Q E h => ?_) (fun cdv A outer s H vs Q E hr h => ?_)
  · obtain ⟨sa, st, en, low, L, ns, rfl, _⟩ := h
    rfl
  obtain ⟨sa, st, en, low, L, ns, rfl, ⟨v, hs, ht, hw, h1, h2, hl, hL⟩, q⟩ := h
  refine ⟨_, (pss_one (ps_ret (pe_fn c_falls_from (hr.mono (by decide)) (by rfl) (pa_cons (pv 0) (pa_cons (pe_tup pa_nil) pa_nil))))), ?_⟩
  refine ⟨_, rfl, szb rfl, fun wy hwy => ?_⟩
  have s1 : Same H (upd H wy (.tup [])) := same_new hwy _
  have hsl := seg_len (st := st) h2
  exact ⟨L, hL, sa, wy, v, st, en, low, ns, [], rfl, s1.seqT hs, ht.same s1, hw, h1, h2, hl, SqT.of upd_same, by simpa using hL, fun D zs H' s' hDn hD hA hz => q D zs H' (s1.trans s') (by
    cases z : H D with
    | none => rfl
    | some o => rw [s1 _ _ z] at hDn; cases hDn) hD (by rw [pre_nil] at hA; exact hA) (by omega)⟩
end
def SpAt (H : Hp) (xs : List V) (M : Nat) : Prop := ∀ x ∈ xs, ∃ (p : Addr) (st en : Nat), x = .ref p ∧ H p = some (.tup [.int (st : Int), .int (en : Int)]) ∧ st ≤ en ∧ en ≤ M
theorem SpAt.tk {H H' : Hp} {xs : List V} {M : Nat} (h : SpAt H xs M) (k : TKeep H H') : SpAt H' xs M := fun x hx => by
  obtain ⟨p, st, en, e1, e2, e3⟩ := h x hx
  exact ⟨p, st, en, e1, (k _ _).1 e2, e3⟩
abbrev k__law_way : Nat := 1
def sp__law_way (K : PySem.W.Frag) : Sp := fun vs H Q _ => ∃ (b : Addr) (y x low : Int) (L : Nat), vs = [.ref b, .int y, .int x] ∧ SqT K H b [.int low, .int (L : Int)] ∧ L ≤ 40 ∧
  ∀ (p : Addr) (H' : Hp), Same H H' → H' p = some (.tup ((cway L low y x).map V.int)) → Q (.ref p) H'
def muL : St → Nat := fun σ => match σ[4]? with
  | some (some (V.int n)) => n.toNat
  | _ => 0
theorem int_ge (n mid : Int) : (if decide (mid ≤ n) = true then (1 : Int) else 0) = mkOf mid n := by
  by_cases c : n < mid
  · rw [mkOf_lo c, if_neg (by intro z; have := of_decide_eq_true z; omega)]
  · rw [mkOf_hi (by omega), if_pos (decide_eq_true (by omega))]
section
variable {P : Program} {w : World} {K : PySem.W.Frag} {mg : Str → Option Value} {base : Heap}
theorem ok__law_way (d : Def K mg "_law_way" s__law_way ["_law_bounds_here", "_law_one", "_law_other"]) (z : Bz mg)  : Cal P w K mg base k__law_way "_law_way" ["_law_bounds_here", "_law_one", "_law_other"] (sp__law_way K) := by
  have sc := sc__law_way
  refine d.cal fun f fd F => F.ok sc (fun vs H Q E h => ?_) (fun cdv A outer s H vs Q E hr h => ?_)
  · obtain ⟨b, y, x, low, L, rfl, _⟩ := h
    rfl
  obtain ⟨b, y, x, low, L, rfl, hb, hL, q⟩ := h
  refine ⟨_, (pss_cons (ps_asg (pv 0) (pg_tup rfl (pgs_cons (pg_name (i := 3) sc.nd rfl (Or.inl rfl)) (pgs_cons (pg_name (i := 4) sc.nd rfl (Or.inl rfl)) pgs_nil))))
 (pss_cons (ps_set (i := 5) sc.nd rfl (Or.inl rfl) (pe_tup pa_nil))
 (pss_cons (ps_while PassesOwn.never (pt_cmpR op_gt (pv 4) pe_int (nomark _))
  (pss_cons (ps_set (i := 6) sc.nd rfl (Or.inr rfl) (pe_op op_add (pv 3) (pe_op op_shl pe_int (pe_op op_sub (pv 4) pe_int))))
 (pss_cons (ps_setComp (i := 7) (cl := [("_law_half", s.heap.objs.size + 1 + 0)]) (cn := ["_law_half"]) (N := ["_law_half"]) (fr := [6]) (sc0 := defScope s__law_way) sc.nd rfl (Or.inl rfl) rfl (pi_tup (pe_tup (pa_cons (pv 1) (pa_cons (pv 2) pa_nil)))) (fun C s₂ H₂ fp => (pe_callTy call_int1 (by rfl) z.int_ bt_int (pa_cons (pe_cmpR op_ge (pv 0) (pv 1) (nomark _)) pa_nil))) (by with_unfolding_all rfl) ⟨by with_unfolding_all rfl, trivial⟩ rfl rfl rfl ⟨by decide +kernel, by decide +kernel, by decide +kernel, by decide +kernel, by decide +kernel, by decide +kernel, by decide +kernel⟩ rfl (by with_unfolding_all rfl) (.inl rfl))
 (pss_cons (ps_if (pt_cmpR op_ne (pe_ix ix_list (pv 7) pe_int (fun _ _ => rfl)) (pe_ix ix_list (pv 7) pe_int (fun _ _ => rfl)) (nomark _))
  (pss_one (ps_ret (pv 5)))
  pss_nil)
 (pss_cons (ps_set (i := 4) sc.nd rfl (Or.inl rfl) (pe_op op_sub (pv 4) pe_int))
 (pss_cons (ps_set (i := 3) sc.nd rfl (Or.inl rfl) (pe_ix ix_list (pe_lst (pa_cons (pv 3) (pa_cons (pv 6) pa_nil))) (pe_ix ix_list (pv 7) pe_int (fun _ _ => rfl)) (fun _ _ => rfl)))
 (pss_one (ps_set (i := 5) sc.nd rfl (Or.inl rfl) (pe_op op_catU (pv 5) (pe_tup (pa_cons (pe_ix ix_list (pv 7) pe_int (fun _ _ => rfl)) pa_nil)))))))))))
 (pss_one (ps_ret (pv 5)))))), ?_⟩
  refine ⟨_, rfl, b, _, rfl, hb, rfl, _, _, rfl, _, _, rfl, rfl, ?_⟩
  refine ⟨szb rfl, fun w0 hw0 => ?_⟩
  have s1 : Same H (upd H w0 (.tup [])) := same_new hw0 _
  refine while_by (fun σ G => ∃ (e : Nat) (lo : Int) (wy : Addr) (ws : List Int) (v6 v7 : Option V), σ = [some (.ref b), some (.int y), some (.int x), some (.int lo), some (.int (e : Int)), some (.ref wy), v6, v7] ∧ ws.length + e = L ∧ Same H G ∧ G wy = some (.tup (ws.map V.int)) ∧ ws ++ cway e lo y x = cway L low y x) (fun σ _ => muL σ)
    ⟨L, low, w0, [], _, _, rfl, by simp, s1, upd_same, rfl⟩ ?_ ?_
  · rintro σ G ⟨e, lo, wy, ws, v6, v7, rfl, hwl, sG, hwy, hcw⟩
    refine ⟨_, rfl, _, _, rfl, rfl, _, rfl, ?_⟩
    cases e with
    | zero =>
      refine ite2 (fun c => absurd (of_decide_eq_true c) (by omega)) (fun _ => ?_)
      refine ⟨_, rfl, q wy G sG ?_⟩
      rw [← hcw]
      show G wy = some (.tup ((ws ++ []).map V.int))
      rw [List.append_nil]
      exact hwy
    | succ e =>
      refine ite2 (fun _ => ?_) (fun c => absurd (decide_eq_true (by omega : (0 : Int) < ((e + 1 : Nat) : Int))) c)
      have ee : (((e + 1 : Nat) : Int) - 1) = (e : Int) := by omega
      refine ⟨_, rfl, _, rfl, _, _, rfl, rfl, _, _, rfl, rfl, ⟨by omega, by omega, by decide⟩, _, _, rfl, rfl, ?_⟩
      dsimp only
      rw [ee, shlOne]
      refine ⟨_, rfl, _, rfl, szb rfl, fun tp htp => ?_⟩
      have t1 := same_new htp (.tup [V.int y, .int x])
      have etp : upd G tp (.tup [V.int y, .int x]) tp = some (.tup [V.int y, .int x]) := upd_same
      generalize upd G tp (.tup [V.int y, .int x]) = G1 at *
      refine ⟨tp, rfl, ⟨_, SqT.of etp⟩, fun D hD => ?_⟩
      refine comp_tup (xs := [V.int y, .int x]) (szb rfl) (fun k ds H2 => H2 D = some (.lst ds) ∧ ds.length = k ∧ Same G1 H2 ∧ ds = (([mkOf (lo + 2 ^ e) y, mkOf (lo + 2 ^ e) x]).take k).map V.int) ⟨upd_same, rfl, same_new hD _, rfl⟩ (fun k ds H2 ⟨_, _, s2, _⟩ => SqT.of (s2 _ _ etp)) (fun k ds H2 ⟨e1, e2, _, _⟩ => ⟨e1, e2⟩) ?_ ?_
      · rintro k v ds H2 hk ⟨e1, e2, s2, e4⟩
        have hxi : ∃ n : Int, v = .int n ∧ ([mkOf (lo + 2 ^ e) y, mkOf (lo + 2 ^ e) x])[k]? = some (mkOf (lo + 2 ^ e) n) := by
          match k, hk with
          | 0, hk => cases hk; exact ⟨y, rfl, rfl⟩
          | 1, hk => cases hk; exact ⟨x, rfl, rfl⟩
        obtain ⟨n, rfl, hn⟩ := hxi
        refine ⟨_, rfl, _, rfl, _, _, rfl, rfl, .inr ⟨_, rfl, ?_⟩⟩
        rw [int_ge]
        refine ⟨e1, upd_same, by rw [List.length_append, e2]; rfl, own2 s2 hD, ?_⟩
        rw [List.take_add_one, hn, List.map_append, ← e4]
        rfl
      · rintro ds H2 ⟨e1, e2, s2, e4⟩
        have e5 : H2 D = some (.lst [V.int (mkOf (lo + 2 ^ e) y), .int (mkOf (lo + 2 ^ e) x)]) := by rw [e1, e4]; rfl
        have s02 := sG.trans (t1.trans s2)
        have hwy2 := (t1.trans s2) _ _ hwy
        refine ⟨_, rfl, D, _, _, _, rfl, rfl, SqL.of e5, rfl, _, rfl, D, _, _, _, rfl, rfl, SqL.of e5, rfl, rfl, _, rfl, ?_⟩
        rw [cway_succ] at hcw
        by_cases c : mkOf (lo + 2 ^ e) y = mkOf (lo + 2 ^ e) x
        · rw [if_pos c] at hcw
          refine ite2 (fun z => absurd z (by rw [c]; simp)) (fun _ => ?_)
          refine ⟨_, rfl, _, _, rfl, rfl, ?_⟩
          refine ⟨_, rfl, _, rfl, szb rfl, fun l3 hl3 => ?_⟩
          have t3 := same_new hl3 (.lst [V.int lo, .int (lo + 2 ^ e)])
          have el3 : upd H2 l3 (.lst [V.int lo, .int (lo + 2 ^ e)]) l3 = some (.lst [V.int lo, .int (lo + 2 ^ e)]) := upd_same
          generalize upd H2 l3 (.lst [V.int lo, .int (lo + 2 ^ e)]) = H3 at *
          have hat : atI [V.int lo, .int (lo + 2 ^ e)] (mkOf (lo + 2 ^ e) y) = some (.int (lowOf lo e (mkOf (lo + 2 ^ e) y))) := by
            rcases mk01 (lo + 2 ^ e) y with z | z
            · rw [z]; rfl
            · rw [z]; rfl
          refine ⟨_, rfl, D, _, _, _, rfl, rfl, SqL.of (t3 _ _ e5), rfl, l3, _, _, _, rfl, rfl, SqL.of el3, hat, ?_⟩
          refine ⟨_, rfl, _, rfl, D, _, _, _, rfl, rfl, SqL.of (t3 _ _ e5), rfl, szb rfl, fun w4 hw4 => ?_⟩
          have t4 := same_new hw4 (.tup [V.int (mkOf (lo + 2 ^ e) y)])
          have ew4 : upd H3 w4 (.tup [V.int (mkOf (lo + 2 ^ e) y)]) w4 = some (.tup ([mkOf (lo + 2 ^ e) y].map V.int)) := upd_same
          generalize upd H3 w4 (.tup [V.int (mkOf (lo + 2 ^ e) y)]) = H4 at *
          have hwy4 := (t3.trans t4) _ _ hwy2
          refine ⟨wy, w4, _, _, rfl, rfl, SqT.of hwy4, SqT.of ew4, sz (by simp; omega), fun p H5 t5 _ hp => ?_⟩
          have hp' := hp hwy4 ew4
          rw [← List.map_append] at hp'
          refine ⟨⟨e, lowOf lo e (mkOf (lo + 2 ^ e) y), p, ws ++ [mkOf (lo + 2 ^ e) y], some (.int (lo + 2 ^ e)), some (.ref D), congrArg (fun t => [some (V.ref b), some (V.int y), some (V.int x), some (V.int (lowOf lo e (mkOf (lo + 2 ^ e) y))), some (V.int t), some (V.ref p), some (V.int (lo + 2 ^ e)), some (V.ref D)]) ee, by rw [List.length_append]; simp; omega, s02.trans (t3.trans (t4.trans t5)), hp', by rw [List.append_assoc]; exact hcw⟩, ?_⟩
          show ((((e + 1 : Nat) : Int)) - 1).toNat < (((e + 1 : Nat) : Int)).toNat
          omega
        · rw [if_neg c, List.append_nil] at hcw
          refine ite2 (fun _ => ?_) (fun z => absurd (by simpa using c) z)
          exact ⟨_, rfl, q wy H2 s02 (by rw [← hcw]; exact hwy2)⟩
  · rintro σ H2 Q1 Q2 hq ⟨_, e0, i, j, e1, e2, k, e6, h⟩
    exact ⟨_, e0, i, j, e1, e2, k, e6, hq _ _ h⟩
end
/-! ### counted by a dict of ways -/
def dW (ks : List WM) : List (List Key × V) := (ks.map fun p => (p.1, V.int p.2)).map fun p => (wkey p.1, p.2)
theorem dec_wkey (u w : List Int) : decide (wkey u = wkey w) = decide (u = w) := by
  by_cases c : u = w
  · rw [decide_eq_true c, decide_eq_true (by rw [c])]
  · rw [decide_eq_false c, decide_eq_false (fun z => c (wkey_inj z))]
theorem val_dW (ks : List WM) (w : List Int) : valV (dW ks) (wkey w) = (ks.find? fun p => decide (p.1 = w)).map fun p => V.int p.2 := by
  unfold valV dW
  rw [List.map_map, List.find?_map, Option.map_map]
  have e : ((fun kv : List Key × V => decide (kv.1 = wkey w)) ∘ ((fun p : List Int × V => (wkey p.1, p.2)) ∘ fun p : WM => (p.1, V.int p.2))) = fun p : WM => decide (p.1 = w) := by
    funext p
    exact dec_wkey p.1 w
  rw [e]
  rfl
def addW (ks : List WM) (w : List Int) (m : Int) : List WM := if (ks.any fun p => decide (p.1 = w)) = true then ks.map (fun p => if p.1 = w then (p.1, m) else p) else ks ++ [(w, m)]
theorem put_dW (ks : List WM) (w : List Int) (m : Int) : putK (dW ks) (wkey w) (.int m) = dW (addW ks w m) := by
  unfold putK addW dW
  rw [List.map_map]
  have e : ((ks.map ((fun p : List Int × V => (wkey p.1, p.2)) ∘ fun p : WM => (p.1, V.int p.2))).any fun kv => decide (kv.1 = wkey w)) = ks.any fun p => decide (p.1 = w) := by
    rw [List.any_map]
    congr 1
    funext p
    exact dec_wkey p.1 w
  rw [e]
  by_cases c : (ks.any fun p => decide (p.1 = w)) = true
  · rw [if_pos c, if_pos c, List.map_map, List.map_map, List.map_map]
    refine List.map_congr_left fun p _ => ?_
    show (if wkey p.1 = wkey w then (wkey p.1, V.int m) else (wkey p.1, V.int p.2)) = (wkey (if p.1 = w then (p.1, m) else p).1, V.int (if p.1 = w then (p.1, m) else p).2)
    by_cases d : p.1 = w
    · rw [if_pos (by rw [d]), if_pos d]
    · rw [if_neg (fun z => d (wkey_inj z)), if_neg d]
  · rw [if_neg c, if_neg c, List.map_map, List.map_append]
    rfl
def CntW (ks : List WM) (N : List Int → Nat) : Prop := (ks.map (·.1)).Nodup ∧ ∀ w m, (w, m) ∈ ks ↔ (m = (N w : Int) ∧ 0 < m)
theorem cntW_nil {N : List Int → Nat} (h : ∀ w, N w = 0) : CntW [] N := ⟨List.nodup_nil, fun w m => ⟨fun z => absurd z (by simp), fun ⟨h1, h2⟩ => by rw [h w] at h1; omega⟩⟩
theorem cntW_find {ks : List WM} {N : List Int → Nat} (h : CntW ks N) (w : List Int) : ((ks.find? fun p => decide (p.1 = w)).map fun p => V.int p.2).getD (.int 0) = .int (N w : Int) := by
  cases e : ks.find? fun p => decide (p.1 = w) with
  | none =>
    show V.int 0 = _
    have n := List.find?_eq_none.mp e
    have z : N w = 0 := by
      apply Classical.byContradiction
      intro c
      have hm := (h.2 w (N w : Int)).mpr ⟨rfl, by omega⟩
      exact n _ hm (decide_eq_true rfl)
    rw [z]
    rfl
  | some p =>
    have hm := List.mem_of_find?_eq_some e
    have hz := List.find?_some e
    have hw : p.1 = w := of_decide_eq_true hz
    obtain ⟨w', m⟩ := p
    cases hw
    show V.int m = _
    rw [((h.2 w' m).mp hm).1]
theorem cntW_get {ks : List WM} {N : List Int → Nat} (h : CntW ks N) {w : List Int} (hw : w ∈ ks.map (·.1)) : valV (dW ks) (wkey w) = some (.int (N w : Int)) := by
  have z := cntW_find h w
  rw [val_dW]
  cases e : ks.find? fun p => decide (p.1 = w) with
  | none =>
    obtain ⟨p, hp, rfl⟩ := List.mem_map.mp hw
    exact absurd (decide_eq_true rfl) (List.find?_eq_none.mp e p hp)
  | some p =>
    rw [e] at z
    exact congrArg some z
theorem cntW_add {ks : List WM} {N N' : List Int → Nat} (h : CntW ks N) (w : List Int) (hc : ∀ v, N' v = N v + if v = w then 1 else 0) : CntW (addW ks w ((N w : Int) + 1)) N' := by
  obtain ⟨h1, h2⟩ := h
  unfold addW
  by_cases c : (ks.any fun p => decide (p.1 = w)) = true
  · rw [if_pos c]
    refine ⟨?_, fun x m => ?_⟩
    · rw [List.map_map]
      have e : ((fun x : WM => x.1) ∘ fun p : WM => if p.1 = w then (p.1, (N w : Int) + 1) else p) = fun p => p.1 := by
        funext p
        show (if p.1 = w then (p.1, (N w : Int) + 1) else p).1 = p.1
        by_cases d : p.1 = w
        · rw [if_pos d]
        · rw [if_neg d]
      rw [e]
      exact h1
    · rw [List.mem_map, hc]
      constructor
      · rintro ⟨p, hp, e⟩
        by_cases d : p.1 = w
        · rw [if_pos d] at e
          cases e
          rw [if_pos d, d]
          omega
        · rw [if_neg d] at e
          subst e
          have d' : ¬ x = w := d
          rw [if_neg d']
          exact (h2 x m).mp hp
      · rintro ⟨e1, e2⟩
        by_cases d : x = w
        · subst d
          rw [if_pos rfl] at e1
          obtain ⟨p, hp, hd⟩ := List.any_eq_true.mp c
          have hd := of_decide_eq_true hd
          exact ⟨p, hp, by rw [if_pos hd, hd]; exact Prod.ext rfl (by show _ = m; omega)⟩
        · rw [if_neg d] at e1
          exact ⟨(x, m), (h2 x m).mpr ⟨e1, e2⟩, if_neg d⟩
  · rw [if_neg c]
    have hn : ∀ p ∈ ks, p.1 ≠ w := fun p hp z => c (List.any_eq_true.mpr ⟨p, hp, decide_eq_true z⟩)
    have z : N w = 0 := by
      apply Classical.byContradiction
      intro q
      exact hn _ ((h2 w (N w : Int)).mpr ⟨rfl, by omega⟩) rfl
    refine ⟨?_, fun x m => ?_⟩
    · rw [List.map_append]
      refine List.nodup_append.mpr ⟨h1, by simp, fun x hx y hy e => ?_⟩
      obtain ⟨p, hp, rfl⟩ := List.mem_map.mp hx
      have : y = w := by simpa using hy
      exact hn p hp (by rw [e, this])
    · rw [List.mem_append, hc, h2 x m]
      constructor
      · rintro (⟨e1, e2⟩ | e)
        · have d : ¬ x = w := fun d => by subst d; omega
          rw [if_neg d]
          exact ⟨e1, e2⟩
        · cases List.mem_singleton.mp e
          rw [if_pos rfl, z]
          exact ⟨rfl, by decide⟩
      · rintro ⟨e1, e2⟩
        by_cases d : x = w
        · subst d
          rw [if_pos rfl, z] at e1
          refine .inr (List.mem_singleton.mpr (Prod.ext rfl ?_))
          show m = _
          rw [z]
          exact e1
        · rw [if_neg d] at e1
          exact .inl ⟨e1, e2⟩
theorem addW_len (ks : List WM) (w : List Int) (m : Int) : (addW ks w m).length ≤ ks.length + 1 := by
  unfold addW
  split
  · rw [List.length_map]; omega
  · rw [List.length_append]; exact Nat.le_refl _
/-- what is counted so, in order, is what falls by ways -/
theorem due_is {e : Nat} {low : Int} {l : List Int} (hw : Wths low e l) {ks : List WM} (h : CntW ks fun w => nW e low w l) {vs : List (List Int)} (hp : vs.Perm (ks.map (·.1))) (hs : vs.Pairwise fun x y => HT.lexLt y x = false) : (vs.map fun w => (w, (nW e low w l : Int))) = fwv e low l := by
  refine eq_strict (R := wLt) (fun a b h1 h2 => ?_) ?_ (fwv_up e low l) fun p => ?_
  · have z : HT.lexLt b.1 a.1 = true := h2
    rw [TS.lex_as _ _ h1] at z
    cases z
  · have hn : vs.Pairwise fun x y => x ≠ y := (hp.nodup_iff.mpr h.1)
    rw [List.pairwise_map]
    refine (hs.and hn).imp fun {x y} ⟨h1, h2⟩ => ?_
    show HT.lexLt x y = true
    cases z : HT.lexLt x y with
    | true => rfl
    | false => exact absurd (TS.lex_eq _ _ z h1) h2
  · obtain ⟨w, m⟩ := p
    rw [fwv_mem e low l hw, List.mem_map]
    constructor
    · rintro ⟨v, hv, e1⟩
      cases e1
      obtain ⟨⟨v', m⟩, hm, e2⟩ := List.mem_map.mp (hp.mem_iff.mp hv)
      cases e2
      have z := (h.2 v' m).mp hm
      exact ⟨rfl, by rw [← z.1]; exact z.2⟩
    · rintro ⟨e1, e2⟩
      refine ⟨w, hp.mem_iff.mpr (List.mem_map.mpr ⟨_, (h.2 w m).mpr ⟨e1, e2⟩, rfl⟩), ?_⟩
      rw [e1]
abbrev k__law_due : Nat := 2
def sp__law_due (K : PySem.W.Frag) : Sp := fun vs H Q _ => ∃ (b r : Addr) (low : Int) (L : Nat) (l : List Int), vs = [.ref b, .ref r] ∧ SqT K H b [.int low, .int (L : Int)] ∧ L ≤ 40 ∧ SqL K H r (l.map V.int) ∧ l.length ≤ 60 ∧ Wths low L l ∧
  ∀ (D : Addr) (zs : List V) (H' : Hp), Same H H' → H D = none → H' D = some (.lst zs) → AllAt (FwR K) H' zs (fwv L low l) → Q (.ref D) H'
theorem take_cnt {l : List Int} {j : Nat} {y : Int} (h : l[j]? = some y) (p : Int → Bool) : (l.take (j + 1)).countP p = (l.take j).countP p + if p y then 1 else 0 := by
  rw [List.take_add_one, h, List.countP_append]
  show _ + List.countP p [y] = _
  rw [List.countP_singleton]
section
variable {P : Program} {w : World} {K : PySem.W.Frag} {mg : Str → Option Value} {base : Heap}
theorem ok__law_due (d : Def K mg "_law_due" s__law_due ["_law_bounds_here", "_law_row_here"]) (z : Bz mg) (c__law_way : Cal P w K mg base k__law_way "_law_way" ["_law_bounds_here", "_law_one", "_law_other"] (sp__law_way K)) : Cal P w K mg base k__law_due "_law_due" ["_law_bounds_here", "_law_row_here"] (sp__law_due K) := by
  have sc := sc__law_due
  refine d.cal fun f fd F => F.ok sc (fun vs H Q E h => ?_) (fun cdv A outer s H vs Q E hr h => ?_)
  · obtain ⟨b, r, low, L, l, rfl, _⟩ := h
    rfl
  obtain ⟨b, r, low, L, l, rfl, hb, hL, hr1, hl, hw, q⟩ := h
  refine ⟨_, (pss_cons (ps_set (i := 2) sc.nd rfl (Or.inr rfl) pe_dnewT)
 (pss_cons (ps_for PassesOwn.never rfl (pi_range1 rfl z.range_ (pa_cons (pe_callB call_len_seq (by rfl) z.len_ bt_len (pa_cons (pv 1) pa_nil)) pa_nil)) (pg_name (i := 3) sc.nd rfl (Or.inl rfl))
  (pss_one (ps_for PassesOwn.never rfl (pi_range1 rfl z.range_ (pa_cons (pv 3) pa_nil)) (pg_name (i := 4) sc.nd rfl (Or.inl rfl))
  (pss_one (ps_if (pt_cmpR op_gt (pe_ix ix_list (pv 1) (pv 4) (fun _ _ => rfl)) (pe_ix ix_list (pv 1) (pv 3) (fun _ _ => rfl)) (nomark _))
  (pss_cons (ps_set (i := 5) sc.nd rfl (Or.inl rfl) (pe_fn c__law_way (hr.mono (by decide)) (by rfl) (pa_cons (pv 0) (pa_cons (pe_ix ix_list (pv 1) (pv 4) (fun _ _ => rfl)) (pa_cons (pe_ix ix_list (pv 1) (pv 3) (fun _ _ => rfl)) pa_nil)))))
 (pss_one (ps_dput (Nat.lt_of_le_of_lt (Nat.add_le_add_left (by decide) _) hr.units) (pv 2) (pv 5) (pe_op op_add (pe_dget2 (Nat.lt_of_le_of_lt (Nat.add_le_add_left (by decide) _) hr.units) (pv 2) (pv 5) pe_int ⟨rfl, rfl, rfl, rfl⟩) pe_int) rfl)))
  pss_nil)))))
 (pss_one (ps_ret (pe_comp (cl := [("_law_found", s.heap.objs.size + 1 + 0)]) (cn := ["_law_found"]) (N := ["_law_found"]) (fr := [2]) (sc0 := defScope s__law_due) rfl (pi_list (pe_callB (call_sortedD rfl hr.units) (by rfl) z.sorted_ bt_sorted (pa_cons (pv 2) pa_nil))) (fun C s₂ H₂ fp => (pe_tup (pa_cons (pv 0) (pa_cons (pe_dget (Nat.lt_of_le_of_lt (Nat.add_le_add_left (by decide) _) hr.units) (pv 1) (pv 0) (fun _ _ => rfl)) pa_nil)))) (by with_unfolding_all rfl) ⟨by with_unfolding_all rfl, trivial⟩ rfl rfl rfl ⟨by decide +kernel, by decide +kernel, by decide +kernel, by decide +kernel, by decide +kernel, by decide +kernel, by decide +kernel⟩ rfl))))), ?_⟩
  have hml : (l.map V.int).length = l.length := List.length_map _
  refine fun dd hd => ?_
  have s1 : Same H (upd H dd (.dT [])) := same_new hd _
  refine ⟨_, rfl, r, _, rfl, .inl (s1.seq hr1), _, rfl, by omega, by omega, for_range (n := l.length) (fun k σ G => ∃ (ks : List WM) (v3 v4 v5 : Option V), σ = [some (.ref b), some (.ref r), some (.ref dd), v3, v4, v5] ∧ Same H G ∧ G dd = some (.dT (dW ks)) ∧ CntW ks (fun v => nW L low v (l.take k)) ∧ ks.length ≤ 100 * k)
    ⟨[], _, _, _, rfl, s1, upd_same, cntW_nil fun w => rfl, Nat.zero_le _⟩ ?_ ?_ |> fun z => by rw [hml]; exact z⟩
  · rintro k σ G hk ⟨ks, v3, v4, v5, rfl, sG, hdG, hc, hkl⟩
    have gk : l[k]? = some l[k] := List.getElem?_eq_getElem hk
    generalize l[k] = x at gk
    have hax : atI (l.map V.int) (0 + (k : Int)) = some (.int x) := by
      rw [Int.zero_add]
      exact atI_nat (by rw [List.getElem?_map, gk] <;> rfl)
    refine ⟨_, rfl, 0 + (k : Int), rfl, by omega, by omega, ?_⟩
    rw [show (0 + (k : Int)).toNat = k by omega]
    refine for_range (n := k) (fun j σ G1 => ∃ (ks : List WM) (v4 v5 : Option V), σ = [some (.ref b), some (.ref r), some (.ref dd), some (.int (0 + (k : Int))), v4, v5] ∧ Same H G1 ∧ G1 dd = some (.dT (dW ks)) ∧ CntW ks (fun v => nW L low v (l.take k) + (l.take j).countP (fun y => decide (x < y) && decide (cway L low y x = v))) ∧ ks.length ≤ 100 * k + j)
      ⟨ks, _, _, rfl, sG, hdG, hc, hkl⟩ ?_ ?_
    · rintro j σ G1 hj ⟨ks, v4, v5, rfl, sG1, hd1, hc1, hk1⟩
      have hjn : j < l.length := by omega
      have gj : l[j]? = some l[j] := List.getElem?_eq_getElem hjn
      generalize l[j] = y at gj
      have hay : atI (l.map V.int) (0 + (j : Int)) = some (.int y) := by
        rw [Int.zero_add]
        exact atI_nat (by rw [List.getElem?_map, gj] <;> rfl)
      have hrG := sG1.seq hr1
      refine ⟨_, rfl, _, rfl, r, _, _, _, rfl, rfl, hrG, hay, _, rfl, _, rfl, r, _, _, _, rfl, rfl, hrG, hax, _, _, rfl, rfl, _, rfl, ?_⟩
      by_cases c : x < y
      · refine ite2 (fun _ => ?_) (fun z => absurd (decide_eq_true c) z)
        refine ⟨_, rfl, _, rfl, _, rfl, r, _, _, _, rfl, rfl, hrG, hay, _, rfl, _, rfl, r, _, _, _, rfl, rfl, hrG, hax, b, y, x, low, L, rfl, sG1.seqT hb, hL, fun p G2 t2 hp => ?_⟩
        have hd2 := t2 _ _ hd1
        have hpk : G2 p = some (.tup ((wkey (cway L low y x)).map kV)) := by rw [wkey_kV]; exact hp
        refine ⟨_, rfl, dd, rfl, .inr ⟨_, .inl hd2⟩, _, rfl, _, DGet.t hd2 hpk, ?_⟩
        rw [val_dW, cntW_find hc1]
        refine ⟨_, _, rfl, rfl, _, rfl, _, rfl, dd, _, rfl, DPut.t hd2 hpk ?_, ?_⟩
        · unfold dW
          rw [List.length_map, List.length_map]
          rw [sizeLine_eq]
          omega
        · refine ⟨addW ks (cway L low y x) (((nW L low (cway L low y x) (l.take k) + (l.take j).countP (fun z => decide (x < z) && decide (cway L low z x = cway L low y x)) : Nat) : Int) + 1), _, _, rfl, own2 (sG1.trans t2) hd, ?_, cntW_add hc1 _ fun v => ?_, ?_⟩
          · rw [upd_same]
            exact congrArg (fun z => some (HO.dT z)) (put_dW _ _ _)
          · rw [take_cnt gj, decide_eq_true c, Bool.true_and]
            by_cases e : v = cway L low y x
            · rw [if_pos e, if_pos (decide_eq_true e.symm)]
              omega
            · rw [if_neg e, if_neg (fun z => e (of_decide_eq_true z).symm)]
              omega
          · have := addW_len ks (cway L low y x) (((nW L low (cway L low y x) (l.take k) + (l.take j).countP (fun z => decide (x < z) && decide (cway L low z x = cway L low y x)) : Nat) : Int) + 1)
            omega
      · refine ite2 (fun z => absurd (of_decide_eq_true z) c) (fun _ => ?_)
        refine ⟨ks, _, _, rfl, sG1, hd1, ?_, by omega⟩
        have e : (fun v => nW L low v (l.take k) + (l.take (j + 1)).countP (fun y => decide (x < y) && decide (cway L low y x = v))) = fun v => nW L low v (l.take k) + (l.take j).countP (fun y => decide (x < y) && decide (cway L low y x = v)) := by
          funext v
          rw [take_cnt gj, decide_eq_false c, Bool.false_and]
          rfl
        rw [e]
        exact hc1
    · rintro σ G1 ⟨ks, v4, v5, rfl, sG1, hd1, hc1, hk1⟩
      refine ⟨ks, _, _, _, rfl, sG1, hd1, ?_, by omega⟩
      rw [show l.take (k + 1) = l.take k ++ [x] by rw [List.take_add_one, gk]; rfl]
      have e : (fun v => nW L low v (l.take k ++ [x])) = fun v => nW L low v (l.take k) + (l.take k).countP (fun y => decide (x < y) && decide (cway L low y x = v)) := by
        funext v
        exact nW_snoc L low v x _
      rw [e]
      exact hc1
  · rintro σ G ⟨ks, v3, v4, v5, rfl, sG, hdG, hc, hkl⟩
    rw [List.take_length] at hc
    refine ⟨_, rfl, dd, ks.map (fun p : WM => (p.1, V.int p.2)), rfl, hdG, fun l2 zs vs hl2 hzs hpm hsr => ?_⟩
    rw [List.map_map] at hpm
    have hpm' : vs.Perm (ks.map (·.1)) := hpm
    have s2 := same_new hl2 (.lst zs)
    have el2 : upd G l2 (.lst zs) l2 = some (.lst zs) := upd_same
    have hd2 := s2 _ _ hdG
    have hzs2 : ∀ {j : Nat} {z : V}, zs[j]? = some z → ∃ v a, vs[j]? = some v ∧ z = .ref a ∧ upd G l2 (.lst zs) a = some (.tup (v.map V.int)) := fun h => by
      obtain ⟨v, e1, a, e2, e3⟩ := pair_get hzs h
      exact ⟨v, a, e1, e2, s2 _ _ e3⟩
    have hzl : zs.length = vs.length := Paired.length hzs
    have hvl : vs.length ≤ 6000 := by
      rw [hpm'.length_eq, List.length_map]
      omega
    generalize upd G l2 (.lst zs) = G2 at *
    have s02 := sG.trans s2
    refine ⟨l2, rfl, ⟨_, SqL.of el2⟩, fun D hD => ?_⟩
    have hDH : H D = none := by
      cases z : H D with
      | none => rfl
      | some o => rw [s02 _ _ z] at hD; cases hD
    refine comp_listP (xs := zs) (by rw [sizeLine_eq]; omega) (fun i ys H3 => H3 D = some (.lst ys) ∧ ys.length = i ∧ Same G2 H3 ∧ AllAt (FwR K) H3 ys ((vs.take i).map fun w => (w, (nW L low w l : Int)))) ⟨upd_same, rfl, same_new hD _, .nil⟩ (fun i ys H3 ⟨_, _, s3, _⟩ => SqL.of (s3 _ _ el2)) (fun i ys H3 ⟨e1, e2, _, _⟩ => ⟨e1, e2⟩) ?_ ?_
    · rintro i z ys H3 hz ⟨e1, e2, s3, hA⟩
      obtain ⟨v, a, gv, rfl, ha⟩ := hzs2 hz
      have ha3 := s3 _ _ ha
      have hak : H3 a = some (.tup ((wkey v).map kV)) := by rw [wkey_kV]; exact ha3
      have hg : DGet H3 dd (.ref a) (some (.int (nW L low v l : Int))) := by
        rw [← cntW_get hc (hpm'.mem_iff.mp (List.mem_of_getElem? gv))]
        exact DGet.t (s3 _ _ hd2) hak
      refine ⟨_, rfl, _, rfl, _, rfl, dd, _, rfl, hg, szb rfl, fun p hp => ?_⟩
      have s4 := same_new hp (.tup [V.ref a, .int (nW L low v l : Int)])
      have ep : upd H3 p (.tup [V.ref a, .int (nW L low v l : Int)]) p = some (.tup [V.ref a, .int (nW L low v l : Int)]) := upd_same
      have e1' := s4 _ _ e1
      have hA4 := fw_tk hA (.same s4)
      have ha4 := s4 _ _ ha3
      have s34 := s3.trans s4
      generalize upd H3 p (.tup [V.ref a, .int (nW L low v l : Int)]) = H4 at *
      refine ⟨e1', upd_same, by rw [List.length_append, e2]; rfl, own2 s34 hD, ?_⟩
      have tk : TKeep H4 (upd H4 D (.lst (ys ++ [V.ref p]))) := TKeep.set e1'
      rw [List.take_add_one, gv, List.map_append]
      exact (fw_tk hA4 tk).app (.one ⟨p, a, rfl, (tk _ _).1 ep, sqT_tk tk (SqT.of ha4)⟩)
    · rintro ys H3 ⟨e1, e2, s3, hA⟩
      rw [hzl, List.take_length, due_is hw hc hpm' hsr] at hA
      exact q D ys H3 (s02.trans s3) hDH e1 hA
end
theorem kit_list_list {K : PySem.W.Frag} : PySem.W.kitOne K (.type "list") (.type "list") = some true := by kernel_rfl
theorem fwv_len : ∀ (e : Nat) (low : Int) (l : List Int), ∀ p ∈ fwv e low l, p.1.length ≤ e
  | 0, _, _, p, hp => absurd hp (by simp [fwv])
  | e + 1, low, l, p, hp => by
    rw [fwv_succ] at hp
    rcases List.mem_append.mp hp with hp | hp
    · rcases List.mem_append.mp hp with hp | hp
      · split at hp
        · rw [List.mem_singleton.mp hp]
          exact Nat.zero_le _
        · cases hp
      · obtain ⟨q, hq, rfl⟩ := List.mem_map.mp hp
        exact Nat.succ_le_succ (fwv_len e _ _ q hq)
    · obtain ⟨q, hq, rfl⟩ := List.mem_map.mp hp
      exact Nat.succ_le_succ (fwv_len e _ _ q hq)
theorem alk_way {K : PySem.W.Frag} {H : Hp} {a b : Addr} {u : List Int} (ha : SqT K H a (u.map V.int)) (hb : SqT K H b (u.map V.int)) : Alk K H 2 (.ref a) (.ref b) := by
  refine .tup ha hb rfl fun i x y g1 g2 => ?_
  rw [g1] at g2
  cases g2
  rw [List.getElem?_map] at g1
  cases z : u[i]? with
  | none => rw [z] at g1; cases g1
  | some m => rw [z] at g1; cases g1; exact .flat rfl
theorem alk_fw {K : PySem.W.Frag} {H : Hp} {a b : Addr} {xs ys : List V} {ms : List WM} (ha : SqL K H a xs) (hb : SqL K H b ys) (hx : AllAt (FwR K) H xs ms) (hy : AllAt (FwR K) H ys ms) : Alk K H 4 (.ref a) (.ref b) := by
  refine .lst ha hb (hx.1.trans hy.1.symm) fun j x y h1 h2 => ?_
  obtain ⟨p, hp, t, wt, rfl, e1, e2⟩ := hx.get h1
  obtain ⟨t', wt', rfl, f1, f2⟩ := hy.2 j y p h2 hp
  refine .tup (SqT.of e1) (SqT.of f1) rfl fun i u v g1 g2 => ?_
  match i, g1, g2 with
  | 0, g1, g2 => cases g1; cases g2; exact alk_way e2 f2
  | 1, g1, g2 => cases g1; cases g2; exact .flat rfl
theorem pln_fw {K : PySem.W.Frag} {H : Hp} {a : Addr} {xs : List V} {ms : List WM} (ha : SqT K H a xs) (hx : AllAt (FwR K) H xs ms) (hl : xs.length ≤ 1000) (hm : ∀ p ∈ ms, p.1.length ≤ 1000) : PlnAt K H 3 (.ref a) := by
  refine .inr ⟨a, xs, rfl, ha, hl, fun x hxm => ?_⟩
  obtain ⟨j, hj⟩ := List.mem_iff_getElem?.mp hxm
  obtain ⟨p, hp, t, wt, rfl, e1, e2⟩ := hx.get hj
  refine .inr ⟨t, _, rfl, SqT.of e1, (by decide : 2 ≤ 1000), fun z hz => ?_⟩
  simp only [List.mem_cons, List.not_mem_nil, or_false] at hz
  rcases hz with rfl | rfl
  · exact pln_ints e2 (hm p (List.mem_of_getElem? hp)) 0
  · exact pln_leaf (.inr (.inl ⟨_, rfl⟩)) _
abbrev k__law_right : Nat := 45
def sp__law_right (K : PySem.W.Frag) : Sp := fun vs H Q _ => ∃ (sa du : Addr) (st en : Nat) (low : Int) (L : Nat) (ns : List Int) (zs : List V), vs = [.ref sa, .ref du] ∧ StA K H sa st en low L ns ∧ H du = some (.lst zs) ∧ AllAt (FwR K) H zs (fwv L low (segI ns st en)) ∧
  ∀ H', Same H H' → Q (.bl true) H'
section
variable {P : Program} {w : World} {K : PySem.W.Frag} {mg : Str → Option Value} {base : Heap}
theorem ok__law_right (d : Def K mg "_law_right" s__law_right ["_law_stretch", "_law_due_here"]) (z : Bz mg) (c__law_plain : Cal P w K mg base k__law_plain "_law_plain" ["_law_thing"] (sp__law_plain K)) (c_falls_by_ways : Cal P w K mg base k_falls_by_ways "falls_by_ways" ["stretch"] (sp_falls_by_ways K)) : Cal P w K mg base k__law_right "_law_right" ["_law_stretch", "_law_due_here"] (sp__law_right K) := by
  have sc := sc__law_right
  refine d.cal fun f fd F => F.ok sc (fun vs H Q E h => ?_) (fun cdv A outer s H vs Q E hr h => ?_)
  · obtain ⟨sa, du, st, en, low, L, ns, zs, rfl, _⟩ := h
    rfl
  obtain ⟨sa, du, st, en, low, L, ns, zs, rfl, hA, hdu, hz, q⟩ := h
  refine ⟨_, (pss_cons (ps_for PassesOwn.never rfl (pi_range1 rfl z.range_ (pa_cons pe_int pa_nil)) (pg_name (i := 2) sc.nd rfl (Or.inl rfl))
  (pss_cons (ps_set (i := 3) sc.nd rfl (Or.inl rfl) (pe_fn c_falls_by_ways (hr.mono (by decide)) (by rfl) (pa_cons (pv 0) pa_nil)))
 (pss_cons (ps_if (PW.pt (pw_or (pt_not (pt_val (pe_callB call_isi (by rfl) z.isinstance_ bt_isinstance (pa_cons (pv 3) (pa_cons (pe_bltn (v := .ty "list") (u := .type "list") (by rfl) z.list_ bt_list rfl) pa_nil))))) (pw_or (pt_cmpR (op_neAlk hr.units) (pv 3) (pv 1) (nomark _)) (pw_or1 (pt_not (pt_val (pe_fn c__law_plain (hr.mono (by decide)) (by rfl) (pa_cons (pe_callTy call_tuple_of (by rfl) z.tuple_ bt_tuple (pa_cons (pv 3) pa_nil)) pa_nil))))))))
  (pss_one (ps_ret pe_bl))
  pss_nil)
 (pss_cons (ps_expr (pe_bm0 PySem.F.plainAttrs_list PySem.F.slot_list_reverse PySem.F.type_list_reverse mt_reverse (pv 3)))
 (pss_one (ps_expr (pe_bm PySem.F.plainAttrs_list PySem.F.slot_list_append PySem.F.type_list_append mt_append (pv 3) (pa_cons (pe_tup (pa_cons (pe_tup pa_nil) (pa_cons pe_int pa_nil))) pa_nil))))))))
 (pss_one (ps_ret pe_bl))), ?_⟩
  have hL : L ≤ 40 := by obtain ⟨_, _, _, _, _, _, _, h⟩ := hA; exact h
  refine ⟨2, rfl, by decide, by decide, for_range (n := 2) (fun i σ G => ∃ v2 v3 : Option V, σ = [some (.ref sa), some (.ref du), v2, v3] ∧ Same H G) ⟨_, _, rfl, Same.refl H⟩ ?_ ?_⟩
  · rintro i σ G hi ⟨v2, v3, rfl, sG⟩
    refine ⟨_, rfl, sa, st, en, low, L, ns, rfl, hA.same sG, fun D ys G1 s1 hDn hD hy hyl => ?_⟩
    have hDH : H D = none := by
      cases z : H D with
      | none => rfl
      | some o => rw [sG _ _ z] at hDn; cases hDn
    have s01 := sG.trans s1
    refine ⟨_, rfl, _, _, _, _, rfl, .lst hD, kit_list_list, true, rfl, iteF ?_⟩
    refine ⟨_, rfl, _, rfl, 4, D, du, rfl, rfl, alk_fw (SqL.of hD) (SqL.of (s01 _ _ hdu)) hy (fw_tk hz (.same s01)), by decide, false, rfl, iteF ?_⟩
    refine ⟨_, rfl, D, _, rfl, .inl ⟨SqL.of hD, fun tu htu => ?_⟩⟩
    have s2 := same_new htu (.tup ys)
    have hD2 := s2 _ _ hD
    refine ⟨3, by decide, .ref tu, rfl, pln_fw (SqT.of upd_same) (fw_tk hy (.same s2)) (by omega) (fun p hp => Nat.le_trans (fwv_len _ _ _ p hp) (by omega)), fun G3' s3 => ⟨true, rfl, iteF ?_⟩⟩
    have s03 := s01.trans (s2.trans s3)
    have hD3 := s3 _ _ hD2
    refine ⟨_, rfl, .inl ⟨rfl, _, SqL.of hD3⟩, D, ys, rfl, rfl, hD3, ?_⟩
    have s4 : Same H (upd G3' D (.lst ys.reverse)) := own2 s03 hDH
    have hD4 : upd G3' D (.lst ys.reverse) D = some (.lst ys.reverse) := upd_same
    generalize upd G3' D (.lst ys.reverse) = G4 at *
    refine ⟨_, rfl, .inl ⟨rfl, _, SqL.of hD4⟩, szb rfl, fun t1 ht1 => ⟨szb rfl, fun t2 ht2 => ?_⟩⟩
    have s5 := (same_new ht1 (.tup [])).trans (same_new ht2 (.tup [V.ref t1, .int 0]))
    refine ⟨D, _, _, rfl, rfl, s5 _ _ hD4, small1000 (by rw [List.length_reverse]; omega), ?_⟩
    exact ⟨_, _, rfl, own2 (s4.trans s5) hDH⟩
  · rintro σ G ⟨v2, v3, rfl, sG⟩
    exact q G sG
end
abbrev k_law : Nat := 50
abbrev sp_law (K : PySem.W.Frag) : Sp := spLaw K
section
variable {P : Program} {w : World} {K : PySem.W.Frag} {mg : Str → Option Value} {base : Heap}
theorem ok_law (z : Bz mg) (c__law_bounds : Cal P w K mg base k__law_bounds "_law_bounds" ["_law_pen_here"] (sp__law_bounds K)) (c__law_due : Cal P w K mg base k__law_due "_law_due" ["_law_bounds_here", "_law_row_here"] (sp__law_due K)) (c__law_is : Cal P w K mg base k__law_is "_law_is" ["_law_found", "_law_bounds_here", "_law_row_here"] (sp__law_is K)) (c__law_pen : Cal P w K mg base k__law_pen "_law_pen" ["_law_script", "_law_k"] (sp__law_pen K)) (c__law_right : Cal P w K mg base k__law_right "_law_right" ["_law_stretch", "_law_due_here"] (sp__law_right K)) (c__law_row : Cal P w K mg base k__law_row "_law_row" ["_law_pen_here", "_law_bounds_here", "_law_longest"] (sp__law_row K)) (c__law_take : Cal P w K mg base k__law_take "_law_take" ["_law_pen_here", "_law_size"] (sp__law_take K)) (c_tree_of : Cal P w K mg base k_tree_of "tree_of" ["bounds", "row"] (sp_tree_of K)) : ∀ (f : Addr) (fd : FuncData), Fun K "law" "law" s_law f fd → FnOk P w K mg base CX0 k_law f fd ["_law_script"] (sp_law K) := by
  have sc := sc_law
  intro f fd F
  refine F.ok sc (fun vs H Q E h => ?_) (fun cdv A outer s H vs Q E hr h => ?_)
  · obtain ⟨a, ns, rfl, _⟩ := h
    rfl
  obtain ⟨a, scs, rfl, hS, h63, hO, q⟩ := h
  refine ⟨_, (pss_cons (ps_set (i := 1) sc.nd rfl (Or.inr rfl) (pe_fn c__law_pen (hr.mono (by decide)) (by rfl) (pa_cons (pv 0) (pa_cons pe_int pa_nil))))
 (pss_cons (ps_set (i := 2) sc.nd rfl (Or.inl rfl) (pe_fn c__law_bounds (hr.mono (by decide)) (by rfl) (pa_cons (pv 1) pa_nil)))
 (pss_cons (ps_set (i := 3) sc.nd rfl (Or.inl rfl) (pe_fn c__law_row (hr.mono (by decide)) (by rfl) (pa_cons (pe_fn c__law_pen (hr.mono (by decide)) (by rfl) (pa_cons (pv 0) (pa_cons pe_int pa_nil))) (pa_cons (pv 2) (pa_cons (pe_ix ix_list (pe_lst (pa_cons pe_int (pa_cons pe_int (pa_cons pe_int (pa_cons pe_int pa_nil))))) (pe_fn c__law_take (hr.mono (by decide)) (by rfl) (pa_cons (pv 1) (pa_cons pe_int pa_nil))) (fun _ _ => rfl)) pa_nil)))))
 (pss_cons (ps_set (i := 4) sc.nd rfl (Or.inl rfl) (pe_fn c_tree_of (hr.mono (by decide)) (by rfl) (pa_cons (pv 2) (pa_cons (pe_callTy call_list_of (by rfl) z.list_ bt_list (pa_cons (pv 3) pa_nil)) pa_nil))))
 (pss_cons (ps_set (i := 5) sc.nd rfl (Or.inr rfl) (pe_callB call_len_seq (by rfl) z.len_ bt_len (pa_cons (pv 3) pa_nil)))
 (pss_cons (ps_set (i := 6) sc.nd rfl (Or.inl rfl) (pe_lst (pa_cons (pe_tup (pa_cons pe_int (pa_cons (pv 5) pa_nil))) (pa_cons (pe_tup (pa_cons pe_int (pa_cons pe_int pa_nil))) pa_nil))))
 (pss_cons (ps_for PassesOwn.never rfl (pi_range1 rfl z.range_ (pa_cons pe_int pa_nil)) (pg_name (i := 7) sc.nd rfl (Or.inl rfl))
  (pss_one (ps_expr (pe_bm PySem.F.plainAttrs_list PySem.F.slot_list_append PySem.F.type_list_append mt_append (pv 6) (pa_cons (pe_callTy call_tuple_of (by rfl) z.tuple_ bt_tuple (pa_cons (pe_callB call_sortedI (by rfl) z.sorted_ bt_sorted (pa_cons (pe_comp (cl := [("_law_pen_here", s.heap.objs.size + 1 + 0), ("_law_many", s.heap.objs.size + 1 + 1)]) (cn := ["_law_pen_here", "_law_many"]) (N := ["_law_many", "_law_pen_here"]) (fr := [5, 1]) (sc0 := defScope s_law) rfl (pi_range1 rfl z.range_ (pa_cons pe_int pa_nil)) (fun C s₂ H₂ fp => (pe_fn c__law_take (hr.mono (by decide)) (by rfl) (pa_cons (pv 2) (pa_cons (pe_op op_add (pv 1) pe_int) pa_nil)))) (by with_unfolding_all rfl) ⟨by with_unfolding_all rfl, by with_unfolding_all rfl, trivial⟩ rfl rfl rfl ⟨by decide +kernel, by decide +kernel, by decide +kernel, by decide +kernel, by decide +kernel, by decide +kernel, by decide +kernel⟩ rfl) pa_nil)) pa_nil)) pa_nil)))))
 (pss_cons (ps_for PassesOwn.never rfl (pi_list (pv 6)) (pg_tup rfl (pgs_cons (pg_name (i := 8) sc.nd rfl (Or.inl rfl)) (pgs_cons (pg_name (i := 9) sc.nd rfl (Or.inl rfl)) pgs_nil)))
  (pss_one (ps_if (pt_not (pt_val (pe_fn c__law_right (hr.mono (by decide)) (by rfl) (pa_cons (pe_tup (pa_cons (pv 4) (pa_cons (pv 8) (pa_cons (pv 9) pa_nil)))) (pa_cons (pe_fn c__law_due (hr.mono (by decide)) (by rfl) (pa_cons (pv 2) (pa_cons (pe_slice sl_list (pv 3) (po_some (pv 8)) (po_some (pv 9))) pa_nil))) pa_nil)))))
  (pss_one (ps_ret pe_bl))
  pss_nil)))
 (pss_one (ps_ret (pe_fn c__law_is (hr.mono (by decide)) (by rfl) (pa_cons (pv 4) (pa_cons (pv 2) (pa_cons (pv 3) pa_nil)))))))))))))), ?_⟩
  have S0 : Scr K H a (scs.map V.int) := Scr.of hS hO
  refine ⟨_, rfl, a, scs, 0, rfl, hS, h63, by decide, by decide, fun pen H1 hpen s1 P1 => ?_⟩
  have S1 := S0.same s1
  refine ⟨_, rfl, pen, rfl, P1, fun b low L H2 k2 P2 hb2 hL _ _ => ?_⟩
  have S2 := P1.scr k2 S1
  refine ⟨_, rfl, a, scs, 1, rfl, S2.sq, h63, by decide, by decide, fun pen2 H3 hpen2 s3 P3 => ?_⟩
  have hpp : pen2 ≠ pen := P2.fresh hpen2
  refine ⟨_, rfl, szb rfl, fun p4 hp4 => ?_⟩
  have s4 : Same H3 (upd H3 p4 (.lst [.int 8, .int 8, .int 20, .int 40])) := same_new hp4 _
  have h4 : upd H3 p4 (.lst [.int 8, .int 8, .int 20, .int 40]) p4 = some (.lst [.int 8, .int 8, .int 20, .int 40]) := upd_same
  have P4p := P3.same s4
  have P4 := (P2.same s3).same s4
  have hb4 := s4 _ _ (s3 _ _ hb2)
  have hp4p : p4 ≠ pen := (P2.same s3).fresh hp4
  generalize upd H3 p4 (.lst [.int 8, .int 8, .int 20, .int 40]) = H4 at *
  refine ⟨_, rfl, pen, 4, rfl, P4, by decide, by decide, fun v5 H5 k5 P5 a5 b5 => ?_⟩
  obtain ⟨g, hg, hv5⟩ := atI_ints (l := [8, 8, 20, 40]) a5 b5
  have hg2 : 0 ≤ g ∧ g ≤ 40 := by
    simp only [List.mem_cons, List.not_mem_nil, or_false] at hg
    omega
  refine ⟨p4, _, _, _, rfl, rfl, SqL.of (k5 _ _ hp4p h4), hv5, ?_⟩
  have hb5 := k5 _ _ (P4.ne hb4) hb4
  have P5p := P4p.keep (Ne.symm hpp) k5
  refine ⟨pen2, b, low, g, L, rfl, P5p, hb5, hL, hg2.1, by omega, fun r ns H6 k6 P6p hr6 hr5 hlen hw => ?_⟩
  have hb6 := k6 _ _ (P5p.ne hb5) hb5
  have P6 := P5.keep hpp k6
  have hrp : r ≠ pen := P5.fresh hr5
  clear S0 S1 S2 P1 P2 P3 P4 P4p P5 P5p P6p
  refine ⟨_, rfl, _, rfl, r, _, rfl, .inl (SqL.of hr6), fun h11 hh11 => ?_⟩
  have s11 : Same H6 (upd H6 h11 (.lst (ns.map V.int))) := same_new hh11 _
  refine ⟨b, h11, low, L, ns, rfl, SqT.of (s11 _ _ hb6), hL, SqL.of upd_same, by omega, hw, fun H12 v1 s12 hv1 => ?_⟩
  have s612 := s11.trans s12
  have P12 := P6.same s612
  have hb12 := s612 _ _ hb6
  have hr12 := s612 _ _ hr6
  refine ⟨_, rfl, r, _, rfl, .inl (SqL.of hr12), ?_⟩
  rw [List.length_map]
  refine ⟨_, rfl, szb rfl, fun q1 hq1 => ?_⟩
  have s16 : Same H12 (upd H12 q1 (.tup [.int 0, .int (ns.length : Int)])) := same_new hq1 _
  have e16 : upd H12 q1 (.tup [.int 0, .int (ns.length : Int)]) q1 = some (.tup [.int 0, .int (ns.length : Int)]) := upd_same
  generalize upd H12 q1 (.tup [.int 0, .int (ns.length : Int)]) = H16 at *
  refine ⟨szb rfl, fun q2 hq2 => ?_⟩
  have s17 : Same H16 (upd H16 q2 (.tup [.int 0, .int 0])) := same_new hq2 _
  have e17 : upd H16 q2 (.tup [.int 0, .int 0]) q2 = some (.tup [.int 0, .int 0]) := upd_same
  generalize upd H16 q2 (.tup [.int 0, .int 0]) = H17 at *
  refine ⟨szb rfl, fun sa hsa => ?_⟩
  have s19 : Same H17 (upd H17 sa (.lst [.ref q1, .ref q2])) := same_new hsa _
  have e19 : upd H17 sa (.lst [.ref q1, .ref q2]) sa = some (.lst [.ref q1, .ref q2]) := upd_same
  have s1217 : Same H12 H17 := s16.trans s17
  have nsp : sa ≠ pen := (P12.same s1217).fresh hsa
  have nsr : r ≠ sa := ne_of_none (s1217 _ _ hr12) hsa
  generalize upd H17 sa (.lst [.ref q1, .ref q2]) = H19 at *
  have s1219 : Same H12 H19 := s1217.trans s19
  have sp19 : SpAt H19 [.ref q1, .ref q2] ns.length := fun x hx => by
    simp only [List.mem_cons, List.not_mem_nil, or_false] at hx
    rcases hx with rfl | rfl
    · exact ⟨q1, 0, ns.length, rfl, s19 _ _ (s17 _ _ e16), Nat.zero_le _, Nat.le_refl _⟩
    · exact ⟨q2, 0, 0, rfl, s19 _ _ e17, Nat.le_refl _, Nat.zero_le _⟩
  refine ⟨3, rfl, by decide, by decide, for_range (n := 3) (fun i σ G => ∃ (xs : List V) (w7 : Option V), σ = [some (.ref a), some (.ref pen), some (.ref b), some (.ref r), some v1, some (.int (ns.length : Int)), some (.ref sa), w7, none, none] ∧ G sa = some (.lst xs) ∧ xs.length = 2 + i ∧ SpAt G xs ns.length ∧ PenM G pen ∧ G b = some (.tup [.int low, .int (L : Int)]) ∧ G r = some (.lst (ns.map V.int)) ∧ TreeAt G v1 (grow low L ns))
    ⟨_, _, rfl, e19, rfl, sp19, P12.same s1219, s1219 _ _ hb12, s1219 _ _ hr12, hv1.same s1219⟩ ?_ ?_⟩
  · rintro i σ G hi ⟨xs, w7, rfl, hsG, hxl, hsp, PG, hbG, hrG, hv1G⟩
    refine ⟨_, rfl, .inl ⟨rfl, _, SqL.of hsG⟩, 2, rfl, by decide, by decide, fun D hD => ?_⟩
    have hDp : D ≠ pen := PG.fresh hD
    refine comp_range (n := 2) (sz (by decide)) (fun j ys H6 => ∃ fs : List Int, ys = fs.map V.int ∧ fs.length = j ∧ (∀ x ∈ fs, 0 ≤ x ∧ x ≤ (ns.length : Int)) ∧ H6 D = some (.lst ys) ∧ Keep pen G H6 ∧ PenM H6 pen)
      ⟨[], rfl, rfl, fun x hx => absurd hx (by simp), upd_same, Keep.new hD _, PG.new hD _⟩ (fun j ys H6 ⟨fs, e1, e2, _, e3, _⟩ => ⟨e3, by rw [e1, List.length_map]; exact e2⟩) ?_ ?_
    · rintro j ys H6 hj ⟨fs, e1, e2, e4, e3, k6, P6⟩
      refine ⟨_, rfl, _, rfl, _, _, rfl, rfl, pen, _, rfl, P6, by omega, by omega, fun u3 H7 k7 P7 z0 z1 => ?_⟩
      have e3' : H7 D = some (.lst ys) := k7 _ _ hDp e3
      refine ⟨e3', fs ++ [u3], by rw [List.map_append, e1] <;> rfl, by rw [List.length_append, e2] <;> rfl, fun x hx => ?_, upd_same, (k6.trans k7).own hD, P7.other hDp _⟩
      rcases List.mem_append.mp hx with h' | h'
      · exact e4 x h'
      · cases List.mem_singleton.mp h'
        exact ⟨z0, by omega⟩
    · rintro ys H6 ⟨fs, e1, e2, e4, e3, k6, P6⟩
      rw [e1] at e3
      refine ⟨D, fs, rfl, SqL.of e3, by omega, fun l zs hl pm pw => ?_⟩
      have hzl : zs.length = 2 := by rw [pm.length_eq, e2]
      obtain ⟨x, y, rfl⟩ : ∃ x y, zs = [x, y] := by
        match zs, hzl with
        | [x, y], _ => exact ⟨x, y, rfl⟩
      have hx := e4 x (pm.mem_iff.mp (by simp))
      have hy := e4 y (pm.mem_iff.mp (by simp))
      have hxy : x ≤ y := by
        have := List.pairwise_cons.mp pw
        exact this.1 y (by simp)
      obtain ⟨st, rfl⟩ := Int.eq_ofNat_of_zero_le hx.1
      obtain ⟨en, rfl⟩ := Int.eq_ofNat_of_zero_le hy.1
      refine ⟨l, _, rfl, .inl ⟨SqL.of upd_same, fun t ht => ?_⟩⟩
      have s7 : Same H6 (upd (upd H6 l (.lst ([(st : Int), (en : Int)].map V.int))) t (.tup ([(st : Int), (en : Int)].map V.int))) := (same_new hl _).trans (same_new ht _)
      have e7 : upd (upd H6 l (.lst ([(st : Int), (en : Int)].map V.int))) t (.tup ([(st : Int), (en : Int)].map V.int)) t = some (.tup [.int (st : Int), .int (en : Int)]) := upd_same
      generalize upd (upd H6 l (.lst ([(st : Int), (en : Int)].map V.int))) t (.tup ([(st : Int), (en : Int)].map V.int)) = H7 at *
      have hs7 := s7 _ _ (k6 _ _ nsp hsG)
      have tk : TKeep G H7 := (PG.tk k6).trans (TKeep.same s7)
      refine ⟨sa, _, _, rfl, rfl, hs7, small1000 (by omega), ?_⟩
      have tk2 : TKeep G (upd H7 sa (.lst (xs ++ [.ref t]))) := tk.trans (TKeep.set hs7)
      have ne7 : ∀ {c : Addr} {o : HO}, c ≠ pen → c ≠ sa → G c = some o → upd H7 sa (.lst (xs ++ [.ref t])) c = some o := fun n1 n2 hc => by
        rw [upd_ne n2]
        exact s7 _ _ (k6 _ _ n1 hc)
      refine ⟨_, _, rfl, upd_same, by rw [List.length_append, hxl] <;> rfl, fun z hz => ?_, (P6.same s7).other nsp _, (tk2 _ _).1 hbG, ne7 hrp nsr hrG, hv1G.tk tk2⟩
      rcases List.mem_append.mp hz with z1 | z1
      · exact hsp.tk tk2 z z1
      · cases List.mem_singleton.mp z1
        exact ⟨t, st, en, rfl, (TKeep.set hs7 _ _).1 e7, by omega, by omega⟩
  · rintro σ G ⟨xs, w7, rfl, hsG, hxl, hsp, PG, hbG, hrG, hv1G⟩
    refine ⟨_, rfl, sa, rfl, ⟨_, SqL.of hsG⟩, for_list (K := K) (a := sa) (xs := xs) (fun i σ G1 => ∃ w8 w9 : Option V, σ = [some (.ref a), some (.ref pen), some (.ref b), some (.ref r), some v1, some (.int (ns.length : Int)), some (.ref sa), w7, w8, w9] ∧ Same G G1) ⟨_, _, rfl, Same.refl G⟩ (fun i σ G1 _ ⟨_, _, _, s1⟩ => SqL.of (s1 _ _ hsG)) ?_ ?_⟩
    · rintro i x σ G1 hi ⟨w8, w9, rfl, t1⟩
      obtain ⟨p, st, en, rfl, hp, h1, h2⟩ := hsp x (List.mem_of_getElem? hi)
      refine ⟨p, _, rfl, SqT.of (t1 _ _ hp), rfl, _, _, rfl, _, _, rfl, rfl, ?_⟩
      refine ⟨_, rfl, _, rfl, _, rfl, szb rfl, fun tp htp => ?_⟩
      have t2 : Same G1 (upd G1 tp (.tup [v1, .int (st : Int), .int (en : Int)])) := same_new htp _
      have e2 : upd G1 tp (.tup [v1, .int (st : Int), .int (en : Int)]) tp = some (.tup [v1, .int (st : Int), .int (en : Int)]) := upd_same
      generalize upd G1 tp (.tup [v1, .int (st : Int), .int (en : Int)]) = G2 at *
      have t02 := t1.trans t2
      have A2 : StA K G2 tp st en low L ns := ⟨v1, SqT.of e2, hv1G.same t02, hw, h1, h2, by omega, hL⟩
      refine ⟨_, rfl, _, rfl, _, rfl, _, rfl, _, rfl, _, rfl, r, _, rfl, SqL.of (t02 _ _ hrG), fun q4 hq4 => ?_⟩
      rw [cut_seg _ _ _ h1 h2]
      have t9 : Same G2 (upd G2 q4 (.lst ((segI ns st en).map V.int))) := same_new hq4 _
      have hsl := seg_len (st := st) h2
      have hws : Wths low L (segI ns st en) := fun x hx => hw x (segI_mem hx)
      refine ⟨b, q4, low, L, segI ns st en, rfl, SqT.of ((t02.trans t9) _ _ hbG), hL, SqL.of upd_same, by omega, hws, fun D zs G5 t5 _ hD hz => ?_⟩
      refine ⟨tp, D, st, en, low, L, ns, zs, rfl, A2.same (t9.trans t5), hD, hz, fun G6 t6 => ⟨true, rfl, iteF ?_⟩⟩
      exact ⟨_, _, rfl, t02.trans (t9.trans (t5.trans t6))⟩
    · rintro σ G1 ⟨w8, w9, rfl, t1⟩
      exact ⟨_, rfl, _, rfl, _, rfl, v1, b, r, low, L, ns, rfl, SqT.of (t1 _ _ hbG), hL, SqL.of (t1 _ _ hrG), by omega, hv1G.same t1, fun G14 t14 => q _⟩
end
theorem all_ok {P : Program} {w : World} {K : PySem.W.Frag} {mg : Str → Option Value} {base : Heap} (z : Bz mg)
    (d_many_worths : Def K mg "many_worths" s_many_worths ["levels"])
    (d_top_of : Def K mg "top_of" s_top_of ["bounds"])
    (d_where : Def K mg "where" s_where ["bounds", "number"])
    (d_grown : Def K mg "grown" s_grown ["least", "many", "row"])
    (d_tree_of : Def K mg "tree_of" s_tree_of ["bounds", "row"])
    (d_half_of : Def K mg "half_of" s_half_of ["tree", "mark"])
    (d_ahead : Def K mg "ahead" s_ahead ["marks", "mark", "place"])
    (d_led_stretch : Def K mg "led_stretch" s_led_stretch ["stretch", "way"])
    (d_crossed : Def K mg "crossed" s_crossed ["marks", "start", "end"])
    (d_falls_from : Def K mg "falls_from" s_falls_from ["stretch", "way"])
    (d_falls_by_ways : Def K mg "falls_by_ways" s_falls_by_ways ["stretch"])
    (d__law_pen : Def K mg "_law_pen" s__law_pen ["_law_script", "_law_k"])
    (d__law_mixed : Def K mg "_law_mixed" s__law_mixed ["_law_pen_here"])
    (d__law_take : Def K mg "_law_take" s__law_take ["_law_pen_here", "_law_size"])
    (d__law_bounds : Def K mg "_law_bounds" s__law_bounds ["_law_pen_here"])
    (d__law_row : Def K mg "_law_row" s__law_row ["_law_pen_here", "_law_bounds_here", "_law_longest"])
    (d__law_tree : Def K mg "_law_tree" s__law_tree ["_law_low", "_law_levels", "_law_row_here"])
    (d__law_plain : Def K mg "_law_plain" s__law_plain ["_law_thing"])
    (d__law_is : Def K mg "_law_is" s__law_is ["_law_found", "_law_bounds_here", "_law_row_here"])
    (d__law_way : Def K mg "_law_way" s__law_way ["_law_bounds_here", "_law_one", "_law_other"])
    (d__law_due : Def K mg "_law_due" s__law_due ["_law_bounds_here", "_law_row_here"])
    (d__law_right : Def K mg "_law_right" s__law_right ["_law_stretch", "_law_due_here"])
    : ∀ (f : Addr) (fd : FuncData), Fun K "law" "law" s_law f fd → FnOk P w K mg base CX0 k_law f fd ["_law_script"] (sp_law K) := by
  have c_many_worths : Cal P w K mg base k_many_worths "many_worths" ["levels"] (sp_many_worths K) := ok_many_worths d_many_worths z 
  have c_top_of : Cal P w K mg base k_top_of "top_of" ["bounds"] (sp_top_of K) := ok_top_of d_top_of z c_many_worths
  have c_where : Cal P w K mg base k_where "where" ["bounds", "number"] (sp_where K) := ok_where d_where z c_top_of
  have c_grown : Cal P w K mg base k_grown "grown" ["least", "many", "row"] (sp_grown K) := ok_grown d_grown z 
  have c_tree_of : Cal P w K mg base k_tree_of "tree_of" ["bounds", "row"] (sp_tree_of K) := ok_tree_of d_tree_of z c_grown c_many_worths c_where
  have c_half_of : Cal P w K mg base k_half_of "half_of" ["tree", "mark"] (sp_half_of K) := ok_half_of d_half_of z 
  have c_ahead : Cal P w K mg base k_ahead "ahead" ["marks", "mark", "place"] (sp_ahead K) := ok_ahead d_ahead z 
  have c_led_stretch : Cal P w K mg base k_led_stretch "led_stretch" ["stretch", "way"] (sp_led_stretch K) := ok_led_stretch d_led_stretch z c_ahead c_half_of
  have c_crossed : Cal P w K mg base k_crossed "crossed" ["marks", "start", "end"] (sp_crossed K) := ok_crossed d_crossed z 
  have c_falls_from : Cal P w K mg base k_falls_from "falls_from" ["stretch", "way"] (sp_falls_from K) := ok_falls_from d_falls_from z c_crossed c_led_stretch
  have c_falls_by_ways : Cal P w K mg base k_falls_by_ways "falls_by_ways" ["stretch"] (sp_falls_by_ways K) := ok_falls_by_ways d_falls_by_ways z c_falls_from
  have c__law_pen : Cal P w K mg base k__law_pen "_law_pen" ["_law_script", "_law_k"] (sp__law_pen K) := ok__law_pen d__law_pen z 
  have c__law_mixed : Cal P w K mg base k__law_mixed "_law_mixed" ["_law_pen_here"] (sp__law_mixed K) := ok__law_mixed d__law_mixed z 
  have c__law_take : Cal P w K mg base k__law_take "_law_take" ["_law_pen_here", "_law_size"] (sp__law_take K) := ok__law_take d__law_take z c__law_mixed
  have c__law_bounds : Cal P w K mg base k__law_bounds "_law_bounds" ["_law_pen_here"] (sp__law_bounds K) := ok__law_bounds d__law_bounds z c__law_take
  have c__law_row : Cal P w K mg base k__law_row "_law_row" ["_law_pen_here", "_law_bounds_here", "_law_longest"] (sp__law_row K) := ok__law_row d__law_row z c__law_take
  have c__law_tree : Cal P w K mg base k__law_tree "_law_tree" ["_law_low", "_law_levels", "_law_row_here"] (sp__law_tree K) := ok__law_tree d__law_tree z 
  have c__law_plain : Cal P w K mg base k__law_plain "_law_plain" ["_law_thing"] (sp__law_plain K) := ok__law_plain d__law_plain z 
  have c__law_is : Cal P w K mg base k__law_is "_law_is" ["_law_found", "_law_bounds_here", "_law_row_here"] (sp__law_is K) := ok__law_is d__law_is z c__law_plain c__law_tree
  have c__law_way : Cal P w K mg base k__law_way "_law_way" ["_law_bounds_here", "_law_one", "_law_other"] (sp__law_way K) := ok__law_way d__law_way z 
  have c__law_due : Cal P w K mg base k__law_due "_law_due" ["_law_bounds_here", "_law_row_here"] (sp__law_due K) := ok__law_due d__law_due z c__law_way
  have c__law_right : Cal P w K mg base k__law_right "_law_right" ["_law_stretch", "_law_due_here"] (sp__law_right K) := ok__law_right d__law_right z c__law_plain c_falls_by_ways
  exact ok_law z c__law_bounds c__law_due c__law_is c__law_pen c__law_right c__law_row c__law_take c_tree_of
end My
open PySem PySem.W PyProof.Rows
set_option maxRecDepth 100000 in
set_option maxHeartbeats 0 in
theorem PySem.Challenge.cw_manyleast_k50_falls_by_ways_holds : PySem.Challenge.rw_manyleast_k50_falls_by_ways.Holds := by
  refine MyQ.hd ?_
  k_fill
  refine L2.walkL (k := My.k_law) (l := PySem.Challenge.rw_manyleast_k50_falls_by_ways) ⟨rfl, by decide, by decide⟩ rfl rfl (fun w h Y => PySem.W.kIn_of Y) ?F
  case F =>
    intro w mg fa h KX G hmg
    have d_many_worths : L2.Def (L2.KOf KX) mg "many_worths" My.s_many_worths ["levels"] := by
      dsimp only [L2.KOf]
      refine' L2.def_mk KX G ?a ?l ?c ?k ?b
      (case a => k_is); (case l => k_is); (case c => k_is); (case k => k_is)
      (case b => exact fun _ _ _ _ _ _ us hl => match us, hl with | [_], _ => rfl)
    have d_top_of : L2.Def (L2.KOf KX) mg "top_of" My.s_top_of ["bounds"] := by
      dsimp only [L2.KOf]
      refine' L2.def_mk KX G ?a ?l ?c ?k ?b
      (case a => k_is); (case l => k_is); (case c => k_is); (case k => k_is)
      (case b => exact fun _ _ _ _ _ _ us hl => match us, hl with | [_], _ => rfl)
    have d_where : L2.Def (L2.KOf KX) mg "where" My.s_where ["bounds", "number"] := by
      dsimp only [L2.KOf]
      refine' L2.def_mk KX G ?a ?l ?c ?k ?b
      (case a => k_is); (case l => k_is); (case c => k_is); (case k => k_is)
      (case b => exact fun _ _ _ _ _ _ us hl => match us, hl with | [_, _], _ => rfl)
    have d_grown : L2.Def (L2.KOf KX) mg "grown" My.s_grown ["least", "many", "row"] := by
      dsimp only [L2.KOf]
      refine' L2.def_mk KX G ?a ?l ?c ?k ?b
      (case a => k_is); (case l => k_is); (case c => k_is); (case k => k_is)
      (case b => exact fun _ _ _ _ _ _ us hl => match us, hl with | [_, _, _], _ => rfl)
    have d_tree_of : L2.Def (L2.KOf KX) mg "tree_of" My.s_tree_of ["bounds", "row"] := by
      dsimp only [L2.KOf]
      refine' L2.def_mk KX G ?a ?l ?c ?k ?b
      (case a => k_is); (case l => k_is); (case c => k_is); (case k => k_is)
      (case b => exact fun _ _ _ _ _ _ us hl => match us, hl with | [_, _], _ => rfl)
    have d_half_of : L2.Def (L2.KOf KX) mg "half_of" My.s_half_of ["tree", "mark"] := by
      dsimp only [L2.KOf]
      refine' L2.def_mk KX G ?a ?l ?c ?k ?b
      (case a => k_is); (case l => k_is); (case c => k_is); (case k => k_is)
      (case b => exact fun _ _ _ _ _ _ us hl => match us, hl with | [_, _], _ => rfl)
    have d_ahead : L2.Def (L2.KOf KX) mg "ahead" My.s_ahead ["marks", "mark", "place"] := by
      dsimp only [L2.KOf]
      refine' L2.def_mk KX G ?a ?l ?c ?k ?b
      (case a => k_is); (case l => k_is); (case c => k_is); (case k => k_is)
      (case b => exact fun _ _ _ _ _ _ us hl => match us, hl with | [_, _, _], _ => rfl)
    have d_led_stretch : L2.Def (L2.KOf KX) mg "led_stretch" My.s_led_stretch ["stretch", "way"] := by
      dsimp only [L2.KOf]
      refine' L2.def_mk KX G ?a ?l ?c ?k ?b
      (case a => k_is); (case l => k_is); (case c => k_is); (case k => k_is)
      (case b => exact fun _ _ _ _ _ _ us hl => match us, hl with | [_, _], _ => rfl)
    have d_crossed : L2.Def (L2.KOf KX) mg "crossed" My.s_crossed ["marks", "start", "end"] := by
      dsimp only [L2.KOf]
      refine' L2.def_mk KX G ?a ?l ?c ?k ?b
      (case a => k_is); (case l => k_is); (case c => k_is); (case k => k_is)
      (case b => exact fun _ _ _ _ _ _ us hl => match us, hl with | [_, _, _], _ => rfl)
    have d_falls_from : L2.Def (L2.KOf KX) mg "falls_from" My.s_falls_from ["stretch", "way"] := by
      dsimp only [L2.KOf]
      refine' L2.def_mk KX G ?a ?l ?c ?k ?b
      (case a => k_is); (case l => k_is); (case c => k_is); (case k => k_is)
      (case b => exact fun _ _ _ _ _ _ us hl => match us, hl with | [_, _], _ => rfl)
    have d_falls_by_ways : L2.Def (L2.KOf KX) mg "falls_by_ways" My.s_falls_by_ways ["stretch"] := by
      dsimp only [L2.KOf]
      refine' L2.def_mk KX G ?a ?l ?c ?k ?b
      (case a => k_is); (case l => k_is); (case c => k_is); (case k => k_is)
      (case b => exact fun _ _ _ _ _ _ us hl => match us, hl with | [_], _ => rfl)
    have d__law_pen : L2.Def (L2.KOf KX) mg "_law_pen" My.s__law_pen ["_law_script", "_law_k"] := by
      dsimp only [L2.KOf]
      refine' L2.def_mk KX G ?a ?l ?c ?k ?b
      (case a => k_is); (case l => k_is); (case c => k_is); (case k => k_is)
      (case b => exact fun _ _ _ _ _ _ us hl => match us, hl with | [_, _], _ => rfl)
    have d__law_mixed : L2.Def (L2.KOf KX) mg "_law_mixed" My.s__law_mixed ["_law_pen_here"] := by
      dsimp only [L2.KOf]
      refine' L2.def_mk KX G ?a ?l ?c ?k ?b
      (case a => k_is); (case l => k_is); (case c => k_is); (case k => k_is)
      (case b => exact fun _ _ _ _ _ _ us hl => match us, hl with | [_], _ => rfl)
    have d__law_take : L2.Def (L2.KOf KX) mg "_law_take" My.s__law_take ["_law_pen_here", "_law_size"] := by
      dsimp only [L2.KOf]
      refine' L2.def_mk KX G ?a ?l ?c ?k ?b
      (case a => k_is); (case l => k_is); (case c => k_is); (case k => k_is)
      (case b => exact fun _ _ _ _ _ _ us hl => match us, hl with | [_, _], _ => rfl)
    have d__law_bounds : L2.Def (L2.KOf KX) mg "_law_bounds" My.s__law_bounds ["_law_pen_here"] := by
      dsimp only [L2.KOf]
      refine' L2.def_mk KX G ?a ?l ?c ?k ?b
      (case a => k_is); (case l => k_is); (case c => k_is); (case k => k_is)
      (case b => exact fun _ _ _ _ _ _ us hl => match us, hl with | [_], _ => rfl)
    have d__law_row : L2.Def (L2.KOf KX) mg "_law_row" My.s__law_row ["_law_pen_here", "_law_bounds_here", "_law_longest"] := by
      dsimp only [L2.KOf]
      refine' L2.def_mk KX G ?a ?l ?c ?k ?b
      (case a => k_is); (case l => k_is); (case c => k_is); (case k => k_is)
      (case b => exact fun _ _ _ _ _ _ us hl => match us, hl with | [_, _, _], _ => rfl)
    have d__law_tree : L2.Def (L2.KOf KX) mg "_law_tree" My.s__law_tree ["_law_low", "_law_levels", "_law_row_here"] := by
      dsimp only [L2.KOf]
      refine' L2.def_mk KX G ?a ?l ?c ?k ?b
      (case a => k_is); (case l => k_is); (case c => k_is); (case k => k_is)
      (case b => exact fun _ _ _ _ _ _ us hl => match us, hl with | [_, _, _], _ => rfl)
    have d__law_plain : L2.Def (L2.KOf KX) mg "_law_plain" My.s__law_plain ["_law_thing"] := by
      dsimp only [L2.KOf]
      refine' L2.def_mk KX G ?a ?l ?c ?k ?b
      (case a => k_is); (case l => k_is); (case c => k_is); (case k => k_is)
      (case b => exact fun _ _ _ _ _ _ us hl => match us, hl with | [_], _ => rfl)
    have d__law_is : L2.Def (L2.KOf KX) mg "_law_is" My.s__law_is ["_law_found", "_law_bounds_here", "_law_row_here"] := by
      dsimp only [L2.KOf]
      refine' L2.def_mk KX G ?a ?l ?c ?k ?b
      (case a => k_is); (case l => k_is); (case c => k_is); (case k => k_is)
      (case b => exact fun _ _ _ _ _ _ us hl => match us, hl with | [_, _, _], _ => rfl)
    have d__law_way : L2.Def (L2.KOf KX) mg "_law_way" My.s__law_way ["_law_bounds_here", "_law_one", "_law_other"] := by
      dsimp only [L2.KOf]
      refine' L2.def_mk KX G ?a ?l ?c ?k ?b
      (case a => k_is); (case l => k_is); (case c => k_is); (case k => k_is)
      (case b => exact fun _ _ _ _ _ _ us hl => match us, hl with | [_, _, _], _ => rfl)
    have d__law_due : L2.Def (L2.KOf KX) mg "_law_due" My.s__law_due ["_law_bounds_here", "_law_row_here"] := by
      dsimp only [L2.KOf]
      refine' L2.def_mk KX G ?a ?l ?c ?k ?b
      (case a => k_is); (case l => k_is); (case c => k_is); (case k => k_is)
      (case b => exact fun _ _ _ _ _ _ us hl => match us, hl with | [_, _], _ => rfl)
    have d__law_right : L2.Def (L2.KOf KX) mg "_law_right" My.s__law_right ["_law_stretch", "_law_due_here"] := by
      dsimp only [L2.KOf]
      refine' L2.def_mk KX G ?a ?l ?c ?k ?b
      (case a => k_is); (case l => k_is); (case c => k_is); (case k => k_is)
      (case b => exact fun _ _ _ _ _ _ us hl => match us, hl with | [_, _], _ => rfl)
    have d_law : L2.Def (L2.KOf KX) mg "law" My.s_law ["_law_script"] := by
      dsimp only [L2.KOf]
      refine' L2.def_mk KX G ?a ?l ?c ?k ?b
      (case a => k_is); (case l => k_is); (case c => k_is); (case k => k_is)
      (case b => exact fun _ _ _ _ _ _ us hl => match us, hl with | [_], _ => rfl)
    have z : My.Bz mg := by
      refine' ⟨PySem.W.mg_none_of KX G ?z0, PySem.W.mg_none_of KX G ?z1, PySem.W.mg_none_of KX G ?z2, PySem.W.mg_none_of KX G ?z3, PySem.W.mg_none_of KX G ?z4, PySem.W.mg_none_of KX G ?z5, PySem.W.mg_none_of KX G ?z6, PySem.W.mg_none_of KX G ?z7, PySem.W.mg_none_of KX G ?z8, PySem.W.mg_none_of KX G ?z9, PySem.W.mg_none_of KX G ?z10⟩
      (case z0 => k_is)
      (case z1 => k_is)
      (case z2 => k_is)
      (case z3 => k_is)
      (case z4 => k_is)
      (case z5 => k_is)
      (case z6 => k_is)
      (case z7 => k_is)
      (case z8 => k_is)
      (case z9 => k_is)
      (case z10 => k_is)
    exact L2.law_mk d_law (fun base => My.all_ok (base := base) z d_many_worths d_top_of d_where d_grown d_tree_of d_half_of d_ahead d_led_stretch d_crossed d_falls_from d_falls_by_ways d__law_pen d__law_mixed d__law_take d__law_bounds d__law_row d__law_tree d__law_plain d__law_is d__law_way d__law_due d__law_right) hmg
#print axioms PySem.Challenge.cw_manyleast_k50_falls_by_ways_holds
