import PyProof.Rows.All
import Wide.All
import OpenK.KSplit
import OpenK.KNot
import OpenK.KApp
import KE.KPop
import KE.KListMore
import KE.RegKMod
import KE.KDictOf
import KE.KDictMeth
import KE.KEqSeq
import KE.KSlice
import KE.GnPush
import KE.KSorted
import KE.KJoinElse
import KE.RegTryLedger
import KE.KTops
import KE.RegKSuper
import KE.KSort
import KE.KDictLoop
import KE.RegLcTurns
import KE.RegLcAnyAll
import KE.KCat
import KE.KTemps
import KE.KTup
import KE.KxMul
import KE.KxSplit
import KE.KxIndex
import KE.KxText
import KE.KCells
import KE.KPassesOwn
import KE.RegKIsNot
import KE.KTempsTwo
import KE.KSetInts
import KE.KSortedL
import KE.KxBytes
import KE.KClos
import KE.KNestStore
import KE.KOwnIter
import KE.KStopIter
import KE.RegKBase
import KE.KDictOne
import KE.RegKMathG
import KE.KDictAny
import KE.RegKCallOwn
import KE.KSliceW
import KE.KxDecode
import KE.RegKMathGB
import KE.KLam
import KE.KDictBranch
import KE.KTree
import KE.KTreeB
import KE.KNestM
import KE.KDflt
import KE.KOwnIterCall
import KE.KSortedM
import KE.KTurns
import KE.KEqText
import KE.KxLen
import KE.RegKMathGC
import KE.KIsClose
import KE.KEqDict
import KE.KDisp
import KE.KDictAnyGet
import KE.KDictObj
import KE.KSetIn
import KE.KRevSl
import KE.KEqDeep
import KE.KAnyBase
import KE.KBoundM
import KE.KWhile
import KE.KRevIter
import KE.KCount
import KE.KTreeR
import KE.KxStill
import KE.KFinally
import KE.KTopLam
import KE.KWithOwn
import KE.KCases
import KE.KOpsOwn
import KE.KDictNew
import KE.KDictList
import KE.KDictIter
import KE.RegKUnpackStar
import KE.KSortAsk
import KE.KWhileD
import KE.KLcTest
import KE.KSumEnd
import KE.KPopAny
import KE.KGrown
import KE.KItemAt
import KE.KTextLit
import KE.KTupDict
import KE.KFmtOwn
import KE.KUnrMore
import KE.KMinKey
import KE.KTurnsDict
import KE.KExtendNil
import KE.KMethU
import KE.BytesMul
import KE.KCompFold
import KE.KDictSum
import KE.KDictName
import KE.KDictSym
import KE.KTurnsAny
import KE.KDictAnyTail
import KE.RegKStar
import KE.RegKParD
import KE.RegKTupTruth
import KE.RegKTupSum
import KE.KCallJoin
import KE.KMethJoin
import KE.KPathRangeEnd
import KE.KStateW
import KE.RegKParC
import KE.KxWritten
import KE.KxAdd
import KE.KxAffix
import KE.KxField
import KE.RegKIsAll
import KE.RegKMatchCls
import KE.KLcPair
import KE.RegKTryDeep
import KE.KJoinL
import KE.RegKNeg
import KE.KxPercentT
import KE.KBytesCut
import KE.KCellOne
import KE.KCompIf
import KE.KMenu
import KE.KxFormat
import KE.KTypeName
import KE.KCompText
import KE.BytesMulAny
import KE.KDictSymLen
import KE.KSortTup
import KE.KPairAssign
import KE.KTypeOf
import KE.KFinEnd
import KE.KMulAny
import KE.KBytesMenu
import KE.KTextDict
import KE.KPathShort
import KE.KSplitRange
import KE.KKinds
import KE.KxPart
import KE.KRangeItem
import KE.KDictLetter
import KE.KRangeNest
import KE.KSetAt
import KE.KWords
import KE.KxTruthy
import KE.KPairRows
import KE.KBytesMore
import KE.RegKStateDown
import KE.KItemsList
import KE.KRangePlain
import KE.KStateGiven
import KE.KBitsMul
import KE.KTextTable
import KE.KForList
import KE.KIdxIf
import KE.KAssignIn
import KE.KFirstTurn
import KE.KOwnRange
import KE.KLooksOwn
import KE.KDictWord
import KE.KStrOpen
import KE.KTurnsGround
import KE.KListEnd
import KE.KSearch
import KE.KFinFacts
import KE.RegKTryOn
import KE.KCenter
import KE.KStrWords
import KE.KStateTextK
import KE.KBools
import KE.KStateWGiven
import KE.KData
import KE.KCallTup
import KE.KTreeD
import KE.KTreeF
import KE.KEndWord
import KE.KStateBytes
import KE.KRangeEnd
import KE.KOf
import KE.KRepItem
import KE.KListLetter
import KE.KSliceSign
import KE.KCallBy
import KE.KToBytes
import KE.KPathText
import KE.KMinBuiltin
import KE.KFromBytes
import KE.KEqDat
import KE.KBytesUnr
import KE.KIsBytes
import KE.KCallRec
import KE.KEndW
import KE.RegLGe
import KE.RegLGeC
import Wide.FinOn
import Wide.FinOn
import Lean
import PyProof.EqAt
import PyProof.EqKinds
import PyProof.TupleCall
import KE.KIntText
import PyProof.StrBlockI
import PyProof.StrBlockL
import PyProof.StrCalls
import PyProof.StrCalls2
import PyProof.FString
import PyProof.StrBlock
import PyProof.StrWalks
import PyProof.StrLawsTight
import PyProof.StrCalls6
import PyProof.StrOps2
import KE.KTryMore
import KE.KRevSl
import PySem.Challenge.RW_manyleast_k58_texts_refused
set_option Elab.async false
set_option linter.all false
set_option maxRecDepth 100000
set_option maxHeartbeats 4000000
namespace MyQ
open PySem PySem.W PyProof.Rows
def at_ (i : Nat) : Stmt := PySem.Challenge.pw_manyleast_k58_texts_refused.main.body.getD i (.Pass ⟨0, 0, 0, 0⟩)
def vw : Program := { PySem.Challenge.pw_manyleast_k58_texts_refused with main := { PySem.Challenge.pw_manyleast_k58_texts_refused.main with body := [at_ 1, at_ 2, at_ 3, at_ 4, at_ 5, at_ 6, at_ 7, at_ 9, at_ 10, at_ 11, at_ 12, at_ 13, at_ 14, at_ 15, at_ 17, at_ 18, at_ 19, at_ 20, at_ 21, at_ 22, at_ 23, at_ 24, at_ 25, at_ 26, at_ 27, at_ 28, at_ 29] } }
set_option hygiene false
local macro_rules | `(tactic| o_head $H) => `(tactic| (refine holds_open (q := MyQ.vw) (loose := ([] : List PySem.Str)) (Xt := fun s => xlAt MyQ.vw ([] : List (PySem.Str × WData)) s && recOk (RowW.records (OpenRow.toRowW _)) s) (XP := XL MyQ.vw ([] : List (PySem.Str × WData))) (Yf := Hook.obs $H) (Ya := Hook.val $H) (YP := Hook.says $H) (N := 20000) ?hl (Hook.of $H) (Hook.keeps $H) (fun s e => xl_of s (Bool.and_eq_true_iff.mp e).1) XL.keeps (by rfl) (by rfl) (by rfl) (fun s e => recFacts_of (Bool.and_eq_true_iff.mp e).2) (by rfl) (by assumption) (by decide +kernel) ⟨rfl, rfl, rfl, rfl, rfl, by decide +kernel⟩ ?hw ?hc; (case hl => exact fun w => by kernel_rfl)))
set_option maxRecDepth 100000 in
set_option maxHeartbeats 0 in
open_top hd for PySem.Challenge.rw_manyleast_k58_texts_refused
end MyQ
/-! THE HAND LAYER, for ints, bools, texts, own classes, LISTS and tuples (index, slices, in, append, pop ..), calls, loops. Paste it whole ahead of your own text; what your proof does not reach may be deleted. -/
namespace L2
open PySem PySem.Spec PyProof.Rows

/-- a key: an int or a str -/
abbrev Key := Sum Int Str
def keyIs : Key → Value → Bool
  | .inl k, v => Value.isInt k v
  | .inr x, v => Value.isStrOf x v
def keyH (w : World) : Key → Int
  | .inl k => hashInt k
  | .inr x => hashStr w x
theorem keyIs_shape : ∀ {k : Key} {v : Value}, keyIs k v = true → (∃ i t, k = Sum.inl i ∧ v = Value.int i t) ∨ (∃ x t, k = Sum.inr x ∧ v = Value.str x t)
  | .inl i, v, h => by
    obtain ⟨t, e⟩ := Value.isInt_shape (k := i) (v := v) h
    exact .inl ⟨i, t, rfl, e⟩
  | .inr x, v, h => by
    obtain ⟨t, e⟩ := Value.isStrOf_shape (x := x) (v := v) h
    exact .inr ⟨x, t, rfl, e⟩
theorem key_ll (a b : Int) : decide ((Sum.inl a : Key) = Sum.inl b) = (a == b) := by
  by_cases e : a = b
  · subst e; simp
  · have h : ¬ (Sum.inl a : Key) = Sum.inl b := fun q => e (Sum.inl.inj q)
    rw [decide_eq_false h]
    exact (beq_eq_false_iff_ne.mpr e).symm
theorem key_rr (a b : Str) : decide ((Sum.inr a : Key) = Sum.inr b) = decide (a = b) := by
  by_cases e : a = b
  · subst e; simp
  · have h : ¬ (Sum.inr a : Key) = Sum.inr b := fun q => e (Sum.inr.inj q)
    rw [decide_eq_false h, decide_eq_false e]
theorem key_lr (a : Int) (b : Str) : decide ((Sum.inl a : Key) = Sum.inr b) = false := decide_eq_false (fun q => nomatch q)
theorem key_rl (a : Str) (b : Int) : decide ((Sum.inr a : Key) = Sum.inl b) = false := decide_eq_false (fun q => nomatch q)

def mixKind (prog : Program) (w : World) : PySem.KeyKind prog w Key where
  is := keyIs
  hash := keyH w
  inj := fun v a b ha hb => by
    rcases keyIs_shape ha with ⟨i, t, rfl, rfl⟩ | ⟨x, t, rfl, rfl⟩
    · rcases keyIs_shape hb with ⟨j, u, rfl, e⟩ | ⟨y, u, rfl, e⟩
      · injection e with e1 _; rw [e1]
      · exact nomatch e
    · rcases keyIs_shape hb with ⟨j, u, rfl, e⟩ | ⟨y, u, rfl, e⟩
      · exact nomatch e
      · injection e with e1 _; rw [e1]
  byValue := fun k v h => by
    rcases keyIs_shape h with ⟨i, t, rfl, rfl⟩ | ⟨x, t, rfl, rfl⟩ <;> rfl
  pyHash := fun hv h => by
    rcases keyIs_shape hv with ⟨i, t, rfl, rfl⟩ | ⟨x, t, rfl, rfl⟩
    · exact wpAny_pyHash_int h
    · exact wpAny_pyHash_str h
  eqBool := fun hu hv h => by
    rcases keyIs_shape hu with ⟨i, t, rfl, rfl⟩ | ⟨x, t, rfl, rfl⟩
    · rcases keyIs_shape hv with ⟨j, u, rfl, rfl⟩ | ⟨y, u, rfl, rfl⟩
      · rw [key_ll] at h; exact wpAny_eqBool_int h
      · rw [key_lr] at h; exact SeqAt.EqAt.int_str i t y u _ _ _ _ h
    · rcases keyIs_shape hv with ⟨j, u, rfl, rfl⟩ | ⟨y, u, rfl, rfl⟩
      · rw [key_rl] at h; exact SeqAt.EqAt.str_int x t j u _ _ _ _ h
      · rw [key_rr] at h; exact wpAny_eqBool_str h
  «strs» := fun k x t v h => by
    rcases keyIs_shape h with ⟨i, u, rfl, e⟩ | ⟨y, u, rfl, e⟩
    · exact nomatch e
    · injection e with e1 _
      subst e1
      cases v <;> rfl

end L2

namespace L2
open PySem PySem.Spec PyProof.Rows

/-- a value, without the heap -/
inductive V where
  | non | bl (b : Bool) | int (i : Int) | str (x : Str) | byt (b : Array UInt8) | flt (b : UInt64) | ref (a : Addr) | ty (n : String)
  deriving DecidableEq

def RelV : V → Value → Prop
  | .non, u => u = Value.none
  | .bl b, u => u = Value.bool b
  | .int i, u => ∃ t, u = Value.int i t
  | .str x, u => ∃ t, u = Value.str x t
  | .byt b, u => ∃ t, u = Value.bytes b t
  | .flt b, u => ∃ t, u = Value.float b t
  | .ref a, u => u = Value.ref a
  | .ty n, u => u = Value.type n

abbrev Vals : List V → List Value → Prop := Paired RelV
theorem Vals.length {xs : List V} {us : List Value} (r : Vals xs us) : xs.length = us.length := Paired.length r
theorem Vals.get : ∀ {xs : List V} {us : List Value} {i : Nat} {x : V}, Vals xs us → xs[i]? = some x → ∃ u, us[i]? = some u ∧ RelV x u
  | _, _, _, _, .nil, e => by simp at e
  | _, _, 0, _, .cons r _, e => by simp at e; subst e; exact ⟨_, rfl, r⟩
  | _, _, i + 1, x, .cons _ t, e => by
    obtain ⟨u, h1, h2⟩ := Vals.get (i := i) (x := x) t (by simpa using e)
    exact ⟨u, by simpa using h1, h2⟩
theorem Vals.set {x : V} {u : Value} (r : RelV x u) : ∀ {xs : List V} {us : List Value} (i : Nat), Vals xs us → Vals (xs.set i x) (us.set i u)
  | _, _, _, .nil => .nil
  | _, _, 0, .cons _ t => .cons r t
  | _, _, i + 1, .cons q t => .cons q (Vals.set r i t)
theorem Vals.append : ∀ {xs ys : List V} {us ws : List Value}, Vals xs us → Vals ys ws → Vals (xs ++ ys) (us ++ ws)
  | _, _, _, _, .nil, s => s
  | _, _, _, _, .cons r t, s => .cons r (Vals.append t s)
theorem Vals.take : ∀ {xs : List V} {us : List Value} (n : Nat), Vals xs us → Vals (xs.take n) (us.take n)
  | _, _, 0, _ => .nil
  | _, _, _ + 1, .nil => .nil
  | _, _, n + 1, .cons r t => .cons r (Vals.take n t)
theorem Vals.drop : ∀ {xs : List V} {us : List Value} (n : Nat), Vals xs us → Vals (xs.drop n) (us.drop n)
  | _, _, 0, r => r
  | _, _, _ + 1, .nil => .nil
  | _, _, n + 1, .cons _ t => Vals.drop n t
def RelO : Option V → Option Value → Prop
  | some v, some u => RelV v u
  | none, none => True
  | _, _ => False
def KV {κ : Type} : List (κ × V) → List (κ × Value) → Prop := Paired fun (p : κ × V) (q : κ × Value) => p.1 = q.1 ∧ RelV p.2 q.2

/-- a key of a dict (00_mix): an int or a text -/
def kV : Key → V
  | .inl i => .int i
  | .inr x => .str x

/-- what stands at a tracked address -/
inductive HO where
  /-- a list -/
  | lst (xs : List V)
  /-- a tuple (never changes) -/
  | tup (xs : List V)
  /-- a dict whose keys are ints and texts; one whose keys are tuples of ints and texts (the empty one is both) -/
  | dK (kvs : List (Key × V)) | dT (kvs : List (List Key × V))
  /-- a set of ints: its members, its size -/
  | set (S : Int → Bool) (n : Nat)
  /-- an instance of the class at C, its dict at dx, its attributes -/
  | ins (C dx : Addr) (fs : List (Str × V))
  /-- the dict of the instance at x -/
  | own (x : Addr)
  /-- the dict of an exception -/
  | xd (fs : List (Str × V))
  /-- a bound method, f of x -/
  | met (f x : Addr)
  /-- a range object lo, lo + 1, .. below hi -/
  | rng (lo hi : Int)
  /-- a thing that is known to the object (the script; a dict while a loop walks it): read, never written while it is so -/
  | frz (o : Obj) (u : HO)
  /-- a code object's table -/
  | tbl (ps : Array Value)
  /-- any other thing, by what is true of its one object (a def of one's own: SetO a S n := HO.ext fun h => ..) -/
  | ext (φ : Heap → Prop)

abbrev Hp := Addr → Option HO
def upd (H : Hp) (a : Addr) (o : HO) : Hp := fun b => if b = a then some o else H b
theorem upd_same {H : Hp} {a : Addr} {o : HO} : upd H a o a = some o := by unfold upd; rw [if_pos rfl]
theorem upd_ne {H : Hp} {a b : Addr} {o : HO} (h : b ≠ a) : upd H a o b = H b := by unfold upd; rw [if_neg h]
theorem upd_upd {H : Hp} {a : Addr} {o u : HO} : upd (upd H a o) a u = upd H a u := by
  funext b; unfold upd; split <;> rfl
/-- two objects of different content stand apart -/
theorem ne_of {H : Hp} {a b : Addr} {o u : HO} (h : H a = some o) (h' : H b = some u) (d : o ≠ u) : a ≠ b := by
  intro e; subst e; rw [h] at h'; exact d (Option.some.inj h')
theorem ne_of_none {H : Hp} {a b : Addr} {o : HO} (h : H a = some o) (h' : H b = none) : a ≠ b := by
  intro e; subst e; rw [h] at h'; cases h'

section
variable (P : Program) (w : World)
def ObjOk (H : Hp) (h : Heap) (a : Addr) : HO → Prop
  | .lst xs => xs.length ≤ sizeLine ∧ ∃ (its : List Value) (n : Nat), Vals xs its ∧ h.get? a = some { cls := .type "list", data := .seq its.toArray n }
  | .tup xs => xs.length ≤ sizeLine ∧ ∃ its : List Value, Vals xs its ∧ IsTup h a its.toArray
  | .dK kvs => kvs.length ≤ sizeLine ∧ (a == sysModules) = false ∧ ∃ vs, KV kvs vs ∧ h.DictOf (mixKind P w) a vs
  | .dT kvs => kvs.length ≤ sizeLine ∧ (a == sysModules) = false ∧ ∃ xs : List (List Key × Addr × Value),
      Paired (fun (p : List Key × V) (q : List Key × Addr × Value) => p.1 = q.1 ∧ H q.2.1 = some (.tup (p.1.map kV)) ∧ RelV p.2 q.2.2) kvs xs ∧
      ∃ o es ep, h.get? a = some o ∧ o.ExactDict ∧ o.data = .dict es ep ∧ es.toList = xs.map (entryOfKey (tupleKind (mixKind P w))) ∧ (xs.map (·.1)).Nodup
  | .set S n => h.SetOf (intKind P w) a S n
  | .ins C dx fs => H dx = some (.own a) ∧ fs.length ≤ 1000 ∧ dx ≠ a ∧ h.get? a = some (PySem.W.instObj C dx) ∧
      ∃ mA, h.Ns1 dx mA ∧ (∀ f, RelO (fs.lookup f) (mA f)) ∧ PySem.Within mA (fs.map (·.1))
  | .own _ => ∃ o, h.get? a = some o
  | .xd fs => ∃ mA, h.Ns1 a mA ∧ ∀ f, RelO (fs.lookup f) (mA f)
  | .rng lo hi => ∃ t u v, h.get? a = some { cls := .type "range", data := .fields #[.int lo t, .int hi u, .int 1 v] }
  | .frz o u => h.get? a = some o ∧ ObjOk H h a u
  | .tbl ps => h.get? a = some { cls := .none, data := .fields ps }
  | .met f x => h.get? a = some (PySem.W.methodObj (.ref f) (.ref x))
  | .ext φ => φ h ∧ (∃ o, h.get? a = some o) ∧ ∀ h1 h2 : Heap, φ h1 → (∀ o, h1.get? a = some o → h2.get? a = some o) → φ h2
/-- the abstract heap is held -/
def HOk (H : Hp) (h : Heap) : Prop := ∀ a o, H a = some o → ObjOk P w H h a o
end

section
variable {P : Program} {w : World} {H H' : Hp} {h h' : Heap} {a : Addr} {o : HO}
theorem ObjOk.lt (x : ObjOk P w H h a o) : a < h.objs.size := by
  cases o with
  | lst xs => obtain ⟨_, _, _, _, e⟩ := x; exact Heap.lt_size e
  | tup xs => obtain ⟨_, _, _, p⟩ := x; exact p.lt
  | dK kvs => obtain ⟨_, _, _, _, o, _, _, e, _⟩ := x; exact Heap.lt_size e
  | dT kvs => obtain ⟨_, _, _, _, o, _, _, e, _⟩ := x; exact Heap.lt_size e
  | set S n => obtain ⟨o, _, _, _, e, _⟩ := x; exact Heap.lt_size e
  | ins C dx fs => obtain ⟨_, _, _, e, _⟩ := x; exact Heap.lt_size e
  | own y => obtain ⟨_, e⟩ := x; exact Heap.lt_size e
  | xd fs => obtain ⟨_, ⟨_, _, _, e, _⟩, _⟩ := x; exact Heap.lt_size e
  | rng lo hi => obtain ⟨_, _, _, e⟩ := x; exact Heap.lt_size e
  | frz ob u => obtain ⟨e, _⟩ := x; exact Heap.lt_size e
  | tbl ps => exact Heap.lt_size (show h.get? a = some _ from x)
  | met f y => exact Heap.lt_size (show h.get? a = some _ from x)
  | ext φ => obtain ⟨_, ⟨_, e⟩, _⟩ := x; exact Heap.lt_size e
theorem Paired.mapP {α β : Type} {F G : α → β → Prop} : ∀ {l₁ : List α} {l₂ : List β}, Paired F l₁ l₂ → (∀ a b, F a b → G a b) → Paired G l₁ l₂
  | _, _, .nil, _ => .nil
  | _, _, .cons r t, f => .cons (f _ _ r) (Paired.mapP t f)
/-- what an object's description leans on: its own object, its own dict, the tuples -/
theorem ObjOk.stay (x : ObjOk P w H h a o) (k : ∀ b u, (b = a ∨ H b = some (.own a)) → h.get? b = some u → h'.get? b = some u)
    (ho : ∀ b, H b = some (.own a) → H' b = some (.own a)) (ht : ∀ b xs, H b = some (.tup xs) → H' b = some (.tup xs)) : ObjOk P w H' h' a o := by
  induction o with
  | lst xs => obtain ⟨z, its, n, r, e⟩ := x; exact ⟨z, its, n, r, k _ _ (.inl rfl) e⟩
  | tup xs => obtain ⟨z, its, r, ob, e, c⟩ := x; exact ⟨z, its, r, ob, k _ _ (.inl rfl) e, c⟩
  | dK kvs => obtain ⟨z, y, vs, r, ob, es, ep, e, c⟩ := x; exact ⟨z, y, vs, r, ob, es, ep, k _ _ (.inl rfl) e, c⟩
  | dT kvs =>
    obtain ⟨z, y, xs, r, ob, es, ep, e, c⟩ := x
    exact ⟨z, y, xs, Paired.mapP r fun p q z => ⟨z.1, ht _ _ z.2.1, z.2.2⟩, ob, es, ep, k _ _ (.inl rfl) e, c⟩
  | set S n => obtain ⟨ob, es, ep, t, e, c⟩ := x; exact ⟨ob, es, ep, t, k _ _ (.inl rfl) e, c⟩
  | ins C dx fs =>
    obtain ⟨d, z, ne, e, mA, ⟨od, es, ep, e2, c⟩, r⟩ := x
    exact ⟨ho _ d, z, ne, k _ _ (.inl rfl) e, mA, ⟨od, es, ep, k _ _ (.inr d) e2, c⟩, r⟩
  | own y => obtain ⟨ob, e⟩ := x; exact ⟨ob, k _ _ (.inl rfl) e⟩
  | xd fs => obtain ⟨mA, ⟨od, es, ep, e, c⟩, r⟩ := x; exact ⟨mA, ⟨od, es, ep, k _ _ (.inl rfl) e, c⟩, r⟩
  | rng lo hi => obtain ⟨t, u, v, e⟩ := x; exact ⟨t, u, v, k _ _ (.inl rfl) e⟩
  | frz ob u ih => obtain ⟨e, q⟩ := x; exact ⟨k _ _ (.inl rfl) e, ih q⟩
  | tbl ps =>
    have e : h.get? a = some { cls := .none, data := .fields ps } := x
    show h'.get? a = some { cls := .none, data := .fields ps }
    exact k a _ (.inl rfl) e
  | met f y =>
    have e : h.get? a = some (PySem.W.methodObj (.ref f) (.ref y)) := x
    show h'.get? a = some (PySem.W.methodObj (.ref f) (.ref y))
    exact k a _ (.inl rfl) e
  | ext φ => obtain ⟨p, ⟨o, e⟩, st⟩ := x; exact ⟨st _ _ p fun o q => k _ _ (.inl rfl) q, ⟨o, k _ _ (.inl rfl) e⟩, st⟩
theorem HOk.lt (x : HOk P w H h) (e : H a = some o) : a < h.objs.size := (x a o e).lt
theorem HOk.fresh (x : HOk P w H h) (e : h.objs.size ≤ a) : H a = none := by
  cases q : H a with
  | none => rfl
  | some u => exact absurd (Nat.lt_of_lt_of_le (x.lt q) e) (Nat.lt_irrefl _)
/-- every object of the heap is kept -/
theorem HOk.kept (x : HOk P w H h) (k : ∀ b u, h.get? b = some u → h'.get? b = some u) : HOk P w H h' := fun a o e =>
  (x a o e).stay (fun b u _ q => k b u q) (fun _ q => q) fun _ _ q => q
/-- a new object is laid and tracked -/
theorem HOk.laid (x : HOk P w H h) (k : ∀ b u, h.get? b = some u → h'.get? b = some u) (hp : h.objs.size ≤ a) (new : ObjOk P w (upd H a o) h' a o) : HOk P w (upd H a o) h' := fun b u e => by
  have hn := x.fresh hp
  by_cases hb : b = a
  · subst hb; rw [upd_same] at e; cases e; exact new
  · rw [upd_ne hb] at e
    exact (x b u e).stay (fun c v _ q => k c v q) (fun c q => by rw [upd_ne (ne_of_none q hn)]; exact q) fun c xs q => by rw [upd_ne (ne_of_none q hn)]; exact q
end

/-- what may be read as u: it is u, or a known u -/
def Rd (H : Hp) (a : Addr) (u : HO) : Prop := H a = some u ∨ ∃ o, H a = some (.frz o u)
theorem Rd.ok {P : Program} {w : World} {H : Hp} {h : Heap} {a : Addr} {u : HO} (r : Rd H a u) (x : HOk P w H h) : ObjOk P w H h a u := by
  rcases r with r | ⟨o, r⟩
  · exact x a u r
  · obtain ⟨_, q⟩ := x a _ r
    exact q
/-- what may be written -/
def Mut : Option HO → Prop
  | some (.lst _) => True
  | some (.dK _) => True
  | some (.dT _) => True
  | some (.set _ _) => True
  | some (.ins _ _ _) => True
  | some (.ext _) => True
  | _ => False
section
variable {P : Program} {w : World} {H : Hp} {h h' : Heap} {x e : Addr} {o' : HO}
/-- the object at e is changed: x itself, or the dict of the instance x -/
theorem HOk.write (ok : HOk P w H h) (mu : Mut (H x)) (he : e = x ∨ H e = some (.own x)) (k : ∀ b u, b ≠ e → h.get? b = some u → h'.get? b = some u) (heo : ∃ u, h'.get? e = some u)
    (new : ObjOk P w (upd H x o') h' x o') : HOk P w (upd H x o') h' := fun b u q => by
  have nown : ∀ c y, H c = some (.own y) → c ≠ x := fun c y r z => by subst z; rw [r] at mu; exact mu
  have ntup : ∀ c xs, H c = some (.tup xs) → c ≠ x := fun c xs r z => by subst z; rw [r] at mu; exact mu
  by_cases hb : b = x
  · subst hb; rw [upd_same] at q; cases q; exact new
  · rw [upd_ne hb] at q
    by_cases hbe : b = e
    · have q' : H b = some (.own x) := by
        rcases he with z | z
        · exact absurd (hbe.trans z) hb
        · rw [hbe]; exact z
      rw [q] at q'; cases q'
      obtain ⟨v, hv⟩ := heo
      exact ⟨v, by rw [hbe]; exact hv⟩
    · refine (ok b u q).stay (fun c v hc r => k c v ?_ r) (fun c r => by rw [upd_ne (nown c b r)]; exact r) fun c xs r => by rw [upd_ne (ntup c xs r)]; exact r
      rcases hc with rfl | hc
      · exact hbe
      · rintro rfl
        rcases he with z | z
        · exact nown c b hc z
        · rw [hc] at z; cases z; exact hb rfl
end

/-! ### kept unless tracked; of the frames at fs (the callers') the slots may change (an exception that passes writes there); of the records at ex (iterators) nothing is said -/
structure Un (fs ex : List Addr) (H H' : Hp) (h h' : Heap) : Prop where
  keep : ∀ b o, h.get? b = some o → H b = none → b ∉ fs → b ∉ ex → h'.get? b = some o
  slot : ∀ b o, h.get? b = some o → H b = none → b ∈ fs → b ∉ ex → ∃ sl, h'.get? b = some { o with slots := sl }
  free : ∀ b o, h.get? b = some o → H b = none → b ∉ ex → H' b = none
  there : ∀ b o, h.get? b = some o → b ∉ ex → ∃ o', h'.get? b = some o'
  tups : ∀ b xs, H b = some (.tup xs) → H' b = some (.tup xs)
  frzs : ∀ b o u, H b = some (.frz o u) → H' b = some (.frz o u)
  tbls : ∀ b ps, H b = some (.tbl ps) → ∃ more, H' b = some (.tbl (ps ++ more))
section
variable {fs fs' ex ex' : List Addr} {H H1 H2 : Hp} {h h1 h2 h' : Heap} {a x e : Addr} {o : HO}
theorem Un.any (u : Un fs ex H H1 h h1) {b : Addr} {ob : Obj} (q : h.get? b = some ob) (n : H b = none) (hx : b ∉ ex) : ∃ sl, h1.get? b = some { ob with slots := sl } := by
  by_cases hb : b ∈ fs
  · exact u.slot b ob q n hb hx
  · exact ⟨ob.slots, u.keep b ob q n hb hx⟩
theorem Un.kept (k : ∀ b u, h.get? b = some u → h'.get? b = some u) : Un fs ex H H h h' :=
  ⟨fun b ob q _ _ _ => k b ob q, fun b ob q _ _ _ => ⟨ob.slots, k b ob q⟩, fun _ _ _ n _ => n, fun b ob q _ => ⟨ob, k b ob q⟩, fun _ _ q => q, fun _ _ _ q => q, fun _ ps q => ⟨#[], by rw [q]; simp⟩⟩
theorem Un.refl : Un fs ex H H h h := Un.kept fun _ _ q => q
theorem Un.laid (k : ∀ b u, h.get? b = some u → h'.get? b = some u) (hp : h.objs.size ≤ a) (hn : H a = none) : Un fs ex H (upd H a o) h h' where
  keep := fun b u q _ _ _ => k b u q
  slot := fun b u q _ _ _ => ⟨u.slots, k b u q⟩
  free := fun b u q n _ => by rw [upd_ne (Nat.ne_of_lt (Nat.lt_of_lt_of_le (Heap.lt_size q) hp))]; exact n
  there := fun b u q _ => ⟨u, k b u q⟩
  tups := fun b xs q => by rw [upd_ne (ne_of_none q hn)]; exact q
  frzs := fun b u xs q => by rw [upd_ne (ne_of_none q hn)]; exact q
  tbls := fun b ps q => ⟨#[], by rw [upd_ne (ne_of_none q hn), q]; simp⟩
theorem Un.write (mu : Mut (H x)) (he : e = x ∨ H e = some (.own x)) (k : ∀ b u, b ≠ e → h.get? b = some u → h'.get? b = some u) (heo : ∃ u, h'.get? e = some u) : Un fs ex H (upd H x o) h h' := by
  have hx : ∀ b, H b = none → b ≠ x := fun b n z => by subst z; rw [n] at mu; exact mu
  have hb : ∀ b, H b = none → b ≠ e := fun b n z => by
    subst z
    rcases he with r | r
    · exact hx b n r
    · rw [n] at r; cases r
  have hm : ∀ b u, H b = some u → ¬ Mut (some u) → b ≠ x := fun b u q nm z => by subst z; rw [q] at mu; exact nm mu
  refine ⟨fun b u q n _ _ => k b u (hb b n) q, fun b u q n _ _ => ⟨u.slots, k b u (hb b n) q⟩, fun b u q n _ => by rw [upd_ne (hx b n)]; exact n, fun b u q _ => ?_,
    fun b xs q => by rw [upd_ne (hm b _ q fun z => z)]; exact q, fun b u xs q => by rw [upd_ne (hm b _ q fun z => z)]; exact q, fun b ps q => ⟨#[], by rw [upd_ne (hm b _ q fun z => z), q]; simp⟩⟩
  by_cases hbe : b = e
  · subst hbe; exact heo
  · exact ⟨u, k b u hbe q⟩
end

/-! ### the heap without what is tracked -/
def trk (h : Heap) (H : Hp) : List Addr := (List.range h.objs.size).filter fun a => (H a).isSome
def hidT (h : Heap) (H : Hp) : Heap := PySem.W.hideAll h (trk h H)
theorem hidT_size (h : Heap) (H : Hp) : (hidT h H).objs.size = h.objs.size := PySem.W.hideAll_size _ _
theorem hidT_get {h : Heap} {H : Hp} {b : Addr} {o : Obj} (e : h.get? b = some o) (n : H b = none) : (hidT h H).get? b = some o :=
  PySem.W.hideAll_get _ e fun hm => by
    have q : (H b).isSome = true := (List.mem_filter.mp hm).2
    rw [n] at q; simp at q
theorem of_hidT {h : Heap} {H : Hp} {b : Addr} {o : Obj} (e : (hidT h H).get? b = some o) : h.get? b = some o ∧ H b = none := by
  have e' : h.get? b = some o := PySem.W.of_hideAll (trk h H) e
  refine ⟨e', ?_⟩
  cases q : H b with
  | none => rfl
  | some x =>
    have hm : b ∈ trk h H := List.mem_filter.mpr ⟨List.mem_range.mpr (Heap.lt_size e'), by simp [q]⟩
    have z : (hidT h H).get? b = none := PySem.W.hideAll_none (trk h H) hm
    rw [z] at e; cases e

/-! ### OpenK's ledger, filled with every new object but one -/
def allNews (g h : Heap) (L : Addr) : List (Addr × Obj) := (List.range h.objs.size).filterMap fun a => if a = L ∨ (g.get? a).isSome = true then none else (h.get? a).map fun o => (a, o)
def rest (g h : Heap) (L d : Addr) : List (Addr × Obj) := (allNews g h L).filter fun p => decide (p.1 ≠ d)
end L2

namespace L2
open PySem PySem.Spec PyProof.Rows

/-- the module's facts, over the base: the heap at the law's entry without what is tracked there -/
structure Mod (K : PySem.W.Frag) (mg : Str → Option Value) (base : Heap) : Prop where
  kin : K.In base
  glob : base.Ns mainGlobals mg
  blt : ∃ mb, base.Ns builtinsNs mb ∧ ∀ x : Str, x ≠ "__name__" → mb x = bootBuiltins x
  nolimit : base.NoLimit

/-- the context: a def's body (or a comprehension's block) running. base: fixed through the whole law; s₀, H₀: the entry; outer: the frames whose slots others may change (a def's callers); stack: all frames that run;
   ex: iterators that were made ahead of the entry and are walked here (a comprehension's); fn: the names whose cells were made at the entry (a def: all; a comprehension's block: its own); calm: not within an except suite; pn: pins that every state bears; xe: what is wanted of an exception that leaves the code -/
structure Cx where
  prog : Program
  w : World
  K : PySem.W.Frag
  mg : Str → Option Value
  base : Heap
  A : Around
  N : List Str
  s₀ : Shared
  H₀ : Hp
  env : Env
  outer : List Env
  stack : List Env
  ex : List Addr
  fn : Str → Bool
  calm : Bool
  pn : List (Addr × Obj)
  xe : Value → Shared → Prop
/-- the callers' frames -/
def frs (l : List Env) : List Addr := l.filterMap (·.frame)
abbrev Cx.fs (X : Cx) : List Addr := frs X.outer

def Vis (sc : Scope) (x : Str) : Prop := sc.names.lookup x = some .local ∨ sc.names.lookup x = some .cell ∨ sc.names.lookup x = some .free
def Loc (sc : Scope) (x : Str) : Prop := sc.names.lookup x = some .local ∨ sc.names.lookup x = some .cell
def Look (env : Env) (h : Heap) (m : Str → Option Value) (x : Str) (u : Value) : Prop :=
  (env.kindOf x = some .local ∧ m x = some u) ∨ ((env.kindOf x = some .cell ∨ env.kindOf x = some .free) ∧ ∃ c, env.cells.lookup x = some c ∧ h.IsCell c (some u))

structure Cx.Ok (X : Cx) : Prop where
  mod : Mod X.K X.mg X.base
  kind : X.env.scope.kind = .function
  glob : X.env.globals = mainGlobals
  blt : X.env.builtins = builtinsNs
  above : X.s₀.heap.objs.size ≤ X.env.locals
  inj : ∀ x y c, X.env.cells.lookup x = some c → X.env.cells.lookup y = some c → x = y
  has : ∀ x, (X.env.kindOf x = some .cell ∨ X.env.kindOf x = some .free) → ∃ c, X.env.cells.lookup x = some c
  cab : ∀ x c, X.fn x = true → X.env.cells.lookup x = some c → X.s₀.heap.objs.size ≤ c
  hd : X.calm = true → X.A.handled = none
  frames : X.A.frames = some X.stack
  stk : X.stack = X.outer ∨ (X.stack = X.env :: X.outer ∧ X.env.frame = some X.env.locals)
  exf : ∀ b ∈ X.ex, b ≠ X.env.locals ∧ ∀ x c, X.env.cells.lookup x = some c → c ≠ b
  bs : ∀ b o, X.base.get? b = some o → X.s₀.heap.get? b = some o ∧ X.H₀ b = none
  bsz : X.base.objs.size ≤ X.s₀.heap.objs.size
  noex : ∀ b o, X.base.get? b = some o → b ∉ X.ex
  exfs : ∀ b ∈ X.ex, b ∉ X.fs
  funs : X.s₀.heap.FunFrames X.base X.outer
  frf : ∀ b ∈ X.fs, X.H₀ b = none

structure Inv (X : Cx) (pins : List (Addr × Obj)) (σ : List (Option V)) (H : Hp) (s : Shared) : Prop where
  ok : X.Ok
  os : s.os = X.s₀.os
  bare : AllBare s.gens
  base : Un X.fs X.ex X.H₀ H X.s₀.heap s.heap
  loc : ∃ m, s.heap.Ns X.env.locals m ∧ ∀ (i : Nat) (x : Str) (v : V), X.N[i]? = some x → σ[i]? = some (some v) → Vis X.env.scope x → ∃ u, RelV v u ∧ Look X.env s.heap m x u
  cell : ∀ x c, X.env.cells.lookup x = some c → ∃ v, s.heap.IsCell c v
  free : H X.env.locals = none
  freeC : ∀ x c, X.env.cells.lookup x = some c → H c = none
  pin : ∀ p ∈ X.pn ++ pins, s.heap.get? p.1 = some p.2 ∧ H p.1 = none ∧ p.1 ≠ X.env.locals ∧ p.1 ∉ X.fs ∧ ∀ v, p.2.data ≠ .cell v
  hok : HOk X.prog X.w H s.heap
  len : σ.length = X.N.length

section
variable {X : Cx} {pins : List (Addr × Obj)} {σ : List (Option V)} {H H' : Hp} {s : Shared} {h' : Heap}

theorem Cx.Ok.nofr (ok : X.Ok) {b : Addr} {o : Obj} (e : X.base.get? b = some o) : b ∉ X.fs := fun hb => by
  have := (ok.funs.mem hb).1
  rw [e] at this; cases this
theorem Inv.bs (I : Inv X pins σ H s) : ∀ b o, X.base.get? b = some o → s.heap.get? b = some o ∧ H b = none := fun b o e =>
  ⟨I.base.keep b o (I.ok.bs b o e).1 (I.ok.bs b o e).2 (I.ok.nofr e) (I.ok.noex b o e), I.base.free b o (I.ok.bs b o e).1 (I.ok.bs b o e).2 (I.ok.noex b o e)⟩
theorem Inv.bk (I : Inv X pins σ H s) : ∀ b o, X.base.get? b = some o → s.heap.get? b = some o := fun b o e => (I.bs b o e).1
theorem Inv.mod (I : Inv X pins σ H s) : Mod X.K X.mg X.base := I.ok.mod
theorem Inv.kIn (I : Inv X pins σ H s) : X.K.In s.heap := I.ok.mod.kin.keeps I.bk
theorem Inv.lt (I : Inv X pins σ H s) : X.env.locals < s.heap.objs.size := let ⟨_, hn, _⟩ := I.loc; hn.lt
theorem Inv.sz (I : Inv X pins σ H s) : X.s₀.heap.objs.size ≤ s.heap.objs.size := Nat.le_trans I.ok.above (Nat.le_of_lt I.lt)
theorem Inv.nofs (I : Inv X pins σ H s) {a : Addr} (h : s.heap.objs.size ≤ a) : a ∉ X.fs := fun hb => by
  obtain ⟨_, o, ho, _⟩ := I.ok.funs.mem hb
  exact absurd (Nat.lt_of_lt_of_le (Heap.lt_size ho) (Nat.le_trans I.sz h)) (Nat.lt_irrefl _)
theorem Inv.cne (I : Inv X pins σ H s) : ∀ x c, X.env.cells.lookup x = some c → c ≠ X.env.locals := fun x c e z => by
  obtain ⟨v, o, ho, hd⟩ := I.cell x c e
  obtain ⟨m, ⟨o', es, ep, ho', hd', _⟩, _⟩ := I.loc
  rw [z, ho'] at ho; cases ho; rw [hd'] at hd; cases hd
theorem Inv.funs (I : Inv X pins σ H s) : s.heap.FunFrames X.base X.outer := by
  have all : ∀ (l : List Env), (∀ b ∈ frs l, b ∈ X.fs) → X.s₀.heap.FunFrames X.base l → s.heap.FunFrames X.base l := by
    intro l
    induction l with
    | nil => intro _ _; trivial
    | cons env r ih =>
      intro hs hl
      obtain ⟨hk, ⟨L, o, hf, hn, ho, hd⟩, hr⟩ := hl
      have hL : L ∈ X.fs := hs L (by unfold frs; rw [List.filterMap_cons, hf]; exact List.mem_cons_self)
      obtain ⟨sl, e⟩ := I.base.slot L o ho (I.ok.frf L hL) hL fun z => I.ok.exfs L z hL
      exact ⟨hk, ⟨L, _, hf, hn, e, hd⟩, ih (fun b hb => hs b (by unfold frs; rw [List.filterMap_cons, hf]; exact List.mem_cons_of_mem _ hb)) hr⟩
  exact all X.outer (fun _ hb => hb) I.ok.funs

/-- the frames that run, for a call -/
theorem Inv.stack (I : Inv X pins σ H s) : s.heap.FunFrames X.base X.stack := by
  rcases I.ok.stk with e | ⟨e, hf⟩
  · rw [e]; exact I.funs
  · rw [e]
    obtain ⟨m, hn, _⟩ := I.loc
    refine .cons (by rw [I.ok.kind]; decide) hf hn ?_ I.funs
    exact Heap.get?_none_of_le (Nat.le_trans I.ok.bsz I.ok.above)
theorem Inv.stkSub (I : Inv X pins σ H s) : ∀ b ∈ frs X.stack, b ∈ X.env.locals :: X.fs := fun b hb => by
  rcases I.ok.stk with e | ⟨e, hf⟩
  · rw [e] at hb; exact List.mem_cons_of_mem _ hb
  · rw [e] at hb
    unfold frs at hb
    rw [List.filterMap_cons, hf] at hb
    exact hb
theorem Inv.stkFree (I : Inv X pins σ H s) : ∀ b ∈ frs X.stack, H b = none := fun b hb => by
  rcases List.mem_cons.mp (I.stkSub b hb) with e | hb
  · rw [e]; exact I.free
  · obtain ⟨_, o, ho, _⟩ := I.ok.funs.mem hb
    exact I.base.free b o ho (I.ok.frf b hb) fun z => I.ok.exfs b z hb

/-- THE STEP: the untracked objects but the frame and the records at ch are kept (the callers' frames up to slots), the frame's map is kept, the new abstract heap is held -/
theorem Inv.step {g' : Array GenState} {t' : Nat} {d' : Drawn} {ch : List Addr} (I : Inv X pins σ H s)
    (hch : ∀ b ∈ ch, (b ∈ X.ex ∨ X.s₀.heap.objs.size ≤ b) ∧ b ≠ X.env.locals ∧ (∀ x c, X.env.cells.lookup x = some c → c ≠ b) ∧ ∀ p ∈ X.pn ++ pins, p.1 ≠ b)
    (keep : ∀ b o, b ≠ X.env.locals → b ∉ X.fs → b ∉ ch → s.heap.get? b = some o → H b = none → h'.get? b = some o)
    (slot : ∀ b o, b ≠ X.env.locals → b ∈ X.fs → b ∉ ch → s.heap.get? b = some o → H b = none → ∃ sl, h'.get? b = some { o with slots := sl }) (free : ∀ b o, b ∉ ch → s.heap.get? b = some o → H b = none → H' b = none)
    (there : ∀ b o, b ∉ ch → s.heap.get? b = some o → ∃ o', h'.get? b = some o')
    (tups : ∀ b xs, H b = some (.tup xs) → H' b = some (.tup xs)) (frzs : ∀ b o u, H b = some (.frz o u) → H' b = some (.frz o u)) (tbls : ∀ b ps, H b = some (.tbl ps) → ∃ more, H' b = some (.tbl (ps ++ more)))
    (ns : ∀ m, s.heap.Ns X.env.locals m → h'.Ns X.env.locals m) (hok : HOk X.prog X.w H' h') (hg : AllBare g') :
    Inv X pins σ H' { s with heap := h', gens := g', drawn := d', toks := t' } := by
  have neL : ∀ b o, X.s₀.heap.get? b = some o → b ≠ X.env.locals := fun b o e => Nat.ne_of_lt (Nat.lt_of_lt_of_le (Heap.lt_size e) I.ok.above)
  have neC : ∀ b o, X.s₀.heap.get? b = some o → b ∉ X.ex → b ∉ ch := fun b o e hx hb => by
    rcases (hch b hb).1 with z | z
    · exact hx z
    · exact absurd (Nat.lt_of_lt_of_le (Heap.lt_size e) z) (Nat.lt_irrefl _)
  have cellK : ∀ x c, X.env.cells.lookup x = some c → ∀ v, s.heap.IsCell c v → h'.IsCell c v := fun x c e v ⟨o, ho, hd⟩ => by
    have nch : c ∉ ch := fun z => (hch c z).2.2.1 x c e rfl
    by_cases hc : c ∈ X.fs
    · obtain ⟨sl, q⟩ := slot c o (I.cne x c e) hc nch ho (I.freeC x c e)
      exact ⟨_, q, hd⟩
    · exact ⟨o, keep c o (I.cne x c e) hc nch ho (I.freeC x c e), hd⟩
  refine ⟨I.ok, I.os, hg, ⟨fun b o e n hb hx => ?_, fun b o e n hb hx => ?_, fun b o e n hx => ?_, fun b o e hx => ?_, fun b xs e => tups b xs (I.base.tups b xs e), fun b o xs e => frzs b o xs (I.base.frzs b o xs e), fun b ps e => ?_⟩, ?_, fun x c e => ?_, ?_, fun x c e => ?_, fun p hp => ?_, hok, I.len⟩
  · exact keep b o (neL b o e) hb (neC b o e hx) (I.base.keep b o e n hb hx) (I.base.free b o e n hx)
  · obtain ⟨sl, e1⟩ := I.base.slot b o e n hb hx
    obtain ⟨sl', e2⟩ := slot b _ (neL b o e) hb (neC b o e hx) e1 (I.base.free b o e n hx)
    exact ⟨sl', e2⟩
  · obtain ⟨o', e1⟩ := I.base.there b o e hx
    exact free b o' (neC b o e hx) e1 (I.base.free b o e n hx)
  · obtain ⟨o', e1⟩ := I.base.there b o e hx
    exact there b o' (neC b o e hx) e1
  · obtain ⟨m1, e1⟩ := I.base.tbls b ps e
    obtain ⟨m2, e2⟩ := tbls b _ e1
    exact ⟨m1 ++ m2, by rw [e2, Array.append_assoc]⟩
  · obtain ⟨m, hn, hl⟩ := I.loc
    refine ⟨m, ns m hn, fun i x v e1 e2 e3 => ?_⟩
    obtain ⟨u, r, l⟩ := hl i x v e1 e2 e3
    refine ⟨u, r, ?_⟩
    rcases l with l | ⟨k, c, e, z⟩
    · exact .inl l
    · exact .inr ⟨k, c, e, cellK x c e _ z⟩
  · obtain ⟨v, z⟩ := I.cell x c e
    exact ⟨v, cellK x c e v z⟩
  · obtain ⟨m, ⟨o, _, _, ho, _⟩, _⟩ := I.loc
    exact free _ o (fun z => (hch _ z).2.1 rfl) ho I.free
  · obtain ⟨v, o, ho, hd⟩ := I.cell x c e
    exact free c o (fun z => (hch c z).2.2.1 x c e rfl) ho (I.freeC x c e)
  · obtain ⟨e, n, ne, nf, d⟩ := I.pin p hp
    have nch : p.1 ∉ ch := fun z => (hch p.1 z).2.2.2 p hp rfl
    exact ⟨keep p.1 p.2 ne nf nch e n, free p.1 p.2 nch e n, ne, nf, d⟩
/-- .. where the frame's own object is kept too -/
theorem Inv.un {t' : Nat} (I : Inv X pins σ H s) (u : Un X.fs [] H H' s.heap h') (hok : HOk X.prog X.w H' h') : Inv X pins σ H' { s with heap := h', toks := t' } := by
  obtain ⟨m, ⟨o, es, ep, ho, r⟩, _⟩ := id I.loc
  obtain ⟨sl, hL⟩ := u.any ho I.free (by simp)
  exact I.step (g' := s.gens) (d' := s.drawn) (ch := []) (fun _ z => nomatch z) (fun b o _ hb _ e n => u.keep b o e n hb (by simp)) (fun b o _ hb _ e n => u.slot b o e n hb (by simp)) (fun b o _ e n => u.free b o e n (by simp)) (fun b o _ e => u.there b o e (by simp)) u.tups u.frzs u.tbls (fun m' hm => by
    obtain ⟨o', es', ep', ho', r'⟩ := hm
    rw [ho] at ho'; cases ho'
    exact ⟨_, es', ep', hL, r'⟩) hok I.bare
/-- behind a call (or a comprehension's block): the slots of this frame may have changed too, the records at ch may have turned -/
theorem Inv.call {g' : Array GenState} {t' : Nat} {d' : Drawn} {ch : List Addr} (I : Inv X pins σ H s) (u : Un (frs X.stack) ch H H' s.heap h') (hok : HOk X.prog X.w H' h') (hg : AllBare g')
    (hch : ∀ b ∈ ch, (b ∈ X.ex ∨ X.s₀.heap.objs.size ≤ b) ∧ b ≠ X.env.locals ∧ (∀ x c, X.env.cells.lookup x = some c → c ≠ b) ∧ ∀ p ∈ X.pn ++ pins, p.1 ≠ b) :
    Inv X pins σ H' { s with heap := h', gens := g', drawn := d', toks := t' } := by
  obtain ⟨m, ⟨o, es, ep, ho, r⟩, _⟩ := id I.loc
  obtain ⟨sl, hL⟩ := u.any ho I.free fun z => (hch _ z).2.1 rfl
  exact I.step (ch := ch) hch (fun b o hL hb hc e n => u.keep b o e n (fun z => (List.mem_cons.mp (I.stkSub b z)).elim hL hb) hc) (fun b o _ _ hc e n => u.any e n hc) (fun b o hc e n => u.free b o e n hc) (fun b o hc e => u.there b o e hc) u.tups u.frzs u.tbls (fun m' hm => by
    obtain ⟨o', es', ep', ho', r'⟩ := hm
    rw [ho] at ho'; cases ho'
    exact ⟨_, es', ep', hL, r'⟩) hok hg
/-- an untracked record of ours (an iterator) has turned -/
theorem Inv.turned {t' : Nat} {it : Addr} (I : Inv X pins σ H s) (k : ∀ b o, b ≠ it → s.heap.get? b = some o → h'.get? b = some o) (hn : H it = none) (hL : it ≠ X.env.locals)
    (h1 : it ∈ X.ex ∨ X.s₀.heap.objs.size ≤ it) (h2 : ∀ x c, X.env.cells.lookup x = some c → c ≠ it) (h3 : ∀ p ∈ X.pn ++ pins, p.1 ≠ it) : Inv X pins σ H { s with heap := h', toks := t' } := by
  have nit : ∀ b u, H b = some u → b ≠ it := fun b u e z => by rw [z, hn] at e; cases e
  refine I.step (g' := s.gens) (d' := s.drawn) (ch := [it]) (fun b hb => ?_) (fun b o _ _ hc e _ => k b o (fun z => hc (by simp [z])) e) (fun b o _ _ hc e _ => ⟨o.slots, k b o (fun z => hc (by simp [z])) e⟩) (fun _ _ _ _ n => n)
    (fun b o hc e => ⟨o, k b o (fun z => hc (by simp [z])) e⟩) (fun _ _ e => e) (fun _ _ _ e => e) (fun b ps e => ⟨#[], by rw [e]; simp⟩) (fun m hm => ?_) (fun b u e => ?_) I.bare
  · have e : b = it := by simpa using hb
    subst e
    exact ⟨h1, hL, h2, h3⟩
  · obtain ⟨o, es, ep, ho, r⟩ := hm
    exact ⟨o, es, ep, k _ o (Ne.symm hL) ho, r⟩
  · refine (I.hok b u e).stay (fun c v hc q => k c v ?_ q) (fun _ q => q) fun _ _ q => q
    rcases hc with z | z
    · rw [z]; exact nit b u e
    · exact nit c _ z
theorem Inv.tok (I : Inv X pins σ H s) (t : Nat) : Inv X pins σ H { s with toks := t } := I.un (h' := s.heap) (t' := t) Un.refl I.hok
/-- all objects kept -/
theorem Inv.kept {t' : Nat} (I : Inv X pins σ H s) (k : ∀ b u, s.heap.get? b = some u → h'.get? b = some u) : Inv X pins σ H { s with heap := h', toks := t' } := I.un (Un.kept k) (I.hok.kept k)
/-- a new object laid and tracked -/
theorem Inv.laid {a : Addr} {o : HO} {t' : Nat} (I : Inv X pins σ H s) (k : ∀ b u, s.heap.get? b = some u → h'.get? b = some u) (hp : s.heap.objs.size ≤ a) (new : ObjOk X.prog X.w (upd H a o) h' a o) :
    Inv X pins σ (upd H a o) { s with heap := h', toks := t' } := I.un (Un.laid k hp (I.hok.fresh hp)) (I.hok.laid k hp new)
/-- an object written -/
theorem Inv.write {x e : Addr} {o : HO} {t' : Nat} (I : Inv X pins σ H s) (mu : Mut (H x)) (he : e = x ∨ H e = some (.own x)) (k : ∀ b u, b ≠ e → s.heap.get? b = some u → h'.get? b = some u) (heo : ∃ u, h'.get? e = some u)
    (new : ObjOk X.prog X.w (upd H x o) h' x o) : Inv X pins σ (upd H x o) { s with heap := h', toks := t' } := I.un (Un.write mu he k heo) (I.hok.write mu he k heo new)
theorem Inv.pins_of {pins' : List (Addr × Obj)} (I : Inv X pins σ H s) (h : ∀ p ∈ pins', s.heap.get? p.1 = some p.2 ∧ H p.1 = none ∧ p.1 ≠ X.env.locals ∧ p.1 ∉ X.fs ∧ ∀ v, p.2.data ≠ .cell v) : Inv X pins' σ H s :=
  ⟨I.ok, I.os, I.bare, I.base, I.loc, I.cell, I.free, I.freeC, fun p hp => (List.mem_append.mp hp).elim (fun z => I.pin p (List.mem_append_left _ z)) (h p), I.hok, I.len⟩

theorem nodup_ix {N : List Str} (hN : N.Nodup) {i j : Nat} {x : Str} (a : N[i]? = some x) (b : N[j]? = some x) : i = j := by
  obtain ⟨h1, e1⟩ := List.getElem?_eq_some_iff.mp a
  obtain ⟨h2, e2⟩ := List.getElem?_eq_some_iff.mp b
  exact (List.getElem_inj hN).mp (e1.trans e2.symm)

/-- a name is stored; what changed -/
theorem store_ok2 {M : Model} {A : Around} {E : Value → Shared → Prop} {i : Nat} {x : Str} {v : V} {u : Value} {Q : Unit → Shared → Prop} (I : Inv X pins σ H s) (hN : X.N.Nodup) (hi : X.N[i]? = some x) (hx : Loc X.env.scope x) (r : RelV v u)
    (h : ∀ s', Inv X pins (σ.set i (some v)) H s' → (∃ a, Heap.SameBut a s.heap s'.heap ∧ (a = X.env.locals ∨ X.env.cells.lookup x = some a)) → Q () s') (hf : X.fn x = true ∨ X.env.scope.names.lookup x = some .local := by first | exact .inl rfl | exact .inr rfl | assumption) : wpAny M A (storeName X.env x u) Q E s := by
  obtain ⟨m, hn, hl⟩ := id I.loc
  have hcls : (X.env.scope.kind == .class || (X.env.scope.kind == .module && X.env.locals != X.env.globals)) = false := by rw [I.ok.kind]; rfl
  have hiσ : i < σ.length := by rw [I.len]; exact (List.getElem?_eq_some_iff.mp hi).1
  have cne := I.cne
  have tracked : ∀ {a : Addr} {h' : Heap}, (∃ o, s.heap.get? a = some o ∧ H a = none) → Heap.SameBut a s.heap h' → HOk X.prog X.w H h' := fun {a h'} ha hs b ob e => by
    obtain ⟨_, _, hfree⟩ := ha
    refine (I.hok b ob e).stay (fun c w' hc q => (hs.2 c ?_).trans q) (fun _ q => q) fun _ _ q => q
    rintro rfl
    rcases hc with rfl | hc
    · rw [hfree] at e; cases e
    · rw [hfree] at hc; cases hc
  rcases hx with hk | hk
  · refine wpAny_storeName_local hk hn (fun h' hn' hs => ?_) hcls
    obtain ⟨oL, _, _, hoL, _⟩ := id hn
    refine h _ ⟨I.ok, I.os, I.bare, ⟨fun b o e n hb hx => ?_, fun b o e n hb hx => ?_, I.base.free, fun b o e hx => ?_, I.base.tups, I.base.frzs, I.base.tbls⟩, ⟨_, hn', fun j y v' e1 e2 e3 => ?_⟩, fun y c e => ?_, I.free, I.freeC, fun p hp => ?_, tracked ⟨oL, hoL, I.free⟩ hs, by simpa using I.len⟩ ⟨_, hs, .inl rfl⟩
    · exact (hs.2 b (Nat.ne_of_lt (Nat.lt_of_lt_of_le (Heap.lt_size e) I.ok.above))).trans (I.base.keep b o e n hb hx)
    · obtain ⟨sl, e1⟩ := I.base.slot b o e n hb hx
      exact ⟨sl, (hs.2 b (Nat.ne_of_lt (Nat.lt_of_lt_of_le (Heap.lt_size e) I.ok.above))).trans e1⟩
    · obtain ⟨o', e1⟩ := I.base.there b o e hx
      exact ⟨o', (hs.2 b (Nat.ne_of_lt (Nat.lt_of_lt_of_le (Heap.lt_size e) I.ok.above))).trans e1⟩
    · by_cases hj : j = i
      · subst hj
        rw [hi] at e1; cases e1
        rw [List.getElem?_set_self hiσ] at e2
        cases e2
        exact ⟨u, r, .inl ⟨hk, by simp⟩⟩
      · rw [List.getElem?_set_ne (Ne.symm hj)] at e2
        obtain ⟨u', r', q⟩ := hl j y v' e1 e2 e3
        refine ⟨u', r', ?_⟩
        rcases q with ⟨k, e⟩ | ⟨k, c, e, z⟩
        · refine .inl ⟨k, ?_⟩
          have : y ≠ x := fun e => hj (nodup_ix hN e1 (e ▸ hi))
          simp [this, e]
        · exact .inr ⟨k, c, e, z.sameBut hs (cne y c e)⟩
    · obtain ⟨w', z⟩ := I.cell y c e
      exact ⟨w', z.sameBut hs (cne y c e)⟩
    · obtain ⟨e, n, ne, nf, d⟩ := I.pin p hp
      exact ⟨(hs.2 p.1 ne).trans e, n, ne, nf, d⟩
  · have hfn : X.fn x = true := by
      rcases hf with z | z
      · exact z
      · rw [z] at hk; cases hk
    obtain ⟨c, hc⟩ := I.ok.has x (.inl hk)
    obtain ⟨w', z⟩ := I.cell x c hc
    refine wpAny_storeName_cell I.ok.kind hk hc z (fun h' hc' hs => ?_)
    obtain ⟨oc, hoc, hocd⟩ := id z
    refine h { s with heap := h' } ⟨I.ok, I.os, I.bare, ⟨fun b o e n hb hx => ?_, fun b o e n hb hx => ?_, I.base.free, fun b o e hx => ?_, I.base.tups, I.base.frzs, I.base.tbls⟩, ⟨m, hn.sameBut hs (Ne.symm (cne x c hc)), fun j y v' e1 e2 e3 => ?_⟩, fun y c' e => ?_, I.free, I.freeC, fun p hp => ?_, tracked ⟨oc, hoc, I.freeC x c hc⟩ hs, by simpa using I.len⟩ ⟨c, hs, .inr hc⟩
    · exact (hs.2 b (Nat.ne_of_lt (Nat.lt_of_lt_of_le (Heap.lt_size e) (I.ok.cab x c hfn hc)))).trans (I.base.keep b o e n hb hx)
    · obtain ⟨sl, e1⟩ := I.base.slot b o e n hb hx
      exact ⟨sl, (hs.2 b (Nat.ne_of_lt (Nat.lt_of_lt_of_le (Heap.lt_size e) (I.ok.cab x c hfn hc)))).trans e1⟩
    · obtain ⟨o', e1⟩ := I.base.there b o e hx
      exact ⟨o', (hs.2 b (Nat.ne_of_lt (Nat.lt_of_lt_of_le (Heap.lt_size e) (I.ok.cab x c hfn hc)))).trans e1⟩
    · by_cases hj : j = i
      · subst hj
        rw [hi] at e1; cases e1
        rw [List.getElem?_set_self hiσ] at e2
        cases e2
        exact ⟨u, r, .inr ⟨.inl hk, c, hc, hc'⟩⟩
      · rw [List.getElem?_set_ne (Ne.symm hj)] at e2
        obtain ⟨u', r', q⟩ := hl j y v' e1 e2 e3
        refine ⟨u', r', ?_⟩
        rcases q with q | ⟨k, c', e, z'⟩
        · exact .inl q
        · refine .inr ⟨k, c', e, z'.sameBut hs ?_⟩
          rintro rfl
          exact hj (nodup_ix hN e1 (I.ok.inj _ _ _ e hc ▸ hi))
    · by_cases hcc : c' = c
      · subst hcc; exact ⟨_, hc'⟩
      · obtain ⟨w2, z2⟩ := I.cell y c' e
        exact ⟨w2, z2.sameBut hs hcc⟩
    · obtain ⟨e, n, ne, nf, d⟩ := I.pin p hp
      refine ⟨(hs.2 p.1 ?_).trans e, n, ne, nf, d⟩
      intro q
      rw [q, hoc] at e
      have q' : oc = p.2 := Option.some.inj e
      exact d w' (by rw [← q']; exact hocd)
theorem store_ok {M : Model} {A : Around} {E : Value → Shared → Prop} {i : Nat} {x : Str} {v : V} {u : Value} {Q : Unit → Shared → Prop} (I : Inv X pins σ H s) (hN : X.N.Nodup) (hi : X.N[i]? = some x) (hx : Loc X.env.scope x) (r : RelV v u)
    (h : ∀ s', Inv X pins (σ.set i (some v)) H s' → Q () s') (hf : X.fn x = true ∨ X.env.scope.names.lookup x = some .local := by first | exact .inl rfl | exact .inr rfl | assumption) : wpAny M A (storeName X.env x u) Q E s :=
  store_ok2 I hN hi hx r (fun s' I' _ => h s' I') hf
/-- behind a call or a block, the state as it is -/
theorem Inv.call' {s' : Shared} {ch : List Addr} (I : Inv X pins σ H s) (ho : s'.os = s.os) (u : Un (frs X.stack) ch H H' s.heap s'.heap) (hok : HOk X.prog X.w H' s'.heap) (hg : AllBare s'.gens)
    (hch : ∀ b ∈ ch, (b ∈ X.ex ∨ X.s₀.heap.objs.size ≤ b) ∧ b ≠ X.env.locals ∧ (∀ x c, X.env.cells.lookup x = some c → c ≠ b) ∧ ∀ p ∈ X.pn ++ pins, p.1 ≠ b) : Inv X pins σ H' s' := by
  obtain ⟨h', g', d', t', o'⟩ := s'
  have e : o' = s.os := ho
  subst e
  exact I.call (g' := g') (t' := t') (d' := d') u hok hg hch
end

/-! ### the judgements -/
/-- an exception: its class, its own dict's address (where it has one), the abstract heap behind it -/
abbrev XK := Value → Option Addr → Hp → Prop
abbrev St := List (Option V)
abbrev VK := V → Hp → Prop
/-- an expression's reading; a test's; an argument list's -/
abbrev TE := St → Hp → VK → Prop
abbrev TT := St → Hp → (Bool → Hp → Prop) → Prop
abbrev TA := St → Hp → (List V → Hp → Prop) → Prop
/-- what is wanted behind a statement -/
structure Ends where
  nx : St → Hp → Prop
  rt : VK
  bk : St → Hp → Prop := fun _ _ => False
  ct : St → Hp → Prop := fun _ _ => False
abbrev TS := Ends → St → Hp → Prop

def EP (X : Cx) (pins : List (Addr × Obj)) (σ : St) (Q : VK) (u : Value) (s' : Shared) : Prop := ∃ v H', Inv X pins σ H' s' ∧ RelV v u ∧ Q v H'
def TP (X : Cx) (pins : List (Addr × Obj)) (σ : St) (Q : Bool → Hp → Prop) (b : Bool) (s' : Shared) : Prop := ∃ H', Inv X pins σ H' s' ∧ Q b H'
def AP (X : Cx) (pins : List (Addr × Obj)) (σ : St) (Q : List V → Hp → Prop) (us : List Value) (s' : Shared) : Prop := ∃ vs H', Inv X pins σ H' s' ∧ Vals vs us ∧ Q vs H'
def SP (X : Cx) (pins : List (Addr × Obj)) (D : Ends) (f : Flow) (s' : Shared) : Prop :=
  match f with
  | .next => ∃ σ' H', Inv X pins σ' H' s' ∧ D.nx σ' H'
  | .brk => ∃ σ' H', Inv X pins σ' H' s' ∧ D.bk σ' H'
  | .cont => ∃ σ' H', Inv X pins σ' H' s' ∧ D.ct σ' H'
  | .ret u => ∃ v σ' H', Inv X pins σ' H' s' ∧ RelV v u ∧ D.rt v H'

def PE (X : Cx) (e : Expr) (t : TE) : Prop :=
  ∀ (pins : List (Addr × Obj)) (s : Shared) (σ : St) (H : Hp) (Q : VK), Inv X pins σ H s → t σ H Q → wpAny (model X.prog X.w) X.A (eval e X.env) (EP X pins σ Q) X.xe s
def PT (X : Cx) (e : Expr) (t : TT) : Prop :=
  ∀ (pins : List (Addr × Obj)) (s : Shared) (σ : St) (H : Hp) (Q : Bool → Hp → Prop), Inv X pins σ H s → t σ H Q → wpAny (model X.prog X.w) X.A (isTrue e X.env (eval e X.env)) (TP X pins σ Q) X.xe s
/-- a test whatever its 'whole' is (and, or) -/
def PW (X : Cx) (e : Expr) (t : TT) : Prop :=
  ∀ (whole : Sem Value) (pins : List (Addr × Obj)) (s : Shared) (σ : St) (H : Hp) (Q : Bool → Hp → Prop), Inv X pins σ H s → t σ H Q → wpAny (model X.prog X.w) X.A (isTrue e X.env whole) (TP X pins σ Q) X.xe s
theorem PW.pt {X : Cx} {e : Expr} {t : TT} (h : PW X e t) : PT X e t := h _
/-- an argument list (no star), from the left -/
def PA (X : Cx) (es : List Expr) (t : TA) : Prop :=
  ∀ (pos : Pos) (pins : List (Addr × Obj)) (s : Shared) (σ : St) (H : Hp) (Q : List V → Hp → Prop), Inv X pins σ H s → t σ H Q → wpAny (model X.prog X.w) X.A (spliced (backTo pos (starEach es X.env))) (AP X pins σ Q) X.xe s
def PS (X : Cx) (st : Stmt) (t : TS) : Prop :=
  ∀ (pins : List (Addr × Obj)) (s : Shared) (σ : St) (H : Hp) (D : Ends), Inv X pins σ H s → t D σ H → wpAny (model X.prog X.w) X.A (exec st X.env) (SP X pins D) X.xe s
def PSs (X : Cx) (st : List Stmt) (t : TS) : Prop :=
  ∀ (pins : List (Addr × Obj)) (s : Shared) (σ : St) (H : Hp) (D : Ends), Inv X pins σ H s → t D σ H → wpAny (model X.prog X.w) X.A (execs st X.env) (SP X pins D) X.xe s
/-- weaken the end -/
theorem thn {α : Type} {t : Sem α} {Q Q' : α → Shared → Prop} {M : Model} {A : Around} {E : Value → Shared → Prop} {s : Shared} (h : wpAny M A t Q E s) (hQ : ∀ a s, Q a s → Q' a s) : wpAny M A t Q' E s := wpAny_mono h hQ fun _ _ x => x
end L2

namespace L2
open PySem PySem.Spec PyProof.Rows
section
variable {X : Cx}

/-! ### names and constants -/
def tVar (i : Nat) : TE := fun σ H Q => ∃ v, σ[i]? = some (some v) ∧ Q v H
def tC (v : V) : TE := fun _ H Q => Q v H
theorem pe_var {i : Nat} {x : Str} {pos : Pos} (hN : X.N[i]? = some x) (hv : Vis X.env.scope x) (hd : (x == ("__debug__" : Str)) = false := by decide) (hcd : (x == ("__classdict__" : Str)) = false := by decide) : PE X (.Name x pos) (tVar i) := by
  intro pins s σ H Q I h
  obtain ⟨v, e, h⟩ := h
  obtain ⟨m, hn, hl⟩ := I.loc
  obtain ⟨u, r, l⟩ := hl i x v hN e hv
  have fin : EP X pins σ Q u s := ⟨v, H, I, r, h⟩
  rcases l with ⟨hk, hm⟩ | ⟨hk, c, hc, hcell⟩
  · exact wpAny_Name (wpAny_loadName_local I.ok.kind hk hn hm fin) hd
  · rcases hk with hk | hk
    · exact wpAny_Name (wpAny_loadName_cell I.ok.kind hk hc hcell fin) hd
    · exact wpAny_Name (wpAny_loadName_free I.ok.kind hk hc hcell fin hcd) hd
theorem pe_int {i j pos} : PE X (.Constant (.int i) j pos) (tC (.int i)) := fun _ _ _ H _ I h => wpAny_Constant_int ⟨.int i, H, I.tok _, ⟨_, rfl⟩, h⟩
theorem pe_bl {b j pos} : PE X (.Constant (.bool b) j pos) (tC (.bl b)) := fun _ _ _ H _ I h => Constant_bool ⟨.bl b, H, I, rfl, h⟩
theorem pe_non {j pos} : PE X (.Constant .none j pos) (tC .non) := fun _ _ _ H _ I h => Constant_none ⟨.non, H, I, rfl, h⟩
theorem pe_str {x j pos} : PE X (.Constant (.str x) j pos) (tC (.str x)) := fun _ _ _ H _ I h => Calls.Constant_str ⟨.str x, H, I.tok _, ⟨_, rfl⟩, h⟩

/-- a global name of the def -/
def Gl (X : Cx) (x : Str) : Prop := X.env.kindOf x = some .globalImplicit
theorem ld_glob {E : Value → Shared → Prop} {pins : List (Addr × Obj)} {s : Shared} {σ : St} {H : Hp} {x : Str} {u : Value} {pos : Pos} {Q : Value → Shared → Prop} (I : Inv X pins σ H s) (hg : Gl X x) (hm : X.mg x = some u) (h : Q u s)
    (hd : (x == ("__debug__" : Str)) = false := by decide) : wpAny (model X.prog X.w) X.A (eval (.Name x pos) X.env) Q E s :=
  Calls.Name_function_global I.ok.kind hg (Calls.loadGlobal_global (by rw [I.ok.glob]; exact I.mod.glob.keeps I.bk) hm h) hd
theorem ld_blt {E : Value → Shared → Prop} {pins : List (Addr × Obj)} {s : Shared} {σ : St} {H : Hp} {x : Str} {u : Value} {pos : Pos} {Q : Value → Shared → Prop} (I : Inv X pins σ H s) (hg : Gl X x) (hm : X.mg x = none) (hv : bootBuiltins x = some u) (h : Q u s)
    (hn : x ≠ "__name__" := by decide) (hd : (x == ("__debug__" : Str)) = false := by decide) : wpAny (model X.prog X.w) X.A (eval (.Name x pos) X.env) Q E s := by
  obtain ⟨mb, h1, h2⟩ := I.mod.blt
  exact Calls.Name_function_global I.ok.kind hg (Calls.loadGlobal_builtin (by rw [I.ok.glob]; exact I.mod.glob.keeps I.bk) hm (by rw [I.ok.blt]; exact h1.keeps I.bk) ((h2 x hn).trans hv) h) hd
/-- a module's constant, a class, a function, as a value -/
theorem pe_glob {x : Str} {v : V} {u : Value} {pos : Pos} (hg : Gl X x) (hm : X.mg x = some u) (r : RelV v u) (hd : (x == ("__debug__" : Str)) = false := by decide) : PE X (.Name x pos) (tC v) :=
  fun _ _ _ H _ I h => ld_glob I hg hm ⟨v, H, I, r, h⟩ hd
theorem pe_bltn {x : Str} {v : V} {u : Value} {pos : Pos} (hg : Gl X x) (hm : X.mg x = none) (hv : bootBuiltins x = some u) (r : RelV v u) (hn : x ≠ "__name__" := by decide) (hd : (x == ("__debug__" : Str)) = false := by decide) : PE X (.Name x pos) (tC v) :=
  fun _ _ _ H _ I h => ld_blt I hg hm hv ⟨v, H, I, r, h⟩ hn hd

/-! ### arithmetic -/
/-- two ints -/
def t2I (ta tb : TE) (k : Int → Int → Hp → Prop) : St → Hp → Prop := fun σ H => ta σ H fun x H1 => tb σ H1 fun y H2 => ∃ i j, x = .int i ∧ y = .int j ∧ k i j H2
def tAdd (ta tb : TE) : TE := fun σ H Q => t2I ta tb (fun i j H2 => Q (.int (i + j)) H2) σ H
def tSub (ta tb : TE) : TE := fun σ H Q => t2I ta tb (fun i j H2 => Q (.int (i - j)) H2) σ H
/-- the left factor below 2^64 -/
def tMul (ta tb : TE) : TE := fun σ H Q => t2I ta tb (fun i j H2 => (-(2 ^ 64) < i ∧ i < 2 ^ 64) ∧ Q (.int (i * j)) H2) σ H
variable {a b : Expr} {ta tb : TE} {pos : Pos}
/-! ### comparisons -/
def PC (X : Cx) (op : CmpOp) (a b : Expr) (t : TE) : Prop :=
  ∀ (pins : List (Addr × Obj)) (s : Shared) (σ : St) (H : Hp) (Q : VK), Inv X pins σ H s → t σ H Q →
    wpAny (model X.prog X.w) X.A (eval a X.env) (fun v s₁ => wpAny (model X.prog X.w) X.A (eval b X.env) (fun u s₂ => wpAny (model X.prog X.w) X.A (compareOp op v u) (EP X pins σ Q) X.xe s₂) X.xe s₁) X.xe s
def tCmp (p : Int → Int → Bool) (ta tb : TE) : TE := fun σ H Q => t2I ta tb (fun i j H2 => Q (.bl (p i j)) H2) σ H
abbrev tLt : TE → TE → TE := tCmp fun i j => decide (i < j)
abbrev tLe : TE → TE → TE := tCmp fun i j => decide (i ≤ j)
abbrev tGt : TE → TE → TE := tCmp fun i j => decide (j < i)
abbrev tGe : TE → TE → TE := tCmp fun i j => decide (j ≤ i)
abbrev tEqI : TE → TE → TE := tCmp fun i j => decide (i = j)
abbrev tNeI : TE → TE → TE := tCmp fun i j => !decide (i = j)
/-- is None -/
def tIsN (ta : TE) : TE := fun σ H Q => ta σ H fun x H1 => Q (.bl (decide (x = .non))) H1
def tNotN (ta : TE) : TE := fun σ H Q => ta σ H fun x H1 => Q (.bl (!decide (x = .non))) H1
/-- a comparison as a value, as a test -/
def tB (t : TE) : TT := fun σ H Q => t σ H fun x H1 => ∃ c, x = .bl c ∧ Q c H1
/-- an expression whose value is a bool, as a test -/
theorem pt_val {e : Expr} {t : TE} (h : PE X e t) (he : ∀ whole, isTrue e X.env whole = (do let v ← whole; standAt e.pos; holding [v] (truthy v)) := by intro _; rfl) : PT X e (tB t) := by
  intro pins s σ H Q I hw
  refine isTrue_plain (thn (h pins s σ H _ I hw) fun v s1 ⟨x, H1, I1, r1, q1⟩ => ?_) (he _)
  obtain ⟨d, rfl, q⟩ := q1
  cases r1
  exact wpAny_truthy_bool ⟨H1, I1, q⟩

/-! ### and, or, not -/
variable {tA tB' : TT} {rest : List Expr}
def tAnd (t u : TT) : TT := fun σ H Q => t σ H fun c H1 => if c = true then u σ H1 Q else Q false H1
def tOr (t u : TT) : TT := fun σ H Q => t σ H fun c H1 => if c = true then Q true H1 else u σ H1 Q
def tNot (t : TT) : TT := fun σ H Q => t σ H fun c H1 => Q (!c) H1
theorem pw_and1 (ha : PT X a tA) : PW X (.BoolOp .And [a] pos) tA := by
  intro wh pins s σ H Q I h
  refine isTrue_and (thn (ha pins s σ H Q I h) fun c s1 e => ?_)
  cases c with
  | true => exact isTrue_and_nil e
  | false => exact e
theorem pw_or1 (ha : PT X a tA) : PW X (.BoolOp .Or [a] pos) tA := by
  intro wh pins s σ H Q I h
  refine isTrue_or (thn (ha pins s σ H Q I h) fun c s1 e => ?_)
  cases c with
  | false => exact isTrue_or_nil e
  | true => exact e
theorem pw_and (ha : PT X a tA) (hb : PW X (.BoolOp .And (b :: rest) pos) tB') : PW X (.BoolOp .And (a :: b :: rest) pos) (tAnd tA tB') := by
  intro wh pins s σ H Q I h
  refine isTrue_and (thn (ha pins s σ H _ I h) fun c s1 ⟨H1, I1, q1⟩ => ?_)
  cases c with
  | true => exact hb wh pins s1 σ H1 Q I1 q1
  | false => exact ⟨H1, I1, q1⟩
theorem pw_or (ha : PT X a tA) (hb : PW X (.BoolOp .Or (b :: rest) pos) tB') : PW X (.BoolOp .Or (a :: b :: rest) pos) (tOr tA tB') := by
  intro wh pins s σ H Q I h
  refine isTrue_or (thn (ha pins s σ H _ I h) fun c s1 ⟨H1, I1, q1⟩ => ?_)
  cases c with
  | true => exact ⟨H1, I1, q1⟩
  | false => exact hb wh pins s1 σ H1 Q I1 q1
theorem pt_not (ha : PT X a tA) : PT X (.UnaryOp .Not a pos) (tNot tA) := by
  intro pins s σ H Q I h
  exact isTrue_not (ha pins s σ H (fun c H1 => Q (!c) H1) I h)
/-- .. as values (bools) -/
def tAndV (ta tb : TE) : TE := fun σ H Q => ta σ H fun x H1 => ∃ c, x = .bl c ∧ if c = true then tb σ H1 Q else Q (.bl false) H1
def tOrV (ta tb : TE) : TE := fun σ H Q => ta σ H fun x H1 => ∃ c, x = .bl c ∧ if c = true then Q (.bl true) H1 else tb σ H1 Q
def tNotV (ta : TE) : TE := fun σ H Q => ta σ H fun x H1 => ∃ c, x = .bl c ∧ Q (.bl (!c)) H1
/-- a if t else b -/
def tIf (t : TT) (ta tb : TE) : TE := fun σ H Q => t σ H fun c H1 => if c = true then ta σ H1 Q else tb σ H1 Q
theorem pe_ifExp {c : Expr} (hc : PT X c tA) (ha : PE X a ta) (hb : PE X b tb) : PE X (.IfExp c a b pos) (tIf tA ta tb) := by
  intro pins s σ H Q I h
  refine wpAny_IfExp (thn (hc pins s σ H _ I h) fun d s1 ⟨H1, I1, q1⟩ => ?_)
  cases d with
  | true => exact ha pins s1 σ H1 Q I1 q1
  | false => exact hb pins s1 σ H1 Q I1 q1
end
end L2

namespace L2
open PySem PySem.Spec PyProof.Rows

/-! ### a list, a tuple that is read: tracked, frozen, or an object of the module -/
def SqL (K : PySem.W.Frag) (H : Hp) (a : Addr) (xs : List V) : Prop :=
  Rd H a (.lst xs) ∨
    ∃ (o : Obj) (its : Array Value) (n : Nat), K.lookup a = some o ∧ o.cls = .type "list" ∧ o.dict = none ∧ o.data = .seq its n ∧ its.size ≤ sizeLine ∧ Vals xs its.toList
def SqT (K : PySem.W.Frag) (H : Hp) (a : Addr) (xs : List V) : Prop :=
  Rd H a (.tup xs) ∨
    ∃ (o : Obj) (its : Array Value) (n : Nat), K.lookup a = some o ∧ o.cls = .type "tuple" ∧ o.data = .seq its n ∧ its.size ≤ sizeLine ∧ Vals xs its.toList
def absV : Value → Option V
  | .none => some .non
  | .bool b => some (.bl b)
  | .int i _ => some (.int i)
  | .str x _ => some (.str x)
  | .bytes b _ => some (.byt b)
  | .float b _ => some (.flt b)
  | .ref a => some (.ref a)
  | .type n => some (.ty n)
  | _ => none
theorem RelV.abs {x : V} {u : Value} (r : RelV x u) : absV u = some x := by
  cases x with
  | non => cases r; rfl
  | bl _ => cases r; rfl
  | int _ => obtain ⟨t, rfl⟩ := r; rfl
  | str _ => obtain ⟨t, rfl⟩ := r; rfl
  | byt _ => obtain ⟨t, rfl⟩ := r; rfl
  | flt _ => obtain ⟨t, rfl⟩ := r; rfl
  | ref _ => cases r; rfl
  | ty _ => cases r; rfl
theorem RelV.inj {x y : V} {u : Value} (r : RelV x u) (q : RelV y u) : x = y := Option.some.inj (r.abs.symm.trans q.abs)
theorem Vals.inj : ∀ {xs ys : List V} {us : List Value}, Vals xs us → Vals ys us → xs = ys
  | _, _, _, .nil, .nil => rfl
  | _, _, _, .cons r t, .cons r' t' => by rw [r.inj r', Vals.inj t t']
section
variable {X : Cx} {pins : List (Addr × Obj)} {σ : St} {H : Hp} {s : Shared} {a : Addr} {xs ys : List V}
theorem SqL.of {K : PySem.W.Frag} (h : H a = some (.lst xs)) : SqL K H a xs := .inl (.inl h)
theorem SqT.of {K : PySem.W.Frag} (h : H a = some (.tup xs)) : SqT K H a xs := .inl (.inl h)
theorem Inv.list (I : Inv X pins σ H s) (h : SqL X.K H a xs) : ∃ its : List Value, Vals xs its ∧ PlainL s.heap a its.toArray ∧ xs.length ≤ sizeLine := by
  rcases h with h | ⟨o, its, n, hk, hc, hd, hs, hz, r⟩
  · obtain ⟨z, its, n, r, e⟩ := h.ok I.hok
    exact ⟨its, r, ⟨_, n, e, rfl, rfl, rfl⟩, z⟩
  · refine ⟨its.toList, r, ⟨o, n, I.kIn a o hk, hc, hd, by simpa using hs⟩, ?_⟩
    have e := r.length
    simp only [Array.length_toList] at e
    omega
theorem Inv.tuple (I : Inv X pins σ H s) (h : SqT X.K H a xs) : ∃ its : List Value, Vals xs its ∧ IsTup s.heap a its.toArray ∧ xs.length ≤ sizeLine := by
  rcases h with h | ⟨o, its, n, hk, hc, hs, hz, r⟩
  · obtain ⟨z, its, r, p⟩ := h.ok I.hok
    exact ⟨its, r, p, z⟩
  · refine ⟨its.toList, r, ⟨o, I.kIn a o hk, hc, n, by simpa using hs⟩, ?_⟩
    have e := r.length
    simp only [Array.length_toList] at e
    omega
theorem Inv.list_inj (I : Inv X pins σ H s) (h : SqL X.K H a xs) (h' : SqL X.K H a ys) : xs = ys := by
  obtain ⟨its, r, ⟨o, n, e, _, _, d⟩, _⟩ := I.list h
  obtain ⟨its', r', ⟨o', n', e', _, _, d'⟩, _⟩ := I.list h'
  rw [e] at e'; cases e'
  rw [d] at d'
  injection d' with d1 _
  have : its = its' := by simpa using congrArg Array.toList d1
  subst this
  exact r.inj r'
end

/-! ### another wish about exceptions -/
abbrev Cx.wish (X : Cx) (E : Value → Shared → Prop) : Cx := { X with xe := E }
/-- no exception leaves -/
abbrev Cx.nox (X : Cx) : Cx := X.wish fun _ _ => False
theorem Cx.Ok.wish {X : Cx} (ok : X.Ok) (E : Value → Shared → Prop) : (X.wish E).Ok :=
  ⟨ok.mod, ok.kind, ok.glob, ok.blt, ok.above, ok.inj, ok.has, ok.cab, ok.hd, ok.frames, ok.stk, ok.exf, ok.bs, ok.bsz, ok.noex, ok.exfs, ok.funs, ok.frf⟩
theorem Cx.Ok.unwish {X : Cx} {E : Value → Shared → Prop} (ok : (X.wish E).Ok) : X.Ok :=
  ⟨ok.mod, ok.kind, ok.glob, ok.blt, ok.above, ok.inj, ok.has, ok.cab, ok.hd, ok.frames, ok.stk, ok.exf, ok.bs, ok.bsz, ok.noex, ok.exfs, ok.funs, ok.frf⟩
section
variable {X : Cx} {pins : List (Addr × Obj)} {σ : St} {H : Hp} {s : Shared} {E : Value → Shared → Prop}
theorem Inv.wish (I : Inv X pins σ H s) (E : Value → Shared → Prop) : Inv (X.wish E) pins σ H s := ⟨I.ok.wish E, I.os, I.bare, I.base, I.loc, I.cell, I.free, I.freeC, I.pin, I.hok, I.len⟩
theorem Inv.unwish (I : Inv (X.wish E) pins σ H s) : Inv X pins σ H s := ⟨I.ok.unwish, I.os, I.bare, I.base, I.loc, I.cell, I.free, I.freeC, I.pin, I.hok, I.len⟩
theorem SP.unwish {D : Ends} {f : Flow} {s' : Shared} (h : SP (X.wish E) pins D f s') : SP X pins D f s' := by
  cases f with
  | next => obtain ⟨σ', H', I, q⟩ := h; exact ⟨σ', H', I.unwish, q⟩
  | brk => obtain ⟨σ', H', I, q⟩ := h; exact ⟨σ', H', I.unwish, q⟩
  | cont => obtain ⟨σ', H', I, q⟩ := h; exact ⟨σ', H', I.unwish, q⟩
  | ret u => obtain ⟨v, σ', H', I, r, q⟩ := h; exact ⟨v, σ', H', I.unwish, r, q⟩
theorem PSs.nox {st : List Stmt} {t : TS} (h : PSs X.nox st t) : PSs X st t := fun pins s σ H D I hw =>
  wpAny_mono (h pins s σ H D (I.wish _) hw) (fun _ _ q => q.unwish) fun _ _ z => False.elim z
end

/-! ### blocks and small statements -/
section
variable {X : Cx} {st : Stmt} {rest : List Stmt} {t u : TS} {e : Expr} {te : TE} {pos : Pos}
def tNext : TS := fun D σ H => D.nx σ H
def tSeq (t u : TS) : TS := fun D σ H => t { D with nx := u D } σ H
theorem pss_nil : PSs X [] tNext := fun _ _ σ H _ I h => wpAny_execs_nil ⟨σ, H, I, h⟩
theorem pss_cons (h1 : PS X st t) (h2 : PSs X rest u) : PSs X (st :: rest) (tSeq t u) := by
  intro pins s σ H D I h
  refine wpAny_execs_cons (thn (h1 pins s σ H { D with nx := u D } I h) fun f s1 q => ?_)
  cases f with
  | next =>
    obtain ⟨σ', H', I', q⟩ := q
    exact h2 pins s1 σ' H' D I' q
  | ret v => exact q
  | brk => exact q
  | cont => exact q
theorem pss_one (h1 : PS X st t) : PSs X [st] t := by
  intro pins s σ H D I h
  refine wpAny_execs_cons (thn (h1 pins s σ H D I h) fun f s1 q => ?_)
  cases f with
  | next => exact wpAny_execs_nil q
  | ret v => exact q
  | brk => exact q
  | cont => exact q
def tBreak : TS := fun D σ H => D.bk σ H
def tCont : TS := fun D σ H => D.ct σ H
/-- in a def's body nothing is shown -/
theorem Inv.quiet {pins : List (Addr × Obj)} {σ : St} {H : Hp} {s : Shared} (I : Inv X pins σ H s) : interactive X.env = false := by simp [interactive, I.ok.kind]
/-- an expression whose value is dropped -/
def tDrop (te : TE) : TS := fun D σ H => te σ H fun _ H1 => D.nx σ H1
theorem ps_expr (he : PE X e te) (hs : swapsWith e none pos.line X.env = pure false := by rfl) : PS X (.Expr e pos) (tDrop te) := by
  intro pins s σ H D I h
  exact wpAny_Expr_any (thn (he pins s σ H _ I h) fun v s1 ⟨x, H1, I1, r1, q1⟩ => ⟨σ, H1, I1, q1⟩) I.quiet hs
def tRet (te : TE) : TS := fun D σ H => te σ H D.rt
theorem ps_ret (he : PE X e te) : PS X (.Return (some e) pos) (tRet te) := by
  intro pins s σ H D I h
  exact wpAny_Return_some (thn (he pins s σ H _ I h) fun v s1 ⟨x, H1, I1, r1, q1⟩ => ⟨x, σ, H1, I1, r1, q1⟩)
def tRetN : TS := fun D _ H => D.rt .non H
def tIfS (c : TT) (t u : TS) : TS := fun D σ H => c σ H fun b H1 => if b = true then t D σ H1 else u D σ H1
theorem ps_if {c : Expr} {a b : List Stmt} {tc : TT} (hc : PT X c tc) (ha : PSs X a t) (hb : PSs X b u) : PS X (.If c a b pos) (tIfS tc t u) := by
  intro pins s σ H D I h
  refine wpAny_If (thn (hc pins s σ H _ I h) fun d s1 ⟨H1, I1, q1⟩ => ?_)
  cases d with
  | true => exact ha pins s1 σ H1 D I1 q1
  | false => exact hb pins s1 σ H1 D I1 q1
/-- code that the proof never comes to -/
def tNever : TS := fun _ _ _ => False
end

/-! ### targets -/
abbrev TG := V → St → Hp → (St → Hp → Prop) → Prop
abbrev TGs := List V → St → Hp → (St → Hp → Prop) → Prop
def PG (X : Cx) (target : Expr) (t : TG) : Prop :=
  ∀ (pins : List (Addr × Obj)) (s : Shared) (σ : St) (H : Hp) (v : V) (u : Value) (Q : St → Hp → Prop), Inv X pins σ H s → RelV v u → t v σ H Q →
    wpAny (model X.prog X.w) X.A (assign target X.env u) (fun _ s' => ∃ σ' H', Inv X pins σ' H' s' ∧ Q σ' H') X.xe s
/-- several targets, one after another -/
def PGs (X : Cx) (ts : List Expr) (t : TGs) : Prop :=
  ∀ (pins : List (Addr × Obj)) (s : Shared) (σ : St) (H : Hp) (vs : List V) (us : List Value) (Q : St → Hp → Prop), Inv X pins σ H s → Vals vs us → t vs σ H Q →
    wpAny (model X.prog X.w) X.A (assignInOrder ((assignEach ts X.env).map (·.2)) us) (fun _ s' => ∃ σ' H', Inv X pins σ' H' s' ∧ Q σ' H') X.xe s
/-- o[i] = v, by values -/
abbrev TSet := V → V → V → Hp → (Hp → Prop) → Prop
def PSet (X : Cx) (t : TSet) : Prop :=
  ∀ (pins : List (Addr × Obj)) (s : Shared) (σ : St) (H : Hp) (o i v : V) (ov iv u : Value) (Q : Hp → Prop), Inv X pins σ H s → RelV o ov → RelV i iv → RelV v u → t o i v H Q →
    wpAny (model X.prog X.w) X.A (setItem ov iv u) (fun _ s' => ∃ H', Inv X pins σ H' s' ∧ Q H') X.xe s
/-- a op= b, by values -/
abbrev TIp := V → V → Hp → VK → Prop
def PIp (X : Cx) (op : Operator) (t : TIp) : Prop :=
  ∀ (pins : List (Addr × Obj)) (s : Shared) (σ : St) (H : Hp) (x y : V) (v u : Value) (Q : VK), Inv X pins σ H s → RelV x v → RelV y u → t x y H Q →
    wpAny (model X.prog X.w) X.A (inplaceOp op v u) (EP X pins σ Q) X.xe s
section
variable {X : Cx} {pos : Pos}
def gName (i : Nat) : TG := fun v σ H Q => Q (σ.set i (some v)) H
theorem pg_name {i : Nat} {x : Str} (hN : X.N.Nodup) (hi : X.N[i]? = some x) (hx : Loc X.env.scope x) (hf : X.fn x = true ∨ X.env.scope.names.lookup x = some .local := by first | exact .inl rfl | exact .inr rfl | assumption) : PG X (.Name x pos) (gName i) := by
  intro pins s σ H v u Q I r h
  exact wpAny_assign_Name (store_ok I hN hi hx r (fun s' I' => ⟨_, H, I', h⟩) hf)
def gNil : TGs := fun vs σ H Q => vs = [] ∧ Q σ H
def gCons (t : TG) (u : TGs) : TGs := fun vs σ H Q => ∃ v r, vs = v :: r ∧ t v σ H fun σ' H' => u r σ' H' Q
/-- (a, b, ..) = a tuple of that length -/
def gTup (K : PySem.W.Frag) (n : Nat) (t : TGs) : TG := fun v σ H Q => ∃ a xs, v = .ref a ∧ SqT K H a xs ∧ xs.length = n ∧ t xs σ H Q
/-- o[i] = .. -/
def gSub (to ti : TE) (t : TSet) : TG := fun v σ H Q => to σ H fun o H1 => ti σ H1 fun i H2 => t o i v H2 fun H3 => Q σ H3
theorem pg_sub {o i : Expr} {to ti : TE} {t : TSet} (ho : PE X o to) (hi : PE X i ti) (hs : PSet X t)
    (ha : ∀ v, assign (.Subscript o i pos) X.env v = (do
      let ov ← holding [v] (eval o X.env)
      let iv ← holding [v, ov] (eval i X.env)
      standAt pos
      holding [v, ov, iv] (setItem ov iv v)
      release [v, ov, iv] []) := by intro _; rfl) : PG X (.Subscript o i pos) (gSub to ti t) := by
  intro pins s σ H v u Q I r h
  rw [ha]
  refine wpAny_bind (wpAny_holding (thn (ho pins s σ H _ I h) fun ov s1 ⟨x, H1, I1, r1, q1⟩ => ?_))
  refine wpAny_bind (wpAny_holding (thn (hi pins s1 σ H1 _ I1 q1) fun iv s2 ⟨y, H2, I2, r2, q2⟩ => ?_))
  refine wpAny_bind (wpAny_standAt (wpAny_bind (wpAny_holding (thn (hs pins s2 σ H2 x y v ov iv u _ I2 r1 r2 r q2) fun _ s3 ⟨H3, I3, q3⟩ => ?_))))
  exact wpAny_release ⟨σ, H3, I3, q3⟩
/-- target = value -/
def tAsg (te : TE) (g : TG) : TS := fun D σ H => te σ H fun x H1 => g x σ H1 D.nx
theorem ps_asg {tg e : Expr} {te : TE} {g : TG} (he : PE X e te) (hg : PG X tg g) (hs : swapsWithSole [tg] e pos.line X.env = pure false := by rfl) (hw : swappedStores [tg] e X.env = pure none := by rfl)
    (h1 : (assignEach [tg] X.env).map (·.2) = [assign tg X.env] := by rfl) : PS X (.Assign [tg] e pos) (tAsg te g) := by
  intro pins s σ H D I h
  refine wpAny_Assign_stores (thn (he pins s σ H _ I h) fun v s1 ⟨x, H1, I1, r1, q1⟩ => ?_) hs hw
  rw [h1]
  exact thn (hg pins s1 σ H1 x v _ I1 r1 q1) fun _ s2 q => q
/-- name = value -/
theorem ps_set {i : Nat} {x : Str} {e : Expr} {te : TE} {pos' : Pos} (hN : X.N.Nodup) (hi : X.N[i]? = some x) (hx : Loc X.env.scope x) (he : PE X e te) (hs : swapsWith e (some (.Name x pos')) pos.line X.env = pure false := by rfl) (hf : X.fn x = true ∨ X.env.scope.names.lookup x = some .local := by first | exact .inl rfl | exact .inr rfl | assumption) :
    PS X (.Assign [.Name x pos'] e pos) (tAsg te (gName i)) := by
  intro pins s σ H D I h
  refine wpAny_Assign_Name (thn (he pins s σ H _ I h) fun v s1 ⟨y, H1, I1, r1, q1⟩ => ?_) hs
  exact store_ok I1 hN hi hx r1 (fun s2 I2 => ⟨_, H1, I2, q1⟩) hf
/-- a, b = x, y with plain local names: stored from the right; the pair itself is not tracked (the opening rows as in PyProof/Rows/TupAssign.lean:23) -/
def tPar (i j : Nat) (ta : TA) : TS := fun D σ H => ta σ H fun vs H1 => ∃ v w, vs = [v, w] ∧ D.nx ((σ.set i (some v)).set j (some w)) H1
/-- name op= e -/
def tAug (i : Nat) (te : TE) (ti : TIp) : TS := fun D σ H => ∃ x, σ[i]? = some (some x) ∧ te σ H fun y H1 => ti x y H1 fun z H2 => D.nx (σ.set i (some z)) H2
/-- o[i] op= e -/
def tAugS (to ti te : TE) (tget : V → V → Hp → VK → Prop) (tip : TIp) (tset : TSet) : TS := fun D σ H => to σ H fun o H1 => ti σ H1 fun i H2 => tget o i H2 fun x H3 => te σ H3 fun y H4 => tip x y H4 fun z H5 => tset o i z H5 fun H6 => D.nx σ H6
/-- o[i], by values -/
def PGet (X : Cx) (t : V → V → Hp → VK → Prop) : Prop :=
  ∀ (pins : List (Addr × Obj)) (s : Shared) (σ : St) (H : Hp) (o i : V) (ov iv : Value) (Q : VK), Inv X pins σ H s → RelV o ov → RelV i iv → t o i H Q →
    wpAny (model X.prog X.w) X.A (getItem ov iv) (EP X pins σ Q) X.xe s
/-- ints -/
def ipI (f : Int → Int → Int) : TIp := fun x y H Q => ∃ i j, x = .int i ∧ y = .int j ∧ Q (.int (f i j)) H
end

/-! ### while -/
section
variable {X : Cx} {pos : Pos}
/-- the invariant W with its measure -/
def tWhile (c : TT) (tb : TS) : TS := fun D σ H => ∃ W : Nat → St → Hp → Prop, (∃ m, W m σ H) ∧ ∀ m σ H, W m σ H →
  c σ H fun b H1 => if b = true then ∃ N : St → Hp → Prop, (∀ σ' H', N σ' H' → ∃ m', m' < m ∧ W m' σ' H') ∧ tb { D with nx := N, ct := N, bk := D.nx } σ H1 else D.nx σ H1
theorem ps_while {c : Expr} {body : List Stmt} {tc : TT} {tb : TS} (hp : PassesOwn (model X.prog X.w) X.A X.env X.xe) (hc : PT X c tc) (hb : PSs X body tb) : PS X (.While c body [] pos) (tWhile tc tb) := by
  intro pins s σ H D I h
  obtain ⟨W, ⟨m0, w0⟩, turn⟩ := h
  refine wpAny_While (codeAny_whileLoop (fun n s' => ∃ σ' H', Inv X pins σ' H' s' ∧ W n σ' H') ?_ m0 ⟨σ, H, I, w0⟩)
  rintro n s1 ⟨σ1, H1, I1, w1⟩
  refine wpAny_passesOwn hp (thn (hc pins s1 σ1 H1 _ I1 (turn n σ1 H1 w1)) fun b s2 ⟨H2, I2, q2⟩ => ?_)
  cases b with
  | true =>
    obtain ⟨N, hN, q2⟩ := q2
    rw [if_pos rfl]
    refine wpAny_passesOwn hp (thn (hb pins s2 σ1 H2 _ I2 q2) fun f s3 q3 => ?_)
    cases f with
    | next =>
      obtain ⟨σ3, H3, I3, n3⟩ := q3
      obtain ⟨m', hm, w3⟩ := hN σ3 H3 n3
      exact ⟨m', hm, σ3, H3, I3, w3⟩
    | cont =>
      obtain ⟨σ3, H3, I3, n3⟩ := q3
      obtain ⟨m', hm, w3⟩ := hN σ3 H3 n3
      exact ⟨m', hm, σ3, H3, I3, w3⟩
    | brk => exact q3
    | ret v => exact q3
  | false =>
    rw [if_neg Bool.false_ne_true]
    exact wpAny_execs_nil ⟨σ1, H2, I2, q2⟩
end

/-! ### what a loop or a comprehension walks -/
/-- at turn i: it yields x (the heap may grow), or it stops -/
structure It where
  go : Nat → Hp → Prop
  yld : Nat → Hp → V → Hp → Prop
  stop : Nat → Hp → Prop
/-- the iterator's own objects may turn: they are not the frame's, not pinned, younger than the entry (or a comprehension's own) -/
def FpOk (X : Cx) (pins : List (Addr × Obj)) (H : Hp) (b : Addr) : Prop :=
  H b = none ∧ b ≠ X.env.locals ∧ b ∉ X.fs ∧ (b ∈ X.ex ∨ X.s₀.heap.objs.size ≤ b) ∧ (∀ x c, X.env.cells.lookup x = some c → c ≠ b) ∧ ∀ p ∈ X.pn ++ pins, p.1 ≠ b
theorem Inv.fpOk {X : Cx} {pins : List (Addr × Obj)} {σ : St} {H H' : Hp} {s : Shared} {b : Addr} (I : Inv X pins σ H s) (hb : s.heap.objs.size ≤ b) (hn : H' b = none) : FpOk X pins H' b := by
  refine ⟨hn, Nat.ne_of_gt (Nat.lt_of_lt_of_le I.lt hb), I.nofs hb, .inr (Nat.le_trans I.sz hb), fun x c e z => ?_, fun p hp z => ?_⟩
  · obtain ⟨v, q⟩ := I.cell x c e
    exact absurd (Nat.lt_of_lt_of_le q.lt (by rw [z]; exact hb)) (Nat.lt_irrefl _)
  · exact absurd (Nat.lt_of_lt_of_le (Heap.lt_size (I.pin p hp).1) (by rw [z]; exact hb)) (Nat.lt_irrefl _)
structure Turn (P : Program) (w : World) (K : PySem.W.Frag) (tg : Expr) (J : It) (fp : List Addr) (it : Addr) (tn : Nat → Heap → Prop) : Prop where
  mem : it ∈ fp
  obj : ∀ i h, tn i h → ∀ b ∈ fp, ∃ o, h.get? b = some o ∧ ∀ v, o.data ≠ .cell v
  keep : ∀ i h h', tn i h → (∀ b ∈ fp, ∀ o, h.get? b = some o → h'.get? b = some o) → tn i h'
  item : ∀ (X : Cx), X.prog = P → X.w = w → X.K = K → X.calm = true → ∀ (i : Nat) (pins : List (Addr × Obj)) (s : Shared) (σ : St) (H : Hp) (E : Value → Shared → Prop), Inv X pins σ H s → (∀ b ∈ fp, FpOk X pins H b) → tn i s.heap → J.go i H →
    wpAny (model P w) X.A (pyNext (.ref it)) (fun r s1 => ∃ u, r = some u ∧
      wpAny (model P w) X.A (letOwnedTupleGo tg (.ref it) u) (fun _ s2 => ∃ x H', Inv X pins σ H' s2 ∧ RelV x u ∧ J.yld i H x H' ∧ tn (i + 1) s2.heap ∧ ∀ b ∈ fp, H' b = none) E s1) E s
  done : ∀ (X : Cx), X.prog = P → X.w = w → X.K = K → X.calm = true → ∀ (i : Nat) (pins : List (Addr × Obj)) (s : Shared) (σ : St) (H : Hp) (E : Value → Shared → Prop), Inv X pins σ H s → (∀ b ∈ fp, FpOk X pins H b) → tn i s.heap → J.stop i H →
    wpAny (model P w) X.A (pyNext (.ref it)) (fun r s1 => r = none ∧ Inv X pins σ H s1) E s
  self : ∀ (A : Around) (i : Nat) (s : Shared) (Q : Value → Shared → Prop) (E : Value → Shared → Prop), tn i s.heap → Q (.ref it) s → wpAny (model P w) A (pyIter (.ref it)) Q E s
abbrev TI := St → Hp → (It → Hp → Prop) → Prop
/-- an iterator has come -/
def PIE (X : Cx) (pins : List (Addr × Obj)) (σ : St) (tg : Expr) (R : It → Hp → Prop) (itv : Value) (s2 : Shared) : Prop :=
  ∃ (it : Addr) (fp : List Addr) (tn : Nat → Heap → Prop) (J : It) (H' : Hp), itv = .ref it ∧ Inv X pins σ H' s2 ∧ Turn X.prog X.w X.K tg J fp it tn ∧ tn 0 s2.heap ∧ (∀ b ∈ fp, FpOk X pins H' b) ∧ R J H'
def PI (X : Cx) (tg iter : Expr) (wi : TI) : Prop :=
  ∀ (pins : List (Addr × Obj)) (s : Shared) (σ : St) (H : Hp) (R : It → Hp → Prop), Inv X pins σ H s → wi σ H R →
    wpAny (model X.prog X.w) X.A (eval iter X.env) (fun v s1 => wpAny (model X.prog X.w) X.A (pyIter v) (PIE X pins σ tg R) X.xe s1) X.xe s

/-- the step ahead of the store is nothing for an iterator that keeps no tuple -/
theorem go_of {M : Model} {A : Around} {E : Value → Shared → Prop} {s : Shared} {tg : Expr} {it : Addr} {u : Value} {o : Obj} {n : String} {vs : Array Value} {Q : Unit → Shared → Prop} (ho : s.heap.get? it = some o) (hc : o.cls = .type n) (hd : o.data = .fields vs)
    (hn : ["enumerate", "zip", "dict_itemiterator", "dict_reverseitemiterator", "odict_iterator", "itertools.zip_longest", "itertools.pairwise"].contains n = false) (hQ : Q () s) : wpAny M A (letOwnedTupleGo tg (.ref it) u) Q E s := by
  unfold letOwnedTupleGo
  cases tg <;> first
    | exact wpAny_pure hQ
    | (cases u <;> first
        | exact wpAny_pure hQ
        | (refine wpAny_bind (wpAny_load ho ?_)
           rw [hc, hd]
           show wpAny M A (if (["enumerate", "zip", "dict_itemiterator", "dict_reverseitemiterator", "odict_iterator", "itertools.zip_longest", "itertools.pairwise"].contains n && vs[0]? == some (rawInt _)) = true then _ else _) Q E s
           rw [if_neg (by intro h; rw [hn, Bool.false_and] at h; cases h)]
           exact wpAny_pure hQ))

/-- the list at a, as it stands at each turn (a loop may append to it) -/
def Itl (K : PySem.W.Frag) (a : Addr) : It :=
  ⟨fun i H => ∃ xs x, SqL K H a xs ∧ xs[i]? = some x, fun i H x H' => H' = H ∧ ∀ xs, SqL K H a xs → xs[i]? = some x, fun i H => ∃ xs, SqL K H a xs ∧ xs.length ≤ i⟩
def Itt (K : PySem.W.Frag) (a : Addr) : It :=
  ⟨fun i H => ∃ xs x, SqT K H a xs ∧ xs[i]? = some x, fun i H x H' => H' = H ∧ ∀ xs, SqT K H a xs → xs[i]? = some x, fun i H => ∃ xs, SqT K H a xs ∧ xs.length ≤ i⟩
/-- lo, lo + 1, .. (n of them) -/
def Itr (lo : Int) (n : Nat) : It := ⟨fun i _ => i < n, fun i H x H' => H' = H ∧ x = .int (lo + i), fun i _ => n ≤ i⟩
theorem turn_list {P : Program} {w : World} {K : PySem.W.Frag} {tg : Expr} (a it : Addr) : Turn P w K tg (Itl K a) [it] it (fun i h => h.IsListIter it a i) where
  mem := by simp
  obj := fun i h st b hb => by
    have e : b = it := by simpa using hb
    subst e
    obtain ⟨o, e, c, d⟩ := st
    exact ⟨o, e, fun v z => by rw [d] at z; cases z⟩
  keep := fun i h h' st k => st.at fun o e => k it (by simp) o e
  item := by
    intro X hP hw hK hc i pins s σ H E I hf st hg
    subst hP hw hK
    obtain ⟨xs, x, hq, hx⟩ := hg
    obtain ⟨its, rv, p, hz⟩ := I.list hq
    obtain ⟨u, hu, ru⟩ := rv.get hx
    obtain ⟨f0, f1, f2, f3, f4, f5⟩ := hf it (by simp)
    refine wpAny_pyNext_list_item st p.isList (x := u) (by simpa using hu) fun h' st' sb => ?_
    have I1 : Inv X pins σ H { s with heap := h' } := I.turned (t' := s.toks) (fun b o hb e => (sb.2 b hb).trans e) f0 f1 f3 f4 f5
    obtain ⟨o, e, c, d⟩ := id st'
    exact ⟨u, rfl, go_of (s := { s with heap := h' }) e c d (by decide) ⟨x, H, I1, ru, ⟨rfl, fun ys hy => by rw [I.list_inj hy hq]; exact hx⟩, st', fun b hb => (hf b hb).1⟩⟩
  done := by
    intro X hP hw hK hc i pins s σ H E I hf st hg
    subst hP hw hK
    obtain ⟨xs, hq, hx⟩ := hg
    obtain ⟨its, rv, p, hz⟩ := I.list hq
    obtain ⟨f0, f1, f2, f3, f4, f5⟩ := hf it (by simp)
    have hl := rv.length
    exact wpAny_pyNext_list_end (I.ok.hd hc) st p.isList (by simp; omega) fun h' eb => ⟨rfl, I.turned (t' := s.toks) (fun b o hb e => eb b o hb e) f0 f1 f3 f4 f5⟩
  self := fun _ _ _ _ _ st h => wpAny_pyIter_listiter st h
theorem turn_range {P : Program} {w : World} {K : PySem.W.Frag} {tg : Expr} (it : Addr) (lo : Int) (n : Nat) : Turn P w K tg (Itr lo n) [it] it (fun i h => IsRangeIter h it (lo + (i : Nat) * 1) ((n : Int) - (i : Nat)) 1) where
  mem := by simp
  obj := fun i h st b hb => by
    have e : b = it := by simpa using hb
    subst e
    exact ⟨_, st, fun v z => by
      have z' : Data.fields _ = Data.cell v := z
      cases z'⟩
  keep := fun i h h' st k => k it (by simp) _ st
  item := by
    intro X hP hw hK hc i pins s σ H E I hf st hg
    subst hP hw hK
    obtain ⟨f0, f1, f2, f3, f4, f5⟩ := hf it (by simp)
    have W := Walks.range (prog := X.prog) (w := X.w) (I.ok.hd hc) it lo 1 n
    refine W.item i s _ _ hg st fun v h' tk hv st' kk => ?_
    obtain ⟨t, rfl⟩ := hv
    have I1 : Inv X pins σ H { s with heap := h', toks := tk } := I.turned (fun b o hb e => kk b o (by simpa using hb) e) f0 f1 f3 f4 f5
    refine ⟨_, rfl, go_of (s := { s with heap := h', toks := tk }) (n := "range_iterator") st' rfl rfl (by decide) ⟨.int (lo + i), H, I1, ⟨t, ?_⟩, ⟨rfl, rfl⟩, st', fun b hb => (hf b hb).1⟩⟩
    rw [Int.mul_one]
  done := by
    intro X hP hw hK hc i pins s σ H E I hf st hg
    subst hP hw hK
    obtain ⟨f0, f1, f2, f3, f4, f5⟩ := hf it (by simp)
    exact wpAny_pyNext_range_end (I.ok.hd hc) st (by have : n ≤ i := hg; omega) fun h' eb => ⟨rfl, I.turned (t' := s.toks) (fun b o hb e => eb b o hb e) f0 f1 f3 f4 f5⟩
  self := fun _ _ _ _ _ st h => wpAny_pyIter_rangeiter st h
end L2

namespace L2
open PySem PySem.Spec PyProof.Rows
section
variable {X : Cx} {tg : Expr}
def iList (K : PySem.W.Frag) (tl : TE) : TI := fun σ H R => tl σ H fun x H1 => ∃ a, x = .ref a ∧ (∃ xs, SqL K H1 a xs) ∧ R (Itl K a) H1
def iTup (K : PySem.W.Frag) (tl : TE) : TI := fun σ H R => tl σ H fun x H1 => ∃ a, x = .ref a ∧ (∃ xs, SqT K H1 a xs) ∧ R (Itt K a) H1
theorem pi_list {l : Expr} {tl : TE} (hl : PE X l tl) : PI X tg l (iList X.K tl) := by
  intro pins s σ H R I h
  refine thn (hl pins s σ H _ I h) fun v s1 ⟨x, H1, I1, r1, q1⟩ => ?_
  obtain ⟨a, e, ⟨xs, hq⟩, q⟩ := q1
  subst e
  cases r1
  obtain ⟨its, rv, p, hz⟩ := I1.list hq
  refine wpAny_pyIter_list p.isList ?_
  refine ⟨s1.heap.objs.size, [s1.heap.objs.size], _, _, H1, rfl, I1.kept (t' := s1.toks) fun b o e => Heap.get?_push_of_some _ e, turn_list a _, ⟨_, Heap.get?_push_size _ rfl, rfl, rfl⟩, fun b hb => ?_, q⟩
  have e : b = s1.heap.objs.size := by simpa using hb
  subst e
  exact I1.fpOk (Nat.le_refl _) (I1.hok.fresh (Nat.le_refl _))
/-- a range object just made, walked -/
theorem range_it {pins : List (Addr × Obj)} {σ : St} {H : Hp} {s : Shared} {R : It → Hp → Prop} {E : Value → Shared → Prop} {lo hi : Int} {t u v : Tok} {tk : Nat} (I : Inv X pins σ H s) (h1 : -(2 ^ 62) ≤ lo) (h2 : lo < 2 ^ 62) (h3 : -(2 ^ 62) ≤ hi) (h4 : hi < 2 ^ 62)
    (q : R (Itr lo (hi - lo).toNat) H) : wpAny (model X.prog X.w) X.A (pyIter (.ref s.heap.objs.size)) (PIE X pins σ tg R) E { s with heap := s.heap.push { cls := .type "range", data := .fields #[.int lo t, .int hi u, .int 1 v] }, toks := tk } := by
  refine wpAny_pyIter_range (IsRange.new ..) (small_one h1 h2 h3 h4) ?_
  have I1 : Inv X pins σ H { s with heap := s.heap.push { cls := .type "range", data := .fields #[.int lo t, .int hi u, .int 1 v] }, toks := tk } := I.kept fun b o e => Heap.get?_push_of_some _ e
  refine ⟨(s.heap.push { cls := .type "range", data := .fields #[.int lo t, .int hi u, .int 1 v] }).objs.size, [(s.heap.push { cls := .type "range", data := .fields #[.int lo t, .int hi u, .int 1 v] }).objs.size], _, _, H, rfl,
    I1.kept (t' := tk) fun b o e => Heap.get?_push_of_some _ e, turn_range _ lo (hi - lo).toNat, ?_, fun b hb => ?_, q⟩
  · have e1 : lo + ((0 : Nat) : Int) * 1 = lo := by simp
    have e2 : (((hi - lo).toNat : Nat) : Int) - ((0 : Nat) : Int) = Builtin.Range.rangeSize lo hi 1 := by rw [rangeSize_one]; split <;> omega
    show IsRangeIter _ _ (lo + ((0 : Nat) : Int) * 1) ((((hi - lo).toNat : Nat) : Int) - ((0 : Nat) : Int)) 1
    rw [e1, e2]
    exact Heap.get?_push_size _ rfl
  · have e : b = (s.heap.push { cls := .type "range", data := .fields #[.int lo t, .int hi u, .int 1 v] }).objs.size := by simpa using hb
    subst e
    exact I1.fpOk (Nat.le_refl _) (I1.hok.fresh (Nat.le_refl _))
def iRng1 (ta : TA) : TI := fun σ H R => ta σ H fun vs H1 => ∃ j : Int, vs = [.int j] ∧ -(2 ^ 62) ≤ j ∧ j < 2 ^ 62 ∧ R (Itr 0 j.toNat) H1
def iRng2 (ta : TA) : TI := fun σ H R => ta σ H fun vs H1 => ∃ i j : Int, vs = [.int i, .int j] ∧ (-(2 ^ 62) ≤ i ∧ i < 2 ^ 62 ∧ -(2 ^ 62) ≤ j ∧ j < 2 ^ 62) ∧ R (Itr i (j - i).toNat) H1
theorem pi_range1 {a : Expr} {ta : TA} {p pos : Pos} (hg : Gl X "range") (hm : X.mg "range" = none) (ha : PA X [a] ta) (hs : starEach [a] X.env = [(false, eval a X.env)] := by rfl) : PI X tg (.Call (.Name "range" p) [a] [] pos) (iRng1 ta) := by
  intro pins s σ H R I h
  refine Call_ (ld_blt I hg hm boot_range (PyProof.Rows.callWith_type1 (thn (ha pos pins s σ H _ I h) fun us s1 ⟨vs, H1, I1, r1, q1⟩ => ?_) hs rfl))
  obtain ⟨j, e, q1, q2, q⟩ := q1
  subst e
  cases r1 with
  | cons r rr =>
    cases rr
    obtain ⟨t, rfl⟩ := r
    exact call_range_1 (range_it I1 (by omega) (by omega) q1 q2 (by simpa using q))
/-! ### for -/
/-- W: the invariant by the turn and a measure; N: what the body is to reach -/
def tFor (wi : TI) (g : TG) (tb : TS) : TS := fun D σ H => wi σ H fun J H1 => ∃ W : Nat → Nat → St → Hp → Prop, (∃ m, W 0 m σ H1) ∧ ∀ i m σ H, W i m σ H →
  (J.stop i H ∧ D.nx σ H) ∨ (J.go i H ∧ ∃ N : St → Hp → Prop, (∀ σ' H', N σ' H' → ∃ m', m' < m ∧ W (i + 1) m' σ' H') ∧ ∀ x H', J.yld i H x H' → g x σ H' fun σ2 H2 => tb { D with nx := N, ct := N, bk := D.nx } σ2 H2)
/-- the records at fp as they stand -/
def pinsAt (fp : List Addr) (h : Heap) : List (Addr × Obj) := fp.filterMap fun b => (h.get? b).map fun o => (b, o)
theorem mem_pinsAt {fp : List Addr} {h : Heap} {b : Addr} {o : Obj} (hb : b ∈ fp) (e : h.get? b = some o) : (b, o) ∈ pinsAt fp h := List.mem_filterMap.mpr ⟨b, hb, by rw [e]; rfl⟩
theorem of_pinsAt {fp : List Addr} {h : Heap} {p : Addr × Obj} (hp : p ∈ pinsAt fp h) : p.1 ∈ fp ∧ h.get? p.1 = some p.2 := by
  obtain ⟨b, hb, e⟩ := List.mem_filterMap.mp hp
  cases q : h.get? b with
  | none => rw [q] at e; cases e
  | some o =>
    rw [q] at e
    have e' : (b, o) = p := Option.some.inj e
    subst e'
    exact ⟨hb, q⟩
theorem Inv.pinned {pins : List (Addr × Obj)} {σ : St} {H : Hp} {s : Shared} {fp : List Addr} (I : Inv X pins σ H s) (hf : ∀ b ∈ fp, FpOk X pins H b) (ho : ∀ b ∈ fp, ∃ o, s.heap.get? b = some o ∧ ∀ v, o.data ≠ .cell v) : Inv X (pins ++ pinsAt fp s.heap) σ H s :=
  I.pins_of fun p hp => (List.mem_append.mp hp).elim (fun z => I.pin p (List.mem_append_right _ z)) fun z => by
    obtain ⟨hb, e⟩ := of_pinsAt z
    obtain ⟨f0, f1, f2, _⟩ := hf p.1 hb
    obtain ⟨o, e', d⟩ := ho p.1 hb
    rw [e] at e'; cases e'
    exact ⟨e, f0, f1, f2, d⟩
theorem Inv.unpinned {pins pl : List (Addr × Obj)} {σ : St} {H : Hp} {s : Shared} (I : Inv X (pins ++ pl) σ H s) : Inv X pins σ H s := I.pins_of fun p hp => I.pin p (List.mem_append_right _ (List.mem_append_left _ hp))
theorem ps_for {iter : Expr} {body : List Stmt} {wi : TI} {g : TG} {tb : TS} {pos : Pos} (hp : PassesOwn (model X.prog X.w) X.A X.env X.xe) (hc : X.calm = true) (hi : PI X tg iter wi) (hg : PG X tg g) (hb : PSs X body tb)
    (hs : ∀ x, foldedSetIterable iter X.env x = pure x := by intro _; rfl) : PS X (.For tg iter body [] pos) (tFor wi g tb) := by
  intro pins s σ H D I h
  refine wpAny_For (thn (hi pins s σ H _ I h) fun v s1 h1 => thn h1 fun itv s2 h2 => ?_) hs
  obtain ⟨it, fp, tn, J, H2, e, I2, T, st2, f2, W, ⟨m0, w0⟩, turn⟩ := h2
  subst e
  -- what stays true of the iterator's objects through the loop
  have stat : ∀ {H' : Hp}, (∀ b ∈ fp, H' b = none) → ∀ b ∈ fp, FpOk X pins H' b := fun hn b hb => ⟨hn b hb, (f2 b hb).2⟩
  refine codeAny_forLoop_any (fun n s' => ∃ i σ' H', Inv X pins σ' H' s' ∧ tn i s'.heap ∧ (∀ b ∈ fp, H' b = none) ∧ W i n σ' H') ?_ m0 ⟨0, σ, H2, I2, st2, fun b hb => (f2 b hb).1, w0⟩
  rintro n s3 ⟨i, σ3, H3, I3, st3, fr3, w3⟩
  rcases turn i n σ3 H3 w3 with ⟨stop, qn⟩ | ⟨go, N, hN, step⟩
  · refine wpAny_passesOwn hp (thn (T.done X rfl rfl rfl hc i pins s3 σ3 H3 X.xe I3 (stat fr3) st3 stop) fun r s4 ⟨hr, I4⟩ => ?_)
    subst hr
    exact wpAny_execs_nil ⟨σ3, H3, I4, qn⟩
  · refine wpAny_passesOwn hp (thn (T.item X rfl rfl rfl hc i pins s3 σ3 H3 X.xe I3 (stat fr3) st3 go) fun r s4 ⟨u, hr, h4⟩ => ?_)
    subst hr
    refine wpAny_passesOwn hp (thn h4 fun _ s5 ⟨x, H5, I5, r5, y5, st5, fr5⟩ => ?_)
    have I5' := I5.pinned (stat fr5) (T.obj _ _ st5)
    refine wpAny_passesOwn hp (thn (hg _ s5 σ3 H5 x u _ I5' r5 (step x H5 y5)) fun _ s6 ⟨σ6, H6, I6, q6⟩ => ?_)
    refine wpAny_passesOwn hp (thn (hb _ s6 σ6 H6 _ I6 q6) fun f s7 q7 => ?_)
    have again : ∀ {σ7 : St} {H7 : Hp}, Inv X (pins ++ pinsAt fp s5.heap) σ7 H7 s7 → N σ7 H7 → ∃ m, m < n ∧ ∃ i σ' H', Inv X pins σ' H' s7 ∧ tn i s7.heap ∧ (∀ b ∈ fp, H' b = none) ∧ W i m σ' H' := fun {σ7 H7} I7 n7 => by
      obtain ⟨m', hm, w7⟩ := hN σ7 H7 n7
      refine ⟨m', hm, i + 1, σ7, H7, I7.unpinned, T.keep _ _ _ st5 fun b hb o e => (I7.pin (b, o) (List.mem_append_right _ (List.mem_append_right _ (mem_pinsAt hb e)))).1, fun b hb => ?_, w7⟩
      obtain ⟨o, e, d⟩ := T.obj _ _ st5 b hb
      exact (I7.pin (b, o) (List.mem_append_right _ (List.mem_append_right _ (mem_pinsAt hb e)))).2.1
    cases f with
    | next => obtain ⟨σ7, H7, I7, n7⟩ := q7; exact again I7 n7
    | cont => obtain ⟨σ7, H7, I7, n7⟩ := q7; exact again I7 n7
    | brk => obtain ⟨σ7, H7, I7, q7⟩ := q7; exact ⟨σ7, H7, I7.unpinned, q7⟩
    | ret v => obtain ⟨x7, σ7, H7, I7, r7, q7⟩ := q7; exact ⟨x7, σ7, H7, I7.unpinned, r7, q7⟩
end

/-! ### the forms one uses -/
theorem for_range {lo : Int} {n : Nat} {g : TG} {tb : TS} {D : Ends} {σ : St} {H : Hp} (Pv : Nat → St → Hp → Prop) (h0 : Pv 0 σ H)
    (hs : ∀ i σ H, i < n → Pv i σ H → g (.int (lo + i)) σ H fun σ2 H2 => tb { D with nx := Pv (i + 1), ct := Pv (i + 1), bk := D.nx } σ2 H2) (hd : ∀ σ H, Pv n σ H → D.nx σ H) :
    ∃ W : Nat → Nat → St → Hp → Prop, (∃ m, W 0 m σ H) ∧ ∀ i m σ H, W i m σ H →
      ((Itr lo n).stop i H ∧ D.nx σ H) ∨ ((Itr lo n).go i H ∧ ∃ N : St → Hp → Prop, (∀ σ' H', N σ' H' → ∃ m', m' < m ∧ W (i + 1) m' σ' H') ∧ ∀ x H', (Itr lo n).yld i H x H' → g x σ H' fun σ2 H2 => tb { D with nx := N, ct := N, bk := D.nx } σ2 H2) := by
  refine ⟨fun i m σ H => m = n - i ∧ i ≤ n ∧ Pv i σ H, ⟨n, by simp, Nat.zero_le _, h0⟩, ?_⟩
  rintro i m σ H ⟨rfl, hi, p⟩
  by_cases hlt : i < n
  · refine .inr ⟨hlt, Pv (i + 1), fun σ' H' p' => ⟨n - (i + 1), by omega, rfl, hlt, p'⟩, fun x H' y => ?_⟩
    obtain ⟨e, y⟩ := y
    subst e y
    exact hs i σ _ hlt p
  · have e : i = n := by omega
    subst e
    exact .inl ⟨Nat.le_refl _, hd σ H p⟩
end L2

namespace L2
open PySem PySem.Spec PyProof.Rows

abbrev R2 := V → V → Hp → VK → Prop
/-- a two-place operation on values: f is binaryOp op, inplaceOp op or compareOp op -/
def OpR (X : Cx) (f : Value → Value → Sem Value) (r : R2) : Prop :=
  ∀ (pins : List (Addr × Obj)) (s : Shared) (σ : St) (H : Hp) (x y : V) (v u : Value) (Q : VK), Inv X pins σ H s → RelV x v → RelV y u → r x y H Q →
    wpAny (model X.prog X.w) X.A (f v u) (EP X pins σ Q) X.xe s
/-- a one-place operation -/
def UnR (X : Cx) (f : Value → Sem Value) (r : V → Hp → VK → Prop) : Prop :=
  ∀ (pins : List (Addr × Obj)) (s : Shared) (σ : St) (H : Hp) (x : V) (v : Value) (Q : VK), Inv X pins σ H s → RelV x v → r x H Q →
    wpAny (model X.prog X.w) X.A (f v) (EP X pins σ Q) X.xe s
/-- a call of a value that is known (a builtin, a type) with values -/
def CallR (X : Cx) (f : Value) (r : List V → Hp → VK → Prop) : Prop :=
  ∀ (pins : List (Addr × Obj)) (s : Shared) (σ : St) (H : Hp) (xs : List V) (us : List Value) (Q : VK), Inv X pins σ H s → Vals xs us → r xs H Q →
    wpAny (model X.prog X.w) X.A (call f us) (EP X pins σ Q) X.xe s
/-- a value's truth -/
def TruR (X : Cx) (r : V → Hp → (Bool → Hp → Prop) → Prop) : Prop :=
  ∀ (pins : List (Addr × Obj)) (s : Shared) (σ : St) (H : Hp) (x : V) (v : Value) (Q : Bool → Hp → Prop), Inv X pins σ H s → RelV x v → r x H Q →
    wpAny (model X.prog X.w) X.A (truthy v) (TP X pins σ Q) X.xe s

def tOp (r : R2) (ta tb : TE) : TE := fun σ H Q => ta σ H fun x H1 => tb σ H1 fun y H2 => r x y H2 Q
def tUn (r : V → Hp → VK → Prop) (ta : TE) : TE := fun σ H Q => ta σ H fun x H1 => r x H1 Q
/-- ints in, under C, and a value out -/
def rI (C : Int → Int → Prop) (g : Int → Int → V) : R2 := fun x y H Q => ∃ i j, x = .int i ∧ y = .int j ∧ C i j ∧ Q (g i j) H
def rI0 (g : Int → Int → V) : R2 := fun x y H Q => ∃ i j, x = .int i ∧ y = .int j ∧ Q (g i j) H
def rU (g : Int → V) : V → Hp → VK → Prop := fun x H Q => ∃ i, x = .int i ∧ Q (g i) H

section
variable {X : Cx} {a b c : Expr} {ta tb tc : TE} {pos : Pos}

theorem binT (ha : PE X a ta) (hb : PE X b tb) {pins : List (Addr × Obj)} {s : Shared} {σ : St} {H : Hp} {R : V → V → Hp → Prop} (I : Inv X pins σ H s)
    (h : ta σ H fun x H1 => tb σ H1 fun y H2 => R x y H2) {Q : Value → Shared → Prop} {f : Value → Value → Sem Value}
    (hf : ∀ v u s2 x y H2, Inv X pins σ H2 s2 → RelV x v → RelV y u → R x y H2 → wpAny (model X.prog X.w) X.A (f v u) Q X.xe s2) :
    wpAny (model X.prog X.w) X.A (eval a X.env) (fun v s₁ => wpAny (model X.prog X.w) X.A (eval b X.env) (fun u s₂ => wpAny (model X.prog X.w) X.A (f v u) Q X.xe s₂) X.xe s₁) X.xe s := by
  refine thn (ha pins s σ H _ I h) fun v s1 ⟨x, H1, I1, r1, q1⟩ => ?_
  refine thn (hb pins s1 σ H1 _ I1 q1) fun u s2 ⟨y, H2, I2, r2, q2⟩ => ?_
  exact hf v u s2 x y H2 I2 r1 r2 q2

theorem pe_op {op : Operator} {r : R2} (ho : OpR X (binaryOp op) r) (ha : PE X a ta) (hb : PE X b tb) : PE X (.BinOp a op b pos) (tOp r ta tb) := by
  intro pins s σ H Q I h
  exact wpAny_BinOp (binT ha hb I h fun v u s2 x y H2 I2 rx ry q => ho pins s2 σ H2 x y v u Q I2 rx ry q)
theorem pe_un {op : UnaryOp} {r : V → Hp → VK → Prop} (ho : UnR X (unaryOp op) r) (ha : PE X a ta) : PE X (.UnaryOp op a pos) (tUn r ta) := by
  intro pins s σ H Q I h
  exact UnaryOp_ (thn (ha pins s σ H _ I h) fun v s1 ⟨x, H1, I1, r1, q1⟩ => ho pins s1 σ H1 x v Q I1 r1 q1)
/-! ### ints -/
theorem opI {f : Value → Value → Sem Value} {C : Int → Int → Prop} {g : Int → Int → Int}
    (rule : ∀ (i j : Int) (t u : Tok) (s : Shared) (Q : Value → Shared → Prop) (E : Value → Shared → Prop), C i j → Q (.int (g i j) s.toks) { s with toks := s.toks + 1 } → wpAny (model X.prog X.w) X.A (f (.int i t) (.int j u)) Q E s) :
    OpR X f (rI C fun i j => .int (g i j)) := by
  intro pins s σ H x y v u Q I rx ry h
  obtain ⟨i, j, rfl, rfl, hc, q⟩ := h
  obtain ⟨t, rfl⟩ := rx
  obtain ⟨t', rfl⟩ := ry
  exact rule i j t t' s _ _ hc ⟨.int (g i j), H, I.tok _, ⟨_, rfl⟩, q⟩
theorem opI0 {f : Value → Value → Sem Value} {g : Int → Int → Int}
    (rule : ∀ (i j : Int) (t u : Tok) (s : Shared) (Q : Value → Shared → Prop) (E : Value → Shared → Prop), Q (.int (g i j) s.toks) { s with toks := s.toks + 1 } → wpAny (model X.prog X.w) X.A (f (.int i t) (.int j u)) Q E s) :
    OpR X f (rI0 fun i j => .int (g i j)) := by
  intro pins s σ H x y v u Q I rx ry h
  obtain ⟨i, j, rfl, rfl, q⟩ := h
  obtain ⟨t, rfl⟩ := rx
  obtain ⟨t', rfl⟩ := ry
  exact rule i j t t' s _ _ ⟨.int (g i j), H, I.tok _, ⟨_, rfl⟩, q⟩
theorem opB0 {f : Value → Value → Sem Value} {g : Int → Int → Bool}
    (rule : ∀ (i j : Int) (t u : Tok) (s : Shared) (Q : Value → Shared → Prop) (E : Value → Shared → Prop), Q (.bool (g i j)) s → wpAny (model X.prog X.w) X.A (f (.int i t) (.int j u)) Q E s) :
    OpR X f (rI0 fun i j => .bl (g i j)) := by
  intro pins s σ H x y v u Q I rx ry h
  obtain ⟨i, j, rfl, rfl, q⟩ := h
  obtain ⟨t, rfl⟩ := rx
  obtain ⟨t', rfl⟩ := ry
  exact rule i j t t' s _ _ ⟨.bl (g i j), H, I, rfl, q⟩

def CDiv (i j : Int) : Prop := 0 < j ∧ j < 1073741824
def CDivN (i j : Int) : Prop := j ≠ 0 ∧ j.natAbs < 1073741824
def CPow (i j : Int) : Prop := 0 ≤ j ∧ j ≤ 1000000 ∧ i.natAbs < 2 ^ 64
def CMul (i j : Int) : Prop := (-(2 ^ 64) < i ∧ i < 2 ^ 64) ∨ (-(2 ^ 64) < j ∧ j < 2 ^ 64)
theorem CMul.ok {i j : Int} (h : CMul i j) : IntMulOk i j := by
  rcases h with ⟨h1, h2⟩ | ⟨h1, h2⟩
  · exact .of_left (intBits_le_64 h1 h2)
  · exact .of_right (intBits_le_64 h1 h2)
theorem op_add : OpR X (binaryOp .Add) (rI0 fun i j => .int (i + j)) := opI0 fun _ _ _ _ _ _ _ q => add_int q
theorem op_sub : OpR X (binaryOp .Sub) (rI0 fun i j => .int (i - j)) := opI0 fun _ _ _ _ _ _ _ q => sub_int q
theorem op_mul : OpR X (binaryOp .Mult) (rI CMul fun i j => .int (i * j)) := opI fun _ _ _ _ _ _ _ hc q => mul_int q hc.ok
/-- % by a positive divisor of any size -/
theorem op_mod : OpR X (binaryOp .Mod) (rI (fun _ j => 0 < j) fun i j => .int (i % j)) := opI fun i j _ _ _ _ _ hc q => by
  have h1 : (0 : Int) < j := hc
  exact mod_int' (by omega) (by rw [Int.fmod_eq_emod_of_nonneg i (by omega)]; exact q)
theorem op_pow : OpR X (binaryOp .Pow) (rI CPow fun i j => .int (i ^ j.toNat)) := opI fun _ _ _ _ _ _ _ hc q => pow_int_small hc.1 hc.2.1 hc.2.2 q
theorem unI {f : Value → Sem Value} {g : Int → Int}
    (rule : ∀ (i : Int) (t : Tok) (s : Shared) (Q : Value → Shared → Prop) (E : Value → Shared → Prop), Q (.int (g i) s.toks) { s with toks := s.toks + 1 } → wpAny (model X.prog X.w) X.A (f (.int i t)) Q E s) :
    UnR X f (rU fun i => .int (g i)) := by
  intro pins s σ H x v Q I rx h
  obtain ⟨i, rfl, q⟩ := h
  obtain ⟨t, rfl⟩ := rx
  exact rule i t s _ _ ⟨.int (g i), H, I.tok _, ⟨_, rfl⟩, q⟩
theorem un_neg : UnR X (unaryOp .USub) (rU fun i => .int (-i)) := unI fun _ _ _ _ _ q => neg_int q
/-! ### bools among ints: n += (a < b) -/
end

/-! ### comparisons -/
/-- the scalars that == tells apart as data does -/
def scal : V → V → Bool
  | .non, .non => true | .non, .int _ => true | .int _, .non => true | .non, .bl _ => true | .bl _, .non => true | .non, .str _ => true | .str _, .non => true
  | .int _, .int _ => true | .bl _, .bl _ => true | .str _, .str _ => true | .byt _, .byt _ => true
  | .int _, .str _ => true | .str _, .int _ => true | .bl _, .str _ => true | .str _, .bl _ => true
  | _, _ => false
def rEq : R2 := fun x y H Q => scal x y = true ∧ Q (.bl (decide (x = y))) H
def rNe : R2 := fun x y H Q => scal x y = true ∧ Q (.bl (!decide (x = y))) H

theorem dec_int {i j : Int} : decide (V.int i = V.int j) = (i == j) := by
  rw [Bool.eq_iff_iff]
  simp
theorem dec_bl {i j : Bool} : decide (V.bl i = V.bl j) = (i == j) := by
  rw [Bool.eq_iff_iff]
  simp
theorem dec_str {i j : Str} : decide (V.str i = V.str j) = (i == j) := by
  rw [Bool.eq_iff_iff]
  simp
theorem dec_byt {i j : Array UInt8} : decide (V.byt i = V.byt j) = (i.toList == j.toList) := by
  rw [Bool.eq_iff_iff]
  cases i
  cases j
  simp

section
variable {X : Cx} {a b c : Expr} {ta tb tc : TE} {pos : Pos}
theorem fin_bl {pins : List (Addr × Obj)} {σ : St} {H : Hp} {s : Shared} {Q : VK} {k k' : Bool} (I : Inv X pins σ H s) (q : Q (.bl k) H) (e : k = k') : EP X pins σ Q (.bool k') s := by
  subst e
  exact ⟨.bl k, H, I, rfl, q⟩
theorem op_eq : OpR X (compareOp .Eq) rEq := by
  intro pins s σ H x y v u Q I rx ry h
  obtain ⟨hs, q⟩ := h
  cases x with
  | non =>
    cases rx
    cases y with
    | non => cases ry; exact PySem.EqNone.eq_none_none (fin_bl I q (by simp))
    | bl j => cases ry; exact PySem.EqNone.eq_none_bool (fin_bl I q (by simp))
    | int j => obtain ⟨t', rfl⟩ := ry; exact PySem.EqNone.eq_none_int (fin_bl I q (by simp))
    | str j => obtain ⟨t', rfl⟩ := ry; exact PySem.EqNone.eq_none_str (fin_bl I q (by simp))
    | _ => exact absurd (show false = true from hs) Bool.false_ne_true
  | bl i =>
    cases rx
    cases y with
    | non => cases ry; exact PySem.EqNone.eq_bool_none (fin_bl I q (by simp))
    | bl j => cases ry; exact eq_bool (fin_bl I q dec_bl)
    | str j => obtain ⟨t', rfl⟩ := ry; exact PySem.EqMixed.eq_bool_str (fin_bl I q (by simp))
    | _ => exact absurd (show false = true from hs) Bool.false_ne_true
  | int i =>
    obtain ⟨t, rfl⟩ := rx
    cases y with
    | non => cases ry; exact PySem.EqNone.eq_int_none (fin_bl I q (by simp))
    | int j => obtain ⟨t', rfl⟩ := ry; exact eq_int (fin_bl I q dec_int)
    | str j => obtain ⟨t', rfl⟩ := ry; exact PySem.EqMixed.eq_int_str (fin_bl I q (by simp))
    | _ => exact absurd (show false = true from hs) Bool.false_ne_true
  | str i =>
    obtain ⟨t, rfl⟩ := rx
    cases y with
    | non => cases ry; exact PySem.EqNone.eq_str_none (fin_bl I q (by simp))
    | bl j => cases ry; exact PySem.EqMixed.eq_str_bool (fin_bl I q (by simp))
    | int j => obtain ⟨t', rfl⟩ := ry; exact PySem.EqMixed.eq_str_int (fin_bl I q (by simp))
    | str j => obtain ⟨t', rfl⟩ := ry; exact eq_str (fin_bl I q dec_str)
    | _ => exact absurd (show false = true from hs) Bool.false_ne_true
  | byt i =>
    obtain ⟨t, rfl⟩ := rx
    cases y with
    | byt j => obtain ⟨t', rfl⟩ := ry; exact PySem.W.eq_bytes (fin_bl I q dec_byt)
    | _ => exact absurd (show false = true from hs) Bool.false_ne_true
  | _ => cases y <;> exact absurd (show false = true from hs) Bool.false_ne_true
theorem op_ne : OpR X (compareOp .NotEq) rNe := by
  intro pins s σ H x y v u Q I rx ry h
  obtain ⟨hs, q⟩ := h
  cases x with
  | non =>
    cases rx
    cases y with
    | non => cases ry; exact PySem.EqNone.ne_none_none (fin_bl I q (by simp))
    | bl j => cases ry; exact PySem.EqNone.ne_none_bool (fin_bl I q (by simp))
    | int j => obtain ⟨t', rfl⟩ := ry; exact PySem.EqNone.ne_none_int (fin_bl I q (by simp))
    | str j => obtain ⟨t', rfl⟩ := ry; exact PySem.EqNone.ne_none_str (fin_bl I q (by simp))
    | _ => exact absurd (show false = true from hs) Bool.false_ne_true
  | bl i =>
    cases rx
    cases y with
    | non => cases ry; exact PySem.EqNone.ne_bool_none (fin_bl I q (by simp))
    | bl j => cases ry; exact ne_bool (fin_bl I q (congrArg not dec_bl))
    | str j => obtain ⟨t', rfl⟩ := ry; exact PySem.EqMixed.ne_bool_str (fin_bl I q (by simp))
    | _ => exact absurd (show false = true from hs) Bool.false_ne_true
  | int i =>
    obtain ⟨t, rfl⟩ := rx
    cases y with
    | non => cases ry; exact PySem.EqNone.ne_int_none (fin_bl I q (by simp))
    | int j => obtain ⟨t', rfl⟩ := ry; exact ne_int (fin_bl I q (congrArg not dec_int))
    | str j => obtain ⟨t', rfl⟩ := ry; exact PySem.EqMixed.ne_int_str (fin_bl I q (by simp))
    | _ => exact absurd (show false = true from hs) Bool.false_ne_true
  | str i =>
    obtain ⟨t, rfl⟩ := rx
    cases y with
    | non => cases ry; exact PySem.EqNone.ne_str_none (fin_bl I q (by simp))
    | bl j => cases ry; exact PySem.EqMixed.ne_str_bool (fin_bl I q (by simp))
    | int j => obtain ⟨t', rfl⟩ := ry; exact PySem.EqMixed.ne_str_int (fin_bl I q (by simp))
    | str j => obtain ⟨t', rfl⟩ := ry; exact ne_str (fin_bl I q (congrArg not dec_str))
    | _ => exact absurd (show false = true from hs) Bool.false_ne_true
  | byt i =>
    obtain ⟨t, rfl⟩ := rx
    cases y with
    | byt j => obtain ⟨t', rfl⟩ := ry; exact PySem.W.ne_bytes (fin_bl I q (congrArg not dec_byt))
    | _ => exact absurd (show false = true from hs) Bool.false_ne_true
  | _ => cases y <;> exact absurd (show false = true from hs) Bool.false_ne_true

theorem op_lt : OpR X (compareOp .Lt) (rI0 fun i j => .bl (decide (i < j))) := opB0 fun _ _ _ _ _ _ _ q => lt_int q
theorem op_le : OpR X (compareOp .LtE) (rI0 fun i j => .bl (decide (i ≤ j))) := opB0 fun _ _ _ _ _ _ _ q => le_int q
theorem op_gt : OpR X (compareOp .Gt) (rI0 fun i j => .bl (decide (j < i))) := opB0 fun _ _ _ _ _ _ _ q => gt_int q
theorem op_ge : OpR X (compareOp .GtE) (rI0 fun i j => .bl (decide (j ≤ i))) := opB0 fun _ _ _ _ _ _ _ q => ge_int q
/-- the one string within the other -/
theorem op_in_str : OpR X (compareOp .In) (fun x y H Q => ∃ i j, x = .str i ∧ y = .str j ∧ Q (.bl (!(Builtin.Str.occurrences j i 0 j.length 1).isEmpty)) H) := by
  intro pins s σ H x y v u Q I rx ry h
  obtain ⟨i, j, rfl, rfl, q⟩ := h
  obtain ⟨t, rfl⟩ := rx
  obtain ⟨t', rfl⟩ := ry
  exact in_str (fin_bl I q rfl)

/-- is, is not of two objects that are tracked lists or instances -/
def isObj : HO → Bool
  | .lst _ => true
  | .ins _ _ _ => true
  | _ => false
theorem nomark (b : Expr) {op : CmpOp} (h : op ≠ .In := by decide) (h2 : op ≠ .NotIn := by decide) : behindInMarks op b = false := by
  have e1 : (op == CmpOp.In) = false := by cases op <;> first | rfl | exact absurd rfl h
  have e2 : (op == CmpOp.NotIn) = false := by cases op <;> first | rfl | exact absurd rfl h2
  cases b <;> simp [behindInMarks, e1, e2]
/-- a comparison as a value; hm: nomark b, or (for in, not in) by with_unfolding_all rfl -/
theorem pe_cmpR {op : CmpOp} {r : R2} (ho : OpR X (compareOp op) r) (ha : PE X a ta) (hb : PE X b tb) (hm : behindInMarks op b = false) : PE X (.Compare a [op] [b] pos) (tOp r ta tb) := by
  intro pins s σ H Q I h
  exact wpAny_Compare1 (binT ha hb I h fun v u s2 x y H2 I2 rx ry q => ho pins s2 σ H2 x y v u Q I2 rx ry q) hm
/-- a reading of a value as a test -/
def tTest (t : TE) : TT := fun σ H Q => t σ H fun x H' => ∃ k, x = .bl k ∧ Q k H'
theorem pt_cmpR {op : CmpOp} {r : R2} (ho : OpR X (compareOp op) r) (ha : PE X a ta) (hb : PE X b tb) (hm : behindInMarks op b = false) : PT X (.Compare a [op] [b] pos) (tTest (tOp r ta tb)) := by
  intro pins s σ H Q I h
  refine wpAny_isTrue_Compare1 (thn (ha pins s σ H _ I h) fun v s1 ⟨x, H1, I1, r1, q1⟩ => thn (hb pins s1 σ H1 _ I1 q1) fun u s2 ⟨y, H2, I2, r2, q2⟩ =>
    thn (ho pins s2 σ H2 x y v u _ I2 r1 r2 q2) fun c s3 ⟨z, H3, I3, r3, k, e, q3⟩ => ?_) hm
  subst e
  cases r3
  exact wpAny_truthy_bool ⟨H3, I3, q3⟩
/-- a op1 b op2 c -/
def tChain (r r' : R2) (ta tb tc : TE) : TE := fun σ H Q => ta σ H fun x H1 => tb σ H1 fun y H2 => r x y H2 fun z H3 => ∃ k, z = .bl k ∧
  (if k = true then tc σ H3 fun w' H4 => r' y w' H4 Q else Q (.bl false) H3)
theorem pt_chain {op op' : CmpOp} {r r' : R2} (ho : OpR X (compareOp op) r) (ho' : OpR X (compareOp op') r') (ha : PE X a ta) (hb : PE X b tb) (hc : PE X c tc)
    (hm : lastMarks [op, op'] [b, c] = false := by with_unfolding_all rfl) : PT X (.Compare a [op, op'] [b, c] pos) (tTest (tChain r r' ta tb tc)) := by
  intro pins s σ H Q I h
  refine isTrue_chain (thn (ha pins s σ H _ I h) fun v s1 ⟨x, H1, I1, r1, q1⟩ => test_link (thn (hb pins s1 σ H1 _ I1 q1) fun u s2 ⟨y, H2, I2, r2, q2⟩ =>
    thn (ho pins s2 σ H2 x y v u _ I2 r1 r2 q2) fun d s3 ⟨z, H3, I3, r3, k, e, q3⟩ => ?_)) hm
  subst e
  cases r3
  refine wpAny_truthy_bool ?_
  cases k with
  | false =>
    obtain ⟨k', e', q'⟩ := q3
    cases e'
    exact ite_ff ⟨H3, I3, q'⟩
  | true =>
    refine ite_tt (test_last (thn (hc pins s3 σ H3 _ I3 q3) fun w' s4 ⟨z', H4, I4, r4, q4⟩ => thn (ho' pins s4 σ H4 y z' u w' _ I4 r2 r4 q4) fun d' s5 ⟨z2, H5, I5, r5, k2, e2, q5⟩ => ?_))
    subst e2
    cases r5
    exact wpAny_truthy_bool ⟨H5, I5, q5⟩

/-! ### truth -/
/-- a value's truth by the abstract heap -/
def TruV (K : PySem.W.Frag) (x : V) (H : Hp) (k : Bool) : Prop :=
  match x with
  | .non => k = false
  | .bl b => k = b
  | .int i => k = (i != 0)
  | .str y => y.length ≤ sizeLine ∧ k = ((y.length : Int) != 0)
  | .byt y => y.size ≤ sizeLine ∧ k = ((y.size : Int) != 0)
  | .ref p => (∃ xs, SqL K H p xs ∧ k = !xs.isEmpty) ∨ (∃ xs, SqT K H p xs ∧ k = !xs.isEmpty) ∨ ∃ kvs, H p = some (.dK kvs) ∧ k = !kvs.isEmpty
  | _ => False
theorem line63 : (sizeLine : Nat) < 2 ^ 63 := by rw [sizeLine_eq]; decide
/-! ### strs and bytes -/
theorem op_add_str : OpR X (binaryOp .Add) (fun x y H Q => ∃ i j, x = .str i ∧ y = .str j ∧ i.length + j.length ≤ sizeLine ∧ Q (.str (i ++ j)) H) := by
  intro pins s σ H x y v u Q I rx ry h
  obtain ⟨i, j, rfl, rfl, hz, q⟩ := h
  obtain ⟨t, rfl⟩ := rx
  obtain ⟨t', rfl⟩ := ry
  exact add_str (fun t' tk => ⟨.str (i ++ j), H, I.tok _, ⟨_, rfl⟩, q⟩) hz
def PlainIxT (b : Expr) : Prop := ∀ o i, subscripted b false o i = operate [o, i] (getItem o i)
/-! ### scalar builtins, by CallR -/
theorem vals1 {x : V} {us : List Value} (r : Vals [x] us) : ∃ u, us = [u] ∧ RelV x u := by
  cases r with
  | cons r1 r2 => cases r2; exact ⟨_, rfl, r1⟩
theorem vals2 {x y : V} {us : List Value} (r : Vals [x, y] us) : ∃ u w', us = [u, w'] ∧ RelV x u ∧ RelV y w' := by
  cases r with
  | cons r1 r2 =>
    cases r2 with
    | cons r3 r4 => cases r4; exact ⟨_, _, rfl, r1, r3⟩
theorem call_str_int : CallR X (.type "str") (fun xs H Q => ∃ i, xs = [.int i] ∧ i.natAbs.log2 < 1920 ∧ Q (.str (toString i)) H) := by
  intro pins s σ H xs us Q I r h
  obtain ⟨i, rfl, hz, q⟩ := h
  obtain ⟨u, rfl, t, rfl⟩ := vals1 r
  exact PySem.P.str_of_int hz ⟨.str _, H, I.tok _, ⟨_, rfl⟩, q⟩
/-- len of a str, a bytes, a list, a tuple -/
def LenV (K : PySem.W.Frag) (x : V) (H : Hp) (n : Nat) : Prop :=
  match x with
  | .str y => y.length ≤ sizeLine ∧ n = y.length
  | .byt y => y.size ≤ sizeLine ∧ n = y.size
  | .ref p => (∃ xs, SqL K H p xs ∧ n = xs.length) ∨ ∃ xs, SqT K H p xs ∧ n = xs.length
  | _ => False
end
end L2

namespace L2
open PySem PySem.Spec PyProof.Rows

/-! ### an instance, its attributes a map -/
structure ObjM (h : Heap) (x dx C : Addr) (mA : Str → Option Value) : Prop where
  obj : h.get? x = some (PySem.W.instObj C dx)
  ns : h.Ns1 dx mA
  ne : dx ≠ x

theorem lookIn_ns {h : Heap} {dx : Addr} {mA : Str → Option Value} (n : h.Ns1 dx mA) : ∃ od, h.get? dx = some od ∧ ∀ name, PySem.W.lookIn name od = some (mA name) := by
  obtain ⟨o, es, ep, ho, hd, hk, _, hm⟩ := n
  refine ⟨o, ho, fun name => ?_⟩
  have e := hm name
  unfold nsFind findBy at e
  rw [← Array.find?_toList] at e
  unfold PySem.W.lookIn
  rw [hd]
  dsimp only
  split
  · rename_i y q
    rw [q] at e
    exact congrArg some e
  · rename_i q
    rw [q] at e
    have a : es.toList.any (·.refKey) = false := by
      rw [List.any_eq_false]
      intro y hy
      obtain ⟨z, t, hkey⟩ := hk y (Array.mem_toList_iff.mp hy)
      simp [DictEntry.refKey, hkey]
    have a' : ¬ es.toList.any (·.refKey) = true := by rw [a]; exact Bool.false_ne_true
    rw [if_neg a']
    exact congrArg some e

theorem ObjM.look {h : Heap} {x dx C : Addr} {mA : Str → Option Value} (I : ObjM h x dx C mA) : ∃ od, PySem.W.InstAt h x (PySem.W.instObj C dx) C (some od) ∧ ∀ name, PySem.W.lookIn name od = some (mA name) :=
  let ⟨od, ho, hl⟩ := lookIn_ns I.ns
  ⟨od, ⟨I.obj, rfl, rfl, ho⟩, hl⟩

section
variable {prog : Program} {w : World} {A : Around} {E : Value → Shared → Prop} {s : Shared} {K : PySem.W.Frag} {x dx C f : Addr} {mA : Str → Option Value} {name : Str} {v : Value}

end

/-! ### the attributes as a list of pairs -/
def putF (f : Str) (v : V) : List (Str × V) → List (Str × V)
  | [] => [(f, v)]
  | (g, x) :: r => if g = f then (g, v) :: r else (g, x) :: putF f v r
section
variable {P : Program} {w : World} {H H' : Hp} {h h' : Heap} {a C dx : Addr} {fs fs' : List (Str × V)}
theorem ins_get (hok : HOk P w H h) (e : H a = some (.ins C dx fs)) : ∃ mA, ObjM h a dx C mA ∧ (∀ f, RelO (fs.lookup f) (mA f)) ∧ PySem.Within mA (fs.map (·.1)) ∧ fs.length ≤ 1000 ∧ H dx = some (.own a) := by
  obtain ⟨d, z, ne, ob, mA, n, r, q⟩ := (show ObjOk P w H h a (.ins C dx fs) from hok a _ e)
  exact ⟨mA, ⟨ob, n, ne⟩, r, q, z, d⟩
end

/-! ### what of the text a class must have -/
structure Cls (K : PySem.W.Frag) (C : Addr) : Prop where
  pg : PySem.W.plainGet K C Str.empty = true
  hd : PySem.W.hasDictIn K C = true
  po : PySem.W.plainOver K C = true
  sa : PySem.W.findIn K (.ref C) "__setattr__" = some (some (.builtin "object.__setattr__"))
theorem Cls.get {K : PySem.W.Frag} {C : Addr} (c : Cls K C) (f : Str) : PySem.W.plainGet K C f = true := c.pg
/-- no class of it has the name -/
def NoAttr (K : PySem.W.Frag) (C : Addr) (f : Str) : Prop := PySem.W.findIn K (.ref C) f = some none
/-- a constant of the class -/
structure Con (K : PySem.W.Frag) (C : Addr) (f : Str) (v : V) (u : Value) : Prop where
  at_ : PySem.W.findIn K (.ref C) f = some (some u)
  rel : RelV v u
  get : PySem.W.specialIn K u "__get__" = some none
  cp : PySem.W.copiedNames.contains f = false
/-- a method: a plain def of the class or of one above it -/
structure Meth (K : PySem.W.Frag) (C : Addr) (m : Str) (f : Addr) : Prop where
  at_ : PySem.W.findIn K (.ref C) m = some (some (.ref f))
  fn : PySem.W.isFn K (.ref f) = true
  kp : PySem.W.keepIn K (.ref f) = true

section
variable {X : Cx} {pins : List (Addr × Obj)} {σ : St} {H : Hp} {s : Shared} {a C dx : Addr} {fs : List (Str × V)} {f : Str} {v : V} {A : Around} {E : Value → Shared → Prop}

end

/-! ### readings and rules -/
/-- e.f, an attribute of the instance -/
def tFld (K : PySem.W.Frag) (ta : TE) (f : Str) : TE := fun σ H Q => ta σ H fun x H1 => ∃ a C dx fs v, x = .ref a ∧ H1 a = some (.ins C dx fs) ∧ Cls K C ∧ NoAttr K C f ∧ fs.lookup f = some v ∧ Q v H1
/-- e.f, a constant of the class -/
def tCon (K : PySem.W.Frag) (ta : TE) (f : Str) : TE := fun σ H Q => ta σ H fun x H1 => ∃ a C dx fs v u, x = .ref a ∧ H1 a = some (.ins C dx fs) ∧ Cls K C ∧ Con K C f v u ∧ fs.lookup f = none ∧ Q v H1
/-- e.f = value -/
def sFld (K : PySem.W.Frag) (ta tv : TE) (f : Str) : TS := fun D σ H => tv σ H fun y H1 => ta σ H1 fun x H2 => ∃ a C dx fs, x = .ref a ∧ H2 a = some (.ins C dx fs) ∧ Cls K C ∧ NoAttr K C f ∧ fs.length < 1000 ∧
  D.nx σ (upd H2 a (.ins C dx (putF f y fs)))
/-- an augmented operator on two values -/
def InOp (X : Cx) (op : Operator) (rd : V → V → Hp → VK → Prop) : Prop :=
  ∀ (pins : List (Addr × Obj)) (s : Shared) (σ : St) (H : Hp) (x y : V) (u v : Value) (Q : VK), Inv X pins σ H s → RelV x u → RelV y v → rd x y H Q → wpAny (model X.prog X.w) X.A (inplaceOp op u v) (EP X pins σ Q) X.xe s
/-- e.f op= value -/
def sFldAug (K : PySem.W.Frag) (ta tv : TE) (rd : V → V → Hp → VK → Prop) (f : Str) : TS := fun D σ H => ta σ H fun x H1 => ∃ a C dx fs v, x = .ref a ∧ H1 a = some (.ins C dx fs) ∧ Cls K C ∧ NoAttr K C f ∧ fs.lookup f = some v ∧
  tv σ H1 fun y H2 => rd v y H2 fun z H3 => ∃ dx' fs', H3 a = some (.ins C dx' fs') ∧ fs'.length < 1000 ∧ D.nx σ (upd H3 a (.ins C dx' (putF f z fs')))

section
variable {X : Cx} {o e value : Expr} {f : Str} {pos pos' tpos : Pos} {ta tv : TE}
def rAdd : V → V → Hp → VK → Prop := fun x y H Q => ∃ i j, x = .int i ∧ y = .int j ∧ Q (.int (i + j)) H
def rSub : V → V → Hp → VK → Prop := fun x y H Q => ∃ i j, x = .int i ∧ y = .int j ∧ Q (.int (i - j)) H
end

/-! ### isinstance -/
section
variable {X : Cx} {pins : List (Addr × Obj)} {σ : St} {H : Hp} {s : Shared} {A : Around} {E : Value → Shared → Prop} {Q : Value → Shared → Prop} {c : Value} {b : Bool}
/-- the type of a value, as the fragment's deciders take it; for an instance its class -/
inductive TyOf (K : PySem.W.Frag) (H : Hp) : V → Value → Prop where
  | non : TyOf K H .non (.type "NoneType")
  | bl (x : Bool) : TyOf K H (.bl x) (.type "bool")
  | int (i : Int) : TyOf K H (.int i) (.type "int")
  | str (x : Str) : TyOf K H (.str x) (.type "str")
  | flt (x : UInt64) : TyOf K H (.flt x) (.type "float")
  | lst {a : Addr} {xs : List V} (e : H a = some (.lst xs)) : TyOf K H (.ref a) (.type "list")
  | frz {a : Addr} {o : Obj} {xs : List V} (e : H a = some (.frz o (.lst xs))) : TyOf K H (.ref a) (.type "list")
  | tup {a : Addr} {xs : List V} (e : H a = some (.tup xs)) : TyOf K H (.ref a) (.type "tuple")
  | dK {a : Addr} {kvs : List (Key × V)} (e : H a = some (.dK kvs)) : TyOf K H (.ref a) (.type "dict")
  | dT {a : Addr} {kvs : List (List Key × V)} (e : H a = some (.dT kvs)) : TyOf K H (.ref a) (.type "dict")
  | ins {a C dx : Addr} {fs : List (Str × V)} (e : H a = some (.ins C dx fs)) (cl : Cls K C) (ha : PySem.W.findIn K (.ref C) "__class__" = some (some (.builtin "object.__class__")))
      (hn : PySem.W.specialIn K (.builtin "object.__class__") "__get__" = some (some (.builtin "getset_descriptor.__get__"))) (htk : PySem.W.takesIn K (.builtin "object.__class__") = some true)
      (hm : PySem.W.mroIn K C (.type "object") = some true) : TyOf K H (.ref a) (.ref C)
/-- isinstance(x, c) for one class c, a built-in or an own one: kitOne's answer -/
theorem isinst_ok {x : V} {u t : Value} (I : Inv X pins σ H s) (rx : RelV x u) (ty : TyOf X.K H x t) (e : PySem.W.kitOne X.K t c = some b) (h : ∀ tk, Q (.bool b) { s with toks := tk }) :
    wpAny (model X.prog X.w) A (call (.builtin "isinstance") [u, c]) Q E s := by
  cases ty with
  | non => cases (show u = Value.none from rx); exact PySem.W.kia_one PySem.W.kitx_none I.kIn True.intro e (fun z => nomatch z) h
  | bl y => cases (show u = Value.bool y from rx); exact PySem.W.kia_one PySem.W.kitx_bool I.kIn True.intro e (fun z => nomatch z) h
  | int i => obtain ⟨t, q⟩ := (show ∃ t, u = Value.int i t from rx); cases q; exact PySem.W.kia_one PySem.W.kitx_int I.kIn True.intro e (fun z => nomatch z) h
  | str y => obtain ⟨t, q⟩ := (show ∃ t, u = Value.str y t from rx); cases q; exact PySem.W.kia_one PySem.W.kitx_str I.kIn True.intro e (fun z => nomatch z) h
  | flt y => obtain ⟨t, q⟩ := (show ∃ t, u = Value.float y t from rx); cases q; exact PySem.W.kia_one PySem.W.kitx_float I.kIn True.intro e (fun z => nomatch z) h
  | @lst a xs ea =>
    cases (show u = Value.ref a from rx)
    obtain ⟨_, _, n, _, h1⟩ := (show ObjOk X.prog X.w H s.heap a (.lst xs) from I.hok a _ ea)
    exact PySem.W.kia_one PySem.W.kitx_list I.kIn ⟨_, h1, rfl⟩ e (fun z => nomatch z) h
  | @frz a ob xs ea =>
    cases (show u = Value.ref a from rx)
    obtain ⟨_, _, _, n, _, h1⟩ := (show ObjOk X.prog X.w H s.heap a (.frz ob (.lst xs)) from I.hok a _ ea)
    exact PySem.W.kia_one PySem.W.kitx_list I.kIn ⟨_, h1, rfl⟩ e (fun z => nomatch z) h
  | @tup a xs ea =>
    cases (show u = Value.ref a from rx)
    obtain ⟨_, _, _, p⟩ := (show ObjOk X.prog X.w H s.heap a (.tup xs) from I.hok a _ ea)
    obtain ⟨o, h1, h2, _⟩ := p
    exact PySem.W.kia_one PySem.W.kitx_tuple I.kIn ⟨o, h1, h2⟩ e (fun z => nomatch z) h
  | @dK a kvs ea =>
    cases (show u = Value.ref a from rx)
    obtain ⟨_, _, vs, _, p⟩ := (show ObjOk X.prog X.w H s.heap a (.dK kvs) from I.hok a _ ea)
    obtain ⟨o, es, ep, h1, h2, _⟩ := p
    exact PySem.W.kia_one PySem.W.kitx_dict I.kIn ⟨o, h1, h2.1⟩ e (fun z => nomatch z) h
  | @dT a kvs ea =>
    cases (show u = Value.ref a from rx)
    obtain ⟨_, _, xs, _, o, es, ep, h1, h2, _⟩ := (show ObjOk X.prog X.w H s.heap a (.dT kvs) from I.hok a _ ea)
    exact PySem.W.kia_one PySem.W.kitx_dict I.kIn ⟨o, h1, h2.1⟩ e (fun z => nomatch z) h
  | @ins a C dx fs ea cl ha hn htk hm =>
    cases (show u = Value.ref a from rx)
    obtain ⟨mA, O, _⟩ := ins_get I.hok ea
    obtain ⟨od, J, _⟩ := O.look
    exact PySem.W.kia_one (PySem.W.kitx_own (cl.get _) cl.hd ha hn htk hm) I.kIn J e (fun z => nomatch z) h
end
end L2

namespace L2
open PySem PySem.Spec PyProof.Rows

/-! ### room -/
structure Room (k : Nat) (A : Around) : Prop where
  hd : A.handled = none
  dp : A.depth + 3 * k + 5 < recursionLimit
  un : A.units + 16 * k + 200 < cLine
theorem Room.mono {j k : Nat} {A : Around} (r : Room k A) (h : j ≤ k) : Room j A := ⟨r.hd, by have := r.dp; omega, by have := r.un; omega⟩
theorem Room.deeper {k : Nat} {A : Around} (r : Room (k + 1) A) (env : Env) : Room k (A.deeper env) :=
  ⟨r.hd, by have := r.dp; show A.depth + 1 + 3 * k + 5 < _; omega, by have := r.un; show A.units + 3 + 16 * k + 200 < _; omega⟩
theorem Room.depth {k : Nat} {A : Around} (r : Room k A) : A.depth < recursionLimit := by have := r.dp; omega
theorem Room.units {k : Nat} {A : Around} (r : Room k A) : A.units + 64 < cLine := by have := r.un; omega
theorem Room.units0 {k : Nat} {A : Around} (r : Room k A) : A.units < cLine := by have := r.un; omega

/-! ### argument lists and displays -/
def tNil : TA := fun _ H Q => Q [] H
def tCons (ta : TE) (tr : TA) : TA := fun σ H Q => ta σ H fun x H1 => tr σ H1 fun xs H2 => Q (x :: xs) H2
section
variable {X : Cx} {e : Expr} {es : List Expr} {te : TE} {t : TA} {pos : Pos}
theorem pa_nil : PA X [] tNil := fun _ _ _ _ H Q I h => Calls.spliced_nil ⟨[], H, I, .nil, h⟩
theorem pa_cons (ha : PE X e te) (hr : PA X es t) (hs : starEach (e :: es) X.env = (false, eval e X.env) :: starEach es X.env := by rfl) : PA X (e :: es) (tCons te t) := by
  intro pos pins s σ H Q I h
  rw [hs]
  show wpAny _ _ (spliced ((false, eval e X.env) :: backTo pos (starEach es X.env))) _ _ s
  refine Calls.spliced_cons (thn (ha pins s σ H _ I h) fun u s1 ⟨x, H1, I1, r1, q1⟩ => ?_)
  exact thn (hr pos pins s1 σ H1 _ I1 q1) fun us s2 ⟨xs, H2, I2, r2, q2⟩ => ⟨x :: xs, H2, I2, .cons r1 r2, q2⟩

/-- a tuple, a list of written items -/
def tTup (t : TA) : TE := fun σ H Q => t σ H fun xs H1 => xs.length ≤ sizeLine ∧ ∀ p, H1 p = none → Q (.ref p) (upd H1 p (.tup xs))
def tLst (t : TA) : TE := fun σ H Q => t σ H fun xs H1 => xs.length ≤ sizeLine ∧ ∀ p, H1 p = none → Q (.ref p) (upd H1 p (.lst xs))
theorem pe_tup {x1} (h : PA X es t) : PE X (.Tuple es x1 pos) (tTup t) := by
  intro pins s σ H Q I hq
  refine wpAny_Tuple_spliced (thn (h pos pins s σ H _ I hq) fun us s1 ⟨xs, H1, I1, r, z, q⟩ => ⟨by rw [← r.length]; exact z, ?_⟩)
  have hf : H1 s1.heap.objs.size = none := I1.hok.fresh (Nat.le_refl _)
  refine ⟨.ref s1.heap.objs.size, upd H1 s1.heap.objs.size (.tup xs), I1.laid (t' := s1.toks) (fun b u e => Heap.get?_push_of_some _ e) (Nat.le_refl _) ?_, rfl, q _ hf⟩
  exact ⟨z, us, r, ⟨_, Heap.get?_push_size _ rfl, rfl, _, rfl⟩⟩
theorem pe_lst (h : PA X es t) : PE X (.List es pos) (tLst t) := by
  intro pins s σ H Q I hq
  refine wpAny_List_spliced (thn (h pos pins s σ H _ I hq) fun us s1 ⟨xs, H1, I1, r, z, q⟩ => ⟨by rw [← r.length]; exact z, ?_⟩)
  have hf : H1 s1.heap.objs.size = none := I1.hok.fresh (Nat.le_refl _)
  refine ⟨.ref s1.heap.objs.size, upd H1 s1.heap.objs.size (.lst xs), I1.laid (t' := s1.toks) (fun b u e => Heap.get?_push_of_some _ e) (Nat.le_refl _) ?_, rfl, q _ hf⟩
  exact ⟨z, us, 0, r, Heap.get?_push_size _ rfl⟩
end

/-! ### what a def promises -/
/-- a def's promise: the bound arguments in the parameters' order, the heap, the wanted end, the wanted exception -/
abbrev Sp := List V → Hp → VK → XK → Prop
/-- how an exception lies behind a call (file 08 gives it): the callers' frames, abstract heap and state ahead of the call, the wish, the exception, the state -/
abbrev CXT := List Env → Hp → Shared → XK → Value → Shared → Prop

/-- the state at a call -/
structure Env0 (P : Program) (w : World) (K : PySem.W.Frag) (mg : Str → Option Value) (base : Heap) (A : Around) (outer : List Env) (s : Shared) (H : Hp) : Prop where
  frames : A.frames = some outer
  mod : Mod K mg base
  bs : ∀ b o, base.get? b = some o → s.heap.get? b = some o ∧ H b = none
  bsz : base.objs.size ≤ s.heap.objs.size
  funs : s.heap.FunFrames base outer
  frf : ∀ b ∈ frs outer, H b = none
  hok : HOk P w H s.heap
  bare : AllBare s.gens
/-- a call's end -/
def CE (outer : List Env) (P : Program) (w : World) (H : Hp) (s : Shared) (Q : VK) (u : Value) (s' : Shared) : Prop :=
  ∃ v H', s'.os = s.os ∧ AllBare s'.gens ∧ Un (frs outer) [] H H' s.heap s'.heap ∧ HOk P w H' s'.heap ∧ RelV v u ∧ Q v H'
def CR (CX : CXT) (outer : List Env) (P : Program) (w : World) (H : Hp) (s : Shared) (Q : VK) (E : XK) (r : Result) (s' : Shared) : Prop :=
  match r with
  | .ok (.ret u) => CE outer P w H s Q u s'
  | .ok _ => False
  | .error e => CX outer H s E e s'
structure FnOk (P : Program) (w : World) (K : PySem.W.Frag) (mg : Str → Option Value) (base : Heap) (CX : CXT) (k : Nat) (f : Addr) (fd : FuncData) (ps : List Str) (sp : Sp) : Prop where
  len : ∀ vs H Q E, sp vs H Q E → vs.length = ps.length
  run : ∀ (A : Around) (outer : List Env) (s : Shared) (H : Hp) (args : Args) (us : List Value) (vs : List V) (Q : VK) (E : XK), Room k A → Env0 P w K mg base A outer s H → BindsTo s fd args (ps.zip us) → Vals vs us → sp vs H Q E →
    codeAny (model P w) A (.call (.ref f) args) (CR CX outer P w H s Q E) s
theorem FnOk.mono {P : Program} {w : World} {K : PySem.W.Frag} {mg : Str → Option Value} {base : Heap} {CX : CXT} {j k : Nat} {f : Addr} {fd : FuncData} {ps : List Str} {sp : Sp} (F : FnOk P w K mg base CX j f fd ps sp) (h : j ≤ k) :
    FnOk P w K mg base CX k f fd ps sp := ⟨F.len, fun A outer s H args us vs Q E hr => F.run A outer s H args us vs Q E (hr.mono h)⟩
section
variable {X : Cx} {pins : List (Addr × Obj)} {σ : St} {H : Hp} {s s' : Shared}
/-- from a body: what a callee wants -/
theorem Inv.env0 (I : Inv X pins σ H s) : Env0 X.prog X.w X.K X.mg X.base X.A X.stack s H :=
  ⟨I.ok.frames, I.ok.mod, I.bs, Nat.le_trans I.ok.bsz I.sz, I.stack, I.stkFree, I.hok, I.bare⟩
/-- behind a call -/
theorem Inv.after {Q : VK} {u : Value} (I : Inv X pins σ H s) (h : CE X.stack X.prog X.w H s Q u s') : EP X pins σ Q u s' := by
  obtain ⟨v, H', os, bare, un, hok, r, q⟩ := h
  obtain ⟨hh, g, d, t, os'⟩ := s'
  obtain rfl : os' = s.os := os
  exact ⟨v, H', I.call (h' := hh) (g' := g) (d' := d) (t' := t) (ch := []) un hok bare (fun b z => absurd z (by simp)), r, q⟩
end

/-! ### calls -/
/-- f(..): the written arguments, then the defaults dvs; E: what is wanted of an exception -/
def tCall (sp : Sp) (dvs : List V) (E : XK) (t : TA) : TE := fun σ H Q => t σ H fun vs H1 => sp (vs ++ dvs) H1 Q E
/-- o.m(..) of an instance of the class at C -/
def tMeth (C : Addr) (m : Str) (sp : Sp) (dvs : List V) (E : XK) (ta : TE) (t : TA) : TE := fun σ H Q => ta σ H fun x H1 => ∃ a dx fs, x = .ref a ∧ H1 a = some (.ins C dx fs) ∧ fs.lookup m = none ∧
  t σ H1 fun vs H2 => sp (x :: (vs ++ dvs)) H2 Q E
/-- C(..): a new instance and its dict, then __init__ -/
def tMake (C : Addr) (sp : Sp) (dvs : List V) (E : XK) (t : TA) : TE := fun σ H Q => t σ H fun vs H1 => ∀ x dx, H1 x = none → H1 dx = none → dx ≠ x →
  sp (.ref x :: (vs ++ dvs)) (upd (upd H1 dx (.own x)) x (.ins C dx [])) (fun v H2 => v = .non ∧ Q (.ref x) H2) E

/-- how the parameters are bound: us the positional arguments, kw the keywords' values by name, ds the defaults that fill up -/
def Binds (K : PySem.W.Frag) (fd : FuncData) (ps : List Str) (ds : List Value) : Prop :=
  ∀ (s : Shared) (us : List Value), K.In s.heap → (us ++ ds).length = ps.length → BindsTo s fd ⟨us, []⟩ (ps.zip (us ++ ds))
/-- every parameter is given -/
theorem Binds.all {K : PySem.W.Frag} {fd : FuncData} {ps : List Str} (h : ∀ us : List Value, us.length = ps.length → bindArgs fd ⟨us, []⟩ = pure (ps.zip us)) : Binds K fd ps [] := fun s us _ hl => by
  rw [List.append_nil] at hl ⊢
  exact .of_eq (h us hl)

/-- an exception of a callee reaches what this body wants of exceptions -/
def Passes (CX : CXT) (X : Cx) (E : XK) : Prop := ∀ (pins : List (Addr × Obj)) (σ : St) (H : Hp) (s : Shared) (e : Value) (s' : Shared), Inv X pins σ H s → CX X.stack H s E e s' → X.xe e s'

section
variable {X : Cx} {CX : CXT} {k : Nat} {f C : Addr} {fd : FuncData} {ps : List Str} {sp : Sp} {dvs : List V} {ds : List Value} {E : XK} {x m : Str} {p pos apos : Pos} {e o : Expr} {es : List Expr} {ta : TE} {t : TA}

/-- the callee runs -/
theorem run_fn {pins : List (Addr × Obj)} {σ : St} {H : Hp} {s : Shared} {Q : VK} {us : List Value} {vs : List V} (F : FnOk X.prog X.w X.K X.mg X.base CX k f fd ps sp) (hr : Room k X.A) (hb : Binds X.K fd ps ds) (hd : Vals dvs ds) (hx : Passes CX X E)
    (I : Inv X pins σ H s) (r : Vals vs us) (h : sp (vs ++ dvs) H Q E) : wpAny (model X.prog X.w) X.A (call (.ref f) us) (EP X pins σ Q) X.xe s := by
  have r2 : Vals (vs ++ dvs) (us ++ ds) := r.append hd
  have hl : (us ++ ds).length = ps.length := by rw [← r2.length]; exact F.len _ _ _ _ h
  refine wpAny_call (codeAny_mono (F.run X.A X.stack s H ⟨us, []⟩ (us ++ ds) (vs ++ dvs) Q E hr I.env0 (hb s us I.kIn hl) r2 h) fun r s' hq => ?_)
  cases r with
  | error e => exact hx pins σ H s e s' I hq
  | ok fl =>
    cases fl with
    | ret u => exact I.after hq
    | next => exact False.elim hq
    | brk => exact False.elim hq
    | cont => exact False.elim hq

theorem pe_call (F : FnOk X.prog X.w X.K X.mg X.base CX k f fd ps sp) (hr : Room k X.A) (hg : Gl X x) (hm : X.mg x = some (.ref f)) (hk : PySem.W.keepIn X.K (.ref f) = true) (hb : Binds X.K fd ps ds) (hd : Vals dvs ds) (hx : Passes CX X E)
    (ha : PA X (e :: es) t) (hdb : (x == ("__debug__" : Str)) = false := by decide) (he : starEach (e :: es) X.env = (false, eval e X.env) :: starEach es X.env := by rfl) (hpl : (backTo pos (starEach es X.env)).any (·.1) = false := by rfl) :
    PE X (.Call (.Name x p) (e :: es) [] pos) (tCall sp dvs E t) := by
  intro pins s σ H Q I h
  refine wpAny_Call_Name_kw (ld_glob I hg hm ?_ hdb)
  refine PySem.W.callWith_K (h₀ := X.base) I.ok.mod.kin hk (thn (ha pos pins s σ H _ I h) fun us s1 ⟨vs, H1, I1, r, q⟩ => ⟨I1.kIn, ?_⟩) he hpl
  exact run_fn F hr hb hd hx I1 r q
/-- what a class must have to be made -/
structure Mk (K : PySem.W.Frag) (C f : Addr) : Prop where
  makes : PySem.W.makesIn K C = true
  init : PySem.W.findIn K (.ref C) "__init__" = some (some (.ref f))
  fn : PySem.W.isFn K (.ref f) = true
  kp : PySem.W.keepIn K (.ref C) = true

end

/-! ### keywords -/
/-- the values of the keywords, from the left -/
def PK (X : Cx) (kws : List Keyword) (t : TA) : Prop :=
  ∀ (pos : Pos) (pins : List (Addr × Obj)) (s : Shared) (σ : St) (H : Hp) (Q : List V → Hp → Prop), Inv X pins σ H s → t σ H Q → wpAny (model X.prog X.w) X.A (evalAll ((backToKw pos (keywordEach kws X.env)).map (·.2))) (AP X pins σ Q) X.xe s
section
variable {X : Cx} {CX : CXT} {k : Nat} {f C : Addr} {fd : FuncData} {ps ks : List Str} {sp : Sp} {E : XK} {x m : Str} {p pos apos kpos : Pos} {e o : Expr} {es : List Expr} {kws : List Keyword} {te ta : TE} {t tk : TA} {nm : Option Str}
/-- how a call with keywords binds: g puts the positional values us and the keywords' values ws (names ks) in the parameters' order, defaults among them -/
structure KBinds (K : PySem.W.Frag) (fd : FuncData) (ps ks : List Str) (g : List Value → List Value → List Value) (gV : List V → List V → List V) : Prop where
  to : ∀ (s : Shared) (us ws : List Value), K.In s.heap → (g us ws).length = ps.length → BindsTo s fd ⟨us, ks.zip ws⟩ (ps.zip (g us ws))
  rel : ∀ {vs : List V} {us : List Value} {zs : List V} {ws : List Value}, Vals vs us → Vals zs ws → Vals (gV vs zs) (g us ws)
def tCallK (sp : Sp) (gV : List V → List V → List V) (E : XK) (t tk : TA) : TE := fun σ H Q => t σ H fun vs H1 => tk σ H1 fun zs H2 => sp (gV vs zs) H2 Q E
variable {g : List Value → List Value → List Value} {gV : List V → List V → List V}
end

/-! ### a def's body keeps its promise -/
/-- names: the parameters first -/
structure FnScope (N P : List Str) (sc : Scope) : Prop where
  kind : sc.kind = .function
  co : sc.isCoroutine = false
  gen : sc.isGenerator = false
  nd : N.Nodup
  pre : N.take P.length = P
  par : ∀ x ∈ P, sc.names.lookup x = some .local ∨ sc.names.lookup x = some .cell
  nofree : ∀ y ∈ sc.names, y.2 ≠ .free

theorem bindL_out {kindOf : Str → Option NameKind} {x : Str} : ∀ {binds : List (Str × Value)} {m : Str → Option Value}, (∀ v, (x, v) ∉ binds) → bindL kindOf binds m x = m x
  | [], _, _ => rfl
  | (n, v) :: r, m, h => by
    unfold bindL
    rw [bindL_out fun w hw => h w (List.mem_cons_of_mem _ hw)]
    split
    · have : x ≠ n := by rintro rfl; exact h v List.mem_cons_self
      simp [this]
    · rfl
theorem bindC_out {kindOf : Str → Option NameKind} {x : Str} : ∀ {binds : List (Str × Value)} {m : Str → Option Value}, (∀ v, (x, v) ∉ binds) → bindC kindOf binds m x = m x
  | [], _, _ => rfl
  | (n, v) :: r, m, h => by
    unfold bindC
    rw [bindC_out fun w hw => h w (List.mem_cons_of_mem _ hw)]
    split
    · rfl
    · have : x ≠ n := by rintro rfl; exact h v List.mem_cons_self
      simp [this]
theorem bindL_get {kindOf : Str → Option NameKind} {x : Str} {v : Value} : ∀ {P : List Str} {vs : List Value} {i : Nat} {m : Str → Option Value}, P.Nodup → P[i]? = some x → vs[i]? = some v → kindOf x = some .local →
    bindL kindOf (P.zip vs) m x = some v
  | [], _, _, _, _, h, _, _ => by simp at h
  | _ :: _, [], _, _, _, _, h, _ => by simp at h
  | p :: P, w :: vs, 0, m, nd, h1, h2, hk => by
    simp at h1 h2; subst h1; subst h2
    show bindL kindOf ((p, w) :: P.zip vs) m p = _
    unfold bindL
    rw [bindL_out fun v hv => (List.nodup_cons.mp nd).1 (List.of_mem_zip hv).1, if_pos hk]
    simp
  | p :: P, w :: vs, i + 1, m, nd, h1, h2, hk => by
    show bindL kindOf ((p, w) :: P.zip vs) m x = _
    unfold bindL
    exact bindL_get (i := i) (List.nodup_cons.mp nd).2 (by simpa using h1) (by simpa using h2) hk
theorem bindC_get {kindOf : Str → Option NameKind} {x : Str} {v : Value} : ∀ {P : List Str} {vs : List Value} {i : Nat} {m : Str → Option Value}, P.Nodup → P[i]? = some x → vs[i]? = some v → kindOf x ≠ some .local →
    bindC kindOf (P.zip vs) m x = some v
  | [], _, _, _, _, h, _, _ => by simp at h
  | _ :: _, [], _, _, _, _, h, _ => by simp at h
  | p :: P, w :: vs, 0, m, nd, h1, h2, hk => by
    simp at h1 h2; subst h1; subst h2
    show bindC kindOf ((p, w) :: P.zip vs) m p = _
    unfold bindC
    rw [bindC_out fun v hv => (List.nodup_cons.mp nd).1 (List.of_mem_zip hv).1, if_neg hk]
    simp
  | p :: P, w :: vs, i + 1, m, nd, h1, h2, hk => by
    show bindC kindOf ((p, w) :: P.zip vs) m x = _
    unfold bindC
    exact bindC_get (i := i) (List.nodup_cons.mp nd).2 (by simpa using h1) (by simpa using h2) hk

/-- the names' values at the entry -/
def start (N : List Str) (vs : List V) : St := vs.map some ++ List.replicate (N.length - vs.length) none

/-- the context of a def's body, at its entry; an exception leaves the frame, then lies as CX says -/
def cxOf (CX : CXT) (P : Program) (w : World) (K : PySem.W.Frag) (mg : Str → Option Value) (base : Heap) (N : List Str) (qual : Str) (scope : Scope) (f : Addr) (cd : Value) (A : Around) (outer : List Env) (s : Shared) (H : Hp) (E : XK) : Cx where
  prog := P
  w := w
  K := K
  mg := mg
  base := base
  A := A.deeper (envOfC qual scope s.heap.objs.size f cd)
  N := N
  s₀ := s
  H₀ := H
  env := envOfC qual scope s.heap.objs.size f cd
  outer := outer
  stack := envOfC qual scope s.heap.objs.size f cd :: outer
  ex := []
  calm := true
  fn := fun _ => true
  pn := []
  xe := fun e s' => wpAny (model P w) (A.deeper (envOfC qual scope s.heap.objs.size f cd)) (leaving (envOfC qual scope s.heap.objs.size f cd) e) (fun _ s'' => CX outer H s E e s'') (fun e' s'' => CX outer H s E e' s'') s'

theorem cell_has {sc : Scope} {n : Nat} {x : Str} (h : sc.names.lookup x = some .cell) : ∃ c, (cellsFrom n sc.names []).lookup x = some c := by
  have q := PySem.W.cellsFrom_some sc.names n [] (.inl h)
  exact Option.isSome_iff_exists.mp q

theorem inv_start {CX : CXT} {P : Program} {w : World} {K : PySem.W.Frag} {mg : Str → Option Value} {base : Heap} {N ps : List Str} {qual : Str} {scope : Scope} {f : Addr} {cd : Value} {A : Around} {outer : List Env} {s s1 : Shared} {H : Hp} {E : XK} {us : List Value} {vs : List V}
    (S : FnScope N ps scope) (hd : A.handled = none) (e0 : Env0 P w K mg base A outer s H) (hl : vs.length = ps.length) (r : Vals vs us)
    (x : InCallC s s.heap.objs.size (bindL (envOfC qual scope s.heap.objs.size f cd).kindOf (ps.zip us) fun _ => none) (cellsFrom (s.heap.objs.size + 1) scope.names []) (bindC (envOfC qual scope s.heap.objs.size f cd).kindOf (ps.zip us) fun _ => none) s1) :
    Inv (cxOf CX P w K mg base N qual scope f cd A outer s H E) [] (start N vs) H s1 := by
  have hpl : ps.length ≤ N.length := by have := congrArg List.length S.pre; rw [List.length_take] at this; omega
  obtain ⟨h1, tk, rfl, hk⟩ := x.done
  have noA : ∀ b : Addr, b ∉ (cxOf CX P w K mg base N qual scope f cd A outer s H E).ex := fun b z => absurd (show b ∈ ([] : List Addr) from z) (by simp)
  refine ⟨⟨e0.mod, S.kind, rfl, rfl, Nat.le_refl _, fun y z c h1 h2 => ?_, fun y hy => ?_, fun y c _ h => ?_, fun _ => hd, Around.frames_deeper e0.frames, .inr ⟨rfl, rfl⟩, fun b z => absurd z (noA b), e0.bs, e0.bsz, fun b _ _ => noA b, fun b z => absurd z (noA b), e0.funs, e0.frf⟩,
    rfl, e0.bare, Un.kept hk, ⟨_, x.toInCall.ns, fun i y v h1 h2 h3 => ?_⟩, fun y c h => ⟨_, x.cell y c h⟩, e0.hok.fresh (Nat.le_refl _), fun y c h => ?_, fun p hp => absurd (show p ∈ ([] : List (Addr × Obj)) from hp) (by simp), e0.hok.kept hk, ?_⟩
  · exact name_of_addr x.apart (PySem.mem_of_lookup h1) (PySem.mem_of_lookup h2)
  · have hy : scope.names.lookup y = some .cell ∨ scope.names.lookup y = some .free := hy
    rcases hy with hy | hy
    · exact cell_has hy
    · exact absurd rfl (S.nofree _ (PySem.mem_of_lookup hy))
  · exact Nat.le_of_lt (x.above y c (PySem.mem_of_lookup h))
  · have hi : i < vs.length := by
      unfold start at h2
      by_cases hi : i < vs.length
      · exact hi
      · rw [List.getElem?_append_right (by simpa using hi)] at h2
        rw [List.getElem?_replicate] at h2
        split at h2 <;> cases h2
    have ha : vs[i]? = some v := by
      unfold start at h2
      rw [List.getElem?_append_left (by simpa using hi), List.getElem?_map] at h2
      cases e : vs[i]? with
      | none => rw [e] at h2; cases h2
      | some a => rw [e] at h2; cases h2; rfl
    obtain ⟨u, hu, rv⟩ := r.get ha
    have hp : ps[i]? = some y := by
      rw [← S.pre, List.getElem?_take_of_lt (by omega)]; exact h1
    have ndP : ps.Nodup := by rw [← S.pre]; exact S.nd.sublist (List.take_sublist _ _)
    refine ⟨u, rv, ?_⟩
    rcases S.par y (List.mem_of_getElem? hp) with k | k
    · exact .inl ⟨k, bindL_get ndP hp hu k⟩
    · obtain ⟨c, e⟩ := cell_has (n := s.heap.objs.size + 1) k
      refine .inr ⟨.inl k, c, e, ?_⟩
      have q := x.cell y c e
      rw [bindC_get ndP hp hu (by show scope.names.lookup y ≠ _; rw [k]; decide)] at q
      exact q
  · exact e0.hok.fresh (Nat.le_of_lt (x.above y c (PySem.mem_of_lookup h)))
  · unfold start
    show _ = N.length
    rw [List.length_append, List.length_map, List.length_replicate]
    omega

/-- THE RULE: a def (or a method) of the text, by its body. The body's reading t is chosen for each entry; it is run at the parameters' values -/
theorem fn_of {CX : CXT} {P : Program} {w : World} {K : PySem.W.Frag} {mg : Str → Option Value} {base : Heap} {k : Nat} {f : Addr} {name qual : Str} {params : Arguments} {body : List Stmt} {scope : Scope} {dV kV doc pm cdv ct oc : Value} {an od : Option Addr}
    {osl : Array (Option Value)} {N ps : List Str} {sp : Sp} (lk : K.lookup f = some ⟨oc, od, .func (PySem.W.fnOf name qual params body scope dV kV doc pm an cdv ct), osl⟩) (hcd : PySem.W.codeIn K cdv qual = true) (S : FnScope N ps scope)
    (len : ∀ vs H Q E, sp vs H Q E → vs.length = ps.length)
    (hbody : ∀ (A : Around) (outer : List Env) (s : Shared) (H : Hp) (vs : List V) (Q : VK) (E : XK), Room k (A.deeper (envOfC qual scope s.heap.objs.size f cdv)) → sp vs H Q E →
      ∃ t, PSs (cxOf CX P w K mg base N qual scope f cdv A outer s H E) body t ∧ t { nx := fun _ H' => Q .non H', rt := Q } (start N vs) H) :
    FnOk P w K mg base CX (k + 1) f (PySem.W.fnOf name qual params body scope dV kV doc pm an cdv ct) ps sp := by
  refine ⟨len, fun A outer s H args us vs Q E hr e0 hb r hsp => ?_⟩
  have hl := len _ _ _ _ hsp
  have KX : K.In s.heap := e0.mod.kin.keeps fun b o e => (e0.bs b o e).1
  have lim : s.heap.NoLimit := e0.mod.nolimit.keeps fun b o e => (e0.bs b o e).1
  have hkind : ∀ y ∈ ps.zip us, scope.names.lookup y.1 = some .local ∨ (scope.names.lookup y.1 = some .cell ∧ ((cellsFrom (s.heap.objs.size + 1) scope.names []).lookup y.1).isSome = true) := fun ⟨n, v⟩ hy => by
    rcases S.par n (List.of_mem_zip hy).1 with q | q
    · exact .inl q
    · exact .inr ⟨q, PySem.W.cellsFrom_some _ _ _ (.inl q)⟩
  refine codeAny_call_function hr.depth (KX _ _ lk) rfl S.co S.gen rfl (PySem.W.codeRec_of KX hcd) (hb _ _ _ _ ?_)
  refine wpAny_newFunctionEnv_cells S.kind hkind fun env he s1 x => ?_
  subst he
  refine ⟨lim.keeps x.toInCall.keep, codeAny_func ?_⟩
  obtain ⟨t, ht, hq⟩ := hbody A outer s H vs Q E (hr.deeper _) hsp
  have I : Inv (cxOf CX P w K mg base N qual scope f cdv A outer s H E) [] (start N vs) H s1 := inv_start S hr.hd e0 hl r x
  refine wpAny_mono (ht [] s1 (start N vs) H _ I hq) (fun fl s' hs => ?_) fun e s' hs => hs
  have fin : ∀ {σ' : St} {H' : Hp} {v : V} {u : Value}, Inv (cxOf CX P w K mg base N qual scope f cdv A outer s H E) [] σ' H' s' → RelV v u → Q v H' → CE outer P w H s Q u s' :=
    fun {σ' H' v u} J rv q => ⟨v, H', J.os, J.bare, J.base, J.hok, rv, q⟩
  cases fl with
  | ret u =>
    obtain ⟨v, σ', H', J, rv, q⟩ := hs
    exact fin J rv q
  | next =>
    obtain ⟨σ', H', J, q⟩ := hs
    exact fin (v := V.non) (u := Value.none) J rfl q
  | brk =>
    obtain ⟨_, _, _, q⟩ := hs
    exact False.elim q
  | cont =>
    obtain ⟨_, _, _, q⟩ := hs
    exact False.elim q
end L2

namespace L2
open PySem PySem.Spec PyProof.Rows
section
variable {X : Cx} {x : Str} {p pos : Pos} {e : Expr} {es : List Expr} {t : TA} {id T : String} {r : List V → Hp → VK → Prop}

def tCB (r : List V → Hp → VK → Prop) (t : TA) : TE := fun σ H Q => t σ H fun vs H1 => r vs H1 Q
/-- f(e, ..), f a built-in function -/
theorem pe_callB (hc : CallR X (.builtin id) r) (hg : Gl X x) (hm : X.mg x = none) (hv : bootBuiltins x = some (.builtin id)) (ha : PA X (e :: es) t) (hn : x ≠ "__name__" := by decide) (hdb : (x == ("__debug__" : Str)) = false := by decide)
    (he : starEach (e :: es) X.env = (false, eval e X.env) :: starEach es X.env := by rfl) (hpl : (backTo pos (starEach es X.env)).any (·.1) = false := by rfl) : PE X (.Call (.Name x p) (e :: es) [] pos) (tCB r t) := by
  intro pins s σ H Q I h
  refine wpAny_Call_Name_kw (ld_blt I hg hm hv ?_ hn hdb)
  exact PyProof.Rows.callWith_builtin1 (thn (ha pos pins s σ H _ I h) fun us s1 ⟨vs, H1, I1, r1, q1⟩ => hc pins s1 σ H1 vs us Q I1 r1 q1) he hpl
/-- T(e, ..), T a built-in type -/
theorem pe_callTy (hc : CallR X (.type T) r) (hg : Gl X x) (hm : X.mg x = none) (hv : bootBuiltins x = some (.type T)) (ha : PA X (e :: es) t) (hn : x ≠ "__name__" := by decide) (hdb : (x == ("__debug__" : Str)) = false := by decide)
    (he : starEach (e :: es) X.env = (false, eval e X.env) :: starEach es X.env := by rfl) (hpl : (backTo pos (starEach es X.env)).any (·.1) = false := by rfl) : PE X (.Call (.Name x p) (e :: es) [] pos) (tCB r t) := by
  intro pins s σ H Q I h
  refine wpAny_Call_Name_kw (ld_blt I hg hm hv ?_ hn hdb)
  exact PyProof.Rows.callWith_type1 (thn (ha pos pins s σ H _ I h) fun us s1 ⟨vs, H1, I1, r1, q1⟩ => hc pins s1 σ H1 vs us Q I1 r1 q1) he hpl
end
end L2

namespace HT
open PySem PyProof.Rows

/-- t < u of tuples of ints -/
def lexLt : List Int → List Int → Bool
  | [], [] => false
  | [], _ :: _ => true
  | _ :: _, [] => false
  | x :: xs, y :: ys => if x = y then lexLt xs ys else decide (x < y)
section
open PySem.SeqAt
open PySem.AutoSeq1 (wpAny_loadPart')
open PySem.MeetsSeq PySem.MeetsSeq2 PySem.MeetsSeq3

end

section
variable {prog : Program} {w : World} {A : Around} {E : Value → Shared → Prop} {s : Shared}

/-! ### t[a:b], not the whole -/
/-- a slice's bound as a place among n (d where it is left out) -/
def sIx (n d : Nat) : Option Int → Nat
  | none => d
  | some v => if v < 0 then (v + (n : Int)).toNat else min v.toNat n
theorem sIx_none (n d : Nat) : sIx n d none = d := rfl
theorem sIx_nat (n d k : Nat) : sIx n d (some (k : Int)) = min k n := by
  show (if (k : Int) < 0 then ((k : Int) + (n : Int)).toNat else min (k : Int).toNat n) = min k n
  rw [if_neg (by omega), Int.toNat_natCast]
end
end HT

namespace L2
open PySem PySem.Spec PyProof.Rows

/-! ### the parts of a slice -/
abbrev TO := St → Hp → (Option Int → Hp → Prop) → Prop
/-- a slice's part (left out, or an int) -/
def PO (X : Cx) (e : Option Expr) (t : TO) : Prop :=
  ∀ (pins : List (Addr × Obj)) (s : Shared) (σ : St) (H : Hp) (Q : Option Int → Hp → Prop), Inv X pins σ H s → t σ H Q →
    wpAny (model X.prog X.w) X.A (evalPart e X.env) (fun u s' => ∃ o H', Inv X pins σ H' s' ∧ IsPart u o ∧ Q o H') X.xe s
def tNoPart : TO := fun _ H Q => Q none H
def tPart (t : TE) : TO := fun σ H Q => t σ H fun x H1 => ∃ i, x = .int i ∧ Q (some i) H1

theorem intsAre_of {ns : List Int} : ∀ {us : List Value}, Vals (ns.map V.int) us → IntsAre us ns := by
  induction ns with
  | nil => intro us r; rw [List.map_nil] at r; cases r; exact .nil
  | cons n ns ih =>
    intro us r
    rw [List.map_cons] at r
    cases r with
    | cons r1 r2 =>
      obtain ⟨t, e⟩ := r1
      subst e
      exact .cons n t (ih r2)

section
variable {X : Cx} {e : Expr} {te : TE} {lo hi : Option Expr} {tl th : TO} {pos p2 : Pos}

theorem po_none : PO X none tNoPart := by
  intro pins s σ H Q I h
  rw [evalPart_none]
  exact wpAny_pure ⟨none, H, I, .none, h⟩
theorem po_some (h : PE X e te) : PO X (some e) (tPart te) := by
  intro pins s σ H Q I hw
  rw [evalPart_some]
  refine thn (h pins s σ H _ I hw) fun u s1 ⟨x, H1, I1, r1, q1⟩ => ?_
  obtain ⟨i, rfl, q⟩ := q1
  obtain ⟨t, rfl⟩ := r1
  exact ⟨some i, H1, I1, .int i t, q⟩

/-- what a slice of a value is, by values: the slice object stands at sl -/
def SlR (X : Cx) (r : V → Option Int → Option Int → Hp → VK → Prop) : Prop :=
  ∀ (pins : List (Addr × Obj)) (s : Shared) (σ : St) (H : Hp) (x : V) (v vl vu : Value) (lo hi : Option Int) (sl : Addr) (Q : VK), Inv X pins σ H s → RelV x v → s.heap.IsSliceOf sl vl vu .none → IsPart vl lo → IsPart vu hi → r x lo hi H Q →
    ∃ T id, typeLookup (.type T) "__getitem__" = pure (some (.builtin id)) ∧ s.TypeIs v T ∧ wpAny (model X.prog X.w) X.A (getItem v (.ref sl)) (EP X pins σ Q) X.xe s
def tSl (r : V → Option Int → Option Int → Hp → VK → Prop) (te : TE) (tl th : TO) : TE := fun σ H Q => te σ H fun x H1 => tl σ H1 fun l H2 => th σ H2 fun u H3 => r x l u H3 Q
/-- a[lo:hi], any a -/
theorem pe_slice {r : V → Option Int → Option Int → Hp → VK → Prop} (hr : SlR X r) (he : PE X e te) (hl : PO X lo tl) (hu : PO X hi th) : PE X (.Subscript e (.Slice lo hi none p2) pos) (tSl r te tl th) := by
  intro pins s σ H Q I h
  refine Subscript_ (thn (he pins s σ H _ I h) fun v s1 ⟨x, H1, I1, r1, q1⟩ => ?_)
  refine wpAny_Slice (thn (hl pins s1 σ H1 _ I1 q1) fun vl s2 ⟨l, H2, I2, pl, q2⟩ => thn (hu pins s2 σ H2 _ I2 q2) fun vu s3 ⟨u, H3, I3, pu, q3⟩ => ?_)
  rw [evalPart_none]
  refine wpAny_pure ?_
  have I4 : Inv X pins σ H3 { s3 with heap := s3.heap.push { cls := .type "slice", data := .fields #[vl, vu, .none] } } := I3.kept (t' := s3.toks) fun b ob q => Heap.get?_push_of_some _ q
  obtain ⟨T, id, hT, ht, hg⟩ := hr pins { s3 with heap := s3.heap.push { cls := .type "slice", data := .fields #[vl, vu, .none] } } σ H3 x v vl vu l u s3.heap.objs.size Q I4 r1 (Heap.IsSliceOf.new ..) pl pu q3
  show wpAny (model X.prog X.w) X.A (subscriptTail e (.Slice lo hi none p2) v (.ref s3.heap.objs.size)) (EP X pins σ Q) X.xe { s3 with heap := s3.heap.push { cls := .type "slice", data := .fields #[vl, vu, .none] } }
  exact tail_any (ops := [.ref s3.heap.objs.size, v]) ht hT hg (by with_unfolding_all rfl)

/-- the items of xs[lo:hi] -/
def cutV (xs : List V) (lo hi : Option Int) : List V := (xs.drop (HT.sIx xs.length 0 lo)).take (HT.sIx xs.length xs.length hi - HT.sIx xs.length 0 lo)
theorem cutV_length (xs : List V) (lo hi : Option Int) : (cutV xs lo hi).length ≤ xs.length := by
  unfold cutV
  rw [List.length_take, List.length_drop]
  omega
/-- t[lo:hi], not the whole of it (the whole would be t itself) -/
def rSlT (K : PySem.W.Frag) : V → Option Int → Option Int → Hp → VK → Prop := fun x lo hi H Q => ∃ a xs, x = .ref a ∧ SqT K H a xs ∧
  ¬ (HT.sIx xs.length 0 lo = 0 ∧ HT.sIx xs.length xs.length hi = xs.length) ∧ ∀ p, H p = none → Q (.ref p) (upd H p (.tup (cutV xs lo hi)))
/-! ### t < u, t + u -/
def rLtT (K : PySem.W.Frag) : R2 := fun x y H Q => ∃ a b ns ms, x = .ref a ∧ y = .ref b ∧ SqT K H a (ns.map V.int) ∧ SqT K H b (ms.map V.int) ∧ Q (.bl (HT.lexLt ns ms)) H
/-- t + u, t not empty: u empty gives t itself -/
def rCatT (K : PySem.W.Frag) : R2 := fun x y H Q => ∃ a b xs ys, x = .ref a ∧ y = .ref b ∧ SqT K H a xs ∧ SqT K H b ys ∧ xs ≠ [] ∧ xs.length + ys.length ≤ sizeLine ∧
  (ys = [] → Q (.ref a) H) ∧ (ys ≠ [] → ∀ p, H p = none → Q (.ref p) (upd H p (.tup (xs ++ ys))))
end
end L2

namespace L2
open PySem PySem.Spec PyProof.Rows

/-! ### places -/
/-- the place that an index of any sign means -/
def ixN (n : Nat) (i : Int) : Option Nat := if 0 ≤ i then (if i < n then some i.toNat else none) else if -(n : Int) ≤ i then some (i + n).toNat else none
def atI {α : Type} (xs : List α) (i : Int) : Option α := (ixN xs.length i).bind fun j => xs[j]?
theorem ixN_seq {n : Nat} {i : Int} {j : Nat} (h : ixN n i = some j) : seqIndex? i n = some j ∧ j < n ∧ -(n : Int) ≤ i ∧ i < n := by
  unfold ixN at h
  by_cases h0 : 0 ≤ i
  · rw [if_pos h0] at h
    by_cases h1 : i < n
    · rw [if_pos h1] at h
      have e : i.toNat = j := Option.some.inj h
      exact ⟨by rw [seqIndex_of h0 h1, e], by omega, by omega, h1⟩
    · rw [if_neg h1] at h; cases h
  · rw [if_neg h0] at h
    by_cases h1 : -(n : Int) ≤ i
    · rw [if_pos h1] at h
      have e : (i + n).toNat = j := Option.some.inj h
      exact ⟨by rw [seqIndex_neg (by omega) h1, e], by omega, h1, by omega⟩
    · rw [if_neg h1] at h; cases h
theorem atI_get {α : Type} {xs : List α} {i : Int} {v : α} (h : atI xs i = some v) : ∃ j, seqIndex? i xs.length = some j ∧ xs[j]? = some v ∧ j < xs.length ∧ -(xs.length : Int) ≤ i ∧ i < xs.length := by
  unfold atI at h
  cases e : ixN xs.length i with
  | none => rw [e] at h; cases h
  | some j =>
    rw [e] at h
    obtain ⟨h1, h2, h3, h4⟩ := ixN_seq e
    exact ⟨j, h1, h, h2, h3, h4⟩
theorem atI_nat {α : Type} {xs : List α} {j : Nat} {v : α} (h : xs[j]? = some v) : atI xs (j : Int) = some v := by
  have hj : j < xs.length := (List.getElem?_eq_some_iff.mp h).1
  have e : ixN xs.length (j : Int) = some j := by
    unfold ixN
    rw [if_pos (by omega), if_pos (by omega)]; simp
  unfold atI; rw [e]; exact h
/-! ### what may be subscripted -/
/-- what stands as an index of a plain subscript -/
def PlainIx (b : Expr) : Prop := ∀ o i, subscripted b false o i = operate [o, i] (getItem o i)
/-- a subscript by values -/
def IxR (X : Cx) (r : R2) : Prop :=
  ∀ (value slice : Expr) (pins : List (Addr × Obj)) (s : Shared) (σ : St) (H : Hp) (x y : V) (v u : Value) (Q : VK), Inv X pins σ H s → RelV x v → RelV y u → r x y H Q →
    subscripted slice false v u = operate [v, u] (getItem v u) → wpAny (model X.prog X.w) X.A (subscriptTail value slice v u) (EP X pins σ Q) X.xe s
/-- a call of a builtin's method by values: the receiver, the arguments -/
def MtR (X : Cx) (id : String) (r : V → List V → Hp → VK → Prop) : Prop :=
  ∀ (pins : List (Addr × Obj)) (s : Shared) (σ : St) (H : Hp) (x : V) (xs : List V) (v : Value) (us : List Value) (Q : VK), Inv X pins σ H s → RelV x v → Vals xs us → r x xs H Q →
    wpAny (model X.prog X.w) X.A (call (.builtin id) (v :: us)) (EP X pins σ Q) X.xe s
section
variable {X : Cx} {a b : Expr} {ta tb : TE} {pos : Pos}
/-- a[b] -/
theorem pe_ix {r : R2} (hr : IxR X r) (ha : PE X a ta) (hb : PE X b tb) (hs : PlainIx b) : PE X (.Subscript a b pos) (tOp r ta tb) := by
  intro pins s σ H Q I h
  exact Subscript_ (binT ha hb I h fun v u s2 x y H2 I2 rx ry q => hr a b pins s2 σ H2 x y v u Q I2 rx ry q (hs _ _))

def rIxL (K : PySem.W.Frag) : R2 := fun x y H Q => ∃ p xs i v, x = .ref p ∧ y = .int i ∧ SqL K H p xs ∧ atI xs i = some v ∧ Q v H
def rIxT (K : PySem.W.Frag) : R2 := fun x y H Q => ∃ p xs i v, x = .ref p ∧ y = .int i ∧ SqT K H p xs ∧ atI xs i = some v ∧ Q v H
def rIxS : R2 := fun x y H Q => ∃ z i c, x = .str z ∧ y = .int i ∧ z.length ≤ sizeLine ∧ atI z.cps.toList i = some c ∧ Q (.str ⟨#[c]⟩) H
theorem ix_list : IxR X (rIxL X.K) := by
  intro value slice pins s σ H x y v u Q I rx ry h hs
  obtain ⟨p, xs, i, z, rfl, rfl, hq, he, q⟩ := h
  cases rx
  obtain ⟨t, rfl⟩ := ry
  obtain ⟨its, r, pl, hz⟩ := I.list hq
  obtain ⟨j, h1, h2, h3, h4, h5⟩ := atI_get he
  obtain ⟨w, ew, rw'⟩ := r.get h2
  have hl := r.length
  have hn := line63
  have fin : EP X pins σ Q w s := ⟨z, H, I, rw', q⟩
  by_cases h0 : 0 ≤ i
  · have hj : i.toNat = j := by
      rw [seqIndex_of h0 h5] at h1
      exact Option.some.inj h1
    exact item_listR pl.isList h0 (by omega) (by rw [hj]; simpa using ew) fin hs
  · have hj : (i + (its.toArray.size : Int)).toNat = j := by
      rw [seqIndex_neg (by omega) h4] at h1
      rw [List.size_toArray, ← hl]
      exact Option.some.inj h1
    exact subscriptTail_builtinR (x := w) pl.isList.typeIs slot_list_getitem.lookup
      (wpAny_getItem_list_neg (Q := fun r s' => r = w ∧ EP X pins σ Q r s') pl.isList (by omega) (by rw [List.size_toArray] <;> omega) (by omega) (by rw [hj]; simpa using ew) ⟨rfl, fin⟩) hs
theorem ix_tup : IxR X (rIxT X.K) := by
  intro value slice pins s σ H x y v u Q I rx ry h hs
  obtain ⟨p, xs, i, z, rfl, rfl, hq, he, q⟩ := h
  cases rx
  obtain ⟨t, rfl⟩ := ry
  obtain ⟨its, r, pl, hz⟩ := I.tuple hq
  obtain ⟨j, h1, h2, h3, h4, h5⟩ := atI_get he
  obtain ⟨w, ew, rw'⟩ := r.get h2
  have hl := r.length
  have hn := line63
  have fin : EP X pins σ Q w s := ⟨z, H, I, rw', q⟩
  exact subscriptTail_builtinR (x := w) pl.typeIs slot_tuple_getitem.lookup
    (getItem_tuple (j := j) (Q := fun r s' => r = w ∧ EP X pins σ Q r s') pl (by omega) (by omega) (by rw [List.size_toArray, ← hl]; exact h1) (by simpa using ew) ⟨rfl, fin⟩) hs
theorem ix_str : IxR X rIxS := by
  intro value slice pins s σ H x y v u Q I rx ry h hs
  obtain ⟨z, i, c, rfl, rfl, hz, he, q⟩ := h
  obtain ⟨t, rfl⟩ := rx
  obtain ⟨t', rfl⟩ := ry
  obtain ⟨j, h1, h2, h3, h4, h5⟩ := atI_get he
  have hl : z.cps.toList.length = z.length := by simp [Str.length]
  rw [hl] at h1 h4 h5
  have hn := line63
  exact tail_any (typeIs_str s z t) slot_str_getitem.lookup (getItem_str (c := c) (by
    have e1 : decide (i < -(2 ^ 63 : Int)) = false := decide_eq_false (by omega)
    have e2 : decide (i ≥ 2 ^ 63) = false := decide_eq_false (by omega)
    rw [e1, e2, Bool.or_false]) (by rw [h1]; simpa using h2) ⟨.str ⟨#[c]⟩, H, I.tok _, ⟨_, rfl⟩, q⟩) hs
/-- list, tuple or str -/
def rIx (K : PySem.W.Frag) : R2 := fun x y H Q => rIxL K x y H Q ∨ rIxT K x y H Q ∨ rIxS x y H Q
/-! ### xs[i] = v, any sign -/
/-- the list's object behind a store -/
theorem mapSeq_set (its : List Value) (n j : Nat) (u : Value) : Obj.mapSeq (·.setIfInBounds j u) { cls := .type "list", data := .seq its.toArray n } = { cls := .type "list", data := .seq (its.set j u).toArray n } := by
  simp [Obj.mapSeq]
theorem Inv.lst {pins : List (Addr × Obj)} {σ : St} {H : Hp} {s : Shared} {p : Addr} {xs : List V} (I : Inv X pins σ H s) (h : H p = some (.lst xs)) :
    ∃ (its : List Value) (n : Nat), Vals xs its ∧ s.heap.get? p = some { cls := .type "list", data := .seq its.toArray n } ∧ xs.length ≤ sizeLine := by
  obtain ⟨z, its, n, r, e⟩ := I.hok p _ h
  exact ⟨its, n, r, e, z⟩
/-- the list at p is written by an update of its object -/
theorem Inv.lstUpd {pins : List (Addr × Obj)} {σ : St} {H : Hp} {s : Shared} {p : Addr} {xs ys : List V} {its its' : List Value} {n n' : Nat} {f : Obj → Obj} (I : Inv X pins σ H s) (h : H p = some (.lst xs))
    (ho : s.heap.get? p = some { cls := .type "list", data := .seq its.toArray n }) (hf : f { cls := .type "list", data := .seq its.toArray n } = { cls := .type "list", data := .seq its'.toArray n' }) (r : Vals ys its') (hz : ys.length ≤ sizeLine) (t : Nat) :
    Inv X pins σ (upd H p (.lst ys)) { s with heap := s.heap.update p f, toks := t } := by
  have e : (s.heap.update p f).get? p = some { cls := .type "list", data := .seq its'.toArray n' } := by
    rw [Heap.get?_update_self f ho (by rw [hf] <;> rfl), hf]
  refine I.write (x := p) (e := p) (by rw [h]; trivial) (.inl rfl) (fun b u hb q => (Heap.get?_update_other _ _ (Ne.symm hb)).trans q) ⟨_, e⟩ ?_
  exact ⟨hz, its', n', r, e⟩
def rSetL : V → V → V → Hp → (Hp → Prop) → Prop := fun o i v H Q => ∃ p xs k j, o = .ref p ∧ i = .int k ∧ H p = some (.lst xs) ∧ ixN xs.length k = some j ∧ Q (upd H p (.lst (xs.set j v)))
theorem set_list : PSet X rSetL := by
  intro pins s σ H o i v ov iv u Q I ro ri rv h
  obtain ⟨p, xs, k, j, rfl, rfl, hp, hj, q⟩ := h
  cases ro
  obtain ⟨t, rfl⟩ := ri
  obtain ⟨its, n, r, ho, hz⟩ := I.lst hp
  obtain ⟨h1, h2, h3, h4⟩ := ixN_seq hj
  have hl := r.length
  have hn := line63
  have I' : Inv X pins σ (upd H p (.lst (xs.set j v))) { s with heap := s.heap.update p (Obj.mapSeq (·.setIfInBounds j u)) } :=
    I.lstUpd hp ho (mapSeq_set its n j u) (r.set rv j) (by rw [List.length_set]; exact hz) s.toks
  by_cases h0 : 0 ≤ k
  · have hk : k.toNat = j := by
      rw [seqIndex_of h0 h4] at h1
      exact Option.some.inj h1
    exact PySem.W.ki_setAt ho h0 (by omega) (by rw [List.size_toArray, ← hl]; exact h4) (by rw [hk]; exact ⟨_, I', q⟩)
  · have hk : (k + (its.toArray.size : Int)).toNat = j := by
      rw [seqIndex_neg (by omega) h3] at h1
      rw [List.size_toArray, ← hl]
      exact Option.some.inj h1
    exact PySem.W.ki_setBack ho (by omega) (by rw [List.size_toArray, ← hl]; exact h3) (by omega) (by rw [hk]; exact ⟨_, I', q⟩)

/-! ### slices -/
theorem slice_bounds (lo hi : Option Int) (n : Nat) : (sliceBounds lo hi none n).1 = ((HT.sIx n 0 lo : Nat) : Int) ∧ (sliceBounds lo hi none n).2.1 = ((HT.sIx n n hi : Nat) : Int) ∧ (sliceBounds lo hi none n).2.2 = 1 := by
  refine ⟨?_, ?_, rfl⟩
  · cases lo with
    | none => simp [sliceBounds, HT.sIx]
    | some i =>
      simp only [sliceBounds, HT.sIx, Option.getD_none, show (1 : Int) > 0 by decide, if_true]
      by_cases h : i < 0
      · simp only [h, if_true] <;> omega
      · simp only [h, if_false] <;> omega
  · cases hi with
    | none => simp [sliceBounds, HT.sIx]
    | some i =>
      simp only [sliceBounds, HT.sIx, Option.getD_none, show (1 : Int) > 0 by decide, if_true]
      by_cases h : i < 0
      · simp only [h, if_true] <;> omega
      · simp only [h, if_false] <;> omega
theorem slicePick_cut (its : List Value) (lo hi : Option Int) : slicePick its.toArray lo hi none = ((its.drop (HT.sIx its.length 0 lo)).take (HT.sIx its.length its.length hi - HT.sIx its.length 0 lo)).toArray := by
  obtain ⟨h1, h2, h3⟩ := slice_bounds lo hi its.toArray.size
  unfold slicePick
  rw [h1, h2, h3]
  simp only [sliceRange_one, pick_run, List.size_toArray] <;> rfl
/-- xs[lo:hi] of a list: a new list -/
def rSlL (K : PySem.W.Frag) : V → Option Int → Option Int → Hp → VK → Prop := fun x lo hi H Q => ∃ a xs, x = .ref a ∧ SqL K H a xs ∧ ∀ p, H p = none → Q (.ref p) (upd H p (.lst (cutV xs lo hi)))
theorem sl_list : SlR X (rSlL X.K) := by
  intro pins s σ H x v vl vu lo hi sl Q I rx hs pl pu h
  obtain ⟨a, xs, rfl, hx, q⟩ := h
  cases rx
  obtain ⟨its, r, ht, hz⟩ := I.list hx
  have hlen := r.length
  refine ⟨"list", _, slot_list_getitem.lookup, ht.isList.typeIs, ?_⟩
  refine wpAny_getItem_list_slice ht.isList hs pl pu .none (by simp) ?_ (by rw [List.size_toArray] <;> omega)
  rw [slicePick_cut, ← hlen]
  refine ⟨.ref s.heap.objs.size, _, I.laid (t' := s.toks) (o := .lst (cutV xs lo hi)) (fun b ob q => Heap.get?_push_of_some _ q) (Nat.le_refl _) ?_, rfl, q _ (I.hok.fresh (Nat.le_refl _))⟩
  exact ⟨Nat.le_trans (cutV_length xs lo hi) hz, _, 0, (r.drop (HT.sIx xs.length 0 lo)).take (HT.sIx xs.length xs.length hi - HT.sIx xs.length 0 lo), Heap.get?_push_size _ rfl⟩

/-! ### in, not in: flat items -/
def flatV : V → Bool
  | .non => true
  | .bl _ => true
  | .int _ => true
  | .str _ => true
  | _ => false
/-- == of flat values -/
def eqV : V → V → Bool
  | .non, .non => true
  | .bl a, .bl b => a == b
  | .bl a, .int b => (if a then 1 else 0) == b
  | .int a, .bl b => a == (if b then 1 else 0)
  | .int a, .int b => a == b
  | .str a, .str b => a == b
  | _, _ => false
theorem eqAt_V {A : Around} {s : Shared} {y x : V} {u v : Value} (ry : RelV y u) (rx : RelV x v) (fy : flatV y = true) (fx : flatV x = true) : SeqAt.EqAt A s u v (eqV y x) := by
  cases y with
  | non =>
    cases ry
    cases x with
    | non => cases rx; exact SeqAt.EqAt.same _
    | bl b => cases rx; exact SeqAt.EqAt.none_bool b
    | int b => obtain ⟨t, rfl⟩ := rx; exact SeqAt.EqAt.none_int b t
    | str b => obtain ⟨t, rfl⟩ := rx; exact SeqAt.EqAt.none_str b t
    | _ => exact absurd (show false = true from fx) Bool.false_ne_true
  | bl a =>
    cases ry
    cases x with
    | non => cases rx; exact SeqAt.EqAt.bool_none a
    | bl b => cases rx; exact SeqAt.EqAt.bool_bool a b
    | int b => obtain ⟨t, rfl⟩ := rx; exact SeqAt.EqAt.bool_int a b t
    | str b => obtain ⟨t, rfl⟩ := rx; exact SeqAt.EqAt.bool_str a b t
    | _ => exact absurd (show false = true from fx) Bool.false_ne_true
  | int a =>
    obtain ⟨t', rfl⟩ := ry
    cases x with
    | non => cases rx; exact SeqAt.EqAt.int_none a t'
    | bl b => cases rx; exact SeqAt.EqAt.int_bool a t' b
    | int b => obtain ⟨t, rfl⟩ := rx; exact SeqAt.EqAt.int_int a t' b t
    | str b => obtain ⟨t, rfl⟩ := rx; exact SeqAt.EqAt.int_str a t' b t
    | _ => exact absurd (show false = true from fx) Bool.false_ne_true
  | str a =>
    obtain ⟨t', rfl⟩ := ry
    cases x with
    | non => cases rx; exact SeqAt.EqAt.str_none a t'
    | bl b => cases rx; exact SeqAt.EqAt.str_bool a t' b
    | int b => obtain ⟨t, rfl⟩ := rx; exact SeqAt.EqAt.str_int a t' b t
    | str b => obtain ⟨t, rfl⟩ := rx; exact SeqAt.EqAt.str_str a t' b t
    | _ => exact absurd (show false = true from fx) Bool.false_ne_true
  | _ => exact absurd (show false = true from fy) Bool.false_ne_true
/-- the items' answers, read off the values (a value's own answer does not lean on its token) -/
def eqU (x : V) (u : Value) : Bool := match u with
  | .none => eqV .non x
  | .bool b => eqV (.bl b) x
  | .int i _ => eqV (.int i) x
  | .str z _ => eqV (.str z) x
  | _ => false
def inV (x : V) (xs : List V) : Bool := xs.any fun y => eqV y x
/-- x in a list or tuple of flat items -/
def rIn (K : PySem.W.Frag) (neg : Bool) : R2 := fun x y H Q => ∃ p xs, y = .ref p ∧ (SqL K H p xs ∨ SqT K H p xs) ∧ flatV x = true ∧ xs.all flatV = true ∧ Q (.bl (if neg then !inV x xs else inV x xs)) H
/-! ### len, list(x), tuple(x) of any list or tuple that is read -/
theorem call_len_seq : CallR X (.builtin "len") (fun xs H Q => ∃ p ys, xs = [.ref p] ∧ (SqL X.K H p ys ∨ SqT X.K H p ys) ∧ Q (.int ys.length) H) := by
  intro pins s σ H xs us Q I r h
  obtain ⟨p, ys, rfl, hq, q⟩ := h
  obtain ⟨u, rfl, rx⟩ := vals1 r
  cases rx
  have hn := line63
  rcases hq with hq | hq
  · obtain ⟨its, r', pl, hz⟩ := I.list hq
    have hlen := r'.length
    exact Calls.call_len_list pl.isList (by simp only [List.size_toArray] <;> omega) ⟨.int ys.length, H, I.tok _, ⟨s.toks + 1, by rw [List.size_toArray, hlen]⟩, q⟩
  · obtain ⟨its, r', pl, hz⟩ := I.tuple hq
    have hlen := r'.length
    exact len_tuple pl (by simp only [List.size_toArray] <;> omega) ⟨.int ys.length, H, I.tok _, ⟨s.toks + 1, by rw [List.size_toArray, hlen]⟩, q⟩
theorem call_len_str : CallR X (.builtin "len") (fun xs H Q => ∃ z, xs = [.str z] ∧ z.length ≤ sizeLine ∧ Q (.int z.length) H) := by
  intro pins s σ H xs us Q I r h
  obtain ⟨z, rfl, hz, q⟩ := h
  obtain ⟨u, rfl, t, rfl⟩ := vals1 r
  have hn := line63
  exact len_str (by omega) ⟨.int z.length, H, I.tok _, ⟨_, rfl⟩, q⟩
/-! ### the call of a builtin's method: o.m(..) -/
/-- the value is of that builtin type -/
def tyV (K : PySem.W.Frag) (T : String) (x : V) (H : Hp) : Prop := match x with
  | .str _ => T = "str"
  | .int _ => T = "int"
  | .ref p => (T = "list" ∧ ∃ xs, SqL K H p xs) ∨ (T = "tuple" ∧ ∃ o, K.lookup p = some o ∧ o.cls = .type "tuple" ∧ o.dict = none) ∨
      (T = "dict" ∧ ((∃ kvs, H p = some (.dK kvs)) ∨ ∃ kvs, H p = some (.dT kvs))) ∨ (T = "set" ∧ ∃ S n, H p = some (.set S n))
  | _ => False
theorem tyV_is {pins : List (Addr × Obj)} {σ : St} {H : Hp} {s : Shared} {T : String} {x : V} {v : Value} (I : Inv X pins σ H s) (r : RelV x v) (ty : tyV X.K T x H) :
    s.TypeIs v T ∧ ∀ a, v = .ref a → ∃ ob, s.heap.get? a = some ob ∧ ob.dict = none := by
  cases x with
  | str z =>
    obtain ⟨t, rfl⟩ := r
    cases (show T = "str" from ty)
    exact ⟨typeIs_str s z t, fun _ e => nomatch e⟩
  | int i =>
    obtain ⟨t, rfl⟩ := r
    cases (show T = "int" from ty)
    exact ⟨typeIs_int s i t, fun _ e => nomatch e⟩
  | ref p =>
    cases r
    rcases ty with ⟨rfl, xs, hq⟩ | ⟨rfl, o, hk, hc, hd⟩ | ⟨rfl, hk⟩ | ⟨rfl, S, n, hk⟩
    · obtain ⟨its, _, pl, _⟩ := I.list hq
      refine ⟨pl.isList.typeIs, fun a e => ?_⟩
      cases e
      obtain ⟨o, n, e, c, hd, _⟩ := pl
      exact ⟨o, e, hd⟩
    · refine ⟨⟨o, I.kIn p o hk, hc⟩, fun a e => ?_⟩
      cases e
      exact ⟨o, I.kIn _ o hk, hd⟩
    · have z : ∃ o, s.heap.get? p = some o ∧ o.ExactDict := by
        rcases hk with ⟨kvs, hk⟩ | ⟨kvs, hk⟩
        · obtain ⟨_, _, _, _, o, _, _, e, ex, _⟩ := I.hok p _ hk
          exact ⟨o, e, ex⟩
        · obtain ⟨_, _, _, _, o, _, _, e, ex, _⟩ := I.hok p _ hk
          exact ⟨o, e, ex⟩
      obtain ⟨o, e, ex⟩ := z
      refine ⟨⟨o, e, ex.1⟩, fun a e2 => ?_⟩
      cases e2
      exact ⟨o, e, ex.2.1⟩
    · obtain ⟨o, _, _, _, e, ex, _⟩ := I.hok p _ hk
      refine ⟨⟨o, e, ex.1⟩, fun a e2 => ?_⟩
      cases e2
      exact ⟨o, e, ex.2.1⟩
  | _ => exact False.elim ty
def tBM0 (K : PySem.W.Frag) (T : String) (r : V → List V → Hp → VK → Prop) (to : TE) : TE := fun σ H Q => to σ H fun x H1 => tyV K T x H1 ∧ r x [] H1 Q
def tBM (K : PySem.W.Frag) (T : String) (r : V → List V → Hp → VK → Prop) (to : TE) (t : TA) : TE := fun σ H Q => to σ H fun x H1 => tyV K T x H1 ∧ t σ H1 fun xs H2 => r x xs H2 Q
variable {o e : Expr} {es : List Expr} {to : TE} {t : TA} {name : Str} {apos cpos : Pos} {T id : String} {r : V → List V → Hp → VK → Prop}
theorem pe_bm0 (pa : PlainAttrs T) (slot : Slot T name id) (hty : typeOf (.builtin id) = pure (.type "method_descriptor")) (hm : MtR X id r) (ho : PE X o to)
    (hbase : attributeBase o name X.env (eval o X.env) = eval o X.env := by rfl) (hline : (apos.endLine == cpos.line) = true := by rfl) : PE X (.Call (.Attribute o name apos) [] [] cpos) (tBM0 X.K T r to) := by
  intro pins s σ H Q I h
  refine wpAny_Call_method0_late hbase hline (thn (ho pins s σ H _ I h) fun v s1 ⟨x, H1, I1, r1, ty, q1⟩ => ?_)
  obtain ⟨h1, h2⟩ := tyV_is I1 r1 ty
  exact ⟨T, id, pa, slot, hty, h1, h2, Calls.callWith_builtin rfl (PySem.evalArgs_none (hm pins s1 σ H1 x [] v [] Q I1 r1 .nil q1))⟩
theorem pe_bm (pa : PlainAttrs T) (slot : Slot T name id) (hty : typeOf (.builtin id) = pure (.type "method_descriptor")) (hm : MtR X id r) (ho : PE X o to) (ha : PA X (e :: es) t)
    (hbase : attributeBase o name X.env (eval o X.env) = eval o X.env := by rfl)
    (hfew : ((backTo cpos (starEach (e :: es) X.env)).all (fun x => !x.1) && (backToKw cpos (keywordEach [] X.env)).all (fun x => x.1.isSome)
      && decide ((e :: es).length + ([] : List Keyword).length + (if ([] : List Keyword).isEmpty then 0 else 1) < 30)) = true := by rfl)
    (hline : (apos.endLine == cpos.line) = true := by rfl) (hs : starEach (e :: es) X.env = (false, eval e X.env) :: starEach es X.env := by rfl) (hplain : (backTo cpos (starEach es X.env)).any (·.1) = false := by rfl) :
    PE X (.Call (.Attribute o name apos) (e :: es) [] cpos) (tBM X.K T r to t) := by
  intro pins s σ H Q I h
  refine wpAny_Call_method_late hbase hfew hline rfl (thn (ho pins s σ H _ I h) fun v s1 ⟨x, H1, I1, r1, ty, q1⟩ => ?_)
  obtain ⟨h1, h2⟩ := tyV_is I1 r1 ty
  refine ⟨T, id, pa, slot, hty, h1, h2, ?_⟩
  have hA := ha cpos pins s1 σ H1 _ I1 q1
  rw [hs] at hA ⊢
  refine Calls.callWith_builtin (by show (false || (backTo cpos (starEach es X.env)).any (·.1)) = false; rw [hplain] <;> rfl) (Calls.evalArgs_plain ?_)
  exact thn hA fun us s2 ⟨vs, H2, I2, r2, q2⟩ => hm pins s2 σ H2 x vs v us Q I2 r1 r2 q2
/- xs.append(e), list.index on a module's tuple .. are MtR facts of 06m -/
end
end L2

namespace L2
open PySem PySem.Spec PyProof.Rows

def MtM (X : Cx) (id : String) (r : V → List V → Hp → VK → Prop) : Prop :=
  ∀ (pins : List (Addr × Obj)) (s : Shared) (σ : St) (H : Hp) (x : V) (xs : List V) (v : Value) (us : List Value) (Q : VK), Inv X pins σ H s → RelV x v → Vals xs us → r x xs H Q →
    wpAny (model X.prog X.w) X.A (call (.builtin id) (v :: us)) (EP X pins σ Q) X.xe s

/-! ### lists of values -/
theorem Vals.one : ∀ {x : V} {us : List Value}, Vals [x] us → ∃ u, us = [u] ∧ RelV x u
  | _, _, .cons r .nil => ⟨_, rfl, r⟩
theorem Vals.zero : ∀ {us : List Value}, Vals [] us → us = []
  | _, .nil => rfl
theorem Vals.dropLast {xs : List V} {us : List Value} (h : Vals xs us) : Vals xs.dropLast us.dropLast := by
  induction h with
  | nil => exact .nil
  | cons r t ih =>
    cases t with
    | nil => exact .nil
    | cons q t' => exact .cons r ih
theorem Vals.reverse {xs : List V} {us : List Value} (h : Vals xs us) : Vals xs.reverse us.reverse := by
  induction h with
  | nil => exact .nil
  | cons r t ih => rw [List.reverse_cons, List.reverse_cons]; exact Vals.append ih (.cons r .nil)
theorem erase_last {α : Type} (l : List α) : l.eraseIdx (l.length - 1) = l.dropLast := by
  induction l with
  | nil => rfl
  | cons a r ih =>
    cases r with
    | nil => rfl
    | cons b r =>
      have e : (a :: b :: r).length - 1 = ((b :: r).length - 1) + 1 := by
        have h1 : (a :: b :: r).length = r.length + 2 := rfl
        have h2 : (b :: r).length = r.length + 1 := rfl
        omega
      rw [e, List.eraseIdx_cons_succ, ih]
      all_goals rfl
section
variable {X : Cx} {pins : List (Addr × Obj)} {σ : St} {H : Hp} {s : Shared} {l b : Addr} {xs ys zs : List V}

/-! ### the two steps: a tracked list is rewritten, a new list is laid -/
theorem Inv.lset {its its' : List Value} {n : Nat} {f : Array Value → Array Value} {t' : Nat} (I : Inv X pins σ H s) (hH : H l = some (.lst xs))
    (e : s.heap.get? l = some { cls := .type "list", data := .seq its.toArray n }) (hf : f its.toArray = its'.toArray) (hv : Vals ys its') (hz : ys.length ≤ sizeLine) :
    Inv X pins σ (upd H l (.lst ys)) { s with heap := s.heap.update l (Obj.mapSeq f), toks := t' } := by
  have q := PySem.IsL.update e f
  rw [hf] at q
  refine I.write (x := l) (e := l) (by rw [hH]; exact trivial) (.inl rfl) (fun b' u hb hu => (Heap.get?_update_other s.heap (Obj.mapSeq f) (Ne.symm hb)).trans hu) ⟨_, q⟩ ?_
  exact ⟨hz, its', _, hv, q⟩
theorem Inv.lnew {its : List Value} {t' : Nat} (I : Inv X pins σ H s) (hv : Vals ys its) (hz : ys.length ≤ sizeLine) :
    Inv X pins σ (upd H s.heap.objs.size (.lst ys)) { s with heap := s.heap.push { cls := .type "list", data := .seq its.toArray }, toks := t' } :=
  I.laid (fun _ _ q => Heap.get?_push_of_some _ q) (Nat.le_refl _) ⟨hz, its, 0, hv, Heap.get?_push_size _ rfl⟩
theorem Inv.fresh (I : Inv X pins σ H s) : H s.heap.objs.size = none := I.hok.fresh (Nat.le_refl _)
theorem Inv.lstM (I : Inv X pins σ H s) (hH : H l = some (.lst xs)) : xs.length ≤ sizeLine ∧ ∃ (its : List Value) (n : Nat), Vals xs its ∧ xs.length = its.length ∧ s.heap.get? l = some { cls := .type "list", data := .seq its.toArray n } := by
  obtain ⟨z, its, n, r, e⟩ := I.hok l _ hH
  exact ⟨z, its, n, r, r.length, e⟩

theorem notLongL {n : Nat} (h : n ≤ sizeLine) : Builtin.List.listTooLong n = false := by
  unfold Builtin.List.listTooLong
  exact decide_eq_false (by omega)
end

section
variable {X : Cx}

/-! ### methods -/
def rAppend : V → List V → Hp → VK → Prop := fun x vs H Q => ∃ l xs y, x = .ref l ∧ vs = [y] ∧ H l = some (.lst xs) ∧ xs.length < sizeLine ∧ Q .non (upd H l (.lst (xs ++ [y])))
theorem mt_append : MtM X "list.append" rAppend := by
  intro pins s σ H x vs v us Q I rx rv h
  obtain ⟨l, xs, y, rfl, rfl, hH, hz, q⟩ := h
  cases rx
  obtain ⟨u, rfl, ru⟩ := rv.one
  obtain ⟨z, its, n, r, hl, e⟩ := I.lstM hH
  refine call_meets F.slot_list_append ⟨_, e, rfl⟩ F.entry_list_append (F.args_list_append_2 _ _) (PySem.list_append l its.toArray n u (by rw [List.size_toArray]; omega)) ⟨e, ?_⟩
  refine ⟨.non, _, I.lset (its' := its ++ [u]) hH e (by simp) (r.append (.cons ru .nil)) ?_, rfl, q⟩
  rw [List.length_append, List.length_singleton]
  omega

def rExtend : V → List V → Hp → VK → Prop := fun x vs H Q => ∃ l b xs zs, x = .ref l ∧ vs = [.ref b] ∧ H l = some (.lst xs) ∧ H b = some (.lst zs) ∧ xs.length + zs.length ≤ sizeLine ∧ Q .non (upd H l (.lst (xs ++ zs)))
theorem mt_extend : MtM X "list.extend" rExtend := by
  intro pins s σ H x vs v us Q I rx rv h
  obtain ⟨l, b, xs, zs, rfl, rfl, hH, hB, hz, q⟩ := h
  cases rx
  obtain ⟨u, rfl, ru⟩ := rv.one
  cases ru
  obtain ⟨z, its, n, r, hl, e⟩ := I.lstM hH
  obtain ⟨z2, its2, n2, r2, hl2, e2⟩ := I.lstM hB
  have hsz : its.toArray.size + its2.toArray.size ≤ sizeLine := by rw [List.size_toArray, List.size_toArray]; omega
  have hlong : ¬ (!its.toArray.isEmpty && Builtin.List.listTooLong (its.toArray.size + its2.toArray.size)) = true := by
    rw [notLongL hsz, Bool.and_false]
    exact Bool.false_ne_true
  refine call_meets F.slot_list_extend ⟨_, e, rfl⟩ F.entry_list_extend (F.args_list_extend_2 _ _)
    (AutoSeq1.list_extend_list_list_0 l its.toArray n b its2.toArray n2 hlong (by rw [List.size_toArray]; omega) (by omega)) ⟨e, e2, ?_⟩
  refine ⟨.non, _, I.lset (its' := its ++ its2) hH e (by simp) (r.append r2) ?_, rfl, q⟩
  rw [List.length_append]
  omega

def rPop : V → List V → Hp → VK → Prop := fun x vs H Q => ∃ l xs y, x = .ref l ∧ vs = [] ∧ H l = some (.lst xs) ∧ xs[xs.length - 1]? = some y ∧ Q y (upd H l (.lst xs.dropLast))
theorem mt_pop : MtM X "list.pop" rPop := by
  intro pins s σ H x vs v us Q I rx rv h
  obtain ⟨l, xs, y, rfl, rfl, hH, hy, q⟩ := h
  cases rx
  have hus := rv.zero
  subst hus
  obtain ⟨z, its, n, r, hl, e⟩ := I.lstM hH
  obtain ⟨u, hu, ru⟩ := r.get hy
  have hy' : its.toArray[its.toArray.size - 1]? = some u := by
    show its.toArray[its.length - 1]? = some u
    rw [← Array.getElem?_toList, ← hl]
    exact hu
  refine call_meets F.slot_list_pop ⟨_, e, rfl⟩ F.entry_list_pop (F.args_list_pop_1 _) (MeetsSeq.list_pop_last l its.toArray n u hy' (by rw [List.size_toArray]; omega)) ⟨e, ?_⟩
  refine ⟨y, _, I.lset (its' := its.dropLast) hH e ?_ r.dropLast ?_, ru, q⟩
  · show its.toArray.eraseIdxIfInBounds (its.toArray.size - 1) = its.dropLast.toArray
    rw [List.size_toArray, List.eraseIdxIfInBounds_toArray, erase_last]
  · rw [List.length_dropLast]
    omega

def rPopAt : V → List V → Hp → VK → Prop := fun x vs H Q => ∃ l xs i k y, x = .ref l ∧ vs = [.int i] ∧ H l = some (.lst xs) ∧ -(2 ^ 63) ≤ i ∧ i < 2 ^ 63 ∧ seqIndex? i xs.length = some k ∧ xs[k]? = some y ∧ Q y (upd H l (.lst (xs.eraseIdx k)))
def rReverse : V → List V → Hp → VK → Prop := fun x vs H Q => ∃ l xs, x = .ref l ∧ vs = [] ∧ H l = some (.lst xs) ∧ Q .non (upd H l (.lst xs.reverse))
def rClear : V → List V → Hp → VK → Prop := fun x vs H Q => ∃ l xs, x = .ref l ∧ vs = [] ∧ H l = some (.lst xs) ∧ Q .non (upd H l (.lst []))
/-! ### list + list, list += list, list * int -/
def rCat : R2 := fun x y H Q => ∃ l b xs zs, x = .ref l ∧ y = .ref b ∧ H l = some (.lst xs) ∧ H b = some (.lst zs) ∧ xs.length + zs.length ≤ sizeLine ∧ ∀ p, H p = none → Q (.ref p) (upd H p (.lst (xs ++ zs)))
theorem op_cat : OpR X (binaryOp .Add) rCat := by
  intro pins s σ H x y v u Q I rx ry h
  obtain ⟨l, b, xs, zs, rfl, rfl, hH, hB, hz, q⟩ := h
  cases rx
  cases ry
  obtain ⟨z, its, n, r, hl, e⟩ := I.lstM hH
  obtain ⟨z2, its2, n2, r2, hl2, e2⟩ := I.lstM hB
  refine PySem.P.add_list e e2 ?_ (by rw [List.size_toArray, List.size_toArray]; omega)
  have ea : its.toArray ++ its2.toArray = (its ++ its2).toArray := by simp
  rw [ea]
  exact ⟨.ref _, _, I.lnew (t' := s.toks) (r.append r2) (by rw [List.length_append]; omega), rfl, q _ I.fresh⟩
/-- a list times an int (a negative one is nothing) -/
def rRep : R2 := fun x y H Q => ∃ l k xs, x = .ref l ∧ y = .int k ∧ H l = some (.lst xs) ∧ -(2 ^ 63) ≤ k ∧ k < 2 ^ 63 ∧ xs.length * k.toNat ≤ sizeLine ∧
  ∀ p, H p = none → Q (.ref p) (upd H p (.lst (List.replicate k.toNat xs).flatten))
/-! ### del xs[i] -/
end

/-! ### xs[a:b] = ys -/
section
variable {prog : Program} {w : World} {A : Around} {E : Value → Shared → Prop} {s : Shared}
set_option maxRecDepth 100000 in
end

section
variable {X : Cx}
end
end L2

namespace Att
open PySem PySem.W PySem.Calls PyProof.Rows

/-! ### the script -/
theorem ints_of_wellAll {P : Params} {h : Heap} : ∀ (ns : List Int) (vs : List Value), WellAll P h vs (ns.map WData.int) → IntsAre vs ns := by
  intro ns
  induction ns with
  | nil =>
    intro vs w
    rw [List.map_nil] at w
    cases w
    exact .nil
  | cons n ns ih =>
    intro vs w
    rw [List.map_cons] at w
    cases w with
    | cons a b =>
      cases a
      exact .cons _ _ (ih _ b)

theorem script_of {l : OpenLaw} {n : Nat} (hn : l.most = some n) {P : Params} {h : Heap} {args : List WData} {vals : List Value}
    (hpre : l.row.toRowW.claim.pre args = true) (hwl : WellAll P h vals args) :
    ∃ a vs ns, vals = [Value.ref a] ∧ args = [WData.list (ns.map WData.int)] ∧ h.get? a = some { cls := .type "list", data := .seq vs.toArray } ∧ IntsAre vs ns ∧ ns.length ≤ n := by
  have hsh : WShape.hasAll [] args [.list .int] = true := (pre_splitW hpre).1
  have hc : l.pre.holds [] { args := args } = true := (pre_splitW hpre).2
  obtain ⟨d, r, rfl, h1, h2⟩ := hasAllW_cons hsh
  obtain rfl := hasAllW_nil h2
  obtain ⟨xs, rfl, h3⟩ := hasW_list h1
  obtain ⟨ns, rfl⟩ := items_int h3
  have hlen : ns.length ≤ n := by
    unfold OpenLaw.pre at hc
    have h4 : (WTm.not (.lt (.lit (.int (n : Int))) (.len (.arg 0)))).holds [] { args := [.list (ns.map .int)] } = true := by
      have h4 := (holds_andW hc).1
      rw [hn] at h4
      exact h4
    have h5 := condW_of h4 (w_not (w_lt w_lit (w_len_list (w_arg rfl))))
    rw [List.length_map] at h5
    refine Nat.le_of_not_lt fun q => ?_
    have q' : (n : Int) < ((ns.length : Nat) : Int) := by omega
    first
      | (rw [decide_eq_true q'] at h5; exact absurd h5 (by decide))
      | (simp at h5; omega)
  cases hwl with
  | cons w1 w2 =>
    cases w2
    cases w1 with
    | list ho hall => exact ⟨_, _, ns, rfl, rfl, ho, ints_of_wellAll ns _ hall, hlen⟩

theorem post_true (l : OpenLaw) (args : List WData) : l.row.toRowW.claim.post args (.bool true) args = true :=
  postW_of (r := l.row.toRowW) (X := (true == true))
    (show WShape.has [] (.bool true) .bool = true by first | rfl | decide | simp [WShape.has, WShape.arms, WShape.armsAll])
    (show (WTm.eq .res (.lit (.bool true))).value [] { args := args, res := some (.bool true), after := args } = some (.bool (true == true)) from w_eq_bool (w_res rfl) w_lit) rfl

/-! ### the attachment: holds_open's last premise (the goal 'hc' behind k_head) from a wpAny of the law's body -/
/-- the same from a codeAny of the CALL (for a layer whose function contracts speak of calls) -/
theorem attach_call {l : OpenLaw} {n : Nat} {q : Program} {loose : List Str} {XP : (Str → Option Value) → Heap → Prop} {YP : World → Heap → Prop} {d : DefRec}
    (hn : l.most = some n) (hdf : d.params.defaults = [])
    (call : ∀ (w : World) (s₀ s₁ : Shared) (mg mb : Str → Option Value) (fa : Addr) (o : Obj) (pm cd doc : Value) (a : Addr) (vs : List Value) (ns : List Int),
      Ground q loose [] XP w s₀ mg mb s₁.heap → YP w s₁.heap →
      s₁.heap.get? fa = some o → o.data = .func (docDef d.name d.params d.body d.scope pm cd doc) → s₁.heap.CodeRec cd d.name → mg d.name = some (.ref fa) →
      s₁.heap.get? a = some { cls := .type "list", data := .seq vs.toArray } → IntsAre vs ns → ns.length ≤ n → s₁.gens = #[] →
      codeAny (model l.prog w) callerA (.call (.ref fa) ⟨[.ref a], []⟩) (fun r s' => r = .ok (.ret (.bool true)) ∧ OldK s₁.heap s'.heap ∧ s'.os = s₁.os ∧ AllBare s'.gens) s₁) :
    WalkO q loose XP YP l.row.toRowW d [] (fun f vs => PySem.call f vs) := by
  intro w s₀ s₁ mg mb G Y fa o pm cd doc dV kV ho hd hcd hD hmg hg args vals as hpre hlay hrd hwl hlo
  obtain rfl : dV = .none := Dflts.none hD hdf
  obtain rfl : kV = .none := Dflts.noKw hD
  obtain ⟨a, vs, ns, rfl, rfl, hobj, hints, hlen⟩ := script_of hn hpre hwl
  refine enter_call (codeAny_mono (call w s₀ s₁ mg mb fa o pm cd doc a vs ns G Y ho (fd_plain hd) hcd hmg hobj hints hlen hg) fun r s' hq => ?_)
  obtain ⟨rfl, h2, h3, h4⟩ := hq
  exact ⟨.inl ⟨.bool true, .bool true, [], rfl, fun _ => rfl, .bool true, post_true l _, fun _ => ⟨List.Pairwise.nil, fun _ hm => (nomatch hm)⟩⟩, h2, h3, h4⟩

/-! ### rules over ANY heap (no ledger) from facts about the written part K: the library's own take a ledger (News) for what they write -/
section
variable {prog : Program} {w : World} {A : Around} {E : Value → Shared → Prop} {s : Shared} {K : Frag}

/-! the whole heap as the ledger: makes every rule that writes through a ledger a rule over any heap -/
def noObjs (h : Heap) : Heap := { h with objs := #[] }
def ledger (h : Heap) (L d : Addr) : List (Addr × Obj) := (List.range h.objs.size).filterMap fun a => if a = L ∨ a = d then none else (h.get? a).map fun o => (a, o)
end
end Att

namespace L2
open PySem PySem.Spec PyProof.Rows

theorem vals_ints : ∀ {vs : List Value} {ns : List Int}, IntsAre vs ns → Vals (ns.map V.int) vs
  | _, _, .nil => .nil
  | _, _, .cons n t h => .cons ⟨t, rfl⟩ (vals_ints h)

/-- nothing is tracked but the script, known to the object (or it is an object of the module) -/
def Only (H : Hp) : Prop := ∀ b, H b = none ∨ ∃ o xs, H b = some (.frz o (.lst xs))

/-- THE HEAD: the law's promise, at the heap behind the top. F, the promise of the law's def, may use that base is part of the heap (so K.In base, base.Ns mainGlobals mg stand in Mod) -/
theorem law_call {P : Program} {w : World} {K : PySem.W.Frag} {mg mb : Str → Option Value} {CX : CXT} {k : Nat} {fa a : Addr} {fd : FuncData} {x : Str} {sp : Sp} {s₁ : Shared} {vs : List Value} {ns : List Int}
    (KX : K.In s₁.heap) (hns : s₁.heap.Ns mainGlobals mg) (hb : s₁.heap.Ns builtinsNs mb) (hbb : ∀ x : Str, x ≠ "__name__" → mb x = bootBuiltins x) (hlim : s₁.heap.NoLimit) (hg : s₁.gens = #[])
    (ha : s₁.heap.get? a = some { cls := .type "list", data := .seq vs.toArray }) (hi : IntsAre vs ns) (hl : ns.length ≤ sizeLine) (hr : Room k callerA)
    (F : ∀ base : Heap, K.In base → base.Ns mainGlobals mg → FnOk P w K mg base CX k fa fd [x] sp) (hbind : ∀ (s : Shared) (u : Value), BindsTo s fd ⟨[u], []⟩ [(x, u)])
    (hsp : ∀ H : Hp, Only H → SqL K H a (ns.map V.int) → sp [.ref a] H (fun v _ => v = .bl true) fun _ _ _ => False)
    (hCX : ∀ H e s', CX [] H s₁ (fun _ _ _ => False) e s' → False) :
    codeAny (model P w) callerA (.call (.ref fa) ⟨[.ref a], []⟩) (fun r s' => r = .ok (.ret (.bool true)) ∧ OldK s₁.heap s'.heap ∧ s'.os = s₁.os ∧ AllBare s'.gens) s₁ := by
  have rv := vals_ints hi
  have lenV := hi.length
  -- from an abstract heap in which nothing but the script may be tracked
  have core : ∀ H : Hp, Only H → SqL K H a (ns.map V.int) → HOk P w H s₁.heap → (∀ b, H b ≠ none → b = a) → (H a ≠ none → K.lookup a = none) →
      codeAny (model P w) callerA (.call (.ref fa) ⟨[.ref a], []⟩) (fun r s' => r = .ok (.ret (.bool true)) ∧ OldK s₁.heap s'.heap ∧ s'.os = s₁.os ∧ AllBare s'.gens) s₁ := by
    intro H hO hS hok hA hK
    have base_of : ∀ {b : Addr} {o : Obj}, s₁.heap.get? b = some o → H b = none → (hidT s₁.heap H).get? b = some o := fun e n => hidT_get e n
    have noA : ∀ {b : Addr} {o : Obj} {es : Array DictEntry} {ep : Nat}, s₁.heap.get? b = some o → o.data = .dict es ep → H b = none := fun {b o es ep} e d => by
      cases q : H b with
      | none => rfl
      | some u =>
        have e' : b = a := hA b (by rw [q]; simp)
        subst e'
        rw [ha] at e; cases e
        have d' : Data.seq vs.toArray _ = Data.dict es ep := d
        cases d'
    have nsK : ∀ {b : Addr} {m : Str → Option Value}, s₁.heap.Ns b m → (hidT s₁.heap H).Ns b m := fun {b m} ⟨o, es, ep, e, d, r⟩ => ⟨o, es, ep, base_of e (noA e d), d, r⟩
    have hKb : K.In (hidT s₁.heap H) := fun b o e => base_of (KX b o e) (by
      cases q : H b with
      | none => rfl
      | some u =>
        have e' : b = a := hA b (by rw [q]; simp)
        subst e'
        rw [hK (by rw [q]; simp)] at e; cases e)
    have hM : Mod K mg (hidT s₁.heap H) := ⟨hKb, nsK hns, ⟨mb, nsK hb, hbb⟩, let ⟨mc, h1, h2⟩ := hlim; ⟨mc, nsK h1, h2⟩⟩
    have e0 : Env0 P w K mg (hidT s₁.heap H) callerA [] s₁ H := ⟨rfl, hM, fun b o e => of_hidT e, Nat.le_of_eq (hidT_size _ _), trivial, fun b hb => absurd (show b ∈ ([] : List Addr) from hb) (by simp), hok, .of_eq hg⟩
    refine codeAny_mono ((F _ hKb (nsK hns)).run callerA [] s₁ H ⟨[.ref a], []⟩ [.ref a] [.ref a] _ _ hr e0 (hbind s₁ (.ref a)) (.cons rfl .nil) (hsp H hO hS)) fun r s' h => ?_
    cases r with
    | error e => exact (hCX H e s' h).elim
    | ok fl =>
      cases fl with
      | next => exact False.elim h
      | brk => exact False.elim h
      | cont => exact False.elim h
      | ret u =>
        obtain ⟨v, H', os, bare, un, hok', r', q⟩ := h
        have q' : v = .bl true := q
        subst q'
        obtain rfl : u = Value.bool true := r'
        refine ⟨rfl, OldK.of_keep fun b o e => ?_, os, bare⟩
        cases q : H b with
        | none => exact un.keep b o e q (by intro z; exact absurd (show b ∈ ([] : List Addr) from z) (by simp)) (by simp)
        | some u =>
          rcases hO b with z | ⟨ob, xs, z⟩
          · rw [q] at z; cases z
          · have z2 := un.frzs b ob _ z
            obtain ⟨e1, _⟩ := hok b _ z
            obtain ⟨e2, _⟩ := hok' b _ z2
            rw [e] at e1; cases e1
            exact e2
  cases hk : K.lookup a with
  | some o =>
    -- the script is one of the module's own objects
    have e := KX a o hk
    rw [ha] at e
    cases e
    refine core (fun _ => none) (fun _ => .inl rfl) (.inr ⟨_, vs.toArray, _, hk, rfl, rfl, rfl, by rw [List.size_toArray, lenV]; exact hl, by simpa using rv⟩) (fun b u z => by have z' : (none : Option HO) = some u := z; cases z') (fun b z => absurd rfl z) fun z => absurd rfl z
  | none =>
    refine core (fun b => if b = a then some (.frz { cls := .type "list", data := .seq vs.toArray } (.lst (ns.map V.int))) else none) (fun b => ?_) (.inl (.inr ⟨{ cls := .type "list", data := .seq vs.toArray }, if_pos rfl⟩)) (fun b u z => ?_) (fun b z => ?_) fun _ => hk
    · by_cases hb : b = a
      · exact .inr ⟨_, _, if_pos hb⟩
      · exact .inl (if_neg hb)
    · by_cases hb : b = a
      · have z' := (if_pos hb).symm.trans z
        cases z'
        subst hb
        exact ⟨ha, by rw [List.length_map]; exact hl, vs, _, rv, ha⟩
      · have z' := (if_neg hb).symm.trans z
        cases z'
    · by_cases hb : b = a
      · exact hb
      · exact absurd (if_neg hb) z
end L2

namespace L2
open PySem PySem.Spec PyProof.Rows

abbrev KOf {K : PySem.W.Frag} {h : Heap} (_ : K.In h) : PySem.W.Frag := K

/-- the goal that k_head leaves (case hc), from the law's promise. F gives the function object fd (K's own) once, then the promise over every base -/
theorem walk_of {l : PySem.W.OpenLaw} {n k : Nat} {q : Program} {loose : List Str} {XP : (Str → Option Value) → Heap → Prop} {YP : World → Heap → Prop} {d : DefRec} {K : Params → PySem.W.Frag} {CX : World → CXT} {sp : World → Sp} {x : Str}
    (hn : l.most = some n) (hn2 : n ≤ sizeLine) (hdf : d.params.defaults = []) (hr : Room k callerA)
    (hY : ∀ (w : World) (h : Heap), YP w h → (K w.params).In h)
    (F : ∀ (w : World) (mg : Str → Option Value) (fa : Addr) (h : Heap), (K w.params).In h → h.Ns mainGlobals mg → mg d.name = some (.ref fa) →
      ∃ fd : FuncData, (∀ (s : Shared) (u : Value), BindsTo s fd ⟨[u], []⟩ [(x, u)]) ∧
        ∀ base : Heap, (K w.params).In base → base.Ns mainGlobals mg → FnOk l.prog w (K w.params) mg base (CX w) k fa fd [x] (sp w))
    (hsp : ∀ (w : World) (H : Hp) (a : Addr) (ns : List Int), ns.length ≤ n → Only H → SqL (K w.params) H a (ns.map V.int) → sp w [.ref a] H (fun v _ => v = .bl true) fun _ _ _ => False)
    (hCX : ∀ (w : World) (H : Hp) (s : Shared) (e : Value) (s' : Shared), CX w [] H s (fun _ _ _ => False) e s' → False) :
    PySem.W.WalkO q loose XP YP l.row.toRowW d [] (fun f vs => PySem.call f vs) := by
  refine Att.attach_call hn hdf fun w s₀ s₁ mg mb fa o pm cd doc a vs ns G Y ho hd hcd hmg hobj hints hlen hg => ?_
  have KX := hY w _ Y
  obtain ⟨fd, hb, hF⟩ := F w mg fa _ KX G.T.g hmg
  exact law_call KX G.T.g G.T.b G.T.builtins G.T.nolimit hg hobj hints (Nat.le_trans hlen hn2) hr hF hb (fun H hO hS => hsp w H a ns hlen hO hS) fun H e s' => hCX w H s₁ e s'
end L2

/- THE LAST THEOREM (shape; LID, My.* are yours):
   My.Adr: a structure of the addresses that your layer names (classes, functions); My.Txt K t: a structure (Prop) of the equations over K;
   My.txt_mk : {K} {implicit addresses ..} (e1 : nsIn K mainGlobals "law" = some (some (.ref f))) (e2 : K.lookup f = some ⟨oc, od, .func (fnOf "law" "law" params body scope dV kV doc pm an cdv ct), sl⟩) (e3 : codeIn K cdv "law" = true) .. : ∃ t, My.Txt K t

set_option maxRecDepth 100000 in
set_option maxHeartbeats 0 in
theorem PySem.Challenge.cw_LID_holds : PySem.Challenge.rw_LID.Holds := by
  w_on; o_law; k_head; (case hw => w_witness2)
  k_fill
  refine L2.walk_of (l := PySem.Challenge.rw_LID) (n := 63) (k := 40) (x := "script") (CX := fun w => ..) (sp := fun _ => My.sp_law) rfl (by decide) rfl ⟨rfl, by decide, by decide⟩ (fun w h Y => PySem.W.kIn_of Y) ?F ?S ?C
  case F =>
    intro w mg fa h KX G hmg
    have T : ∃ t, My.Txt (L2.KOf KX) t := by
      dsimp only [L2.KOf]                          -- K must stand as «<heap const> w.params» for k_is
      refine' My.txt_mk ?e1 ?e2 ?e3 ..
      (case e1 => PySem.W.k_is)                    -- in the order: a name -> its address -> its object -> its parts
      (case e2 => PySem.W.k_is)
      ..
    obtain ⟨t, T⟩ := T
    have e0 := hmg.symm.trans (PySem.W.mg_of KX G T.law)
    cases e0                                       -- fa is the law's own address
    exact ⟨_, fun s u => .of_eq rfl, fun base kb nb => My.law_fn T kb nb⟩     -- if «.of_eq rfl» comes too early: refine' ⟨_, ?b, fun base kb nb => My.law_fn T kb nb⟩; exact fun s u => .of_eq rfl
  case S => exact fun w H a ns hl hO hS => ..
  case C => exact ..
(the tactic k_is has no namespace: write k_is) -/

/-! SHORT WORDS over the layer: a def of the text, its body, what a loop and a test want. -/
namespace L2
open PySem PySem.Spec PyProof.Rows

/-! ### the text by places -/
/-- the j-th statement of a class's body -/
def inClass (s : Stmt) (j : Nat) : Stmt := match s with
  | .ClassDef _ _ _ body _ _ _ _ _ _ _ => body.getD j (.Pass ⟨0, 0, 0, 0⟩)
  | _ => .Pass ⟨0, 0, 0, 0⟩
def defArgs (s : Stmt) : Arguments := match s with
  | .FunctionDef _ a _ _ _ _ _ _ _ _ => a
  | _ => { posonlyargs := [], args := [], vararg := none, kwonlyargs := [], kw_defaults := [], kwarg := none, defaults := [] }
def defBody (s : Stmt) : List Stmt := match s with
  | .FunctionDef _ _ b _ _ _ _ _ _ _ => b
  | _ => []
def defScope (s : Stmt) : Scope := match s with
  | .FunctionDef _ _ _ _ _ _ sc _ _ _ => sc
  | _ => { kind := .function, names := [], isGenerator := false, isCoroutine := false }

/-! ### no exception leaves a def -/
abbrev CX0 : CXT := fun _ _ _ _ _ _ => False
abbrev E0 : XK := fun _ _ _ => False
theorem pass0 {X : Cx} : Passes CX0 X E0 := fun _ _ _ _ _ _ _ h => h.elim

/-! ### a def (or method) of the text as it stands behind the top -/
structure Fun (K : PySem.W.Frag) (x qual : Str) (st : Stmt) (f : Addr) (fd : FuncData) : Prop where
  ex : ∃ (oc : Value) (od : Option Addr) (kV doc pm : Value) (an : Option Addr) (cdv ct : Value) (osl : Array (Option Value)),
    fd = PySem.W.fnOf x qual (defArgs st) (defBody st) (defScope st) .none kV doc pm an cdv ct ∧ K.lookup f = some ⟨oc, od, .func fd, osl⟩ ∧ PySem.W.codeIn K cdv qual = true
  kp : PySem.W.keepIn K (.ref f) = true
section
variable {P : Program} {w : World} {K : PySem.W.Frag} {mg : Str → Option Value} {base : Heap}
/-- THE RULE for a def: its body as a term of rules, and the reading of that term -/
theorem Fun.ok {x qual : Str} {st : Stmt} {f : Addr} {fd : FuncData} {N ps : List Str} {k : Nat} {sp : Sp} (F : Fun K x qual st f fd) (S : FnScope N ps (defScope st)) (len : ∀ vs H Q E, sp vs H Q E → vs.length = ps.length)
    (hbody : ∀ (cdv : Value) (A : Around) (outer : List Env) (s : Shared) (H : Hp) (vs : List V) (Q : VK) (E : XK), Room k (A.deeper (envOfC qual (defScope st) s.heap.objs.size f cdv)) → sp vs H Q E →
      ∃ t, PSs (cxOf CX0 P w K mg base N qual (defScope st) f cdv A outer s H E).nox (defBody st) t ∧ t { nx := fun _ H' => Q .non H', rt := Q } (start N vs) H) : FnOk P w K mg base CX0 (k + 1) f fd ps sp := by
  obtain ⟨oc, od, kV, doc, pm, an, cdv, ct, osl, rfl, lk, hcd⟩ := F.ex
  refine fn_of lk hcd S len fun A outer s H vs Q E hr hsp => ?_
  obtain ⟨t, h, q⟩ := hbody cdv A outer s H vs Q E hr hsp
  exact ⟨t, h.nox, q⟩
theorem fun_mk {x qual : Str} {st : Stmt} {f : Addr} {oc : Value} {od an : Option Addr} {osl : Array (Option Value)} {kV doc pm cdv ct : Value} (l : K.lookup f = some ⟨oc, od, .func (PySem.W.fnOf x qual (defArgs st) (defBody st) (defScope st) .none kV doc pm an cdv ct), osl⟩)
    (c : PySem.W.codeIn K cdv qual = true) (k : PySem.W.keepIn K (.ref f) = true) : Fun K x qual st f (PySem.W.fnOf x qual (defArgs st) (defBody st) (defScope st) .none kV doc pm an cdv ct) := ⟨⟨oc, od, kV, doc, pm, an, cdv, ct, osl, rfl, l, c⟩, k⟩
end
theorem small1000 {n : Nat} (h : n ≤ 1000) : n < sizeLine := Nat.lt_of_le_of_lt h (by decide)

/-! ### expressions in short: the name that stands in the i-th slot -/
section
variable {X : Cx}
theorem pv (i : Nat) {x : Str} {pos : Pos} (hN : X.N[i]? = some x := by rfl) (hv : Vis X.env.scope x := by first | exact Or.inl rfl | exact Or.inr (Or.inl rfl) | exact Or.inr (Or.inr rfl)) (hd : (x == ("__debug__" : Str)) = false := by decide)
    (hcd : (x == ("__classdict__" : Str)) = false := by decide) : PE X (.Name x pos) (tVar i) := pe_var hN hv hd hcd
end

/-! ### tests -/
theorem iteF {A B : Prop} (h : B) : if false = true then A else B := by
  rw [if_neg Bool.false_ne_true]
  exact h
theorem iteT {A B : Prop} (h : A) : if true = true then A else B := by
  rw [if_pos rfl]
  exact h
theorem ite2 {c A B : Prop} [Decidable c] (h1 : c → A) (h2 : ¬ c → B) : if c then A else B := by
  by_cases h : c
  · rw [if_pos h]
    exact h1 h
  · rw [if_neg h]
    exact h2 h
theorem iteNS {c A B : Prop} [Decidable c] (hc : c) (h : B) : if (!decide c) = true then A else B := by
  rw [decide_eq_true hc]
  exact iteF h

/-! ### heaps -/
/-- all that was tracked is as it was -/
def Same (H H' : Hp) : Prop := ∀ b o, H b = some o → H' b = some o
theorem Same.refl (H : Hp) : Same H H := fun _ _ h => h
theorem Same.trans {H H1 H2 : Hp} (a : Same H H1) (b : Same H1 H2) : Same H H2 := fun c o h => b c o (a c o h)
theorem Same.free {H H' : Hp} (e : Same H H') {l : Addr} (h : H' l = Option.none) : H l = Option.none := by
  cases q : H l with
  | none => rfl
  | some o =>
    rw [e l o q] at h
    cases h
end L2

namespace L2
open PySem PySem.Spec PyProof.Rows

/-! ### lists of pairs as tables -/
section
variable {κ : Type} [DecidableEq κ]
def valV (kvs : List (κ × V)) (k : κ) : Option V := (kvs.find? fun kv => decide (kv.1 = k)).map (·.2)
/-- in its place, or at the end -/
def putK (kvs : List (κ × V)) (k : κ) (v : V) : List (κ × V) :=
  if (kvs.any fun kv => decide (kv.1 = k)) = true then kvs.map (fun kv => if kv.1 = k then (kv.1, v) else kv) else kvs ++ [(k, v)]
def dropK (kvs : List (κ × V)) (k : κ) : List (κ × V) := kvs.filter fun kv => decide (kv.1 ≠ k)

end


/-! ### a tracked dict, its keys ints and texts or tuples of these -/
/-- raw entries of a dict with tuple keys -/
abbrev KT (H : Hp) : List (List Key × V) → List (List Key × Addr × Value) → Prop := Paired fun p q => p.1 = q.1 ∧ H q.2.1 = some (.tup (p.1.map kV)) ∧ RelV p.2 q.2.2
section
variable {P : Program} {w : World} {H : Hp} {h : Heap} {a : Addr}
end

/-- what the dict at a holds at the key y -/
def DGet (H : Hp) (a : Addr) (y : V) (r : Option V) : Prop :=
  (∃ kvs k, Rd H a (.dK kvs) ∧ y = kV k ∧ r = valV kvs k) ∨ ∃ kvs k b, Rd H a (.dT kvs) ∧ y = .ref b ∧ H b = some (.tup (k.map kV)) ∧ r = valV kvs k
/-- the heap behind a[y] = v -/
def DPut (H : Hp) (a : Addr) (y v : V) (H' : Hp) : Prop :=
  (∃ kvs k, H a = some (.dK kvs) ∧ y = kV k ∧ kvs.length < sizeLine ∧ H' = upd H a (.dK (putK kvs k v))) ∨
  ∃ kvs k b, H a = some (.dT kvs) ∧ y = .ref b ∧ H b = some (.tup (k.map kV)) ∧ kvs.length < sizeLine ∧ H' = upd H a (.dT (putK kvs k v))
section
variable {X : Cx} {pins : List (Addr × Obj)} {σ : St} {H : Hp} {s : Shared} {a : Addr} {y v : V} {u r : Value} {o : Option V} {A : Around} {E : Value → Shared → Prop}

theorem Inv.big (I : Inv X pins σ H s) : sysModules < s.heap.objs.size := by
  have h : mainGlobals < s.heap.objs.size := (I.mod.glob.keeps I.bk).lt
  exact Nat.lt_trans (by decide) h

end

section
variable {X : Cx} {pins : List (Addr × Obj)} {σ : St} {H : Hp} {s : Shared} {a : Addr} {kvs : List (Key × V)} {k : Key} {u : Value} {A : Around} {E : Value → Shared → Prop}
end


/-! ### readings and rules -/
/-- the element of a subscription, not a slice -/
def NoSl (i : Expr) : Prop := ∀ ov iv, subscripted i false ov iv = operate [ov, iv] (getItem ov iv)
/-- d[y] -/
def tDGet (td ty : TE) : TE := fun σ H Q => td σ H fun x H1 => ty σ H1 fun y H2 => ∃ a v, x = .ref a ∧ DGet H2 a y (some v) ∧ Q v H2
/-- y in d, y not in d -/
def tDIn (ty td : TE) : TE := fun σ H Q => ty σ H fun y H1 => td σ H1 fun x H2 => ∃ a o, x = .ref a ∧ DGet H2 a y o ∧ Q (.bl o.isSome) H2
def tDNotIn (ty td : TE) : TE := fun σ H Q => ty σ H fun y H1 => td σ H1 fun x H2 => ∃ a o, x = .ref a ∧ DGet H2 a y o ∧ Q (.bl (!o.isSome)) H2
/-- d[y] = v -/
def sDPut (td ty tv : TE) : TS := fun D σ H => tv σ H fun v H1 => td σ H1 fun x H2 => ty σ H2 fun y H3 => ∃ a H4, x = .ref a ∧ DPut H3 a y v H4 ∧ D.nx σ H4
/-- d[y] op= v -/
def sDAug (td ty tv : TE) (rd : V → V → Hp → VK → Prop) : TS := fun D σ H => td σ H fun x H1 => ty σ H1 fun y H2 => ∃ a v, x = .ref a ∧ DGet H2 a y (some v) ∧
  tv σ H2 fun y2 H3 => rd v y2 H3 fun z H4 => ∃ H5, DPut H4 a y z H5 ∧ D.nx σ H5
/-- del d[y] -/
def sDDel (td ty : TE) : TS := fun D σ H => td σ H fun x H1 => ty σ H1 fun y H2 => ∃ a kvs k, x = .ref a ∧ H2 a = some (.dK kvs) ∧ y = kV k ∧ (valV kvs k).isSome = true ∧ D.nx σ (upd H2 a (.dK (dropK kvs k)))

section
variable {X : Cx} {o i e value : Expr} {pos pos' tpos : Pos} {td ty tv : TE}
end


/-! ### displays -/
theorem dk_empty {P : Program} {w : World} {H : Hp} (h : Heap) (hb : sysModules < h.objs.size) : ObjOk P w H (h.push { cls := .type "dict", data := .dict #[] }) h.objs.size (.dK []) :=
  ⟨Nat.zero_le _, beq_eq_false_iff_ne.mpr (Ne.symm (Nat.ne_of_lt hb)), [], .nil, Heap.DictOf.new h⟩
/-- {}, to be a dict of the kind that is wanted -/
def tDNewK : TE := fun _ H Q => ∀ p, H p = none → Q (.ref p) (upd H p (.dK []))
def tDNewT : TE := fun _ H Q => ∀ p, H p = none → Q (.ref p) (upd H p (.dT []))
section
variable {X : Cx} {pos : Pos}
theorem pe_dnewK : PE X (.Dict [] [] pos) tDNewK := fun pins s σ H Q I h =>
  wpAny_Dict_empty ⟨.ref s.heap.objs.size, _, I.laid (a := s.heap.objs.size) (o := .dK []) (t' := s.toks) (fun _ _ q => Heap.get?_push_of_some _ q) (Nat.le_refl _) (dk_empty s.heap I.big), rfl, h _ (I.hok.fresh (Nat.le_refl _))⟩
end

/-- the pairs of a display, from the left -/
def tPairs : List (TE × TE) → St → Hp → (List (V × V) → Hp → Prop) → Prop
  | [], _, H, Q => Q [] H
  | (tk, tv) :: r, σ, H, Q => tk σ H fun x H1 => tv σ H1 fun y H2 => tPairs r σ H2 fun ps H3 => Q ((x, y) :: ps) H3
abbrev VV : List (V × V) → List (Value × Value) → Prop := Paired fun p q => RelV p.1 q.1 ∧ RelV p.2 q.2
def PPs (X : Cx) (pos : Pos) (keys : List (Option Expr)) (values : List Expr) (trs : List (TE × TE)) : Prop :=
  ∀ (pins : List (Addr × Obj)) (s : Shared) (σ : St) (H : Hp) (Q : List (V × V) → Hp → Prop), Inv X pins σ H s → tPairs trs σ H Q →
    wpAny (model X.prog X.w) X.A (evalPairs (pairTrees keys values X.env pos)) (fun vs s' => ∃ ps H', Inv X pins σ H' s' ∧ VV ps vs ∧ Q ps H') X.xe s
def mergeK (kvs more : List (Key × V)) : List (Key × V) := more.foldl (fun acc kv => putK acc kv.1 kv.2) kvs
/-- {k: v, ..} with keys ints and texts; the new dict stands empty while the pairs are made -/
def tDisp (trs : List (TE × TE)) : TE := fun σ H Q => ∀ p, H p = none → tPairs trs σ (upd H p (.dK [])) fun ps H2 => H2 p = some (.dK []) ∧ ∃ kvs : List (Key × V), ps = kvs.map (fun kv => (kV kv.1, kv.2)) ∧ kvs.length ≤ 15 ∧ Q (.ref p) (upd H2 p (.dK (mergeK [] kvs)))
end L2
/-! my own rules over the layer: the glue of defs, floor division by great numbers, isinstance, is, tuples -/
namespace L2
open PySem PySem.Spec PyProof.Rows

theorem same_new {H : Hp} {p : Addr} (h : H p = none) (o : HO) : Same H (upd H p o) := fun b u q => by rw [upd_ne (ne_of_none q h)]; exact q
/-- a def of the top, by its name -/
structure Def (K : PySem.W.Frag) (mg : Str → Option Value) (x : Str) (st : Stmt) (ps : List Str) : Prop where
  ex : ∃ (f : Addr) (fd : FuncData), Fun K x x st f fd ∧ (∀ us : List Value, us.length = ps.length → bindArgs fd ⟨us, []⟩ = pure (ps.zip us)) ∧ mg x = some (.ref f)
theorem def_mk {K : PySem.W.Frag} {h : Heap} {mg : Str → Option Value} {x : Str} {st : Stmt} {ps : List Str} {f : Addr} {oc : Value} {od an : Option Addr} {osl : Array (Option Value)} {kV doc pm cdv ct : Value}
    (KX : K.In h) (G : h.Ns mainGlobals mg) (a : PySem.W.nsIn K mainGlobals x = some (some (.ref f)))
    (l : K.lookup f = some ⟨oc, od, .func (PySem.W.fnOf x x (defArgs st) (defBody st) (defScope st) .none kV doc pm an cdv ct), osl⟩)
    (c : PySem.W.codeIn K cdv x = true) (k : PySem.W.keepIn K (.ref f) = true)
    (b : ∀ (kV doc pm : Value) (an : Option Addr) (cdv ct : Value) (us : List Value), us.length = ps.length → bindArgs (PySem.W.fnOf x x (defArgs st) (defBody st) (defScope st) .none kV doc pm an cdv ct) ⟨us, []⟩ = pure (ps.zip us)) :
    Def K mg x st ps := ⟨f, _, fun_mk l c k, b kV doc pm an cdv ct, PySem.W.mg_of KX G a⟩

/-- what a caller knows of a def -/
structure Cal (P : Program) (w : World) (K : PySem.W.Frag) (mg : Str → Option Value) (base : Heap) (k : Nat) (x : Str) (ps : List Str) (sp : Sp) : Prop where
  ex : ∃ (f : Addr) (fd : FuncData), FnOk P w K mg base CX0 k f fd ps sp ∧ Binds K fd ps [] ∧ PySem.W.keepIn K (.ref f) = true ∧ mg x = some (.ref f)
theorem Def.cal {P : Program} {w : World} {K : PySem.W.Frag} {mg : Str → Option Value} {base : Heap} {k : Nat} {x : Str} {st : Stmt} {ps : List Str} {sp : Sp} (d : Def K mg x st ps)
    (F : ∀ (f : Addr) (fd : FuncData), Fun K x x st f fd → FnOk P w K mg base CX0 k f fd ps sp) : Cal P w K mg base k x ps sp := by
  obtain ⟨f, fd, h1, h2, h3⟩ := d.ex
  exact ⟨f, fd, F f fd h1, .all h2, h1.kp, h3⟩
section
variable {X : Cx} {k : Nat} {x : Str} {ps : List Str} {sp : Sp} {p pos : Pos} {e : Expr} {es : List Expr} {t : TA}
/-- f(..), f a def of the top -/
theorem pe_fn (c : Cal X.prog X.w X.K X.mg X.base k x ps sp) (hr : Room k X.A) (hg : Gl X x) (ha : PA X (e :: es) t) (hdb : (x == ("__debug__" : Str)) = false := by decide)
    (he : starEach (e :: es) X.env = (false, eval e X.env) :: starEach es X.env := by rfl) (hpl : (backTo pos (starEach es X.env)).any (·.1) = false := by rfl) :
    PE X (.Call (.Name x p) (e :: es) [] pos) (tCall sp [] E0 t) := by
  obtain ⟨f, fd, F, B, kp, m⟩ := c.ex
  exact pe_call F hr hg m kp B .nil pass0 ha hdb he hpl
end

/-- the law's own promise -/
def spLaw (K : PySem.W.Frag) : Sp := fun vs H Q _ => ∃ (a : Addr) (ns : List Int), vs = [.ref a] ∧ SqL K H a (ns.map V.int) ∧ ns.length ≤ 63 ∧ Only H ∧ ∀ H', Q (.bl true) H'
theorem law_mk {P : Program} {w : World} {K : PySem.W.Frag} {mg : Str → Option Value} {k : Nat} {st : Stmt} {fa : Addr} (d : Def K mg "law" st ["_law_script"])
    (F : ∀ (base : Heap) (f : Addr) (fd : FuncData), Fun K "law" "law" st f fd → FnOk P w K mg base CX0 k f fd ["_law_script"] (spLaw K)) (hmg : mg "law" = some (.ref fa)) :
    ∃ fd : FuncData, (∀ (s : Shared) (u : Value), BindsTo s fd ⟨[u], []⟩ [("_law_script", u)]) ∧ ∀ base : Heap, K.In base → base.Ns mainGlobals mg → FnOk P w K mg base CX0 k fa fd ["_law_script"] (spLaw K) := by
  obtain ⟨f, fd, h1, h2, h3⟩ := d.ex
  have e := hmg.symm.trans h3
  cases e
  exact ⟨fd, fun s u => .of_eq (h2 [u] rfl), fun base _ _ => F base _ _ h1⟩
theorem walkL {l : PySem.W.OpenLaw} {k : Nat} {q : Program} {loose : List Str} {XP : (Str → Option Value) → Heap → Prop} {YP : World → Heap → Prop} {d : DefRec} {K : Params → PySem.W.Frag} (hr : Room k callerA) (hn : l.most = some 63) (hdf : d.params.defaults = [])
    (hY : ∀ (w : World) (h : Heap), YP w h → (K w.params).In h)
    (F : ∀ (w : World) (mg : Str → Option Value) (fa : Addr) (h : Heap), (K w.params).In h → h.Ns mainGlobals mg → mg d.name = some (.ref fa) →
      ∃ fd : FuncData, (∀ (s : Shared) (u : Value), BindsTo s fd ⟨[u], []⟩ [("_law_script", u)]) ∧ ∀ base : Heap, (K w.params).In base → base.Ns mainGlobals mg → FnOk l.prog w (K w.params) mg base CX0 k fa fd ["_law_script"] (spLaw (K w.params))) :
    PySem.W.WalkO q loose XP YP l.row.toRowW d [] (fun f vs => PySem.call f vs) :=
  walk_of (n := 63) (k := k) (x := "_law_script") (CX := fun _ => CX0) (sp := fun w => spLaw (K w.params)) hn (by decide) hdf hr hY F (fun _ _ a ns hl hO hS => ⟨a, ns, rfl, hS, hl, hO, fun _ => rfl⟩) fun _ _ _ _ _ z => z

section
variable {X : Cx}
theorem log2_small {n : Nat} (h : n < 10 ^ 60) : n.log2 < 9000 := by
  by_cases h0 : n = 0
  · subst h0; decide
  · have h1 : n.log2 < 200 := (Nat.log2_lt h0).mpr (Nat.lt_of_lt_of_le h (by decide))
    omega
/-- // by a positive number of at most sixty digits -/
theorem op_fdivB : OpR X (binaryOp .FloorDiv) (rI (fun _ j => 0 < j ∧ j < 10 ^ 60) fun i j => .int (i / j)) := opI fun i j _ _ _ _ _ hc q => by
  have h1 : (0 : Int) < j := hc.1
  have h2 : j < 10 ^ 60 := hc.2
  exact floordiv_int (by omega) (by rw [Int.fdiv_eq_ediv_of_nonneg i (by omega)]; exact q) (.inl (PyProof.noPylong_of_log2 (log2_small (by omega))))
/-- isinstance(x, T), T a built-in's name -/
theorem call_isi : CallR X (.builtin "isinstance") (fun xs H Q => ∃ x c t b, xs = [x, .ty c] ∧ TyOf X.K H x t ∧ PySem.W.kitOne X.K t (.type c) = some b ∧ Q (.bl b) H) := by
  intro pins s σ H xs us Q I r h
  obtain ⟨x, c, t, b, rfl, ty, e, q⟩ := h
  obtain ⟨u, w', rfl, ru, rw'⟩ := vals2 r
  cases rw'
  exact isinst_ok I ru ty e fun tk => ⟨.bl b, H, I.tok tk, rfl, q⟩
end
section
theorem bt_int : bootBuiltins "int" = some (.type "int") := by decide +kernel
theorem bt_str : bootBuiltins "str" = some (.type "str") := by decide +kernel
theorem bt_len : bootBuiltins "len" = some (.builtin "len") := by decide +kernel
theorem bt_isinstance : bootBuiltins "isinstance" = some (.builtin "isinstance") := by decide +kernel
theorem bt_all : bootBuiltins "all" = some (.builtin "all") := by decide +kernel
end
section
variable {K : PySem.W.Frag}
theorem kit_int_str : PySem.W.kitOne K (.type "int") (.type "str") = some false := by kernel_rfl
theorem kit_str_str : PySem.W.kitOne K (.type "str") (.type "str") = some true := by kernel_rfl
end

/-! ### heaps: all kept but one -/
def Keep (p : Addr) (H H' : Hp) : Prop := ∀ b o, b ≠ p → H b = some o → H' b = some o
theorem Keep.refl (p : Addr) (H : Hp) : Keep p H H := fun _ _ _ h => h
theorem Keep.trans {p : Addr} {H H1 H2 : Hp} (a : Keep p H H1) (b : Keep p H1 H2) : Keep p H H2 := fun c o n h => b c o n (a c o n h)
theorem Keep.same {p : Addr} {H H' : Hp} (s : Same H H') : Keep p H H' := fun b o _ h => s b o h
theorem Keep.set (p : Addr) (H : Hp) (o : HO) : Keep p H (upd H p o) := fun b u n h => by rw [upd_ne n]; exact h
theorem Keep.new {p q : Addr} {H : Hp} (h : H q = none) (o : HO) : Keep p H (upd H q o) := .same (same_new h o)
theorem sz {n : Nat} (h : n ≤ 1000) : n ≤ sizeLine := Nat.le_of_lt (small1000 h)
theorem szb {n : Nat} (h : Nat.ble n 1000 = true) : n ≤ sizeLine := sz (Nat.le_of_ble_eq_true h)
theorem atI_ints {l : List Int} {i : Int} (h0 : 0 ≤ i) (h1 : i < (l.length : Int)) : ∃ v, v ∈ l ∧ atI (l.map V.int) i = some (.int v) := by
  have hk : i.toNat < l.length := by omega
  have ek : i = ((i.toNat : Nat) : Int) := by omega
  have q : atI (l.map V.int) ((i.toNat : Nat) : Int) = some (.int l[i.toNat]) := atI_nat (by rw [List.getElem?_map, List.getElem?_eq_getElem hk] <;> rfl)
  rw [← ek] at q
  exact ⟨l[i.toNat], List.getElem_mem hk, q⟩
end L2
/-! my own rules over the layer: a list comprehension whose element may change things -/
namespace L2
open PySem PySem.Spec PyProof.Rows

/-- the kinds of the names of a comprehension's block within a def of that scope -/
def relN (scope sc0 : Scope) : List (Str × NameKind) := scope.names.map fun (n, k) => if (k == .free && sc0.kind == .function && sc0.names.lookup n == some .cell) then (n, .cell) else (n, k)
def CellsIn (env : Env) : List (Str × Addr) → Prop
  | [] => True
  | (n, c) :: r => env.cells.lookup n = some c ∧ CellsIn env r
theorem CellsIn.look {env : Env} : ∀ {cl : List (Str × Addr)} {n : Str} {c : Addr}, CellsIn env cl → cl.lookup n = some c → env.cells.lookup n = some c
  | [], _, _, _, h => by cases h
  | (m, d) :: r, n, c, hc, h => by
    rw [List.lookup_cons] at h
    cases hx : n == m with
    | true =>
      rw [hx] at h
      cases h
      rw [eq_of_beq hx]
      exact hc.1
    | false =>
      rw [hx] at h
      exact CellsIn.look hc.2 h
theorem look_of_mem {cl : List (Str × Addr)} {n : Str} (h : n ∈ cl.map (·.1)) : ∃ c, cl.lookup n = some c := by
  induction cl with
  | nil => cases h
  | cons p r ih =>
    obtain ⟨m, d⟩ := p
    rw [List.lookup_cons]
    cases hx : n == m with
    | true => exact ⟨d, rfl⟩
    | false =>
      rcases List.mem_cons.mp h with e | e
      · have e' : n = m := e
        rw [e', beq_self_eq_true] at hx
        cases hx
      · exact ih e
structure CompOk (scope sc0 : Scope) (x : Str) (N cn : List Str) : Prop where
  has : ∀ p ∈ relN scope sc0, (p.2 = .cell ∨ p.2 = .free) → p.1 ∈ cn
  nc : ∀ p ∈ scope.names, p.2 ≠ .cell
  names : ∀ p ∈ scope.names, p.2 = .local → scope.names.lookup p.1 = some .local
  hx : scope.names.lookup x = some .local
  hx' : (relN scope sc0).lookup x = some .local
  nd : (x :: N).Nodup
  frs : ∀ y ∈ N, (relN scope sc0).lookup y = some .cell ∧ sc0.names.lookup y = some .cell ∧ y ∈ cn

/-- the context of a comprehension's block -/
def compCx (X : Cx) (scope : Scope) (cl : List (Str × Addr)) (C : Addr) (x : Str) (N : List Str) (s₂ : Shared) (H₂ : Hp) (fp : List Addr) : Cx where
  prog := X.prog
  w := X.w
  K := X.K
  mg := X.mg
  base := X.base
  A := X.A
  N := x :: N
  s₀ := s₂
  H₀ := H₂
  env := compEnvC scope cl C X.env
  outer := X.stack
  stack := X.stack
  ex := fp
  fn := fun _ => false
  calm := X.calm
  pn := []
  xe := fun _ _ => False

/-- the reading: W the invariant by the turn, a measure, the items so far -/
def tComp (wi : TI) (te : TE) (fr : List Nat) : TE := fun σ H Q => wi σ H fun J H1 => ∀ D, H1 D = none → ∃ W : Nat → Nat → List V → Hp → Prop, (∃ m, W 0 m [] (upd H1 D (.lst []))) ∧
  ∀ i m ys H2, W i m ys H2 → H2 D = some (.lst ys) ∧ ((J.stop i H2 ∧ Q (.ref D) H2) ∨ (J.go i H2 ∧ ys.length < sizeLine ∧ ∃ N : V → Hp → Prop, (∀ y H3, N y H3 → H3 D = some (.lst ys) ∧ ∃ m', m' < m ∧ W (i + 1) m' (ys ++ [y]) (upd H3 D (.lst (ys ++ [y])))) ∧
    ∀ x H', J.yld i H2 x H' → te (some x :: fr.map fun j => (σ[j]?).getD none) H' N))

section
variable {prog : Program} {w : World} {A : Around} {R : Result → Shared → Prop} {s : Shared}
theorem compLoop_any {elt target iter : Expr} {scope : Scope} {pos : Pos} {it acc : Value} {env : Env} (I : Nat → Shared → Prop)
    (turn : ∀ n s, I n s → wpAny (model prog w) A (pyNext it) (fun r s₁ => match r with
      | none => R (.ok .next) s₁
      | some v => wpAny (model prog w) A (letOwnedTupleGo target it v) (fun _ s₁' => wpAny (model prog w) A (assign target env v) (fun _ s₂ => wpAny (model prog w) A (eval elt env) (fun x s₃ =>
          wpAny (model prog w) A (call (.builtin "list.append") [acc, x]) (fun _ s₄ => ∃ m, m < n ∧ I m s₄) (notedBy (model prog w) A env fun e s' => R (.error e) s') s₃)
          (notedBy (model prog w) A env fun e s' => R (.error e) s') s₂) (notedBy (model prog w) A env fun e s' => R (.error e) s') s₁') (notedBy (model prog w) A env fun e s' => R (.error e) s') s₁) (notedBy (model prog w) A env fun e s' => R (.error e) s') s)
    (n : Nat) (h : I n s) :
    codeAny (model prog w) A (.compLoop (.ListComp elt [⟨target, iter, [], 0⟩] scope pos) 0 it acc env) R s := by
  refine codeAny_loop rfl I (fun n s hI => ?_) n h
  show wpAny _ _ ((compTurn (.ListComp elt [⟨target, iter, [], 0⟩] scope pos) 0 it acc env).onRaise (fun x => do noteFrame x env; theTreesLotGoes x)) _ _ s
  refine wpAny_noted ?_
  rw [compTurn_list1]
  refine wpAny_bind (wpAny_standAt (wpAny_bind (wpAny_mono (turn n s hI) (fun r s₁ h₁ => ?_) fun _ _ h' => h')))
  cases r with
  | none => exact wpAny_pure h₁
  | some v =>
    exact wpAny_bind (wpAny_mono h₁ (fun _ s₁' h₁' => wpAny_bind (wpAny_mono h₁' (fun _ s₂ h₂ => wpAny_bind (wpAny_bind (wpAny_mono h₂ (fun x s₃ h₃ => wpAny_bind (wpAny_mono h₃
      (fun _ s₄ h₄ => wpAny_pure (wpAny_pure ⟨rfl, h₄⟩)) fun _ _ h' => h')) fun _ _ h' => h'))) fun _ _ h' => h')) fun _ _ h' => h')
end

theorem lookup_mem {α : Type} : ∀ {l : List (Str × α)} {x : Str} {a : α}, l.lookup x = some a → (x, a) ∈ l := fun h => PySem.mem_of_lookup h

theorem comp_core {X : Cx} {elt iter : Expr} {x : Str} {px pos : Pos} {scope sc0 : Scope} {cl : List (Str × Addr)} {cn N : List Str} {fr : List Nat} {te : TE} {pins : List (Addr × Obj)} {σ : St} {H2 : Hp} {s2 : Shared} {it : Addr} {fp : List Addr}
    {tn : Nat → Heap → Prop} {J : It} {RR : Value → Addr → Result → Shared → Prop} {R : Hp → Prop} {E : Value → Shared → Prop} {W : Nat → Nat → List V → Hp → Prop} {m0 : Nat}
    (hc : X.calm = true) (he : ∀ (C : Addr) (s₂ : Shared) (H₂ : Hp) (fp : List Addr), PE (compCx X scope cl C x N s₂ H₂ fp) elt te)
    (hcl : CellsIn X.env cl) (hcn : cl.map (·.1) = cn) (hsc : X.env.scope = sc0) (hk : scope.kind = .function) (hok : CompOk scope sc0 x N cn) (hfr : fr.map (fun j => X.N[j]?) = N.map some)
    (I2 : Inv X pins σ H2 s2) (T : Turn X.prog X.w X.K (.Name x px) J fp it tn) (st2 : tn 0 s2.heap) (f2 : ∀ b ∈ fp, FpOk X pins H2 b)
    (w0 : W 0 m0 [] (upd H2 s2.heap.objs.size (.lst [])))
    (turn : ∀ i m ys H, W i m ys H → H s2.heap.objs.size = some (.lst ys) ∧ ((J.stop i H ∧ R H) ∨ (J.go i H ∧ ys.length < sizeLine ∧ ∃ N : V → Hp → Prop,
      (∀ y H3, N y H3 → H3 s2.heap.objs.size = some (.lst ys) ∧ ∃ m', m' < m ∧ W (i + 1) m' (ys ++ [y]) (upd H3 s2.heap.objs.size (.lst (ys ++ [y])))) ∧
      ∀ x H', J.yld i H x H' → te (some x :: fr.map fun j => (σ[j]?).getD none) H' N)))
    (hRR : ∀ (C : Addr) (H6 : Hp) (s6 : Shared) (m6 : Str → Option Value), s6.heap.Ns C m6 → Inv X pins σ H6 s6 → FpOk X pins H6 C → R H6 → RR (.ref s2.heap.objs.size) C (.ok .next) s6) :
    wpAny (model X.prog X.w) X.A (newList []) (fun acc s₃ => wpAny (model X.prog X.w) X.A (newFunctionEnv scope X.env.globals cl [] X.env.qual none .none (some X.env)) (fun cenv s₄ =>
      codeAny (model X.prog X.w) X.A (.compStart (.ListComp elt [⟨.Name x px, iter, [], 0⟩] scope pos) 0 (.ref it) acc { cenv with scope := relabel scope X.env }) (RR acc cenv.locals) s₄) E s₃) E s2 := by
  refine wpAny_newObj_type (wpAny_newFunctionEnv hok.nc (by intro y hy; simp at hy) (fun h4 hns hsb => ?_) hk)
  dsimp only at hns hsb ⊢
  have rel : ∀ y, (compEnvC scope cl 0 X.env).scope.names.lookup y = (relN scope sc0).lookup y := fun y => by
    show (relabel scope X.env).names.lookup y = _
    unfold relabel relN Env.kindOf
    rw [hsc]
  generalize hD : s2.heap.objs.size = D at *
  have I3 : Inv X pins σ (upd H2 D (.lst [])) { s2 with heap := s2.heap.push { cls := .type "list", dict := none, data := .seq ([] : List Value).toArray } } :=
    I2.laid (t' := s2.toks) (fun b u e => Heap.get?_push_of_some _ e) (Nat.le_of_eq hD) ⟨Nat.zero_le _, [], 0, .nil, by rw [← hD]; exact Heap.get?_push_size _ rfl⟩
  have k23 : ∀ b u, s2.heap.get? b = some u → (s2.heap.push { cls := .type "list", dict := none, data := .seq ([] : List Value).toArray }).get? b = some u := fun b u e => Heap.get?_push_of_some _ e
  have hsz : s2.heap.objs.size ≤ (s2.heap.push { cls := .type "list", dict := none, data := .seq ([] : List Value).toArray }).objs.size := by rw [Heap.size_push]; exact Nat.le_succ _
  generalize hh3 : s2.heap.push { cls := .type "list", dict := none, data := .seq ([] : List Value).toArray } = h3 at *
  have k34 : ∀ b u, h3.get? b = some u → h4.get? b = some u := fun b u e => (hsb.2 b (Nat.ne_of_lt (Heap.lt_size e))).trans (Heap.get?_push_of_some _ e)
  generalize hC : h3.objs.size = C at *
  have I4 : Inv X pins σ (upd H2 D (.lst [])) { s2 with heap := h4, toks := s2.toks + ([] : List (Str × Value)).length } := I3.kept (t' := s2.toks + 0) k34
  generalize hH3 : upd H2 D (.lst []) = H3 at *
  have ltC : ∀ b o, s2.heap.get? b = some o → b < C := fun b o e => Nat.lt_of_lt_of_le (Heap.lt_size e) hsz
  have lenF : fr.length = N.length := by simpa using congrArg List.length hfr
  have fpo : ∀ b ∈ fp, b ≠ C ∧ b ∉ frs X.stack := fun b hb => by
    obtain ⟨o, e, _⟩ := T.obj 0 s2.heap st2 b hb
    refine ⟨Nat.ne_of_lt (ltC b o e), fun z => ?_⟩
    obtain ⟨_, n1, n2, _⟩ := f2 b hb
    rcases List.mem_cons.mp (I2.stkSub b z) with q | q
    · exact n1 q
    · exact n2 q
  have H3C : H3 C = none := I3.hok.fresh (Nat.le_of_eq hC)
  have okX : (compCx X scope cl C x N { s2 with heap := h3 } H3 fp).Ok := by
    refine ⟨I2.ok.mod, hk, I2.ok.glob, I2.ok.blt, Nat.le_of_eq hC, fun y z c e1 e2 => I2.ok.inj y z c (hcl.look e1) (hcl.look e2), fun y hy => ?_, fun y c z => (Bool.false_ne_true z).elim, fun z => I2.ok.hd z, I2.ok.frames, .inl rfl,
      fun b hb => ⟨(fpo b hb).1, fun y c e => (f2 b hb).2.2.2.2.1 y c (hcl.look e)⟩, fun b o e => I3.bs b o e, Nat.le_trans I2.ok.bsz I3.sz, fun b o e hb => ?_, fun b hb => (fpo b hb).2, I3.stack, I3.stkFree⟩
    · have hy' : (relN scope sc0).lookup y = some .cell ∨ (relN scope sc0).lookup y = some .free := by
        rcases hy with hy | hy
        · exact .inl ((rel y).symm.trans hy)
        · exact .inr ((rel y).symm.trans hy)
      have hm : y ∈ cn := by
        rcases hy' with q | q
        · exact hok.has (y, .cell) (lookup_mem q) (.inl rfl)
        · exact hok.has (y, .free) (lookup_mem q) (.inr rfl)
      exact look_of_mem (cl := cl) (n := y) (by rw [hcn]; exact hm)
    · rcases (f2 b hb).2.2.2.1 with z | z
      · exact I2.ok.noex b o e z
      · exact absurd (Nat.lt_of_lt_of_le (Heap.lt_size e) (Nat.le_trans I2.ok.bsz z)) (Nat.lt_irrefl _)
  have I5 : Inv (compCx X scope cl C x N { s2 with heap := h3 } H3 fp) [] (none :: fr.map fun j => (σ[j]?).getD none) H3 { s2 with heap := h4, toks := s2.toks + ([] : List (Str × Value)).length } := by
    refine ⟨okX, rfl, I4.bare, Un.kept k34, ⟨_, hns, fun i y v e1 e2 e3 => ?_⟩, fun y c e => I4.cell y c (hcl.look e), H3C, fun y c e => I4.freeC y c (hcl.look e), fun p hp => absurd (show p ∈ ([] : List (Addr × Obj)) from hp) (by simp), I4.hok, by simp [compCx, lenF]⟩
    cases i with
    | zero => cases e2
    | succ j =>
      have e1' : N[j]? = some y := e1
      have e2' : (fr.map fun j => (σ[j]?).getD none)[j]? = some (some v) := e2
      obtain ⟨k, ek⟩ : ∃ k, fr[j]? = some k := by
        have : j < fr.length := by rw [lenF]; exact (List.getElem?_eq_some_iff.mp e1').1
        exact ⟨fr[j], List.getElem?_eq_getElem this⟩
      rw [List.getElem?_map, ek] at e2'
      have e2'' : (σ[k]?).getD none = some v := Option.some.inj e2'
      have eσ : σ[k]? = some (some v) := by
        cases q : σ[k]? with
        | none => rw [q] at e2''; cases e2''
        | some o => rw [q] at e2''; exact congrArg some e2''
      have eN : X.N[k]? = some y := by
        have z := congrArg (fun l => l[j]?) hfr
        simp only [List.getElem?_map, ek, e1', Option.map_some] at z
        exact Option.some.inj z
      obtain ⟨r1, r2, r3⟩ := hok.frs y (List.mem_of_getElem? e1')
      obtain ⟨m, _, hl⟩ := I4.loc
      obtain ⟨u, ru, look⟩ := hl k y v eN eσ (.inr (.inl (by rw [hsc]; exact r2)))
      refine ⟨u, ru, .inr ⟨.inl ((rel y).trans r1), ?_⟩⟩
      rcases look with ⟨l1, _⟩ | ⟨_, c, l1, l2⟩
      · exfalso
        have l1' : X.env.scope.names.lookup y = some .local := l1
        rw [hsc, r2] at l1'
        cases l1'
      · obtain ⟨c', l3⟩ := look_of_mem (cl := cl) (n := y) (by rw [hcn]; exact r3)
        have l4 := hcl.look l3
        rw [l1] at l4
        cases l4
        exact ⟨c, l3, l2⟩
  have st4 : tn 0 h4 := T.keep 0 s2.heap h4 st2 fun b hb o e => k34 b o (k23 b o e)
  have fp5 : ∀ {H' : Hp}, (∀ b ∈ fp, H' b = none) → ∀ b ∈ fp, FpOk (compCx X scope cl C x N { s2 with heap := h3 } H3 fp) [] H' b := fun hn b hb =>
    ⟨hn b hb, (fpo b hb).1, (fpo b hb).2, .inl hb, fun y c e => (f2 b hb).2.2.2.2.1 y c (hcl.look e), fun p hp => absurd (show p ∈ ([] : List (Addr × Obj)) from hp) (by simp)⟩
  have fr3 : ∀ b ∈ fp, H3 b = none := fun b hb => by
    obtain ⟨o, e, _⟩ := T.obj 0 s2.heap st2 b hb
    have : b ≠ D := Nat.ne_of_lt (hD ▸ Heap.lt_size e)
    rw [← hH3, upd_ne this]
    exact (f2 b hb).1
  have hx' : Loc (compCx X scope cl C x N { s2 with heap := h3 } H3 fp).env.scope x := .inl ((rel x).trans hok.hx')
  have fin : ∀ (H6 : Hp) (s6 : Shared) (σ6 : St), Inv (compCx X scope cl C x N { s2 with heap := h3 } H3 fp) [] σ6 H6 s6 → Inv X pins σ H6 s6 ∧ FpOk X pins H6 C := by
    intro H6 s6 σ6 I6
    refine ⟨I3.call' (s' := s6) (ch := fp) I6.os ⟨I6.base.keep, I6.base.slot, I6.base.free, I6.base.there, I6.base.tups, I6.base.frzs, I6.base.tbls⟩ I6.hok I6.bare (fun b hb => ?_), I3.fpOk (Nat.le_of_eq hC) I6.free⟩
    obtain ⟨_, n1, _, n3, n4, n5⟩ := f2 b hb
    exact ⟨n3, n1, n4, n5⟩
  have loop : codeAny (model X.prog X.w) X.A (.compLoop (.ListComp elt [⟨.Name x px, iter, [], 0⟩] scope pos) 0 (.ref it) (.ref D) (compEnvC scope cl C X.env))
      (RR (.ref D) C) { s2 with heap := h4, toks := s2.toks + ([] : List (Str × Value)).length } := by
    refine compLoop_any (fun n s' => ∃ i v0 ys H', Inv (compCx X scope cl C x N { s2 with heap := h3 } H3 fp) [] (v0 :: fr.map fun j => (σ[j]?).getD none) H' s' ∧ tn i s'.heap ∧ (∀ b ∈ fp, H' b = none) ∧ W i n ys H') ?_ m0
      ⟨0, none, [], H3, I5, st4, fr3, w0⟩
    rintro n s6 ⟨i, v0, ys, H6, I6, st6, fr6, w6⟩
    obtain ⟨hDl, hw⟩ := turn i n ys H6 w6
    rcases hw with ⟨stop, qn⟩ | ⟨go, hlen, N', hN', step⟩
    · refine thn (T.done (compCx X scope cl C x N { s2 with heap := h3 } H3 fp) rfl rfl rfl hc i [] s6 _ H6 _ I6 (fp5 fr6) st6 stop) fun r s7 ⟨hr, I7⟩ => ?_
      subst hr
      obtain ⟨m7, hn7, _⟩ := I7.loc
      obtain ⟨J7, F7⟩ := fin H6 s7 _ I7
      exact hRR C H6 s7 m7 hn7 J7 F7 qn
    · refine thn (T.item (compCx X scope cl C x N { s2 with heap := h3 } H3 fp) rfl rfl rfl hc i [] s6 _ H6 _ I6 (fp5 fr6) st6 go) fun r s7 ⟨u, hr, h7⟩ => ?_
      subst hr
      refine thn h7 fun _ s8 ⟨x8, H8, I8, r8, y8, st8, fr8⟩ => ?_
      have I8' := I8.pinned (fp5 fr8) (T.obj _ _ st8)
      refine wpAny_assign_Name (store_ok (i := 0) I8' hok.nd rfl hx' r8 (fun s9 I9 => ?_) (.inr ((rel x).trans hok.hx')))
      have I9' : Inv (compCx X scope cl C x N { s2 with heap := h3 } H3 fp) ([] ++ pinsAt fp s8.heap) (some x8 :: fr.map fun j => (σ[j]?).getD none) H8 s9 := I9
      refine wpAny_mono (he C { s2 with heap := h3 } H3 fp _ s9 _ H8 _ I9' (step x8 H8 y8)) (fun y s10 h10 => ?_) fun _ _ z => False.elim z
      obtain ⟨y10, H10, I10, r10, n10⟩ := h10
      obtain ⟨hD10, m', hm, w10⟩ := hN' y10 H10 n10
      refine wpAny_mono (mt_append (X := compCx X scope cl C x N { s2 with heap := h3 } H3 fp) _ s10 _ H10 (.ref D) [y10] (.ref D) [y] (fun _ H' => H' = upd H10 D (.lst (ys ++ [y10]))) I10 rfl (.cons r10 .nil) ⟨D, ys, y10, rfl, rfl, hD10, hlen, rfl⟩) (fun _ s11 h11 => ?_) fun _ _ z => False.elim z
      obtain ⟨_, H11, I11, _, e11⟩ := h11
      subst e11
      refine ⟨m', hm, i + 1, some x8, ys ++ [y10], _, I11.unpinned, T.keep _ _ _ st8 fun b hb o e => (I11.pin (b, o) (List.mem_append_right _ (List.mem_append_right _ (mem_pinsAt hb e)))).1, fun b hb => ?_, w10⟩
      obtain ⟨o, e, d⟩ := T.obj _ _ st8 b hb
      exact (I11.pin (b, o) (List.mem_append_right _ (List.mem_append_right _ (mem_pinsAt hb e)))).2.1
  exact codeAny_compStart_list loop (T.self _ 0 _ _ _ st4 loop)

theorem Inv.let_go {X : Cx} {pins : List (Addr × Obj)} {σ : St} {H : Hp} {s : Shared} {C : Addr} {h' : Heap} (I : Inv X pins σ H s) (F : FpOk X pins H C) (sb : Heap.SameBut C s.heap h') : Inv X pins σ H { s with heap := h' } := by
  obtain ⟨f0, f1, _, f3, f4, f5⟩ := F
  exact I.turned (t' := s.toks) (fun b o hb e => (sb.2 b hb).trans e) f0 f1 f3 f4 f5
theorem pe_comp {X : Cx} {elt iter : Expr} {x : Str} {px pos : Pos} {scope sc0 : Scope} {cl : List (Str × Addr)} {cn N : List Str} {fr : List Nat} {wi : TI} {te : TE}
    (hc : X.calm = true) (hi : PI X (.Name x px) iter wi) (he : ∀ (C : Addr) (s₂ : Shared) (H₂ : Hp) (fp : List Addr), PE (compCx X scope cl C x N s₂ H₂ fp) elt te)
    (hclos : closureFor scope X.env = pure cl) (hcl : CellsIn X.env cl) (hcn : cl.map (·.1) = cn) (hsc : X.env.scope = sc0) (hk : scope.kind = .function) (hok : CompOk scope sc0 x N cn)
    (hfr : fr.map (fun j => X.N[j]?) = N.map some) (hs : ∀ v, foldedSetIterable iter X.env v = pure v := by intro _; rfl) :
    PE X (.ListComp elt [⟨.Name x px, iter, [], 0⟩] scope pos) (tComp wi te fr) := by
  intro pins s σ H Q I h
  rw [eval_ListComp]
  refine wpAny_comprehension_free (use := none) rfl hs hclos hk hok.names (thn (hi pins s σ H _ I h) fun v s1 h1 => thn h1 fun itv s2 h2 => ?_)
  obtain ⟨it, fp, tn, J, H2, e, I2, T, st2, f2, hq⟩ := h2
  subst e
  obtain ⟨W, ⟨m0, w0⟩, turn⟩ := hq s2.heap.objs.size (I2.hok.fresh (Nat.le_refl _))
  exact comp_core (RR := fun acc C => compPost (model X.prog X.w) X.A X.xe none (EP X pins σ Q) acc C) (R := fun H6 => Q (.ref s2.heap.objs.size) H6) hc he hcl hcn hsc hk hok hfr I2 T st2 f2 w0 turn
    fun C H6 s6 m6 hn I6 F6 q => ⟨m6, hn, fun h' sb => ⟨.ref s2.heap.objs.size, H6, I6.let_go F6 sb, rfl, q⟩⟩
/-- y = [.. for x in ..], straight to a local name -/
def tSetComp (i : Nat) (wi : TI) (te : TE) (fr : List Nat) : TS := fun D σ H => tComp wi te fr σ H fun v H1 => D.nx (σ.set i (some v)) H1
theorem ps_setComp {X : Cx} {i : Nat} {y : Str} {py spos : Pos} {elt iter : Expr} {x : Str} {px pos : Pos} {scope sc0 : Scope} {cl : List (Str × Addr)} {cn N : List Str} {fr : List Nat} {wi : TI} {te : TE}
    (hN : X.N.Nodup) (hiN : X.N[i]? = some y) (hy : Loc X.env.scope y)
    (hc : X.calm = true) (hi : PI X (.Name x px) iter wi) (he : ∀ (C : Addr) (s₂ : Shared) (H₂ : Hp) (fp : List Addr), PE (compCx X scope cl C x N s₂ H₂ fp) elt te)
    (hclos : closureFor scope X.env = pure cl) (hcl : CellsIn X.env cl) (hcn : cl.map (·.1) = cn) (hsc : X.env.scope = sc0) (hk : scope.kind = .function) (hok : CompOk scope sc0 x N cn)
    (hfr : fr.map (fun j => X.N[j]?) = N.map some) (hsw : swapsWith (.ListComp elt [⟨.Name x px, iter, [], 0⟩] scope pos) (some (.Name y py)) spos.line X.env = pure true)
    (hf : X.fn y = true ∨ X.env.scope.names.lookup y = some .local) (hs : ∀ v, foldedSetIterable iter X.env v = pure v := by intro _; rfl) :
    PS X (.Assign [.Name y py] (.ListComp elt [⟨.Name x px, iter, [], 0⟩] scope pos) spos) (tSetComp i wi te fr) := by
  intro pins s σ H D I h
  rw [exec_Assign_Name_used _ _ _ _ hsw]
  refine wpAny_bind (wpAny_standAt (wpAny_bind ?_))
  show wpAny _ X.A (do let _ ← comprehension (.ListComp elt [⟨.Name x px, iter, [], 0⟩] scope pos) scope X.env _ (newList []) false (eval iter X.env) (some (assign (.Name y py) X.env))) _ _ s
  refine wpAny_bind (wpAny_mono (wpAny_comprehension_free (use := some (assign (.Name y py) X.env)) (Q := fun _ s' => SP X pins D .next s') rfl hs hclos hk hok.names
    (thn (hi pins s σ H _ I h) fun v s1 h1 => thn h1 fun itv s2 h2 => ?_)) (fun _ s' hq => wpAny_pure (wpAny_pure hq)) fun _ _ e => e)
  obtain ⟨it, fp, tn, J, H2, e, I2, T, st2, f2, hq⟩ := h2
  subst e
  obtain ⟨W, ⟨m0, w0⟩, turn⟩ := hq s2.heap.objs.size (I2.hok.fresh (Nat.le_refl _))
  refine comp_core (RR := fun acc C => compPost (model X.prog X.w) X.A X.xe (some (assign (.Name y py) X.env)) (fun _ s' => SP X pins D .next s') acc C) (R := fun H6 => D.nx (σ.set i (some (.ref s2.heap.objs.size))) H6) hc he hcl hcn hsc hk hok hfr I2 T st2 f2 w0 turn
    fun C H6 s6 m6 hn I6 F6 q => ?_
  show wpAny _ X.A (assign (.Name y py) X.env (.ref s2.heap.objs.size)) _ _ _
  refine wpAny_assign_Name (store_ok2 (v := .ref s2.heap.objs.size) I6 hN hiN hy rfl (fun s7 I7 ⟨a, sb, ha⟩ => ?_) hf)
  have neC : C ≠ a := by
    rcases ha with ha | ha
    · rw [ha]; exact F6.2.1
    · exact Ne.symm (F6.2.2.2.2.1 y a ha)
  exact ⟨m6, hn.sameBut sb neC, fun h' sb' => ⟨_, H6, I7.let_go F6 sb', q⟩⟩

/-- [.. for x in range(n)] -/
theorem comp_range {lo : Int} {n : Nat} {T : V → Hp → (V → Hp → Prop) → Prop} {D : Addr} {H1 : Hp} {R : Hp → Prop} (hn : n ≤ sizeLine) (Pv : Nat → List V → Hp → Prop) (h0 : Pv 0 [] (upd H1 D (.lst [])))
    (hD : ∀ i ys H, Pv i ys H → H D = some (.lst ys) ∧ ys.length = i)
    (hs : ∀ i ys H, i < n → Pv i ys H → T (.int (lo + i)) H fun y H3 => H3 D = some (.lst ys) ∧ Pv (i + 1) (ys ++ [y]) (upd H3 D (.lst (ys ++ [y]))))
    (hd : ∀ ys H, Pv n ys H → R H) :
    ∃ W : Nat → Nat → List V → Hp → Prop, (∃ m, W 0 m [] (upd H1 D (.lst []))) ∧
      ∀ i m ys H2, W i m ys H2 → H2 D = some (.lst ys) ∧ (((Itr lo n).stop i H2 ∧ R H2) ∨ ((Itr lo n).go i H2 ∧ ys.length < sizeLine ∧ ∃ N : V → Hp → Prop, (∀ y H3, N y H3 → H3 D = some (.lst ys) ∧ ∃ m', m' < m ∧ W (i + 1) m' (ys ++ [y]) (upd H3 D (.lst (ys ++ [y])))) ∧
        ∀ x H', (Itr lo n).yld i H2 x H' → T x H' N)) := by
  refine ⟨fun i m ys H => m = n - i ∧ i ≤ n ∧ Pv i ys H, ⟨n, by simp, Nat.zero_le _, h0⟩, ?_⟩
  rintro i m ys H2 ⟨rfl, hi, p⟩
  obtain ⟨d1, d2⟩ := hD i ys H2 p
  refine ⟨d1, ?_⟩
  by_cases hlt : i < n
  · refine .inr ⟨hlt, by omega, fun y H3 => H3 D = some (.lst ys) ∧ Pv (i + 1) (ys ++ [y]) (upd H3 D (.lst (ys ++ [y]))), fun y H3 ⟨z1, z2⟩ => ⟨z1, n - (i + 1), by omega, rfl, hlt, z2⟩, fun x H' y => ?_⟩
    obtain ⟨e, y⟩ := y
    subst e y
    exact hs i ys _ hlt p
  · have e : i = n := by omega
    subst e
    exact .inl ⟨Nat.le_refl _, hd ys H2 p⟩
end L2
/-! my own rules over the layer: tuples known to the object: slices, the whole among them, and count -/
namespace HT
open PySem PySem.Spec PyProof.Rows
section
variable {prog : Program} {w : World} {A : Around} {E : Value → Shared → Prop} {s : Shared}
end
end HT
namespace L2
open PySem PySem.Spec PyProof.Rows
/-- a tuple known to the object -/
def TupF (H : Hp) (a : Addr) (xs : List V) : Prop := ∃ o : Obj, H a = some (.frz o (.tup xs)) ∧ o.cls = .type "tuple" ∧ o.dict = none
section
variable {X : Cx}
def tBMF (T : String) (r : V → List V → Hp → VK → Prop) (to : TE) (t : TA) : TE := fun σ H Q => to σ H fun x H1 => (∃ a o u, x = .ref a ∧ H1 a = some (.frz o u) ∧ o.cls = .type T ∧ o.dict = none) ∧ t σ H1 fun xs H2 => r x xs H2 Q
variable {o e : Expr} {es : List Expr} {to : TE} {t : TA} {name : Str} {apos cpos : Pos} {T id : String} {r : V → List V → Hp → VK → Prop}
end
end L2
/-! my own rules over the layer: all(..) of a list of truths, xs != ys of lists of ints -/
namespace L2
open PySem PySem.Spec PyProof.Rows
section
variable {X : Cx}
theorem all_range (bs : List Bool) : ((List.range bs.length).all fun i => bs.getD i true) = bs.all id := by
  rw [Bool.eq_iff_iff, List.all_eq_true, List.all_eq_true]
  constructor
  · intro h b hb
    obtain ⟨i, hi, rfl⟩ := List.mem_iff_getElem.mp hb
    have := h i (List.mem_range.mpr hi)
    simpa [List.getD_eq_getElem?_getD, hi] using this
  · intro h i hi
    have hi' := List.mem_range.mp hi
    have := h bs[i] (List.getElem_mem hi')
    simpa [List.getD_eq_getElem?_getD, hi'] using this
/-- all(xs) of a list of truths -/
theorem call_all (hc : X.calm = true) : CallR X (.builtin "all") (fun xs H Q => ∃ (p : Addr) (bs : List Bool), xs = [.ref p] ∧ SqL X.K H p (bs.map V.bl) ∧ Q (.bl (bs.all id)) H) := by
  intro pins s σ H xs us Q I r h
  obtain ⟨p, bs, rfl, hq, q⟩ := h
  obtain ⟨u, rfl, rx⟩ := vals1 r
  cases rx
  obtain ⟨its, r', pl, hz⟩ := I.list hq
  have hl := r'.length
  rw [List.length_map] at hl
  obtain ⟨o, n, ho, _⟩ := id pl
  have hlt : p < s.heap.objs.size := Heap.lt_size ho
  refine call_all_walk (wpAny_pyIter_list pl.isList ⟨s.heap.objs.size, _, _, _, _, _, fun i => bs.getD i true, rfl, Walks.list (A := X.A.in1) (show X.A.in1.handled = none from I.ok.hd hc) s.heap.objs.size p (Nat.ne_of_lt hlt) its.toArray, ⟨⟨_, Heap.get?_push_size _ rfl, rfl, rfl⟩, pl.isList.at fun o e => Heap.get?_push_of_some _ e⟩, ?_, ?_⟩)
  · intro i v s' Q' E' hv hQ'
    have hv' : its[i]? = some v := by simpa using hv
    have hi : i < bs.length := by rw [hl]; exact (List.getElem?_eq_some_iff.mp hv').1
    obtain ⟨u', hu', ru'⟩ := r'.get (i := i) (x := .bl bs[i]) (by rw [List.getElem?_map, List.getElem?_eq_getElem hi] <;> rfl)
    rw [hv'] at hu'
    cases hu'
    cases ru'
    refine wpAny_truthy_bool ?_
    have e : bs.getD i true = bs[i] := by simp [List.getD_eq_getElem?_getD, hi]
    rw [← e]
    exact hQ'
  · intro h' tk hk
    refine ⟨.bl (bs.all id), H, I.kept (t' := tk) fun b ob e => hk b ob (by simp; exact Nat.ne_of_lt (Heap.lt_size e)) (Heap.get?_push_of_some _ e), ?_, q⟩
    show Value.bool _ = Value.bool _
    congr 1
    rw [List.size_toArray, ← hl]
    exact all_range bs
/-- xs != ys of two lists of ints -/
theorem op_neL (hu : X.A.units + 64 < cLine) : OpR X (compareOp .NotEq) (fun x y H Q => ∃ (a b : Addr) (ns ms : List Int), x = .ref a ∧ y = .ref b ∧ SqL X.K H a (ns.map V.int) ∧ SqL X.K H b (ms.map V.int) ∧ Q (.bl (!decide (ns = ms))) H) := by
  intro pins s σ H x y v u Q I rx ry h
  obtain ⟨a, b, ns, ms, rfl, rfl, ha, hb, q⟩ := h
  cases rx
  cases ry
  obtain ⟨its, r1, p1, _⟩ := I.list ha
  obtain ⟨its2, r2, p2, _⟩ := I.list hb
  exact PySem.W.ke_ne_ints p1.isList p2.isList (intsAre_of r1) (intsAre_of r2) hu ⟨.bl _, H, I, rfl, q⟩
end
end L2
/-! exceptions: how one is noted, leaves a frame, lands -/
namespace L2
open PySem PySem.Spec PyProof.Rows

theorem dict_mapF (o : Obj) (f : Array Value → Array Value) : (o.mapFields f).dict = o.dict := by
  rcases o with ⟨c, d, dt, sl⟩
  cases dt <;> rfl
/-- an exception under way at x: its class, its own dict, its newest note at or above n, whose mark is fl -/
def Exc (n : Nat) (h : Heap) (x : Addr) (cls : Value) (dd : Option Addr) (fl : Value) : Prop :=
  ∃ (oe : Obj) (vs : Array Value) (T : Addr) (oT : Obj) (ts : Array Value), (h.get? x = some oe ∧ oe.cls = cls ∧ oe.dict = dd ∧ oe.data = .fields vs ∧ vs[1]? = some (.ref T)) ∧
    (n ≤ T ∧ T ≠ x) ∧ h.get? T = some oT ∧ oT.data = .fields ts ∧ ts[3]? = some fl
/-- what a note leaves as it was -/
structure Fly (n : Nat) (fs : List Addr) (x : Addr) (h h' : Heap) : Prop where
  keep : ∀ b o, h.get? b = some o → b < n → b ≠ x → b ∉ fs → h'.get? b = some o
  slot : ∀ b o, h.get? b = some o → b ∈ fs → ∃ sl, h'.get? b = some { o with slots := sl }
  there : ∀ b o, h.get? b = some o → ∃ o', h'.get? b = some o'
section
variable {n : Nat} {fs : List Addr} {x y : Addr} {h h1 h' : Heap}
theorem Fly.refl : Fly n fs x h h := ⟨fun _ _ q _ _ _ => q, fun _ o q _ => ⟨o.slots, q⟩, fun _ o q => ⟨o, q⟩⟩
theorem Fly.trans (a : Fly n fs x h h1) (b : Fly n fs x h1 h') : Fly n fs x h h' := by
  refine ⟨fun c o q l m k => b.keep c o (a.keep c o q l m k) l m k, fun c o q k => ?_, fun c o q => ?_⟩
  · obtain ⟨sl, e⟩ := a.slot c o q k
    obtain ⟨sl', e'⟩ := b.slot c _ e k
    exact ⟨sl', e'⟩
  · obtain ⟨o', e⟩ := a.there c o q
    exact b.there c o' e
theorem Fly.push (o : Obj) : Fly n fs x h (h.push o) :=
  ⟨fun _ _ q _ _ _ => Heap.get?_push_of_some _ q, fun _ ob q _ => ⟨ob.slots, Heap.get?_push_of_some _ q⟩, fun _ ob q => ⟨ob, Heap.get?_push_of_some _ q⟩⟩
theorem Fly.upd {o : Obj} {vs : Array Value} (f : Array Value → Array Value) (ho : h.get? y = some o) (hd : o.data = .fields vs) (hy : y = x ∨ n ≤ y) (hf : y ∉ fs) : Fly n fs x h (h.update y (Obj.mapFields f)) := by
  have oth : ∀ b ob, b ≠ y → h.get? b = some ob → (h.update y (Obj.mapFields f)).get? b = some ob := fun b ob m q => (Heap.get?_update_other _ _ (Ne.symm m)).trans q
  refine ⟨fun b ob q l m _ => oth b ob (fun z => ?_) q, fun b ob q k => ⟨ob.slots, oth b ob (fun z => hf (z ▸ k)) q⟩, fun b ob q => ?_⟩
  · rcases hy with e | e
    · exact m (z.trans e)
    · exact absurd (Nat.lt_of_lt_of_le l e) (by rw [z]; exact Nat.lt_irrefl _)
  · by_cases z : b = y
    · subst z
      exact ⟨_, Heap.get?_update_self _ ho (Obj.isFreed_of_fields (Obj.data_mapFields hd f))⟩
    · exact ⟨ob, oth b ob z q⟩
theorem Fly.slots (a : Heap.SlotsOnly fs h h') : Fly n fs x h h' := by
  refine ⟨fun b o q _ _ k => (a.2.1 b k).trans q, fun b o q _ => a.2.2 b o q, fun b o q => ?_⟩
  obtain ⟨sl, e⟩ := a.2.2 b o q
  exact ⟨_, e⟩
end

section
variable {M : Model} {A : Around} {E : Value → Shared → Prop} {s : Shared} {base : Heap} {env : Env} {outer : List Env} {L x : Addr} {n : Nat} {Q : Unit → Shared → Prop}
theorem frame_no {oe : Obj} {vs : Array Value} {h : Heap} {l : List Env} (hl : h.FunFrames base l) (he : h.get? x = some oe) (hd : oe.data = .fields vs) : x ∉ frs l := fun z => by
  obtain ⟨_, o, ho, nf⟩ := hl.mem z
  rw [he] at ho
  cases ho
  exact nf vs hd
theorem note_core {oe : Obj} {vs : Array Value} {head : Value} {b : Bool} (hfr : A.frames = some (env :: outer)) (hl : s.heap.FunFrames base (env :: outer)) (hf : env.frame = some L)
    (he : s.heap.get? x = some oe) (hd : oe.data = .fields vs) (hz : 1 < vs.size) (hn : n ≤ s.heap.objs.size)
    (h : ∀ h', Fly n (frs (env :: outer)) x s.heap h' → Exc n h' x oe.cls oe.dict (rawInt L) → Q () { s with heap := h' }) :
    wpAny M A (frameOf env >>= fun a => entryPlaceOf L b >>= fun pl => EntryCells.newEntry head a .none (rawInt L) .none pl >>= fun t => setField (.ref x) 1 t) Q E s := by
  have nx := frame_no hl he hd
  refine wpAny_bind (wpAny_frameOf_fun hfr hl hf fun h₁ a1 => wpAny_bind (wpAny_entryPlaceOf fun pl hp => ?_))
  unfold EntryCells.newEntry newFields
  refine wpAny_bind (wpAny_newObj_type ?_ (hp.sizeOk5 _ _ _ _ _))
  have e1 : h₁.get? x = some oe := (a1.2.1 x nx).trans he
  have hs : h₁.objs.size = s.heap.objs.size := a1.1
  generalize hto : ({ cls := .type "traceback", dict := none, data := .fields ([head, .ref L, .none, rawInt L, .none] ++ (if pl.isEmpty then List.replicate 6 Value.none else pl)).toArray } : Obj) = tb
  have e2 := Heap.get?_push_of_some (h := h₁) tb e1
  refine wpAny_setField e2 hd hz ?_
  have ne : h₁.objs.size ≠ x := Nat.ne_of_gt (Heap.lt_size e1)
  have hd3 := Obj.data_mapFields hd (·.setIfInBounds 1 (Value.ref h₁.objs.size))
  have e3 := Heap.get?_update_self (Obj.mapFields (·.setIfInBounds 1 (Value.ref h₁.objs.size))) e2 (Obj.isFreed_of_fields hd3)
  refine h _ ((Fly.slots a1).trans ((Fly.push tb).trans (.upd _ e2 hd (.inl rfl) nx))) ⟨_, _, h₁.objs.size, tb, _, ⟨e3, Obj.cls_mapFields _ _, dict_mapF _ _, hd3, by simp [hz]⟩, ⟨by rw [hs]; exact hn, ne⟩, ?_, by rw [← hto], ?_⟩
  · refine (Heap.get?_update_other _ _ (Ne.symm ne)).trans (Heap.get?_push_size h₁ ?_)
    rw [← hto]
    rfl
  · first | (simp; done) | (rcases hp with rfl | ⟨_, _, _, _, _, _, _, rfl⟩ <;> simp)
/-- the first note -/
theorem note_first {oe : Obj} {vs : Array Value} (hfr : A.frames = some (env :: outer)) (hl : s.heap.FunFrames base (env :: outer)) (hf : env.frame = some L)
    (he : s.heap.get? x = some oe) (hd : oe.data = .fields vs) (h1 : vs[1]? = some .none) (hn : n ≤ s.heap.objs.size)
    (h : ∀ h', Fly n (frs (env :: outer)) x s.heap h' → Exc n h' x oe.cls oe.dict (rawInt L) → Q () { s with heap := h' }) : wpAny M A (noteFrame (.ref x) env) Q E s := by
  unfold noteFrame
  simp only [hf]
  refine wpAny_bind (wpAny_field he hd h1 ?_)
  rw [if_neg (by decide)]
  exact note_core hfr hl hf he hd (Array.getElem?_eq_some_iff.mp h1).1 hn h
/-- a further one -/
theorem note_next {cls : Value} {dd : Option Addr} (hfr : A.frames = some (env :: outer)) (hl : s.heap.FunFrames base (env :: outer)) (hf : env.frame = some L) (ex : Exc n s.heap x cls dd .none)
    (h : ∀ h', Fly n (frs (env :: outer)) x s.heap h' → Exc n h' x cls dd (rawInt L) → Q () { s with heap := h' }) : wpAny M A (noteFrame (.ref x) env) Q E s := by
  obtain ⟨oe, vs, T, oT, ts, ⟨he, rfl, rfl, hd, h1⟩, ⟨nT, Tx⟩, hT, hdT, h3⟩ := ex
  unfold noteFrame
  simp only [hf]
  refine wpAny_bind (wpAny_field he hd h1 ?_)
  rw [if_pos (show (Value.ref T != Value.none) = true from by simp)]
  refine wpAny_bind (wpAny_field hT hdT h3 ?_)
  rw [if_neg (show ¬ ((Value.none == rawInt L) = true) from by simp [rawInt])]
  refine wpAny_bind (wpAny_setField hT hdT (Array.getElem?_eq_some_iff.mp h3).1 ?_)
  have tf := frame_no hl hT hdT
  have fl : Fly n (frs (env :: outer)) x s.heap (s.heap.update T (Obj.mapFields (·.setIfInBounds 3 Value.none))) := .upd _ hT hdT (.inr nT) tf
  have oth : ∀ c, c ≠ T → (s.heap.update T (Obj.mapFields (·.setIfInBounds 3 Value.none))).get? c = s.heap.get? c := fun c m => Heap.get?_update_other _ _ (Ne.symm m)
  refine note_core hfr (hl.of_keeps fun c o q nf => ⟨o, (oth c fun z => ?_).trans q, rfl⟩) hf ((oth x (Ne.symm Tx)).trans he) hd (Array.getElem?_eq_some_iff.mp h1).1 ?_ fun h' f e => h h' (fl.trans f) e
  · rw [z, hT] at q
    cases q
    exact nf ts hdT
  · have l1 := Heap.lt_size hT
    rw [Heap.size_update]
    exact Nat.le_trans nT (Nat.le_of_lt l1)
/-- its mark is set -/
theorem flight {cls fl : Value} {dd : Option Addr} {fs : List Addr} (to : Option Addr) (hl : ∀ T oT ts, s.heap.get? T = some oT → oT.data = .fields ts → T ∉ fs) (ex : Exc n s.heap x cls dd fl)
    (h : ∀ h', Fly n fs x s.heap h' → Exc n h' x cls dd (to.elim .none fun f => rawInt f) → Q () { s with heap := h' }) : wpAny M A (setFlight (.ref x) to) Q E s := by
  obtain ⟨oe, vs, T, oT, ts, ⟨he, rfl, rfl, hd, h1⟩, ⟨nT, Tx⟩, hT, hdT, h3⟩ := ex
  have h3' := (Array.getElem?_eq_some_iff.mp h3).1
  unfold setFlight
  refine wpAny_bind (wpAny_field he hd h1 ?_)
  rw [if_pos (show (Value.ref T != Value.none) = true from by simp)]
  refine wpAny_setField hT hdT h3' (h _ (.upd _ hT hdT (.inr nT) (hl T oT ts hT hdT)) ⟨oe, vs, T, _, _, ⟨(Heap.get?_update_other _ _ Tx).trans he, rfl, rfl, hd, h1⟩, ⟨nT, Tx⟩, Heap.get?_update_self _ hT (Obj.isFreed_of_fields (Obj.data_mapFields hdT _)), Obj.data_mapFields hdT _, by simp [h3']⟩)
end
end L2
/-! exceptions: what a caller knows of one that comes out of a call; raise -/
namespace L2
open PySem PySem.Spec PyProof.Rows
section
variable {P : Program} {w : World} {fs fs' : List Addr} {H₀ H : Hp} {h₀ h h' : Heap} {x : Addr} {n : Nat}
theorem Un.fly (u : Un fs [] H₀ H h₀ h) (f : Fly n fs' x h h') (hs : ∀ b ∈ fs', b ∈ fs ∨ h₀.get? b = none) (hx : h₀.get? x = none) (hn : h₀.objs.size ≤ n) : Un fs [] H₀ H h₀ h' := by
  have lt : ∀ b o, h₀.get? b = some o → b < n := fun b o q => Nat.lt_of_lt_of_le (Heap.lt_size q) hn
  have nx : ∀ b o, h₀.get? b = some o → b ≠ x := fun b o q z => by rw [z, hx] at q; cases q
  refine ⟨fun b o q m k z => f.keep b o (u.keep b o q m k z) (lt b o q) (nx b o q) (fun y => (hs b y).elim k fun y' => by rw [y'] at q; cases q), fun b o q m k z => ?_, u.free, fun b o q k => ?_, u.tups, u.frzs, u.tbls⟩
  · obtain ⟨sl, e⟩ := u.slot b o q m k z
    by_cases y : b ∈ fs'
    · obtain ⟨sl', e'⟩ := f.slot b _ e y
      exact ⟨sl', e'⟩
    · exact ⟨sl, f.keep b _ e (lt b o q) (nx b o q) y⟩
  · obtain ⟨o', e⟩ := u.there b o q k
    exact f.there b o' e
theorem HOk.fly (k : HOk P w H h) (f : Fly n fs' x h h') (hn : ∀ b u, H b = some u → b < n) (hx : H x = none) (hf : ∀ b ∈ fs', H b = none) : HOk P w H h' := fun a o e => by
  have kp : ∀ b u, H b = some u → ∀ ob, h.get? b = some ob → h'.get? b = some ob := fun b u q ob hb => f.keep b ob hb (hn b u q) (ne_of_none q hx) fun z => by rw [hf b z] at q; cases q
  refine (k a o e).stay (fun b u z q => ?_) (fun _ q => q) fun _ _ q => q
  rcases z with rfl | z
  · exact kp _ _ e u q
  · exact kp _ _ z u q
end

/-- an exception out of a call -/
structure Out (P : Program) (w : World) (outer : List Env) (H : Hp) (s : Shared) (x : Addr) (cls : Value) (dd : Option Addr) (n : Nat) (H' : Hp) (fl : Value) (s' : Shared) : Prop where
  os : s'.os = s.os
  bare : AllBare s'.gens
  un : Un (frs outer) [] H H' s.heap s'.heap
  hok : HOk P w H' s'.heap
  exc : Exc n s'.heap x cls dd fl
  free : H' x = none
  new : s.heap.get? x = none
  old : s.heap.objs.size ≤ n
  low : ∀ b u, H' b = some u → b < n
def CX1 (P : Program) (w : World) : CXT := fun outer H s E e s' => ∃ (x : Addr) (cls : Value) (dd : Option Addr) (n : Nat) (H' : Hp), e = .ref x ∧ Out P w outer H s x cls dd n H' .none s' ∧ E cls dd H'

section
variable {X : Cx} {pins : List (Addr × Obj)} {σ : St} {H H' : Hp} {s s' : Shared} {x : Addr} {cls fl : Value} {dd : Option Addr} {n : Nat}
/-- from inside the body: an exception under way, the invariant as it is -/
structure Away (X : Cx) (pins : List (Addr × Obj)) (σ : St) (H : Hp) (s : Shared) (x : Addr) (cls : Value) (dd : Option Addr) (n : Nat) (fl : Value) : Prop where
  inv : Inv X pins σ H s
  exc : Exc n s.heap x cls dd fl
  free : H x = none
  new : X.s₀.heap.get? x = none
  old : X.s₀.heap.objs.size ≤ n
  low : ∀ b u, H b = some u → b < n
  loc : X.env.locals < n
end
/-- a body leaves by an exception: the frame is noted, the mark taken away -/
theorem leaves {X : Cx} {pins : List (Addr × Obj)} {σ : St} {H : Hp} {s : Shared} {x : Addr} {E : XK} {M : Model} (I : Inv X pins σ H s) (hex : X.ex = []) (hst : X.stack = X.env :: X.outer) (hfm : X.env.frame = some X.env.locals)
    (note : ∀ Q : Unit → Shared → Prop, (∀ cls dd n h', Fly n (frs X.stack) x s.heap h' → Exc n h' x cls dd (rawInt X.env.locals) → X.s₀.heap.objs.size ≤ n → (∀ b u, H b = some u → b < n) → E cls dd H → Q () { s with heap := h' }) →
      wpAny M X.A (noteFrame (.ref x) X.env) Q (fun _ _ => False) s)
    (hx : H x = none) (nx : X.s₀.heap.get? x = none) :
    wpAny M X.A (leaving X.env (.ref x)) (fun _ s'' => CX1 X.prog X.w X.outer X.H₀ X.s₀ E (.ref x) s'') (fun e s'' => CX1 X.prog X.w X.outer X.H₀ X.s₀ E e s'') s := by
  unfold leaving
  refine wpAny_bind (wpAny_mono (note _ fun cls dd n h' f e ho hl q => ?_) (fun _ _ z => z) fun _ _ z => z.elim)
  have fsm : ∀ b ∈ frs X.stack, H b = none := I.stkFree
  have hun : ∀ h'', Fly n (frs X.stack) x s.heap h'' → Un (frs X.outer) [] X.H₀ H X.s₀.heap h'' := fun h'' f2 => by
    have u := I.base
    rw [hex] at u
    refine u.fly f2 (fun b hb => ?_) nx ho
    rcases List.mem_cons.mp (I.stkSub b hb) with z | z
    · right
      rw [z]
      exact Heap.get?_none_of_le I.ok.above
    · exact .inl z
  have nr : ∀ T oT ts, h'.get? T = some oT → oT.data = .fields ts → T ∉ frs X.stack := fun T oT ts h1 h2 hb => by
    obtain ⟨_, o, h3, h4⟩ := I.stack.mem hb
    obtain ⟨sl, h5⟩ := f.slot T o h3 hb
    rw [h5] at h1
    cases h1
    exact h4 ts h2
  refine flight none nr e fun h'' f2 e2 => ?_
  have f3 := f.trans f2
  exact ⟨x, cls, dd, n, H, rfl, ⟨I.os, I.bare, hun h'' f3, I.hok.fly f3 hl hx fsm, e2, hx, nx, ho, hl⟩, q⟩
end L2
/-! exceptions: raise, and how one passes through a body -/
namespace L2
open PySem PySem.Spec PyProof.Rows
theorem ObjOk.some {P : Program} {w : World} {H : Hp} {h : Heap} {a : Addr} {o : HO} (x : ObjOk P w H h a o) : ∃ ob, h.get? a = some ob := by
  cases o with
  | lst xs => obtain ⟨_, _, _, _, e⟩ := x; exact ⟨_, e⟩
  | tup xs => obtain ⟨_, _, _, ob, e, _⟩ := x; exact ⟨ob, e⟩
  | dK kvs => obtain ⟨_, _, _, _, ob, _, _, e, _⟩ := x; exact ⟨ob, e⟩
  | dT kvs => obtain ⟨_, _, _, _, ob, _, _, e, _⟩ := x; exact ⟨ob, e⟩
  | set S n => obtain ⟨ob, _, _, _, e, _⟩ := x; exact ⟨ob, e⟩
  | ins C dx fs => obtain ⟨_, _, _, e, _⟩ := x; exact ⟨_, e⟩
  | own y => obtain ⟨ob, e⟩ := x; exact ⟨ob, e⟩
  | xd fs => obtain ⟨_, ⟨ob, _, _, e, _⟩, _⟩ := x; exact ⟨ob, e⟩
  | rng lo hi => obtain ⟨_, _, _, e⟩ := x; exact ⟨_, e⟩
  | frz ob u => obtain ⟨e, _⟩ := x; exact ⟨ob, e⟩
  | tbl ps => exact ⟨_, x⟩
  | met f y => exact ⟨_, x⟩
  | ext φ => obtain ⟨_, e, _⟩ := x; exact e
theorem Inv.newFree {X : Cx} {pins : List (Addr × Obj)} {σ : St} {H : Hp} {s : Shared} {a : Addr} (I : Inv X pins σ H s) (h : s.heap.get? a = none) : H a = none := by
  cases q : H a with
  | none => rfl
  | some o =>
    obtain ⟨ob, e⟩ := (I.hok a o q).some
    rw [h] at e
    cases e
theorem Inv.newOld {X : Cx} {pins : List (Addr × Obj)} {σ : St} {H : Hp} {s : Shared} {a : Addr} (I : Inv X pins σ H s) (hex : X.ex = []) (h : s.heap.get? a = none) : X.s₀.heap.get? a = none := by
  cases q : X.s₀.heap.get? a with
  | none => rfl
  | some o =>
    obtain ⟨ob, e⟩ := I.base.there a o q (by rw [hex]; simp)
    rw [h] at e
    cases e

/-- an own class of errors, without an __init__ of its own, as the top left it -/
theorem own_exc {K : PySem.W.Frag} {h : Heap} {mg : Str → Option Value} {x : Str} {C : Addr} {tl : List Value} {nw : String} (KX : K.In h) (m : mg x = some (.ref C)) (q : PySem.W.excIn K C tl nw = true) : OwnCls x C tl nw mg h := by
  refine ⟨m, ?_⟩
  unfold PySem.W.excIn at q
  split at q
  case h_2 => cases q
  rename_i dd cd sl lk
  split at q
  case h_2 => cases q
  rename_i c2 bm k0 k1 k2 k3 nm k5 hm hs
  simp only [Bool.and_eq_true, beq_iff_eq, Bool.not_eq_true'] at q
  obtain ⟨⟨⟨⟨⟨q1, q2⟩, q3⟩, q4⟩, q5⟩, q6⟩ := q
  subst q1 q2
  obtain ⟨a1, a2, a3, a4, a5, a6, a7, a8, a9, a10, a11⟩ := cd
  simp only at hm q3 q5 q6
  subst hm q3
  have z : sl = #[k0, k1, k2, k3, some (.builtin nm), k5] := Array.ext' hs
  subst z
  exact ⟨_, a4, _, _, _, _, _, _, _, _, _, _, _, _, _, _, _, KX _ _ lk, .of_isNs (PySem.W.isNs_of_in KX q5), PySem.W.nsMap_none_of_in KX q5 q6, PySem.W.tail_of_in KX q4⟩

/-- a body whose exceptions leave by CX1 -/
structure Lv (X : Cx) (E : XK) : Prop where
  xe : X.xe = fun e s' => wpAny (model X.prog X.w) X.A (leaving X.env e) (fun _ s'' => CX1 X.prog X.w X.outer X.H₀ X.s₀ E e s'') (fun e' s'' => CX1 X.prog X.w X.outer X.H₀ X.s₀ E e' s'') s'
  ex : X.ex = []
  stack : X.stack = X.env :: X.outer
  frame : X.env.frame = some X.env.locals
  calm : X.calm = true
theorem Lv.loops {X : Cx} {E : XK} (l : Lv X E) : PassesOwn (model X.prog X.w) X.A X.env X.xe := by
  rw [l.xe]
  exact .leaving
section
variable {X : Cx} {E : XK} {x : Str} {C : Addr} {e : Expr} {es : List Expr} {t : TA} {np cpos pos : Pos} {B nw it : String} {tl : List Value}
/-- what a body wants of its own exception -/
def tRaise (C : Addr) (E : XK) (t : TA) : TS := fun _ σ H => t σ H fun vs H1 => vs.length ≤ sizeLine ∧ E (.ref C) none H1
theorem ps_raise (l : Lv X E) (F : ExcBaseFacts B nw it tl) (O : OwnCls x C tl nw X.mg X.base) (hg : Gl X x) (ha : PA X (e :: es) t) (hdb : (x == ("__debug__" : Str)) = false := by decide)
    (he : starEach (e :: es) X.env = (false, eval e X.env) :: starEach es X.env := by rfl) (hpl : (backTo cpos (starEach es X.env)).any (·.1) = false := by rfl) :
    PS X (.Raise (some (.Call (.Name x np) (e :: es) [] cpos)) none pos) (tRaise C E t) := by
  intro pins s σ H D I h
  obtain ⟨bm, N, nm, q, bs, hdct, sn, sub, ab, col, dd, k0, k1, k2, k3, k5, mN, hC, hN, hni, T⟩ := O.obj
  have hp2 : (backTo cpos (starEach (e :: es) X.env)).any (·.1) = false := by
    rw [he]
    show (false || (backTo cpos (starEach es X.env)).any (·.1)) = false
    rw [hpl]
    rfl
  refine wpAny_Raise_call_subT F (C := C) (nm := nm) (q := q) (N := N) (bs := bs) (bm := bm) (hdct := hdct) (sn := sn) (sub := sub) (ab := ab) (col := col) (dd := dd) (k0 := k0) (k1 := k1) (k2 := k2) (k3 := k3) (k5 := k5) (mN := mN)
    (T.hasType F.hasBase) (I.ok.hd l.calm) hp2 hni (ld_glob I hg O.bound ⟨rfl, ?_⟩ hdb)
  have h0 := ha cpos pins s σ H _ I h
  rw [he] at h0 ⊢
  refine Calls.evalArgs_plain (thn h0 fun us s2 ⟨vs, H1, I1, r, q1, q2⟩ => ⟨rfl, ?_, I1.bk _ _ hC, hN.keeps I1.bk, T.keeps I1.bk, fun h' ex hm => ?_⟩)
  · show us.length ≤ sizeLine
    rw [← r.length]
    exact q1
  · have J : Inv X pins σ H1 { s2 with heap := h' } := I1.kept (t' := s2.toks) hm.keeps
    obtain ⟨tp, hx, _, _⟩ := hm.there
    rw [l.xe]
    have st := J.stack
    rw [l.stack] at st
    have hfr := J.ok.frames
    rw [l.stack] at hfr
    refine leaves J l.ex l.stack l.frame (fun Q hQ => ?_) (I1.newFree hm.new) (I1.newOld l.ex hm.new)
    rw [l.stack] at hQ
    exact note_first (n := h'.objs.size) hfr st l.frame hx rfl rfl (Nat.le_refl _) fun h'' f ec => hQ _ _ _ h'' f ec J.sz (fun b u z => J.hok.lt z) q2
/-- an exception of a callee passes through -/
theorem pass1 (l : Lv X E) : Passes (CX1 X.prog X.w) X E := by
  intro pins σ H s ev s' I h
  obtain ⟨ex, cls, dd, n, H', rfl, O, q⟩ := h
  have J : Inv X pins σ H' s' := I.call' (ch := []) O.os O.un O.hok O.bare fun b z => absurd z (by simp)
  rw [l.xe]
  have st := J.stack
  rw [l.stack] at st
  have hfr := J.ok.frames
  rw [l.stack] at hfr
  refine leaves J l.ex l.stack l.frame (fun Q hQ => ?_) O.free (I.newOld l.ex O.new)
  rw [l.stack] at hQ
  exact note_next hfr st l.frame O.exc fun h'' f ec => hQ _ _ _ h'' f ec (Nat.le_trans I.sz O.old) O.low q
end
end L2
/-! exceptions: try f(..) except C as n; isinstance of what was caught -/
namespace L2
open PySem PySem.Spec PyProof.Rows

/-- what is known of a caught exception -/
def ExcO (x : Addr) (cls : Value) (dd : Option Addr) : HO := .ext fun h => ∃ o vs, h.get? x = some o ∧ o.cls = cls ∧ o.dict = dd ∧ o.data = .fields vs
theorem Exc.seen {P : Program} {w : World} {H : Hp} {n : Nat} {h : Heap} {x : Addr} {cls fl : Value} {dd : Option Addr} (e : Exc n h x cls dd fl) : ObjOk P w H h x (ExcO x cls dd) := by
  obtain ⟨oe, vs, T, oT, ts, ⟨he, h1, h2, h3, _⟩, _⟩ := e
  refine ⟨⟨oe, vs, he, h1, h2, h3⟩, ⟨oe, he⟩, fun h1 h2 ⟨o, us, z, r⟩ k => ⟨o, us, k o z, r⟩⟩
section
variable {P : Program} {w : World} {fs : List Addr} {H H' : Hp} {h h' : Heap} {x : Addr} {o : HO}
theorem Un.track (u : Un fs [] H H' h h') (hx : h.get? x = none) (hn : H x = none) : Un fs [] H (upd H' x o) h h' := by
  have nx : ∀ b ob, h.get? b = some ob → b ≠ x := fun b ob q z => by rw [z, hx] at q; cases q
  refine ⟨u.keep, u.slot, fun b ob q m k => ?_, u.there, fun b xs q => ?_, fun b ob v q => ?_, fun b ps q => ?_⟩
  · rw [upd_ne (nx b ob q)]
    exact u.free b ob q m k
  · rw [upd_ne (ne_of_none q hn)]
    exact u.tups b xs q
  · rw [upd_ne (ne_of_none q hn)]
    exact u.frzs b ob v q
  · rw [upd_ne (ne_of_none q hn)]
    exact u.tbls b ps q
theorem HOk.track (k : HOk P w H h) (hn : H x = none) (new : ObjOk P w (upd H x o) h x o) : HOk P w (upd H x o) h := fun b u e => by
  by_cases hb : b = x
  · subst hb
    rw [upd_same] at e
    cases e
    exact new
  · rw [upd_ne hb] at e
    exact (k b u e).stay (fun c v _ q => q) (fun c q => by rw [upd_ne (ne_of_none q hn)]; exact q) fun c xs q => by rw [upd_ne (ne_of_none q hn)]; exact q
end
/-- within an except suite -/
abbrev Cx.hand (X : Cx) (x : Addr) : Cx := { X with A := X.A.mark (some (.ref x)), calm := false, xe := fun _ _ => False }
section
variable {X : Cx} {pins : List (Addr × Obj)} {σ : St} {H : Hp} {s : Shared} {x : Addr}
theorem Cx.Ok.hand (ok : X.Ok) : (X.hand x).Ok :=
  ⟨ok.mod, ok.kind, ok.glob, ok.blt, ok.above, ok.inj, ok.has, ok.cab, (fun z => nomatch z), ok.frames, ok.stk, ok.exf, ok.bs, ok.bsz, ok.noex, ok.exfs, ok.funs, ok.frf⟩
theorem Inv.hand (I : Inv X pins σ H s) : Inv (X.hand x) pins σ H s := ⟨I.ok.hand, I.os, I.bare, I.base, I.loc, I.cell, I.free, I.freeC, I.pin, I.hok, I.len⟩
theorem Inv.unhand (ok : X.Ok) (I : Inv (X.hand x) pins σ H s) : Inv X pins σ H s := ⟨ok, I.os, I.bare, I.base, I.loc, I.cell, I.free, I.freeC, I.pin, I.hok, I.len⟩
/-- the name goes behind the suite -/
theorem gone_ok {M : Model} {A : Around} {E : Value → Shared → Prop} {i : Nat} {n : Str} {pos : Pos} {Q : Unit → Shared → Prop} (I : Inv X pins σ H s) (hN : X.N.Nodup) (hi : X.N[i]? = some n) (hk : X.env.scope.names.lookup n = some .local)
    (h : ∀ s', Inv X pins (σ.set i none) H s' → Q () s') : wpAny M A (bindName X.env n .none >>= fun _ => unbindBehindTheSuite X.env n pos) Q E s := by
  obtain ⟨m, hn, hl⟩ := id I.loc
  have hiσ : i < σ.length := by rw [I.len]; exact (List.getElem?_eq_some_iff.mp hi).1
  have hcls : (X.env.scope.kind == .class || (X.env.scope.kind == .module && X.env.locals != X.env.globals)) = false := by rw [I.ok.kind]; rfl
  have ab : ∀ b o, X.s₀.heap.get? b = some o → b ≠ X.env.locals := fun b o e => Nat.ne_of_lt (Nat.lt_of_lt_of_le (Heap.lt_size e) I.ok.above)
  refine wpAny_nameGoes_keeps hk hn hcls fun h' v hn' hs => h _ ⟨I.ok, I.os, I.bare, ⟨fun b o e n hb hx => ?_, fun b o e n hb hx => ?_, I.base.free, fun b o e hx => ?_, I.base.tups, I.base.frzs, I.base.tbls⟩, ⟨_, hn', fun j y v' e1 e2 e3 => ?_⟩, fun y c e => ?_, I.free, I.freeC, fun p hp => ?_, fun b ob e => ?_, by simpa using I.len⟩
  · exact (hs.2 b (ab b o e)).trans (I.base.keep b o e n hb hx)
  · obtain ⟨sl, e1⟩ := I.base.slot b o e n hb hx
    exact ⟨sl, (hs.2 b (ab b o e)).trans e1⟩
  · obtain ⟨o', e1⟩ := I.base.there b o e hx
    exact ⟨o', (hs.2 b (ab b o e)).trans e1⟩
  · by_cases hj : j = i
    · subst hj
      rw [List.getElem?_set_self hiσ] at e2
      cases e2
    · rw [List.getElem?_set_ne (Ne.symm hj)] at e2
      obtain ⟨u', r', q⟩ := hl j y v' e1 e2 e3
      refine ⟨u', r', ?_⟩
      rcases q with ⟨k, e⟩ | ⟨k, c, e, z⟩
      · refine .inl ⟨k, ?_⟩
        have : y ≠ n := fun e => hj (nodup_ix hN e1 (e ▸ hi))
        simp [this, e]
      · exact .inr ⟨k, c, e, z.sameBut hs (I.cne y c e)⟩
  · obtain ⟨w', z⟩ := I.cell y c e
    exact ⟨w', z.sameBut hs (I.cne y c e)⟩
  · obtain ⟨e, n, ne, nf, d⟩ := I.pin p hp
    exact ⟨(hs.2 p.1 ne).trans e, n, ne, nf, d⟩
  · refine (I.hok b ob e).stay (fun c w' hc q => (hs.2 c ?_).trans q) (fun _ q => q) fun _ _ q => q
    rintro rfl
    rcases hc with hc | hc
    · rw [← hc, I.free] at e
      cases e
    · rw [I.free] at hc
      cases hc
end

section
variable {X : Cx} {k i : Nat} {f C2 : Addr} {fd : FuncData} {ps : List Str} {sp : Sp} {fx cx n : Str} {p p2 pos cpos epos hpos : Pos} {e : Expr} {es : List Expr} {t : TA} {b₀ : Stmt} {suite : List Stmt} {u : TS}
/-- a call whose exceptions are taken up here -/
theorem call_any {pins : List (Addr × Obj)} {s : Shared} {σ : St} {H : Hp} {Q : VK} {E : XK} {EX : Value → Shared → Prop} (F : FnOk X.prog X.w X.K X.mg X.base (CX1 X.prog X.w) k f fd ps sp) (hr : Room k X.A) (hg : Gl X fx) (hm : X.mg fx = some (.ref f))
    (hk : PySem.W.keepIn X.K (.ref f) = true) (hb : Binds X.K fd ps []) (ha : PA X.nox (e :: es) t) (I : Inv X pins σ H s) (h : t σ H fun vs H1 => sp vs H1 Q E)
    (hx : ∀ H1 s1 ev s', Inv X pins σ H1 s1 → CX1 X.prog X.w X.stack H1 s1 E ev s' → EX ev s') (hdb : (fx == ("__debug__" : Str)) = false := by decide)
    (he : starEach (e :: es) X.env = (false, eval e X.env) :: starEach es X.env := by rfl) (hpl : (backTo pos (starEach es X.env)).any (·.1) = false := by rfl) :
    wpAny (model X.prog X.w) X.A (eval (.Call (.Name fx p) (e :: es) [] pos) X.env) (EP X pins σ Q) EX s := by
  refine wpAny_Call_Name_kw (ld_glob I hg hm ?_ hdb)
  refine PySem.W.callWith_K (h₀ := X.base) I.ok.mod.kin hk (wpAny_mono (ha pos pins s σ H _ (I.wish _) h) (fun us s1 ⟨vs, H1, I1, r, q⟩ => ⟨I1.unwish.kIn, ?_⟩) fun _ _ z => z.elim) he hpl
  have J := I1.unwish
  have hl : us.length = ps.length := by rw [← r.length]; exact F.len _ _ _ _ q
  have hb' : BindsTo s1 fd ⟨us, []⟩ (ps.zip us) := by
    have z := hb s1 us J.kIn (by rw [List.append_nil]; exact hl)
    rwa [List.append_nil] at z
  refine wpAny_call (codeAny_mono (F.run X.A X.stack s1 H1 ⟨us, []⟩ us vs Q E hr J.env0 hb' r q) fun r s' hq => ?_)
  cases r with
  | error ev => exact hx H1 s1 ev s' J hq
  | ok fl =>
    cases fl with
    | ret v => exact J.after hq
    | next => exact False.elim hq
    | brk => exact False.elim hq
    | cont => exact False.elim hq

/-- the reading of try f(..) except C as n: suite -/
def tTry (K : PySem.W.Frag) (sp : Sp) (C2 : Addr) (i : Nat) (t : TA) (u : TS) : TS := fun D σ H => t σ H fun vs H1 => sp vs H1 (fun _ H2 => D.nx σ H2) fun cls dd H2 =>
  PySem.W.exmOne K cls (.ref C2) = some true ∧ ∀ x, H2 x = none → u { nx := fun σ' H' => D.nx (σ'.set i none) H', rt := D.rt, bk := fun σ' H' => D.bk (σ'.set i none) H', ct := fun σ' H' => D.ct (σ'.set i none) H' } (σ.set i (some (.ref x))) (upd H2 x (ExcO x cls dd))
end
end L2
/-! isinstance of a caught exception -/
namespace L2
open PySem PySem.Spec PyProof.Rows
/-- an own class of errors, as isinstance reads it -/
structure ECls (K : PySem.W.Frag) (C : Addr) : Prop where
  ga : PySem.W.findIn K (.ref C) "__getattribute__" = some (some (.builtin "BaseException.__getattribute__"))
  gh : PySem.W.findIn K (.ref C) "__getattr__" = some none
  sb : PySem.W.subIn K (.ref C) (.type "BaseException") = some true
  cl : PySem.W.isClsIn K C = true
  fi : PySem.W.findIn K (.ref C) "__class__" = some (some (.builtin "object.__class__"))
  sp : PySem.W.specialIn K (.builtin "object.__class__") "__get__" = some (some (.builtin "getset_descriptor.__get__"))
  tk : PySem.W.takesIn K (.builtin "object.__class__") = some true
  mr : PySem.W.mroIn K C (.type "object") = some true
section
variable {prog : Program} {w : World} {A : Around} {E : Value → Shared → Prop} {s : Shared} {K : PySem.W.Frag} {x C : Addr} {ox : Obj} {od : Option Obj}
theorem exc_found (c : ECls K C) : PySem.W.findObj K C od "__class__" = some (.bind (.builtin "getset_descriptor.__get__") (.builtin "object.__class__")) := by
  obtain ⟨cd, hcd⟩ := Option.isSome_iff_exists.mp (show (PySem.W.clsIn K C).isSome = true from c.cl)
  unfold PySem.W.findObj
  rw [hcd, Option.bind_some, c.fi, Option.bind_some]
  simp [c.sp, c.tk]
theorem exc_check {M : Model} {nv : Value} {Q : Unit → Shared → Prop} (c : ECls K C) (X : K.In s.heap) (I : PySem.W.InstAt s.heap x ox C od) (q : Q () s) : wpAny M A (checkBuiltinCall "BaseException.__getattribute__" ⟨[.ref x, nv], []⟩) Q E s := by
  have k1 : builtinKind "BaseException.__getattribute__" = some .slot := by decide +kernel
  have k2 : splitId "BaseException.__getattribute__" = some ("BaseException", "__getattribute__") := by decide +kernel
  have k3 := F.args_bexc_ga (.ref x) nv
  have L : PySem.W.Looks M s.heap (isInstance (.ref x) (.type "BaseException")) true := (I.type (M := M)).andThen (PySem.W.looks_subIn X c.sb)
  obtain ⟨hh, g, d, t, os⟩ := s
  simp only [checkBuiltinCall, k1, k2]
  refine wpAny_bind (L.at ?_)
  repeat (first | assumption | wp_step)
theorem exc_get {tok : Tok} {Q : Fin → Shared → Prop} (c : ECls K C) (X : K.In s.heap) (I : PySem.W.InstAt s.heap x ox C od) (q : Q (.done (.ret (.ref C))) s) :
    wpAny (model prog w) A (Builtin.«object.__getattribute__» ⟨[.ref x, .str "__class__" tok], []⟩) Q E s := by
  have L0 := I.type (M := model prog w)
  have L1 := PySem.W.looks_find (M := model prog w) X I (exc_found (od := od) c)
  have cg : ∀ (A : Around) (R : Result → Shared → Prop), R (.ok (.ret (.ref C))) s → codeAny (model prog w) A (.call (.builtin "getset_descriptor.__get__") ⟨[.builtin "object.__class__", .ref x, .ref C], []⟩) R s := fun A R r => PySem.W.class_get X I c.mr r
  obtain ⟨hh, g, d, t, os⟩ := s
  repeat (any_goals (first | assumption | with_reducible refine L0.at ?_ | with_reducible refine L1.at ?_ | wp_step))
  refine cg _ _ ?_
  repeat (any_goals (first | assumption | wp_step))
theorem exc_class {Q : Option Value → Shared → Prop} (c : ECls K C) (X : K.In s.heap) (I : PySem.W.InstAt s.heap x ox C od) (q : Q (some (.ref C)) { s with toks := s.toks + 1 }) : wpAny (model prog w) A (getAttr? (.ref x) "__class__") Q E s := by
  have L0 := I.type (M := model prog w)
  have L1 := PySem.W.looks_findIn (M := model prog w) X c.ga
  have L2 := PySem.W.looks_findIn (M := model prog w) X c.gh
  have f3 := F.attr_ValueError.ga.bind (.ref x)
  have f4 : (Value.builtin "BaseException.__getattribute__" == Value.builtin "object.__getattribute__") = false := by decide +kernel
  have f5 : (onTheHeap (Value.ref C) && Value.builtin "BaseException.__getattribute__" == Value.builtin "object.__getattribute__") = false := by rw [f4]; rfl
  have f6 : (false && onTheHeap (Value.builtin "BaseException.__getattribute__")) = false := rfl
  have cg : ∀ (A : Around) (tok : Tok) (R : Result → Shared → Prop), R (.ok (.ret (.ref C))) { s with toks := s.toks + 1 } → codeAny (model prog w) A (.call (.builtin "BaseException.__getattribute__") ⟨[.ref x, .str "__class__" tok], []⟩) R { s with toks := s.toks + 1 } := fun A tok R r =>
    codeAny_call_builtin F.attr_ValueError.ga.plain F.entry_bexc_ga (exc_check (s := { s with toks := s.toks + 1 }) c X I (exc_get (s := { s with toks := s.toks + 1 }) c X I r))
  obtain ⟨hh, g, d, t, os⟩ := s
  unfold getAttr? getAttrBy?
  repeat (any_goals (first | assumption | with_reducible refine L0.at ?_ | with_reducible refine L1.at ?_ | with_reducible refine L2.at ?_ | wp_step))
  refine cg _ _ _ ?_
  repeat (any_goals (first | assumption | wp_step))
end
theorem ECls.kit {K : PySem.W.Frag} {C x : Addr} (c : ECls K C) : PySem.W.KitX K (.ref x) (.ref C) (fun h => ∃ ox od, PySem.W.InstAt h x ox C od) := by
  obtain ⟨cd, hcd⟩ := Option.isSome_iff_exists.mp (show (PySem.W.clsIn K C).isSome = true from c.cl)
  have lk : ∃ c' d' sl', K.lookup C = some ⟨c', d', .cls cd, sl'⟩ := by
    unfold PySem.W.clsIn at hcd
    split at hcd
    · rename_i c' d' cd' sl' ho
      cases hcd
      exact ⟨_, _, _, ho⟩
    · cases hcd
  obtain ⟨c', d', sl', lk⟩ := lk
  refine ⟨fun _ _ _ ⟨_, _, I⟩ => I.type, fun M h X _ A Q E s k q => ?_, fun h tp dd its n sl X htp => ?_, fun {prog w A E Q s} X ⟨ox, od, I⟩ q => ?_⟩
  · unfold isType loadHead
    exact wpAny_bind (wpAny_loadPart (k _ _ (X _ _ lk)) (wpAny_pure q))
  · refine Bool.eq_false_iff.mpr fun q => ?_
    have e : C = tp := Value.ref.inj (beq_iff_eq.mp q)
    subst e
    have z := (X _ _ lk).symm.trans htp
    cases z
  · exact exc_class c X I q
/-- a caught exception of the class at C -/
def EAt (K : PySem.W.Frag) (H : Hp) (x C : Addr) : Prop := ECls K C ∧ ∃ dd, H x = some (ExcO x (.ref C) dd) ∧ ∀ dx, dd = some dx → ∃ o, H dx = some o
theorem Inv.eat {X : Cx} {pins : List (Addr × Obj)} {σ : St} {H : Hp} {s : Shared} {x C : Addr} (I : Inv X pins σ H s) (h : EAt X.K H x C) : ∃ ox od, PySem.W.InstAt s.heap x ox C od := by
  obtain ⟨_, dd, hx, hd⟩ := h
  obtain ⟨⟨o, vs, h1, h2, h3, h4⟩, _⟩ := (show ObjOk X.prog X.w H s.heap x (ExcO x (.ref C) dd) from I.hok x _ hx)
  have no : PySem.W.notCls o = true := by
    obtain ⟨a, b, c, d⟩ := o
    simp only at h4
    subst h4
    rfl
  cases dd with
  | none => exact ⟨o, none, h1, h2, no, by rw [h3]; trivial⟩
  | some dx =>
    obtain ⟨u, hu⟩ := hd dx rfl
    obtain ⟨od, ho⟩ := (I.hok dx u hu).some
    exact ⟨o, some od, h1, h2, no, by rw [h3]; exact ho⟩
/-- a class as a value -/
inductive ClsV : V → Value → Prop where
  | own (D : Addr) : ClsV (.ref D) (.ref D)
  | ty (T : String) : ClsV (.ty T) (.type T)
theorem ClsV.eq {v : V} {c u : Value} (h : ClsV v c) (r : RelV v u) : u = c := by
  cases h with
  | own D => exact r
  | ty T => exact r
theorem ClsV.all : ∀ {vs : List V} {cs us : List Value}, Paired ClsV vs cs → Vals vs us → us = cs := by
  intro vs cs us h r
  induction h generalizing us with
  | nil => cases r; rfl
  | cons h1 _ ih =>
    cases r with
    | cons r1 r2 => rw [h1.eq r1, ih r2]
section
variable {X : Cx}
theorem call_isE {K : PySem.W.Frag} (hK : X.K = K) : CallR X (.builtin "isinstance") (fun xs H Q => ∃ x C v c b, xs = [.ref x, v] ∧ EAt K H x C ∧ ClsV v c ∧ PySem.W.kitOne K (.ref C) c = some b ∧ Q (.bl b) H) := by
  subst hK
  intro pins s σ H xs us Q I r h
  obtain ⟨x, C, v, c, b, rfl, ea, hv, e, q⟩ := h
  obtain ⟨u, w', rfl, ru, rw'⟩ := vals2 r
  cases ru
  cases hv.eq rw'
  exact PySem.W.kia_one ea.1.kit I.kIn (I.eat ea) e (fun z => nomatch z) fun tk => ⟨.bl b, H, I.tok tk, rfl, q⟩
theorem call_isET {K : PySem.W.Frag} (hK : X.K = K) : CallR X (.builtin "isinstance") (fun xs H Q => ∃ x C tp vs cs b, xs = [.ref x, .ref tp] ∧ EAt K H x C ∧ SqT K H tp vs ∧ Paired ClsV vs cs ∧ PySem.W.kitAny K (.ref C) cs = some b ∧ Q (.bl b) H) := by
  subst hK
  intro pins s σ H xs us Q I r h
  obtain ⟨x, C, tp, vs, cs, b, rfl, ea, ht, hv, e, q⟩ := h
  obtain ⟨u, w', rfl, ru, rw'⟩ := vals2 r
  cases ru
  cases rw'
  obtain ⟨its, r1, p1, _⟩ := I.tuple ht
  obtain ⟨⟨cls, dd, data, sl⟩, ho, hc, n, hd⟩ := id p1
  simp only at hc hd
  subst hc hd
  have z := ClsV.all hv r1
  subst z
  exact PySem.W.kia_tup ea.1.kit I.kIn (I.eat ea) ho e (fun z => nomatch z) fun tk => ⟨.bl b, H, I.tok tk, rfl, q⟩
end
end L2
/-! enumerate over a tuple -/
namespace L2
open PySem PySem.Spec PyProof.Rows
section
variable {prog : Program} {w : World} {A : Around} {E : Value → Shared → Prop} {s : Shared}
end
end L2
/-! for a, b in enumerate(a tuple) -/
namespace L2
open PySem PySem.Spec PyProof.Rows
/-- the pairs (0, x0), (1, x1), .. of the tuple at a -/
def Ite (K : PySem.W.Frag) (a : Addr) : It :=
  ⟨fun i H => ∃ xs x, SqT K H a xs ∧ xs[i]? = some x, fun i H x H' => ∃ p y, x = .ref p ∧ H p = none ∧ H' = upd H p (.tup [.int i, y]) ∧ ∀ xs, SqT K H a xs → xs[i]? = some y, fun i H => ∃ xs, SqT K H a xs ∧ xs.length ≤ i⟩
section
variable {prog : Program} {w : World} {A : Around} {E : Value → Shared → Prop} {s : Shared}
end
section
variable {X : Cx} {es : List Expr} {x1 : Nat} {tpos : Pos}
def iEnum (K : PySem.W.Frag) (ta : TA) : TI := fun σ H R => ta σ H fun vs H1 => ∃ a, vs = [.ref a] ∧ (∃ xs, SqT K H1 a xs) ∧ R (Ite K a) H1
end
end L2
/-! defs that raise, as callers know them -/
namespace L2
open PySem PySem.Spec PyProof.Rows
theorem bt_ValueError : bootBuiltins "ValueError" = some (.type "ValueError") := by decide +kernel
structure CalX (P : Program) (w : World) (K : PySem.W.Frag) (mg : Str → Option Value) (base : Heap) (k : Nat) (x : Str) (ps : List Str) (sp : Sp) : Prop where
  ex : ∃ (f : Addr) (fd : FuncData), FnOk P w K mg base (CX1 P w) k f fd ps sp ∧ Binds K fd ps [] ∧ PySem.W.keepIn K (.ref f) = true ∧ mg x = some (.ref f)
section
variable {P : Program} {w : World} {K : PySem.W.Frag} {mg : Str → Option Value} {base : Heap} {k : Nat} {x : Str} {st : Stmt} {ps : List Str} {sp : Sp}
theorem Def.calx (d : Def K mg x st ps) (F : ∀ (f : Addr) (fd : FuncData), Fun K x x st f fd → FnOk P w K mg base (CX1 P w) k f fd ps sp) : CalX P w K mg base k x ps sp := by
  obtain ⟨f, fd, h1, h2, h3⟩ := d.ex
  exact ⟨f, fd, F f fd h1, .all h2, h1.kp, h3⟩
/-- where it is known that it does not raise -/
theorem CalX.cal {sp' : Sp} (c : CalX P w K mg base k x ps sp) (h : ∀ vs H Q E, sp' vs H Q E → sp vs H Q E0) : Cal P w K mg base k x ps sp' := by
  obtain ⟨f, fd, F, B, kp, m⟩ := c.ex
  refine ⟨f, fd, ⟨fun vs H Q E q => F.len vs H Q E0 (h vs H Q E q), fun A outer s H args us vs Q E hr he hb hv hs => codeAny_mono (F.run A outer s H args us vs Q E0 hr he hb hv (h _ _ _ _ hs)) fun r s' q => ?_⟩, B, kp, m⟩
  cases r with
  | error e =>
    obtain ⟨_, _, _, _, _, _, _, z⟩ := (show CX1 P w outer H s E0 e s' from q)
    exact z.elim
  | ok fl =>
    cases fl with
    | ret u => exact q
    | next => exact q
    | brk => exact q
    | cont => exact q
theorem Fun.okx {qual : Str} {f : Addr} {fd : FuncData} {N : List Str} (F : Fun K x qual st f fd) (S : FnScope N ps (defScope st)) (len : ∀ vs H Q E, sp vs H Q E → vs.length = ps.length)
    (hbody : ∀ (cdv : Value) (A : Around) (outer : List Env) (s : Shared) (H : Hp) (vs : List V) (Q : VK) (E : XK), Room k (A.deeper (envOfC qual (defScope st) s.heap.objs.size f cdv)) → sp vs H Q E →
      ∃ t, PSs (cxOf (CX1 P w) P w K mg base N qual (defScope st) f cdv A outer s H E) (defBody st) t ∧ t { nx := fun _ H' => Q .non H', rt := Q } (start N vs) H) : FnOk P w K mg base (CX1 P w) (k + 1) f fd ps sp := by
  obtain ⟨oc, od, kV, doc, pm, an, cdv, ct, osl, rfl, lk, hcd⟩ := F.ex
  exact fn_of lk hcd S len fun A outer s H vs Q E hr hsp => hbody cdv A outer s H vs Q E hr hsp
theorem lv_of {N : List Str} {qual : Str} {sc : Scope} {f : Addr} {cd : Value} {A : Around} {outer : List Env} {s : Shared} {H : Hp} {E : XK} : Lv (cxOf (CX1 P w) P w K mg base N qual sc f cd A outer s H E) E := ⟨rfl, rfl, rfl, rfl, rfl⟩
end
section
variable {X : Cx} {E : XK} {x : Str} {C : Addr} {e : Expr} {es : List Expr} {t : TA} {np cpos pos : Pos}
abbrev bmVE : List Value := [.type "ValueError", .type "Exception", .type "BaseException", .type "object"]
theorem ps_raiseK (l : Lv X E) (m : X.mg x = some (.ref C)) (q : PySem.W.excIn X.K C bmVE "ValueError.__new__" = true) (hg : Gl X x) (ha : PA X (e :: es) t) (hdb : (x == ("__debug__" : Str)) = false := by decide)
    (he : starEach (e :: es) X.env = (false, eval e X.env) :: starEach es X.env := by rfl) (hpl : (backTo cpos (starEach es X.env)).any (·.1) = false := by rfl) :
    PS X (.Raise (some (.Call (.Name x np) (e :: es) [] cpos)) none pos) (tRaise C E t) := fun pins s σ H D I h =>
  ps_raise l PySem.F.excBase_ValueError (own_exc I.mod.kin m q) hg ha hdb he hpl pins s σ H D I h
variable {k i : Nat} {C2 : Addr} {ps : List Str} {sp : Sp} {fx cx n : Str} {p p2 epos hpos : Pos} {b₀ : Stmt} {suite : List Stmt} {u : TS}
/-- xs == ys of two lists of plain things, as long as one another -/
theorem op_eqF (hu : X.A.units < cLine) : OpR X (compareOp .Eq) (fun x y H Q => ∃ (a b : Addr) (xs ys : List V), x = .ref a ∧ y = .ref b ∧ SqL X.K H a xs ∧ SqL X.K H b ys ∧ xs.length = ys.length ∧ xs.all flatV = true ∧ ys.all flatV = true ∧
    Q (.bl ((List.range xs.length).all fun j => eqV (xs.getD j .non) (ys.getD j .non))) H) := by
  intro pins s σ H x y v u Q I rx ry h
  obtain ⟨a, b, xs, ys, rfl, rfl, ha, hb, hl, f1, f2, q⟩ := h
  cases rx
  cases ry
  obtain ⟨its, r1, p1, _⟩ := I.list ha
  obtain ⟨its2, r2, p2, _⟩ := I.list hb
  have l1 := r1.length
  have l2 := r2.length
  refine SeqAt.eq_listAt (e := fun j => eqV (xs.getD j .non) (ys.getD j .non)) p1.isList p2.isList (by rw [List.size_toArray, List.size_toArray, ← l1, ← l2]; exact hl) hu (fun j h1 h2 => ?_) ?_
  · have h1' : j < xs.length := by rw [List.size_toArray] at h1; omega
    have h2' : j < ys.length := by omega
    obtain ⟨v1, e1, r1'⟩ := r1.get (i := j) (x := xs[j]) (by simp [h1'])
    obtain ⟨v2, e2, r2'⟩ := r2.get (i := j) (x := ys[j]) (by simp [h2'])
    have g1 : its.toArray[j] = v1 := by
      have := List.getElem?_eq_some_iff.mp e1
      simpa using this.2
    have g2 : its2.toArray[j] = v2 := by
      have := List.getElem?_eq_some_iff.mp e2
      simpa using this.2
    have z := eqAt_V (A := X.A.in1) (s := s) r1' r2' (List.all_eq_true.mp f1 _ (List.getElem_mem h1')) (List.all_eq_true.mp f2 _ (List.getElem_mem h2'))
    have e1 : xs.getD j .non = xs[j] := by simp [List.getD_eq_getElem?_getD, h1']
    have e2 : ys.getD j .non = ys[j] := by simp [List.getD_eq_getElem?_getD, h2']
    simp only [e1, e2]
    first | (rw [g1, g2]; exact z) | (simp only [g1]; simp only [g2]; exact z)
  · refine ⟨.bl _, H, I, ?_, q⟩
    show Value.bool _ = Value.bool _
    congr 1
    rw [List.size_toArray, ← l1]
end
end L2
/-! an own class of errors with an __init__ of its own: made, raised -/
namespace L2
open PySem PySem.Spec PyProof.Rows
/-- the class at C over ValueError's line, its __init__ the def at f -/
def excInI (K : PySem.W.Frag) (C : Addr) (tl : List Value) (nw : String) (f : Addr) : Bool := match K.lookup C with
  | some ⟨.type "type", _, .cls cd, sl⟩ => (match cd.mro, sl.toList with
    | .ref C2 :: bm, [_, _, _, _, some (.builtin n), _] => (C2 == C) && (n == nw) && !cd.hasDel && PySem.W.tailIn K tl bm && PySem.W.nsOkIn K cd.ns && (PySem.W.nsIn K cd.ns "__init__" == some (some (.ref f))) && PySem.W.isFn K (.ref f)
    | _, _ => false)
  | _ => false
section
variable {prog : Program} {w : World} {A : Around} {E : Value → Shared → Prop} {h : Heap} {g : Array GenState} {d : Drawn} {t : Nat} {os : OsState}
variable {nm qn : Str} {C N : Addr} {bs bm tl : List Value} {hdct : Bool} {sn : List Str} {sub : List Value} {ab : Bool} {col : Option Bool} {dd : Option Addr} {k0 k1 k2 k3 k5 : Option Value} {B nw it : String}
end
end L2
/-! raise C(..), C with an __init__ of its own -/
namespace L2
open PySem PySem.Spec PyProof.Rows
/-- an exception that is being made: no note yet -/
def ExcN (x : Addr) (cls : Value) (dd : Option Addr) : HO := .ext fun h => ∃ o vs, h.get? x = some o ∧ o.cls = cls ∧ o.dict = dd ∧ o.data = .fields vs ∧ vs[1]? = some .none ∧ vs.size = 6
def del (H : Hp) (x : Addr) : Hp := fun b => if b = x then none else H b
section
variable {P : Program} {w : World} {fs : List Addr} {H H' : Hp} {h0 h h' : Heap} {x : Addr} {o : HO}
end
section
variable {X : Cx} {E : XK} {x : Str} {C f : Addr} {fd : FuncData} {ps : List Str} {sp : Sp} {k : Nat} {e : Expr} {es : List Expr} {t : TA} {np cpos pos : Pos}
def tRaiseI (C : Addr) (sp : Sp) (E : XK) (t : TA) : TS := fun _ σ H => t σ H fun vs H1 => vs.length ≤ sizeLine ∧ ∀ ex, H1 ex = none →
  sp (.ref ex :: vs) (upd H1 ex (ExcN ex (.ref C) none)) (fun v H2 => v = .non ∧ ∃ dd, H2 ex = some (ExcN ex (.ref C) dd) ∧ E (.ref C) dd (del H2 ex)) E0
end
end L2
/-! Base.__init__(self, ..) within the __init__ of an own class of errors -/
namespace L2
open PySem PySem.Spec PyProof.Rows
section
variable {prog : Program} {w : World} {A : Around} {E : Value → Shared → Prop} {s : Shared} {K : PySem.W.Frag} {L : Addr} {v : Value} {name : Str} {pl : Sem Bool}
end
section
variable {prog : Program} {w : World} {A : Around} {E : Value → Shared → Prop} {h : Heap} {g : Array GenState} {d : Drawn} {t : Nat} {os : OsState}
variable {nm qn : Str} {C N x : Addr} {bs bm tl : List Value} {hdct : Bool} {sn : List Str} {sub : List Value} {ab : Bool} {col : Option Bool} {dd : Option Addr} {k0 k1 k2 k3 k5 : Option Value} {B nw it : String}
end
section
variable {X : Cx} {cx : Str} {C L f : Addr} {e : Expr} {es : List Expr} {t : TA} {p apos pos : Pos} {pl : Sem Bool}
def tInitB (C : Addr) (t : TA) : TE := fun σ H Q => t σ H fun vs H1 => ∃ x dd r, vs = .ref x :: r ∧ r.length ≤ 1000 ∧ H1 x = some (ExcN x (.ref C) dd) ∧ Q .non H1
end
end L2
/-! x.f = v and x.f of an exception -/
namespace L2
open PySem PySem.Spec PyProof.Rows
open PySem.Builtin.ObjectAttr in
/-- a name that the class at C does not have and its things may have -/
structure XFld (K : PySem.W.Frag) (C : Addr) (f : Str) : Prop where
  sa : PySem.W.findIn K (.ref C) "__setattr__" = some (some (.builtin "object.__setattr__"))
  na : PySem.W.findIn K (.ref C) f = some none
  hd : PySem.W.hasDictIn K C = true
section
variable {prog : Program} {w : World} {A : Around} {E : Value → Shared → Prop} {s : Shared} {K : PySem.W.Frag} {x C fI : Addr} {oe : Obj} {vs : Array Value} {name : Str} {v : Value}
end
end L2
/-! self.f = v within the __init__ of an own class of errors; e.f of a caught one -/
namespace L2
open PySem PySem.Spec PyProof.Rows
section
variable {X : Cx} {o e value : Expr} {ta tv : TE} {C fI : Addr} {f : Str} {pos pos' : Pos}
def sFldE (C : Addr) (ta tv : TE) (f : Str) : TS := fun D σ H => tv σ H fun y H1 => ta σ H1 fun xv H2 => ∃ x, xv = .ref x ∧ H2 x = some (ExcN x (.ref C) none) ∧
  ∀ d, H2 d = none → d ≠ x → D.nx σ (upd (upd H2 d (.xd [(f, y)])) x (ExcN x (.ref C) (some d)))
def tFldE (K : PySem.W.Frag) (ta : TE) (f : Str) : TE := fun σ H Q => ta σ H fun xv H1 => ∃ x C dx fs i, xv = .ref x ∧ ECls K C ∧ XFld K C f ∧ H1 x = some (ExcO x (.ref C) (some dx)) ∧ H1 dx = some (.xd fs) ∧ fs.lookup f = some (.int i) ∧ Q (.int i) H1
end
end L2
/-! xs != ys of two lists of three truths -/
namespace L2
open PySem PySem.Spec PyProof.Rows
end L2
/-! my own rules over the layer: a list comprehension with one test -/
namespace L2
open PySem PySem.Spec PyProof.Rows
/-- the reading: as tComp's, and what passes the test alone is kept -/
def tCompIf (wi : TI) (tt : TT) (te : TE) (fr : List Nat) : TE := fun σ H Q => wi σ H fun J H1 => ∀ D, H1 D = none → ∃ W : Nat → Nat → List V → Hp → Prop, (∃ m, W 0 m [] (upd H1 D (.lst []))) ∧
  ∀ i m ys H2, W i m ys H2 → H2 D = some (.lst ys) ∧ ((J.stop i H2 ∧ Q (.ref D) H2) ∨ (J.go i H2 ∧ ys.length < sizeLine ∧ ∃ N : V → Hp → Prop, (∀ y H3, N y H3 → H3 D = some (.lst ys) ∧ ∃ m', m' < m ∧ W (i + 1) m' (ys ++ [y]) (upd H3 D (.lst (ys ++ [y])))) ∧
    ∀ x H', J.yld i H2 x H' → tt (some x :: fr.map fun j => (σ[j]?).getD none) H' fun b H3 => if b = true then te (some x :: fr.map fun j => (σ[j]?).getD none) H3 N else ∃ m', m' < m ∧ W (i + 1) m' ys H3))
section
variable {prog : Program} {w : World} {A : Around} {R : Result → Shared → Prop} {s : Shared}
abbrev nbOf (prog : Program) (w : World) (A : Around) (env : Env) (R : Result → Shared → Prop) : Value → Shared → Prop := notedBy (model prog w) A env fun e s' => R (.error e) s'
end
/-- y = [.. for x in ..], straight to a local name -/
def tSetCompIf (i : Nat) (wi : TI) (tt : TT) (te : TE) (fr : List Nat) : TS := fun D σ H => tCompIf wi tt te fr σ H fun v H1 => D.nx (σ.set i (some v)) H1
end L2
/-! my own rules over the layer: a def that calls itself; gone through by a map; sorted ints; xs[::-1]; trees of tuples -/
namespace L2
open PySem PySem.Spec PyProof.Rows
section
variable {P : Program} {w : World} {K : PySem.W.Frag} {mg : Str → Option Value} {base : Heap}
/-- what the call below promises: nothing at 0 -/
def prevSp (sp : Nat → Sp) : Nat → Sp
  | 0 => fun _ _ _ _ => False
  | e + 1 => sp e
/-- a def that calls itself, by a measure -/
theorem Def.recur {sp : Nat → Sp} {x : Str} {st : Stmt} {ps : List Str} (d : Def K mg x st ps) {k : Nat} (n : Nat)
    (step : ∀ e, e ≤ n → Cal P w K mg base (e + k) x ps (prevSp sp e) → ∀ (f : Addr) (fd : FuncData), Fun K x x st f fd → FnOk P w K mg base CX0 (e + (k + 1)) f fd ps (sp e)) :
    Cal P w K mg base (n + (k + 1)) x ps (fun vs H Q E => ∃ e, e ≤ n ∧ sp e vs H Q E) := by
  obtain ⟨f, fd, h1, h2, h3⟩ := d.ex
  have all : ∀ e, e ≤ n → FnOk P w K mg base CX0 (e + (k + 1)) f fd ps (sp e) := by
    intro e
    induction e with
    | zero => exact fun he => step 0 he ⟨f, fd, ⟨fun _ _ _ _ h => h.elim, fun _ _ _ _ _ _ _ _ _ _ _ _ _ h => h.elim⟩, .all h2, h1.kp, h3⟩ f fd h1
    | succ e ih => exact fun he => step (e + 1) he ⟨f, fd, (ih (by omega)).mono (by omega), .all h2, h1.kp, h3⟩ f fd h1
  refine ⟨f, fd, ⟨?_, ?_⟩, .all h2, h1.kp, h3⟩
  · rintro vs H Q E ⟨e, he, h⟩
    exact (all e he).len vs H Q E h
  · rintro A outer s H args us vs Q E hr he hb hv ⟨e, hle, h⟩
    exact (all e hle).run A outer s H args us vs Q E (hr.mono (by omega)) he hb hv h
end
section
variable {X : Cx}
/-- xs[::-1] of a list -/
def tRev (K : PySem.W.Frag) (te : TE) : TE := fun σ H Q => te σ H fun x H1 => ∃ a xs, x = .ref a ∧ SqL K H1 a xs ∧ ∀ p, H1 p = none → Q (.ref p) (upd H1 p (.lst xs.reverse))
theorem pe_rev {e : Expr} {te : TE} {p1 p2 p3 pos : Pos} {k : Nat} (he : PE X e te) : PE X (.Subscript e (.Slice none none (some (.UnaryOp .USub (.Constant (.int 1) k p1) p3)) p2) pos) (tRev X.K te) := by
  intro pins s σ H Q I h
  refine Subscript_ (thn (he pins s σ H _ I h) fun v s1 ⟨x, H1, I1, r1, q1⟩ => ?_)
  obtain ⟨a, xs, rfl, hx, q⟩ := q1
  cases r1
  have hst : PO X (some (.UnaryOp .USub (.Constant (.int 1) k p1) p3)) (tPart (tUn (rU fun i => .int (-i)) fun _ H Q => Q (.int 1) H)) := po_some (pe_un un_neg pe_int)
  refine wpAny_Slice (thn (po_none (X := X) pins s1 σ H1 (fun o H' => o = none ∧ H' = H1) I1 ⟨rfl, rfl⟩) fun vl s2 ⟨l, H2, I2, pl, el, e2⟩ => thn (po_none (X := X) pins s2 σ H2 (fun o H' => o = none ∧ H' = H1) I2 ⟨rfl, e2⟩) fun vu s3 ⟨u, H3, I3, pu, eu, e3⟩ =>
    thn (hst pins s3 σ H3 (fun o H' => o = some (-1) ∧ H' = H1) I3 ⟨_, rfl, ⟨_, rfl, rfl, e3⟩⟩) fun vk s4 ⟨kk, H4, I4, pk, ek, e4⟩ => ?_)
  subst el eu ek e4
  have I5 : Inv X pins σ H4 { s4 with heap := s4.heap.push { cls := .type "slice", data := .fields #[vl, vu, vk] } } := I4.kept (t' := s4.toks) fun b ob q => Heap.get?_push_of_some _ q
  obtain ⟨its, r, ht, hz⟩ := I5.list hx
  have hlen := r.length
  show wpAny (model X.prog X.w) X.A (subscriptTail e _ (.ref a) (.ref s4.heap.objs.size)) (EP X pins σ Q) X.xe { s4 with heap := s4.heap.push { cls := .type "slice", data := .fields #[vl, vu, vk] } }
  refine tail_any (ops := [.ref a, .ref s4.heap.objs.size]) ht.isList.typeIs slot_list_getitem.lookup ?_ (by with_unfolding_all rfl)
  refine wpAny_getItem_list_slice ht.isList (Heap.IsSliceOf.new ..) pl pu pk (by simp) ?_ (by rw [List.size_toArray] <;> omega)
  rw [PySem.W.krv_pick]
  refine ⟨.ref _, _, I5.laid (t' := s4.toks) (o := .lst xs.reverse) (fun b ob q => Heap.get?_push_of_some _ q) (Nat.le_refl _) ?_, rfl, q _ (I5.hok.fresh (Nat.le_refl _))⟩
  exact ⟨by rw [List.length_reverse]; exact hz, _, 0, r.reverse, Heap.get?_push_size _ rfl⟩
end

section
variable {X : Cx} {K : PySem.W.Frag}
theorem mr_append : MtR X "list.append" rAppend := mt_append
theorem pe_bmK {o e : Expr} {es : List Expr} {to : TE} {t : TA} {name : Str} {apos cpos : Pos} {T id : String} {r : V → List V → Hp → VK → Prop} (h : X.K = K)
    (pa : PlainAttrs T) (slot : Slot T name id) (hty : typeOf (.builtin id) = pure (.type "method_descriptor")) (hm : MtR X id r) (ho : PE X o to) (ha : PA X (e :: es) t)
    (hbase : attributeBase o name X.env (eval o X.env) = eval o X.env := by rfl)
    (hfew : ((backTo cpos (starEach (e :: es) X.env)).all (fun x => !x.1) && (backToKw cpos (keywordEach [] X.env)).all (fun x => x.1.isSome) && decide ((e :: es).length + ([] : List Keyword).length + (if ([] : List Keyword).isEmpty then 0 else 1) < 30)) = true := by rfl)
    (hline : (apos.endLine == cpos.line) = true := by rfl) (hs : starEach (e :: es) X.env = (false, eval e X.env) :: starEach es X.env := by rfl) (hplain : (backTo cpos (starEach es X.env)).any (·.1) = false := by rfl) :
    PE X (.Call (.Attribute o name apos) (e :: es) [] cpos) (tBM K T r to t) := by subst h; exact pe_bm pa slot hty hm ho ha hbase hfew hline hs hplain
end
/-! ### trees -/
inductive Tr where
  | non
  | many (n : Int)
  | part (ms : List Int) (l r : Tr)
def Tr.deep : Tr → Nat
  | .non => 0
  | .many _ => 0
  | .part _ l r => max l.deep r.deep + 1
/-- a value that is this tree -/
def TreeAt (H : Hp) : V → Tr → Prop
  | v, .non => v = .non
  | v, .many n => ∃ a, v = .ref a ∧ H a = some (.tup [.str "many", .int n])
  | v, .part ms l r => ∃ a m x y, v = .ref a ∧ H a = some (.tup [.str "part", .ref m, x, y]) ∧ TupF H m (ms.map V.int) ∧ TreeAt H x l ∧ TreeAt H y r
/-- what tuples there are stays -/
def TKeep (H H' : Hp) : Prop := ∀ b xs, (H b = some (.tup xs) → H' b = some (.tup xs)) ∧ ∀ o, H b = some (.frz o (.tup xs)) → H' b = some (.frz o (.tup xs))
theorem TKeep.trans {H H1 H2 : Hp} (a : TKeep H H1) (b : TKeep H1 H2) : TKeep H H2 := fun c xs => ⟨fun h => (b c xs).1 ((a c xs).1 h), fun o h => (b c xs).2 o ((a c xs).2 o h)⟩
theorem TKeep.same {H H' : Hp} (s : Same H H') : TKeep H H' := fun _ _ => ⟨s _ _, fun _ => s _ _⟩
theorem TKeep.keep {H H' : Hp} {p : Addr} {ys : List V} (s : Keep p H H') (e : H p = some (.lst ys)) : TKeep H H' := fun _ _ => ⟨fun h => s _ _ (ne_of h e (by intro z; cases z)) h, fun _ h => s _ _ (ne_of h e (by intro z; cases z)) h⟩
theorem TKeep.set {H : Hp} {p : Addr} {ys zs : List V} (e : H p = some (.lst ys)) : TKeep H (upd H p (.lst zs)) := .keep (Keep.set p H _) e
section
variable {X : Cx}
theorem eqAt_tup {pins : List (Addr × Obj)} {σ : St} {H : Hp} {s : Shared} {A : Around} {a b : Addr} {xs ys : List V} (I : Inv X pins σ H s) (ha : SqT X.K H a xs) (hb : SqT X.K H b ys) (hl : xs.length = ys.length)
    (he : ∀ (j : Nat) (x y : V), xs[j]? = some x → ys[j]? = some y → ∀ u v, RelV x u → RelV y v → SeqAt.EqAt A.in1 s u v true) (hu : A.units < cLine) :
    SeqAt.RcAt A s (.ref a) (.ref b) true ∧ SeqAt.RcNeAt A s (.ref a) (.ref b) false := by
  obtain ⟨its, r1, p1, _⟩ := I.tuple ha
  obtain ⟨its2, r2, p2, _⟩ := I.tuple hb
  have l1 := r1.length
  have l2 := r2.length
  have hz : its.toArray.size = its2.toArray.size := by rw [List.size_toArray, List.size_toArray]; omega
  have el : ∀ (j : Nat) (h1 : j < its.toArray.size) (h2 : j < its2.toArray.size), SeqAt.EqAt A.in1 s its.toArray[j] its2.toArray[j] ((fun _ => true) j) := by
    intro j h1 h2
    have h1' : j < xs.length := by rw [List.size_toArray] at h1; omega
    have h2' : j < ys.length := by rw [List.size_toArray] at h2; omega
    obtain ⟨v1, e1, r1'⟩ := r1.get (i := j) (x := xs[j]) (List.getElem?_eq_getElem h1')
    obtain ⟨v2, e2, r2'⟩ := r2.get (i := j) (x := ys[j]) (List.getElem?_eq_getElem h2')
    have g1 : its.toArray[j] = v1 := by
      have := List.getElem?_eq_some_iff.mp e1
      simpa using this.2
    have g2 : its2.toArray[j] = v2 := by
      have := List.getElem?_eq_some_iff.mp e2
      simpa using this.2
    rw [g1, g2]
    exact he j _ _ (List.getElem?_eq_getElem h1') (List.getElem?_eq_getElem h2') _ _ r1' r2'
  have t0 : ((List.range (min its.toArray.size its2.toArray.size)).all (fun _ => true) && its.toArray.size == its2.toArray.size) = true := by
    rw [hz]; simp
  constructor
  · rw [← t0]
    exact SeqAt.RcAt.tuples p1 p2 hu el
  · have z := SeqAt.RcNeAt.tuples (e := fun _ => true) p1 p2 hu el
    rw [t0] at z
    exact z
theorem eqAt_ref {A : Around} {s : Shared} {a b : Addr} (h : SeqAt.RcAt A s (.ref a) (.ref b) true) : SeqAt.EqAt A s (.ref a) (.ref b) true := by
  by_cases e : a = b
  · subst e
    exact SeqAt.EqAt.same _
  · exact .of_refs e h
end
end L2
/-! my own rules over the layer: gone through a list or a tuple of ints; heaps kept -/
namespace L2
open PySem PySem.Spec PyProof.Rows
def onI {α : Type} (f : Int → α) (d : α) : V → α
  | .int n => f n
  | _ => d
section
variable {K : PySem.W.Frag} {a : Addr} {ns : List Int} {p : Int → Bool} {g : Int → V} {Tt : V → Hp → (Bool → Hp → Prop) → Prop} {Te : V → Hp → (V → Hp → Prop) → Prop} {D : Addr} {H1 : Hp} {R : Hp → Prop}
end
/-- a list of ours that was not there before is written: all else is kept -/
theorem Keep.own {p r : Addr} {H H' : Hp} {o : HO} (k : Keep p H H') (hr : H r = none) : Keep p H (upd H' r o) := fun c u hc z => by
  rw [upd_ne (ne_of_none z hr)]
  exact k c u hc z
end L2
/-! my own rules over the layer: things alike, however deep; list.insert -/
namespace L2
open PySem PySem.Spec PyProof.Rows
/-- two values that are alike, so deep at most: flat ones, tuples and lists of such -/
inductive Alk (K : PySem.W.Frag) (H : Hp) : Nat → V → V → Prop where
  | flat {n : Nat} {x : V} (h : flatV x = true) : Alk K H n x x
  | tup {n : Nat} {a b : Addr} {xs ys : List V} (ha : SqT K H a xs) (hb : SqT K H b ys) (hl : xs.length = ys.length) (h : ∀ (j : Nat) (x y : V), xs[j]? = some x → ys[j]? = some y → Alk K H n x y) : Alk K H (n + 1) (.ref a) (.ref b)
  | lst {n : Nat} {a b : Addr} {xs ys : List V} (ha : SqL K H a xs) (hb : SqL K H b ys) (hl : xs.length = ys.length) (h : ∀ (j : Nat) (x y : V), xs[j]? = some x → ys[j]? = some y → Alk K H n x y) : Alk K H (n + 1) (.ref a) (.ref b)
theorem eqV_self : ∀ {x : V}, flatV x = true → eqV x x = true := by
  intro x h
  cases x <;> simp [flatV] at h <;> simp [eqV]
section
variable {X : Cx}
theorem eqAt_lst {pins : List (Addr × Obj)} {σ : St} {H : Hp} {s : Shared} {A : Around} {a b : Addr} {xs ys : List V} (I : Inv X pins σ H s) (ha : SqL X.K H a xs) (hb : SqL X.K H b ys) (hl : xs.length = ys.length)
    (he : ∀ (j : Nat) (x y : V), xs[j]? = some x → ys[j]? = some y → ∀ u v, RelV x u → RelV y v → SeqAt.EqAt A.in1 s u v true) (hu : A.units < cLine) :
    SeqAt.RcAt A s (.ref a) (.ref b) true ∧ SeqAt.RcNeAt A s (.ref a) (.ref b) false := by
  obtain ⟨its, r1, p1, _⟩ := I.list ha
  obtain ⟨its2, r2, p2, _⟩ := I.list hb
  have l1 := r1.length
  have l2 := r2.length
  have hz : its.toArray.size = its2.toArray.size := by rw [List.size_toArray, List.size_toArray]; omega
  have el : ∀ (j : Nat) (h1 : j < its.toArray.size) (h2 : j < its2.toArray.size), SeqAt.EqAt A.in1 s its.toArray[j] its2.toArray[j] ((fun _ => true) j) := by
    intro j h1 h2
    have h1' : j < xs.length := by rw [List.size_toArray] at h1; omega
    have h2' : j < ys.length := by rw [List.size_toArray] at h2; omega
    obtain ⟨v1, e1, r1'⟩ := r1.get (i := j) (x := xs[j]) (List.getElem?_eq_getElem h1')
    obtain ⟨v2, e2, r2'⟩ := r2.get (i := j) (x := ys[j]) (List.getElem?_eq_getElem h2')
    have g1 : its.toArray[j] = v1 := by
      have := List.getElem?_eq_some_iff.mp e1
      simpa using this.2
    have g2 : its2.toArray[j] = v2 := by
      have := List.getElem?_eq_some_iff.mp e2
      simpa using this.2
    rw [g1, g2]
    exact he j _ _ (List.getElem?_eq_getElem h1') (List.getElem?_eq_getElem h2') _ _ r1' r2'
  have t0 : (List.range its.toArray.size).all (fun _ => true) = true := by simp
  constructor
  · rw [← t0]
    exact SeqAt.RcAt.lists p1.isList p2.isList hz hu el
  · have z := SeqAt.RcNeAt.lists (e := fun _ => true) p1.isList p2.isList hz hu el
    rw [t0] at z
    exact z
theorem alk_eqAt {pins : List (Addr × Obj)} {σ : St} {H : Hp} {s : Shared} (I : Inv X pins σ H s) {n : Nat} {x y : V} (h : Alk X.K H n x y) : ∀ (A : Around) (u v : Value), RelV x u → RelV y v → A.units + n + 1 < cLine → SeqAt.EqAt A s u v true := by
  induction h with
  | @flat n x hf =>
    intro A u v ru rv hu
    have z := eqAt_V (A := A) (s := s) ru rv hf hf
    rw [eqV_self hf] at z
    exact z
  | tup ha hb hl _ ih =>
    intro A u v ru rv hu
    cases ru
    cases rv
    exact eqAt_ref (eqAt_tup I ha hb hl (fun j x y h1 h2 u v r1 r2 => ih j x y h1 h2 A.in1 u v r1 r2 (by show A.units + 1 + _ + 1 < cLine; omega)) (by omega)).1
  | lst ha hb hl _ ih =>
    intro A u v ru rv hu
    cases ru
    cases rv
    exact eqAt_ref (eqAt_lst I ha hb hl (fun j x y h1 h2 u v r1 r2 => ih j x y h1 h2 A.in1 u v r1 r2 (by show A.units + 1 + _ + 1 < cLine; omega)) (by omega)).1
theorem alk_refs {pins : List (Addr × Obj)} {σ : St} {H : Hp} {s : Shared} (I : Inv X pins σ H s) {n : Nat} {a b : Addr} (h : Alk X.K H n (.ref a) (.ref b)) (A : Around) (hu : A.units + n + 1 < cLine) : SeqAt.RcAt A s (.ref a) (.ref b) true ∧ SeqAt.RcNeAt A s (.ref a) (.ref b) false := by
  cases h with
  | flat hf => exact absurd hf (by simp [flatV])
  | tup ha hb hl h => exact eqAt_tup I ha hb hl (fun j x y h1 h2 u v r1 r2 => alk_eqAt I (h j x y h1 h2) A.in1 u v r1 r2 (by show A.units + 1 + _ + 1 < cLine; omega)) (by omega)
  | lst ha hb hl h => exact eqAt_lst I ha hb hl (fun j x y h1 h2 u v r1 r2 => alk_eqAt I (h j x y h1 h2) A.in1 u v r1 r2 (by show A.units + 1 + _ + 1 < cLine; omega)) (by omega)
end
end L2
/-! my own rules over the layer: a list comprehension of any target, with tests or without -/
namespace L2
open PySem PySem.Spec PyProof.Rows
/-- tests of a comprehension -/
def PTs (X : Cx) (ifs : List Expr) (tt : TT) : Prop :=
  ∀ (pins : List (Addr × Obj)) (s : Shared) (σ : St) (H : Hp) (Q : Bool → Hp → Prop), Inv X pins σ H s → tt σ H Q →
    wpAny (model X.prog X.w) X.A (forIn ifs true fun c r => if r = true then do let ok ← isTrue c X.env (eval c X.env); pure (ForInStep.yield ok) else pure (ForInStep.yield r)) (TP X pins σ Q) X.xe s
structure CompOkG (scope sc0 : Scope) (N cn : List Str) : Prop where
  has : ∀ p ∈ relN scope sc0, (p.2 = .cell ∨ p.2 = .free) → p.1 ∈ cn
  nc : ∀ p ∈ scope.names, p.2 ≠ .cell
  names : ∀ p ∈ scope.names, p.2 = .local → scope.names.lookup p.1 = some .local
  frs : ∀ y ∈ N, (relN scope sc0).lookup y = some .cell ∧ sc0.names.lookup y = some .cell ∧ y ∈ cn
/-- the reading: any target, tests, what passes alone is kept -/
def tCompG (k : Nat) (wi : TI) (gt : TG) (tt : TT) (te : TE) (fr : List Nat) : TE := fun σ H Q => wi σ H fun J H1 => ∀ D, H1 D = none → ∃ W : Nat → Nat → List V → Hp → Prop, (∃ m, W 0 m [] (upd H1 D (.lst []))) ∧
  ∀ i m ys H2, W i m ys H2 → H2 D = some (.lst ys) ∧ ((J.stop i H2 ∧ Q (.ref D) H2) ∨ (J.go i H2 ∧ ys.length < sizeLine ∧ ∃ (N : V → Hp → Prop) (Z : Hp → Prop), (∀ y H3, N y H3 → H3 D = some (.lst ys) ∧ ∃ m', m' < m ∧ W (i + 1) m' (ys ++ [y]) (upd H3 D (.lst (ys ++ [y])))) ∧ (∀ H3, Z H3 → ∃ m', m' < m ∧ W (i + 1) m' ys H3) ∧
    ∀ x H', J.yld i H2 x H' → ∀ vs : St, vs.length = k → gt x (vs ++ fr.map fun j => (σ[j]?).getD none) H' fun σ' H3 => (∃ vs' : St, vs'.length = k ∧ σ' = vs' ++ fr.map fun j => (σ[j]?).getD none) ∧ tt σ' H3 fun b H4 => if b = true then te σ' H4 N else Z H4))
section
variable {prog : Program} {w : World} {A : Around} {R : Result → Shared → Prop} {s : Shared}
end
/-- y = [.. for x in ..], straight to a local name -/
def tSetCompG (i k : Nat) (wi : TI) (gt : TG) (tt : TT) (te : TE) (fr : List Nat) : TS := fun D σ H => tCompG k wi gt tt te fr σ H fun v H1 => D.nx (σ.set i (some v)) H1
end L2
/-! my own rules over the layer: gone through a range, each told by g, those alone that pass -/
namespace L2
open PySem PySem.Spec PyProof.Rows
section
variable {n : Nat} {lo : Int} {p : Nat → Bool} {g : Nat → V} {Tt : V → Hp → (Bool → Hp → Prop) → Prop} {Te : V → Hp → (V → Hp → Prop) → Prop} {D : Addr} {H1 : Hp} {R : Hp → Prop}
end
end L2
/-! my own rules over the layer: sum of ints; gone through a list, things made on the way; a tuple's names in a comprehension; trees alike -/
namespace L2
open PySem PySem.Spec PyProof.Rows
section
variable {X : Cx}
end
/-- [.. for x in xs], xs a list that stays -/
theorem comp_listP {K : PySem.W.Frag} {a : Addr} {xs : List V} {T : V → Hp → (V → Hp → Prop) → Prop} {D : Addr} {H1 : Hp} {R : Hp → Prop} (hn : xs.length ≤ sizeLine) (Pv : Nat → List V → Hp → Prop) (h0 : Pv 0 [] (upd H1 D (.lst [])))
    (hl : ∀ i ys H, Pv i ys H → SqL K H a xs) (hD : ∀ i ys H, Pv i ys H → H D = some (.lst ys) ∧ ys.length = i)
    (hs : ∀ i x ys H, xs[i]? = some x → Pv i ys H → T x H fun y H3 => H3 D = some (.lst ys) ∧ Pv (i + 1) (ys ++ [y]) (upd H3 D (.lst (ys ++ [y]))))
    (hd : ∀ ys H, Pv xs.length ys H → R H) :
    ∃ W : Nat → Nat → List V → Hp → Prop, (∃ m, W 0 m [] (upd H1 D (.lst []))) ∧
      ∀ i m ys H2, W i m ys H2 → H2 D = some (.lst ys) ∧ (((Itl K a).stop i H2 ∧ R H2) ∨ ((Itl K a).go i H2 ∧ ys.length < sizeLine ∧ ∃ N : V → Hp → Prop, (∀ y H3, N y H3 → H3 D = some (.lst ys) ∧ ∃ m', m' < m ∧ W (i + 1) m' (ys ++ [y]) (upd H3 D (.lst (ys ++ [y])))) ∧
        ∀ x H', (Itl K a).yld i H2 x H' → T x H' N)) := by
  refine ⟨fun i m ys H => m = xs.length - i ∧ i ≤ xs.length ∧ Pv i ys H, ⟨xs.length, by simp, Nat.zero_le _, h0⟩, ?_⟩
  rintro i m ys H2 ⟨rfl, hi, p⟩
  obtain ⟨d1, d2⟩ := hD i ys H2 p
  have q := hl i ys H2 p
  refine ⟨d1, ?_⟩
  by_cases hlt : i < xs.length
  · refine .inr ⟨⟨xs, xs[i], q, by simp [hlt]⟩, by omega, fun y H3 => H3 D = some (.lst ys) ∧ Pv (i + 1) (ys ++ [y]) (upd H3 D (.lst (ys ++ [y]))), fun y H3 ⟨z1, z2⟩ => ⟨z1, xs.length - (i + 1), by omega, rfl, hlt, z2⟩, fun x H' y => ?_⟩
    obtain ⟨e, y⟩ := y
    subst e
    exact hs i x ys _ (y xs q) p
  · have e : i = xs.length := by omega
    subst e
    exact .inl ⟨⟨xs, q, Nat.le_refl _⟩, hd ys H2 p⟩
theorem Alk.up {K : PySem.W.Frag} {H : Hp} {n m : Nat} {x y : V} (h : Alk K H n x y) : n ≤ m → Alk K H m x y := by
  induction h generalizing m with
  | flat hf => exact fun _ => .flat hf
  | @tup n a b xs ys ha hb hl h ih =>
    intro hm
    obtain ⟨m', rfl⟩ : ∃ m', m = m' + 1 := ⟨m - 1, by omega⟩
    exact .tup ha hb hl fun j x y h1 h2 => ih j x y h1 h2 (by omega)
  | @lst n a b xs ys ha hb hl h ih =>
    intro hm
    obtain ⟨m', rfl⟩ : ∃ m', m = m' + 1 := ⟨m - 1, by omega⟩
    exact .lst ha hb hl fun j x y h1 h2 => ih j x y h1 h2 (by omega)
end L2
/-! my own rules over the layer: t >= u, t * n of tuples, xs != [] -/
namespace HT
open PySem PySem.Spec PyProof.Rows
section
open PySem.SeqAt
open PySem.AutoSeq1 (wpAny_loadPart')
open PySem.MeetsSeq PySem.MeetsSeq2 PySem.MeetsSeq3
end
section
variable {prog : Program} {w : World} {A : Around} {E : Value → Shared → Prop} {s : Shared}
end
end HT
namespace L2
open PySem PySem.Spec PyProof.Rows
section
variable {X : Cx}
/-- xs != [] of a list of anything -/
theorem op_neNil (hu : X.A.units + 64 < cLine) : OpR X (compareOp .NotEq) (fun x y H Q => ∃ (a b : Addr) (xs : List V), x = .ref a ∧ y = .ref b ∧ SqL X.K H a xs ∧ SqL X.K H b [] ∧ Q (.bl (!xs.isEmpty)) H) := by
  intro pins s σ H x y v u Q I rx ry h
  obtain ⟨a, b, xs, rfl, rfl, ha, hb, q⟩ := h
  cases rx
  cases ry
  cases xs with
  | nil => exact (eqAt_lst I ha hb rfl (fun j x y h1 => nomatch h1) (by omega)).2 _ _ _ _ ⟨.bl false, H, I, rfl, q⟩
  | cons x xs =>
    obtain ⟨its, r1, p1, _⟩ := I.list ha
    obtain ⟨its2, r2, p2, _⟩ := I.list hb
    have l1 := r1.length
    have l2 := r2.length
    have hz : (its.toArray.size != its2.toArray.size) = true := by
      rw [List.size_toArray, List.size_toArray, ← l1, ← l2]; rfl
    exact SeqAt.RcNeAt.lists_lengths p1.isList p2.isList hz (by omega) _ _ _ _ ⟨.bl true, H, I, rfl, q⟩
end
end L2
/-! my own rules over the layer: t == () of any tuple; sum of a tuple of ints; tuples written or joined that are known to the object -/
namespace L2
open PySem PySem.Spec PyProof.Rows
section
variable {X : Cx}
/-- a written tuple, known to the object -/
def tTupF (t : TA) : TE := fun σ H Q => t σ H fun xs H1 => xs.length ≤ sizeLine ∧ ∀ p H', Same H1 H' → TupF H' p xs → Q (.ref p) H'
end
end L2
/-! my own rules over the layer: isinstance of any tuple; isinstance(x, (int, str)) of a number or a text -/
namespace L2
open PySem PySem.Spec PyProof.Rows
section
variable {X : Cx} {K : PySem.W.Frag}
/-- isinstance(x, T): of tuples of every kind, too -/
theorem call_isP (hK : X.K = K) : CallR X (.builtin "isinstance") (fun xs H Q => ∃ x c t b, xs = [x, .ty c] ∧ (TyOf K H x t ∨ ∃ a ys, x = .ref a ∧ SqT K H a ys ∧ t = .type "tuple") ∧ PySem.W.kitOne K t (.type c) = some b ∧ Q (.bl b) H) := by
  subst hK
  intro pins s σ H xs us Q I r h
  obtain ⟨x, c, t, b, rfl, ty, e, q⟩ := h
  obtain ⟨u, w', rfl, ru, rw'⟩ := vals2 r
  cases rw'
  rcases ty with ty | ⟨a, ys, rfl, ht, rfl⟩
  · exact isinst_ok I ru ty e fun tk => ⟨.bl b, H, I.tok tk, rfl, q⟩
  · cases ru
    obtain ⟨its, r1, p1, _⟩ := I.tuple ht
    obtain ⟨o, h1, h2, _⟩ := id p1
    exact PySem.W.kia_one PySem.W.kitx_tuple I.kIn ⟨o, h1, h2⟩ e (fun z => nomatch z) fun tk => ⟨.bl b, H, I.tok tk, rfl, q⟩
end
end L2
/-! (x,) * n -/
namespace L2
open PySem PySem.Spec PyProof.Rows
section
variable {X : Cx}
end
end L2
/-! exceptions: try, one of three calls by two tests; except C as n -/
namespace L2
open PySem PySem.Spec PyProof.Rows
section
variable {X : Cx} {i : Nat} {C2 : Addr} {cx n : Str} {p2 hpos pos : Pos} {b₀ : Stmt} {suite : List Stmt} {u : TS}
variable {k0 k1 k2 : Nat} {f0 f1 f2 : Str} {ps0 ps1 ps2 : List Str} {sp0 sp1 sp2 : Sp} {e0 e1 e2 : Expr} {es0 es1 es2 : List Expr} {t0 t1 t2 : TA} {np0 np1 np2 cp0 cp1 cp2 ep0 ep1 ep2 ip0 ip1 : Pos} {c0 c1 : Expr} {g0 g1 : TT}
/-- the reading of: try: if a: f(..) elif b: g(..) else: h(..), except C as n: suite -/
def tTryIf (K : PySem.W.Frag) (C2 : Addr) (i : Nat) (g0 : TT) (sp0 : Sp) (t0 : TA) (g1 : TT) (sp1 : Sp) (t1 : TA) (sp2 : Sp) (t2 : TA) (u : TS) : TS := fun D σ H => g0 σ H fun b H0 => if b = true then tTry K sp0 C2 i t0 u D σ H0 else
  g1 σ H0 fun b' H1 => if b' = true then tTry K sp1 C2 i t1 u D σ H1 else tTry K sp2 C2 i t2 u D σ H1
theorem try_exc {pins : List (Addr × Obj)} {σ : St} {H1 : Hp} {s1 s' : Shared} {ev : Value} {D : Ends} (hst : X.stack = X.env :: X.outer) (hfm : X.env.frame = some X.env.locals)
    (hgc : Gl X cx) (hmc : X.mg cx = some (.ref C2)) (hN : X.N.Nodup) (hi : X.N[i]? = some n) (hkn : X.env.scope.names.lookup n = some .local) (hu : ∀ x, PSs (X.hand x) (b₀ :: suite) u) (hdc : (cx == ("__debug__" : Str)) = false) (ok : X.Ok) (I1 : Inv X pins σ H1 s1)
    (hx : CX1 X.prog X.w X.stack H1 s1 (fun cls dd H2 => PySem.W.exmOne X.K cls (.ref C2) = some true ∧ ∀ x, H2 x = none → u { nx := fun σ' H' => D.nx (σ'.set i none) H', rt := D.rt, bk := fun σ' H' => D.bk (σ'.set i none) H', ct := fun σ' H' => D.ct (σ'.set i none) H' } (σ.set i (some (.ref x))) (upd H2 x (ExcO x cls dd))) ev s') :
    wpAny (model X.prog X.w) X.A (noteFrame ev X.env) (fun _ s₂ => wpAny (model X.prog X.w) X.A (setFlight ev none) (fun _ s₃ => wpAny (model X.prog X.w) X.A (handleBy ev X.env [.ExceptHandler (some (.Name cx p2)) (some n) (b₀ :: suite) hpos]) (SP X pins D) X.xe s₃) X.xe s₂) X.xe s' := by
  obtain ⟨x, cls, dd, n1, H2, rfl, O, hm1, hq⟩ := hx
  have J1 : Inv X pins σ H2 s' := I1.call' (ch := []) O.os O.un O.hok O.bare fun b z => absurd z (by simp)
  have st := J1.stack
  rw [hst] at st
  have hfr := J1.ok.frames
  rw [hst] at hfr
  have nr : ∀ h', Fly n1 (frs X.stack) x s'.heap h' → ∀ T oT ts, h'.get? T = some oT → oT.data = .fields ts → T ∉ frs X.stack := fun h' f T oT ts h1 h2 hb => by
    obtain ⟨_, o, h3, h4⟩ := J1.stack.mem hb
    obtain ⟨sl, h5⟩ := f.slot T o h3 hb
    rw [h5] at h1
    cases h1
    exact h4 ts h2
  -- any heap that came of notes
  have later : ∀ (h' : Heap) (tk : Nat), Fly n1 (frs X.stack) x s'.heap h' → Inv X pins σ H2 { s' with heap := h', toks := tk } := fun h' tk f =>
    I1.call' (s' := { s' with heap := h', toks := tk }) (ch := []) O.os (O.un.fly f (fun b hb => .inl hb) O.new O.old) (O.hok.fly f O.low O.free J1.stkFree) O.bare fun b z => absurd z (by simp)
  refine note_next hfr st hfm O.exc fun h1 f1 e1 => ?_
  rw [← hst] at f1
  refine flight none (nr h1 f1) e1 fun h2 f2 e2 => ?_
  have f12 := f1.trans f2
  have J2 := later h2 s'.toks f12
  refine wpAny_handleBy_cons (codeAny_handlers_test ?_) (by intro q; cases q)
  have J2h : Inv (X.hand x) pins σ H2 { s' with heap := h2, toks := s'.toks } := J2.hand
  refine ld_glob J2h hgc hmc ?_ hdc
  have LT : PySem.W.Looks (model X.prog X.w) h2 (typeOf (.ref x)) cls := by
    obtain ⟨oe, vs, T, oT, ts, ⟨z1, z2, _⟩, _⟩ := e2
    rw [← z2]
    exact (PySem.W.Looks.ld z1).andThen .now
  refine (PySem.W.exm_one J2.kIn LT hm1).here ?_
  refine codeAny_handlers_suite_as (flight none (nr h2 f12) e2 fun h3 f3 e3 => ?_)
  have f13 := f12.trans f3
  have J3 : Inv X pins σ (upd H2 x (ExcO x cls dd)) { s' with heap := h3 } :=
    I1.call' (s' := { s' with heap := h3 }) (ch := []) O.os ((O.un.fly f13 (fun b hb => .inl hb) O.new O.old).track O.new (I1.newFree O.new)) ((O.hok.fly f13 O.low O.free J1.stkFree).track O.free e3.seen) O.bare fun b z => absurd z (by simp)
  refine store_ok (X := X.hand x) J3.hand hN hi (.inl hkn) (v := .ref x) rfl (fun s4 J4 => ?_) (.inr hkn)
  refine wpAny_mono (hu x pins s4 _ _ _ J4 (hq x O.free)) (fun fl s5 h5 => ?_) fun _ _ z => z.elim
  cases fl with
  | next =>
    obtain ⟨σ', H', J5, q5⟩ := h5
    exact gone_ok (J5.unhand ok) hN hi hkn fun s6 J6 => ⟨_, H', J6, q5⟩
  | brk =>
    obtain ⟨σ', H', J5, q5⟩ := h5
    exact gone_ok (J5.unhand ok) hN hi hkn fun s6 J6 => ⟨_, H', J6, q5⟩
  | cont =>
    obtain ⟨σ', H', J5, q5⟩ := h5
    exact gone_ok (J5.unhand ok) hN hi hkn fun s6 J6 => ⟨_, H', J6, q5⟩
  | ret v =>
    obtain ⟨xv, σ', H', J5, r5, q5⟩ := h5
    exact gone_ok (J5.unhand ok) hN hi hkn fun s6 J6 => ⟨xv, _, H', J6, r5, q5⟩
theorem ps_tryIf (hst : X.stack = X.env :: X.outer) (hfm : X.env.frame = some X.env.locals) (hg0 : PT X.nox c0 g0) (hg1 : PT X.nox c1 g1)
    (d0 : CalX X.prog X.w X.K X.mg X.base k0 f0 ps0 sp0) (hr0 : Room k0 X.A) (hl0 : Gl X f0) (ha0 : PA X.nox (e0 :: es0) t0)
    (d1 : CalX X.prog X.w X.K X.mg X.base k1 f1 ps1 sp1) (hr1 : Room k1 X.A) (hl1 : Gl X f1) (ha1 : PA X.nox (e1 :: es1) t1)
    (d2 : CalX X.prog X.w X.K X.mg X.base k2 f2 ps2 sp2) (hr2 : Room k2 X.A) (hl2 : Gl X f2) (ha2 : PA X.nox (e2 :: es2) t2)
    (hgc : Gl X cx) (hmc : X.mg cx = some (.ref C2)) (hN : X.N.Nodup) (hi : X.N[i]? = some n) (hkn : X.env.scope.names.lookup n = some .local) (hu : ∀ x, PSs (X.hand x) (b₀ :: suite) u) (hdc : (cx == ("__debug__" : Str)) = false := by decide)
    (hdb0 : (f0 == ("__debug__" : Str)) = false := by decide) (he0 : starEach (e0 :: es0) X.env = (false, eval e0 X.env) :: starEach es0 X.env := by rfl) (hpl0 : (backTo cp0 (starEach es0 X.env)).any (·.1) = false := by rfl) (hsw0 : swapsWith (.Call (.Name f0 np0) (e0 :: es0) [] cp0) none ep0.line X.env = pure false := by rfl)
    (hdb1 : (f1 == ("__debug__" : Str)) = false := by decide) (he1 : starEach (e1 :: es1) X.env = (false, eval e1 X.env) :: starEach es1 X.env := by rfl) (hpl1 : (backTo cp1 (starEach es1 X.env)).any (·.1) = false := by rfl) (hsw1 : swapsWith (.Call (.Name f1 np1) (e1 :: es1) [] cp1) none ep1.line X.env = pure false := by rfl)
    (hdb2 : (f2 == ("__debug__" : Str)) = false := by decide) (he2 : starEach (e2 :: es2) X.env = (false, eval e2 X.env) :: starEach es2 X.env := by rfl) (hpl2 : (backTo cp2 (starEach es2 X.env)).any (·.1) = false := by rfl) (hsw2 : swapsWith (.Call (.Name f2 np2) (e2 :: es2) [] cp2) none ep2.line X.env = pure false := by rfl) :
    PS X (.Try [.If c0 [.Expr (.Call (.Name f0 np0) (e0 :: es0) [] cp0) ep0] [.If c1 [.Expr (.Call (.Name f1 np1) (e1 :: es1) [] cp1) ep1] [.Expr (.Call (.Name f2 np2) (e2 :: es2) [] cp2) ep2] ip1] ip0] [.ExceptHandler (some (.Name cx p2)) (some n) (b₀ :: suite) hpos] [] [] pos) (tTryIf X.K C2 i g0 sp0 t0 g1 sp1 t1 sp2 t2 u) := by
  intro pins s σ H D I h
  obtain ⟨a0, fd0, F0, B0, kp0, m0⟩ := d0.ex
  obtain ⟨a1, fd1, F1, B1, kp1, m1⟩ := d1.ex
  obtain ⟨a2, fd2, F2, B2, kp2, m2⟩ := d2.ex
  refine wpAny_Try_except (wpAny_execs_cons (wpAny_If (wpAny_mono (hg0 pins s σ H _ (I.wish _) h) (fun b sA ⟨HA, IA, qA⟩ => ?_) fun _ _ z => z.elim)))
  have IA := IA.unwish
  cases b with
  | true =>
    rw [if_pos rfl] at qA ⊢
    refine wpAny_execs_cons (wpAny_Expr_any (wpAny_mono (call_any (EX := fun ev s1 => _) F0 hr0 hl0 m0 kp0 B0 ha0 IA qA (fun H1 s1 ev s' I1 hx => ?exc0) hdb0 he0 hpl0) (fun v s1 ⟨xv, H1, I1, r1, q1⟩ => ?nrm0) fun _ _ z => z) IA.quiet hsw0)
    case nrm0 => exact wpAny_execs_nil (wpAny_execs_nil (wpAny_execs_nil ⟨σ, H1, I1, q1⟩))
    case exc0 => exact try_exc hst hfm hgc hmc hN hi hkn hu hdc I.ok I1 hx
  | false =>
    rw [if_neg Bool.false_ne_true] at qA ⊢
    refine wpAny_execs_cons (wpAny_If (wpAny_mono (hg1 pins sA σ HA _ (IA.wish _) qA) (fun b sB ⟨HB, IB, qB⟩ => ?_) fun _ _ z => z.elim))
    have IB := IB.unwish
    cases b with
    | true =>
      rw [if_pos rfl] at qB ⊢
      refine wpAny_execs_cons (wpAny_Expr_any (wpAny_mono (call_any (EX := fun ev s1 => _) F1 hr1 hl1 m1 kp1 B1 ha1 IB qB (fun H1 s1 ev s' I1 hx => ?exc1) hdb1 he1 hpl1) (fun v s1 ⟨xv, H1, I1, r1, q1⟩ => ?nrm1) fun _ _ z => z) IB.quiet hsw1)
      case nrm1 => exact wpAny_execs_nil (wpAny_execs_nil (wpAny_execs_nil (wpAny_execs_nil ⟨σ, H1, I1, q1⟩)))
      case exc1 => exact try_exc hst hfm hgc hmc hN hi hkn hu hdc I.ok I1 hx
    | false =>
      rw [if_neg Bool.false_ne_true] at qB ⊢
      refine wpAny_execs_cons (wpAny_Expr_any (wpAny_mono (call_any (EX := fun ev s1 => _) F2 hr2 hl2 m2 kp2 B2 ha2 IB qB (fun H1 s1 ev s' I1 hx => ?exc2) hdb2 he2 hpl2) (fun v s1 ⟨xv, H1, I1, r1, q1⟩ => ?nrm2) fun _ _ z => z) IB.quiet hsw2)
      case nrm2 => exact wpAny_execs_nil (wpAny_execs_nil (wpAny_execs_nil (wpAny_execs_nil ⟨σ, H1, I1, q1⟩)))
      case exc2 => exact try_exc hst hfm hgc hmc hN hi hkn hu hdc I.ok I1 hx
end
end L2
/-! exceptions: try y = f(..) except C as n -/
namespace L2
open PySem PySem.Spec PyProof.Rows
section
variable {X : Cx} {k i j : Nat} {C2 : Addr} {ps : List Str} {sp : Sp} {fx cx n y : Str} {p p2 yp cpos epos hpos pos : Pos} {e : Expr} {es : List Expr} {t : TA} {b₀ : Stmt} {suite : List Stmt} {u : TS}
/-- the reading of try: y = f(..) except C as n: suite -/
def tTryS (K : PySem.W.Frag) (sp : Sp) (C2 : Addr) (j i : Nat) (t : TA) (u : TS) : TS := fun D σ H => t σ H fun vs H1 => sp vs H1 (fun v H2 => D.nx (σ.set j (some v)) H2) fun cls dd H2 =>
  PySem.W.exmOne K cls (.ref C2) = some true ∧ ∀ x, H2 x = none → u { nx := fun σ' H' => D.nx (σ'.set i none) H', rt := D.rt, bk := fun σ' H' => D.bk (σ'.set i none) H', ct := fun σ' H' => D.ct (σ'.set i none) H' } (σ.set i (some (.ref x))) (upd H2 x (ExcO x cls dd))
end
end L2
/-! my own rules over the layer: a def that raises and calls itself; a call whose exception passes through -/
namespace L2
open PySem PySem.Spec PyProof.Rows
section
variable {P : Program} {w : World} {K : PySem.W.Frag} {mg : Str → Option Value} {base : Heap}
theorem Def.recurX {sp : Nat → Sp} {x : Str} {st : Stmt} {ps : List Str} (d : Def K mg x st ps) {k : Nat} (n : Nat)
    (step : ∀ e, e ≤ n → CalX P w K mg base (e + k) x ps (prevSp sp e) → ∀ (f : Addr) (fd : FuncData), Fun K x x st f fd → FnOk P w K mg base (CX1 P w) (e + (k + 1)) f fd ps (sp e)) :
    CalX P w K mg base (n + (k + 1)) x ps (fun vs H Q E => ∃ e, e ≤ n ∧ sp e vs H Q E) := by
  obtain ⟨f, fd, h1, h2, h3⟩ := d.ex
  have all : ∀ e, e ≤ n → FnOk P w K mg base (CX1 P w) (e + (k + 1)) f fd ps (sp e) := by
    intro e
    induction e with
    | zero => exact fun he => step 0 he ⟨f, fd, ⟨fun _ _ _ _ h => h.elim, fun _ _ _ _ _ _ _ _ _ _ _ _ _ h => h.elim⟩, .all h2, h1.kp, h3⟩ f fd h1
    | succ e ih => exact fun he => step (e + 1) he ⟨f, fd, (ih (by omega)).mono (by omega), .all h2, h1.kp, h3⟩ f fd h1
  refine ⟨f, fd, ⟨?_, ?_⟩, .all h2, h1.kp, h3⟩
  · rintro vs H Q E ⟨e, he, h⟩
    exact (all e he).len vs H Q E h
  · rintro A outer s H args us vs Q E hr he hb hv ⟨e, hle, h⟩
    exact (all e hle).run A outer s H args us vs Q E (hr.mono (by omega)) he hb hv h
end
section
variable {X : Cx} {E : XK} {k : Nat} {x : Str} {ps : List Str} {sp : Sp} {p pos : Pos} {e : Expr} {es : List Expr} {t : TA}
/-- f(..), f a def of the top that may raise: what it raises leaves this body -/
theorem pe_fnX (l : Lv X E) (c : CalX X.prog X.w X.K X.mg X.base k x ps sp) (hr : Room k X.A) (hg : Gl X x) (ha : PA X (e :: es) t) (hdb : (x == ("__debug__" : Str)) = false := by decide)
    (he : starEach (e :: es) X.env = (false, eval e X.env) :: starEach es X.env := by rfl) (hpl : (backTo pos (starEach es X.env)).any (·.1) = false := by rfl) :
    PE X (.Call (.Name x p) (e :: es) [] pos) (tCall sp [] E t) := by
  obtain ⟨f, fd, F, B, kp, m⟩ := c.ex
  exact pe_call F hr hg m kp B .nil (pass1 l) ha hdb he hpl
end
end L2
namespace L2
open PySem PySem.Spec PyProof.Rows
section
variable {X : Cx} {st : Stmt} {t : TS}
/-- a statement, and what is known behind it, said on its own -/
def tJoin (t : TS) : TS := fun D σ H => ∃ R : St → Hp → Prop, t { D with nx := R } σ H ∧ ∀ σ' H', R σ' H' → D.nx σ' H'
theorem ps_join (h : PS X st t) : PS X st (tJoin t) := by
  intro pins s σ H D I ⟨R, h1, h2⟩
  refine thn (h pins s σ H { D with nx := R } I h1) fun f s1 q => ?_
  cases f with
  | next =>
    obtain ⟨σ', H', I', q⟩ := q
    exact ⟨σ', H', I', h2 _ _ q⟩
  | ret v => exact q
  | brk => exact q
  | cont => exact q
end
end L2
namespace L2
open PySem
end L2
namespace L2
open PySem PySem.Spec PyProof.Rows
section
variable {X : Cx}
end
end L2
/-! my own rules over the layer: texts -/
namespace L2
open PySem PySem.Spec PyProof.Rows
section
variable {X : Cx}
/-- text.startswith(text) -/
theorem mt_starts : MtR X "str.startswith" (fun x xs H Q => ∃ a b, x = .str a ∧ xs = [.str b] ∧ Q (.bl (Txt.startswith a b)) H) := by
  intro pins s σ H x xs v us Q I rx rv h
  obtain ⟨a, b, rfl, rfl, q⟩ := h
  obtain ⟨t, rfl⟩ := rx
  obtain ⟨u, rfl, ru⟩ := rv.one
  obtain ⟨t2, rfl⟩ := ru
  exact SC.startswith ⟨.bl _, H, I, rfl, q⟩
/-- int(text) -/
theorem call_intT : CallR X (.type "int") (fun xs H Q => ∃ x n, xs = [.str x] ∧ x.length ≤ 640 ∧ PySem.intText? x = some n ∧ Q (.int n) H) := by
  intro pins s σ H xs us Q I r h
  obtain ⟨x, n, rfl, hl, hn, q⟩ := h
  obtain ⟨u, rfl, t, rfl⟩ := vals1 r
  exact PySem.W.KIN.call_text hn hl ⟨.int n, H, I.tok _, ⟨_, rfl⟩, q⟩
/-- text[lo:hi] -/
theorem sl_str : SlR X (fun x lo hi H Q => ∃ a, x = .str a ∧ a.length ≤ sizeLine ∧ Q (.str (Txt.slice a lo hi)) H) := by
  intro pins s σ H x v vl vu lo hi sl Q I rx hs pl pu h
  obtain ⟨a, rfl, hz, q⟩ := h
  obtain ⟨t, rfl⟩ := rx
  refine ⟨"str", _, F.slot_str_getitem.lookup, typeIs_str _ _ _, ?_⟩
  have fin : ∀ t' k, EP X pins σ Q (.str (Txt.slice a lo hi) t') { s with toks := k } := fun t' k => ⟨.str _, H, I.tok k, ⟨_, rfl⟩, q⟩
  cases pl with
  | none =>
    cases pu with
    | none => exact wpAny_getItem_str_slice (l := none) (u := none) (st := none) hs rfl (post_val_or_str ⟨Nat.le_trans (Txt.slice_le a _ _) hz, fin⟩)
    | int j uj => exact wpAny_getItem_str_slice (l := none) (u := some (j, uj)) (st := none) hs rfl (post_val_or_str ⟨Nat.le_trans (Txt.slice_le a _ _) hz, fin⟩)
  | int i ui =>
    cases pu with
    | none => exact wpAny_getItem_str_slice (l := some (i, ui)) (u := none) (st := none) hs rfl (post_val_or_str ⟨Nat.le_trans (Txt.slice_le a _ _) hz, fin⟩)
    | int j uj => exact wpAny_getItem_str_slice (l := some (i, ui)) (u := some (j, uj)) (st := none) hs rfl (post_val_or_str ⟨Nat.le_trans (Txt.slice_le a _ _) hz, fin⟩)
theorem strs_of : ∀ {ts : List Str} {its : List Value}, Vals (ts.map V.str) its → ∃ l : List (Str × Tok), strValues l = its ∧ l.map (·.1) = ts
  | [], _, .nil => ⟨[], rfl, rfl⟩
  | x :: ts, _, .cons r rr => by
    obtain ⟨t, rfl⟩ := r
    obtain ⟨l, h1, h2⟩ := strs_of rr
    exact ⟨(x, t) :: l, by rw [← h1]; rfl, by rw [List.map_cons, h2]⟩
/-- text.join(list of texts) -/
theorem mt_join : MtR X "str.join" (fun x xs H Q => ∃ a D ts, x = .str a ∧ xs = [.ref D] ∧ SqL X.K H D (ts.map V.str) ∧ JoinOk a ts = true ∧ Q (.str (Txt.join a ts)) H) := by
  intro pins s σ H x xs v us Q I rx rv h
  obtain ⟨a, D, ts, rfl, rfl, hD, hok, q⟩ := h
  obtain ⟨t, rfl⟩ := rx
  obtain ⟨u, rfl, ru⟩ := rv.one
  cases ru
  obtain ⟨its, r, p, hz⟩ := I.list hD
  obtain ⟨l, h1, h2⟩ := strs_of r
  exact SC.join (l := l) (by rw [h1]; exact p.isList) h2 hok fun t' k => ⟨.str _, H, I.tok k, ⟨_, rfl⟩, q⟩
theorem vals_strs : ∀ (l : List (Str × Tok)), Vals ((l.map (·.1)).map V.str) (strValues l)
  | [] => .nil
  | p :: l => .cons ⟨p.2, rfl⟩ (vals_strs l)
open Builtin Builtin.Str in
/-- text.split(text) -/
theorem mt_split : MtR X "str.split" (fun x xs H Q => ∃ a b, x = .str a ∧ xs = [.str b] ∧ (b.length == 0) = false ∧ a.length ≤ sizeLine ∧ (partsBetween a (occurrences a b 0 a.length (a.length + 1)) b.length).length ≤ sizeLine ∧ (Txt.split a b).length ≤ sizeLine ∧
    ∀ l, H l = none → Q (.ref l) (upd H l (.lst ((Txt.split a b).map V.str)))) := by
  intro pins s σ H x xs v us Q I rx rv h
  obtain ⟨a, b, rfl, rfl, nb, za, zp, zs, q⟩ := h
  obtain ⟨ta, rfl⟩ := rx
  obtain ⟨u, rfl, ru⟩ := rv.one
  obtain ⟨tb, rfl⟩ := ru
  have fin : ∀ (l : List (Str × Tok)) (k : Nat), l.map (·.1) = Txt.split a b → EP X pins σ Q (.ref s.heap.objs.size) { s with heap := s.heap.push { cls := .type "list", data := .seq (strValues l).toArray }, toks := k } := fun l k e => by
    refine ⟨.ref s.heap.objs.size, _, I.laid (t' := k) (a := s.heap.objs.size) (o := .lst ((Txt.split a b).map V.str)) (fun b ob z => Heap.get?_push_of_some _ z) (Nat.le_refl _) ?_, rfl, q _ (I.hok.fresh (Nat.le_refl _))⟩
    refine ⟨by rw [List.length_map]; exact zs, strValues l, 0, ?_, Heap.get?_push_size _ rfl⟩
    rw [← e]
    exact vals_strs l
  have met : ∀ {m}, Meets _ m → _ → wpAny (model X.prog X.w) X.A (call (.builtin "str.split") [.str a ta, .str b tb]) (EP X pins σ Q) X.xe s := fun hm hp => call_meets F.slot_str_split (typeIs_str _ _ _) F.entry_str_split (F.args_str_split_2 _ _) hm hp
  by_cases c1 : (decide (a.length < b.length) || decide (strKind a < strKind b)) = true
  · exact met (meets_str_split_cannot_occur a b ta tb c1) (fin [(a, ta)] s.toks (if_pos c1).symm)
  by_cases c2 : (occurrences a b 0 a.length (a.length + 1)).isEmpty = true
  · exact met (meets_str_split_not_found a b ta tb (eq_false_of_ne_true c1) nb c2) (fin [(a, ta)] s.toks ((if_neg c1).trans (if_pos c2)).symm)
  refine met (meets_str_split_sep a b ta tb (eq_false_of_ne_true c1) nb (eq_false_of_ne_true c2) za zp) ?_
  have z := fin (numbered s.toks (partsBetween a (occurrences a b 0 a.length (a.length + 1)) b.length)) (s.toks + (partsBetween a (occurrences a b 0 a.length (a.length + 1)) b.length).length) ((numbered_texts _ _).trans ((if_neg c1).trans (if_neg c2)).symm)
  rw [← strsFrom_eq] at z
  exact z
/-! ### f'..' -/
abbrev TJ := St → Hp → Str → (Str → Hp → Prop) → Prop
def PJ (X : Cx) (es : List Expr) (t : TJ) : Prop := ∀ (pins : List (Addr × Obj)) (s : Shared) (σ : St) (H : Hp) (acc : Str) (Q : Str → Hp → Prop), Inv X pins σ H s → t σ H acc Q →
  Joins (model X.prog X.w) X.A X.xe (evalEach es X.env) acc (fun out s1 => ∃ H', Inv X pins σ H' s1 ∧ Q out H') s
def tJn : TJ := fun _ H acc Q => Q acc H
def tJc (te : TE) (tr : TJ) : TJ := fun σ H acc Q => te σ H fun v H1 => ∃ y, v = .str y ∧ (acc ++ y).length ≤ sizeLine ∧ tr σ H1 (acc ++ y) Q
def tJ (t : TJ) : TE := fun σ H Q => t σ H Str.empty fun out H' => out.length ≤ sizeLine ∧ Q (.str out) H'
def tFv (te : TE) : TE := fun σ H Q => te σ H fun v H1 => ∃ y, v = .str y ∧ y.length ≤ sizeLine ∧ Q (.str y) H1
end
end L2
/-! my own rules over the layer: a text gone through; things alike however deep; list.extend by a tuple -/
namespace L2
open PySem PySem.Spec PyProof.Rows
def Its (x : Str) : It := ⟨fun i _ => i < x.cps.size, fun i H v H' => H' = H ∧ ∃ c, x.cps[i]? = some c ∧ v = .str ⟨#[c]⟩, fun i _ => x.cps.size ≤ i⟩
theorem turn_ascii {P : Program} {w : World} {K : PySem.W.Frag} {tg : Expr} (x : Str) (t : Tok) (it : Addr) : Turn P w K tg (Its x) [it] it (fun i h => h.IsStrIter it "str_ascii_iterator" x t i) where
  mem := by simp
  obj := fun i h st b hb => by
    have e : b = it := by simpa using hb
    subst e
    obtain ⟨o, e, c, d⟩ := st
    exact ⟨o, e, fun v z => by rw [d] at z; cases z⟩
  keep := fun i h h' st k => by
    obtain ⟨o, e, c, d⟩ := st
    exact ⟨o, k it (by simp) o e, c, d⟩
  item := by
    intro X hP hw hK hc i pins s σ H E I hf st hg
    subst hP hw hK
    obtain ⟨f0, f1, f2, f3, f4, f5⟩ := hf it (by simp)
    have hx : x.cps[i]? = some (x.cps[i]'hg) := Array.getElem?_eq_getElem hg
    refine wpAny_pyNext_ascii_item st hx fun h' st' sb => ?_
    have I1 : Inv X pins σ H { s with heap := h', toks := s.toks + 1 } := I.turned (t' := s.toks + 1) (fun b o hb e => (sb.2 b hb).trans e) f0 f1 f3 f4 f5
    obtain ⟨o, e, c, d⟩ := id st'
    exact ⟨_, rfl, go_of (s := { s with heap := h', toks := s.toks + 1 }) e c d (by decide) ⟨.str ⟨#[x.cps[i]'hg]⟩, H, I1, ⟨_, rfl⟩, ⟨rfl, _, hx, rfl⟩, st', fun b hb => (hf b hb).1⟩⟩
  done := by
    intro X hP hw hK hc i pins s σ H E I hf st hg
    subst hP hw hK
    obtain ⟨f0, f1, f2, f3, f4, f5⟩ := hf it (by simp)
    have hg' : x.cps.size ≤ i := hg
    exact wpAny_pyNext_ascii_end (I.ok.hd hc) st (by simp [hg']) fun h' eb => ⟨rfl, I.turned (t' := s.toks) (fun b o hb e => eb b o hb e) f0 f1 f3 f4 f5⟩
  self := fun _ _ _ _ _ st h => wpAny_pyIter_striter_ascii st h
theorem turn_wide {P : Program} {w : World} {K : PySem.W.Frag} {tg : Expr} (x : Str) (t : Tok) (it : Addr) : Turn P w K tg (Its x) [it] it (fun i h => h.IsStrIter it "str_iterator" x t i) where
  mem := by simp
  obj := fun i h st b hb => by
    have e : b = it := by simpa using hb
    subst e
    obtain ⟨o, e, c, d⟩ := st
    exact ⟨o, e, fun v z => by rw [d] at z; cases z⟩
  keep := fun i h h' st k => by
    obtain ⟨o, e, c, d⟩ := st
    exact ⟨o, k it (by simp) o e, c, d⟩
  item := by
    intro X hP hw hK hc i pins s σ H E I hf st hg
    subst hP hw hK
    obtain ⟨f0, f1, f2, f3, f4, f5⟩ := hf it (by simp)
    have hx : x.cps[i]? = some (x.cps[i]'hg) := Array.getElem?_eq_getElem hg
    refine wpAny_pyNext_wide_item st hx fun h' st' sb => ?_
    have I1 : Inv X pins σ H { s with heap := h', toks := s.toks + 1 } := I.turned (t' := s.toks + 1) (fun b o hb e => (sb.2 b hb).trans e) f0 f1 f3 f4 f5
    obtain ⟨o, e, c, d⟩ := id st'
    exact ⟨_, rfl, go_of (s := { s with heap := h', toks := s.toks + 1 }) e c d (by decide) ⟨.str ⟨#[x.cps[i]'hg]⟩, H, I1, ⟨_, rfl⟩, ⟨rfl, _, hx, rfl⟩, st', fun b hb => (hf b hb).1⟩⟩
  done := by
    intro X hP hw hK hc i pins s σ H E I hf st hg
    subst hP hw hK
    obtain ⟨f0, f1, f2, f3, f4, f5⟩ := hf it (by simp)
    have hg' : x.cps.size ≤ i := hg
    exact wpAny_pyNext_wide_end (I.ok.hd hc) st (by simp [hg']) fun h' eb => ⟨rfl, I.turned (t' := s.toks) (fun b o hb e => eb b o hb e) f0 f1 f3 f4 f5⟩
  self := fun _ _ _ _ _ st h => wpAny_pyIter_striter_wide st h
section
variable {X : Cx} {tg : Expr}
def iStr (tl : TE) : TI := fun σ H R => tl σ H fun v H1 => ∃ x, v = .str x ∧ R (Its x) H1
theorem pi_str {l : Expr} {tl : TE} (hl : PE X l tl) : PI X tg l (iStr tl) := by
  intro pins s σ H R I h
  refine thn (hl pins s σ H _ I h) fun v s1 ⟨v0, H1, I1, r1, q1⟩ => ?_
  obtain ⟨x, e, q⟩ := q1
  subst e
  obtain ⟨t, rfl⟩ := r1
  have hb : ∀ b ∈ [s1.heap.objs.size], FpOk X pins H1 b := fun b hb => by
    have e : b = s1.heap.objs.size := by simpa using hb
    subst e
    exact I1.fpOk (Nat.le_refl _) (I1.hok.fresh (Nat.le_refl _))
  cases ha : x.cps.all (· < 128)
  · refine wpAny_pyIter_wide ha ?_
    exact ⟨s1.heap.objs.size, [s1.heap.objs.size], _, _, H1, rfl, I1.kept (t' := s1.toks) fun b o e => Heap.get?_push_of_some _ e, turn_wide x t _, ⟨_, Heap.get?_push_size _ rfl, rfl, rfl⟩, hb, q⟩
  · refine wpAny_pyIter_ascii ha ?_
    exact ⟨s1.heap.objs.size, [s1.heap.objs.size], _, _, H1, rfl, I1.kept (t' := s1.toks) fun b o e => Heap.get?_push_of_some _ e, turn_ascii x t _, ⟨_, Heap.get?_push_size _ rfl, rfl, rfl⟩, hb, q⟩
/-- x != y of two tuples or lists that are alike, up to a hundred and eighty deep -/
theorem op_neAlkD (hu : X.A.units + 200 < cLine) : OpR X (compareOp .NotEq) (fun x y H Q => ∃ (n : Nat) (a b : Addr), x = .ref a ∧ y = .ref b ∧ Alk X.K H n (.ref a) (.ref b) ∧ n ≤ 180 ∧ Q (.bl false) H) := by
  intro pins s σ H x y v u Q I rx ry h
  obtain ⟨n, a, b, rfl, rfl, hk, hn, q⟩ := h
  cases rx
  cases ry
  exact (alk_refs I hk X.A (by omega)).2 _ _ _ _ ⟨.bl false, H, I, rfl, q⟩
end
theorem Room.units2 {k : Nat} {A : Around} (r : Room k A) : A.units + 200 < cLine := by have := r.un; omega
/-- gone through a text, each told by g -/
theorem comp_str {x : Str} {g : Nat → V} {Te : V → Hp → (V → Hp → Prop) → Prop} {D : Addr} {H1 : Hp} {R : Hp → Prop}
    (hD : H1 D = none) (hn : x.length ≤ sizeLine) (hE : ∀ c ∈ x.cps.toList, ∀ (H : Hp) (Q : V → Hp → Prop), Same H1 H → Q (g c) H → Te (.str ⟨#[c]⟩) H Q) (hR : R (upd H1 D (.lst (x.cps.toList.map g)))) :
    ∃ W : Nat → Nat → List V → Hp → Prop, (∃ m, W 0 m [] (upd H1 D (.lst []))) ∧
      ∀ i m ys H2, W i m ys H2 → H2 D = some (.lst ys) ∧ (((Its x).stop i H2 ∧ R H2) ∨ ((Its x).go i H2 ∧ ys.length < sizeLine ∧ ∃ N : V → Hp → Prop, (∀ y H3, N y H3 → H3 D = some (.lst ys) ∧ ∃ m', m' < m ∧ W (i + 1) m' (ys ++ [y]) (upd H3 D (.lst (ys ++ [y])))) ∧
        ∀ v H', (Its x).yld i H2 v H' → Te v H' N)) := by
  have hl : x.cps.toList.length = x.cps.size := by simp
  have hl2 : x.length = x.cps.size := rfl
  refine ⟨fun i m ys H => m = x.cps.size - i ∧ i ≤ x.cps.size ∧ ys = (x.cps.toList.take i).map g ∧ H = upd H1 D (.lst ys), ⟨x.cps.size, by simp, Nat.zero_le _, by simp, rfl⟩, ?_⟩
  rintro i m ys H2 ⟨rfl, hi, hy, rfl⟩
  refine ⟨upd_same, ?_⟩
  by_cases c : i < x.cps.size
  · right
    refine ⟨c, ?_, fun y H3 => y = g x.cps[i] ∧ H3 = upd H1 D (.lst ys), ?_, ?_⟩
    · rw [hy, List.length_map, List.length_take]
      omega
    · rintro y H3 ⟨rfl, rfl⟩
      refine ⟨upd_same, _, ?_, rfl, c, ?_, upd_upd⟩
      · omega
      · rw [hy, List.take_add_one, List.map_append]
        congr 1
        rw [Array.getElem?_toList]
        simp [c]
    · rintro v H' ⟨rfl, d, hd, rfl⟩
      have e : d = x.cps[i] := by
        rw [Array.getElem?_eq_getElem c] at hd
        exact (Option.some.inj hd).symm
      subst e
      exact hE _ (by simp) _ _ (same_new hD _) ⟨rfl, rfl⟩
  · left
    refine ⟨Nat.le_of_not_lt c, ?_⟩
    have e : i = x.cps.size := by omega
    rw [hy, e, ← hl, List.take_length]
    exact hR
set_option maxRecDepth 8000 in
open Builtin AutoSeq1 in
section
variable {X : Cx}
end
end L2
/-! my own rules over the layer: a comprehension whose element may raise -/
namespace L2
open PySem PySem.Spec PyProof.Rows
def compCxE (X : Cx) (EX : XK) (scope : Scope) (cl : List (Str × Addr)) (C : Addr) (x : Str) (N : List Str) (s₂ : Shared) (H₂ : Hp) (fp : List Addr) : Cx :=
  (compCx X scope cl C x N s₂ H₂ fp).wish fun ev s' => ∃ pins σ H s, Inv (compCx X scope cl C x N s₂ H₂ fp) pins σ H s ∧ CX1 X.prog X.w X.stack H s EX ev s'
theorem passC {X : Cx} {EX : XK} {scope : Scope} {cl : List (Str × Addr)} {C : Addr} {x : Str} {N : List Str} {s₂ : Shared} {H₂ : Hp} {fp : List Addr} : Passes (CX1 X.prog X.w) (compCxE X EX scope cl C x N s₂ H₂ fp) EX :=
  fun pins σ H s _ _ I h => ⟨pins, σ, H, s, I.unwish, h⟩
/-- f(..) within a comprehension, f a def of the top that may raise -/
theorem pe_fnC {X : Cx} {EX : XK} {scope : Scope} {cl : List (Str × Addr)} {C : Addr} {y : Str} {N : List Str} {s₂ : Shared} {H₂ : Hp} {fp : List Addr} {k : Nat} {x : Str} {ps : List Str} {sp : Sp} {p pos : Pos} {e : Expr} {es : List Expr} {t : TA}
    (c : CalX X.prog X.w X.K X.mg X.base k x ps sp) (hr : Room k X.A) (hg : Gl (compCxE X EX scope cl C y N s₂ H₂ fp) x) (ha : PA (compCxE X EX scope cl C y N s₂ H₂ fp) (e :: es) t) (hdb : (x == ("__debug__" : Str)) = false := by decide)
    (he : starEach (e :: es) (compCxE X EX scope cl C y N s₂ H₂ fp).env = (false, eval e (compCxE X EX scope cl C y N s₂ H₂ fp).env) :: starEach es (compCxE X EX scope cl C y N s₂ H₂ fp).env := by rfl) (hpl : (backTo pos (starEach es (compCxE X EX scope cl C y N s₂ H₂ fp).env)).any (·.1) = false := by rfl) :
    PE (compCxE X EX scope cl C y N s₂ H₂ fp) (.Call (.Name x p) (e :: es) [] pos) (tCall sp [] EX t) := by
  obtain ⟨f, fd, F, B, kp, m⟩ := c.ex
  exact pe_call F hr hg m kp B .nil passC ha hdb he hpl
theorem noteFrame_at {e : Value} {env env' : Env} (h : env'.frame = env.frame) : noteFrame e env' = noteFrame e env := by
  unfold noteFrame PySem.frameOf
  rw [h]
section
variable {M : Model} {A : Around} {E : Value → Shared → Prop} {s : Shared} {base : Heap} {env : Env} {outer : List Env} {L x : Addr} {n : Nat} {Q : Unit → Shared → Prop}
/-- noted, whatever its mark is -/
theorem note_any {cls fl : Value} {dd : Option Addr} (hfr : A.frames = some (env :: outer)) (hl : s.heap.FunFrames base (env :: outer)) (hf : env.frame = some L) (ex : Exc n s.heap x cls dd fl)
    (h : ∀ h', Fly n (frs (env :: outer)) x s.heap h' → Exc n h' x cls dd (rawInt L) → Q () { s with heap := h' }) : wpAny M A (noteFrame (.ref x) env) Q E s := by
  obtain ⟨oe, vs, T, oT, ts, ⟨he, rfl, rfl, hd, h1⟩, ⟨nT, Tx⟩, hT, hdT, h3⟩ := ex
  unfold noteFrame
  simp only [hf]
  refine wpAny_bind (wpAny_field he hd h1 ?_)
  rw [if_pos (show (Value.ref T != Value.none) = true from by simp)]
  refine wpAny_bind (wpAny_field hT hdT h3 ?_)
  by_cases c : (fl == rawInt L) = true
  · rw [if_pos c]
    have c' : fl = rawInt L := by simpa using c
    exact wpAny_pure (h s.heap .refl ⟨oe, vs, T, oT, ts, ⟨he, rfl, rfl, hd, h1⟩, ⟨nT, Tx⟩, hT, hdT, by rw [h3, c']⟩)
  rw [if_neg c]
  refine wpAny_bind (wpAny_setField hT hdT (Array.getElem?_eq_some_iff.mp h3).1 ?_)
  have tf := frame_no hl hT hdT
  have fl : Fly n (frs (env :: outer)) x s.heap (s.heap.update T (Obj.mapFields (·.setIfInBounds 3 Value.none))) := .upd _ hT hdT (.inr nT) tf
  have oth : ∀ c, c ≠ T → (s.heap.update T (Obj.mapFields (·.setIfInBounds 3 Value.none))).get? c = s.heap.get? c := fun c m => Heap.get?_update_other _ _ (Ne.symm m)
  refine note_core hfr (hl.of_keeps fun c o q nf => ⟨o, (oth c fun z => ?_).trans q, rfl⟩) hf ((oth x (Ne.symm Tx)).trans he) hd (Array.getElem?_eq_some_iff.mp h1).1 ?_ fun h' f e => h h' (fl.trans f) e
  · rw [z, hT] at q
    cases q
    exact nf ts hdT
  · have l1 := Heap.lt_size hT
    rw [Heap.size_update]
    exact Nat.le_trans nT (Nat.le_of_lt l1)
end
/-- as Fly, but the comprehension's own names' table C may be another -/
structure FlyC (n : Nat) (fs : List Addr) (x C : Addr) (h h' : Heap) : Prop where
  keep : ∀ b o, h.get? b = some o → b < n → b ≠ x → b ≠ C → b ∉ fs → h'.get? b = some o
  slot : ∀ b o, h.get? b = some o → b ∈ fs → ∃ sl, h'.get? b = some { o with slots := sl }
  there : ∀ b o, h.get? b = some o → b ≠ C → ∃ o', h'.get? b = some o'
section
variable {n : Nat} {fs : List Addr} {x C : Addr} {h h1 h' : Heap}
theorem FlyC.of (a : Fly n fs x h h') : FlyC n fs x C h h' := ⟨fun b o q l m _ k => a.keep b o q l m k, a.slot, fun b o q _ => a.there b o q⟩
theorem FlyC.but (sb : Heap.SameBut C h h') (hC : C ∉ fs) : FlyC n fs x C h h' :=
  ⟨fun b o q _ _ m _ => (sb.2 b m).trans q, fun b o q k => ⟨o.slots, (sb.2 b fun z => hC (z ▸ k)).trans q⟩, fun b o q m => ⟨o, (sb.2 b m).trans q⟩⟩
theorem FlyC.trans (a : FlyC n fs x C h h1) (b : FlyC n fs x C h1 h') (hC : C ∉ fs) : FlyC n fs x C h h' := by
  refine ⟨fun c o q l m k z => b.keep c o (a.keep c o q l m k z) l m k z, fun c o q k => ?_, fun c o q k => ?_⟩
  · obtain ⟨sl, e⟩ := a.slot c o q k
    obtain ⟨sl', e'⟩ := b.slot c _ e k
    exact ⟨sl', e'⟩
  · obtain ⟨o', e⟩ := a.there c o q k
    exact b.there c o' e k
theorem FunFrames.flyC {base : Heap} {l : List Env} (f : FlyC n fs x C h h') (hs : ∀ b ∈ frs l, b ∈ fs) (hl : h.FunFrames base l) : h'.FunFrames base l := by
  induction l with
  | nil => trivial
  | cons env rest ih =>
    obtain ⟨hk, ⟨L, o, hf, hn, ho, hd⟩, hr⟩ := hl
    have hm : L ∈ frs (env :: rest) := by
      show L ∈ List.filterMap _ (env :: rest)
      rw [List.filterMap_cons, hf]
      exact List.mem_cons_self ..
    obtain ⟨sl, e⟩ := f.slot L o ho (hs L hm)
    refine ⟨hk, ⟨L, _, hf, hn, e, hd⟩, ih (fun b hb => hs b ?_) hr⟩
    show b ∈ List.filterMap _ (env :: rest)
    rw [List.filterMap_cons, hf]
    exact List.mem_cons_of_mem _ hb
end
section
variable {P : Program} {w : World} {fs fs' : List Addr} {H₀ H : Hp} {h₀ h h' : Heap} {x C : Addr} {n : Nat}
theorem Un.flyC (u : Un fs [] H₀ H h₀ h) (f : FlyC n fs' x C h h') (hs : ∀ b ∈ fs', b ∈ fs ∨ h₀.get? b = none) (hx : h₀.get? x = none) (hC : h₀.get? C = none) (hn : h₀.objs.size ≤ n) : Un fs [] H₀ H h₀ h' := by
  have lt : ∀ b o, h₀.get? b = some o → b < n := fun b o q => Nat.lt_of_lt_of_le (Heap.lt_size q) hn
  have nx : ∀ b o, h₀.get? b = some o → b ≠ x := fun b o q z => by rw [z, hx] at q; cases q
  have nc : ∀ b o, h₀.get? b = some o → b ≠ C := fun b o q z => by rw [z, hC] at q; cases q
  refine ⟨fun b o q m k z => f.keep b o (u.keep b o q m k z) (lt b o q) (nx b o q) (nc b o q) (fun y => (hs b y).elim k fun y' => by rw [y'] at q; cases q), fun b o q m k z => ?_, u.free, fun b o q k => ?_, u.tups, u.frzs, u.tbls⟩
  · obtain ⟨sl, e⟩ := u.slot b o q m k z
    by_cases y : b ∈ fs'
    · obtain ⟨sl', e'⟩ := f.slot b _ e y
      exact ⟨sl', e'⟩
    · exact ⟨sl, f.keep b _ e (lt b o q) (nx b o q) (nc b o q) y⟩
  · obtain ⟨o', e⟩ := u.there b o q k
    exact f.there b o' e (nc b o q)
theorem HOk.flyC (k : HOk P w H h) (f : FlyC n fs' x C h h') (hn : ∀ b u, H b = some u → b < n) (hx : H x = none) (hC : H C = none) (hf : ∀ b ∈ fs', H b = none) : HOk P w H h' := fun a o e => by
  have kp : ∀ b u, H b = some u → ∀ ob, h.get? b = some ob → h'.get? b = some ob := fun b u q ob hb => f.keep b ob hb (hn b u q) (ne_of_none q hx) (ne_of_none q hC) fun z => by rw [hf b z] at q; cases q
  refine (k a o e).stay (fun b u z q => ?_) (fun _ q => q) fun _ _ q => q
  rcases z with rfl | z
  · exact kp _ _ e u q
  · exact kp _ _ z u q
end
theorem comp_coreX {X : Cx} {elt iter : Expr} {x : Str} {px pos : Pos} {scope sc0 : Scope} {cl : List (Str × Addr)} {cn N : List Str} {fr : List Nat} {te : TE} {pins : List (Addr × Obj)} {σ : St} {H2 : Hp} {s2 : Shared} {it : Addr} {fp : List Addr}
    {tn : Nat → Heap → Prop} {J : It} {RR : Value → Addr → Result → Shared → Prop} {R : Hp → Prop} {E : Value → Shared → Prop} {EX : XK} {W : Nat → Nat → List V → Hp → Prop} {m0 : Nat}
    (hc : X.calm = true) (he : ∀ (C : Addr) (s₂ : Shared) (H₂ : Hp) (fp : List Addr), PE (compCxE X EX scope cl C x N s₂ H₂ fp) elt te) (hex : X.ex = [])
    (hX : ∀ (C xa : Addr) (cls : Value) (dd : Option Addr) (n : Nat) (H7 : Hp) (s7 : Shared) (m7 : Str → Option Value), s7.heap.Ns C m7 → Inv X pins σ H7 s7 → FpOk X pins H7 C → C < n → C ≠ xa → Exc n s7.heap xa cls dd .none → H7 xa = none → X.s₀.heap.get? xa = none → X.s₀.heap.objs.size ≤ n → (∀ b u, H7 b = some u → b < n) → EX cls dd H7 →
      notedBy (model X.prog X.w) X.A (compEnvC scope cl C X.env) (fun e s' => RR (.ref s2.heap.objs.size) C (.error e) s') (.ref xa) s7)
    (hcl : CellsIn X.env cl) (hcn : cl.map (·.1) = cn) (hsc : X.env.scope = sc0) (hk : scope.kind = .function) (hok : CompOk scope sc0 x N cn) (hfr : fr.map (fun j => X.N[j]?) = N.map some)
    (I2 : Inv X pins σ H2 s2) (T : Turn X.prog X.w X.K (.Name x px) J fp it tn) (st2 : tn 0 s2.heap) (f2 : ∀ b ∈ fp, FpOk X pins H2 b)
    (w0 : W 0 m0 [] (upd H2 s2.heap.objs.size (.lst [])))
    (turn : ∀ i m ys H, W i m ys H → H s2.heap.objs.size = some (.lst ys) ∧ ((J.stop i H ∧ R H) ∨ (J.go i H ∧ ys.length < sizeLine ∧ ∃ N : V → Hp → Prop,
      (∀ y H3, N y H3 → H3 s2.heap.objs.size = some (.lst ys) ∧ ∃ m', m' < m ∧ W (i + 1) m' (ys ++ [y]) (upd H3 s2.heap.objs.size (.lst (ys ++ [y])))) ∧
      ∀ x H', J.yld i H x H' → te (some x :: fr.map fun j => (σ[j]?).getD none) H' N)))
    (hRR : ∀ (C : Addr) (H6 : Hp) (s6 : Shared) (m6 : Str → Option Value), s6.heap.Ns C m6 → Inv X pins σ H6 s6 → FpOk X pins H6 C → R H6 → RR (.ref s2.heap.objs.size) C (.ok .next) s6) :
    wpAny (model X.prog X.w) X.A (newList []) (fun acc s₃ => wpAny (model X.prog X.w) X.A (newFunctionEnv scope X.env.globals cl [] X.env.qual none .none (some X.env)) (fun cenv s₄ =>
      codeAny (model X.prog X.w) X.A (.compStart (.ListComp elt [⟨.Name x px, iter, [], 0⟩] scope pos) 0 (.ref it) acc { cenv with scope := relabel scope X.env }) (RR acc cenv.locals) s₄) E s₃) E s2 := by
  refine wpAny_newObj_type (wpAny_newFunctionEnv hok.nc (by intro y hy; simp at hy) (fun h4 hns hsb => ?_) hk)
  dsimp only at hns hsb ⊢
  have rel : ∀ y, (compEnvC scope cl 0 X.env).scope.names.lookup y = (relN scope sc0).lookup y := fun y => by
    show (relabel scope X.env).names.lookup y = _
    unfold relabel relN Env.kindOf
    rw [hsc]
  generalize hD : s2.heap.objs.size = D at *
  have I3 : Inv X pins σ (upd H2 D (.lst [])) { s2 with heap := s2.heap.push { cls := .type "list", dict := none, data := .seq ([] : List Value).toArray } } :=
    I2.laid (t' := s2.toks) (fun b u e => Heap.get?_push_of_some _ e) (Nat.le_of_eq hD) ⟨Nat.zero_le _, [], 0, .nil, by rw [← hD]; exact Heap.get?_push_size _ rfl⟩
  have k23 : ∀ b u, s2.heap.get? b = some u → (s2.heap.push { cls := .type "list", dict := none, data := .seq ([] : List Value).toArray }).get? b = some u := fun b u e => Heap.get?_push_of_some _ e
  have hsz : s2.heap.objs.size ≤ (s2.heap.push { cls := .type "list", dict := none, data := .seq ([] : List Value).toArray }).objs.size := by rw [Heap.size_push]; exact Nat.le_succ _
  generalize hh3 : s2.heap.push { cls := .type "list", dict := none, data := .seq ([] : List Value).toArray } = h3 at *
  have k34 : ∀ b u, h3.get? b = some u → h4.get? b = some u := fun b u e => (hsb.2 b (Nat.ne_of_lt (Heap.lt_size e))).trans (Heap.get?_push_of_some _ e)
  generalize hC : h3.objs.size = C at *
  have I4 : Inv X pins σ (upd H2 D (.lst [])) { s2 with heap := h4, toks := s2.toks + ([] : List (Str × Value)).length } := I3.kept (t' := s2.toks + 0) k34
  generalize hH3 : upd H2 D (.lst []) = H3 at *
  have ltC : ∀ b o, s2.heap.get? b = some o → b < C := fun b o e => Nat.lt_of_lt_of_le (Heap.lt_size e) hsz
  have lenF : fr.length = N.length := by simpa using congrArg List.length hfr
  have fpo : ∀ b ∈ fp, b ≠ C ∧ b ∉ frs X.stack := fun b hb => by
    obtain ⟨o, e, _⟩ := T.obj 0 s2.heap st2 b hb
    refine ⟨Nat.ne_of_lt (ltC b o e), fun z => ?_⟩
    obtain ⟨_, n1, n2, _⟩ := f2 b hb
    rcases List.mem_cons.mp (I2.stkSub b z) with q | q
    · exact n1 q
    · exact n2 q
  have H3C : H3 C = none := I3.hok.fresh (Nat.le_of_eq hC)
  have okX : (compCx X scope cl C x N { s2 with heap := h3 } H3 fp).Ok := by
    refine ⟨I2.ok.mod, hk, I2.ok.glob, I2.ok.blt, Nat.le_of_eq hC, fun y z c e1 e2 => I2.ok.inj y z c (hcl.look e1) (hcl.look e2), fun y hy => ?_, fun y c z => (Bool.false_ne_true z).elim, fun z => I2.ok.hd z, I2.ok.frames, .inl rfl,
      fun b hb => ⟨(fpo b hb).1, fun y c e => (f2 b hb).2.2.2.2.1 y c (hcl.look e)⟩, fun b o e => I3.bs b o e, Nat.le_trans I2.ok.bsz I3.sz, fun b o e hb => ?_, fun b hb => (fpo b hb).2, I3.stack, I3.stkFree⟩
    · have hy' : (relN scope sc0).lookup y = some .cell ∨ (relN scope sc0).lookup y = some .free := by
        rcases hy with hy | hy
        · exact .inl ((rel y).symm.trans hy)
        · exact .inr ((rel y).symm.trans hy)
      have hm : y ∈ cn := by
        rcases hy' with q | q
        · exact hok.has (y, .cell) (lookup_mem q) (.inl rfl)
        · exact hok.has (y, .free) (lookup_mem q) (.inr rfl)
      exact look_of_mem (cl := cl) (n := y) (by rw [hcn]; exact hm)
    · rcases (f2 b hb).2.2.2.1 with z | z
      · exact I2.ok.noex b o e z
      · exact absurd (Nat.lt_of_lt_of_le (Heap.lt_size e) (Nat.le_trans I2.ok.bsz z)) (Nat.lt_irrefl _)
  have I5 : Inv (compCx X scope cl C x N { s2 with heap := h3 } H3 fp) [] (none :: fr.map fun j => (σ[j]?).getD none) H3 { s2 with heap := h4, toks := s2.toks + ([] : List (Str × Value)).length } := by
    refine ⟨okX, rfl, I4.bare, Un.kept k34, ⟨_, hns, fun i y v e1 e2 e3 => ?_⟩, fun y c e => I4.cell y c (hcl.look e), H3C, fun y c e => I4.freeC y c (hcl.look e), fun p hp => absurd (show p ∈ ([] : List (Addr × Obj)) from hp) (by simp), I4.hok, by simp [compCx, lenF]⟩
    cases i with
    | zero => cases e2
    | succ j =>
      have e1' : N[j]? = some y := e1
      have e2' : (fr.map fun j => (σ[j]?).getD none)[j]? = some (some v) := e2
      obtain ⟨k, ek⟩ : ∃ k, fr[j]? = some k := by
        have : j < fr.length := by rw [lenF]; exact (List.getElem?_eq_some_iff.mp e1').1
        exact ⟨fr[j], List.getElem?_eq_getElem this⟩
      rw [List.getElem?_map, ek] at e2'
      have e2'' : (σ[k]?).getD none = some v := Option.some.inj e2'
      have eσ : σ[k]? = some (some v) := by
        cases q : σ[k]? with
        | none => rw [q] at e2''; cases e2''
        | some o => rw [q] at e2''; exact congrArg some e2''
      have eN : X.N[k]? = some y := by
        have z := congrArg (fun l => l[j]?) hfr
        simp only [List.getElem?_map, ek, e1', Option.map_some] at z
        exact Option.some.inj z
      obtain ⟨r1, r2, r3⟩ := hok.frs y (List.mem_of_getElem? e1')
      obtain ⟨m, _, hl⟩ := I4.loc
      obtain ⟨u, ru, look⟩ := hl k y v eN eσ (.inr (.inl (by rw [hsc]; exact r2)))
      refine ⟨u, ru, .inr ⟨.inl ((rel y).trans r1), ?_⟩⟩
      rcases look with ⟨l1, _⟩ | ⟨_, c, l1, l2⟩
      · exfalso
        have l1' : X.env.scope.names.lookup y = some .local := l1
        rw [hsc, r2] at l1'
        cases l1'
      · obtain ⟨c', l3⟩ := look_of_mem (cl := cl) (n := y) (by rw [hcn]; exact r3)
        have l4 := hcl.look l3
        rw [l1] at l4
        cases l4
        exact ⟨c, l3, l2⟩
  have st4 : tn 0 h4 := T.keep 0 s2.heap h4 st2 fun b hb o e => k34 b o (k23 b o e)
  have fp5 : ∀ {H' : Hp}, (∀ b ∈ fp, H' b = none) → ∀ b ∈ fp, FpOk (compCx X scope cl C x N { s2 with heap := h3 } H3 fp) [] H' b := fun hn b hb =>
    ⟨hn b hb, (fpo b hb).1, (fpo b hb).2, .inl hb, fun y c e => (f2 b hb).2.2.2.2.1 y c (hcl.look e), fun p hp => absurd (show p ∈ ([] : List (Addr × Obj)) from hp) (by simp)⟩
  have fr3 : ∀ b ∈ fp, H3 b = none := fun b hb => by
    obtain ⟨o, e, _⟩ := T.obj 0 s2.heap st2 b hb
    have : b ≠ D := Nat.ne_of_lt (hD ▸ Heap.lt_size e)
    rw [← hH3, upd_ne this]
    exact (f2 b hb).1
  have hx' : Loc (compCx X scope cl C x N { s2 with heap := h3 } H3 fp).env.scope x := .inl ((rel x).trans hok.hx')
  have fin : ∀ (H6 : Hp) (s6 : Shared) (σ6 : St), Inv (compCx X scope cl C x N { s2 with heap := h3 } H3 fp) [] σ6 H6 s6 → Inv X pins σ H6 s6 ∧ FpOk X pins H6 C := by
    intro H6 s6 σ6 I6
    refine ⟨I3.call' (s' := s6) (ch := fp) I6.os ⟨I6.base.keep, I6.base.slot, I6.base.free, I6.base.there, I6.base.tups, I6.base.frzs, I6.base.tbls⟩ I6.hok I6.bare (fun b hb => ?_), I3.fpOk (Nat.le_of_eq hC) I6.free⟩
    obtain ⟨_, n1, _, n3, n4, n5⟩ := f2 b hb
    exact ⟨n3, n1, n4, n5⟩
  have loop : codeAny (model X.prog X.w) X.A (.compLoop (.ListComp elt [⟨.Name x px, iter, [], 0⟩] scope pos) 0 (.ref it) (.ref D) (compEnvC scope cl C X.env))
      (RR (.ref D) C) { s2 with heap := h4, toks := s2.toks + ([] : List (Str × Value)).length } := by
    refine compLoop_any (fun n s' => ∃ i v0 ys H', Inv (compCx X scope cl C x N { s2 with heap := h3 } H3 fp) [] (v0 :: fr.map fun j => (σ[j]?).getD none) H' s' ∧ tn i s'.heap ∧ (∀ b ∈ fp, H' b = none) ∧ W i n ys H') ?_ m0
      ⟨0, none, [], H3, I5, st4, fr3, w0⟩
    rintro n s6 ⟨i, v0, ys, H6, I6, st6, fr6, w6⟩
    obtain ⟨hDl, hw⟩ := turn i n ys H6 w6
    rcases hw with ⟨stop, qn⟩ | ⟨go, hlen, N', hN', step⟩
    · refine thn (T.done (compCx X scope cl C x N { s2 with heap := h3 } H3 fp) rfl rfl rfl hc i [] s6 _ H6 _ I6 (fp5 fr6) st6 stop) fun r s7 ⟨hr, I7⟩ => ?_
      subst hr
      obtain ⟨m7, hn7, _⟩ := I7.loc
      obtain ⟨J7, F7⟩ := fin H6 s7 _ I7
      exact hRR C H6 s7 m7 hn7 J7 F7 qn
    · refine thn (T.item (compCx X scope cl C x N { s2 with heap := h3 } H3 fp) rfl rfl rfl hc i [] s6 _ H6 _ I6 (fp5 fr6) st6 go) fun r s7 ⟨u, hr, h7⟩ => ?_
      subst hr
      refine thn h7 fun _ s8 ⟨x8, H8, I8, r8, y8, st8, fr8⟩ => ?_
      have I8' := I8.pinned (fp5 fr8) (T.obj _ _ st8)
      refine wpAny_assign_Name (store_ok (i := 0) I8' hok.nd rfl hx' r8 (fun s9 I9 => ?_) (.inr ((rel x).trans hok.hx')))
      have I9' : Inv (compCx X scope cl C x N { s2 with heap := h3 } H3 fp) ([] ++ pinsAt fp s8.heap) (some x8 :: fr.map fun j => (σ[j]?).getD none) H8 s9 := I9
      refine wpAny_mono (he C { s2 with heap := h3 } H3 fp _ s9 _ H8 _ (I9'.wish _) (step x8 H8 y8)) (fun y s10 h10 => ?_) fun ev s10 z => ?_
      case refine_2 =>
        obtain ⟨pz, σz, Hz, sz, Iz, xa, cls, dd, n, H7, rfl, O, q⟩ := z
        have Iz0 : Inv (compCx X scope cl C x N { s2 with heap := h3 } H3 fp) [] σz Hz sz := Iz.unpinned (pins := []) (pl := pz)
        have J0 : Inv (compCx X scope cl C x N { s2 with heap := h3 } H3 fp) [] σz H7 s10 := Iz0.call' (ch := []) O.os O.un O.hok O.bare fun b z => absurd z (by simp)
        obtain ⟨mz, hnz, _⟩ := Iz0.loc
        obtain ⟨m7, hn7, _⟩ := J0.loc
        obtain ⟨JX, FX⟩ := fin H7 s10 _ J0
        obtain ⟨KX, _⟩ := fin Hz sz _ Iz0
        have lC : C < sz.heap.objs.size := hnz.lt
        exact hX C xa cls dd n H7 s10 m7 hn7 JX FX (Nat.lt_of_lt_of_le lC O.old) (fun e => by
          obtain ⟨oc, _, _, ec, _⟩ := hnz
          have ec' : sz.heap.get? C = some oc := ec
          have := O.new
          rw [← e, ec'] at this
          cases this) O.exc O.free (KX.newOld hex O.new) (Nat.le_trans KX.sz O.old) O.low q
      obtain ⟨y10, H10, I10', r10, n10⟩ := h10
      have I10 := I10'.unwish
      obtain ⟨hD10, m', hm, w10⟩ := hN' y10 H10 n10
      refine wpAny_mono (mt_append (X := compCx X scope cl C x N { s2 with heap := h3 } H3 fp) _ s10 _ H10 (.ref D) [y10] (.ref D) [y] (fun _ H' => H' = upd H10 D (.lst (ys ++ [y10]))) I10 rfl (.cons r10 .nil) ⟨D, ys, y10, rfl, rfl, hD10, hlen, rfl⟩) (fun _ s11 h11 => ?_) fun _ _ z => False.elim z
      obtain ⟨_, H11, I11, _, e11⟩ := h11
      subst e11
      refine ⟨m', hm, i + 1, some x8, ys ++ [y10], _, I11.unpinned, T.keep _ _ _ st8 fun b hb o e => (I11.pin (b, o) (List.mem_append_right _ (List.mem_append_right _ (mem_pinsAt hb e)))).1, fun b hb => ?_, w10⟩
      obtain ⟨o, e, d⟩ := T.obj _ _ st8 b hb
      exact (I11.pin (b, o) (List.mem_append_right _ (List.mem_append_right _ (mem_pinsAt hb e)))).2.1
  exact codeAny_compStart_list loop (T.self _ 0 _ _ _ st4 loop)

theorem pe_compX {X : Cx} {E : XK} {elt iter : Expr} {x : Str} {px pos : Pos} {scope sc0 : Scope} {cl : List (Str × Addr)} {cn N : List Str} {fr : List Nat} {wi : TI} {te : TE}
    (l : Lv X E) (hi : PI X (.Name x px) iter wi) (he : ∀ (C : Addr) (s₂ : Shared) (H₂ : Hp) (fp : List Addr), PE (compCxE X E scope cl C x N s₂ H₂ fp) elt te)
    (hclos : closureFor scope X.env = pure cl) (hcl : CellsIn X.env cl) (hcn : cl.map (·.1) = cn) (hsc : X.env.scope = sc0) (hk : scope.kind = .function) (hok : CompOk scope sc0 x N cn)
    (hfr : fr.map (fun j => X.N[j]?) = N.map some) (hs : ∀ v, foldedSetIterable iter X.env v = pure v := by intro _; rfl) :
    PE X (.ListComp elt [⟨.Name x px, iter, [], 0⟩] scope pos) (tComp wi te fr) := by
  intro pins s σ H Q I h
  rw [eval_ListComp]
  refine wpAny_comprehension_free (use := none) rfl hs hclos hk hok.names (thn (hi pins s σ H _ I h) fun v s1 h1 => thn h1 fun itv s2 h2 => ?_)
  obtain ⟨it, fp, tn, J, H2, e, I2, T, st2, f2, hq⟩ := h2
  subst e
  obtain ⟨W, ⟨m0, w0⟩, turn⟩ := hq s2.heap.objs.size (I2.hok.fresh (Nat.le_refl _))
  refine comp_coreX (EX := E) (RR := fun acc C => compPost (model X.prog X.w) X.A X.xe none (EP X pins σ Q) acc C) (R := fun H6 => Q (.ref s2.heap.objs.size) H6) l.calm he l.ex ?_ hcl hcn hsc hk hok hfr I2 T st2 f2 w0 turn
    fun C H6 s6 m6 hn I6 F6 q => ⟨m6, hn, fun h' sb => ⟨.ref s2.heap.objs.size, H6, I6.let_go F6 sb, rfl, q⟩⟩
  intro C xa cls dd n H7 s7 m7 hn7 J7 F7 lC nC ex7 fx nx hsz low q7
  have st := J7.stack
  have hfr7 := J7.ok.frames
  rw [l.stack] at st hfr7
  have fsm : ∀ b ∈ frs X.stack, H7 b = none := J7.stkFree
  rw [l.stack] at fsm
  have sub := J7.stkSub
  rw [l.stack] at sub
  have Cfs : C ∉ frs (X.env :: X.outer) := fun z => by
    rcases List.mem_cons.mp (sub C z) with y | y
    · exact F7.2.1 y
    · exact F7.2.2.1 y
  have hC0 : X.s₀.heap.get? C = none := by
    rcases F7.2.2.2.1 with z | z
    · rw [l.ex] at z; exact absurd z (by simp)
    · exact Heap.get?_none_of_le z
  show wpAny _ X.A (noteFrame (.ref xa) (compEnvC scope cl C X.env)) _ _ s7
  rw [noteFrame_at (env := X.env) (env' := compEnvC scope cl C X.env) rfl]
  refine note_next hfr7 st l.frame ex7 fun h2 f2' e2 => ?_
  have g2 : FlyC n (frs (X.env :: X.outer)) xa C s7.heap h2 := .of f2'
  refine ⟨m7, hn7.at fun o ho => f2'.keep C o ho lC nC Cfs, fun h3 sb cenv _ => ?_⟩
  have g3 := g2.trans (.but sb Cfs) Cfs
  obtain ⟨oe, vs, Tb, oT, ts, ⟨he1, c1, c2, hd, hv1⟩, ⟨nT, Tx⟩, hT, hdT, h3T⟩ := e2
  have TC : Tb ≠ C := fun z => absurd lC (by rw [← z]; exact Nat.not_lt.mpr nT)
  have he3 : h3.get? xa = some oe := (sb.2 xa (Ne.symm nC)).trans he1
  have hT3 : h3.get? Tb = some oT := (sb.2 Tb TC).trans hT
  have ex3 : Exc n h3 xa cls dd (rawInt X.env.locals) := ⟨oe, vs, Tb, oT, ts, ⟨he3, c1, c2, hd, hv1⟩, ⟨nT, Tx⟩, hT3, hdT, h3T⟩
  have nr : ∀ {hh : Heap}, FlyC n (frs (X.env :: X.outer)) xa C s7.heap hh → ∀ T oT ts, hh.get? T = some oT → oT.data = .fields ts → T ∉ frs (X.env :: X.outer) := fun ff T oT ts h1 h2 hb => by
    obtain ⟨_, o, h3, h4⟩ := st.mem hb
    obtain ⟨sl, h5⟩ := ff.slot T o h3 hb
    rw [h5] at h1
    cases h1
    exact h4 ts h2
  unfold PySem.passOn
  refine wpAny_bind (wpAny_field (s := { s7 with heap := h3 }) he3 hd hv1 ?_)
  rw [if_neg (show ¬ ((Value.ref Tb == Value.none) = true) from by simp)]
  refine wpAny_bind (flight (s := { s7 with heap := h3 }) cenv.frame (nr g3) ex3 fun h4 f4 e4 => wpAny_throw ?_)
  have g4 := g3.trans (.of f4) Cfs
  rw [l.xe]
  show wpAny _ X.A (leaving X.env (.ref xa)) _ _ _
  unfold leaving
  refine wpAny_bind (note_any (s := { s7 with heap := h4 }) hfr7 (FunFrames.flyC g4 (fun b hb => hb) st) l.frame e4 fun h5 f5 e5 => ?_)
  have g5 := g4.trans (.of f5) Cfs
  refine flight (s := { s7 with heap := h5 }) none (nr g5) e5 fun h6 f6 e6 => ?_
  have g6 := g5.trans (.of f6) Cfs
  have hun : Un (frs X.outer) [] X.H₀ H7 X.s₀.heap h6 := by
    have u := J7.base
    rw [l.ex] at u
    refine u.flyC g6 (fun b hb => ?_) nx hC0 hsz
    rcases List.mem_cons.mp (sub b hb) with z | z
    · right
      rw [z]
      exact Heap.get?_none_of_le J7.ok.above
    · exact .inl z
  exact ⟨xa, cls, dd, n, H7, rfl, ⟨J7.os, J7.bare, hun, J7.hok.flyC g6 low fx F7.1 fsm, e6, fx, nx, hsz, low⟩, q7⟩
end L2
/-! my own rules over the layer: tokens never fall; text.replace(text, text, 1) -/
namespace L2
open PySem PySem.Spec PyProof.Rows
theorem runs_toks {M : Model} {Γ : PySem.Ctx} {p : Pos} {t : Sem Fin} {fs : List Frame} {s s' : Shared} {e : End} (h : Runs M Γ p t fs s e s') : s.toks ≤ s'.toks := by
  induction h with
  | done => exact Nat.le_refl _
  | raise => exact Nat.le_refl _
  | yield => exact Nat.le_refl _
  | fresh _ ih => exact Nat.le_trans (Nat.le_succ _) ih
  | call _ _ a b => exact Nat.le_trans a b
  | callSusp _ a => exact a
  | resumeFresh _ _ _ _ a b => exact Nat.le_trans a b
  | resumeSuspended _ _ _ _ a b => exact Nat.le_trans a b
  | segRet _ _ a b => exact Nat.le_trans a b
  | segGen _ _ a b => exact Nat.le_trans a b
  | segSuspOut _ _ a => exact a
  | segSuspGen _ _ _ _ a b => exact Nat.le_trans a b
  | _ => assumption
theorem wakes_toks {M : Model} {Γ : PySem.Ctx} {p : Pos} {g : Nat} {r : Resume} {s s' : Shared} {res : GenResult} (h : Wakes M Γ p g r s res s') : s.toks ≤ s'.toks := by
  unfold Wakes at h
  split at h
  · exact h.elim
  · split at h
    · obtain ⟨e₁, s₁, h1, _, _, rfl⟩ := h
      have z := runs_toks h1
      exact z
    · rw [h.2]; exact Nat.le_refl _
    · rw [h.2]; exact Nat.le_refl _
  all_goals first
    | (obtain ⟨e₁, s₁, h1, _, _, rfl⟩ := h; have z := runs_toks h1; exact z)
    | (rw [h.2]; exact Nat.le_refl _)
theorem wp_toks {M : Model} {Γ : PySem.Ctx} {α : Type} (n : Nat) : ∀ (t : Sem α) (Q : α → Pos → Shared → Prop) (E : Value → Pos → Shared → Prop) (p : Pos) (s : Shared), n ≤ s.toks → Sem.wp M Γ t Q E p s →
    Sem.wp M Γ t (fun a p s' => Q a p s' ∧ n ≤ s'.toks) (fun e p s' => E e p s' ∧ n ≤ s'.toks) p s := by
  intro t
  induction t with
  | pure a => exact fun Q E p s hn h => ⟨h, hn⟩
  | raise e => exact fun Q E p s hn h => ⟨h, hn⟩
  | load a b k ih =>
    rintro Q E p s hn ⟨o, h1, h2⟩
    exact ⟨o, h1, ih o Q E p s hn h2⟩
  | update a b f k ih =>
    rintro Q E p s hn ⟨h1, h2⟩
    exact ⟨h1, ih () Q E p _ hn h2⟩
  | fresh k ih => exact fun Q E p s hn h => ih _ Q E p _ (Nat.le_trans hn (Nat.le_succ _)) h
  | choose src m k ih =>
    rintro Q E p s hn ⟨h1, h2⟩
    exact ⟨h1, ih _ Q E p _ hn h2⟩
  | call c h a b k ih =>
    rintro Q E p s hn ⟨r, s', h1, h2⟩
    exact ⟨r, s', h1, ih r Q E p s' (Nat.le_trans hn (runs_toks h1)) h2⟩
  | genState g k ih =>
    rintro Q E p s hn ⟨st, h1, h2⟩
    exact ⟨st, h1, ih _ Q E p s hn h2⟩
  | resume g r a k ih =>
    rintro Q E p s hn ⟨res, s', h1, h2⟩
    exact ⟨res, s', h1, ih _ Q E p s' (Nat.le_trans hn (wakes_toks h1)) h2⟩
  | _ => first
    | (intro Q E p s hn h; exact h.elim)
    | (rename_i ih; intro Q E p s hn h; exact ih _ Q E _ _ hn h)
theorem any_toks {M : Model} {A : Around} {α : Type} {m : Sem α} {Q : α → Shared → Prop} {E : Value → Shared → Prop} {s : Shared} {n : Nat} (hn : n ≤ s.toks) (h : wpAny M A m Q E s) : wpAny M A m (fun a s' => Q a s' ∧ n ≤ s'.toks) E s :=
  fun Γ p hi => Sem.wp_mono M Γ m (fun _ _ _ z => z) (fun _ _ _ z => z.1) p s (wp_toks n m _ _ p s hn (h Γ p hi))
/-! where tokens are known to be made already -/
def PE0 (X : Cx) (e : Expr) (t : TE) : Prop := ∀ (pins : List (Addr × Obj)) (s : Shared) (σ : St) (H : Hp) (Q : VK), 1 ≤ s.toks → Inv X pins σ H s → t σ H Q → wpAny (model X.prog X.w) X.A (eval e X.env) (EP X pins σ Q) X.xe s
def PA0 (X : Cx) (es : List Expr) (t : TA) : Prop := ∀ (pos : Pos) (pins : List (Addr × Obj)) (s : Shared) (σ : St) (H : Hp) (Q : List V → Hp → Prop), 1 ≤ s.toks → Inv X pins σ H s → t σ H Q → wpAny (model X.prog X.w) X.A (spliced (backTo pos (starEach es X.env))) (AP X pins σ Q) X.xe s
def PS0 (X : Cx) (st : Stmt) (t : TS) : Prop := ∀ (pins : List (Addr × Obj)) (s : Shared) (σ : St) (H : Hp) (D : Ends), 1 ≤ s.toks → Inv X pins σ H s → t D σ H → wpAny (model X.prog X.w) X.A (exec st X.env) (SP X pins D) X.xe s
def PSs0 (X : Cx) (st : List Stmt) (t : TS) : Prop := ∀ (pins : List (Addr × Obj)) (s : Shared) (σ : St) (H : Hp) (D : Ends), 1 ≤ s.toks → Inv X pins σ H s → t D σ H → wpAny (model X.prog X.w) X.A (execs st X.env) (SP X pins D) X.xe s
def PA1 (X : Cx) (es : List Expr) (t : TA) : Prop := ∀ (pos : Pos) (pins : List (Addr × Obj)) (s : Shared) (σ : St) (H : Hp) (Q : List V → Hp → Prop), Inv X pins σ H s → t σ H Q → wpAny (model X.prog X.w) X.A (spliced (backTo pos (starEach es X.env))) (fun us s' => AP X pins σ Q us s' ∧ 1 ≤ s'.toks) X.xe s
def PE1 (X : Cx) (e : Expr) (t : TE) : Prop := ∀ (pins : List (Addr × Obj)) (s : Shared) (σ : St) (H : Hp) (Q : VK), Inv X pins σ H s → t σ H Q → wpAny (model X.prog X.w) X.A (eval e X.env) (fun v s' => EP X pins σ Q v s' ∧ 1 ≤ s'.toks) X.xe s
def PS1 (X : Cx) (st : Stmt) (t : TS) : Prop := ∀ (pins : List (Addr × Obj)) (s : Shared) (σ : St) (H : Hp) (D : Ends), Inv X pins σ H s → t D σ H → wpAny (model X.prog X.w) X.A (exec st X.env) (fun f s' => SP X pins D f s' ∧ 1 ≤ s'.toks) X.xe s
section
variable {X : Cx} {st : Stmt} {rest : List Stmt} {t u : TS} {e : Expr} {es : List Expr} {te : TE} {ta : TA} {pos : Pos}
theorem pe_0 (h : PE X e te) : PE0 X e te := fun pins s σ H Q _ I q => h pins s σ H Q I q
theorem pa_0 (h : PA X es ta) : PA0 X es ta := fun pos pins s σ H Q _ I q => h pos pins s σ H Q I q
theorem pa0_cons (ha : PE0 X e te) (hr : PA0 X es ta) (hs : starEach (e :: es) X.env = (false, eval e X.env) :: starEach es X.env := by rfl) : PA0 X (e :: es) (tCons te ta) := by
  intro pos pins s σ H Q n I h
  rw [hs]
  show wpAny _ _ (spliced ((false, eval e X.env) :: backTo pos (starEach es X.env))) _ _ s
  refine Calls.spliced_cons (thn (any_toks n (ha pins s σ H _ n I h)) fun u s1 ⟨⟨x, H1, I1, r1, q1⟩, n1⟩ => ?_)
  exact thn (hr pos pins s1 σ H1 _ n1 I1 q1) fun us s2 ⟨xs, H2, I2, r2, q2⟩ => ⟨x :: xs, H2, I2, .cons r1 r2, q2⟩
theorem pa1_here {x : Str} {k : Nat} {p : Pos} (hr : PA X es ta) (hs : starEach (.Constant (.str x) k p :: es) X.env = (false, eval (.Constant (.str x) k p) X.env) :: starEach es X.env := by rfl) : PA1 X (.Constant (.str x) k p :: es) (tCons (tC (.str x)) ta) := by
  intro pos pins s σ H Q I h
  rw [hs]
  show wpAny _ _ (spliced ((false, eval (.Constant (.str x) k p) X.env) :: backTo pos (starEach es X.env))) _ _ s
  refine Calls.spliced_cons (Calls.Constant_str ?_)
  exact thn (any_toks (n := 1) (Nat.le_add_left _ _) (hr pos pins _ σ H _ (I.tok _) h)) fun us s2 ⟨⟨xs, H2, I2, r2, q2⟩, n2⟩ => ⟨⟨.str x :: xs, H2, I2, .cons ⟨_, rfl⟩ r2, q2⟩, n2⟩
theorem pa1_cons (ha : PE X e te) (hr : PA1 X es ta) (hs : starEach (e :: es) X.env = (false, eval e X.env) :: starEach es X.env := by rfl) : PA1 X (e :: es) (tCons te ta) := by
  intro pos pins s σ H Q I h
  rw [hs]
  show wpAny _ _ (spliced ((false, eval e X.env) :: backTo pos (starEach es X.env))) _ _ s
  refine Calls.spliced_cons (thn (ha pins s σ H _ I h) fun u s1 ⟨x, H1, I1, r1, q1⟩ => ?_)
  exact thn (hr pos pins s1 σ H1 _ I1 q1) fun us s2 ⟨⟨xs, H2, I2, r2, q2⟩, n2⟩ => ⟨⟨x :: xs, H2, I2, .cons r1 r2, q2⟩, n2⟩
theorem pe_lst1 (h : PA1 X es ta) : PE1 X (.List es pos) (tLst ta) := by
  intro pins s σ H Q I hq
  refine wpAny_List_spliced (thn (h pos pins s σ H _ I hq) fun us s1 ⟨⟨xs, H1, I1, r, z, q⟩, n1⟩ => ⟨by rw [← r.length]; exact z, ?_⟩)
  have hf : H1 s1.heap.objs.size = none := I1.hok.fresh (Nat.le_refl _)
  refine ⟨⟨.ref s1.heap.objs.size, upd H1 s1.heap.objs.size (.lst xs), I1.laid (t' := s1.toks) (fun b u e => Heap.get?_push_of_some _ e) (Nat.le_refl _) ?_, rfl, q _ hf⟩, n1⟩
  exact ⟨z, us, 0, r, Heap.get?_push_size _ rfl⟩
theorem pe_lst0 (h : PA0 X es ta) : PE0 X (.List es pos) (tLst ta) := by
  intro pins s σ H Q n I hq
  refine wpAny_List_spliced (thn (h pos pins s σ H _ n I hq) fun us s1 ⟨xs, H1, I1, r, z, q⟩ => ⟨by rw [← r.length]; exact z, ?_⟩)
  have hf : H1 s1.heap.objs.size = none := I1.hok.fresh (Nat.le_refl _)
  refine ⟨.ref s1.heap.objs.size, upd H1 s1.heap.objs.size (.lst xs), I1.laid (t' := s1.toks) (fun b u e => Heap.get?_push_of_some _ e) (Nat.le_refl _) ?_, rfl, q _ hf⟩
  exact ⟨z, us, 0, r, Heap.get?_push_size _ rfl⟩
theorem pe_op0 {op : Operator} {r : R2} {a b : Expr} {ua ub : TE} (ho : OpR X (binaryOp op) r) (ha : PE X a ua) (hb : PE0 X b ub) : PE0 X (.BinOp a op b pos) (tOp r ua ub) := by
  intro pins s σ H Q n I h
  refine wpAny_BinOp (thn (any_toks n (ha pins s σ H _ I h)) fun v s1 ⟨⟨x, H1, I1, r1, q1⟩, n1⟩ => ?_)
  refine thn (hb pins s1 σ H1 _ n1 I1 q1) fun u s2 ⟨y, H2, I2, r2, q2⟩ => ?_
  exact ho pins s2 σ H2 x y v u Q I2 r1 r2 q2
theorem ps_set1 {i : Nat} {x : Str} {pos' : Pos} (hN : X.N.Nodup) (hi : X.N[i]? = some x) (hx : Loc X.env.scope x) (he : PE1 X e te) (hs : swapsWith e (some (.Name x pos')) pos.line X.env = pure false := by rfl) (hf : X.fn x = true ∨ X.env.scope.names.lookup x = some .local := by first | exact .inl rfl | exact .inr rfl | assumption) :
    PS1 X (.Assign [.Name x pos'] e pos) (tAsg te (gName i)) := by
  intro pins s σ H D I h
  refine wpAny_Assign_Name (thn (he pins s σ H _ I h) fun v s1 ⟨⟨y, H1, I1, r1, q1⟩, n1⟩ => ?_) hs
  exact any_toks (Q := fun _ s' => SP X pins D .next s') n1 (store_ok I1 hN hi hx r1 (fun s2 I2 => ⟨_, H1, I2, q1⟩) hf)
theorem ps_set0 {i : Nat} {x : Str} {pos' : Pos} (hN : X.N.Nodup) (hi : X.N[i]? = some x) (hx : Loc X.env.scope x) (he : PE0 X e te) (hs : swapsWith e (some (.Name x pos')) pos.line X.env = pure false := by rfl) (hf : X.fn x = true ∨ X.env.scope.names.lookup x = some .local := by first | exact .inl rfl | exact .inr rfl | assumption) :
    PS0 X (.Assign [.Name x pos'] e pos) (tAsg te (gName i)) := by
  intro pins s σ H D n I h
  refine wpAny_Assign_Name (thn (he pins s σ H _ n I h) fun v s1 ⟨y, H1, I1, r1, q1⟩ => ?_) hs
  exact store_ok I1 hN hi hx r1 (fun s2 I2 => ⟨_, H1, I2, q1⟩) hf
theorem pss_cons1 (h1 : PS1 X st t) (h2 : PSs0 X rest u) : PSs X (st :: rest) (tSeq t u) := by
  intro pins s σ H D I h
  refine wpAny_execs_cons (thn (h1 pins s σ H { D with nx := u D } I h) fun f s1 ⟨q, n1⟩ => ?_)
  cases f with
  | next =>
    obtain ⟨σ', H', I', q⟩ := q
    exact h2 pins s1 σ' H' D n1 I' q
  | ret v => exact q
  | brk => exact q
  | cont => exact q
theorem pss_cons0 (h1 : PS0 X st t) (h2 : PSs X rest u) : PSs0 X (st :: rest) (tSeq t u) := by
  intro pins s σ H D n I h
  refine wpAny_execs_cons (thn (h1 pins s σ H { D with nx := u D } n I h) fun f s1 q => ?_)
  cases f with
  | next =>
    obtain ⟨σ', H', I', q⟩ := q
    exact h2 pins s1 σ' H' D I' q
  | ret v => exact q
  | brk => exact q
  | cont => exact q
end
/-! text.replace(text, text, 1) -/
def repl1 (x y z : Str) : Str :=
  if ((Builtin.Str.occurrences x y 0 x.length 1).isEmpty || (y.length == 0 && z.length == 0)) = true then x else Builtin.Str.glued z (Builtin.Str.partsBetween x (Builtin.Str.occurrences x y 0 x.length 1) y.length)
open Builtin Builtin.Str in
theorem gives_replace1 (x y z : Str) (t u v c : Tok) (h0 : (u == 0 || v == 0) = false) (huv : (u == v) = false) (hyz : (y == z) = false) (hl : tooLong (x.length + (occurrences x y 0 x.length 1).length * z.length) = false) :
    Gives («str.replace» ⟨[.str x t, .str y u, .str z v, .int 1 c], []⟩) (if ((occurrences x y 0 x.length 1).isEmpty || (y.length == 0 && z.length == 0)) = true then .val (.str x t) else .str (glued z (partsBetween x (occurrences x y 0 x.length 1) y.length))) := by
  show Gives (if ((occurrences x y 0 x.length 1).isEmpty || (y.length == 0 && z.length == 0)) = true then (do rule "str.replace.nothing"; ret (.str x t)) else
          (do let same ← isSame (.str y u) (.str z v)
              if same = true then (do rule "str.replace.old-is-new"; ret (.str x t)) else
              if tooLong (x.length + (occurrences x y 0 x.length 1).length * z.length) = true then unsupported "str.replace:memory" else
              retStr (glued z (partsBetween x (occurrences x y 0 x.length 1) y.length)))) _
  cases hc : ((occurrences x y 0 x.length 1).isEmpty || (y.length == 0 && z.length == 0))
  · rw [isSame_str_other y z u v h0 huv hyz, hl]
    exact .of_eq rfl
  · exact .rule (.of_eq rfl)
open Builtin Builtin.Str in
theorem repl_len (x y z : Str) : ((occurrences x y 0 x.length 1).isEmpty || (y.length == 0 && z.length == 0)) = false → (glued z (partsBetween x (occurrences x y 0 x.length 1) y.length)).length ≤ 2 * x.length + z.length := by
  intro h
  have h1 := StrLaws.occ_length_le x y 0 x.length 1
  rw [StrLaws.partsBetween_eq, StrLaws.glued_eq_join]
  have sub : ∀ a b : Nat, b ≤ x.length → (strSub x a b).length ≤ x.length := fun a b hb => by
    show (x.cps.extract a b).size ≤ x.cps.size
    rw [Array.size_extract]
    omega
  generalize occurrences x y 0 x.length 1 = cuts at *
  match cuts, h1 with
  | [], _ => cases h
  | [i], _ =>
    show (Str.join z [strSub x 0 i, strSub x (i + y.length) x.length]).length ≤ _
    show (strSub x 0 i ++ z ++ strSub x (i + y.length) x.length).length ≤ _
    rw [Str.length_append, Str.length_append]
    have a1 : (strSub x 0 i).length ≤ x.length := by
      show (x.cps.extract 0 i).size ≤ x.cps.size
      rw [Array.size_extract]
      omega
    have a2 := sub (i + y.length) x.length (Nat.le_refl _)
    omega
section
variable {X : Cx}
def tRepl (to : TE) (y z : Str) : TE := fun σ H Q => to σ H fun v H1 => ∃ x, v = .str x ∧ x.length ≤ 1000000 ∧ Q (.str (repl1 x y z)) H1
open Builtin Builtin.Str in
theorem pe_repl0 {o : Expr} {to : TE} {y z : Str} {k1 k2 k3 : Nat} {p1 p2 p3 apos cpos : Pos} (ho : PE X o to) (hyz : (y == z) = false) (hz : z.length ≤ 100)
    (hbase : attributeBase o "replace" X.env (eval o X.env) = eval o X.env := by rfl)
    (hfew : ((backTo cpos (starEach [.Constant (.str y) k1 p1, .Constant (.str z) k2 p2, .Constant (.int 1) k3 p3] X.env)).all (fun x => !x.1) && (backToKw cpos (keywordEach [] X.env)).all (fun x => x.1.isSome)
      && decide (([.Constant (.str y) k1 p1, .Constant (.str z) k2 p2, .Constant (.int 1) k3 p3] : List Expr).length + ([] : List Keyword).length + (if ([] : List Keyword).isEmpty then 0 else 1) < 30)) = true := by rfl)
    (hline : (apos.endLine == cpos.line) = true := by rfl)
    (hs : starEach [.Constant (.str y) k1 p1, .Constant (.str z) k2 p2, .Constant (.int 1) k3 p3] X.env = [(false, eval (.Constant (.str y) k1 p1) X.env), (false, eval (.Constant (.str z) k2 p2) X.env), (false, eval (.Constant (.int 1) k3 p3) X.env)] := by rfl) :
    PE0 X (.Call (.Attribute o "replace" apos) [.Constant (.str y) k1 p1, .Constant (.str z) k2 p2, .Constant (.int 1) k3 p3] [] cpos) (tRepl to y z) := by
  intro pins s σ H Q n I h
  refine wpAny_Call_method_late hbase hfew hline rfl (thn (any_toks n (ho pins s σ H _ I h)) fun v s1 ⟨⟨v0, H1, I1, r1, q1⟩, n1⟩ => ?_)
  obtain ⟨x, rfl, hx, q⟩ := q1
  obtain ⟨t, rfl⟩ := r1
  refine ⟨"str", "str.replace", F.plainAttrs_str, F.slot_str_replace, F.type_str_replace, typeIs_str _ _ _, (fun a z => nomatch z), ?_⟩
  rw [hs]
  refine Calls.callWith_builtin rfl (Calls.evalArgs_plain ?_)
  refine Calls.spliced_cons (Calls.Constant_str (k := k1) (pos := p1) (Calls.spliced_cons (Calls.Constant_str (k := k2) (pos := p2) (Calls.spliced_cons ?_))))
  refine thn (pe_int (X := X) (i := 1) (j := k3) (pos := p3) pins { s1 with toks := s1.toks + 1 + 1 } σ H1 (fun v H => v = .int 1 ∧ H = H1) (I1.tok _) ⟨rfl, rfl⟩) fun w s2 ⟨v2, H2, I2, r2, e1, e2⟩ => ?_
  subst e1
  rw [e2] at I2
  obtain ⟨c, rfl⟩ := r2
  refine Calls.spliced_nil ?_
  have hle := StrLaws.occ_length_le x y 0 x.length 1
  have hmul : (occurrences x y 0 x.length 1).length * z.length ≤ 1 * z.length := Nat.mul_le_mul_right _ hle
  have e24 : (2 : Nat) ^ 24 = 16777216 := by decide
  refine call_gives F.slot_str_replace (typeIs_str _ _ _) F.entry_str_replace (F.args_str_replace_4 _ _ _ _) (gives_replace1 x y z t s1.toks (s1.toks + 1) c ?_ ?_ hyz ?_) ?_
  · have a : s1.toks ≠ 0 := by omega
    simp [a]
  · simp
  · unfold tooLong sizeLine
    exact decide_eq_false (by omega)
  · have fin : ∀ (t' : Tok) (k : Nat), EP X pins σ Q (.str (repl1 x y z) t') { s2 with toks := k } := fun t' k => ⟨.str _, H1, I2.tok k, ⟨_, rfl⟩, q⟩
    unfold repl1 at fin
    have hlen := repl_len x y z
    cases hc : ((occurrences x y 0 x.length 1).isEmpty || (y.length == 0 && z.length == 0))
    · rw [hc] at fin
      simp only [Bool.false_eq_true, if_false] at fin ⊢
      refine ⟨?_, fin _ _⟩
      have := hlen hc
      show _ ≤ sizeLine
      unfold sizeLine
      omega
    · rw [hc] at fin
      simp only [if_true] at fin ⊢
      exact fin t s2.toks
/-- a text * a number -/
theorem op_repS : OpR X (binaryOp .Mult) (fun x y H Q => ∃ (z : Str) (n : Int), x = .str z ∧ y = .int n ∧ z.length = 1 ∧ 2 ≤ n ∧ n ≤ 1000 ∧ Q (.str ⟨(List.replicate n.toNat (z.cps.getD 0 0)).toArray⟩) H) := by
  intro pins s σ H x y v u Q I rx ry h
  obtain ⟨z, n, rfl, rfl, hz, h2, h1, q⟩ := h
  obtain ⟨t, rfl⟩ := rx
  obtain ⟨t', rfl⟩ := ry
  have a1 : ¬ n < 1 := by omega
  have a2 : ¬ (n == 1 || z.length == 0) = true := by
    rw [hz]
    simp
    omega
  have e : (⟨(List.replicate n.toNat z.cps).foldl (· ++ ·) #[]⟩ : Str) = ⟨(List.replicate n.toNat (z.cps.getD 0 0)).toArray⟩ := by
    have hz' : z.cps = #[z.cps.getD 0 0] := by
      have : z.cps.size = 1 := hz
      apply Array.ext
      · simp [this]
      · intro i h3 h4
        have : i = 0 := by omega
        subst this
        simp [Array.getD, h3]
    have gen : ∀ (k : Nat) (acc : Array Nat) (c : Nat), (List.replicate k #[c]).foldl (· ++ ·) acc = acc ++ (List.replicate k c).toArray := by
      intro k
      induction k with
      | zero => intro acc c; simp
      | succ k ih =>
        intro acc c
        rw [List.replicate_succ, List.foldl_cons, ih, List.replicate_succ, Array.append_assoc]
        congr 1
        apply Array.ext'
        simp
    generalize z.cps.getD 0 0 = c at hz'
    rw [hz', gen]
    simp
  refine P.mul_str ?_ (fun _ _ => ?_) (fun _ _ => ?_) ?_
  · rw [decide_eq_false (by omega), decide_eq_false (by omega)]
    rfl
  · rw [hz]
    have : (9223372036854775807 : Int) / n ≥ 1 := by
      rw [ge_iff_le, Int.le_ediv_iff_mul_le (by omega)]
      omega
    show ¬ ((1 : Int) > 9223372036854775807 / n)
    omega
  · rw [hz]
    unfold Builtin.Str.tooLong sizeLine
    exact decide_eq_false (by omega)
  · rw [if_neg a1, if_neg a2, e]
    refine ⟨?_, ⟨.str _, H, I.tok _, ⟨_, rfl⟩, q⟩⟩
    show ((List.replicate n.toNat (z.cps.getD 0 0)).toArray).size ≤ sizeLine
    simp
    unfold sizeLine
    omega
end
end L2
namespace My
open PySem L2

def top (i : Nat) : Stmt := PySem.Challenge.pw_manyleast_k58_texts_refused.main.body.getD i (.Pass ⟨0, 0, 0, 0⟩)
abbrev s_read_number : Stmt := top 10
abbrev s_are_figures : Stmt := top 11
abbrev s_read_row : Stmt := top 12
abbrev s_read_paper : Stmt := top 13
abbrev s_read_paper_from : Stmt := top 14
abbrev s_place_behind : Stmt := top 15
abbrev s__law_cell : Stmt := top 17
abbrev s__law_pen : Stmt := top 18
abbrev s__law_take : Stmt := top 19
abbrev s__law_many : Stmt := top 20
abbrev s__law_paper : Stmt := top 21
abbrev s__law_chain : Stmt := top 22
abbrev s__law_written : Stmt := top 23
abbrev s__law_refused : Stmt := top 24
abbrev s__law_with_sign : Stmt := top 25
abbrev s__law_no_number : Stmt := top 26
abbrev s__law_no_row : Stmt := top 27
abbrev s__law_no_paper : Stmt := top 28
abbrev s_law : Stmt := top 29
theorem sc_read_number : FnScope ["text", "figures"] ["text"] (defScope s_read_number) := ⟨rfl, rfl, rfl, by decide +kernel, rfl, by decide +kernel, by decide +kernel⟩
theorem sc_are_figures : FnScope ["text"] ["text"] (defScope s_are_figures) := ⟨rfl, rfl, rfl, by decide +kernel, rfl, by decide +kernel, by decide +kernel⟩
theorem sc_read_row : FnScope ["text"] ["text"] (defScope s_read_row) := ⟨rfl, rfl, rfl, by decide +kernel, rfl, by decide +kernel, by decide +kernel⟩
theorem sc_read_paper : FnScope ["text", "told"] ["text"] (defScope s_read_paper) := ⟨rfl, rfl, rfl, by decide +kernel, rfl, by decide +kernel, by decide +kernel⟩
theorem sc_read_paper_from : FnScope ["text", "start", "depth", "end", "many", "lower", "upper"] ["text", "start", "depth"] (defScope s_read_paper_from) := ⟨rfl, rfl, rfl, by decide +kernel, rfl, by decide +kernel, by decide +kernel⟩
theorem sc_place_behind : FnScope ["text", "place", "sign"] ["text", "place", "sign"] (defScope s_place_behind) := ⟨rfl, rfl, rfl, by decide +kernel, rfl, by decide +kernel, by decide +kernel⟩
theorem sc__law_cell : FnScope ["_law_script", "_law_k", "_law_number"] ["_law_script", "_law_k"] (defScope s__law_cell) := ⟨rfl, rfl, rfl, by decide +kernel, rfl, by decide +kernel, by decide +kernel⟩
theorem sc__law_pen : FnScope ["_law_cell_here"] ["_law_cell_here"] (defScope s__law_pen) := ⟨rfl, rfl, rfl, by decide +kernel, rfl, by decide +kernel, by decide +kernel⟩
theorem sc__law_take : FnScope ["_law_pen_here", "_law_size", "_law_digit", "_law_number"] ["_law_pen_here", "_law_size"] (defScope s__law_take) := ⟨rfl, rfl, rfl, by decide +kernel, rfl, by decide +kernel, by decide +kernel⟩
theorem sc__law_many : FnScope ["_law_pen_here"] ["_law_pen_here"] (defScope s__law_many) := ⟨rfl, rfl, rfl, by decide +kernel, rfl, by decide +kernel, by decide +kernel⟩
theorem sc__law_paper : FnScope ["_law_pen_here", "_law_deep", "_law_many_here", "_law_lower"] ["_law_pen_here", "_law_deep"] (defScope s__law_paper) := ⟨rfl, rfl, rfl, by decide +kernel, rfl, by decide +kernel, by decide +kernel⟩
theorem sc__law_chain : FnScope ["_law_pen_here", "_law_deep", "_law_found", "_law_k", "_law_halves"] ["_law_pen_here", "_law_deep"] (defScope s__law_chain) := ⟨rfl, rfl, rfl, by decide +kernel, rfl, by decide +kernel, by decide +kernel⟩
theorem sc__law_written : FnScope ["_law_paper_here", "_law_found", "_law_waiting", "_law_one"] ["_law_paper_here"] (defScope s__law_written) := ⟨rfl, rfl, rfl, by decide +kernel, rfl, by decide +kernel, by decide +kernel⟩
theorem sc__law_refused : FnScope ["_law_which", "_law_text", "_law_caught", "e"] ["_law_which", "_law_text"] (defScope s__law_refused) := ⟨rfl, rfl, rfl, by decide +kernel, rfl, by decide +kernel, by decide +kernel⟩
theorem sc__law_with_sign : FnScope ["_law_pen_here", "_law_text", "_law_signs", "_law_at"] ["_law_pen_here", "_law_text", "_law_signs"] (defScope s__law_with_sign) := ⟨rfl, rfl, rfl, by decide +kernel, rfl, by decide +kernel, by decide +kernel⟩
theorem sc__law_no_number : FnScope ["_law_pen_here", "_law_text", "_law_some"] ["_law_pen_here"] (defScope s__law_no_number) := ⟨rfl, rfl, rfl, by decide +kernel, rfl, by decide +kernel, by decide +kernel⟩
theorem sc__law_no_row : FnScope ["_law_pen_here", "_law_words", "_law_text", "_law_at", "_law_bad", "_law_some"] ["_law_pen_here"] (defScope s__law_no_row) := ⟨rfl, rfl, rfl, by decide +kernel, rfl, by decide +kernel, by decide +kernel⟩
theorem sc__law_no_paper : FnScope ["_law_pen_here", "_law_text", "_law_whole", "_law_some"] ["_law_pen_here"] (defScope s__law_no_paper) := ⟨rfl, rfl, rfl, by decide +kernel, rfl, by decide +kernel, by decide +kernel⟩
theorem sc_law : FnScope ["_law_script", "_law_turn", "_law_pen_here", "_law_k", "_law_thing", "_law_which", "_law_paper_here"] ["_law_script"] (defScope s_law) := ⟨rfl, rfl, rfl, by decide +kernel, rfl, by decide +kernel, by decide +kernel⟩
structure Bz (K : PySem.W.Frag) (mg : Str → Option Value) (cLeastError cBeyond cNoBounds cNoRow cNoSuch cNoText cTooMany : Addr) : Prop where
  ValueError_ : mg "ValueError" = none
  all_ : mg "all" = none
  int_ : mg "int" = none
  isinstance_ : mg "isinstance" = none
  len_ : mg "len" = none
  range_ : mg "range" = none
  str_ : mg "str" = none
  m_LeastError : mg "LeastError" = some (.ref cLeastError)
  m_Beyond : mg "Beyond" = some (.ref cBeyond)
  m_NoBounds : mg "NoBounds" = some (.ref cNoBounds)
  m_NoRow : mg "NoRow" = some (.ref cNoRow)
  m_NoSuch : mg "NoSuch" = some (.ref cNoSuch)
  m_NoText : mg "NoText" = some (.ref cNoText)
  m_TooMany : mg "TooMany" = some (.ref cTooMany)
  own_NoText : PySem.W.excIn K cNoText bmVE "ValueError.__new__" = true
  ecl : ECls K cNoText
  exm : PySem.W.exmOne K (.ref cNoText) (.ref cLeastError) = some true
  kA : PySem.W.kitOne K (.ref cNoText) (.ref cNoText) = some true
  kB : PySem.W.kitOne K (.ref cNoText) (.type "ValueError") = some true
  kC : PySem.W.kitAny K (.ref cNoText) [.ref cBeyond, .ref cNoBounds, .ref cNoRow, .ref cNoSuch, .ref cTooMany] = some false
  fig : ∃ x t, mg "FIGURES" = some (.str x t) ∧ x = "0123456789"
variable {cLeastError cBeyond cNoBounds cNoRow cNoSuch cNoText cTooMany : Addr}
/-! ### texts of whole numbers, rows and papers -/
section
open PySem.NumText
def fg (n : Int) : List Nat := (Str.ofString (toString n)).cps.toList
def tx (n : Int) : Str := Str.ofString (toString n)
def mkS (l : List Nat) : Str := ⟨l.toArray⟩
theorem mkS_l (l : List Nat) : (mkS l).cps.toList = l := rfl
theorem mkS_of (x : Str) : mkS x.cps.toList = x := rfl
theorem mkS_len (l : List Nat) : (mkS l).length = l.length := by
  show l.toArray.size = _
  simp
theorem mkS_app (a b : List Nat) : mkS a ++ mkS b = mkS (a ++ b) := Str.ext' (by
  rw [Str.cps_append]
  show a.toArray ++ b.toArray = (a ++ b).toArray
  simp)
theorem str_eq {x y : Str} (h : x.cps.toList = y.cps.toList) : x = y := by
  rw [← mkS_of x, ← mkS_of y, h]
theorem fg_nat (m : Nat) : fg (m : Int) = (Nat.toDigits 10 m).map Char.toNat := PySem.W.KIN.signs_num m
theorem fg_neg (m : Nat) : fg (-((m + 1 : Nat) : Int)) = 45 :: fg ((m + 1 : Nat) : Int) := by
  rw [fg_nat]
  unfold fg
  rw [PyProof.Rows.signs_ofString]
  show ("-" ++ Nat.repr (m + 1)).toList.map Char.toNat = _
  rw [String.toList_append, List.map_append, Nat.toList_repr]
  rfl
theorem td_snoc {m : Nat} (h : ¬ m < 10) : Nat.toDigits 10 m = Nat.toDigits 10 (m / 10) ++ [Nat.digitChar (m % 10)] := by
  have hm : m % 10 < 10 := Nat.mod_lt m (by decide)
  have t : Nat.toDigits 10 (m / 10) ++ Nat.toDigits 10 (m % 10) = Nat.toDigits 10 (10 * (m / 10) + m % 10) := Nat.toDigits_append_toDigits (by decide) (by omega) hm
  rw [Nat.div_add_mod, Nat.toDigits_of_lt_base hm] at t
  exact t.symm
theorem dc_rng : ∀ d : Nat, d < 10 → 48 ≤ (Nat.digitChar d).toNat ∧ (Nat.digitChar d).toNat ≤ 57 := by decide
theorem dc_zero : ∀ d : Nat, d < 10 → (Nat.digitChar d).toNat = 48 → d = 0 := by decide
theorem fg_dig (m : Nat) : ∀ c ∈ fg (m : Int), 48 ≤ c ∧ c ≤ 57 := by
  rw [fg_nat]
  induction m using Nat.strongRecOn with
  | _ m ih =>
    by_cases h : m < 10
    · rw [Nat.toDigits_of_lt_base h]
      intro c hc
      have e : c = (Nat.digitChar m).toNat := by simpa using hc
      rw [e]
      exact dc_rng m h
    · rw [td_snoc h]
      intro c hc
      rw [List.map_append, List.mem_append] at hc
      rcases hc with hc | hc
      · exact ih (m / 10) (by omega) c hc
      · have e : c = (Nat.digitChar (m % 10)).toNat := by simpa using hc
        rw [e]
        exact dc_rng _ (Nat.mod_lt _ (by decide))
theorem fg_len (k : Nat) : ∀ m : Nat, m < 10 ^ (k + 1) → 1 ≤ (fg (m : Int)).length ∧ (fg (m : Int)).length ≤ k + 1 := by
  induction k with
  | zero =>
    intro m h
    rw [fg_nat, Nat.toDigits_of_lt_base (by simpa using h)]
    exact ⟨Nat.le_refl _, Nat.le_refl _⟩
  | succ k ih =>
    intro m h
    by_cases c : m < 10
    · rw [fg_nat, Nat.toDigits_of_lt_base c]
      exact ⟨Nat.le_refl _, by show 1 ≤ _; omega⟩
    · have hd : m / 10 < 10 ^ (k + 1) := by
        rw [Nat.pow_succ] at h
        exact Nat.div_lt_of_lt_mul (by rw [Nat.mul_comm]; exact h)
      have z := ih (m / 10) hd
      rw [fg_nat] at z ⊢
      rw [td_snoc c, List.map_append, List.length_append]
      show 1 ≤ _ + 1 ∧ _ + 1 ≤ _
      omega
theorem fg_head (m : Nat) : fg (m : Int) = [48] ∨ ∃ c r, fg (m : Int) = c :: r ∧ c ≠ 48 := by
  rw [fg_nat]
  induction m using Nat.strongRecOn with
  | _ m ih =>
    by_cases h : m < 10
    · rw [Nat.toDigits_of_lt_base h]
      by_cases z : m = 0
      · subst z
        exact .inl rfl
      · exact .inr ⟨_, [], rfl, fun e => z (dc_zero m h e)⟩
    · rw [td_snoc h, List.map_append]
      rcases ih (m / 10) (by omega) with e | ⟨c, r, e, hc⟩
      · exfalso
        have z : digitsVal ((Nat.toDigits 10 (m / 10)).map Char.toNat) = m / 10 := PySem.W.KIN.val_back (m / 10)
        rw [e] at z
        have z2 : (0 : Nat) = m / 10 := z
        omega
      · exact .inr ⟨c, r ++ _, by rw [e]; rfl, hc⟩
theorem fg_val (m : Nat) : digitsVal (fg (m : Int)) = m := by
  rw [fg_nat]
  exact PySem.W.KIN.val_back m
/-! what the program reads -/
def isD (c : Nat) : Bool := decide (c ∈ ("0123456789" : Str).cps.toList)
theorem isD_iff (c : Nat) : isD c = true ↔ 48 ≤ c ∧ c ≤ 57 := by
  unfold isD
  rw [decide_eq_true_iff, show ("0123456789" : Str).cps.toList = [48, 49, 50, 51, 52, 53, 54, 55, 56, 57] by decide +kernel]
  simp only [List.mem_cons, List.not_mem_nil, or_false]
  omega
def figB (l : List Nat) : Bool := decide (1 ≤ l.length) && decide (l.length ≤ 50) && !(decide (l.head? = some 48) && !decide (l = [48])) && l.all isD
def rdN : List Nat → Option Int
  | [] => none
  | c :: r => if c = 45 then (if figB r = true ∧ r ≠ [48] then some (-(digitsVal r : Int)) else none) else if figB (c :: r) = true then some (digitsVal (c :: r) : Int) else none
theorem rdN_cons (c : Nat) (r : List Nat) : rdN (c :: r) = if c = 45 then (if figB r = true ∧ r ≠ [48] then some (-(digitsVal r : Int)) else none) else if figB (c :: r) = true then some (digitsVal (c :: r) : Int) else none := rfl
theorem fig_all {l : List Nat} (h : figB l = true) : AllDigits l ∧ l ≠ [] ∧ l.length ≤ 50 := by
  unfold figB at h
  rw [Bool.and_eq_true, Bool.and_eq_true, Bool.and_eq_true, decide_eq_true_iff, decide_eq_true_iff, List.all_eq_true] at h
  obtain ⟨⟨⟨h1, h2⟩, _⟩, h3⟩ := h
  exact ⟨fun c hc => (isD_iff c).mp (h3 c hc), fun z => by rw [z] at h1; exact absurd h1 (by decide), h2⟩
theorem fig_fg {m : Nat} (h : m < 10 ^ 50) : figB (fg (m : Int)) = true := by
  have hl := fg_len 49 m h
  unfold figB
  rw [decide_eq_true hl.1, decide_eq_true hl.2, Bool.true_and, Bool.true_and, Bool.and_eq_true]
  refine ⟨?_, List.all_eq_true.mpr fun c hc => (isD_iff c).mpr (fg_dig m c hc)⟩
  rcases fg_head m with e | ⟨c, r, e, hc⟩
  · rw [e]
    decide
  · rw [e, decide_eq_false (show ¬ (c :: r).head? = some 48 from fun z => hc (Option.some.inj z))]
    rfl
theorem rd_nat {m : Nat} (h : m < 10 ^ 50) : rdN (fg (m : Int)) = some (m : Int) := by
  have hf := fig_fg h
  have hv := fg_val m
  have hd := fg_dig m
  cases e : fg (m : Int) with
  | nil => rw [e] at hf; cases hf
  | cons c r =>
    rw [e] at hf hv hd
    have hc : c ≠ 45 := by
      have := (hd c (List.mem_cons_self ..)).1
      omega
    rw [rdN_cons]
    rw [if_neg hc, if_pos hf, hv]
theorem rd_fg {n : Int} (h0 : -(10 ^ 50) < n) (h1 : n < 10 ^ 50) : rdN (fg n) = some n := by
  by_cases c : 0 ≤ n
  · obtain ⟨m, rfl⟩ := Int.eq_ofNat_of_zero_le c
    exact rd_nat (by omega)
  · obtain ⟨m, hm⟩ : ∃ m : Nat, n = -((m + 1 : Nat) : Int) := ⟨(-n - 1).toNat, by omega⟩
    subst hm
    rw [fg_neg]
    have hf := fig_fg (m := m + 1) (by omega)
    have hv := fg_val (m + 1)
    have hne : fg ((m + 1 : Nat) : Int) ≠ [48] := fun z => by
      rw [z] at hv
      have : (0 : Nat) = m + 1 := hv
      omega
    rw [rdN_cons]
    rw [if_pos rfl, if_pos ⟨hf, hne⟩, hv]
theorem rd_int {x : Str} {n : Int} (h : rdN x.cps.toList = some n) : PySem.intText? x = some n ∧ x.length ≤ 51 := by
  have hx : x.length = x.cps.toList.length := by simp [Str.length]
  cases e : x.cps.toList with
  | nil => rw [e] at h; cases h
  | cons c r =>
    rw [e] at h hx
    rw [rdN_cons] at h
    by_cases c45 : c = 45
    · subst c45
      rw [if_pos rfl] at h
      by_cases z : figB r = true ∧ r ≠ [48]
      · rw [if_pos z] at h
        obtain ⟨a, b, d⟩ := fig_all z.1
        have hl : x.length ≤ 51 := by rw [hx, List.length_cons]; omega
        exact ⟨(intText_neg e a b (by omega)).trans h, hl⟩
      · rw [if_neg z] at h; cases h
    · rw [if_neg c45] at h
      by_cases z : figB (c :: r) = true
      · rw [if_pos z] at h
        obtain ⟨a, b, d⟩ := fig_all z
        have hl : x.length ≤ 51 := by rw [hx]; omega
        refine ⟨(intText_digits (by rw [e]; exact a) (by rw [e]; exact b) (by omega)).trans ?_, hl⟩
        rw [e]
        exact h
      · rw [if_neg z] at h; cases h
/-! rows -/
def rdAll : List Str → Option (List Int)
  | [] => some []
  | x :: r => match rdN x.cps.toList, rdAll r with
    | some n, some ns => some (n :: ns)
    | _, _ => none
def rdR (x : Str) : Option (List Int) := if x = "" then some [] else rdAll (Txt.split x " ")
def rowT (ns : List Int) : Str := Txt.join " " (ns.map tx)
theorem fg_no32 {n : Int} : 32 ∉ fg n := by
  intro h
  by_cases c : 0 ≤ n
  · obtain ⟨m, rfl⟩ := Int.eq_ofNat_of_zero_le c
    have := fg_dig m 32 h
    omega
  · obtain ⟨m, hm⟩ : ∃ m : Nat, n = -((m + 1 : Nat) : Int) := ⟨(-n - 1).toNat, by omega⟩
    subst hm
    rw [fg_neg] at h
    rcases List.mem_cons.mp h with h | h
    · exact absurd h (by decide)
    · have := fg_dig (m + 1) 32 h
      omega
theorem join_cons (s x y : Str) (r : List Str) : (Str.join s (x :: y :: r)).cps.toList = x.cps.toList ++ (s.cps.toList ++ (Str.join s (y :: r)).cps.toList) := by
  rw [show Str.join s (x :: y :: r) = x ++ s ++ Str.join s (y :: r) from rfl, PyProof.Rows.cps_toList_append, PyProof.Rows.cps_toList_append, List.append_assoc]
theorem cut_free {c : Nat} : ∀ {a b u v : List Nat}, c ∉ a → c ∉ b → a ++ c :: u = b ++ c :: v → a = b ∧ u = v
  | [], [], u, v, _, _, h => ⟨rfl, (List.cons.inj h).2⟩
  | [], y :: b, u, v, _, hb, h => absurd (by rw [(List.cons.inj h).1]; exact List.mem_cons_self ..) hb
  | x :: a, [], u, v, ha, _, h => absurd (by rw [← (List.cons.inj h).1]; exact List.mem_cons_self ..) ha
  | x :: a, y :: b, u, v, ha, hb, h => by
    obtain ⟨h1, h2⟩ := List.cons.inj h
    obtain ⟨e1, e2⟩ := cut_free (fun z => ha (List.mem_cons_of_mem _ z)) (fun z => hb (List.mem_cons_of_mem _ z)) h2
    exact ⟨by rw [h1, e1], e2⟩
theorem join_uniq {c : Nat} : ∀ {xs ys : List Str}, xs ≠ [] → ys ≠ [] → (∀ p ∈ xs, c ∉ p.cps.toList) → (∀ p ∈ ys, c ∉ p.cps.toList) → (Str.join ⟨#[c]⟩ xs).cps.toList = (Str.join ⟨#[c]⟩ ys).cps.toList → xs = ys
  | [], _, h, _, _, _, _ => absurd rfl h
  | _, [], _, h, _, _, _ => absurd rfl h
  | [x], [y], _, _, _, _, h => by
    rw [str_eq (x := x) (y := y) h]
  | [x], y :: z :: r, _, _, hx, _, h => by
    rw [join_cons] at h
    exact absurd (show c ∈ x.cps.toList by
      have e : x.cps.toList = _ := h
      rw [e]
      simp) (hx x (List.mem_cons_self ..))
  | x :: z :: r, [y], _, _, _, hy, h => by
    rw [join_cons] at h
    exact absurd (show c ∈ y.cps.toList by
      have e : _ = y.cps.toList := h
      rw [← e]
      simp) (hy y (List.mem_cons_self ..))
  | x :: x2 :: r, y :: y2 :: q, _, _, hx, hy, h => by
    rw [join_cons, join_cons] at h
    obtain ⟨e1, e2⟩ := cut_free (hx x (List.mem_cons_self ..)) (hy y (List.mem_cons_self ..)) (show x.cps.toList ++ c :: _ = y.cps.toList ++ c :: _ from h)
    have ih := join_uniq (xs := x2 :: r) (ys := y2 :: q) (by simp) (by simp) (fun p hp => hx p (List.mem_cons_of_mem _ hp)) (fun p hp => hy p (List.mem_cons_of_mem _ hp)) e2
    rw [str_eq e1, ih]
theorem split_ne (x : Str) (c : Nat) : Txt.split x ⟨#[c]⟩ ≠ [] := by
  unfold Txt.split
  split
  · simp
  · split
    · simp
    · rw [StrLaws.partsBetween_eq]
      obtain ⟨p, r, e⟩ := StrLaws.partsFrom_ne x (⟨#[c]⟩ : Str).length 0 (Builtin.Str.occurrences x ⟨#[c]⟩ 0 x.length (x.length + 1))
      rw [e]
      simp
theorem split_join {c : Nat} {xs : List Str} (h : xs ≠ []) (hf : ∀ p ∈ xs, c ∉ p.cps.toList) : Txt.split (Str.join ⟨#[c]⟩ xs) ⟨#[c]⟩ = xs :=
  join_uniq (split_ne _ c) h (StrLaws.split_free _ c) hf (by rw [StrLaws.join_split])
theorem spc : (" " : Str) = ⟨#[32]⟩ := by decide +kernel
theorem rdAll_tx : ∀ {ns : List Int}, (∀ n ∈ ns, -(10 ^ 50) < n ∧ n < 10 ^ 50) → rdAll (ns.map tx) = some ns
  | [], _ => rfl
  | n :: ns, h => by
    have h1 := h n (List.mem_cons_self ..)
    have e : rdN (tx n).cps.toList = some n := rd_fg h1.1 h1.2
    have ih := rdAll_tx (ns := ns) fun m hm => h m (List.mem_cons_of_mem _ hm)
    show (match rdN (tx n).cps.toList, rdAll (ns.map tx) with | some n, some ns => some (n :: ns) | _, _ => none) = _
    rw [e, ih]
theorem rdR_row {ns : List Int} (h : ∀ n ∈ ns, -(10 ^ 50) < n ∧ n < 10 ^ 50) : rdR (rowT ns) = some ns := by
  unfold rdR
  cases ns with
  | nil => rw [if_pos (show rowT [] = "" by decide +kernel)]
  | cons n r =>
    have hj : rowT (n :: r) = Str.join ⟨#[32]⟩ ((n :: r).map tx) := by
      unfold rowT
      rw [spc]
      exact PySem.StrLaws.glued_eq_join _ _
    rw [if_neg, spc, hj, split_join (by simp) (fun p hp => by
      obtain ⟨m, _, rfl⟩ := List.mem_map.mp hp
      exact fg_no32), rdAll_tx h]
    intro z
    have e0 : (rowT (n :: r)).cps.toList = [] := by rw [z]; decide +kernel
    have hn := h n (List.mem_cons_self ..)
    have hr := rd_fg hn.1 hn.2
    have : fg n ≠ [] := fun y => by rw [y] at hr; cases hr
    rw [hj] at e0
    cases r with
    | nil => exact this e0
    | cons m r =>
      rw [List.map_cons, List.map_cons, join_cons] at e0
      exact this (List.append_eq_nil_iff.mp e0).1
end
/-! ### papers and their texts -/
inductive Pp where
  | all (n : Int)
  | split (n : Int) (l r : Pp)
def PpAt (H : Hp) : V → Pp → Prop
  | v, .all n => ∃ a, v = .ref a ∧ H a = some (.tup [.str "all", .int n])
  | v, .split n l r => ∃ a x y, v = .ref a ∧ H a = some (.tup [.str "split", .int n, x, y]) ∧ PpAt H x l ∧ PpAt H y r
theorem PpAt.tk {H H' : Hp} (k : TKeep H H') : ∀ {p : Pp} {v : V}, PpAt H v p → PpAt H' v p
  | .all _, _, ⟨a, e, h⟩ => ⟨a, e, (k _ _).1 h⟩
  | .split _ _ _, _, ⟨a, x, y, e, h, h1, h2⟩ => ⟨a, x, y, e, (k _ _).1 h, h1.tk k, h2.tk k⟩
theorem PpAt.same {H H' : Hp} (s : Same H H') {p : Pp} {v : V} (h : PpAt H v p) : PpAt H' v p := h.tk (TKeep.same s)
theorem PpAt.ref {H : Hp} : ∀ {p : Pp} {v : V}, PpAt H v p → ∃ a xs, v = .ref a ∧ H a = some (.tup xs)
  | .all _, _, ⟨a, e, h⟩ => ⟨a, _, e, h⟩
  | .split _ _ _, _, ⟨a, x, y, e, h, _⟩ => ⟨a, _, e, h⟩
def dep : Pp → Nat
  | .all _ => 0
  | .split _ l r => 1 + max (dep l) (dep r)
def nodes : Pp → Nat
  | .all _ => 1
  | .split _ l r => 1 + nodes l + nodes r
def okN (n : Int) : Prop := 0 ≤ n ∧ n < 10 ^ 50
def OkP : Pp → Prop
  | .all n => okN n
  | .split n l r => okN n ∧ OkP l ∧ OkP r
def ptL : Pp → List Nat
  | .all n => fg n
  | .split n l r => fg n ++ 40 :: (ptL l ++ 44 :: (ptL r ++ [41]))
theorem alk_pp {K : PySem.W.Frag} {H : Hp} : ∀ {p : Pp} {u v : V}, PpAt H u p → PpAt H v p → Alk K H (dep p + 1) u v
  | .all n, _, _, ⟨a, e, h⟩, ⟨b, e', h'⟩ => by
    subst e e'
    refine .tup (SqT.of h) (SqT.of h') rfl fun j x y h1 h2 => ?_
    match j, h1, h2 with
    | 0, h1, h2 => cases h1; cases h2; exact .flat rfl
    | 1, h1, h2 => cases h1; cases h2; exact .flat rfl
  | .split n l r, _, _, ⟨a, x, y, e, h, h1, h2⟩, ⟨b, x', y', e', h', h1', h2'⟩ => by
    subst e e'
    have i1 := alk_pp (K := K) h1 h1'
    have i2 := alk_pp (K := K) h2 h2'
    refine .tup (SqT.of h) (SqT.of h') rfl fun j u v z1 z2 => ?_
    have m1 : dep l + 1 ≤ dep (.split n l r) := by show _ ≤ 1 + max _ _; omega
    have m2 : dep r + 1 ≤ dep (.split n l r) := by show _ ≤ 1 + max _ _; omega
    match j, z1, z2 with
    | 0, z1, z2 => cases z1; cases z2; exact .flat rfl
    | 1, z1, z2 => cases z1; cases z2; exact .flat rfl
    | 2, z1, z2 => cases z1; cases z2; exact i1.up m1
    | 3, z1, z2 => cases z1; cases z2; exact i2.up m2
theorem ok_fg {n : Int} (h : okN n) : (∀ c ∈ fg n, isD c = true) ∧ rdN (fg n) = some n ∧ 1 ≤ (fg n).length ∧ (fg n).length ≤ 50 := by
  obtain ⟨m, rfl⟩ := Int.eq_ofNat_of_zero_le h.1
  have hm : m < 10 ^ 50 := by have := h.2; omega
  have hl := fg_len 49 m hm
  exact ⟨fun c hc => (isD_iff c).mpr (fg_dig m c hc), rd_nat hm, hl.1, hl.2⟩
theorem pt_pos : ∀ {p : Pp}, OkP p → nodes p ≤ (ptL p).length
  | .all n, h => (ok_fg h).2.2.1
  | .split n l r, h => by
    have h1 := pt_pos h.2.1
    have h2 := pt_pos h.2.2
    show 1 + nodes l + nodes r ≤ (fg n ++ 40 :: (ptL l ++ 44 :: (ptL r ++ [41]))).length
    simp only [List.length_append, List.length_cons, List.length_nil]
    omega
theorem nodes_pos : ∀ p : Pp, 1 ≤ nodes p
  | .all _ => Nat.le_refl _
  | .split _ l r => by show 1 ≤ 1 + nodes l + nodes r; omega
theorem pt_split (n : Int) (l r : Pp) : (ptL (.split n l r)).length = (fg n).length + (ptL l).length + (ptL r).length + 3 := by
  show (fg n ++ 40 :: (ptL l ++ 44 :: (ptL r ++ [41]))).length = _
  simp only [List.length_append, List.length_cons, List.length_nil]
  omega
/-! what the program reads: a paper at a text's beginning, e brackets deep at most -/
def prsP : Nat → List Nat → Option (Pp × List Nat)
  | e, l => match rdN (l.takeWhile isD) with
    | none => none
    | some n => if (l.dropWhile isD).head? ≠ some 40 then some (.all n, l.dropWhile isD) else match e with
      | 0 => none
      | e + 1 => match prsP e ((l.dropWhile isD).drop 1) with
        | none => none
        | some (a, r1) => if r1.head? ≠ some 44 then none else match prsP e (r1.drop 1) with
          | none => none
          | some (b, r2) => if r2.head? ≠ some 41 then none else some (.split n a b, r2.drop 1)
theorem prs_none {e : Nat} {l : List Nat} (h : rdN (l.takeWhile isD) = none) : prsP e l = none := by
  cases e <;> (unfold prsP; rw [h])
theorem prs_all {e : Nat} {l : List Nat} {n : Int} (h : rdN (l.takeWhile isD) = some n) (h1 : (l.dropWhile isD).head? ≠ some 40) : prsP e l = some (.all n, l.dropWhile isD) := by
  cases e <;> (unfold prsP; rw [h]; dsimp only; rw [if_pos h1])
theorem prs_zero {l : List Nat} {n : Int} (h : rdN (l.takeWhile isD) = some n) (h1 : (l.dropWhile isD).head? = some 40) : prsP 0 l = none := by
  unfold prsP
  rw [h]
  dsimp only
  rw [if_neg (fun z => z h1)]
theorem prs_succ {e : Nat} {l : List Nat} {n : Int} (h : rdN (l.takeWhile isD) = some n) (h1 : (l.dropWhile isD).head? = some 40) : prsP (e + 1) l = match prsP e ((l.dropWhile isD).drop 1) with
        | none => none
        | some (a, r1) => if r1.head? ≠ some 44 then none else match prsP e (r1.drop 1) with
          | none => none
          | some (b, r2) => if r2.head? ≠ some 41 then none else some (.split n a b, r2.drop 1) := by
  rw [prsP, h]
  dsimp only
  rw [if_neg (fun z => z h1)]
theorem drop_while (l : List Nat) : l.dropWhile isD = l.drop (l.takeWhile isD).length := by
  have e := List.takeWhile_append_dropWhile (p := isD) (l := l)
  calc l.dropWhile isD = (l.takeWhile isD ++ l.dropWhile isD).drop (l.takeWhile isD).length := by rw [List.drop_left]
    _ = _ := by rw [e]
theorem tw_app {a r : List Nat} (h : ∀ c ∈ a, isD c = true) (hr : ∀ c, r.head? = some c → isD c = false) : (a ++ r).takeWhile isD = a ∧ (a ++ r).dropWhile isD = r := by
  have z : r.takeWhile isD = [] ∧ r.dropWhile isD = r := by
    cases r with
    | nil => exact ⟨rfl, rfl⟩
    | cons c r =>
      have := hr c rfl
      exact ⟨by rw [List.takeWhile_cons, this]; rfl, by rw [List.dropWhile_cons, this]; rfl⟩
  rw [List.takeWhile_append_of_pos h, List.dropWhile_append_of_pos h, z.1, z.2, List.append_nil]
  exact ⟨rfl, rfl⟩
theorem prs_pt : ∀ {p : Pp} {e : Nat} {r : List Nat}, OkP p → dep p ≤ e → (∀ c, r.head? = some c → isD c = false ∧ c ≠ 40) → prsP e (ptL p ++ r) = some (p, r)
  | .all n, e, r, h, _, hr => by
    obtain ⟨h1, h2, _⟩ := ok_fg h
    obtain ⟨t1, t2⟩ := tw_app h1 (r := r) fun c hc => (hr c hc).1
    show prsP e (fg n ++ r) = _
    rw [prs_all (n := n) (by rw [t1]; exact h2) (by rw [t2]; exact fun z => (hr 40 z).2 rfl), t2]
  | .split n a b, 0, r, h, hd, hr => absurd hd (by show ¬ 1 + max _ _ ≤ 0; omega)
  | .split n a b, e + 1, r, h, hd, hr => by
    obtain ⟨h1, h2, _⟩ := ok_fg h.1
    have hd1 : dep a ≤ e ∧ dep b ≤ e := by
      have : 1 + max (dep a) (dep b) ≤ e + 1 := hd
      omega
    obtain ⟨t1, t2⟩ := tw_app h1 (r := 40 :: (ptL a ++ 44 :: (ptL b ++ 41 :: r))) fun c hc => by cases hc; rfl
    have e0 : ptL (.split n a b) ++ r = fg n ++ 40 :: (ptL a ++ 44 :: (ptL b ++ 41 :: r)) := by
      show (fg n ++ 40 :: (ptL a ++ 44 :: (ptL b ++ [41]))) ++ r = _
      simp
    rw [e0, prs_succ (n := n) (by rw [t1]; exact h2) (by rw [t2]; rfl), t2]
    show (match prsP e (ptL a ++ 44 :: (ptL b ++ 41 :: r)) with
        | none => none
        | some (a, r1) => if r1.head? ≠ some 44 then none else match prsP e (r1.drop 1) with
          | none => none
          | some (b, r2) => if r2.head? ≠ some 41 then none else some (Pp.split n a b, r2.drop 1)) = _
    rw [prs_pt h.2.1 hd1.1 (fun c hc => by cases hc; exact ⟨rfl, by decide⟩)]
    show (match prsP e (ptL b ++ 41 :: r) with
          | none => none
          | some (b, r2) => if r2.head? ≠ some 41 then none else some (Pp.split n a b, r2.drop 1)) = _
    rw [prs_pt h.2.2 hd1.2 (fun c hc => by cases hc; exact ⟨rfl, by decide⟩)]
    rfl
/-! ### the pen of the second kind: a cell, and how often it was mixed -/
def PenN (H : Hp) (pen : Addr) : Prop := ∃ c n : Int, H pen = some (.lst [.int c, .int n])
theorem PenN.same {H H' : Hp} {pen : Addr} (p : PenN H pen) (s : Same H H') : PenN H' pen := by
  obtain ⟨c, n, h⟩ := p
  exact ⟨c, n, s _ _ h⟩
theorem PenN.new {H : Hp} {pen q : Addr} (p : PenN H pen) (h : H q = none) (o : HO) : PenN (upd H q o) pen := p.same (same_new h o)
theorem PenN.at {H : Hp} {pen : Addr} (p : PenN H pen) : ∃ xs, H pen = some (.lst xs) := by
  obtain ⟨c, n, h⟩ := p
  exact ⟨_, h⟩
theorem PenN.ne {H : Hp} {pen b : Addr} {xs : List V} (p : PenN H pen) (h : H b = some (.tup xs)) : b ≠ pen := by
  obtain ⟨c, n, e⟩ := p
  exact ne_of h e (by intro z; cases z)
theorem PenN.fresh {H : Hp} {pen b : Addr} (p : PenN H pen) (h : H b = none) : b ≠ pen := by
  obtain ⟨c, n, e⟩ := p
  exact Ne.symm (ne_of_none e h)
theorem PenN.other {H : Hp} {pen q : Addr} (p : PenN H pen) (hq : q ≠ pen) (o : HO) : PenN (upd H q o) pen := by
  obtain ⟨c, n, e⟩ := p
  exact ⟨c, n, by rw [upd_ne (Ne.symm hq)]; exact e⟩
theorem PenN.tk {H H' : Hp} {pen : Addr} (p : PenN H pen) (k : Keep pen H H') : TKeep H H' := by
  obtain ⟨xs, e⟩ := p.at
  exact TKeep.keep k e
abbrev k__law_cell : Nat := 1
def sp__law_cell (K : PySem.W.Frag) : Sp := fun vs H Q _ => ∃ (a : Addr) (ns : List Int) (k : Int), vs = [.ref a, .int k] ∧ SqL K H a (ns.map V.int) ∧ ns.length ≤ 63 ∧ 0 ≤ k ∧ k < 1000000 ∧ ∀ n : Int, Q (.int n) H
abbrev k__law_pen : Nat := 1
def sp__law_pen (_ : PySem.W.Frag) : Sp := fun vs H Q _ => ∃ c : Int, vs = [.int c] ∧ ∀ p, H p = none → Q (.ref p) (upd H p (.lst [.int c, .int 0]))
abbrev k__law_take : Nat := 1
def sp__law_take (_ : PySem.W.Frag) : Sp := fun vs H Q _ => ∃ (pen : Addr) (size : Int), vs = [.ref pen, .int size] ∧ PenN H pen ∧ 0 < size ∧ size < 10 ^ 60 ∧
  ∀ (v : Int) (H' : Hp), Keep pen H H' → PenN H' pen → 0 ≤ v → v < size → Q (.int v) H'
section
variable {P : Program} {w : World} {K : PySem.W.Frag} {mg : Str → Option Value} {base : Heap}
theorem ok__law_cell (d : Def K mg "_law_cell" s__law_cell ["_law_script", "_law_k"]) (z : Bz K mg cLeastError cBeyond cNoBounds cNoRow cNoSuch cNoText cTooMany)  : Cal P w K mg base k__law_cell "_law_cell" ["_law_script", "_law_k"] (sp__law_cell K) := by
  have sc := sc__law_cell
  refine d.cal fun f fd F => F.ok sc (fun vs H Q E h => ?_) (fun cdv A outer s H vs Q E hr h => ?_)
  · obtain ⟨a, ns, k, rfl, _⟩ := h
    rfl
  obtain ⟨a, ns, k, rfl, hS, h63, h0, hk, q⟩ := h
  refine ⟨_, (pss_cons (ps_if (pt_cmpR op_lt (pv 1) (pe_callB call_len_seq (by rfl) z.len_ bt_len (pa_cons (pv 0) pa_nil)) (nomark _))
  (pss_one (ps_ret (pe_ix ix_list (pv 0) (pv 1) (fun _ _ => rfl))))
  pss_nil)
 (pss_cons (ps_set (i := 2) sc.nd rfl (Or.inl rfl) (pe_op op_add (pe_op op_mul (pv 1) pe_int) pe_int))
 (pss_cons (ps_if (pt_cmpR op_gt (pe_callB call_len_seq (by rfl) z.len_ bt_len (pa_cons (pv 0) pa_nil)) pe_int (nomark _))
  (pss_one (ps_set (i := 2) sc.nd rfl (Or.inl rfl) (pe_op op_add (pe_op op_mul (pe_op op_mod (pe_ix ix_list (pv 0) (pe_op op_mod (pe_op op_mul (pv 1) pe_int) (pe_callB call_len_seq (by rfl) z.len_ bt_len (pa_cons (pv 0) pa_nil))) (fun _ _ => rfl)) pe_int) pe_int) (pe_op op_mul (pv 1) pe_int))))
  pss_nil)
 (pss_one (ps_ret (pe_op op_mod (pe_op op_mul (pv 2) (pv 2)) pe_int)))))), ?_⟩
  have hl : (ns.map V.int).length = ns.length := List.length_map _
  refine ⟨_, rfl, _, rfl, a, _, rfl, .inl hS, _, _, rfl, rfl, _, rfl, ?_⟩
  refine ite2 (fun c => ?_) (fun c => ?_)
  · have c' : k < (((ns.map V.int).length : Nat) : Int) := of_decide_eq_true c
    rw [hl] at c'
    obtain ⟨v, _, hv⟩ := atI_ints h0 c'
    exact ⟨_, rfl, _, rfl, a, _, _, _, rfl, rfl, hS, hv, q v⟩
  · refine ⟨_, rfl, _, _, rfl, rfl, .inr ⟨by decide, by decide⟩, _, _, rfl, rfl, ?_⟩
    refine ⟨_, rfl, a, _, rfl, .inl hS, _, _, rfl, rfl, _, rfl, ?_⟩
    refine ite2 (fun c2 => ?_) (fun c2 => ?_)
    · have c2' : (0 : Int) < (((ns.map V.int).length : Nat) : Int) := of_decide_eq_true c2
      have m0 : 0 ≤ (k * 7) % (((ns.map V.int).length : Nat) : Int) := Int.emod_nonneg _ (by omega)
      have m1 : (k * 7) % (((ns.map V.int).length : Nat) : Int) < (((ns.map V.int).length : Nat) : Int) := Int.emod_lt_of_pos _ c2'
      obtain ⟨v, _, hv⟩ := atI_ints (l := ns) m0 (by rw [hl] at m1 ⊢; exact m1)
      have b0 : 0 ≤ v % 2147483647 := Int.emod_nonneg _ (by decide)
      have b1 : v % 2147483647 < 2147483647 := Int.emod_lt_of_pos _ (by decide)
      refine ⟨_, rfl, _, rfl, _, _, rfl, rfl, .inr ⟨by decide, by decide⟩, _, rfl, a, _, rfl, .inl hS, _, _, rfl, rfl, c2', a, _, _, _, rfl, rfl, hS, hv, _, _, rfl, rfl, (by show (0 : Int) < 2147483647; decide), _, _, rfl, rfl, .inr ⟨by decide, by decide⟩, _, rfl, _, _, rfl, rfl, .inr ⟨by decide, by decide⟩, _, _, rfl, rfl, ?_⟩
      exact ⟨_, rfl, _, rfl, _, _, rfl, rfl, .inl ⟨by omega, by omega⟩, _, _, rfl, rfl, (by show (0 : Int) < 2147483629; decide), q _⟩
    · exact ⟨_, rfl, _, rfl, _, _, rfl, rfl, .inl ⟨by omega, by omega⟩, _, _, rfl, rfl, (by show (0 : Int) < 2147483629; decide), q _⟩
theorem ok__law_pen (d : Def K mg "_law_pen" s__law_pen ["_law_cell_here"]) (z : Bz K mg cLeastError cBeyond cNoBounds cNoRow cNoSuch cNoText cTooMany)  : Cal P w K mg base k__law_pen "_law_pen" ["_law_cell_here"] (sp__law_pen K) := by
  have sc := sc__law_pen
  refine d.cal fun f fd F => F.ok sc (fun vs H Q E h => ?_) (fun cdv A outer s H vs Q E hr h => ?_)
  · obtain ⟨c, rfl, _⟩ := h
    rfl
  obtain ⟨c, rfl, q⟩ := h
  refine ⟨_, (pss_one (ps_ret (pe_lst (pa_cons (pv 0) (pa_cons pe_int pa_nil))))), ?_⟩
  exact ⟨_, rfl, szb rfl, q⟩
theorem ok__law_take (d : Def K mg "_law_take" s__law_take ["_law_pen_here", "_law_size"]) (z : Bz K mg cLeastError cBeyond cNoBounds cNoRow cNoSuch cNoText cTooMany)  : Cal P w K mg base k__law_take "_law_take" ["_law_pen_here", "_law_size"] (sp__law_take K) := by
  have sc := sc__law_take
  refine d.cal fun f fd F => F.ok sc (fun vs H Q E h => ?_) (fun cdv A outer s H vs Q E hr h => ?_)
  · obtain ⟨pen, size, rfl, _⟩ := h
    rfl
  obtain ⟨pen, size, rfl, ⟨c, n, hp⟩, s0, s1, q⟩ := h
  refine ⟨_, (pss_cons (ps_if (PW.pt (pw_or (pt_cmpR op_lt (pe_ix ix_list (pv 0) pe_int (fun _ _ => rfl)) pe_int (nomark _)) (pw_or1 (PW.pt (pw_and (pt_cmpR op_eq (pe_ix ix_list (pv 0) pe_int (fun _ _ => rfl)) pe_int (nomark _)) (pw_and1 (pt_cmpR op_ge (pe_ix ix_list (pv 0) pe_int (fun _ _ => rfl)) (pe_op op_pow pe_int pe_int) (nomark _))))))))
  (pss_cons (ps_asg (pe_un un_neg pe_int) (pg_sub (pv 0) pe_int set_list))
 (pss_cons (ps_set (i := 2) sc.nd rfl (Or.inl rfl) (pe_op op_mod (pe_ix ix_list (pv 0) pe_int (fun _ _ => rfl)) (pv 1)))
 (pss_cons (ps_asg (pe_op op_fdivB (pe_ix ix_list (pv 0) pe_int (fun _ _ => rfl)) (pv 1)) (pg_sub (pv 0) pe_int set_list))
 (pss_one (ps_ret (pv 2))))))
  pss_nil)
 (pss_cons (ps_asg (pe_op op_add (pe_ix ix_list (pv 0) pe_int (fun _ _ => rfl)) pe_int) (pg_sub (pv 0) pe_int set_list))
 (pss_cons (ps_set (i := 3) sc.nd rfl (Or.inl rfl) (pe_op op_mod (pe_op op_add (pe_op op_add (pe_op op_mod (pe_ix ix_list (pv 0) pe_int (fun _ _ => rfl)) pe_int) (pe_op op_mul pe_int (pe_ix ix_list (pv 0) pe_int (fun _ _ => rfl)))) pe_int) pe_int))
 (pss_cons (ps_set (i := 3) sc.nd rfl (Or.inl rfl) (pe_op op_mod (pe_op op_mul (pv 3) (pe_op op_add (pv 3) pe_int)) pe_int))
 (pss_one (ps_ret (pe_op op_mod (pe_op op_fdivB (pe_op op_mod (pe_op op_mul (pv 3) (pe_op op_add (pv 3) pe_int)) pe_int) pe_int) (pv 1)))))))), ?_⟩
  refine ⟨_, rfl, pen, _, _, _, rfl, rfl, SqL.of hp, rfl, _, _, rfl, rfl, _, rfl, ?_⟩
  refine ite2 (fun c1 => ?_) (fun c1 => ?_)
  · refine iteT ?_
    refine ⟨_, rfl, _, rfl, pen, _, _, 1, rfl, rfl, hp, rfl, ?_⟩
    refine ⟨_, rfl, pen, _, _, _, rfl, rfl, SqL.of upd_same, rfl, _, rfl, _, _, rfl, rfl, s0, ?_⟩
    refine ⟨_, rfl, pen, _, _, _, rfl, rfl, SqL.of upd_same, rfl, _, rfl, _, _, rfl, rfl, ⟨s0, s1⟩, _, rfl, pen, _, _, 0, rfl, rfl, upd_same, rfl, _, rfl, ?_⟩
    exact q _ _ ((Keep.set pen H _).trans (Keep.set pen _ _)) ⟨_, _, upd_same⟩ (Int.emod_nonneg _ (by omega)) (Int.emod_lt_of_pos _ s0)
  · refine ⟨_, rfl, pen, _, _, _, rfl, rfl, SqL.of hp, rfl, rfl, _, rfl, ?_⟩
    refine ite2 (fun c2 => ?_) (fun c2 => ?_)
    · refine ⟨_, rfl, pen, _, _, _, rfl, rfl, SqL.of hp, rfl, _, _, rfl, rfl, ⟨by decide, by decide, by decide⟩, _, _, rfl, rfl, _, rfl, ?_⟩
      refine ite2 (fun c3 => ?_) (fun c3 => ?_)
      ·
        refine ⟨_, rfl, _, rfl, pen, _, _, 1, rfl, rfl, hp, rfl, ?_⟩
        refine ⟨_, rfl, pen, _, _, _, rfl, rfl, SqL.of upd_same, rfl, _, rfl, _, _, rfl, rfl, s0, ?_⟩
        refine ⟨_, rfl, pen, _, _, _, rfl, rfl, SqL.of upd_same, rfl, _, rfl, _, _, rfl, rfl, ⟨s0, s1⟩, _, rfl, pen, _, _, 0, rfl, rfl, upd_same, rfl, _, rfl, ?_⟩
        exact q _ _ ((Keep.set pen H _).trans (Keep.set pen _ _)) ⟨_, _, upd_same⟩ (Int.emod_nonneg _ (by omega)) (Int.emod_lt_of_pos _ s0)
      ·
        refine ⟨_, rfl, pen, _, _, _, rfl, rfl, SqL.of hp, rfl, _, _, rfl, rfl, _, rfl, pen, _, _, 1, rfl, rfl, hp, rfl, ?_⟩
        refine ⟨_, rfl, pen, _, _, _, rfl, rfl, SqL.of upd_same, rfl, _, _, rfl, rfl, (by show (0 : Int) < 2147483647; decide), _, rfl, pen, _, _, _, rfl, rfl, SqL.of upd_same, rfl, _, _, rfl, rfl, .inl ⟨by decide, by decide⟩, _, _, rfl, rfl, _, _, rfl, rfl, _, _, rfl, rfl, (by show (0 : Int) < 2147483629; decide), ?_⟩
        generalize hx : ((c % 2147483647 + 40503 * (n + 1) + 11) % 2147483629) = x1
        have g0 : 0 ≤ x1 := by rw [← hx]; exact Int.emod_nonneg _ (by decide)
        have g1 : x1 < 2147483629 := by rw [← hx]; exact Int.emod_lt_of_pos _ (by decide)
        refine ⟨_, rfl, _, rfl, _, _, rfl, rfl, _, _, rfl, rfl, .inl ⟨by omega, by omega⟩, _, _, rfl, rfl, (by show (0 : Int) < 2147483587; decide), ?_⟩
        generalize hy : (x1 * (x1 + 48271) % 2147483587) = x2
        have d0 : 0 ≤ x2 := by rw [← hy]; exact Int.emod_nonneg _ (by decide)
        have d1 : x2 < 2147483587 := by rw [← hy]; exact Int.emod_lt_of_pos _ (by decide)
        refine ⟨_, rfl, _, rfl, _, _, rfl, rfl, _, _, rfl, rfl, .inl ⟨by omega, by omega⟩, _, _, rfl, rfl, (by show (0 : Int) < 2305843009213693951; decide), _, _, rfl, rfl, ⟨by decide, by decide⟩, _, rfl, _, _, rfl, rfl, s0, ?_⟩
        exact q _ _ (Keep.set pen H _) ⟨_, _, upd_same⟩ (Int.emod_nonneg _ (by omega)) (Int.emod_lt_of_pos _ s0)
    · refine iteF ?_
      refine ⟨_, rfl, pen, _, _, _, rfl, rfl, SqL.of hp, rfl, _, _, rfl, rfl, _, rfl, pen, _, _, 1, rfl, rfl, hp, rfl, ?_⟩
      refine ⟨_, rfl, pen, _, _, _, rfl, rfl, SqL.of upd_same, rfl, _, _, rfl, rfl, (by show (0 : Int) < 2147483647; decide), _, rfl, pen, _, _, _, rfl, rfl, SqL.of upd_same, rfl, _, _, rfl, rfl, .inl ⟨by decide, by decide⟩, _, _, rfl, rfl, _, _, rfl, rfl, _, _, rfl, rfl, (by show (0 : Int) < 2147483629; decide), ?_⟩
      generalize hx : ((c % 2147483647 + 40503 * (n + 1) + 11) % 2147483629) = x1
      have g0 : 0 ≤ x1 := by rw [← hx]; exact Int.emod_nonneg _ (by decide)
      have g1 : x1 < 2147483629 := by rw [← hx]; exact Int.emod_lt_of_pos _ (by decide)
      refine ⟨_, rfl, _, rfl, _, _, rfl, rfl, _, _, rfl, rfl, .inl ⟨by omega, by omega⟩, _, _, rfl, rfl, (by show (0 : Int) < 2147483587; decide), ?_⟩
      generalize hy : (x1 * (x1 + 48271) % 2147483587) = x2
      have d0 : 0 ≤ x2 := by rw [← hy]; exact Int.emod_nonneg _ (by decide)
      have d1 : x2 < 2147483587 := by rw [← hy]; exact Int.emod_lt_of_pos _ (by decide)
      refine ⟨_, rfl, _, rfl, _, _, rfl, rfl, _, _, rfl, rfl, .inl ⟨by omega, by omega⟩, _, _, rfl, rfl, (by show (0 : Int) < 2305843009213693951; decide), _, _, rfl, rfl, ⟨by decide, by decide⟩, _, rfl, _, _, rfl, rfl, s0, ?_⟩
      exact q _ _ (Keep.set pen H _) ⟨_, _, upd_same⟩ (Int.emod_nonneg _ (by omega)) (Int.emod_lt_of_pos _ s0)
end
/-! ### numbers and rows, written and read -/
theorem lg60 {n : Int} (h0 : -(10 ^ 60) < n) (h1 : n < 10 ^ 60) : n.natAbs.log2 < 1920 := by
  by_cases h : n.natAbs = 0
  · rw [h]; decide
  · have h2 : n.natAbs < 2 ^ 200 := Nat.lt_of_lt_of_le (show n.natAbs < 10 ^ 60 by omega) (by decide)
    have : n.natAbs.log2 < 200 := (Nat.log2_lt h).mpr h2
    omega
theorem tx_len {n : Int} (h0 : -(10 ^ 50) < n) (h1 : n < 10 ^ 50) : (tx n).length ≤ 51 := (rd_int (x := tx n) (rd_fg h0 h1)).2
theorem sl51 {n : Nat} (h : n ≤ 100000) : n ≤ sizeLine := Nat.le_trans h (by decide)
def BdN (ns : List Int) : Prop := ∀ n ∈ ns, -(10 ^ 50) < n ∧ n < 10 ^ 50
theorem starts_eq {x : Str} {c : Nat} {r : List Nat} (h : x.cps.toList = c :: r) : Txt.startswith x "-" = decide (c = 45) := by
  have hx : x.length = x.cps.toList.length := by simp [Str.length]
  show (decide (0 + ("-" : Str).length ≤ x.length) && Builtin.Str.subAt x "-" 0) = _
  rw [StrLaws.subAt_eq, h, hx, h, show ("-" : Str).cps.toList = [45] by decide +kernel, show ("-" : Str).length = 1 by decide +kernel]
  have e1 : decide (0 + 1 ≤ (c :: r).length) = true := decide_eq_true (by rw [List.length_cons]; omega)
  rw [e1, Bool.true_and]
  show ([c] == [45]) = _
  by_cases z : c = 45
  · subst z; rfl
  · rw [decide_eq_false z]
    exact beq_eq_false_iff_ne.mpr fun y => z (List.cons.inj y).1
theorem starts45 {x : Str} {r : List Nat} (h : x.cps.toList = 45 :: r) : Txt.startswith x "-" = true := by
  rw [starts_eq h]
  rfl
theorem starts_not {x : Str} {c : Nat} {r : List Nat} (h : x.cps.toList = c :: r) (hc : c ≠ 45) : Txt.startswith x "-" = false := by
  rw [starts_eq h, decide_eq_false hc]
theorem slice1 {x : Str} {c : Nat} {r : List Nat} (h : x.cps.toList = c :: r) : Txt.slice x (some 1) none = mkS r := by
  have e := StrLaws.sliceText_from (x := x) (i := 1) (by rw [h, List.length_cons]; omega)
  refine Eq.trans (show Txt.slice x (some 1) none = _ from e) ?_
  rw [h]
  show (⟨((r).take (((c :: r).length : Int) - 1).toNat).toArray⟩ : Str) = mkS r
  rw [List.take_of_length_le (by rw [List.length_cons]; omega)]
  rfl
abbrev k_are_figures : Nat := 1
def sp_are_figures (_ : PySem.W.Frag) : Sp := fun vs H Q _ => ∃ x : Str, vs = [.str x] ∧ x.length ≤ 100000 ∧ ∀ H', Same H H' → Q (.bl (figB x.cps.toList)) H'
section
variable {P : Program} {w : World} {K : PySem.W.Frag} {mg : Str → Option Value} {base : Heap}
theorem ok_are_figures (d : Def K mg "are_figures" s_are_figures ["text"]) (z : Bz K mg cLeastError cBeyond cNoBounds cNoRow cNoSuch cNoText cTooMany)  : Cal P w K mg base k_are_figures "are_figures" ["text"] (sp_are_figures K) := by
  have sc := sc_are_figures
  refine d.cal fun f fd F => F.ok sc (fun vs H Q E h => ?_) (fun cdv A outer s H vs Q E hr h => ?_)
  · obtain ⟨x, rfl, _⟩ := h
    rfl
  obtain ⟨x, rfl, hl, q⟩ := h
  obtain ⟨_, ft, hft, rfl⟩ := z.fig
  refine ⟨_, (pss_cons (ps_if (PW.pt (pw_or (pt_not (pt_chain op_le op_le pe_int (pe_callB call_len_str (by rfl) z.len_ bt_len (pa_cons (pv 0) pa_nil)) pe_int)) (pw_or1 (PW.pt (pw_and (pt_cmpR op_eq (pe_ix ix_str (pv 0) pe_int (fun _ _ => rfl)) pe_str (nomark _)) (pw_and1 (pt_cmpR op_ne (pv 0) pe_str (nomark _))))))))
  (pss_one (ps_ret pe_bl))
  pss_nil)
 (pss_one (ps_ret (pe_callB (call_all rfl) (by rfl) z.all_ bt_all (pa_cons (pe_comp (cl := []) (cn := []) (N := []) (fr := []) (sc0 := defScope s_are_figures) rfl (pi_str (pv 0)) (fun C s₂ H₂ fp => (pe_cmpR op_in_str (pv 0) (pe_glob (v := .str "0123456789") (u := .str "0123456789" ft) (by rfl) hft ⟨_, rfl⟩) rfl)) (by with_unfolding_all rfl) trivial rfl rfl rfl ⟨by decide +kernel, by decide +kernel, by decide +kernel, by decide +kernel, by decide +kernel, by decide +kernel, by decide +kernel⟩ rfl) pa_nil))))), ?_⟩
  have hz : x.length ≤ sizeLine := sl51 hl
  have hx : x.length = x.cps.toList.length := by simp [Str.length]
  have fin : (1 ≤ x.cps.toList.length ∧ x.cps.toList.length ≤ 50) → (!(decide (x.cps.toList.head? = some 48) && !decide (x.cps.toList = [48]))) = true → ∀ D, H D = none → Q (.bl (((x.cps.toList.map isD).all id))) (upd H D (.lst (x.cps.toList.map fun c => V.bl (isD c)))) := fun h1 h2 D hD => by
    have e : figB x.cps.toList = (x.cps.toList.map isD).all id := by
      unfold figB
      rw [decide_eq_true h1.1, decide_eq_true h1.2, h2, List.all_map]
      rfl
    rw [← e]
    exact q _ (same_new hD _)
  have no : ∀ b : Bool, figB x.cps.toList = b → Q (.bl b) H := fun b e => by rw [← e]; exact q H (Same.refl H)
  refine ⟨_, rfl, x, rfl, hz, _, _, rfl, rfl, _, rfl, ?_⟩
  rw [hx]
  by_cases c1 : 1 ≤ x.cps.toList.length
  · rw [decide_eq_true (show (1 : Int) ≤ (x.cps.toList.length : Int) by omega)]
    refine iteT ⟨_, _, rfl, rfl, _, rfl, ?_⟩
    by_cases c2 : x.cps.toList.length ≤ 50
    · rw [decide_eq_true (show (x.cps.toList.length : Int) ≤ 50 by omega)]
      refine iteF ?_
      cases e : x.cps.toList with
      | nil => rw [e] at c1; exact absurd c1 (by decide)
      | cons c r =>
        refine ⟨_, rfl, x, 0, c, rfl, rfl, hz, by rw [e]; exact atI_nat (j := 0) rfl, rfl, _, rfl, ?_⟩
        by_cases c3 : c = 48
        · subst c3
          rw [decide_eq_true (show V.str ⟨#[48]⟩ = V.str "0" from congrArg V.str (by decide +kernel))]
          refine iteT ⟨_, rfl, rfl, _, rfl, ?_⟩
          by_cases c4 : r = []
          · subst c4
            rw [decide_eq_true (show V.str x = V.str "0" from congrArg V.str (str_eq (by rw [e]; decide +kernel)))]
            refine iteF ?_
            exact ⟨_, rfl, x, rfl, fun D hD => comp_str (x := x) (g := fun c => V.bl (isD c)) hD hz (fun c hc H1 Q1 s1 q1 => ⟨_, rfl, ⟨#[c]⟩, "0123456789", rfl, rfl, by rw [StrLaws.found_one]; exact q1⟩)
      ⟨D, x.cps.toList.map isD, rfl, SqL.of (by rw [List.map_map]; exact upd_same), fin ⟨c1, c2⟩ (by rw [e]; decide) D hD⟩⟩
          · rw [decide_eq_false (show ¬ V.str x = V.str "0" from fun z => c4 (by
              have z1 : x.cps.toList = [48] := by rw [V.str.inj z]; decide +kernel
              rw [e] at z1
              exact (List.cons.inj z1).2))]
            refine iteT ?_
            refine no _ ?_
            unfold figB
            rw [e, decide_eq_false (show ¬ 48 :: r = [48] from fun z => c4 (List.cons.inj z).2)]
            simp
        · rw [decide_eq_false (show ¬ V.str ⟨#[c]⟩ = V.str "0" from fun z => c3 (by
            have z1 : [c] = [48] := by
              have z2 := congrArg (fun y : Str => y.cps.toList) (V.str.inj z)
              rw [show ("0" : Str).cps.toList = [48] by decide +kernel] at z2
              exact z2
            exact (List.cons.inj z1).1))]
          refine iteF ?_
          refine iteF ?_
          exact ⟨_, rfl, x, rfl, fun D hD => comp_str (x := x) (g := fun c => V.bl (isD c)) hD hz (fun c hc H1 Q1 s1 q1 => ⟨_, rfl, ⟨#[c]⟩, "0123456789", rfl, rfl, by rw [StrLaws.found_one]; exact q1⟩)
      ⟨D, x.cps.toList.map isD, rfl, SqL.of (by rw [List.map_map]; exact upd_same), fin ⟨c1, c2⟩ (by rw [e, decide_eq_false (show ¬ (c :: r).head? = some 48 from fun z => c3 (Option.some.inj z))]; rfl) D hD⟩⟩
    · rw [decide_eq_false (show ¬ (x.cps.toList.length : Int) ≤ 50 by omega)]
      refine iteT ?_
      refine no _ ?_
      unfold figB
      rw [decide_eq_false c2]
      simp
  · rw [decide_eq_false (show ¬ (1 : Int) ≤ (x.cps.toList.length : Int) by omega)]
    refine iteF ⟨_, rfl, ?_⟩
    refine iteT ?_
    refine no _ ?_
    unfold figB
    rw [decide_eq_false c1]
    rfl
end
theorem own2 {H H' : Hp} {r : Addr} {o : HO} (k : Same H H') (hr : H r = none) : Same H (upd H' r o) := fun c u z => by
  rw [upd_ne (ne_of_none z hr)]
  exact k c u z
/-! ### rows read; places in a text -/
theorem len_l (x : Str) : x.length = x.cps.toList.length := by simp [Str.length]
theorem slice_ss {x : Str} {a b : Nat} (hab : a ≤ b) (hb : b ≤ x.cps.toList.length) : Txt.slice x (some (a : Int)) (some (b : Int)) = mkS ((x.cps.toList.drop a).take (b - a)) := by
  exact StrLaws.sliceText_nat x hab (by rw [len_l]; exact hb)
theorem slice_1 {x : Str} {a : Nat} (ha : a ≤ x.cps.toList.length) : Txt.slice x (some (a : Int)) (some ((a : Int) + 1)) = mkS ((x.cps.toList.drop a).take 1) := by
  by_cases c : a + 1 ≤ x.cps.toList.length
  · have e := slice_ss (x := x) (a := a) (b := a + 1) (by omega) c
    rw [show a + 1 - a = 1 by omega] at e
    exact e
  · have ea : a = x.length := by rw [len_l]; omega
    have e1 : ∀ u : Option Int, Txt.slice x (some (a : Int)) u = StrLaws.sliceText x (some (a : Int)) u := fun u => rfl
    have e2 : StrLaws.sliceText x (some (a : Int)) (some ((a : Int) + 1)) = StrLaws.sliceText x (some (a : Int)) (some (a : Int)) := by
      unfold StrLaws.sliceText
      rw [show Builtin.Str.strSliceIndices (some (a : Int)) (some ((a : Int) + 1)) 1 x.length = Builtin.Str.strSliceIndices (some (a : Int)) (some (a : Int)) 1 x.length by
        rw [ea]
        have h1 : ¬ ((x.length : Int) + 1 < 0) := by omega
        have h2 : ¬ ((x.length : Int) < 0) := by omega
        have h3 : max (0 : Int) (min ((x.length : Int) + 1) (x.length : Int)) = max (0 : Int) (min (x.length : Int) (x.length : Int)) := by omega
        simp only [Builtin.Str.strSliceIndices, h1, h2, h3, if_false, if_pos (show (1 : Int) > 0 by decide)]]
    rw [e1, e2, StrLaws.sliceText_nat x (Nat.le_refl a) (by omega)]
    rw [List.drop_of_length_le (by omega), List.take_nil, List.take_nil]
    rfl
theorem parts_len (x : Str) (w : Nat) : ∀ (cuts : List Nat) (a : Nat), (StrLaws.partsFrom x w a cuts).length = cuts.length + 1
  | [], a => rfl
  | c :: cs, a => by
    show (_ :: StrLaws.partsFrom x w _ cs).length = _
    rw [List.length_cons, parts_len x w cs, List.length_cons]
theorem cuts_len (x y : Str) : (Builtin.Str.partsBetween x (Builtin.Str.occurrences x y 0 x.length (x.length + 1)) y.length).length ≤ x.length + 2 := by
  rw [StrLaws.partsBetween_eq, parts_len]
  have := StrLaws.occ_length_le x y 0 x.length (x.length + 1)
  omega
theorem split_len (x y : Str) : (Txt.split x y).length ≤ x.length + 2 := by
  unfold Txt.split
  split
  · show 1 ≤ _; omega
  · split
    · show 1 ≤ _; omega
    · exact cuts_len x y
/-! ### papers written and read -/
theorem tw_at : ∀ {m : List Nat} {j : Nat}, j < (m.takeWhile isD).length → ∃ c, m[j]? = some c ∧ isD c = true
  | [], j, h => absurd h (by simp)
  | c :: r, j, h => by
    cases hc : isD c with
    | false => rw [List.takeWhile_cons, hc] at h; exact absurd h (by simp)
    | true =>
      rw [List.takeWhile_cons, hc] at h
      cases j with
      | zero => exact ⟨c, rfl, hc⟩
      | succ j => exact tw_at (m := r) (j := j) (by simpa using h)
theorem tw_end : ∀ {m : List Nat} {c : Nat}, m[(m.takeWhile isD).length]? = some c → isD c = false
  | [], c, h => by simp at h
  | d :: r, c, h => by
    cases hc : isD d with
    | false =>
      rw [List.takeWhile_cons, hc] at h
      have e : d = c := by simpa using h
      rw [← e]
      exact hc
    | true =>
      rw [List.takeWhile_cons, hc] at h
      exact tw_end (m := r) (by simpa using h)
theorem tw_take (m : List Nat) : m.take (m.takeWhile isD).length = m.takeWhile isD := by
  have e := List.takeWhile_append_dropWhile (p := isD) (l := m)
  calc m.take (m.takeWhile isD).length = (m.takeWhile isD ++ m.dropWhile isD).take (m.takeWhile isD).length := by rw [e]
    _ = _ := List.take_left
theorem tw_len (m : List Nat) : (m.takeWhile isD).length ≤ m.length := List.Sublist.length_le (List.takeWhile_sublist _)
theorem head_take {m : List Nat} {c : Nat} (h : m.head? = some c) : m.take 1 = [c] := by
  cases m with
  | nil => cases h
  | cons d r => cases h; rfl
theorem prs_case {e : Nat} {l rest : List Nat} {p : Pp} (h : prsP e l = some (p, rest)) : ∃ n, rdN (l.takeWhile isD) = some n ∧
    (((l.dropWhile isD).head? ≠ some 40 ∧ p = .all n ∧ rest = l.dropWhile isD) ∨
      ∃ (e' : Nat) (a b : Pp) (r1 r2 : List Nat), (l.dropWhile isD).head? = some 40 ∧ e = e' + 1 ∧ prsP e' ((l.dropWhile isD).drop 1) = some (a, r1) ∧ r1.head? = some 44 ∧ prsP e' (r1.drop 1) = some (b, r2) ∧ r2.head? = some 41 ∧ p = .split n a b ∧ rest = r2.drop 1) := by
  cases h1 : rdN (l.takeWhile isD) with
  | none => rw [prs_none h1] at h; cases h
  | some n =>
    refine ⟨n, rfl, ?_⟩
    by_cases h2 : (l.dropWhile isD).head? = some 40
    · cases e with
      | zero => rw [prs_zero h1 h2] at h; cases h
      | succ e =>
        rw [prs_succ h1 h2] at h
        cases h3 : prsP e ((l.dropWhile isD).drop 1) with
        | none => rw [h3] at h; cases h
        | some q =>
          obtain ⟨a, r1⟩ := q
          rw [h3] at h
          dsimp only at h
          by_cases h4 : r1.head? = some 44
          · rw [if_neg (fun z => z h4)] at h
            cases h5 : prsP e (r1.drop 1) with
            | none => rw [h5] at h; cases h
            | some q2 =>
              obtain ⟨b, r2⟩ := q2
              rw [h5] at h
              dsimp only at h
              by_cases h6 : r2.head? = some 41
              · rw [if_neg (fun z => z h6)] at h
                cases h
                exact .inr ⟨e, a, b, r1, r2, h2, rfl, h3, h4, h5, h6, rfl, rfl⟩
              · rw [if_pos h6] at h; cases h
          · rw [if_pos h4] at h; cases h
    · rw [prs_all h1 h2] at h
      cases h
      exact .inl ⟨h2, rfl, rfl⟩
theorem while_x {c : TT} {tb : TS} {D : Ends} {σ : St} {H : Hp} (X : St → Hp → Prop) (hx : ∀ σ H, X σ H → D.nx σ H) (h : (∀ σ H, X σ H → D.nx σ H) → tWhile c tb D σ H) : tWhile c tb D σ H := h hx
/-! ### numbers, rows and papers read, or refused -/
def NoStr (K : PySem.W.Frag) (H : Hp) (v : V) : Prop := ∃ t, TyOf K H v t ∧ PySem.W.kitOne K t (.type "str") = some false
abbrev k_read_number : Nat := 2
def sp_read_number (_ : PySem.W.Frag) : Sp := fun vs H Q _ => ∃ (x : Str) (n : Int), vs = [.str x] ∧ rdN x.cps.toList = some n ∧ ∀ H', Same H H' → Q (.int n) H'
def sp1_read_number (K : PySem.W.Frag) (cN : Addr) : Sp := fun vs H Q E => (∃ v, vs = [v] ∧ NoStr K H v ∧ E (.ref cN) none H) ∨
  ∃ x : Str, vs = [.str x] ∧ x.length ≤ 90000 ∧ ∀ H', Same H H' → (∀ n, rdN x.cps.toList = some n → Q (.int n) H') ∧ (rdN x.cps.toList = none → E (.ref cN) none H')
section
variable {P : Program} {w : World} {K : PySem.W.Frag} {mg : Str → Option Value} {base : Heap}
theorem okx_read_number (d : Def K mg "read_number" s_read_number ["text"]) (z : Bz K mg cLeastError cBeyond cNoBounds cNoRow cNoSuch cNoText cTooMany) (c_are_figures : Cal P w K mg base k_are_figures "are_figures" ["text"] (sp_are_figures K)) : CalX P w K mg base k_read_number "read_number" ["text"] (sp1_read_number K cNoText) := by
  have sc := sc_read_number
  refine d.calx fun f fd F => F.okx sc (fun vs H Q E h => ?_) (fun cdv A outer s H vs Q E hr h => ?_)
  · rcases h with ⟨v, rfl, _⟩ | ⟨x, rfl, _⟩ <;> rfl
  rcases h with ⟨v, rfl, ⟨t, ty, kt⟩, q⟩ | ⟨x, rfl, hl, q⟩
  · refine ⟨_, (pss_cons (ps_if (pt_not (pt_val (pe_callB call_isi (by rfl) z.isinstance_ bt_isinstance (pa_cons (pv 0) (pa_cons (pe_bltn (v := .ty "str") (u := .type "str") (by rfl) z.str_ bt_str rfl) pa_nil)))))
  (pss_one (ps_raiseK lv_of z.m_NoText z.own_NoText (by rfl) (pa_cons pe_str pa_nil)))
  pss_nil)
 (pss_cons (ps_set (i := 1) sc.nd rfl (Or.inl rfl) (pe_ifExp (pt_val (pe_bm PySem.F.plainAttrs_str PySem.F.slot_str_startswith PySem.F.type_str_startswith mt_starts (pv 0) (pa_cons pe_str pa_nil))) (pe_slice sl_str (pv 0) (po_some pe_int) po_none) (pv 0)))
 (pss_cons (ps_if (PW.pt (pw_or (pt_cmpR op_eq (pv 0) pe_str (nomark _)) (pw_or1 (pt_not (pt_val (pe_fn c_are_figures (hr.mono (by decide)) (by rfl) (pa_cons (pv 1) pa_nil)))))))
  (pss_one (ps_raiseK lv_of z.m_NoText z.own_NoText (by rfl) (pa_cons pe_str pa_nil)))
  pss_nil)
 (pss_one (ps_ret (pe_callTy call_intT (by rfl) z.int_ bt_int (pa_cons (pv 0) pa_nil))))))), ?_⟩
    exact ⟨_, rfl, _, _, t, _, rfl, ty, kt, false, rfl, iteT ⟨szb rfl, q⟩⟩
  refine ⟨_, (pss_cons (ps_if (pt_not (pt_val (pe_callB call_isi (by rfl) z.isinstance_ bt_isinstance (pa_cons (pv 0) (pa_cons (pe_bltn (v := .ty "str") (u := .type "str") (by rfl) z.str_ bt_str rfl) pa_nil)))))
  (pss_one (ps_raiseK lv_of z.m_NoText z.own_NoText (by rfl) (pa_cons pe_str pa_nil)))
  pss_nil)
 (pss_cons (ps_set (i := 1) sc.nd rfl (Or.inl rfl) (pe_ifExp (pt_val (pe_bm PySem.F.plainAttrs_str PySem.F.slot_str_startswith PySem.F.type_str_startswith mt_starts (pv 0) (pa_cons pe_str pa_nil))) (pe_slice sl_str (pv 0) (po_some pe_int) po_none) (pv 0)))
 (pss_cons (ps_if (PW.pt (pw_or (pt_cmpR op_eq (pv 0) pe_str (nomark _)) (pw_or1 (pt_not (pt_val (pe_fn c_are_figures (hr.mono (by decide)) (by rfl) (pa_cons (pv 1) pa_nil)))))))
  (pss_one (ps_raiseK lv_of z.m_NoText z.own_NoText (by rfl) (pa_cons pe_str pa_nil)))
  pss_nil)
 (pss_one (ps_ret (pe_callTy call_intT (by rfl) z.int_ bt_int (pa_cons (pv 0) pa_nil))))))), ?_⟩
  have hz : x.length ≤ sizeLine := sl51 (by omega)
  have hxl := len_l x
  have m0 : ("-0" : Str).cps.toList = [45, 48] := by decide +kernel
  refine ⟨_, rfl, _, _, _, _, rfl, .str _, kit_str_str, true, rfl, ?_⟩
  refine iteF ?_
  refine ⟨_, rfl, rfl, x, "-", rfl, rfl, _, rfl, ?_⟩
  cases e : x.cps.toList with
  | nil =>
    have hst : Txt.startswith x "-" = false := by
      show (decide (0 + ("-" : Str).length ≤ x.length) && _) = false
      rw [hxl, e, show ("-" : Str).length = 1 by decide +kernel]
      rfl
    rw [hst]
    refine iteF ⟨_, rfl, ?_⟩
    refine ⟨_, rfl, rfl, _, rfl, ?_⟩
    rw [decide_eq_false (show ¬ V.str x = V.str "-0" from fun z => by
      have z1 : x.cps.toList = [45, 48] := by rw [V.str.inj z]; exact m0
      rw [e] at z1
      cases z1)]
    refine iteF ⟨_, rfl, x, rfl, by omega, fun H1 s1 => ⟨_, rfl, ?_⟩⟩
    rw [e]
    exact iteT ⟨szb rfl, (q H1 s1).2 (by rw [e]; rfl)⟩
  | cons c r =>
    have hr : r.length ≤ 90000 := by rw [e, List.length_cons] at hxl; omega
    by_cases c1 : c = 45
    · subst c1
      rw [starts45 e]
      refine iteT ⟨_, rfl, _, rfl, x, rfl, hz, ?_⟩
      rw [slice1 e]
      refine ⟨_, rfl, rfl, _, rfl, ?_⟩
      by_cases c2 : r = [48]
      · rw [decide_eq_true (show V.str x = V.str "-0" from congrArg V.str (str_eq (by rw [e, c2, m0])))]
        exact iteT (iteT ⟨szb rfl, (q H (Same.refl H)).2 (by rw [e, rdN_cons, if_pos rfl, if_neg (fun z => z.2 c2)])⟩)
      · rw [decide_eq_false (show ¬ V.str x = V.str "-0" from fun z => c2 (by
          have z1 : x.cps.toList = [45, 48] := by rw [V.str.inj z]; exact m0
          rw [e] at z1
          exact (List.cons.inj z1).2))]
        refine iteF ⟨_, rfl, mkS r, rfl, by rw [mkS_len]; omega, fun H1 s1 => ⟨_, rfl, ?_⟩⟩
        rw [mkS_l]
        cases hf : figB r with
        | false => exact iteT ⟨szb rfl, (q H1 s1).2 (by rw [e, rdN_cons, if_pos rfl, if_neg (fun z => by rw [hf] at z; cases z.1)])⟩
        | true =>
          have hn : rdN x.cps.toList = some (-(PySem.NumText.digitsVal r : Int)) := by rw [e, rdN_cons, if_pos rfl, if_pos ⟨hf, c2⟩]
          obtain ⟨hi, hi2⟩ := rd_int hn
          exact iteF ⟨_, rfl, x, _, rfl, by omega, hi, (q H1 s1).1 _ hn⟩
    · rw [starts_not e c1]
      refine iteF ⟨_, rfl, ?_⟩
      refine ⟨_, rfl, rfl, _, rfl, ?_⟩
      rw [decide_eq_false (show ¬ V.str x = V.str "-0" from fun z => c1 (by
        have z1 : x.cps.toList = [45, 48] := by rw [V.str.inj z]; exact m0
        rw [e] at z1
        exact (List.cons.inj z1).1))]
      refine iteF ⟨_, rfl, x, rfl, by omega, fun H1 s1 => ⟨_, rfl, ?_⟩⟩
      rw [e]
      cases hf : figB (c :: r) with
      | false => exact iteT ⟨szb rfl, (q H1 s1).2 (by rw [e, rdN_cons, if_neg c1, if_neg (fun z => by rw [hf] at z; cases z)])⟩
      | true =>
        have hn : rdN x.cps.toList = some (PySem.NumText.digitsVal (c :: r) : Int) := by rw [e, rdN_cons, if_neg c1, if_pos hf]
        obtain ⟨hi, hi2⟩ := rd_int hn
        exact iteF ⟨_, rfl, x, _, rfl, by omega, hi, (q H1 s1).1 _ hn⟩
theorem ok_read_number {P : Program} {w : World} {K : PySem.W.Frag} {mg : Str → Option Value} {base : Heap} (c1 : CalX P w K mg base k_read_number "read_number" ["text"] (sp1_read_number K cNoText)) : Cal P w K mg base k_read_number "read_number" ["text"] (sp_read_number K) :=
  c1.cal fun vs H Q E ⟨x, n, hv, hn, q⟩ => .inr ⟨x, hv, by have := (rd_int hn).2; omega, fun H' s => ⟨fun m hm => by rw [hn] at hm; cases hm; exact q H' s, fun z => by rw [hn] at z; cases z⟩⟩
end
theorem sub_len (x : Str) (a b : Nat) : (Builtin.Str.strSub x a b).length ≤ x.length := by
  show (x.cps.extract a b).size ≤ x.cps.size
  rw [Array.size_extract]
  omega
theorem parts_le (x : Str) (w : Nat) : ∀ (cuts : List Nat) (a : Nat), ∀ p ∈ StrLaws.partsFrom x w a cuts, p.length ≤ x.length
  | [], a, p, h => by
    have e : p = _ := List.mem_singleton.mp h
    rw [e]
    exact sub_len _ _ _
  | c :: cs, a, p, h => by
    rcases List.mem_cons.mp h with e | h
    · rw [e]
      exact sub_len _ _ _
    · exact parts_le x w cs _ p h
theorem part_len {x y p : Str} (h : p ∈ Txt.split x y) : p.length ≤ x.length := by
  unfold Txt.split at h
  split at h
  · rw [List.mem_singleton.mp h]; exact Nat.le_refl _
  · split at h
    · rw [List.mem_singleton.mp h]; exact Nat.le_refl _
    · rw [StrLaws.partsBetween_eq] at h
      exact parts_le _ _ _ _ p h
theorem rdAll_none : ∀ {xs : List Str} {i : Nat} {y : Str}, xs[i]? = some y → rdN y.cps.toList = none → rdAll xs = none
  | [], i, y, h, _ => by simp at h
  | x :: r, 0, y, h, hn => by
    have e : x = y := by simpa using h
    subst e
    show (match rdN x.cps.toList, rdAll r with | some n, some ns => some (n :: ns) | _, _ => none) = none
    rw [hn]
  | x :: r, i + 1, y, h, hn => by
    have ih := rdAll_none (xs := r) (i := i) (y := y) (by simpa using h) hn
    show (match rdN x.cps.toList, rdAll r with | some n, some ns => some (n :: ns) | _, _ => none) = none
    rw [ih]
    cases rdN x.cps.toList <;> rfl
theorem rdAll_some : ∀ {xs : List Str} {ns : List Int}, ns.length = xs.length → (∀ (i : Nat) (x : Str), xs[i]? = some x → rdN x.cps.toList = ns[i]?) → rdAll xs = some ns
  | [], [], _, _ => rfl
  | [], _ :: _, h, _ => by cases h
  | _ :: _, [], h, _ => by cases h
  | x :: r, n :: ns, h, hh => by
    have ih := rdAll_some (xs := r) (ns := ns) (by simpa using h) fun i y hy => by
      have := hh (i + 1) y (by simpa using hy)
      simpa using this
    have h0 : rdN x.cps.toList = some n := by simpa using hh 0 x rfl
    show (match rdN x.cps.toList, rdAll r with | some n, some ns => some (n :: ns) | _, _ => none) = _
    rw [h0, ih]
abbrev k_read_row : Nat := 3
def sp_read_row (_ : PySem.W.Frag) : Sp := fun vs H Q _ => ∃ (x : Str) (ns : List Int), vs = [.str x] ∧ rdR x = some ns ∧ x.length ≤ 90000 ∧ ∀ (D : Addr) (H' : Hp), Same H H' → H D = none → H' D = some (.lst (ns.map V.int)) → Q (.ref D) H'
def sp1_read_row (K : PySem.W.Frag) (cN : Addr) : Sp := fun vs H Q E => (∃ v, vs = [v] ∧ NoStr K H v ∧ E (.ref cN) none H) ∨
  ∃ x : Str, vs = [.str x] ∧ x.length ≤ 90000 ∧ (∀ ns, rdR x = some ns → ∀ (D : Addr) (H' : Hp), Same H H' → H D = none → H' D = some (.lst (ns.map V.int)) → Q (.ref D) H') ∧ (rdR x = none → ∀ H', Same H H' → E (.ref cN) none H')
abbrev k_place_behind : Nat := 1
def sp_place_behind (_ : PySem.W.Frag) : Sp := fun vs H Q _ => ∃ (x sg : Str) (pl : Nat), vs = [.str x, .int (pl : Int), .str sg] ∧ x.length ≤ 90000 ∧ pl ≤ x.cps.toList.length ∧ (x.cps.toList.drop pl).take 1 = sg.cps.toList ∧ Q (.int ((pl : Int) + 1)) H
def sp1_place_behind (_ : PySem.W.Frag) (cN : Addr) : Sp := fun vs H Q E => ∃ (x sg : Str) (pl : Nat), vs = [.str x, .int (pl : Int), .str sg] ∧ x.length ≤ 90000 ∧ pl ≤ x.cps.toList.length ∧ ((x.cps.toList.drop pl).take 1 = sg.cps.toList → Q (.int ((pl : Int) + 1)) H) ∧ ((x.cps.toList.drop pl).take 1 ≠ sg.cps.toList → E (.ref cN) none H)
section
variable {P : Program} {w : World} {K : PySem.W.Frag} {mg : Str → Option Value} {base : Heap}
theorem okx_read_row (d : Def K mg "read_row" s_read_row ["text"]) (z : Bz K mg cLeastError cBeyond cNoBounds cNoRow cNoSuch cNoText cTooMany) (c1_read_number : CalX P w K mg base k_read_number "read_number" ["text"] (sp1_read_number K cNoText)) : CalX P w K mg base k_read_row "read_row" ["text"] (sp1_read_row K cNoText) := by
  have sc := sc_read_row
  refine d.calx fun f fd F => F.okx sc (fun vs H Q E h => ?_) (fun cdv A outer s H vs Q E hr h => ?_)
  · rcases h with ⟨v, rfl, _⟩ | ⟨x, rfl, _⟩ <;> rfl
  rcases h with ⟨v, rfl, ⟨t, ty, kt⟩, q⟩ | ⟨x, rfl, hl, q, qn⟩
  · refine ⟨_, (pss_cons (ps_if (pt_not (pt_val (pe_callB call_isi (by rfl) z.isinstance_ bt_isinstance (pa_cons (pv 0) (pa_cons (pe_bltn (v := .ty "str") (u := .type "str") (by rfl) z.str_ bt_str rfl) pa_nil)))))
  (pss_one (ps_raiseK lv_of z.m_NoText z.own_NoText (by rfl) (pa_cons pe_str pa_nil)))
  pss_nil)
 (pss_cons (ps_if (pt_cmpR op_eq (pv 0) pe_str (nomark _))
  (pss_one (ps_ret (pe_lst pa_nil)))
  pss_nil)
 (pss_one (ps_ret (pe_compX (cl := []) (cn := []) (N := []) (fr := []) (sc0 := defScope s_read_row) lv_of (pi_list (pe_bm PySem.F.plainAttrs_str PySem.F.slot_str_split PySem.F.type_str_split mt_split (pv 0) (pa_cons pe_str pa_nil))) (fun C s₂ H₂ fp => (pe_fnC c1_read_number (hr.mono (by decide)) (by rfl) (pa_cons (pv 0) pa_nil))) (by with_unfolding_all rfl) trivial rfl rfl rfl ⟨by decide +kernel, by decide +kernel, by decide +kernel, by decide +kernel, by decide +kernel, by decide +kernel, by decide +kernel⟩ rfl))))), ?_⟩
    exact ⟨_, rfl, _, _, t, _, rfl, ty, kt, false, rfl, iteT ⟨szb rfl, q⟩⟩
  refine ⟨_, (pss_cons (ps_if (pt_not (pt_val (pe_callB call_isi (by rfl) z.isinstance_ bt_isinstance (pa_cons (pv 0) (pa_cons (pe_bltn (v := .ty "str") (u := .type "str") (by rfl) z.str_ bt_str rfl) pa_nil)))))
  (pss_one (ps_raiseK lv_of z.m_NoText z.own_NoText (by rfl) (pa_cons pe_str pa_nil)))
  pss_nil)
 (pss_cons (ps_if (pt_cmpR op_eq (pv 0) pe_str (nomark _))
  (pss_one (ps_ret (pe_lst pa_nil)))
  pss_nil)
 (pss_one (ps_ret (pe_compX (cl := []) (cn := []) (N := []) (fr := []) (sc0 := defScope s_read_row) lv_of (pi_list (pe_bm PySem.F.plainAttrs_str PySem.F.slot_str_split PySem.F.type_str_split mt_split (pv 0) (pa_cons pe_str pa_nil))) (fun C s₂ H₂ fp => (pe_fnC c1_read_number (hr.mono (by decide)) (by rfl) (pa_cons (pv 0) pa_nil))) (by with_unfolding_all rfl) trivial rfl rfl rfl ⟨by decide +kernel, by decide +kernel, by decide +kernel, by decide +kernel, by decide +kernel, by decide +kernel, by decide +kernel⟩ rfl))))), ?_⟩
  refine ⟨_, rfl, _, _, _, _, rfl, .str _, kit_str_str, true, rfl, ?_⟩
  refine iteF ?_
  refine ⟨_, rfl, rfl, _, rfl, ?_⟩
  by_cases c : x = ""
  · rw [decide_eq_true (show V.str x = V.str "" from congrArg V.str c)]
    exact iteT ⟨szb rfl, fun D hD => q [] (by unfold rdR; rw [if_pos c]) D _ (same_new hD _) hD upd_same⟩
  · rw [decide_eq_false (show ¬ V.str x = V.str "" from fun z => c (V.str.inj z))]
    have hR : rdR x = rdAll (Txt.split x " ") := by unfold rdR; rw [if_neg c]
    have hs := split_len x " "
    refine iteF ⟨_, rfl, rfl, x, " ", rfl, rfl, by decide +kernel, sl51 (by omega), sl51 (by have := cuts_len x " "; omega), sl51 (by omega), fun l hl1 => ?_⟩
    have s1 : Same H (upd H l (.lst ((Txt.split x " ").map V.str))) := same_new hl1 _
    have hwl : ∀ y ∈ Txt.split x " ", y.length ≤ 90000 := fun y hy => Nat.le_trans (part_len hy) hl
    refine ⟨l, rfl, ⟨_, SqL.of upd_same⟩, fun D hD => comp_listP (K := K) (xs := (Txt.split x " ").map V.str) (by rw [List.length_map]; exact sl51 (by omega))
      (fun i ys H2 => ∃ ns : List Int, ys = ns.map V.int ∧ ns.length = i ∧ i ≤ (Txt.split x " ").length ∧ (∀ (j : Nat) (y : Str), j < i → (Txt.split x " ")[j]? = some y → rdN y.cps.toList = ns[j]?) ∧ Same (upd H l (.lst ((Txt.split x " ").map V.str))) H2 ∧ H2 D = some (.lst ys))
      ⟨[], rfl, rfl, Nat.zero_le _, fun j y hj => absurd hj (Nat.not_lt_zero _), same_new hD _, upd_same⟩
      (fun i ys H2 ⟨_, _, _, _, _, k2, _⟩ => SqL.of (k2 _ _ upd_same)) (fun i ys H2 ⟨ns, e, hi, _, _, _, h4⟩ => ⟨h4, by rw [e, List.length_map, hi]⟩) ?_ ?_⟩
    · rintro i v ys H2 hv ⟨ns, e, hi, hi2, hj, k2, h4⟩
      rw [List.getElem?_map] at hv
      cases hy : (Txt.split x " ")[i]? with
      | none => rw [hy] at hv; cases hv
      | some y =>
        rw [hy] at hv
        cases hv
        refine ⟨_, rfl, .inr ⟨y, rfl, hwl y (List.mem_of_getElem? hy), fun H3 s3 => ⟨fun n hn => ?_, fun hn => ?_⟩⟩⟩
        · refine ⟨s3 _ _ h4, ns ++ [n], by rw [e, List.map_append]; rfl, by rw [List.length_append, hi]; rfl, (List.getElem?_eq_some_iff.mp hy).1, fun j z hj' hz => ?_, own2 (k2.trans s3) hD, upd_same⟩
          by_cases cj : j < i
          · rw [List.getElem?_append_left (by omega)]
            exact hj j z cj hz
          · have ej : j = i := by omega
            subst ej
            rw [hy] at hz
            cases hz
            rw [List.getElem?_append_right (by omega), hi, Nat.sub_self]
            exact hn
        · exact qn (by rw [hR]; exact rdAll_none hy hn) H3 (s1.trans (k2.trans s3))
    · rintro ys H2 ⟨ns, e, hi, hi2, hj, k2, h4⟩
      rw [List.length_map] at hi hj
      have hall : rdAll (Txt.split x " ") = some ns := rdAll_some hi fun i y hy => hj i y (List.getElem?_eq_some_iff.mp hy).1 hy
      rw [e] at h4
      exact q ns (by rw [hR]; exact hall) D H2 (s1.trans k2) (s1.free hD) h4
theorem ok_read_row {P : Program} {w : World} {K : PySem.W.Frag} {mg : Str → Option Value} {base : Heap} (c1 : CalX P w K mg base k_read_row "read_row" ["text"] (sp1_read_row K cNoText)) : Cal P w K mg base k_read_row "read_row" ["text"] (sp_read_row K) :=
  c1.cal fun vs H Q E ⟨x, ns, hv, hn, hl, q⟩ => .inr ⟨x, hv, hl, fun m hm => by rw [hn] at hm; cases hm; exact q, fun z => by rw [hn] at z; cases z⟩
theorem okx_place_behind (d : Def K mg "place_behind" s_place_behind ["text", "place", "sign"]) (z : Bz K mg cLeastError cBeyond cNoBounds cNoRow cNoSuch cNoText cTooMany)  : CalX P w K mg base k_place_behind "place_behind" ["text", "place", "sign"] (sp1_place_behind K cNoText) := by
  have sc := sc_place_behind
  refine d.calx fun f fd F => F.okx sc (fun vs H Q E h => ?_) (fun cdv A outer s H vs Q E hr h => ?_)
  · obtain ⟨x, sg, pl, rfl, _⟩ := h
    rfl
  obtain ⟨x, sg, pl, rfl, hl, hp, q, qn⟩ := h
  refine ⟨_, (pss_cons (ps_if (pt_cmpR op_ne (pe_slice sl_str (pv 0) (po_some (pv 1)) (po_some (pe_op op_add (pv 1) pe_int))) (pv 2) (nomark _))
  (pss_one (ps_raiseK lv_of z.m_NoText z.own_NoText (by rfl) (pa_cons pe_str pa_nil)))
  pss_nil)
 (pss_one (ps_ret (pe_op op_add (pv 1) pe_int)))), ?_⟩
  refine ⟨_, rfl, _, rfl, _, rfl, _, rfl, _, _, rfl, rfl, _, rfl, x, rfl, sl51 (by omega), ?_⟩
  rw [slice_1 hp]
  refine ⟨_, rfl, rfl, _, rfl, ?_⟩
  by_cases hs : (x.cps.toList.drop pl).take 1 = sg.cps.toList
  · rw [decide_eq_true (show V.str (mkS ((x.cps.toList.drop pl).take 1)) = V.str sg from congrArg V.str (by rw [hs, mkS_of]))]
    refine iteF ?_
    exact ⟨_, rfl, _, _, rfl, rfl, q hs⟩
  · rw [decide_eq_false (show ¬ V.str (mkS ((x.cps.toList.drop pl).take 1)) = V.str sg from fun z => hs (by
      have := congrArg (fun y : Str => y.cps.toList) (V.str.inj z)
      exact this))]
    exact iteT ⟨szb rfl, qn hs⟩
theorem ok_place_behind {P : Program} {w : World} {K : PySem.W.Frag} {mg : Str → Option Value} {base : Heap} (c1 : CalX P w K mg base k_place_behind "place_behind" ["text", "place", "sign"] (sp1_place_behind K cNoText)) : Cal P w K mg base k_place_behind "place_behind" ["text", "place", "sign"] (sp_place_behind K) :=
  c1.cal fun vs H Q E ⟨x, sg, pl, hv, hl, hp, hs, q⟩ => ⟨x, sg, pl, hv, hl, hp, fun _ => q, fun z => absurd hs z⟩
end
theorem head_iff {m : List Nat} {c : Nat} : m.take 1 = [c] ↔ m.head? = some c := by
  cases m with
  | nil => exact ⟨fun h => (nomatch h), fun h => (nomatch h)⟩
  | cons d r => exact ⟨fun h => (by cases h; rfl), fun h => (by cases h; rfl)⟩
section
variable {e : Nat} {l : List Nat} {n : Int} {a b : Pp} {r1 r2 : List Nat}
theorem prsF1 (h : rdN (l.takeWhile isD) = some n) (h1 : (l.dropWhile isD).head? = some 40) (h2 : prsP e ((l.dropWhile isD).drop 1) = none) : prsP (e + 1) l = none := by
  rw [prs_succ h h1, h2]
theorem prsF2 (h : rdN (l.takeWhile isD) = some n) (h1 : (l.dropWhile isD).head? = some 40) (h2 : prsP e ((l.dropWhile isD).drop 1) = some (a, r1)) (h3 : r1.head? ≠ some 44) : prsP (e + 1) l = none := by
  rw [prs_succ h h1, h2]
  dsimp only
  rw [if_pos h3]
theorem prsF3 (h : rdN (l.takeWhile isD) = some n) (h1 : (l.dropWhile isD).head? = some 40) (h2 : prsP e ((l.dropWhile isD).drop 1) = some (a, r1)) (h3 : r1.head? = some 44) (h4 : prsP e (r1.drop 1) = none) : prsP (e + 1) l = none := by
  rw [prs_succ h h1, h2]
  dsimp only
  rw [if_neg (fun z => z h3), h4]
theorem prsF4 (h : rdN (l.takeWhile isD) = some n) (h1 : (l.dropWhile isD).head? = some 40) (h2 : prsP e ((l.dropWhile isD).drop 1) = some (a, r1)) (h3 : r1.head? = some 44) (h4 : prsP e (r1.drop 1) = some (b, r2)) (h5 : r2.head? ≠ some 41) : prsP (e + 1) l = none := by
  rw [prs_succ h h1, h2]
  dsimp only
  rw [if_neg (fun z => z h3), h4]
  dsimp only
  rw [if_pos h5]
theorem prsS (h : rdN (l.takeWhile isD) = some n) (h1 : (l.dropWhile isD).head? = some 40) (h2 : prsP e ((l.dropWhile isD).drop 1) = some (a, r1)) (h3 : r1.head? = some 44) (h4 : prsP e (r1.drop 1) = some (b, r2)) (h5 : r2.head? = some 41) : prsP (e + 1) l = some (.split n a b, r2.drop 1) := by
  rw [prs_succ h h1, h2]
  dsimp only
  rw [if_neg (fun z => z h3), h4]
  dsimp only
  rw [if_neg (fun z => z h5)]
end
abbrev kb_read_paper_from : Nat := 2
abbrev kn_read_paper_from : Nat := 100
abbrev k_read_paper_from : Nat := 103
def spe1_read_paper_from (_ : PySem.W.Frag) (cN : Addr) (e : Nat) : Sp := fun vs H Q E => ∃ (x : Str) (st : Nat) (dp : Int), vs = [.str x, .int (st : Int), .int dp] ∧ dp = 100 - (e : Int) ∧ x.length ≤ 90000 ∧ st ≤ x.cps.toList.length ∧
  (∀ (p : Pp) (rest : List Nat), prsP e (x.cps.toList.drop st) = some (p, rest) → ∀ (a : Addr) (v : V) (k : Nat) (H' : Hp), Same H H' → H' a = some (.tup [v, .int (k : Int)]) → PpAt H' v p → k ≤ x.cps.toList.length → rest = x.cps.toList.drop k → Q (.ref a) H') ∧
  (prsP e (x.cps.toList.drop st) = none → ∀ H', Same H H' → E (.ref cN) none H')
def sp1_read_paper_from (K : PySem.W.Frag) (cN : Addr) : Sp := fun vs H Q E => ∃ e, e ≤ kn_read_paper_from ∧ spe1_read_paper_from K cN e vs H Q E
def sp_read_paper_from (_ : PySem.W.Frag) : Sp := fun _ _ _ _ => False
abbrev k_read_paper : Nat := 104
def okT (l : List Nat) : Bool := match prsP 100 l with
  | some (_, []) => true
  | _ => false
def sp_read_paper (_ : PySem.W.Frag) : Sp := fun vs H Q _ => ∃ (x : Str) (p : Pp), vs = [.str x] ∧ x.length ≤ 90000 ∧ prsP 100 x.cps.toList = some (p, []) ∧ ∀ (v : V) (H' : Hp), Same H H' → PpAt H' v p → Q v H'
def sp1_read_paper (K : PySem.W.Frag) (cN : Addr) : Sp := fun vs H Q E => (∃ v, vs = [v] ∧ NoStr K H v ∧ E (.ref cN) none H) ∨
  ∃ x : Str, vs = [.str x] ∧ x.length ≤ 90000 ∧ (∀ p, prsP 100 x.cps.toList = some (p, []) → ∀ (v : V) (H' : Hp), Same H H' → PpAt H' v p → Q v H') ∧ (okT x.cps.toList = false → ∀ H', Same H H' → E (.ref cN) none H')
section
variable {P : Program} {w : World} {K : PySem.W.Frag} {mg : Str → Option Value} {base : Heap}
theorem okx_read_paper_from (d : Def K mg "read_paper_from" s_read_paper_from ["text", "start", "depth"]) (z : Bz K mg cLeastError cBeyond cNoBounds cNoRow cNoSuch cNoText cTooMany) (c1_place_behind : CalX P w K mg base k_place_behind "place_behind" ["text", "place", "sign"] (sp1_place_behind K cNoText)) (c1_read_number : CalX P w K mg base k_read_number "read_number" ["text"] (sp1_read_number K cNoText)) : CalX P w K mg base k_read_paper_from "read_paper_from" ["text", "start", "depth"] (sp1_read_paper_from K cNoText) := by
  have sc := sc_read_paper_from
  refine d.recurX (k := kb_read_paper_from) (sp := (spe1_read_paper_from K cNoText)) kn_read_paper_from fun e hen c1_read_paper_from f fd F => F.okx sc (fun vs H Q E h => ?_) (fun cdv A outer s H vs Q E hr h => ?_)
  · obtain ⟨x, st, dp, rfl, _⟩ := h
    rfl
  obtain ⟨x, st, dp, rfl, hdp, hl, hst, q, qn⟩ := h
  obtain ⟨_, ft, hft, rfl⟩ := z.fig
  refine ⟨_, (pss_cons (ps_set (i := 3) sc.nd rfl (Or.inl rfl) (pv 1))
 (pss_cons (ps_while (Lv.loops lv_of) (PW.pt (pw_and (pt_cmpR op_lt (pv 3) (pe_callB call_len_str (by rfl) z.len_ bt_len (pa_cons (pv 0) pa_nil)) (nomark _)) (pw_and1 (pt_cmpR op_in_str (pe_ix ix_str (pv 0) (pv 3) (fun _ _ => rfl)) (pe_glob (v := .str "0123456789") (u := .str "0123456789" ft) (by rfl) hft ⟨_, rfl⟩) rfl))))
  (pss_one (ps_set (i := 3) sc.nd rfl (Or.inl rfl) (pe_op op_add (pv 3) pe_int))))
 (pss_cons (ps_set (i := 4) sc.nd rfl (Or.inl rfl) (pe_fnX lv_of c1_read_number (hr.mono (Nat.le_trans (by decide : k_read_number ≤ kb_read_paper_from) (Nat.le_add_left _ _))) (by rfl) (pa_cons (pe_slice sl_str (pv 0) (po_some (pv 1)) (po_some (pv 3))) pa_nil)))
 (pss_cons (ps_if (pt_cmpR op_ne (pe_slice sl_str (pv 0) (po_some (pv 3)) (po_some (pe_op op_add (pv 3) pe_int))) pe_str (nomark _))
  (pss_one (ps_ret (pe_tup (pa_cons (pe_tup (pa_cons pe_str (pa_cons (pv 4) pa_nil))) (pa_cons (pv 3) pa_nil)))))
  pss_nil)
 (pss_cons (ps_if (pt_cmpR op_eq (pv 2) pe_int (nomark _))
  (pss_one (ps_raiseK lv_of z.m_NoText z.own_NoText (by rfl) (pa_cons pe_str pa_nil)))
  pss_nil)
 (pss_cons (ps_set (i := 5) sc.nd rfl (Or.inl rfl) (pe_fnX lv_of c1_read_paper_from (hr.mono (Nat.le_refl _)) (by rfl) (pa_cons (pv 0) (pa_cons (pe_op op_add (pv 3) pe_int) (pa_cons (pe_op op_add (pv 2) pe_int) pa_nil)))))
 (pss_cons (ps_set (i := 6) sc.nd rfl (Or.inl rfl) (pe_fnX lv_of c1_read_paper_from (hr.mono (Nat.le_refl _)) (by rfl) (pa_cons (pv 0) (pa_cons (pe_fnX lv_of c1_place_behind (hr.mono (Nat.le_trans (by decide : k_place_behind ≤ kb_read_paper_from) (Nat.le_add_left _ _))) (by rfl) (pa_cons (pv 0) (pa_cons (pe_ix ix_tup (pv 5) pe_int (fun _ _ => rfl)) (pa_cons pe_str pa_nil)))) (pa_cons (pe_op op_add (pv 2) pe_int) pa_nil)))))
 (pss_one (ps_ret (pe_tup (pa_cons (pe_tup (pa_cons pe_str (pa_cons (pv 4) (pa_cons (pe_ix ix_tup (pv 5) pe_int (fun _ _ => rfl)) (pa_cons (pe_ix ix_tup (pv 6) pe_int (fun _ _ => rfl)) pa_nil))))) (pa_cons (pe_fnX lv_of c1_place_behind (hr.mono (Nat.le_trans (by decide : k_place_behind ≤ kb_read_paper_from) (Nat.le_add_left _ _))) (by rfl) (pa_cons (pv 0) (pa_cons (pe_ix ix_tup (pv 6) pe_int (fun _ _ => rfl)) (pa_cons pe_str pa_nil)))) pa_nil)))))))))))), ?_⟩
  have hz : x.length ≤ sizeLine := sl51 (by omega)
  have hxl := len_l x
  generalize hL : x.cps.toList = L at *
  have htw := tw_len (L.drop st)
  rw [List.length_drop] at htw
  refine ⟨_, rfl, ?_⟩
  refine while_x (fun σ G => σ = [some (.str x), some (.int (st : Int)), some (.int dp), some (.int ((st + ((L.drop st).takeWhile isD).length : Nat) : Int)), none, none, none] ∧ G = H) ?ex (fun hx => ⟨fun m σ G => ∃ j : Nat, m = ((L.drop st).takeWhile isD).length - j ∧ j ≤ ((L.drop st).takeWhile isD).length ∧ σ = [some (.str x), some (.int (st : Int)), some (.int dp), some (.int ((st + j : Nat) : Int)), none, none, none] ∧ G = H,
    ⟨_, 0, rfl, Nat.zero_le _, rfl, rfl⟩, ?_⟩)
  case refine_2 =>
    rintro m σ G ⟨j, rfl, hj, rfl, rfl⟩
    refine ⟨_, rfl, _, rfl, x, rfl, hz, _, _, rfl, rfl, _, rfl, ?_⟩
    rw [hxl]
    by_cases c1 : st + j < L.length
    · rw [decide_eq_true (show ((st + j : Nat) : Int) < (L.length : Int) by omega)]
      have g1 : L[st + j]? = some L[st + j] := List.getElem?_eq_getElem c1
      refine iteT ⟨_, rfl, _, rfl, x, _, _, rfl, rfl, hz, by rw [hL]; exact atI_nat g1, ⟨#[L[st + j]]⟩, "0123456789", rfl, rfl, _, rfl, ?_⟩
      rw [StrLaws.found_one]
      by_cases c2 : j < ((L.drop st).takeWhile isD).length
      · obtain ⟨c, hc, hd⟩ := tw_at c2
        rw [List.getElem?_drop, g1] at hc
        cases hc
        have hd' : decide (L[st + j] ∈ ("0123456789" : Str).cps.toList) = true := hd
        rw [hd']
        refine iteT ⟨fun σ G' => σ = [some (.str x), some (.int (st : Int)), some (.int dp), some (.int ((st + (j + 1) : Nat) : Int)), none, none, none] ∧ G' = G, ?_, ?_⟩
        · rintro σ G' ⟨rfl, rfl⟩
          exact ⟨_, by omega, j + 1, rfl, c2, rfl, rfl⟩
        · refine ⟨_, rfl, _, _, rfl, rfl, ?_, rfl⟩
          show [some (V.str x), some (V.int (st : Int)), some (V.int dp), some (V.int (((st + j : Nat) : Int) + 1)), none, none, none] = _
          rw [show ((st + j : Nat) : Int) + 1 = ((st + (j + 1) : Nat) : Int) by omega]
      · have je : j = ((L.drop st).takeWhile isD).length := by omega
        have hd' : decide (L[st + j] ∈ ("0123456789" : Str).cps.toList) = false := tw_end (m := L.drop st) (by rw [← je, List.getElem?_drop, g1])
        rw [hd']
        refine iteF (hx _ _ ⟨?_, rfl⟩)
        rw [je]
    · rw [decide_eq_false (show ¬ ((st + j : Nat) : Int) < (L.length : Int) by omega)]
      have je : j = ((L.drop st).takeWhile isD).length := by omega
      refine iteF (iteF (hx _ _ ⟨?_, rfl⟩))
      rw [je]
  case ex =>
    rintro σ G ⟨rfl, rfl⟩
    generalize hk : ((L.drop st).takeWhile isD).length = k at *
    have hdw : (L.drop st).dropWhile isD = L.drop (st + k) := by rw [drop_while, hk, List.drop_drop]
    have hk1 : st + k ≤ L.length := by omega
    refine ⟨_, rfl, _, rfl, _, rfl, _, rfl, _, rfl, x, rfl, hz, ?_⟩
    have hsl : Txt.slice x (some (st : Int)) (some ((st + k : Nat) : Int)) = mkS ((L.drop st).takeWhile isD) := by
      rw [slice_ss (by omega) (by rw [hL]; omega), hL, show st + k - st = k by omega, ← hk, tw_take]
    rw [hsl]
    refine .inr ⟨mkS ((L.drop st).takeWhile isD), rfl, by rw [mkS_len, hk]; omega, fun H1 s1 => ⟨fun n hn => ?_, fun hn => qn (prs_none hn) H1 s1⟩⟩
    rw [mkS_l] at hn
    have hs1 : Txt.slice x (some ((st + k : Nat) : Int)) (some (((st + k : Nat) : Int) + 1)) = mkS ((L.drop (st + k)).take 1) := by
      rw [slice_1 (by rw [hL]; exact hk1), hL]
    refine ⟨_, rfl, _, rfl, _, rfl, _, rfl, _, _, rfl, rfl, _, rfl, x, rfl, hz, ?_⟩
    rw [hs1]
    refine ⟨rfl, _, rfl, ?_⟩
    have p40 : ("(" : Str) = mkS [40] := by decide +kernel
    by_cases h40 : (L.drop (st + k)).head? = some 40
    · have h40' : ((L.drop st).dropWhile isD).head? = some 40 := by rw [hdw]; exact h40
      rw [decide_eq_true (show V.str (mkS ((L.drop (st + k)).take 1)) = V.str "(" from congrArg V.str (by rw [head_take h40, p40]))]
      refine iteF ?_
      refine ⟨_, rfl, rfl, _, rfl, ?_⟩
      cases e with
      | zero =>
        rw [decide_eq_true (show V.int dp = V.int 100 from congrArg V.int (by omega))]
        exact iteT ⟨szb rfl, qn (prs_zero hn h40') H1 s1⟩
      | succ e =>
      have hne : ¬ V.int dp = V.int 100 := fun z => by
        have := V.int.inj z
        omega
      rw [decide_eq_false hne]
      refine iteF ?_
      have hlt : st + k < L.length := by
        by_cases z : st + k < L.length
        · exact z
        · rw [List.drop_of_length_le (by omega)] at h40; cases h40
      have e1 : ((st + k : Nat) : Int) + 1 = ((st + k + 1 : Nat) : Int) := by omega
      have hd1 : ((L.drop st).dropWhile isD).drop 1 = L.drop (st + k + 1) := by rw [hdw, List.drop_drop]
      refine ⟨_, rfl, _, rfl, _, _, rfl, rfl, _, rfl, _, _, rfl, rfl, ?_⟩
      refine ⟨x, st + k + 1, dp + 1, by rw [← e1]; rfl, by omega, hl, by rw [hL]; omega, ?_, ?_⟩
      rotate_left
      · intro hp1 H2 s2
        rw [hL] at hp1
        exact qn (prsF1 hn h40' (by rw [hd1]; exact hp1)) H2 (s1.trans s2)
      intro a r1 hp1 lo v1 k1 H2 s2 hlo hv1 hk2 hr1
      rw [hL] at hp1 hk2 hr1
      subst hr1
      have hp1' : prsP e (((L.drop st).dropWhile isD).drop 1) = some (a, L.drop k1) := by rw [hd1]; exact hp1
      refine ⟨_, rfl, _, rfl, _, rfl, lo, _, _, _, rfl, rfl, SqT.of hlo, rfl, x, ",", k1, rfl, hl, by rw [hL]; exact hk2, ?_, ?_⟩
      rotate_left
      · intro h44
        exact qn (prsF2 hn h40' hp1' fun z => h44 (by rw [hL, head_take z]; decide +kernel)) H2 (s1.trans s2)
      intro h44
      rw [hL, show ("," : Str).cps.toList = [44] by decide +kernel, head_iff] at h44
      have hlt1 : k1 < L.length := by
        by_cases z : k1 < L.length
        · exact z
        · rw [List.drop_of_length_le (by omega)] at h44; cases h44
      have e2 : (k1 : Int) + 1 = ((k1 + 1 : Nat) : Int) := by omega
      rw [e2]
      refine ⟨_, rfl, _, _, rfl, rfl, x, k1 + 1, dp + 1, rfl, by omega, hl, by rw [hL]; omega, ?_, ?_⟩
      rotate_left
      · intro hp2 H3 s3
        rw [hL] at hp2
        exact qn (prsF3 hn h40' hp1' h44 (by rw [List.drop_drop]; exact hp2)) H3 (s1.trans (s2.trans s3))
      intro b r2 hp2 up v2 k2 H3 s3 hup hv2 hk3 hr2
      rw [hL] at hp2 hk3 hr2
      subst hr2
      have hp2' : prsP e ((L.drop k1).drop 1) = some (b, L.drop k2) := by rw [List.drop_drop]; exact hp2
      have hlo3 := s3 _ _ hlo
      have hv13 := hv1.same s3
      refine ⟨_, rfl, _, rfl, lo, _, _, _, rfl, rfl, SqT.of hlo3, rfl, _, rfl, up, _, _, _, rfl, rfl, SqT.of hup, rfl, szb rfl, fun pa hpa => ?_⟩
      have s4 := same_new hpa (.tup [V.str "split", .int n, v1, v2])
      refine ⟨_, rfl, _, rfl, up, _, _, _, rfl, rfl, SqT.of (s4 _ _ hup), rfl, x, ")", k2, rfl, hl, by rw [hL]; exact hk3, ?_, ?_⟩
      rotate_left
      · intro h41
        exact qn (prsF4 hn h40' hp1' h44 hp2' fun z => h41 (by rw [hL, head_take z]; decide +kernel)) _ (s1.trans (s2.trans (s3.trans s4)))
      intro h41
      rw [hL, show (")" : Str).cps.toList = [41] by decide +kernel, head_iff] at h41
      have hlt2 : k2 < L.length := by
        by_cases z : k2 < L.length
        · exact z
        · rw [List.drop_of_length_le (by omega)] at h41; cases h41
      refine ⟨szb rfl, fun pb hpb => ?_⟩
      have s5 := same_new hpb (.tup [V.ref pa, .int ((k2 : Int) + 1)])
      refine q _ _ (prsS hn h40' hp1' h44 hp2' h41) pb (.ref pa) (k2 + 1) _ (s1.trans (s2.trans (s3.trans (s4.trans s5)))) upd_same ?_ (by omega) (by rw [List.drop_drop])
      exact ⟨pa, v1, v2, rfl, s5 _ _ upd_same, (hv13.same s4).same s5, (hv2.same s4).same s5⟩
    · rw [decide_eq_false (show ¬ V.str (mkS ((L.drop (st + k)).take 1)) = V.str "(" from fun z => h40 (by
        have z1 : (L.drop (st + k)).take 1 = [40] := by
          have z2 := congrArg (fun y : Str => y.cps.toList) (V.str.inj z)
          rw [p40] at z2
          exact z2
        exact head_iff.mp z1))]
      refine iteT ⟨_, rfl, szb rfl, fun a ha => ⟨_, rfl, szb rfl, fun b hb => ?_⟩⟩
      refine q _ _ (prs_all hn (by rw [hdw]; exact h40)) b (.ref a) (st + k) _ (s1.trans ((same_new ha _).trans (same_new hb _))) upd_same ⟨a, rfl, same_new hb _ _ _ upd_same⟩ hk1 hdw
theorem ok_read_paper_from {P : Program} {w : World} {K : PySem.W.Frag} {mg : Str → Option Value} {base : Heap} (c1 : CalX P w K mg base k_read_paper_from "read_paper_from" ["text", "start", "depth"] (sp1_read_paper_from K cNoText)) : Cal P w K mg base k_read_paper_from "read_paper_from" ["text", "start", "depth"] (sp_read_paper_from K) :=
  c1.cal fun vs H Q E h => h.elim
theorem okx_read_paper (d : Def K mg "read_paper" s_read_paper ["text"]) (z : Bz K mg cLeastError cBeyond cNoBounds cNoRow cNoSuch cNoText cTooMany) (c1_read_paper_from : CalX P w K mg base k_read_paper_from "read_paper_from" ["text", "start", "depth"] (sp1_read_paper_from K cNoText)) : CalX P w K mg base k_read_paper "read_paper" ["text"] (sp1_read_paper K cNoText) := by
  have sc := sc_read_paper
  refine d.calx fun f fd F => F.okx sc (fun vs H Q E h => ?_) (fun cdv A outer s H vs Q E hr h => ?_)
  · rcases h with ⟨v, rfl, _⟩ | ⟨x, rfl, _⟩ <;> rfl
  rcases h with ⟨v, rfl, ⟨t, ty, kt⟩, q⟩ | ⟨x, rfl, hl, q, qn⟩
  · refine ⟨_, (pss_cons (ps_if (pt_not (pt_val (pe_callB call_isi (by rfl) z.isinstance_ bt_isinstance (pa_cons (pv 0) (pa_cons (pe_bltn (v := .ty "str") (u := .type "str") (by rfl) z.str_ bt_str rfl) pa_nil)))))
  (pss_one (ps_raiseK lv_of z.m_NoText z.own_NoText (by rfl) (pa_cons pe_str pa_nil)))
  pss_nil)
 (pss_cons (ps_set (i := 1) sc.nd rfl (Or.inl rfl) (pe_fnX lv_of c1_read_paper_from (hr.mono (by decide)) (by rfl) (pa_cons (pv 0) (pa_cons pe_int (pa_cons pe_int pa_nil)))))
 (pss_cons (ps_if (pt_cmpR op_ne (pe_ix ix_tup (pv 1) pe_int (fun _ _ => rfl)) (pe_callB call_len_str (by rfl) z.len_ bt_len (pa_cons (pv 0) pa_nil)) (nomark _))
  (pss_one (ps_raiseK lv_of z.m_NoText z.own_NoText (by rfl) (pa_cons pe_str pa_nil)))
  pss_nil)
 (pss_one (ps_ret (pe_ix ix_tup (pv 1) pe_int (fun _ _ => rfl))))))), ?_⟩
    exact ⟨_, rfl, _, _, t, _, rfl, ty, kt, false, rfl, iteT ⟨szb rfl, q⟩⟩
  refine ⟨_, (pss_cons (ps_if (pt_not (pt_val (pe_callB call_isi (by rfl) z.isinstance_ bt_isinstance (pa_cons (pv 0) (pa_cons (pe_bltn (v := .ty "str") (u := .type "str") (by rfl) z.str_ bt_str rfl) pa_nil)))))
  (pss_one (ps_raiseK lv_of z.m_NoText z.own_NoText (by rfl) (pa_cons pe_str pa_nil)))
  pss_nil)
 (pss_cons (ps_set (i := 1) sc.nd rfl (Or.inl rfl) (pe_fnX lv_of c1_read_paper_from (hr.mono (by decide)) (by rfl) (pa_cons (pv 0) (pa_cons pe_int (pa_cons pe_int pa_nil)))))
 (pss_cons (ps_if (pt_cmpR op_ne (pe_ix ix_tup (pv 1) pe_int (fun _ _ => rfl)) (pe_callB call_len_str (by rfl) z.len_ bt_len (pa_cons (pv 0) pa_nil)) (nomark _))
  (pss_one (ps_raiseK lv_of z.m_NoText z.own_NoText (by rfl) (pa_cons pe_str pa_nil)))
  pss_nil)
 (pss_one (ps_ret (pe_ix ix_tup (pv 1) pe_int (fun _ _ => rfl))))))), ?_⟩
  have hz : x.length ≤ sizeLine := sl51 (by omega)
  refine ⟨_, rfl, _, _, _, _, rfl, .str _, kit_str_str, true, rfl, ?_⟩
  refine iteF ?_
  refine ⟨_, rfl, 100, Nat.le_refl _, x, 0, 0, rfl, by decide, hl, Nat.zero_le _, fun p rest hp a v k H1 s1 ha hv hk hr1 => ?_, fun hn H1 s1 => qn (by unfold okT; rw [show prsP 100 x.cps.toList = none from hn]) H1 s1⟩
  rw [List.drop_zero] at hp
  refine ⟨_, rfl, a, _, _, _, rfl, rfl, SqT.of ha, rfl, _, rfl, x, rfl, hz, rfl, _, rfl, ?_⟩
  rw [len_l]
  by_cases hke : k = x.cps.toList.length
  · have hr0 : rest = [] := by rw [hr1, hke, List.drop_length]
    rw [hr0] at hp
    rw [hke, decide_eq_true rfl]
    refine iteF ?_
    exact ⟨_, rfl, a, _, _, _, rfl, rfl, SqT.of ha, rfl, q p hp v H1 s1 hv⟩
  · rw [decide_eq_false (show ¬ V.int (k : Int) = V.int (x.cps.toList.length : Int) from fun z => hke (by have := V.int.inj z; omega))]
    refine iteT ⟨szb rfl, qn ?_ H1 s1⟩
    unfold okT
    rw [hp]
    cases hrr : rest with
    | nil =>
      rw [hrr] at hr1
      have := congrArg List.length hr1
      rw [List.length_drop, List.length_nil] at this
      omega
    | cons c r => rfl
theorem ok_read_paper {P : Program} {w : World} {K : PySem.W.Frag} {mg : Str → Option Value} {base : Heap} (c1 : CalX P w K mg base k_read_paper "read_paper" ["text"] (sp1_read_paper K cNoText)) : Cal P w K mg base k_read_paper "read_paper" ["text"] (sp_read_paper K) :=
  c1.cal fun vs H Q E ⟨x, p, hv, hl, hp, q⟩ => .inr ⟨x, hv, hl, fun p' hp' => by rw [hp] at hp'; cases hp'; exact q, fun z => by unfold okT at z; rw [hp] at z; cases z⟩
end
/-! ### the law's own numbers and papers -/
abbrev k__law_many : Nat := 2
def sp__law_many (_ : PySem.W.Frag) : Sp := fun vs H Q _ => ∃ pen : Addr, vs = [.ref pen] ∧ PenN H pen ∧ ∀ (v : Int) (H' : Hp), Keep pen H H' → PenN H' pen → okN v → Q (.int v) H'
def wl : Nat → Nat
  | 0 => 53
  | e + 1 => 53 + 2 * wl e
abbrev kb__law_paper : Nat := 3
abbrev kn__law_paper : Nat := 4
abbrev k__law_paper : Nat := 8
def spe__law_paper (_ : PySem.W.Frag) (e : Nat) : Sp := fun vs H Q _ => ∃ pen : Addr, vs = [.ref pen, .int (e : Int)] ∧ PenN H pen ∧
  ∀ (v : V) (p : Pp) (H' : Hp), Keep pen H H' → PenN H' pen → PpAt H' v p → OkP p → dep p ≤ e → (ptL p).length ≤ wl e → Q v H'
def sp__law_paper (K : PySem.W.Frag) : Sp := fun vs H Q E => ∃ e, e ≤ kn__law_paper ∧ spe__law_paper K e vs H Q E
abbrev k__law_chain : Nat := 3
def sp__law_chain (_ : PySem.W.Frag) : Sp := fun vs H Q _ => ∃ (pen : Addr) (n : Nat), vs = [.ref pen, .int (n : Int)] ∧ PenN H pen ∧ n ≤ 200 ∧
  ∀ (v : V) (p : Pp) (H' : Hp), Keep pen H H' → PenN H' pen → PpAt H' v p → OkP p → dep p = n → (ptL p).length ≤ 60 + 120 * n → Q v H'
theorem ok_small {n : Int} (h0 : 0 ≤ n) (h1 : n < 1000) : okN n := ⟨h0, by omega⟩
theorem PpAt.kp {H H' : Hp} {pen : Addr} {p : Pp} {v : V} (h : PpAt H v p) (P : PenN H pen) (k : Keep pen H H') : PpAt H' v p := h.tk (P.tk k)
section
variable {P : Program} {w : World} {K : PySem.W.Frag} {mg : Str → Option Value} {base : Heap}
theorem ok__law_many (d : Def K mg "_law_many" s__law_many ["_law_pen_here"]) (z : Bz K mg cLeastError cBeyond cNoBounds cNoRow cNoSuch cNoText cTooMany) (c__law_take : Cal P w K mg base k__law_take "_law_take" ["_law_pen_here", "_law_size"] (sp__law_take K)) : Cal P w K mg base k__law_many "_law_many" ["_law_pen_here"] (sp__law_many K) := by
  have sc := sc__law_many
  refine d.cal fun f fd F => F.ok sc (fun vs H Q E h => ?_) (fun cdv A outer s H vs Q E hr h => ?_)
  · obtain ⟨pen, rfl, _⟩ := h
    rfl
  obtain ⟨pen, rfl, P0, q⟩ := h
  refine ⟨_, (pss_one (ps_ret (pe_ix ix_list (pe_lst (pa_cons (pe_fn c__law_take (hr.mono (by decide)) (by rfl) (pa_cons (pv 0) (pa_cons pe_int pa_nil))) (pa_cons (pe_fn c__law_take (hr.mono (by decide)) (by rfl) (pa_cons (pv 0) (pa_cons pe_int pa_nil))) (pa_cons (pe_op op_add (pe_op op_mul (pe_fn c__law_take (hr.mono (by decide)) (by rfl) (pa_cons (pv 0) (pa_cons (pe_op op_pow pe_int pe_int) pa_nil))) (pe_op op_pow pe_int pe_int)) pe_int) (pa_cons pe_int pa_nil))))) (pe_fn c__law_take (hr.mono (by decide)) (by rfl) (pa_cons (pv 0) (pa_cons pe_int pa_nil))) (fun _ _ => rfl)))), ?_⟩
  refine ⟨_, rfl, pen, 10, rfl, P0, by decide, by decide, fun v1 H1 k1 P1 a1 b1 => ?_⟩
  refine ⟨_, rfl, pen, 1000, rfl, P1, by decide, by decide, fun v2 H2 k2 P2 a2 b2 => ?_⟩
  refine ⟨_, rfl, _, _, rfl, rfl, ⟨by decide, by decide, by decide⟩, pen, _, rfl, P2, by decide, by decide, fun v3 H3 k3 P3 a3 b3 => ?_⟩
  have b3' : v3 < 100000000000000000 := b3
  refine ⟨_, _, rfl, rfl, ⟨by decide, by decide, by decide⟩, _, _, rfl, rfl, .inl ⟨by omega, by omega⟩, _, _, rfl, rfl, szb rfl, fun p hp => ?_⟩
  refine ⟨_, rfl, pen, 4, rfl, P3.new hp _, by decide, by decide, fun v5 H5 k5 P5 a5 b5 => ?_⟩
  obtain ⟨x, hx, hv⟩ := atI_ints (l := [v1, v2, v3 * 10 ^ (33 : Int).toNat + 7, 0]) a5 b5
  have hx' : okN x := by
    simp only [List.mem_cons, List.not_mem_nil, or_false] at hx
    have e33 : (10 : Int) ^ (33 : Int).toNat = 1000000000000000000000000000000000 := by decide
    rw [e33] at hx
    have e50 : (10 : Int) ^ 50 = 100000000000000000000000000000000000000000000000000 := by decide
    unfold okN
    rw [e50]
    omega
  exact ⟨p, _, _, _, rfl, rfl, SqL.of (k5 _ _ (P3.fresh hp) upd_same), hv, q x H5 (k1.trans (k2.trans (k3.trans ((Keep.new hp _).trans k5)))) P5 hx'⟩
theorem ok__law_paper (d : Def K mg "_law_paper" s__law_paper ["_law_pen_here", "_law_deep"]) (z : Bz K mg cLeastError cBeyond cNoBounds cNoRow cNoSuch cNoText cTooMany) (c__law_many : Cal P w K mg base k__law_many "_law_many" ["_law_pen_here"] (sp__law_many K)) (c__law_take : Cal P w K mg base k__law_take "_law_take" ["_law_pen_here", "_law_size"] (sp__law_take K)) : Cal P w K mg base k__law_paper "_law_paper" ["_law_pen_here", "_law_deep"] (sp__law_paper K) := by
  have sc := sc__law_paper
  refine d.recur (k := kb__law_paper) (sp := spe__law_paper K) kn__law_paper fun e hen c__law_paper f fd F => F.ok sc (fun vs H Q E h => ?_) (fun cdv A outer s H vs Q E hr h => ?_)
  · obtain ⟨pen, rfl, _⟩ := h
    rfl
  obtain ⟨pen, rfl, P0, q⟩ := h
  refine ⟨_, (pss_cons (ps_if (PW.pt (pw_or (pt_cmpR op_eq (pv 1) pe_int (nomark _)) (pw_or1 (pt_cmpR op_eq (pe_fn c__law_take (hr.mono (Nat.le_trans (by decide : k__law_take ≤ kb__law_paper) (Nat.le_add_left _ _))) (by rfl) (pa_cons (pv 0) (pa_cons pe_int pa_nil))) pe_int (nomark _)))))
  (pss_one (ps_ret (pe_tup (pa_cons pe_str (pa_cons (pe_fn c__law_many (hr.mono (Nat.le_trans (by decide : k__law_many ≤ kb__law_paper) (Nat.le_add_left _ _))) (by rfl) (pa_cons (pv 0) pa_nil)) pa_nil)))))
  pss_nil)
 (pss_cons (ps_set (i := 2) sc.nd rfl (Or.inl rfl) (pe_fn c__law_many (hr.mono (Nat.le_trans (by decide : k__law_many ≤ kb__law_paper) (Nat.le_add_left _ _))) (by rfl) (pa_cons (pv 0) pa_nil)))
 (pss_cons (ps_set (i := 3) sc.nd rfl (Or.inl rfl) (pe_fn c__law_paper (hr.mono (Nat.le_refl _)) (by rfl) (pa_cons (pv 0) (pa_cons (pe_op op_sub (pv 1) pe_int) pa_nil))))
 (pss_one (ps_ret (pe_tup (pa_cons pe_str (pa_cons (pv 2) (pa_cons (pv 3) (pa_cons (pe_fn c__law_paper (hr.mono (Nat.le_refl _)) (by rfl) (pa_cons (pv 0) (pa_cons (pe_op op_sub (pv 1) pe_int) pa_nil))) pa_nil)))))))))), ?_⟩
  have all : ∀ (H1 : Hp) (n : Int) (H2 : Hp), Keep pen H H1 → Keep pen H1 H2 → PenN H2 pen → okN n → ∀ a, H2 a = none → Q (.ref a) (upd H2 a (.tup [.str "all", .int n])) := fun H1 n H2 k1 k2 P2 ho a ha => by
    refine q (.ref a) (.all n) _ (k1.trans (k2.trans (Keep.new ha _))) (P2.new ha _) ⟨a, rfl, upd_same⟩ ho (Nat.zero_le _) ?_
    have := (ok_fg ho).2.2.2
    show (fg n).length ≤ _
    cases e <;> (unfold wl; omega)
  refine ⟨_, rfl, rfl, _, rfl, ?_⟩
  cases e with
  | zero =>
    rw [decide_eq_true (show V.int ((0 : Nat) : Int) = V.int 0 from rfl)]
    exact iteT (iteT ⟨_, rfl, pen, rfl, P0, fun n H2 k2 P2 ho => ⟨szb rfl, all H n H2 (Keep.refl _ _) k2 P2 ho⟩⟩)
  | succ e =>
    rw [decide_eq_false (show ¬ V.int ((e + 1 : Nat) : Int) = V.int 0 from fun z => by have := V.int.inj z; omega)]
    refine iteF ⟨_, rfl, pen, 3, rfl, P0, by decide, by decide, fun t H1 k1 P1 a1 b1 => ⟨rfl, _, rfl, ?_⟩⟩
    refine ite2 (fun _ => ?_) (fun _ => ?_)
    · exact ⟨_, rfl, pen, rfl, P1, fun n H2 k2 P2 ho => ⟨szb rfl, all H1 n H2 k1 k2 P2 ho⟩⟩
    · refine ⟨_, rfl, pen, rfl, P1, fun n H2 k2 P2 ho => ?_⟩
      have ee : ((e + 1 : Nat) : Int) - 1 = (e : Int) := by omega
      refine ⟨_, rfl, _, rfl, _, _, rfl, rfl, ?_⟩
      refine ⟨pen, by rw [← ee]; rfl, P2, fun v1 p1 H3 k3 P3 hv1 hO1 hd1 hl1 => ?_⟩
      refine ⟨_, rfl, _, rfl, _, rfl, _, rfl, _, _, rfl, rfl, ?_⟩
      refine ⟨pen, by rw [← ee]; rfl, P3, fun v2 p2 H4 k4 P4 hv2 hO2 hd2 hl2 => ⟨szb rfl, fun a ha => ?_⟩⟩
      refine q (.ref a) (.split n p1 p2) _ (k1.trans (k2.trans (k3.trans (k4.trans (Keep.new ha _))))) (P4.new ha _) ⟨a, v1, v2, rfl, upd_same, (hv1.kp P3 k4).same (same_new ha _), hv2.same (same_new ha _)⟩ ⟨ho, hO1, hO2⟩ ?_ ?_
      · show 1 + max _ _ ≤ e + 1
        omega
      · rw [pt_split]
        have := (ok_fg ho).2.2.2
        show _ ≤ 53 + 2 * wl e
        omega
theorem ok__law_chain (d : Def K mg "_law_chain" s__law_chain ["_law_pen_here", "_law_deep"]) (z : Bz K mg cLeastError cBeyond cNoBounds cNoRow cNoSuch cNoText cTooMany) (c__law_many : Cal P w K mg base k__law_many "_law_many" ["_law_pen_here"] (sp__law_many K)) (c__law_take : Cal P w K mg base k__law_take "_law_take" ["_law_pen_here", "_law_size"] (sp__law_take K)) : Cal P w K mg base k__law_chain "_law_chain" ["_law_pen_here", "_law_deep"] (sp__law_chain K) := by
  have sc := sc__law_chain
  refine d.cal fun f fd F => F.ok sc (fun vs H Q E h => ?_) (fun cdv A outer s H vs Q E hr h => ?_)
  · obtain ⟨pen, n, rfl, _⟩ := h
    rfl
  obtain ⟨pen, n, rfl, P0, hn, q⟩ := h
  refine ⟨_, (pss_cons (ps_set (i := 2) sc.nd rfl (Or.inl rfl) (pe_tup (pa_cons pe_str (pa_cons (pe_fn c__law_many (hr.mono (by decide)) (by rfl) (pa_cons (pv 0) pa_nil)) pa_nil))))
 (pss_cons (ps_for PassesOwn.never rfl (pi_range1 rfl z.range_ (pa_cons (pv 1) pa_nil)) (pg_name (i := 3) sc.nd rfl (Or.inl rfl))
  (pss_cons (ps_set (i := 4) sc.nd rfl (Or.inl rfl) (pe_lst (pa_cons (pv 2) (pa_cons (pe_tup (pa_cons pe_str (pa_cons (pe_fn c__law_take (hr.mono (by decide)) (by rfl) (pa_cons (pv 0) (pa_cons pe_int pa_nil))) pa_nil))) pa_nil))))
 (pss_cons (ps_join (ps_if (pt_cmpR op_eq (pe_fn c__law_take (hr.mono (by decide)) (by rfl) (pa_cons (pv 0) (pa_cons pe_int pa_nil))) pe_int (nomark _))
  (pss_one (ps_set (i := 4) sc.nd rfl (Or.inl rfl) (pe_rev (pv 4))))
  pss_nil))
 (pss_one (ps_set (i := 2) sc.nd rfl (Or.inl rfl) (pe_tup (pa_cons pe_str (pa_cons (pe_fn c__law_take (hr.mono (by decide)) (by rfl) (pa_cons (pv 0) (pa_cons pe_int pa_nil))) (pa_cons (pe_ix ix_list (pv 4) pe_int (fun _ _ => rfl)) (pa_cons (pe_ix ix_list (pv 4) pe_int (fun _ _ => rfl)) pa_nil))))))))))
 (pss_one (ps_ret (pv 2))))), ?_⟩
  refine ⟨_, rfl, pen, rfl, P0, fun m H1 k1 P1 om => ⟨szb rfl, fun a0 ha0 => ?_⟩⟩
  have hm50 := (ok_fg om).2.2.2
  refine ⟨_, rfl, _, rfl, by omega, by omega, ?_⟩
  rw [show ((n : Int)).toNat = n by omega]
  refine for_range (n := n) (fun i σ G => ∃ (v : V) (p : Pp) (v3 v4 : Option V), σ = [some (.ref pen), some (.int (n : Int)), some v, v3, v4] ∧ Keep pen H G ∧ PenN G pen ∧ PpAt G v p ∧ OkP p ∧ dep p = i ∧ (ptL p).length ≤ 60 + 120 * i)
    ⟨.ref a0, .all m, none, none, rfl, k1.trans (Keep.new ha0 _), P1.new ha0 _, ⟨a0, rfl, upd_same⟩, om, rfl, by show (fg m).length ≤ _; omega⟩ ?_ ?_
  · rintro i σ G hi ⟨v, p, v3, v4, rfl, kG, PG, hv, hO, hd, hl⟩
    refine ⟨_, rfl, _, rfl, pen, 10, rfl, PG, by decide, by decide, fun t H2 k2 P2 a2 b2 => ⟨szb rfl, fun ta hta => ⟨szb rfl, fun hl1 hhl => ?_⟩⟩⟩
    have s3 := (same_new hta (.tup [V.str "all", .int t])).trans (same_new hhl (.lst [v, .ref ta]))
    have P3 := P2.same s3
    have hhn : hl1 ≠ pen := (P2.new hta _).fresh hhl
    have ot : okN t := ok_small a2 (by omega)
    have ht : PpAt (upd (upd H2 ta (.tup [V.str "all", .int t])) hl1 (.lst [v, .ref ta])) (.ref ta) (.all t) := ⟨ta, rfl, same_new hhl _ _ _ upd_same⟩
    have hv3 := (hv.kp PG k2).same s3
    have k3 : Keep pen H _ := kG.trans (k2.trans (Keep.same s3))
    have hh3 : upd (upd H2 ta (.tup [V.str "all", .int t])) hl1 (.lst [v, .ref ta]) hl1 = some (.lst [v, .ref ta]) := upd_same
    have tl : (fg t).length ≤ 50 := (ok_fg ot).2.2.2
    generalize upd (upd H2 ta (.tup [V.str "all", .int t])) hl1 (.lst [v, .ref ta]) = H3 at *
    refine ⟨fun σ G4 => ∃ (lv : Addr) (x y : V) (p1 p2 : Pp), σ = [some (.ref pen), some (.int (n : Int)), some v, some (.int (0 + (i : Int))), some (.ref lv)] ∧ Keep pen H G4 ∧ PenN G4 pen ∧ lv ≠ pen ∧ G4 lv = some (.lst [x, y]) ∧ PpAt G4 x p1 ∧ PpAt G4 y p2 ∧ OkP p1 ∧ OkP p2 ∧ max (dep p1) (dep p2) = i ∧ (ptL p1).length + (ptL p2).length ≤ 60 + 120 * i + 50, ?_, ?_⟩
    · refine ⟨_, rfl, pen, 2, rfl, P3, by decide, by decide, fun t2 H4 k4 P4 a4 b4 => ⟨rfl, _, rfl, ?_⟩⟩
      have hh4 := k4 _ _ hhn hh3
      refine ite2 (fun _ => ?_) (fun _ => ?_)
      · refine ⟨_, rfl, hl1, _, rfl, SqL.of hh4, fun rv hrv => ?_⟩
        have s5 := same_new hrv (.lst [V.ref ta, v])
        exact ⟨rv, .ref ta, v, .all t, p, rfl, k3.trans (k4.trans (Keep.same s5)), P4.same s5, P4.fresh hrv, upd_same, (ht.kp P3 k4).same s5, (hv3.kp P3 k4).same s5, ot, hO, by show max 0 _ = i; omega, by show (fg t).length + _ ≤ _; omega⟩
      · exact ⟨hl1, v, .ref ta, p, .all t, rfl, k3.trans k4, P4, hhn, hh4, hv3.kp P3 k4, ht.kp P3 k4, hO, ot, by show max _ 0 = i; omega, by show _ + (fg t).length ≤ _; omega⟩
    · rintro σ G4 ⟨lv, x, y, p1, p2, rfl, k4, P4, hlp, hlv, hx, hy, hO1, hO2, hd4, hl4⟩
      refine ⟨_, rfl, pen, 100, rfl, P4, by decide, by decide, fun t5 H5 k5 P5 a5 b5 => ?_⟩
      have o5 : okN t5 := ok_small a5 (by omega)
      have hlv5 := k5 _ _ hlp hlv
      refine ⟨_, rfl, lv, _, _, _, rfl, rfl, SqL.of hlv5, rfl, _, rfl, lv, _, _, _, rfl, rfl, SqL.of hlv5, rfl, szb rfl, fun a ha => ?_⟩
      have s6 := same_new ha (.tup [V.str "split", .int t5, x, y])
      refine ⟨.ref a, .split t5 p1 p2, _, _, rfl, k4.trans (k5.trans (Keep.same s6)), P5.same s6, ⟨a, x, y, rfl, upd_same, (hx.kp P4 k5).same s6, (hy.kp P4 k5).same s6⟩, ⟨o5, hO1, hO2⟩, ?_, ?_⟩
      · show 1 + max _ _ = i + 1
        omega
      · rw [pt_split]
        have := (ok_fg o5).2.2.2
        omega
  · rintro σ G ⟨v, p, v3, v4, rfl, kG, PG, hv, hO, hd, hl⟩
    exact ⟨_, rfl, q v p G kG PG hv hO hd hl⟩
end
/-! ### a paper written from a stack -/
inductive Itm where
  | pap (p : Pp)
  | sgn (x : Str)
def ItmAt (H : Hp) : V → Itm → Prop
  | v, .pap p => PpAt H v p ∧ OkP p
  | v, .sgn x => v = .str x ∧ 1 ≤ x.cps.toList.length
def itL : Itm → List Nat
  | .pap p => ptL p
  | .sgn x => x.cps.toList
def stkL (l : List Itm) : List Nat := l.flatMap itL
theorem ItmAt.tk {H H' : Hp} (k : TKeep H H') {v : V} {i : Itm} (h : ItmAt H v i) : ItmAt H' v i := by
  cases i with
  | pap p => exact ⟨h.1.tk k, h.2⟩
  | sgn x => exact h
theorem itm_pos {H : Hp} {v : V} {i : Itm} (h : ItmAt H v i) : 1 ≤ (itL i).length := by
  cases i with
  | pap p => exact Nat.le_trans (nodes_pos p) (pt_pos h.2)
  | sgn x => exact h.2
theorem stk_cons (i : Itm) (l : List Itm) : stkL (i :: l) = itL i ++ stkL l := List.flatMap_cons
theorem stk_len {H : Hp} : ∀ {ys : List V} {its : List Itm}, Paired (ItmAt H) ys its → ys.length ≤ (stkL its).length
  | _, _, .nil => Nat.zero_le _
  | _, _, .cons (a := a) (b := b) h r => by
    have := stk_len r
    have := itm_pos h
    rw [stk_cons, List.length_append, List.length_cons]
    omega
theorem pop_rev (y : V) (ys : List V) : (y :: ys).reverse[(y :: ys).reverse.length - 1]? = some y ∧ (y :: ys).reverse.dropLast = ys.reverse := by
  rw [List.reverse_cons]
  constructor
  · rw [List.length_append]
    simp
  · simp
theorem kit_tuple_str {K : PySem.W.Frag} : PySem.W.kitOne K (.type "tuple") (.type "str") = some false := by kernel_rfl
abbrev k__law_written : Nat := 1
def sp__law_written (_ : PySem.W.Frag) : Sp := fun vs H Q _ => ∃ (v : V) (p : Pp), vs = [v] ∧ PpAt H v p ∧ OkP p ∧ (ptL p).length ≤ 90000 ∧ ∀ H', Same H H' → Q (.str (mkS (ptL p))) H'
section
variable {P : Program} {w : World} {K : PySem.W.Frag} {mg : Str → Option Value} {base : Heap}
theorem ok__law_written (d : Def K mg "_law_written" s__law_written ["_law_paper_here"]) (z : Bz K mg cLeastError cBeyond cNoBounds cNoRow cNoSuch cNoText cTooMany)  : Cal P w K mg base k__law_written "_law_written" ["_law_paper_here"] (sp__law_written K) := by
  have sc := sc__law_written
  refine d.cal fun f fd F => F.ok sc (fun vs H Q E h => ?_) (fun cdv A outer s H vs Q E hr h => ?_)
  · obtain ⟨v, p, rfl, _⟩ := h
    rfl
  obtain ⟨v, p, rfl, hv, hO, hl, q⟩ := h
  refine ⟨_, (pss_cons (ps_set (i := 1) sc.nd rfl (Or.inl rfl) pe_str)
 (pss_cons (ps_set (i := 2) sc.nd rfl (Or.inl rfl) (pe_lst (pa_cons (pv 0) pa_nil)))
 (pss_cons (ps_while PassesOwn.never (pt_cmpR (op_neNil hr.units) (pv 2) (pe_lst pa_nil) (nomark _))
  (pss_cons (ps_set (i := 3) sc.nd rfl (Or.inl rfl) (pe_bm0 PySem.F.plainAttrs_list PySem.F.slot_list_pop PySem.F.type_list_pop mt_pop (pv 2)))
 (pss_one (ps_if (pt_val (pe_callB (call_isP (K := K) rfl) (by rfl) z.isinstance_ bt_isinstance (pa_cons (pv 3) (pa_cons (pe_bltn (v := .ty "str") (u := .type "str") (by rfl) z.str_ bt_str rfl) pa_nil))))
  (pss_one (ps_set (i := 1) sc.nd rfl (Or.inl rfl) (pe_op op_add_str (pv 1) (pv 3))))
  (pss_one (ps_if (pt_cmpR op_eq (pe_ix ix_tup (pv 3) pe_int (fun _ _ => rfl)) pe_str (nomark _))
  (pss_one (ps_set (i := 1) sc.nd rfl (Or.inl rfl) (pe_op op_add_str (pv 1) (pe_callTy call_str_int (by rfl) z.str_ bt_str (pa_cons (pe_ix ix_tup (pv 3) pe_int (fun _ _ => rfl)) pa_nil)))))
  (pss_cons (ps_set (i := 1) sc.nd rfl (Or.inl rfl) (pe_op op_add_str (pe_op op_add_str (pv 1) (pe_callTy call_str_int (by rfl) z.str_ bt_str (pa_cons (pe_ix ix_tup (pv 3) pe_int (fun _ _ => rfl)) pa_nil))) pe_str))
 (pss_one (ps_expr (pe_bm PySem.F.plainAttrs_list PySem.F.slot_list_extend PySem.F.type_list_extend mt_extend (pv 2) (pa_cons (pe_lst (pa_cons pe_str (pa_cons (pe_ix ix_tup (pv 3) pe_int (fun _ _ => rfl)) (pa_cons pe_str (pa_cons (pe_ix ix_tup (pv 3) pe_int (fun _ _ => rfl)) pa_nil))))) pa_nil)))))))))))
 (pss_one (ps_ret (pv 1)))))), ?_⟩
  refine ⟨_, rfl, szb rfl, fun wa hwa => ?_⟩
  have s0 := same_new hwa (.lst [v])
  refine ⟨fun m σ G => ∃ (fl : List Nat) (ys : List V) (its : List Itm) (v3 : Option V), m = (stkL its).length ∧ σ = [some v, some (.str (mkS fl)), some (.ref wa), v3] ∧ G wa = some (.lst ys.reverse) ∧ Paired (ItmAt G) ys its ∧ fl ++ stkL its = ptL p ∧ Same H G,
    ⟨_, [], [v], [.pap p], none, rfl, rfl, upd_same, .cons ⟨hv.same s0, hO⟩ .nil, by rw [stk_cons]; show [] ++ (ptL p ++ []) = _; simp, s0⟩, ?_⟩
  rintro m σ G ⟨fl, ys, its, v3, rfl, rfl, hG, hI, hf, sG⟩
  refine ⟨_, rfl, szb rfl, fun e0 he0 => ⟨wa, e0, _, rfl, rfl, SqL.of (same_new he0 _ _ _ hG), SqL.of upd_same, _, rfl, ?_⟩⟩
  have s1 := same_new he0 (.lst [])
  have hG1 := s1 _ _ hG
  have sG1 := sG.trans s1
  have hI1 : Paired (ItmAt (upd G e0 (.lst []))) ys its := L2.Paired.mapP hI fun _ _ z => z.tk (TKeep.same s1)
  generalize upd G e0 (.lst []) = G1 at *
  clear hG hI s1 he0
  have hlen := congrArg List.length hf
  rw [List.length_append] at hlen
  have hsl := stk_len hI1
  cases hI1 with
  | nil =>
    refine iteF ⟨_, rfl, ?_⟩
    have e : fl = ptL p := by rw [← hf]; show _ = fl ++ []; simp
    rw [e]
    exact q G1 sG1
  | @cons y i ys' its' hy hr =>
    rw [show (!((y :: ys').reverse).isEmpty) = true by simp]
    refine iteT ⟨_, fun σ G' z => z, ?_⟩
    obtain ⟨p1, p2⟩ := pop_rev y ys'
    refine ⟨_, rfl, .inl ⟨rfl, _, SqL.of hG1⟩, wa, _, y, rfl, rfl, hG1, p1, ?_⟩
    rw [p2]
    have tk2 : TKeep G1 (upd G1 wa (.lst ys'.reverse)) := TKeep.set hG1
    have sG2 : Same H (upd G1 wa (.lst ys'.reverse)) := own2 sG1 hwa
    have hG2 : upd G1 wa (.lst ys'.reverse) wa = some (.lst ys'.reverse) := upd_same
    have hy2 := hy.tk tk2
    have hr2 : Paired (ItmAt (upd G1 wa (.lst ys'.reverse))) ys' its' := L2.Paired.mapP hr fun _ _ z => z.tk tk2
    have hip := itm_pos hy
    generalize upd G1 wa (.lst ys'.reverse) = G2 at *
    clear hy hr hG1 tk2 sG1
    rw [stk_cons] at hf hlen hsl
    rw [List.length_append] at hlen hsl
    have hfl : (mkS fl).length = fl.length := mkS_len fl
    cases i with
    | sgn x =>
      obtain ⟨rfl, hx⟩ := hy2
      have hxl := len_l x
      have hlen' : fl.length + (x.cps.toList.length + (stkL its').length) = (ptL p).length := hlen
      refine ⟨_, rfl, _, _, _, _, rfl, .inl (.str _), kit_str_str, true, rfl, iteT ?_⟩
      refine ⟨_, rfl, _, rfl, _, _, rfl, rfl, sl51 (by omega), ?_⟩
      refine ⟨_, by show (stkL its').length < _; rw [stk_cons, List.length_append]; omega, fl ++ x.cps.toList, ys', its', some (.str x), rfl, ?_, hG2, hr2, ?_, sG2⟩
      · rw [← mkS_app, mkS_of]
        rfl
      · rw [List.append_assoc]
        exact hf
    | pap p0 =>
      cases p0 with
      | all n =>
        obtain ⟨⟨a, rfl, ha⟩, hO0⟩ := hy2
        have ho : okN n := hO0
        have ho1 := ho.1
        have ho2 := ho.2
        have hn := ok_fg ho
        have hlen' : fl.length + ((fg n).length + (stkL its').length) = (ptL p).length := hlen
        refine ⟨_, rfl, _, _, _, _, rfl, .inl (.tup ha), kit_tuple_str, false, rfl, iteF ?_⟩
        refine ⟨_, rfl, a, _, _, _, rfl, rfl, SqT.of ha, rfl, rfl, _, rfl, ?_⟩
        rw [decide_eq_true rfl]
        have hnl : (tx n).length = (fg n).length := mkS_len _
        refine iteT ⟨_, rfl, _, rfl, a, _, _, _, rfl, rfl, SqT.of ha, rfl, n, rfl, lg60 (by omega) (by omega), _, _, rfl, rfl, sl51 (by rw [hfl]; show _ + (tx n).length ≤ _; omega), ?_⟩
        refine ⟨_, by show (stkL its').length < _; rw [stk_cons, List.length_append]; show _ < (fg n).length + _; omega, fl ++ fg n, ys', its', some (.ref a), rfl, ?_, hG2, hr2, ?_, sG2⟩
        · rw [← mkS_app]
          rfl
        · rw [List.append_assoc]
          exact hf
      | split n l r =>
        obtain ⟨⟨a, x, y, rfl, ha, hx, hy⟩, hO0⟩ := hy2
        have ho : okN n := hO0.1
        have ho1 := ho.1
        have ho2 := ho.2
        have hn := ok_fg ho
        have hps := pt_split n l r
        have hlen' : fl.length + ((ptL (.split n l r)).length + (stkL its').length) = (ptL p).length := hlen
        refine ⟨_, rfl, _, _, _, _, rfl, .inl (.tup ha), kit_tuple_str, false, rfl, iteF ?_⟩
        refine ⟨_, rfl, a, _, _, _, rfl, rfl, SqT.of ha, rfl, rfl, _, rfl, ?_⟩
        rw [decide_eq_false (show ¬ V.str "split" = V.str "all" from fun z => absurd (V.str.inj z) (by decide +kernel))]
        have hnl : (tx n).length = (fg n).length := mkS_len _
        have c1 : ("(" : Str).length = 1 := by decide +kernel
        refine iteF ⟨_, rfl, _, rfl, a, _, _, _, rfl, rfl, SqT.of ha, rfl, n, rfl, lg60 (by omega) (by omega), _, _, rfl, rfl, sl51 (by rw [hfl]; show _ + (tx n).length ≤ _; omega), _, _, rfl, rfl, sl51 (by rw [Str.length_append, hfl, c1]; show _ + (tx n).length + 1 ≤ _; omega), ?_⟩
        refine ⟨_, rfl, .inl ⟨rfl, _, SqL.of hG2⟩, _, rfl, a, _, _, _, rfl, rfl, SqT.of ha, rfl, _, rfl, a, _, _, _, rfl, rfl, SqT.of ha, rfl, szb rfl, fun dl hdl => ?_⟩
        have s3 := same_new hdl (.lst [V.str ")", y, .str ",", x])
        have hne : dl ≠ wa := fun z => by rw [z, hG2] at hdl; cases hdl
        refine ⟨wa, dl, _, _, rfl, rfl, s3 _ _ hG2, upd_same, by rw [List.length_reverse]; exact sl51 (by show ys'.length + 4 ≤ _; rw [List.length_cons] at hsl; omega), ?_⟩
        have tk4 : TKeep G2 (upd (upd G2 dl (.lst [V.str ")", y, .str ",", x])) wa (.lst (ys'.reverse ++ [V.str ")", y, .str ",", x]))) := (TKeep.same s3).trans (TKeep.set (s3 _ _ hG2))
        refine ⟨(stkL (.pap l :: .sgn "," :: .pap r :: .sgn ")" :: its')).length, ?_, fl ++ fg n ++ [40], x :: .str "," :: y :: .str ")" :: ys', .pap l :: .sgn "," :: .pap r :: .sgn ")" :: its', some (.ref a), rfl, ?_, ?_, ?_, ?_, own2 (sG2.trans s3) hwa⟩
        · simp only [stk_cons, List.length_append]
          have d1 : (itL (.sgn ",")).length = 1 := by decide +kernel
          have d2 : (itL (.sgn ")")).length = 1 := by decide +kernel
          rw [d1, d2]
          show (ptL l).length + (1 + ((ptL r).length + (1 + _))) < (ptL (.split n l r)).length + _
          omega
        · rw [← mkS_app, ← mkS_app]
          rfl
        · rw [upd_same]
          simp
        · exact .cons ⟨hx.tk tk4, hO0.2.1⟩ (.cons ⟨rfl, by decide +kernel⟩ (.cons ⟨hy.tk tk4, hO0.2.2⟩ (.cons ⟨rfl, by decide +kernel⟩ (L2.Paired.mapP hr2 fun _ _ z => z.tk tk4))))
        · rw [← hf]
          simp only [stk_cons]
          have d1 : itL (.sgn ",") = [44] := by decide +kernel
          have d2 : itL (.sgn ")") = [41] := by decide +kernel
          rw [d1, d2]
          show fl ++ fg n ++ [40] ++ (ptL l ++ ([44] ++ (ptL r ++ ([41] ++ stkL its')))) = fl ++ ((fg n ++ 40 :: (ptL l ++ 44 :: (ptL r ++ [41]))) ++ stkL its')
          simp
end
theorem tw_mem : ∀ {l : List Nat} {c : Nat}, c ∈ l.takeWhile isD → isD c = true
  | [], c, h => by simp at h
  | d :: r, c, h => by
    cases hd : isD d with
    | false => rw [List.takeWhile_cons, hd] at h; simp at h
    | true =>
      rw [List.takeWhile_cons, hd] at h
      rcases List.mem_cons.mp h with e | h
      · rw [e]; exact hd
      · exact tw_mem h
/-! ### what is no number, no row, no paper -/
theorem rd_mem {l : List Nat} {n : Int} (h : rdN l = some n) : ∀ c ∈ l, isD c = true ∨ c = 45 := by
  cases l with
  | nil => cases h
  | cons d r =>
    rw [rdN_cons] at h
    by_cases c45 : d = 45
    · rw [if_pos c45] at h
      by_cases z : figB r = true ∧ r ≠ [48]
      · intro c hc
        rcases List.mem_cons.mp hc with e | hc
        · exact .inr (e.trans c45)
        · exact .inl ((isD_iff c).mpr ((fig_all z.1).1 c hc))
      · rw [if_neg z] at h; cases h
    · rw [if_neg c45] at h
      by_cases z : figB (d :: r) = true
      · exact fun c hc => .inl ((isD_iff c).mpr ((fig_all z).1 c hc))
      · rw [if_neg z] at h; cases h
theorem rd_bad {l : List Nat} {c : Nat} (hc : c ∈ l) (h1 : isD c = false) (h2 : c ≠ 45) : rdN l = none := by
  cases h : rdN l with
  | none => rfl
  | some n =>
    rcases rd_mem h c hc with z | z
    · rw [h1] at z; cases z
    · exact absurd z h2
theorem fig_long {l : List Nat} (h : 50 < l.length) : figB l = false := by
  cases e : figB l with
  | false => rfl
  | true => have := (fig_all e).2.2; omega
theorem fig_non {l : List Nat} {c : Nat} (hc : c ∈ l) (h : isD c = false) : figB l = false := by
  cases e : figB l with
  | false => rfl
  | true =>
    have := (isD_iff c).mpr ((fig_all e).1 c hc)
    rw [h] at this
    cases this
theorem fig_zero {l : List Nat} (h : l ≠ []) : figB (48 :: l) = false := by
  unfold figB
  rw [decide_eq_false (show ¬ 48 :: l = [48] from fun z => h (List.cons.inj z).2)]
  simp
theorem rd_long1 {d : Nat} {r : List Nat} (hd : d ≠ 45) (h : 50 < (d :: r).length) : rdN (d :: r) = none := by
  rw [rdN_cons, if_neg hd, fig_long h]
  rfl
theorem rd_zero {l : List Nat} (h : l ≠ []) : rdN (48 :: l) = none := by
  rw [rdN_cons, if_neg (by decide), fig_zero h]
  rfl
theorem rd_minus {l : List Nat} (h : figB l = false) : rdN (45 :: l) = none := by
  rw [rdN_cons, if_pos rfl, if_neg (fun z => by rw [h] at z; cases z.1)]
theorem rd_pos {d : Nat} {r : List Nat} (hd : d ≠ 45) (h : figB (d :: r) = false) : rdN (d :: r) = none := by
  rw [rdN_cons, if_neg hd, h]
  rfl
/-! rows -/
theorem spl (x : Str) : Str.join ⟨#[32]⟩ (Txt.split x " ") = x := by
  rw [spc]
  exact StrLaws.join_split x ⟨#[32]⟩
theorem join_mem (s : Str) : ∀ (xs : List Str), ∀ c ∈ (Str.join s xs).cps.toList, c ∈ s.cps.toList ∨ ∃ p ∈ xs, c ∈ p.cps.toList
  | [], c, h => by
    have : c ∈ ([] : List Nat) := h
    simp at this
  | [x], c, h => .inr ⟨x, List.mem_cons_self .., h⟩
  | x :: y :: r, c, h => by
    rw [join_cons] at h
    rcases List.mem_append.mp h with h | h
    · exact .inr ⟨x, List.mem_cons_self .., h⟩
    · rcases List.mem_append.mp h with h | h
      · exact .inl h
      · rcases join_mem s (y :: r) c h with z | ⟨p, hp, z⟩
        · exact .inl z
        · exact .inr ⟨p, List.mem_cons_of_mem _ hp, z⟩
theorem row_bad {x : Str} {c : Nat} (hc : c ∈ x.cps.toList) (h1 : isD c = false) (h2 : c ≠ 45) (h3 : c ≠ 32) : rdR x = none := by
  have hx : x ≠ "" := fun z => by
    rw [z, show ("" : Str).cps.toList = [] by decide +kernel] at hc
    simp at hc
  unfold rdR
  rw [if_neg hx]
  have hc' := hc
  rw [← spl x] at hc'
  rcases join_mem _ _ c hc' with z | ⟨p, hp, z⟩
  · have z' : c ∈ [32] := z
    exact absurd (List.mem_singleton.mp z') h3
  · obtain ⟨i, hi⟩ := List.mem_iff_getElem?.mp hp
    exact rdAll_none hi (rd_bad z h1 h2)
theorem row_words {xs : List Str} {y : Str} (hne : 2 ≤ xs.length) (hf : ∀ p ∈ xs, 32 ∉ p.cps.toList) (hy : y ∈ xs) (hb : rdN y.cps.toList = none) : rdR (Txt.join " " xs) = none := by
  have hj : Txt.join " " xs = Str.join ⟨#[32]⟩ xs := by
    rw [spc]
    exact StrLaws.glued_eq_join _ _
  have hx : Txt.join " " xs ≠ "" := fun z => by
    have : (Str.join ⟨#[32]⟩ xs).cps.toList = [] := by rw [← hj, z]; decide +kernel
    match xs, hne with
    | a :: b :: r, _ =>
      rw [join_cons] at this
      have h2 := (List.append_eq_nil_iff.mp this).2
      cases h2
  unfold rdR
  rw [if_neg hx, spc, ← spc, hj, spc, split_join (fun z => by rw [z] at hne; cases hne) hf]
  obtain ⟨i, hi⟩ := List.mem_iff_getElem?.mp hy
  exact rdAll_none hi hb
theorem join_front {xs : List Str} (h : xs ≠ []) : (" " : Str) ++ Txt.join " " xs = Txt.join " " ("" :: xs) := by
  have e1 : Txt.join " " xs = Str.join " " xs := StrLaws.glued_eq_join _ _
  have e2 : Txt.join " " ("" :: xs) = Str.join " " ("" :: xs) := StrLaws.glued_eq_join _ _
  rw [e1, e2]
  apply str_eq
  cases xs with
  | nil => exact absurd rfl h
  | cons y r =>
    rw [join_cons, PyProof.Rows.cps_toList_append, show ("" : Str).cps.toList = [] by decide +kernel]
    rfl
theorem join_back : ∀ {xs : List Str}, xs ≠ [] → (Str.join " " xs).cps.toList ++ (" " : Str).cps.toList = (Str.join " " (xs ++ [("" : Str)])).cps.toList
  | [], h => absurd rfl h
  | [x], _ => by
    show _ = (Str.join " " [x, ""]).cps.toList
    rw [join_cons]
    show x.cps.toList ++ (" " : Str).cps.toList = x.cps.toList ++ ((" " : Str).cps.toList ++ ("" : Str).cps.toList)
    rw [show ("" : Str).cps.toList = [] by decide +kernel, List.append_nil]
  | x :: y :: r, _ => by
    have ih := join_back (xs := y :: r) (by simp)
    show _ = (Str.join " " (x :: y :: (r ++ [("" : Str)]))).cps.toList
    rw [join_cons, join_cons, ← List.cons_append, ← ih]
    simp
/-! papers -/
theorem okT_none {l : List Nat} (h : prsP 100 l = none) : okT l = false := by
  unfold okT
  rw [h]
theorem okT_rest {l : List Nat} {p : Pp} {c : Nat} {r : List Nat} (h : prsP 100 l = some (p, c :: r)) : okT l = false := by
  unfold okT
  rw [h]
theorem okT_true {l : List Nat} (h : okT l = true) : ∃ p, prsP 100 l = some (p, []) := by
  unfold okT at h
  split at h
  · rename_i p e; exact ⟨p, e⟩
  · cases h
def inP (c : Nat) : Bool := isD c || c == 40 || c == 41 || c == 44
theorem head_mem {m : List Nat} {c d : Nat} (h : m.head? = some c) (hd : d ∈ m) : d = c ∨ d ∈ m.drop 1 := by
  cases m with
  | nil => cases h
  | cons a r =>
    cases h
    rcases List.mem_cons.mp hd with e | e
    · exact .inl e
    · exact .inr e
/-- what was read is written with figures, brackets and commas -/
theorem prs_signs : ∀ {e : Nat} {l r : List Nat} {p : Pp}, prsP e l = some (p, r) → ∀ c ∈ l, inP c = true ∨ c ∈ r := by
  intro e
  induction e with
  | zero =>
    intro l r p h c hc
    obtain ⟨n, hn, hcase⟩ := prs_case h
    rcases hcase with ⟨_, _, rfl⟩ | ⟨e', a, b, r1, r2, _, he, _⟩
    · rw [← List.takeWhile_append_dropWhile (p := isD) (l := l)] at hc
      rcases List.mem_append.mp hc with z | z
      · left
        have := tw_mem z
        unfold inP
        rw [this]
        rfl
      · exact .inr z
    · cases he
  | succ e ih =>
    intro l r p h c hc
    obtain ⟨n, hn, hcase⟩ := prs_case h
    rw [← List.takeWhile_append_dropWhile (p := isD) (l := l)] at hc
    have dig : c ∈ l.takeWhile isD → inP c = true := fun z => by
      have := tw_mem z
      unfold inP
      rw [this]
      rfl
    rcases hcase with ⟨_, _, rfl⟩ | ⟨e', a, b, r1, r2, h40, he, hp1, h44, hp2, h41, _, rfl⟩
    · rcases List.mem_append.mp hc with z | z
      · exact .inl (dig z)
      · exact .inr z
    · cases he
      rcases List.mem_append.mp hc with z | z
      · exact .inl (dig z)
      rcases head_mem h40 z with rfl | z
      · exact .inl (by decide)
      rcases ih hp1 c z with z | z
      · exact .inl z
      rcases head_mem h44 z with rfl | z
      · exact .inl (by decide)
      rcases ih hp2 c z with z | z
      · exact .inl z
      rcases head_mem h41 z with rfl | z
      · exact .inl (by decide)
      · exact .inr z
theorem paper_bad {l : List Nat} {c : Nat} (hc : c ∈ l) (h : inP c = false) : okT l = false := by
  cases e : okT l with
  | false => rfl
  | true =>
    obtain ⟨p, hp⟩ := okT_true e
    rcases prs_signs hp c hc with z | z
    · rw [h] at z; cases z
    · simp at z
theorem prs_dep : ∀ {e : Nat} {l r : List Nat} {p : Pp}, prsP e l = some (p, r) → dep p ≤ e := by
  intro e
  induction e with
  | zero =>
    intro l r p h
    obtain ⟨n, hn, hcase⟩ := prs_case h
    rcases hcase with ⟨_, rfl, _⟩ | ⟨e', a, b, r1, r2, _, he, _⟩
    · exact Nat.le_refl _
    · cases he
  | succ e ih =>
    intro l r p h
    obtain ⟨n, hn, hcase⟩ := prs_case h
    rcases hcase with ⟨_, rfl, _⟩ | ⟨e', a, b, r1, r2, h40, he, hp1, h44, hp2, h41, rfl, _⟩
    · exact Nat.zero_le _
    · cases he
      have i1 := ih hp1
      have i2 := ih hp2
      show 1 + max _ _ ≤ _
      omega
theorem prs_up : ∀ {e : Nat} {l r : List Nat} {p : Pp}, prsP e l = some (p, r) → ∀ {m : Nat}, e ≤ m → prsP m l = some (p, r) := by
  intro e
  induction e with
  | zero =>
    intro l r p h m _
    obtain ⟨n, hn, hcase⟩ := prs_case h
    rcases hcase with ⟨h40, rfl, rfl⟩ | ⟨e', a, b, r1, r2, _, he, _⟩
    · exact prs_all hn h40
    · cases he
  | succ e ih =>
    intro l r p h m hm
    obtain ⟨n, hn, hcase⟩ := prs_case h
    rcases hcase with ⟨h40, rfl, rfl⟩ | ⟨e', a, b, r1, r2, h40, he, hp1, h44, hp2, h41, rfl, rfl⟩
    · exact prs_all hn h40
    · cases he
      obtain ⟨m', rfl⟩ : ∃ m', m = m' + 1 := ⟨m - 1, by omega⟩
      exact prsS hn h40 (ih hp1 (by omega)) h44 (ih hp2 (by omega)) h41
/-- brackets more than a hundred deep -/
theorem paper_deep {p : Pp} (hO : OkP p) (hd : 100 < dep p) : okT (ptL p) = false := by
  cases e : okT (ptL p) with
  | false => rfl
  | true =>
    obtain ⟨q, hq⟩ := okT_true e
    have h1 := prs_up hq (m := dep p) (by omega)
    have h2 := prs_pt (r := []) hO (Nat.le_refl _) (fun c hc => by cases hc)
    rw [List.append_nil, h1] at h2
    have h3 := prs_dep hq
    cases h2
    omega
theorem okT_lead {l : List Nat} (h : rdN (l.takeWhile isD) = none) : okT l = false := okT_none (prs_none h)
theorem zero_paper {p : Pp} (hO : OkP p) : okT (48 :: ptL p) = false := by
  obtain ⟨n, r, e, ho, hr⟩ : ∃ n r, ptL p = fg n ++ r ∧ okN n ∧ ∀ c, r.head? = some c → isD c = false := by
    cases p with
    | all n => exact ⟨n, [], (List.append_nil _).symm, hO, fun c hc => by cases hc⟩
    | split n a b => exact ⟨n, _, rfl, hO.1, fun c hc => by cases hc; rfl⟩
  have hf := ok_fg ho
  have t := (tw_app (a := 48 :: fg n) (r := r) (fun c hc => by
    rcases List.mem_cons.mp hc with rfl | hc
    · rfl
    · exact hf.1 c hc) hr).1
  rw [e]
  refine okT_lead ?_
  rw [show 48 :: (fg n ++ r) = (48 :: fg n) ++ r from rfl, t]
  exact rd_zero fun z => by rw [z] at hf; exact absurd hf.2.2.1 (by decide)
theorem behind_paper {p : Pp} {c : Nat} {r : List Nat} (hO : OkP p) (hd : dep p ≤ 100) (h1 : isD c = false) (h2 : c ≠ 40) : okT (ptL p ++ c :: r) = false := by
  refine okT_rest (p := p) (c := c) (r := r) (prs_pt hO hd fun d hd => ?_)
  cases hd
  exact ⟨h1, h2⟩
/-- a split of which the end is other than it should be -/
theorem whole_prs {m : Int} {q : Pp} {r : List Nat} (hm : okN m) (hO : OkP q) (hd : dep q ≤ 99) (hr : ∀ c, r.head? = some c → isD c = false ∧ c ≠ 40 ∧ c ≠ 41) : okT (fg 5 ++ 40 :: (fg m ++ 44 :: (ptL q ++ r))) = false := by
  obtain ⟨f1, f2, _⟩ := ok_fg (n := 5) ⟨by decide, by decide⟩
  obtain ⟨t1, t2⟩ := tw_app f1 (r := 40 :: (fg m ++ 44 :: (ptL q ++ r))) fun c hc => by cases hc; rfl
  refine okT_none (prsF4 (e := 99) (n := 5) (a := .all m) (b := q) (r1 := 44 :: (ptL q ++ r)) (r2 := r) (by rw [t1]; exact f2) (by rw [t2]; rfl) ?_ rfl ?_ (fun z => (hr 41 z).2.2 rfl))
  · rw [t2]
    exact prs_pt (p := .all m) hm (Nat.zero_le _) fun c hc => by cases hc; exact ⟨rfl, by decide⟩
  · exact prs_pt hO hd fun c hc => ⟨(hr c hc).1, (hr c hc).2.1⟩
/-- a bracket opened, then a comma -/
theorem comma_prs {r : List Nat} : okT (fg 5 ++ 40 :: 44 :: r) = false := by
  obtain ⟨f1, f2, _⟩ := ok_fg (n := 5) ⟨by decide, by decide⟩
  obtain ⟨t1, t2⟩ := tw_app f1 (r := 40 :: 44 :: r) fun c hc => by cases hc; rfl
  exact okT_none (prsF1 (e := 99) (n := 5) (by rw [t1]; exact f2) (by rw [t2]; rfl) (by rw [t2]; exact prs_none rfl))
/-- figures ahead of a paper: what is read ends where the paper ends -/
theorem prs_ahead {e : Nat} {ds r : List Nat} (hds : ∀ c ∈ ds, isD c = true) {q : Pp} (hO : OkP q) (hr : ∀ c, r.head? = some c → isD c = false ∧ c ≠ 40) {p : Pp} {r' : List Nat} (h : prsP e (ds ++ (ptL q ++ r)) = some (p, r')) : r' = r := by
  cases q with
  | all n =>
    have hf := ok_fg (n := n) hO
    obtain ⟨t1, t2⟩ := tw_app (a := ds ++ fg n) (r := r) (fun c hc => (List.mem_append.mp hc).elim (hds c) (hf.1 c)) fun c hc => (hr c hc).1
    have el : ds ++ (ptL (.all n) ++ r) = (ds ++ fg n) ++ r := by rw [List.append_assoc]; rfl
    rw [el] at h
    obtain ⟨k, hk, hcase⟩ := prs_case h
    rw [t2] at hcase
    rcases hcase with ⟨_, _, e3⟩ | ⟨_, _, _, _, _, h40, _⟩
    · exact e3
    · exact absurd rfl (hr 40 h40).2
  | split n a b =>
    have hf := ok_fg (n := n) hO.1
    obtain ⟨t1, t2⟩ := tw_app (a := ds ++ fg n) (r := 40 :: (ptL a ++ 44 :: (ptL b ++ 41 :: r))) (fun c hc => (List.mem_append.mp hc).elim (hds c) (hf.1 c)) fun c hc => by cases hc; rfl
    have el : ds ++ (ptL (.split n a b) ++ r) = (ds ++ fg n) ++ 40 :: (ptL a ++ 44 :: (ptL b ++ 41 :: r)) := by
      show ds ++ ((fg n ++ 40 :: (ptL a ++ 44 :: (ptL b ++ [41]))) ++ r) = _
      simp
    rw [el] at h
    obtain ⟨k, hk, hcase⟩ := prs_case h
    rw [t2] at hcase
    rcases hcase with ⟨h40, _, _⟩ | ⟨e', a', b', r1, r2, _, _, hp1, h44, hp2, h41, _, e3⟩
    · exact absurd rfl h40
    · have u1 : prsP e' (ptL a ++ 44 :: (ptL b ++ 41 :: r)) = some (a', r1) := hp1
      have v1 := prs_pt (e := max e' (dep a)) (r := 44 :: (ptL b ++ 41 :: r)) hO.2.1 (Nat.le_max_right _ _) (fun c hc => by cases hc; exact ⟨rfl, by decide⟩)
      rw [prs_up u1 (Nat.le_max_left _ _)] at v1
      cases v1
      have u2 : prsP e' (ptL b ++ 41 :: r) = some (b', r2) := hp2
      have v2 := prs_pt (e := max e' (dep b)) (r := 41 :: r) hO.2.2 (Nat.le_max_right _ _) (fun c hc => by cases hc; exact ⟨rfl, by decide⟩)
      rw [prs_up u2 (Nat.le_max_left _ _)] at v2
      cases v2
      exact e3
/-- the first comma left out -/
theorem nocomma_prs {m : Int} {q : Pp} (hm : okN m) (hO : OkP q) : okT (fg 5 ++ 40 :: (fg m ++ (ptL q ++ [41]))) = false := by
  obtain ⟨f1, f2, _⟩ := ok_fg (n := 5) ⟨by decide, by decide⟩
  obtain ⟨t1, t2⟩ := tw_app f1 (r := 40 :: (fg m ++ (ptL q ++ [41]))) fun c hc => by cases hc; rfl
  cases h : prsP 99 (fg m ++ (ptL q ++ [41])) with
  | none => exact okT_none (prsF1 (e := 99) (n := 5) (by rw [t1]; exact f2) (by rw [t2]; rfl) (by rw [t2]; exact h))
  | some pr =>
    obtain ⟨p, r'⟩ := pr
    have := prs_ahead (ok_fg hm).1 hO (fun c hc => by cases hc; exact ⟨rfl, by decide⟩) h
    subst this
    exact okT_none (prsF2 (e := 99) (n := 5) (a := p) (r1 := [41]) (by rw [t1]; exact f2) (by rw [t2]; rfl) (by rw [t2]; exact h) (by decide))
theorem tyOf_same {K : PySem.W.Frag} {H H' : Hp} {v : V} {t : Value} (h : TyOf K H v t) (s : Same H H') : TyOf K H' v t := by
  cases h with
  | non => exact .non
  | bl x => exact .bl x
  | int i => exact .int i
  | str x => exact .str x
  | flt x => exact .flt x
  | lst e => exact .lst (s _ _ e)
  | frz e => exact .frz (s _ _ e)
  | tup e => exact .tup (s _ _ e)
  | dK e => exact .dK (s _ _ e)
  | dT e => exact .dT (s _ _ e)
  | ins e a b c d f => exact .ins (s _ _ e) a b c d f
theorem NoStr.same {K : PySem.W.Frag} {H H' : Hp} {v : V} (h : NoStr K H v) (s : Same H H') : NoStr K H' v := by
  obtain ⟨t, a, b⟩ := h
  exact ⟨t, tyOf_same a s, b⟩
def Bad (K : PySem.W.Frag) (H : Hp) (wh : Int) (v : V) : Prop := NoStr K H v ∨ ∃ x : Str, v = .str x ∧ x.length ≤ 90000 ∧ (wh = 0 → rdN x.cps.toList = none) ∧ (wh = 1 → rdR x = none) ∧ (wh = 2 → okT x.cps.toList = false)
abbrev k__law_refused : Nat := 105
def sp__law_refused (K : PySem.W.Frag) : Sp := fun vs H Q _ => ∃ (wh : Int) (v : V), vs = [.int wh, v] ∧ (wh = 0 ∨ wh = 1 ∨ wh = 2) ∧ Bad K H wh v ∧ ∀ H', Same H H' → Q (.bl true) H'
abbrev k__law_with_sign : Nat := 2
def sp__law_with_sign (_ : PySem.W.Frag) : Sp := fun vs H Q _ => ∃ (pen : Addr) (x sg : Str), vs = [.ref pen, .str x, .str sg] ∧ PenN H pen ∧ x.length ≤ 80000 ∧ 1 ≤ sg.length ∧ sg.length ≤ 1000 ∧
  ∀ (a b : List Nat) (c : Nat) (H' : Hp), Keep pen H H' → PenN H' pen → x.cps.toList = a ++ b → c ∈ sg.cps.toList → Q (.str (mkS (a ++ c :: b))) H'
abbrev k__law_no_number : Nat := 3
def sp__law_no_number (_ : PySem.W.Frag) : Sp := fun vs H Q _ => ∃ pen : Addr, vs = [.ref pen] ∧ PenN H pen ∧ ∀ (x : Str) (H' : Hp), Keep pen H H' → PenN H' pen → x.length ≤ 90000 → rdN x.cps.toList = none → Q (.str x) H'
theorem slice_to {x : Str} {a : Nat} (h : a ≤ x.cps.toList.length) : Txt.slice x none (some (a : Int)) = mkS (x.cps.toList.take a) := by
  have e := StrLaws.sliceText_to (x := x) (j := (a : Int)) (by omega)
  refine Eq.trans (show Txt.slice x none (some (a : Int)) = _ from e) ?_
  rw [List.drop_zero, show ((a : Int) - 0).toNat = a by omega]
  rfl
theorem slice_from {x : Str} {a : Nat} (h : a ≤ x.cps.toList.length) : Txt.slice x (some (a : Int)) none = mkS (x.cps.toList.drop a) := by
  have e := StrLaws.sliceText_from (x := x) (i := (a : Int)) (by omega)
  refine Eq.trans (show Txt.slice x (some (a : Int)) none = _ from e) ?_
  rw [show ((a : Int)).toNat = a by omega, List.take_of_length_le (by rw [List.length_drop]; omega)]
  rfl
theorem atI_strs {l : List Str} {i : Int} (h0 : 0 ≤ i) (h1 : i < (l.length : Int)) : ∃ v, v ∈ l ∧ atI (l.map V.str) i = some (.str v) := by
  obtain ⟨k, rfl⟩ := Int.eq_ofNat_of_zero_le h0
  have hk : k < l.length := by omega
  refine ⟨l[k], List.getElem_mem hk, atI_nat ?_⟩
  rw [List.getElem?_map, List.getElem?_eq_getElem hk]
  rfl
theorem lst_app (x : Str) (y : Str) : (x ++ y).cps.toList = x.cps.toList ++ y.cps.toList := PyProof.Rows.cps_toList_append x y
theorem app_len (x y : Str) : (x ++ y).length = x.length + y.length := Str.length_append x y
section
variable {P : Program} {w : World} {K : PySem.W.Frag} {mg : Str → Option Value} {base : Heap}
theorem ok__law_refused (d : Def K mg "_law_refused" s__law_refused ["_law_which", "_law_text"]) (z : Bz K mg cLeastError cBeyond cNoBounds cNoRow cNoSuch cNoText cTooMany) (c1_read_number : CalX P w K mg base k_read_number "read_number" ["text"] (sp1_read_number K cNoText)) (c1_read_paper : CalX P w K mg base k_read_paper "read_paper" ["text"] (sp1_read_paper K cNoText)) (c1_read_row : CalX P w K mg base k_read_row "read_row" ["text"] (sp1_read_row K cNoText)) : Cal P w K mg base k__law_refused "_law_refused" ["_law_which", "_law_text"] (sp__law_refused K) := by
  have sc := sc__law_refused
  refine d.cal fun f fd F => F.ok sc (fun vs H Q E h => ?_) (fun cdv A outer s H vs Q E hr h => ?_)
  · obtain ⟨wh, v, rfl, _⟩ := h
    rfl
  obtain ⟨wh, v, rfl, hwh, hb, q⟩ := h
  refine ⟨_, (pss_cons (ps_set (i := 2) sc.nd rfl (Or.inl rfl) (pe_lst pa_nil))
 (pss_cons (ps_tryIf (i := 3) rfl rfl (pt_cmpR op_eq (pv 0) pe_int (nomark _)) (pt_cmpR op_eq (pv 0) pe_int (nomark _)) c1_read_number (hr.mono (by decide)) (by rfl) (pa_cons (pv 1) pa_nil) c1_read_row (hr.mono (by decide)) (by rfl) (pa_cons (pv 1) pa_nil) c1_read_paper (hr.mono (by decide)) (by rfl) (pa_cons (pv 1) pa_nil) (by rfl) z.m_LeastError sc.nd rfl rfl (fun _ =>
  (pss_cons (ps_set (i := 2) sc.nd rfl (Or.inl rfl) (pe_lst (pa_cons (pe_callB (call_isE (K := K) rfl) (by rfl) z.isinstance_ bt_isinstance (pa_cons (pv 3) (pa_cons (pe_glob (v := .ref cNoText) (u := .ref cNoText) (by rfl) z.m_NoText rfl) pa_nil))) (pa_cons (pe_callB (call_isE (K := K) rfl) (by rfl) z.isinstance_ bt_isinstance (pa_cons (pv 3) (pa_cons (pe_bltn (v := .ty "ValueError") (u := .type "ValueError") (by rfl) z.ValueError_ bt_ValueError rfl) pa_nil))) pa_nil))))
 (pss_one (ps_expr (pe_bmK (K := K) rfl PySem.F.plainAttrs_list PySem.F.slot_list_append PySem.F.type_list_append mr_append (pv 2) (pa_cons (pe_callB (call_isET (K := K) rfl) (by rfl) z.isinstance_ bt_isinstance (pa_cons (pv 3) (pa_cons (pe_tup (pa_cons (pe_glob (v := .ref cBeyond) (u := .ref cBeyond) (by rfl) z.m_Beyond rfl) (pa_cons (pe_glob (v := .ref cNoBounds) (u := .ref cNoBounds) (by rfl) z.m_NoBounds rfl) (pa_cons (pe_glob (v := .ref cNoRow) (u := .ref cNoRow) (by rfl) z.m_NoRow rfl) (pa_cons (pe_glob (v := .ref cNoSuch) (u := .ref cNoSuch) (by rfl) z.m_NoSuch rfl) (pa_cons (pe_glob (v := .ref cTooMany) (u := .ref cTooMany) (by rfl) z.m_TooMany rfl) pa_nil)))))) pa_nil))) pa_nil)))))))
 (pss_one (ps_ret (pe_cmpR (op_eqF hr.units0) (pv 2) (pe_lst (pa_cons pe_bl (pa_cons pe_bl (pa_cons pe_bl pa_nil)))) (nomark _)))))), ?_⟩
  refine ⟨szb rfl, fun p0 h0 => ?_⟩
  have s0 : Same H (upd H p0 (.lst [])) := same_new h0 _
  refine ⟨_, rfl, rfl, _, rfl, ?_⟩
  rcases hwh with rfl | rfl | rfl
  · rw [decide_eq_true rfl]
    refine iteT ?_
    rcases hb with hns | ⟨x0, rfl, hl, hb0, hb1, hb2⟩
    · refine ⟨_, rfl, .inl ⟨v, rfl, hns.same s0, z.exm, fun x hx => ?_⟩⟩
      have ex : upd (upd H p0 (.lst [])) x (ExcO x (.ref cNoText) none) x = some (ExcO x (.ref cNoText) none) := upd_same
      have s2 : Same H (upd (upd H p0 (.lst [])) x (ExcO x (.ref cNoText) none)) := s0.trans (same_new hx _)
      generalize upd (upd H p0 (.lst [])) x (ExcO x (.ref cNoText) none) = H2 at *
      have ea : ∀ {H' : Hp}, Same H2 H' → EAt K H' x cNoText := fun s' => ⟨z.ecl, none, s' _ _ ex, fun _ y => nomatch y⟩
      refine ⟨_, rfl, x, cNoText, _, _, _, rfl, ea (Same.refl _), .own _, z.kA, _, rfl, x, cNoText, _, _, _, rfl, ea (Same.refl _), .ty _, z.kB, szb rfl, fun l3 h3 => ?_⟩
      have s3 : Same H2 (upd H2 l3 (.lst [.bl true, .bl true])) := same_new h3 _
      have hl3 : upd H2 l3 (.lst [.bl true, .bl true]) l3 = some (.lst [.bl true, .bl true]) := upd_same
      have n3 : H l3 = none := s2.free h3
      generalize upd H2 l3 (.lst [.bl true, .bl true]) = H3 at *
      refine ⟨_, rfl, .inl ⟨rfl, _, SqL.of hl3⟩, _, rfl, szb rfl, fun p4 h4 => ?_⟩
      have s4 : Same H3 (upd H3 p4 (.tup [.ref cBeyond, .ref cNoBounds, .ref cNoRow, .ref cNoSuch, .ref cTooMany])) := same_new h4 _
      refine ⟨x, cNoText, p4, _, _, _, rfl, ea (s3.trans s4), SqT.of upd_same, .cons (.own _) (.cons (.own _) (.cons (.own _) (.cons (.own _) (.cons (.own _) .nil)))), z.kC, l3, _, _, rfl, rfl, s4 _ _ hl3, small1000 (by decide), ?_⟩
      have s5 : Same H (upd (upd H3 p4 (.tup [.ref cBeyond, .ref cNoBounds, .ref cNoRow, .ref cNoSuch, .ref cTooMany])) l3 (.lst ([.bl true, .bl true] ++ [.bl false]))) := own2 (s2.trans (s3.trans s4)) n3
      refine ⟨_, rfl, szb rfl, fun p6 h6 => ⟨l3, p6, _, _, rfl, rfl, SqL.of (same_new h6 _ _ _ upd_same), SqL.of upd_same, rfl, rfl, rfl, ?_⟩⟩
      exact q _ (s5.trans (same_new h6 _))
    · refine ⟨_, rfl, .inr ⟨x0, rfl, hl, fun HQ sQ => ⟨fun n hn => absurd hn (by rw [hb0 rfl]; simp), fun _ => ⟨z.exm, fun x hx => ?_⟩⟩⟩⟩
      have ex : upd HQ x (ExcO x (.ref cNoText) none) x = some (ExcO x (.ref cNoText) none) := upd_same
      have s2 : Same H (upd HQ x (ExcO x (.ref cNoText) none)) := (s0.trans sQ).trans (same_new hx _)
      generalize upd HQ x (ExcO x (.ref cNoText) none) = H2 at *
      have ea : ∀ {H' : Hp}, Same H2 H' → EAt K H' x cNoText := fun s' => ⟨z.ecl, none, s' _ _ ex, fun _ y => nomatch y⟩
      refine ⟨_, rfl, x, cNoText, _, _, _, rfl, ea (Same.refl _), .own _, z.kA, _, rfl, x, cNoText, _, _, _, rfl, ea (Same.refl _), .ty _, z.kB, szb rfl, fun l3 h3 => ?_⟩
      have s3 : Same H2 (upd H2 l3 (.lst [.bl true, .bl true])) := same_new h3 _
      have hl3 : upd H2 l3 (.lst [.bl true, .bl true]) l3 = some (.lst [.bl true, .bl true]) := upd_same
      have n3 : H l3 = none := s2.free h3
      generalize upd H2 l3 (.lst [.bl true, .bl true]) = H3 at *
      refine ⟨_, rfl, .inl ⟨rfl, _, SqL.of hl3⟩, _, rfl, szb rfl, fun p4 h4 => ?_⟩
      have s4 : Same H3 (upd H3 p4 (.tup [.ref cBeyond, .ref cNoBounds, .ref cNoRow, .ref cNoSuch, .ref cTooMany])) := same_new h4 _
      refine ⟨x, cNoText, p4, _, _, _, rfl, ea (s3.trans s4), SqT.of upd_same, .cons (.own _) (.cons (.own _) (.cons (.own _) (.cons (.own _) (.cons (.own _) .nil)))), z.kC, l3, _, _, rfl, rfl, s4 _ _ hl3, small1000 (by decide), ?_⟩
      have s5 : Same H (upd (upd H3 p4 (.tup [.ref cBeyond, .ref cNoBounds, .ref cNoRow, .ref cNoSuch, .ref cTooMany])) l3 (.lst ([.bl true, .bl true] ++ [.bl false]))) := own2 (s2.trans (s3.trans s4)) n3
      refine ⟨_, rfl, szb rfl, fun p6 h6 => ⟨l3, p6, _, _, rfl, rfl, SqL.of (same_new h6 _ _ _ upd_same), SqL.of upd_same, rfl, rfl, rfl, ?_⟩⟩
      exact q _ (s5.trans (same_new h6 _))
  · rw [decide_eq_false (show ¬ V.int 1 = V.int 0 from fun z => by cases z)]
    refine iteF ⟨_, rfl, rfl, _, rfl, ?_⟩
    rw [decide_eq_true rfl]
    refine iteT ?_
    rcases hb with hns | ⟨x0, rfl, hl, hb0, hb1, hb2⟩
    · refine ⟨_, rfl, .inl ⟨v, rfl, hns.same s0, z.exm, fun x hx => ?_⟩⟩
      have ex : upd (upd H p0 (.lst [])) x (ExcO x (.ref cNoText) none) x = some (ExcO x (.ref cNoText) none) := upd_same
      have s2 : Same H (upd (upd H p0 (.lst [])) x (ExcO x (.ref cNoText) none)) := s0.trans (same_new hx _)
      generalize upd (upd H p0 (.lst [])) x (ExcO x (.ref cNoText) none) = H2 at *
      have ea : ∀ {H' : Hp}, Same H2 H' → EAt K H' x cNoText := fun s' => ⟨z.ecl, none, s' _ _ ex, fun _ y => nomatch y⟩
      refine ⟨_, rfl, x, cNoText, _, _, _, rfl, ea (Same.refl _), .own _, z.kA, _, rfl, x, cNoText, _, _, _, rfl, ea (Same.refl _), .ty _, z.kB, szb rfl, fun l3 h3 => ?_⟩
      have s3 : Same H2 (upd H2 l3 (.lst [.bl true, .bl true])) := same_new h3 _
      have hl3 : upd H2 l3 (.lst [.bl true, .bl true]) l3 = some (.lst [.bl true, .bl true]) := upd_same
      have n3 : H l3 = none := s2.free h3
      generalize upd H2 l3 (.lst [.bl true, .bl true]) = H3 at *
      refine ⟨_, rfl, .inl ⟨rfl, _, SqL.of hl3⟩, _, rfl, szb rfl, fun p4 h4 => ?_⟩
      have s4 : Same H3 (upd H3 p4 (.tup [.ref cBeyond, .ref cNoBounds, .ref cNoRow, .ref cNoSuch, .ref cTooMany])) := same_new h4 _
      refine ⟨x, cNoText, p4, _, _, _, rfl, ea (s3.trans s4), SqT.of upd_same, .cons (.own _) (.cons (.own _) (.cons (.own _) (.cons (.own _) (.cons (.own _) .nil)))), z.kC, l3, _, _, rfl, rfl, s4 _ _ hl3, small1000 (by decide), ?_⟩
      have s5 : Same H (upd (upd H3 p4 (.tup [.ref cBeyond, .ref cNoBounds, .ref cNoRow, .ref cNoSuch, .ref cTooMany])) l3 (.lst ([.bl true, .bl true] ++ [.bl false]))) := own2 (s2.trans (s3.trans s4)) n3
      refine ⟨_, rfl, szb rfl, fun p6 h6 => ⟨l3, p6, _, _, rfl, rfl, SqL.of (same_new h6 _ _ _ upd_same), SqL.of upd_same, rfl, rfl, rfl, ?_⟩⟩
      exact q _ (s5.trans (same_new h6 _))
    · refine ⟨_, rfl, .inr ⟨x0, rfl, hl, fun ns hn => absurd hn (by rw [hb1 rfl]; simp), fun _ HQ sQ => ⟨z.exm, fun x hx => ?_⟩⟩⟩
      have ex : upd HQ x (ExcO x (.ref cNoText) none) x = some (ExcO x (.ref cNoText) none) := upd_same
      have s2 : Same H (upd HQ x (ExcO x (.ref cNoText) none)) := (s0.trans sQ).trans (same_new hx _)
      generalize upd HQ x (ExcO x (.ref cNoText) none) = H2 at *
      have ea : ∀ {H' : Hp}, Same H2 H' → EAt K H' x cNoText := fun s' => ⟨z.ecl, none, s' _ _ ex, fun _ y => nomatch y⟩
      refine ⟨_, rfl, x, cNoText, _, _, _, rfl, ea (Same.refl _), .own _, z.kA, _, rfl, x, cNoText, _, _, _, rfl, ea (Same.refl _), .ty _, z.kB, szb rfl, fun l3 h3 => ?_⟩
      have s3 : Same H2 (upd H2 l3 (.lst [.bl true, .bl true])) := same_new h3 _
      have hl3 : upd H2 l3 (.lst [.bl true, .bl true]) l3 = some (.lst [.bl true, .bl true]) := upd_same
      have n3 : H l3 = none := s2.free h3
      generalize upd H2 l3 (.lst [.bl true, .bl true]) = H3 at *
      refine ⟨_, rfl, .inl ⟨rfl, _, SqL.of hl3⟩, _, rfl, szb rfl, fun p4 h4 => ?_⟩
      have s4 : Same H3 (upd H3 p4 (.tup [.ref cBeyond, .ref cNoBounds, .ref cNoRow, .ref cNoSuch, .ref cTooMany])) := same_new h4 _
      refine ⟨x, cNoText, p4, _, _, _, rfl, ea (s3.trans s4), SqT.of upd_same, .cons (.own _) (.cons (.own _) (.cons (.own _) (.cons (.own _) (.cons (.own _) .nil)))), z.kC, l3, _, _, rfl, rfl, s4 _ _ hl3, small1000 (by decide), ?_⟩
      have s5 : Same H (upd (upd H3 p4 (.tup [.ref cBeyond, .ref cNoBounds, .ref cNoRow, .ref cNoSuch, .ref cTooMany])) l3 (.lst ([.bl true, .bl true] ++ [.bl false]))) := own2 (s2.trans (s3.trans s4)) n3
      refine ⟨_, rfl, szb rfl, fun p6 h6 => ⟨l3, p6, _, _, rfl, rfl, SqL.of (same_new h6 _ _ _ upd_same), SqL.of upd_same, rfl, rfl, rfl, ?_⟩⟩
      exact q _ (s5.trans (same_new h6 _))
  · rw [decide_eq_false (show ¬ V.int 2 = V.int 0 from fun z => by cases z)]
    refine iteF ⟨_, rfl, rfl, _, rfl, ?_⟩
    rw [decide_eq_false (show ¬ V.int 2 = V.int 1 from fun z => by cases z)]
    refine iteF ?_
    rcases hb with hns | ⟨x0, rfl, hl, hb0, hb1, hb2⟩
    · refine ⟨_, rfl, .inl ⟨v, rfl, hns.same s0, z.exm, fun x hx => ?_⟩⟩
      have ex : upd (upd H p0 (.lst [])) x (ExcO x (.ref cNoText) none) x = some (ExcO x (.ref cNoText) none) := upd_same
      have s2 : Same H (upd (upd H p0 (.lst [])) x (ExcO x (.ref cNoText) none)) := s0.trans (same_new hx _)
      generalize upd (upd H p0 (.lst [])) x (ExcO x (.ref cNoText) none) = H2 at *
      have ea : ∀ {H' : Hp}, Same H2 H' → EAt K H' x cNoText := fun s' => ⟨z.ecl, none, s' _ _ ex, fun _ y => nomatch y⟩
      refine ⟨_, rfl, x, cNoText, _, _, _, rfl, ea (Same.refl _), .own _, z.kA, _, rfl, x, cNoText, _, _, _, rfl, ea (Same.refl _), .ty _, z.kB, szb rfl, fun l3 h3 => ?_⟩
      have s3 : Same H2 (upd H2 l3 (.lst [.bl true, .bl true])) := same_new h3 _
      have hl3 : upd H2 l3 (.lst [.bl true, .bl true]) l3 = some (.lst [.bl true, .bl true]) := upd_same
      have n3 : H l3 = none := s2.free h3
      generalize upd H2 l3 (.lst [.bl true, .bl true]) = H3 at *
      refine ⟨_, rfl, .inl ⟨rfl, _, SqL.of hl3⟩, _, rfl, szb rfl, fun p4 h4 => ?_⟩
      have s4 : Same H3 (upd H3 p4 (.tup [.ref cBeyond, .ref cNoBounds, .ref cNoRow, .ref cNoSuch, .ref cTooMany])) := same_new h4 _
      refine ⟨x, cNoText, p4, _, _, _, rfl, ea (s3.trans s4), SqT.of upd_same, .cons (.own _) (.cons (.own _) (.cons (.own _) (.cons (.own _) (.cons (.own _) .nil)))), z.kC, l3, _, _, rfl, rfl, s4 _ _ hl3, small1000 (by decide), ?_⟩
      have s5 : Same H (upd (upd H3 p4 (.tup [.ref cBeyond, .ref cNoBounds, .ref cNoRow, .ref cNoSuch, .ref cTooMany])) l3 (.lst ([.bl true, .bl true] ++ [.bl false]))) := own2 (s2.trans (s3.trans s4)) n3
      refine ⟨_, rfl, szb rfl, fun p6 h6 => ⟨l3, p6, _, _, rfl, rfl, SqL.of (same_new h6 _ _ _ upd_same), SqL.of upd_same, rfl, rfl, rfl, ?_⟩⟩
      exact q _ (s5.trans (same_new h6 _))
    · refine ⟨_, rfl, .inr ⟨x0, rfl, hl, fun p hp => absurd (hb2 rfl) (by unfold okT; rw [hp]; simp), fun _ HQ sQ => ⟨z.exm, fun x hx => ?_⟩⟩⟩
      have ex : upd HQ x (ExcO x (.ref cNoText) none) x = some (ExcO x (.ref cNoText) none) := upd_same
      have s2 : Same H (upd HQ x (ExcO x (.ref cNoText) none)) := (s0.trans sQ).trans (same_new hx _)
      generalize upd HQ x (ExcO x (.ref cNoText) none) = H2 at *
      have ea : ∀ {H' : Hp}, Same H2 H' → EAt K H' x cNoText := fun s' => ⟨z.ecl, none, s' _ _ ex, fun _ y => nomatch y⟩
      refine ⟨_, rfl, x, cNoText, _, _, _, rfl, ea (Same.refl _), .own _, z.kA, _, rfl, x, cNoText, _, _, _, rfl, ea (Same.refl _), .ty _, z.kB, szb rfl, fun l3 h3 => ?_⟩
      have s3 : Same H2 (upd H2 l3 (.lst [.bl true, .bl true])) := same_new h3 _
      have hl3 : upd H2 l3 (.lst [.bl true, .bl true]) l3 = some (.lst [.bl true, .bl true]) := upd_same
      have n3 : H l3 = none := s2.free h3
      generalize upd H2 l3 (.lst [.bl true, .bl true]) = H3 at *
      refine ⟨_, rfl, .inl ⟨rfl, _, SqL.of hl3⟩, _, rfl, szb rfl, fun p4 h4 => ?_⟩
      have s4 : Same H3 (upd H3 p4 (.tup [.ref cBeyond, .ref cNoBounds, .ref cNoRow, .ref cNoSuch, .ref cTooMany])) := same_new h4 _
      refine ⟨x, cNoText, p4, _, _, _, rfl, ea (s3.trans s4), SqT.of upd_same, .cons (.own _) (.cons (.own _) (.cons (.own _) (.cons (.own _) (.cons (.own _) .nil)))), z.kC, l3, _, _, rfl, rfl, s4 _ _ hl3, small1000 (by decide), ?_⟩
      have s5 : Same H (upd (upd H3 p4 (.tup [.ref cBeyond, .ref cNoBounds, .ref cNoRow, .ref cNoSuch, .ref cTooMany])) l3 (.lst ([.bl true, .bl true] ++ [.bl false]))) := own2 (s2.trans (s3.trans s4)) n3
      refine ⟨_, rfl, szb rfl, fun p6 h6 => ⟨l3, p6, _, _, rfl, rfl, SqL.of (same_new h6 _ _ _ upd_same), SqL.of upd_same, rfl, rfl, rfl, ?_⟩⟩
      exact q _ (s5.trans (same_new h6 _))
theorem ok__law_with_sign (d : Def K mg "_law_with_sign" s__law_with_sign ["_law_pen_here", "_law_text", "_law_signs"]) (z : Bz K mg cLeastError cBeyond cNoBounds cNoRow cNoSuch cNoText cTooMany) (c__law_take : Cal P w K mg base k__law_take "_law_take" ["_law_pen_here", "_law_size"] (sp__law_take K)) : Cal P w K mg base k__law_with_sign "_law_with_sign" ["_law_pen_here", "_law_text", "_law_signs"] (sp__law_with_sign K) := by
  have sc := sc__law_with_sign
  refine d.cal fun f fd F => F.ok sc (fun vs H Q E h => ?_) (fun cdv A outer s H vs Q E hr h => ?_)
  · obtain ⟨pen, x, sg, rfl, _⟩ := h
    rfl
  obtain ⟨pen, x, sg, rfl, P0, hl, hs1, hs2, q⟩ := h
  refine ⟨_, (pss_cons (ps_set (i := 3) sc.nd rfl (Or.inl rfl) (pe_fn c__law_take (hr.mono (by decide)) (by rfl) (pa_cons (pv 0) (pa_cons (pe_op op_add (pe_callB call_len_str (by rfl) z.len_ bt_len (pa_cons (pv 1) pa_nil)) pe_int) pa_nil))))
 (pss_one (ps_ret (pe_op op_add_str (pe_op op_add_str (pe_slice sl_str (pv 1) po_none (po_some (pv 3))) (pe_ix ix_str (pv 2) (pe_fn c__law_take (hr.mono (by decide)) (by rfl) (pa_cons (pv 0) (pa_cons (pe_callB call_len_str (by rfl) z.len_ bt_len (pa_cons (pv 2) pa_nil)) pa_nil))) (fun _ _ => rfl))) (pe_slice sl_str (pv 1) (po_some (pv 3)) po_none))))), ?_⟩
  have hxl := len_l x
  have hsl := len_l sg
  refine ⟨_, rfl, _, rfl, x, rfl, sl51 (by omega), _, _, rfl, rfl, pen, _, rfl, P0, by omega, by omega, fun v1 H1 k1 P1 a1 b1 => ?_⟩
  obtain ⟨at_, rfl⟩ := Int.eq_ofNat_of_zero_le a1
  have ha : at_ ≤ x.cps.toList.length := by omega
  refine ⟨_, rfl, _, rfl, _, rfl, x, rfl, sl51 (by omega), ?_⟩
  rw [slice_to ha]
  refine ⟨_, rfl, _, rfl, _, rfl, sg, rfl, sl51 (by omega), pen, _, rfl, P1, by omega, by omega, fun v2 H2 k2 P2 a2 b2 => ?_⟩
  obtain ⟨at2, rfl⟩ := Int.eq_ofNat_of_zero_le a2
  have h2 : at2 < sg.cps.toList.length := by omega
  refine ⟨sg, _, _, rfl, rfl, sl51 (by omega), atI_nat (List.getElem?_eq_getElem h2), ?_⟩
  have hm := List.getElem_mem h2
  generalize sg.cps.toList[at2] = c at hm
  have l1 : (mkS (x.cps.toList.take at_)).length ≤ 80000 := by rw [mkS_len, List.length_take]; omega
  have l2 : (⟨#[c]⟩ : Str).length = 1 := rfl
  have l3 : (mkS (x.cps.toList.drop at_)).length ≤ 80000 := by rw [mkS_len, List.length_drop]; omega
  refine ⟨_, _, rfl, rfl, Nat.le_trans (Nat.add_le_add l1 (Nat.le_of_eq l2)) (by decide), ?_⟩
  refine ⟨_, rfl, _, rfl, _, rfl, x, rfl, sl51 (by omega), ?_⟩
  rw [slice_from ha]
  refine ⟨_, _, rfl, rfl, by rw [app_len, l2]; exact Nat.le_trans (Nat.add_le_add (Nat.add_le_add_right l1 1) l3) (by decide), ?_⟩
  refine Eq.mp (congrArg (fun z => Q (.str z) H2) (str_eq ?_)) (q (x.cps.toList.take at_) (x.cps.toList.drop at_) c H2 (k1.trans k2) P2 (List.take_append_drop _ _).symm hm)
  rw [lst_app, lst_app]
  show x.cps.toList.take at_ ++ c :: x.cps.toList.drop at_ = x.cps.toList.take at_ ++ [c] ++ x.cps.toList.drop at_
  simp
theorem ok__law_no_number (d : Def K mg "_law_no_number" s__law_no_number ["_law_pen_here"]) (z : Bz K mg cLeastError cBeyond cNoBounds cNoRow cNoSuch cNoText cTooMany) (c__law_many : Cal P w K mg base k__law_many "_law_many" ["_law_pen_here"] (sp__law_many K)) (c__law_take : Cal P w K mg base k__law_take "_law_take" ["_law_pen_here", "_law_size"] (sp__law_take K)) (c__law_with_sign : Cal P w K mg base k__law_with_sign "_law_with_sign" ["_law_pen_here", "_law_text", "_law_signs"] (sp__law_with_sign K)) : Cal P w K mg base k__law_no_number "_law_no_number" ["_law_pen_here"] (sp__law_no_number K) := by
  have sc := sc__law_no_number
  refine d.cal fun f fd F => F.ok sc (fun vs H Q E h => ?_) (fun cdv A outer s H vs Q E hr h => ?_)
  · obtain ⟨pen, rfl, _⟩ := h
    rfl
  obtain ⟨pen, rfl, P0, q⟩ := h
  refine ⟨_, (pss_cons (ps_set (i := 1) sc.nd rfl (Or.inl rfl) (pe_callTy call_str_int (by rfl) z.str_ bt_str (pa_cons (pe_fn c__law_many (hr.mono (by decide)) (by rfl) (pa_cons (pv 0) pa_nil)) pa_nil)))
 (pss_cons (ps_set (i := 2) sc.nd rfl (Or.inl rfl) (pe_lst (pa_cons (pe_fn c__law_with_sign (hr.mono (by decide)) (by rfl) (pa_cons (pv 0) (pa_cons (pv 1) (pa_cons pe_str pa_nil)))) (pa_cons (pe_op op_add_str pe_str (pv 1)) (pa_cons pe_str (pa_cons pe_str (pa_cons pe_str (pa_cons (pe_op op_add_str pe_str (pv 1)) (pa_cons (pe_op op_add_str (pv 1) pe_str) (pa_cons (pe_op op_add_str pe_str (pv 1)) pa_nil))))))))))
 (pss_cons (ps_set (i := 2) sc.nd rfl (Or.inl rfl) (pe_op op_cat (pv 2) (pe_lst (pa_cons (pe_op op_repS pe_str pe_int) (pa_cons (pe_op op_add_str pe_str (pe_op op_repS pe_str pe_int)) (pa_cons (pe_op op_add_str pe_str (pe_op op_repS pe_str (pe_op op_add pe_int (pe_fn c__law_take (hr.mono (by decide)) (by rfl) (pa_cons (pv 0) (pa_cons pe_int pa_nil)))))) (pa_cons (pe_op op_add_str pe_str (pv 1)) pa_nil)))))))
 (pss_one (ps_ret (pe_ix ix_list (pv 2) (pe_fn c__law_take (hr.mono (by decide)) (by rfl) (pa_cons (pv 0) (pa_cons pe_int pa_nil))) (fun _ _ => rfl))))))), ?_⟩
  refine ⟨_, rfl, pen, rfl, P0, fun m H1 k1 P1 om => ?_⟩
  have o1 := om.1
  have o2 := om.2
  refine ⟨m, rfl, lg60 (by omega) (by omega), ?_⟩
  have hf := ok_fg om
  have htl : (tx m).length = (fg m).length := mkS_len _
  have htc : (tx m).cps.toList = fg m := rfl
  have hne : fg m ≠ [] := fun z => by rw [z] at hf; exact absurd hf.2.2.1 (by decide)
  refine ⟨_, rfl, _, rfl, pen, tx m, "x+.,_:( ", rfl, P1, by omega, by decide +kernel, by decide +kernel, fun a b c H2 k2 P2 hab hc => ?_⟩
  have c1 : ("0" : Str).length = 1 := by decide +kernel
  have c2 : ("--" : Str).length = 2 := by decide +kernel
  have c3 : ("-" : Str).length = 1 := by decide +kernel
  have c4 : ("-0" : Str).length = 2 := by decide +kernel
  have c5 : ("+" : Str).length = 1 := by decide +kernel
  have c6 : ("1" : Str).length = 1 := by decide +kernel
  refine ⟨_, rfl, _, _, rfl, rfl, sl51 (by show _ + (tx m).length ≤ _; omega), _, rfl, _, _, rfl, rfl, sl51 (by show _ + (tx m).length ≤ _; omega), _, rfl, _, _, rfl, rfl, sl51 (by show (tx m).length + _ ≤ _; omega), _, rfl, _, _, rfl, rfl, sl51 (by show _ + (tx m).length ≤ _; omega), szb rfl, fun l1 hl1 => ?_⟩
  refine ⟨_, rfl, "9", 51, rfl, rfl, by decide +kernel, by decide, by decide, "1", 51, rfl, rfl, by decide +kernel, by decide, by decide, _, _, rfl, rfl, sl51 (by decide +kernel), ?_⟩
  refine ⟨_, rfl, pen, 9, rfl, P2.new hl1 _, by decide, by decide, fun v3 H3 k3 P3 a3 b3 => ?_⟩
  have k13 := k1.trans (k2.trans ((Keep.new hl1 _).trans k3))
  refine ⟨_, _, rfl, rfl, "0", _, rfl, rfl, by decide +kernel, by omega, by omega, _, _, rfl, rfl, ?_, ?_⟩
  · refine sl51 ?_
    rw [c6]
    show 1 + ((List.replicate (50 + v3).toNat _).toArray).size ≤ _
    simp
    omega
  refine ⟨_, rfl, _, _, rfl, rfl, sl51 (by show _ + (tx m).length ≤ _; omega), szb rfl, fun l4 hl4 => ?_⟩
  have hl1p := P2.fresh hl1
  have hl14 := same_new hl4 (.lst [V.str ⟨(List.replicate (51 : Int).toNat (("9" : Str).cps.getD 0 0)).toArray⟩, .str ("-" ++ ⟨(List.replicate (51 : Int).toNat (("1" : Str).cps.getD 0 0)).toArray⟩), .str ("1" ++ ⟨(List.replicate (50 + v3).toNat (("0" : Str).cps.getD 0 0)).toArray⟩), .str ("+" ++ tx m)]) _ _ (k3 _ _ hl1p upd_same)
  refine ⟨l1, l4, _, _, rfl, rfl, hl14, upd_same, (show 8 + 4 ≤ sizeLine by decide), fun l5 hl5 => ?_⟩
  refine ⟨_, rfl, _, rfl, pen, 12, rfl, (P3.new hl4 _).new hl5 _, by decide, by decide, fun v6 H6 k6 P6 a6 b6 => ?_⟩
  obtain ⟨y, hy, hv⟩ := atI_strs (l := [mkS (a ++ c :: b), "0" ++ tx m, "-0", "", "-", "--" ++ tx m, tx m ++ "-", "-0" ++ tx m, ⟨(List.replicate (51 : Int).toNat (("9" : Str).cps.getD 0 0)).toArray⟩, "-" ++ ⟨(List.replicate (51 : Int).toNat (("1" : Str).cps.getD 0 0)).toArray⟩, "1" ++ ⟨(List.replicate (50 + v3).toNat (("0" : Str).cps.getD 0 0)).toArray⟩, "+" ++ tx m]) a6 b6
  refine ⟨l5, _, _, _, rfl, rfl, SqL.of (k6 _ _ ((P3.new hl4 _).fresh hl5) upd_same), hv, ?_⟩
  have kall := k13.trans ((Keep.new hl4 _).trans ((Keep.new hl5 _).trans k6))
  have ml : (mkS (a ++ c :: b)).length ≤ 60 := by
    rw [mkS_len]
    have := congrArg List.length hab
    rw [htc, List.length_append] at this
    rw [List.length_append, List.length_cons]
    omega
  have cs : isD c = false ∧ c ≠ 45 := by
    rw [show ("x+.,_:( " : Str).cps.toList = [120, 43, 46, 44, 95, 58, 40, 32] by decide +kernel] at hc
    simp only [List.mem_cons, List.not_mem_nil, or_false] at hc
    rcases hc with rfl | rfl | rfl | rfl | rfl | rfl | rfl | rfl <;> exact ⟨rfl, by decide⟩
  have z0 : ("0" : Str).cps.toList = [48] := by decide +kernel
  have z1 : ("-" : Str).cps.toList = [45] := by decide +kernel
  have z2 : ("--" : Str).cps.toList = [45, 45] := by decide +kernel
  have z3 : ("-0" : Str).cps.toList = [45, 48] := by decide +kernel
  have z4 : ("+" : Str).cps.toList = [43] := by decide +kernel
  have z5 : ("1" : Str).cps.toList = [49] := by decide +kernel
  have key : y.length ≤ 90000 ∧ rdN y.cps.toList = none := by
    simp only [List.mem_cons, List.not_mem_nil, or_false] at hy
    rcases hy with rfl | rfl | rfl | rfl | rfl | rfl | rfl | rfl | rfl | rfl | rfl | rfl
    · exact ⟨by omega, rd_bad (c := c) (by show c ∈ a ++ c :: b; simp) cs.1 cs.2⟩
    · exact ⟨by rw [app_len]; omega, by rw [lst_app, z0, htc]; exact rd_zero hne⟩
    · exact ⟨by omega, by rw [z3]; decide⟩
    · exact ⟨by decide +kernel, by rw [show ("" : Str).cps.toList = [] by decide +kernel]; rfl⟩
    · exact ⟨by omega, by rw [z1]; decide⟩
    · exact ⟨by rw [app_len]; omega, by rw [lst_app, z2]; exact rd_minus (fig_non (c := 45) (by simp) rfl)⟩
    · refine ⟨by rw [app_len]; omega, ?_⟩
      rw [lst_app, z1, htc]
      cases e : fg m with
      | nil => exact absurd e hne
      | cons d r =>
        have hd := hf.1 d (by rw [e]; exact List.mem_cons_self ..)
        exact rd_pos (fun z => by rw [z] at hd; exact absurd hd (by decide)) (fig_non (c := 45) (by simp) rfl)
    · exact ⟨by rw [app_len]; omega, by rw [lst_app, z3, htc]; exact rd_minus (fig_zero hne)⟩
    · exact ⟨by decide +kernel, by decide +kernel⟩
    · exact ⟨by decide +kernel, by decide +kernel⟩
    · have hlen : (⟨(List.replicate (50 + v3).toNat (("0" : Str).cps.getD 0 0)).toArray⟩ : Str).cps.toList.length = (50 + v3).toNat := by simp
      have hlen2 : (⟨(List.replicate (50 + v3).toNat (("0" : Str).cps.getD 0 0)).toArray⟩ : Str).length = (50 + v3).toNat := by rw [len_l]; exact hlen
      refine ⟨by rw [app_len, hlen2, c6]; omega, ?_⟩
      rw [lst_app, z5]
      exact rd_long1 (d := 49) (r := (⟨(List.replicate (50 + v3).toNat (("0" : Str).cps.getD 0 0)).toArray⟩ : Str).cps.toList) (by decide) (by rw [List.length_cons, hlen]; omega)
    · exact ⟨by rw [app_len]; omega, by rw [lst_app, z4]; exact rd_bad (c := 43) (by simp) rfl (by decide)⟩
  exact q y H6 kall P6 key.1 key.2
end
/-! ### what is no row -/
theorem cutS_to (W : List Str) {k : Nat} (h : k ≤ W.length) : cutV (W.map V.str) none (some (k : Int)) = (W.take k).map V.str := by
  unfold cutV
  rw [HT.sIx_nat, HT.sIx_none, List.drop_zero, Nat.sub_zero, List.map_take, List.length_map, Nat.min_eq_left h]
theorem cutS_from (W : List Str) {k : Nat} (h : k ≤ W.length) : cutV (W.map V.str) (some (k : Int)) none = (W.drop k).map V.str := by
  unfold cutV
  rw [HT.sIx_nat, HT.sIx_none, List.length_map, Nat.min_eq_left h, List.map_drop]
  exact List.take_of_length_le (by rw [List.length_drop, List.length_map]; exact Nat.le_refl _)
theorem join_len {xs : List Str} (h : ∀ y ∈ xs, y.length ≤ 51) : (Txt.join " " xs).length ≤ xs.length * 52 := by
  rw [show Txt.join " " xs = Str.join " " xs from StrLaws.glued_eq_join _ _]
  have h1 := StrLaws.join_length_le " " xs
  have h2 := StrLaws.sumLen_le (B := 51) xs h
  have h3 : (" " : Str).length = 1 := by decide +kernel
  rw [h3] at h1
  omega
theorem join_okS {xs : List Str} (h : ∀ y ∈ xs, y.length ≤ 51) (hl : xs.length ≤ 1000) : JoinOk " " xs = true := by
  refine PyProof.Rows.joinOk_of_weight ?_ (by decide)
  have := StrLaws.sumLen_le (B := 51) xs h
  omega
abbrev k__law_no_row : Nat := 3
def sp__law_no_row (_ : PySem.W.Frag) : Sp := fun vs H Q _ => ∃ pen : Addr, vs = [.ref pen] ∧ PenN H pen ∧ ∀ (x : Str) (H' : Hp), Keep pen H H' → PenN H' pen → x.length ≤ 90000 → rdR x = none → Q (.str x) H'
section
variable {P : Program} {w : World} {K : PySem.W.Frag} {mg : Str → Option Value} {base : Heap}
theorem ok__law_no_row (d : Def K mg "_law_no_row" s__law_no_row ["_law_pen_here"]) (z : Bz K mg cLeastError cBeyond cNoBounds cNoRow cNoSuch cNoText cTooMany) (c__law_many : Cal P w K mg base k__law_many "_law_many" ["_law_pen_here"] (sp__law_many K)) (c__law_take : Cal P w K mg base k__law_take "_law_take" ["_law_pen_here", "_law_size"] (sp__law_take K)) (c__law_with_sign : Cal P w K mg base k__law_with_sign "_law_with_sign" ["_law_pen_here", "_law_text", "_law_signs"] (sp__law_with_sign K)) : Cal P w K mg base k__law_no_row "_law_no_row" ["_law_pen_here"] (sp__law_no_row K) := by
  have sc := sc__law_no_row
  refine d.cal fun f fd F => F.ok sc (fun vs H Q E h => ?_) (fun cdv A outer s H vs Q E hr h => ?_)
  · obtain ⟨pen, rfl, _⟩ := h
    rfl
  obtain ⟨pen, rfl, P0, q⟩ := h
  refine' ⟨_, (pss_cons ?h0 (pss_cons ?h1 (pss_cons ?h2 (pss_cons ?h3 (pss_cons ?h4 (pss_one ?h5)))))), ?main⟩
  case h0 => exact (ps_setComp (i := 1) (cl := [("_law_pen_here", s.heap.objs.size + 1 + 0)]) (cn := ["_law_pen_here"]) (N := ["_law_pen_here"]) (fr := [0]) (sc0 := defScope s__law_no_row) sc.nd rfl (Or.inl rfl) rfl (pi_range1 rfl z.range_ (pa_cons (pe_op op_add pe_int (pe_fn c__law_take (hr.mono (by decide)) (by rfl) (pa_cons (pv 0) (pa_cons pe_int pa_nil)))) pa_nil)) (fun C s₂ H₂ fp => (pe_callTy call_str_int (by rfl) z.str_ bt_str (pa_cons (pe_fn c__law_many (hr.mono (by decide)) (by rfl) (pa_cons (pv 1) pa_nil)) pa_nil))) (by with_unfolding_all rfl) ⟨by with_unfolding_all rfl, trivial⟩ rfl rfl rfl ⟨by decide +kernel, by decide +kernel, by decide +kernel, by decide +kernel, by decide +kernel, by decide +kernel, by decide +kernel⟩ rfl (by with_unfolding_all rfl) (.inl rfl))
  case h1 => exact (ps_set (i := 2) sc.nd rfl (Or.inl rfl) (pe_bm PySem.F.plainAttrs_str PySem.F.slot_str_join PySem.F.type_str_join mt_join pe_str (pa_cons (pv 1) pa_nil)))
  case h2 => exact (ps_set (i := 3) sc.nd rfl (Or.inl rfl) (pe_fn c__law_take (hr.mono (by decide)) (by rfl) (pa_cons (pv 0) (pa_cons (pe_op op_add (pe_callB call_len_seq (by rfl) z.len_ bt_len (pa_cons (pv 1) pa_nil)) pe_int) pa_nil))))
  case h3 => exact (ps_set (i := 4) sc.nd rfl (Or.inl rfl) (pe_ix ix_list (pe_lst (pa_cons pe_str (pa_cons pe_str (pa_cons pe_str (pa_cons pe_str (pa_cons (pe_op op_repS pe_str pe_int) (pa_cons pe_str (pa_cons pe_str pa_nil)))))))) (pe_fn c__law_take (hr.mono (by decide)) (by rfl) (pa_cons (pv 0) (pa_cons pe_int pa_nil))) (fun _ _ => rfl)))
  case h4 => exact (ps_set (i := 5) sc.nd rfl (Or.inl rfl) (pe_lst (pa_cons (pe_bm PySem.F.plainAttrs_str PySem.F.slot_str_join PySem.F.type_str_join mt_join pe_str (pa_cons (pe_op op_cat (pe_op op_cat (pe_slice sl_list (pv 1) po_none (po_some (pv 3))) (pe_lst (pa_cons (pv 4) pa_nil))) (pe_slice sl_list (pv 1) (po_some (pv 3)) po_none)) pa_nil)) (pa_cons (pe_fn c__law_with_sign (hr.mono (by decide)) (by rfl) (pa_cons (pv 0) (pa_cons (pv 2) (pa_cons pe_str pa_nil)))) (pa_cons (pe_op op_add_str pe_str (pv 2)) (pa_cons (pe_op op_add_str (pv 2) pe_str) pa_nil))))))
  case h5 => exact (ps_ret (pe_ix ix_list (pv 5) (pe_fn c__law_take (hr.mono (by decide)) (by rfl) (pa_cons (pv 0) (pa_cons pe_int pa_nil))) (fun _ _ => rfl)))

  refine ⟨_, rfl, pen, 8, rfl, P0, by decide, by decide, fun v1 H1 k1 P1 a1 b1 => ⟨_, _, rfl, rfl, _, rfl, by omega, by omega, fun D hD => comp_range (n := (1 + v1).toNat) (sl51 (by omega)) (fun j ys G3 => ∃ ms : List Int, ys = (ms.map tx).map V.str ∧ ms.length = j ∧ (∀ m ∈ ms, okN m) ∧ Keep pen H1 G3 ∧ PenN G3 pen ∧ G3 D = some (.lst ys))
      ⟨[], rfl, rfl, fun n hn => absurd hn (by simp), Keep.new hD _, P1.new hD _, upd_same⟩ (fun j ys G3 ⟨ms, e, hl, _, _, _, h3⟩ => ⟨h3, by rw [e, List.length_map, List.length_map, hl]⟩) ?_ ?_⟩⟩
  · rintro j ys G3 hj ⟨ms, rfl, hl, hb, k3, P3, h3⟩
    refine ⟨_, rfl, pen, rfl, P3, fun m H4 k4 P4 om => ?_⟩
    have o1 := om.1
    have o2 := om.2
    have hDp : D ≠ pen := P1.fresh hD
    refine ⟨m, rfl, lg60 (by omega) (by omega), k4 _ _ hDp h3, ms ++ [m], ?_, by rw [List.length_append, hl]; rfl, fun n hn => ?_, (k3.trans k4).own hD, P4.other hDp _, upd_same⟩
    · rw [List.map_append, List.map_append]; rfl
    · rcases List.mem_append.mp hn with z | z
      · exact hb n z
      · rw [List.mem_singleton.mp z]; exact om
  rintro ys G3 ⟨ms, rfl, hml, hb, k3, P3, hD3⟩
  have hDp : D ≠ pen := P1.fresh hD
  have hm8 : ms.length ≤ 8 ∧ 1 ≤ ms.length := by omega
  have k03 := k1.trans k3
  generalize hW : ms.map tx = W at *
  have hWl : W.length = ms.length := by rw [← hW, List.length_map]
  have hWb : ∀ y ∈ W, y.length ≤ 51 := fun y hy => by
    rw [← hW] at hy
    obtain ⟨m, hm, rfl⟩ := List.mem_map.mp hy
    have o1 := (hb m hm).1
    have o2 := (hb m hm).2
    exact tx_len (by omega) (by omega)
  have hWf : ∀ y ∈ W, 32 ∉ y.cps.toList := fun y hy => by
    rw [← hW] at hy
    obtain ⟨m, _, rfl⟩ := List.mem_map.mp hy
    exact fg_no32
  have hWm : (W.map V.str).length = W.length := List.length_map _
  have hWne : W ≠ [] := fun z => by rw [z] at hWl; have : 0 = ms.length := hWl; omega
  have hTl := join_len hWb
  refine ⟨rfl, _, rfl, " ", D, W, rfl, rfl, SqL.of hD3, join_okS hWb (by omega), ?_⟩
  refine ⟨_, rfl, _, rfl, D, _, rfl, .inl (SqL.of hD3), _, _, rfl, rfl, pen, _, rfl, P3, by omega, by omega, fun v4 H4 k4 P4 a4 b4 => ?_⟩
  rw [hWm] at b4
  obtain ⟨at_, rfl⟩ := Int.eq_ofNat_of_zero_le a4
  have hat : at_ ≤ W.length := by omega
  have hD4 := k4 _ _ hDp hD3
  refine ⟨"1", 51, rfl, rfl, by decide +kernel, by decide, by decide, szb rfl, fun lb hlb => ?_⟩
  refine ⟨_, rfl, pen, 7, rfl, P4.new hlb _, by decide, by decide, fun v5 H5 k5 P5 a5 b5 => ?_⟩
  obtain ⟨bd, hbd, hbv⟩ := atI_strs (l := ["", "-0", "00", "x", ⟨(List.replicate (51 : Int).toNat (("1" : Str).cps.getD 0 0)).toArray⟩, "-", "0-1"]) a5 b5
  refine ⟨lb, _, _, _, rfl, rfl, SqL.of (k5 _ _ (P4.fresh hlb) upd_same), hbv, ?_⟩
  have key : bd.length ≤ 51 ∧ rdN bd.cps.toList = none ∧ 32 ∉ bd.cps.toList := by
    simp only [List.mem_cons, List.not_mem_nil, or_false] at hbd
    rcases hbd with rfl | rfl | rfl | rfl | rfl | rfl | rfl <;> exact ⟨by decide +kernel, by decide +kernel, by decide +kernel⟩
  have hD5 := k5 _ _ hDp (same_new hlb _ _ _ hD4)
  have k05 := k03.trans (k4.trans ((Keep.new hlb _).trans k5))
  clear hD3 hD4 k1 k3 k4 k5 P0 P1 P3 P4 hlb hbv hbd
  -- the words with a bad one
  refine ⟨rfl, _, rfl, _, rfl, _, rfl, D, _, rfl, SqL.of hD5, fun p1 hp1 => ?_⟩
  rw [cutS_to W hat]
  have s6 := same_new hp1 (.lst ((W.take at_).map V.str))
  have e6 : upd H5 p1 (.lst ((W.take at_).map V.str)) p1 = some (.lst ((W.take at_).map V.str)) := upd_same
  have hD6 := s6 _ _ hD5
  have P6 := P5.same s6
  generalize upd H5 p1 (.lst ((W.take at_).map V.str)) = H6 at *
  refine ⟨_, rfl, szb rfl, fun p2 hp2 => ?_⟩
  have s7 := same_new hp2 (.lst [V.str bd])
  refine ⟨p1, p2, _, _, rfl, rfl, s7 _ _ e6, upd_same, sl51 (by rw [List.length_map, List.length_take]; show _ + 1 ≤ _; omega), fun p3 hp3 => ?_⟩
  have s8 := s7.trans (same_new hp3 (.lst ((W.take at_).map V.str ++ [V.str bd])))
  have e8 : upd (upd H6 p2 (.lst [V.str bd])) p3 (.lst ((W.take at_).map V.str ++ [V.str bd])) p3 = some (.lst ((W.take at_).map V.str ++ [V.str bd])) := upd_same
  have hD8 := s8 _ _ hD6
  have P8 := P6.same s8
  generalize upd (upd H6 p2 (.lst [V.str bd])) p3 (.lst ((W.take at_).map V.str ++ [V.str bd])) = H8 at *
  refine ⟨_, rfl, _, rfl, _, rfl, D, _, rfl, SqL.of hD8, fun p4 hp4 => ?_⟩
  rw [cutS_from W hat]
  have s9 := same_new hp4 (.lst ((W.drop at_).map V.str))
  refine ⟨p3, p4, _, _, rfl, rfl, s9 _ _ e8, upd_same, sl51 (by rw [List.length_append, List.length_map, List.length_map, List.length_take, List.length_drop]; show _ + 1 + _ ≤ _; omega), fun p5 hp5 => ?_⟩
  have s10 := s9.trans (same_new hp5 (.lst ((W.take at_).map V.str ++ [V.str bd] ++ (W.drop at_).map V.str)))
  have e10 : upd (upd H8 p4 (.lst ((W.drop at_).map V.str))) p5 (.lst ((W.take at_).map V.str ++ [V.str bd] ++ (W.drop at_).map V.str)) p5 = some (.lst ((W.take at_ ++ bd :: W.drop at_).map V.str)) := by
    rw [upd_same, List.map_append, List.map_cons]
    simp
  have P10 := P8.same s10
  have s510 := s6.trans (s8.trans s10)
  generalize upd (upd H8 p4 (.lst ((W.drop at_).map V.str))) p5 (.lst ((W.take at_).map V.str ++ [V.str bd] ++ (W.drop at_).map V.str)) = H10 at *
  have hXb : ∀ y ∈ W.take at_ ++ bd :: W.drop at_, y.length ≤ 51 ∧ 32 ∉ y.cps.toList := fun y hy => by
    rcases List.mem_append.mp hy with z | z
    · exact ⟨hWb y (List.mem_of_mem_take z), hWf y (List.mem_of_mem_take z)⟩
    · rcases List.mem_cons.mp z with rfl | z
      · exact ⟨key.1, key.2.2⟩
      · exact ⟨hWb y (List.mem_of_mem_drop z), hWf y (List.mem_of_mem_drop z)⟩
  have hXl : (W.take at_ ++ bd :: W.drop at_).length = W.length + 1 := by
    rw [List.length_append, List.length_cons, List.length_take, List.length_drop]
    omega
  refine ⟨" ", p5, W.take at_ ++ bd :: W.drop at_, rfl, rfl, SqL.of e10, join_okS (fun y hy => (hXb y hy).1) (by omega), ?_⟩
  refine ⟨_, rfl, _, rfl, pen, Txt.join " " W, "x+.,_:(", rfl, P10, by omega, by decide +kernel, by decide +kernel, fun a b c H11 k11 P11 hab hc => ?_⟩
  have hsp : (" " : Str).length = 1 := by decide +kernel
  refine ⟨_, rfl, _, _, rfl, rfl, sl51 (by omega), _, rfl, _, _, rfl, rfl, sl51 (by omega), szb rfl, fun ls hls => ?_⟩
  refine ⟨_, rfl, _, rfl, pen, 4, rfl, P11.new hls _, by decide, by decide, fun v12 H12 k12 P12 a12 b12 => ?_⟩
  obtain ⟨y, hy, hv⟩ := atI_strs (l := [Txt.join " " (W.take at_ ++ bd :: W.drop at_), mkS (a ++ c :: b), " " ++ Txt.join " " W, Txt.join " " W ++ " "]) a12 b12
  refine ⟨ls, _, _, _, rfl, rfl, SqL.of (k12 _ _ (P11.fresh hls) upd_same), hv, ?_⟩
  have kall := k05.trans ((Keep.same s510).trans (k11.trans ((Keep.new hls _).trans k12)))
  have fin : y.length ≤ 90000 ∧ rdR y = none := by
    simp only [List.mem_cons, List.not_mem_nil, or_false] at hy
    rcases hy with rfl | rfl | rfl | rfl
    · exact ⟨by have := join_len fun y hy => (hXb y hy).1; omega, row_words (y := bd) (by omega) (fun p hp => (hXb p hp).2) (by simp) key.2.1⟩
    · have cs : isD c = false ∧ c ≠ 45 ∧ c ≠ 32 := by
        rw [show ("x+.,_:(" : Str).cps.toList = [120, 43, 46, 44, 95, 58, 40] by decide +kernel] at hc
        simp only [List.mem_cons, List.not_mem_nil, or_false] at hc
        rcases hc with rfl | rfl | rfl | rfl | rfl | rfl | rfl <;> exact ⟨rfl, by decide, by decide⟩
      refine ⟨?_, row_bad (c := c) (by show c ∈ a ++ c :: b; simp) cs.1 cs.2.1 cs.2.2⟩
      rw [mkS_len]
      have h1 := congrArg List.length hab
      rw [List.length_append, ← len_l] at h1
      rw [List.length_append, List.length_cons]
      omega
    · refine ⟨by rw [app_len]; omega, ?_⟩
      rw [join_front hWne]
      refine row_words (y := "") (by rw [List.length_cons]; omega) (fun p hp => ?_) (List.mem_cons_self ..) (by decide +kernel)
      rcases List.mem_cons.mp hp with rfl | hp
      · decide +kernel
      · exact hWf p hp
    · refine ⟨by rw [app_len]; omega, ?_⟩
      have e1 : Txt.join " " W ++ " " = Txt.join " " (W ++ [("" : Str)]) := by
        rw [show Txt.join " " W = Str.join " " W from StrLaws.glued_eq_join _ _, show Txt.join " " (W ++ [("" : Str)]) = Str.join " " (W ++ [("" : Str)]) from StrLaws.glued_eq_join _ _]
        apply str_eq
        rw [lst_app, join_back hWne]
      rw [e1]
      refine row_words (y := "") (by rw [List.length_append]; show 2 ≤ _ + 1; omega) (fun p hp => ?_) (by simp) (by decide +kernel)
      rcases List.mem_append.mp hp with hp | hp
      · exact hWf p hp
      · rw [List.mem_singleton.mp hp]; decide +kernel
  exact q y H12 kall P12 fin.1 fin.2
end
/-! ### what is no paper -/
theorem slice_m1 {x : Str} (h : 1 ≤ x.cps.toList.length) : Txt.slice x none (some (-1)) = mkS x.cps.toList.dropLast := by
  have e1 : Txt.slice x none (some (-1)) = Txt.slice x none (some ((x.cps.toList.length - 1 : Nat) : Int)) := by
    show StrLaws.sliceText x none (some (-1)) = StrLaws.sliceText x none (some ((x.cps.toList.length - 1 : Nat) : Int))
    unfold StrLaws.sliceText
    rw [show Builtin.Str.strSliceIndices none (some (-1)) 1 x.length = Builtin.Str.strSliceIndices none (some ((x.cps.toList.length - 1 : Nat) : Int)) 1 x.length by
      have hx := len_l x
      have h2 : ¬ (((x.cps.toList.length - 1 : Nat) : Int) < 0) := by omega
      have h3 : (-1 : Int) + (x.length : Int) = ((x.cps.toList.length - 1 : Nat) : Int) := by omega
      simp only [Builtin.Str.strSliceIndices, h2, if_false, if_pos (show (-1 : Int) < 0 by decide), h3]]
  rw [e1, slice_to (by omega), List.dropLast_eq_take]
theorem repl_eq {A B : List Nat} {c : Nat} {z : Str} (hc : c ∉ A) : repl1 (mkS (A ++ c :: B)) ⟨#[c]⟩ z = mkS (A ++ (z.cps.toList ++ B)) := by
  have hat : ∀ i, StrLaws.At (mkS (A ++ c :: B)) ⟨#[c]⟩ (mkS (A ++ c :: B)).length i ↔ (A ++ c :: B)[i]? = some c := fun i => StrLaws.subAt_one (mkS (A ++ c :: B)) c i
  have hA : (A ++ c :: B)[A.length]? = some c := by rw [List.getElem?_append_right (Nat.le_refl _), Nat.sub_self]; rfl
  unfold repl1
  have hle := StrLaws.occ_length_le (mkS (A ++ c :: B)) ⟨#[c]⟩ 0 (mkS (A ++ c :: B)).length 1
  rcases StrLaws.occ_head (mkS (A ++ c :: B)) ⟨#[c]⟩ 1 (Nat.le_refl _) with ⟨_, hn⟩ | ⟨i, r, e, hi, hmin⟩
  · exact absurd ((hat A.length).mpr hA) (hn _)
  · rw [e] at hle
    have hr : r = [] := by
      cases r with
      | nil => rfl
      | cons d r => rw [List.length_cons, List.length_cons] at hle; omega
    subst hr
    have hiA : i = A.length := by
      rcases Nat.lt_trichotomy i A.length with z | z | z
      · exfalso
        have := (hat i).mp hi
        rw [List.getElem?_append_left z] at this
        exact hc (List.mem_of_getElem? this)
      · exact z
      · exact absurd ((hat A.length).mpr hA) (hmin _ z)
    subst hiA
    rw [e]
    show (if (false || ((⟨#[c]⟩ : Str).length == 0 && z.length == 0)) = true then _ else _) = _
    rw [if_neg (by simp [Str.length])]
    rw [StrLaws.partsBetween_eq, StrLaws.glued_eq_join]
    show Builtin.Str.strSub (mkS (A ++ c :: B)) 0 A.length ++ z ++ Builtin.Str.strSub (mkS (A ++ c :: B)) (A.length + 1) (mkS (A ++ c :: B)).length = _
    apply str_eq
    rw [lst_app, lst_app, StrLaws.strSub_toList, StrLaws.strSub_toList, mkS_len, mkS_l, mkS_l]
    rw [List.drop_zero, Nat.sub_zero, List.take_left, List.length_append, List.length_cons]
    have e3 : (A ++ c :: B).drop (A.length + 1) = B := by
      rw [List.drop_append]
      simp
    rw [e3, List.take_of_length_le (by omega)]
    simp
abbrev k__law_no_paper : Nat := 9
def sp__law_no_paper (_ : PySem.W.Frag) : Sp := fun vs H Q _ => ∃ pen : Addr, vs = [.ref pen] ∧ PenN H pen ∧ ∀ (x : Str) (H' : Hp), Keep pen H H' → PenN H' pen → x.length ≤ 90000 → okT x.cps.toList = false → Q (.str x) H'
def One51 : Str := ⟨(List.replicate (51 : Int).toNat (("1" : Str).cps.getD 0 0)).toArray⟩
section
variable {P : Program} {w : World} {K : PySem.W.Frag} {mg : Str → Option Value} {base : Heap}
theorem ok__law_no_paper (d : Def K mg "_law_no_paper" s__law_no_paper ["_law_pen_here"]) (z : Bz K mg cLeastError cBeyond cNoBounds cNoRow cNoSuch cNoText cTooMany) (c__law_chain : Cal P w K mg base k__law_chain "_law_chain" ["_law_pen_here", "_law_deep"] (sp__law_chain K)) (c__law_many : Cal P w K mg base k__law_many "_law_many" ["_law_pen_here"] (sp__law_many K)) (c__law_paper : Cal P w K mg base k__law_paper "_law_paper" ["_law_pen_here", "_law_deep"] (sp__law_paper K)) (c__law_take : Cal P w K mg base k__law_take "_law_take" ["_law_pen_here", "_law_size"] (sp__law_take K)) (c__law_with_sign : Cal P w K mg base k__law_with_sign "_law_with_sign" ["_law_pen_here", "_law_text", "_law_signs"] (sp__law_with_sign K)) (c__law_written : Cal P w K mg base k__law_written "_law_written" ["_law_paper_here"] (sp__law_written K)) : Cal P w K mg base k__law_no_paper "_law_no_paper" ["_law_pen_here"] (sp__law_no_paper K) := by
  have sc := sc__law_no_paper
  refine d.cal fun f fd F => F.ok sc (fun vs H Q E h => ?_) (fun cdv A outer s H vs Q E hr h => ?_)
  · obtain ⟨pen, rfl, _⟩ := h
    rfl
  obtain ⟨pen, rfl, P0, q⟩ := h
  refine ⟨_, (pss_cons (ps_set (i := 1) sc.nd rfl (Or.inl rfl) (pe_fn c__law_written (hr.mono (by decide)) (by rfl) (pa_cons (pe_fn c__law_paper (hr.mono (by decide)) (by rfl) (pa_cons (pv 0) (pa_cons pe_int pa_nil))) pa_nil)))
 (pss_cons (ps_set (i := 2) sc.nd rfl (Or.inl rfl) (pe_fn c__law_written (hr.mono (by decide)) (by rfl) (pa_cons (pe_tup (pa_cons pe_str (pa_cons pe_int (pa_cons (pe_tup (pa_cons pe_str (pa_cons (pe_fn c__law_many (hr.mono (by decide)) (by rfl) (pa_cons (pv 0) pa_nil)) pa_nil))) (pa_cons (pe_fn c__law_paper (hr.mono (by decide)) (by rfl) (pa_cons (pv 0) (pa_cons pe_int pa_nil))) pa_nil))))) pa_nil)))
 (pss_cons1 (ps_set1 (i := 3) sc.nd rfl (Or.inl rfl) (pe_lst1 (pa1_cons (pe_fn c__law_with_sign (hr.mono (by decide)) (by rfl) (pa_cons (pv 0) (pa_cons (pv 1) (pa_cons pe_str pa_nil)))) (pa1_cons (pe_op op_add_str pe_str (pv 1)) (pa1_cons (pe_op op_add_str (pv 1) pe_str) (pa1_cons (pe_op op_add_str (pv 1) pe_str) (pa1_cons (pe_op op_add_str pe_str (pv 1)) (pa1_here (pa_cons (pe_slice sl_str (pv 2) po_none (po_some (pe_un un_neg pe_int))) pa_nil)))))))))
 (pss_cons0 (ps_set0 (i := 3) sc.nd rfl (Or.inl rfl) (pe_op0 op_cat (pv 3) (pe_lst0 (pa0_cons (pe_repl0 (pv 2) (by decide +kernel) (by decide +kernel)) (pa0_cons (pe_0 (pe_op op_add_str (pe_slice sl_str (pv 2) po_none (po_some (pe_un un_neg pe_int))) pe_str)) (pa0_cons (pe_0 (pe_op op_add_str (pe_slice sl_str (pv 2) po_none (po_some (pe_un un_neg pe_int))) pe_str)) (pa0_cons (pe_repl0 (pv 2) (by decide +kernel) (by decide +kernel)) (pa_0 pa_nil))))))))
 (pss_cons (ps_set (i := 3) sc.nd rfl (Or.inl rfl) (pe_op op_cat (pv 3) (pe_lst (pa_cons (pe_fn c__law_written (hr.mono (by decide)) (by rfl) (pa_cons (pe_fn c__law_chain (hr.mono (by decide)) (by rfl) (pa_cons (pv 0) (pa_cons (pe_op op_add pe_int (pe_fn c__law_take (hr.mono (by decide)) (by rfl) (pa_cons (pv 0) (pa_cons pe_int pa_nil)))) pa_nil))) pa_nil)) (pa_cons (pe_op op_repS pe_str pe_int) (pa_cons (pe_op op_add_str (pe_op op_add_str pe_str (pe_op op_repS pe_str pe_int)) pe_str) pa_nil))))))
 (pss_cons (ps_set (i := 3) sc.nd rfl (Or.inl rfl) (pe_op op_cat (pv 3) (pe_lst (pa_cons pe_str (pa_cons pe_str (pa_cons pe_str (pa_cons pe_str (pa_cons pe_str (pa_cons pe_str (pa_cons pe_str (pa_cons pe_str (pa_cons pe_str (pa_cons pe_str pa_nil)))))))))))))
 (pss_one (ps_ret (pe_ix ix_list (pv 3) (pe_fn c__law_take (hr.mono (by decide)) (by rfl) (pa_cons (pv 0) (pa_cons pe_int pa_nil))) (fun _ _ => rfl)))))))))), ?_⟩
  have w4 : wl 4 = 1643 := by decide
  have w3 : wl 3 = 795 := by decide
  refine ⟨_, rfl, 4, Nat.le_refl _, pen, rfl, P0, fun v p H1 k1 P1 hv hO hd hl => ⟨v, p, rfl, hv, hO, by omega, fun H2 s2 => ?_⟩⟩
  have P2 := P1.same s2
  have k02 := k1.trans (Keep.same s2)
  refine ⟨_, rfl, pen, rfl, P2, fun m H3 k3 P3 om => ⟨szb rfl, fun ta hta => ?_⟩⟩
  have s4 := same_new hta (.tup [V.str "all", .int m])
  refine ⟨_, rfl, 3, by decide, pen, rfl, P3.same s4, fun v2 p2 H5 k5 P5 hv2 hO2 hd2 hl2 => ⟨szb rfl, fun tb htb => ?_⟩⟩
  have s6 := same_new htb (.tup [V.str "split", .int 5, .ref ta, v2])
  have o5 : okN 5 := ⟨by decide, by decide⟩
  have hmf := ok_fg om
  have h5f := ok_fg o5
  have hps := pt_split 5 (.all m) p2
  have hpa : (ptL (.all m)).length = (fg m).length := rfl
  refine ⟨.ref tb, .split 5 (.all m) p2, rfl, ⟨tb, .ref ta, v2, rfl, upd_same, ⟨ta, rfl, s6 _ _ (k5 _ _ ((P3.same s4).ne (upd_same)) upd_same)⟩, hv2.same s6⟩, ⟨o5, om, hO2⟩, by omega, fun H7 s7 => ?_⟩
  have P7 := (P5.same s6).same s7
  have k07 := k02.trans (k3.trans ((Keep.same s4).trans (k5.trans ((Keep.same s6).trans (Keep.same s7)))))
  have hTl : (mkS (ptL p)).length = (ptL p).length := mkS_len _
  have hWl : (mkS (ptL (.split 5 (.all m) p2))).length = (ptL (.split 5 (.all m) p2)).length := mkS_len _
  clear k1 k3 k5 P0 P1 P2 P3 P5 s2 s4 s6 s7 hv hv2 k02
  refine ⟨_, rfl, _, rfl, pen, mkS (ptL p), "x+.-_: ", rfl, P7, by omega, by decide +kernel, by decide +kernel, fun a b c H8 k8 P8 hab hc => ?_⟩
  have c1 : ("0" : Str).length = 1 := by decide +kernel
  have c2 : (")" : Str).length = 1 := by decide +kernel
  have c3 : ("," : Str).length = 1 := by decide +kernel
  have c4 : ("(" : Str).length = 1 := by decide +kernel
  have c5 : (",)" : Str).length = 2 := by decide +kernel
  have c6 : (",1)" : Str).length = 3 := by decide +kernel
  refine ⟨_, rfl, _, _, rfl, rfl, sl51 (by omega), _, rfl, _, _, rfl, rfl, sl51 (by omega), _, rfl, _, _, rfl, rfl, sl51 (by omega), _, rfl, _, _, rfl, rfl, sl51 (by omega), _, rfl, _, rfl, _, rfl, mkS (ptL (.split 5 (.all m) p2)), rfl, sl51 (by omega), szb rfl, fun l1 hl1 => ?_⟩
  have hcut : Txt.slice (mkS (ptL (.split 5 (.all m) p2))) none (some (-1)) = mkS (ptL (.split 5 (.all m) p2)).dropLast := slice_m1 (by rw [mkS_l]; omega)
  have hcl : (mkS (ptL (.split 5 (.all m) p2)).dropLast).length ≤ 5000 := by rw [mkS_len, List.length_dropLast]; omega
  rw [show Txt.slice (mkS (ptL (.split 5 (.all m) p2))) none (some (-(1 : Int))) = mkS (ptL (.split 5 (.all m) p2)).dropLast from hcut]
  refine ⟨_, rfl, _, rfl, mkS (ptL (.split 5 (.all m) p2)), rfl, by omega, ?_⟩
  refine ⟨_, rfl, _, rfl, _, rfl, mkS (ptL (.split 5 (.all m) p2)), rfl, sl51 (by omega), ?_⟩
  rw [show Txt.slice (mkS (ptL (.split 5 (.all m) p2))) none (some (-(1 : Int))) = mkS (ptL (.split 5 (.all m) p2)).dropLast from hcut]
  refine ⟨_, _, rfl, rfl, sl51 (by omega), ?_⟩
  refine ⟨_, rfl, _, rfl, _, rfl, mkS (ptL (.split 5 (.all m) p2)), rfl, sl51 (by omega), ?_⟩
  rw [show Txt.slice (mkS (ptL (.split 5 (.all m) p2))) none (some (-(1 : Int))) = mkS (ptL (.split 5 (.all m) p2)).dropLast from hcut]
  refine ⟨_, _, rfl, rfl, sl51 (by omega), ?_⟩
  refine ⟨_, rfl, mkS (ptL (.split 5 (.all m) p2)), rfl, by omega, szb rfl, fun l2 hl2 => ?_⟩
  refine ⟨l1, l2, _, _, rfl, rfl, same_new hl2 _ _ _ upd_same, upd_same, (show 7 + 4 ≤ sizeLine by decide), fun l3 hl3 => ?_⟩
  have n3 : l3 ≠ pen := PenN.fresh ((P8.new hl1 _).new hl2 _) hl3
  refine ⟨_, rfl, _, rfl, _, rfl, pen, 9, rfl, ((P8.new hl1 _).new hl2 _).new hl3 _, by decide, by decide, fun t H9 k9 P9 a9 b9 => ?_⟩
  obtain ⟨tn, rfl⟩ := Int.eq_ofNat_of_zero_le a9
  have e101 : ((101 + tn : Nat) : Int) = 101 + (tn : Int) := by omega
  refine ⟨_, _, rfl, rfl, pen, 101 + tn, by rw [e101]; rfl, P9, by omega, fun v3 p3 H10 k10 P10 hv3 hO3 hd3 hl3' => ⟨v3, p3, rfl, hv3, hO3, by omega, fun H11 s11 => ?_⟩⟩
  have P11 := P10.same s11
  refine ⟨"1", 51, rfl, rfl, by decide +kernel, by decide, by decide, "1", 51, rfl, rfl, by decide +kernel, by decide, by decide, _, _, rfl, rfl, sl51 (by decide +kernel), _, _, rfl, rfl, sl51 (by decide +kernel), szb rfl, fun l4 hl4 => ?_⟩
  refine ⟨l3, l4, _, _, rfl, rfl, same_new hl4 _ _ _ (s11 _ _ (k10 _ _ n3 (k9 _ _ n3 upd_same))), upd_same, (show 11 + 3 ≤ sizeLine by decide), fun l5 hl5 => ?_⟩
  refine ⟨_, rfl, szb rfl, fun l6 hl6 => ⟨l5, l6, _, _, rfl, rfl, same_new hl6 _ _ _ upd_same, upd_same, (show 14 + 10 ≤ sizeLine by decide), fun l7 hl7 => ?_⟩⟩
  have n7 : l7 ≠ pen := PenN.fresh (((P11.new hl4 _).new hl5 _).new hl6 _) hl7
  refine ⟨_, rfl, _, rfl, pen, 24, rfl, (((P11.new hl4 _).new hl5 _).new hl6 _).new hl7 _, by decide, by decide, fun v8 H12 k12 P12 a12 b12 => ?_⟩
  obtain ⟨y, hy, hyv⟩ := atI_strs (l := [mkS (a ++ c :: b), "0" ++ mkS (ptL p), mkS (ptL p) ++ ")", mkS (ptL p) ++ ",", "(" ++ mkS (ptL p), "", mkS (ptL (.split 5 (.all m) p2)).dropLast, repl1 (mkS (ptL (.split 5 (.all m) p2))) "(" "(,", mkS (ptL (.split 5 (.all m) p2)).dropLast ++ ",)", mkS (ptL (.split 5 (.all m) p2)).dropLast ++ ",1)", repl1 (mkS (ptL (.split 5 (.all m) p2))) "," "", mkS (ptL p3), One51, "5(" ++ One51 ++ ",2)", "5()", "5(1)", "5(,)", "5(1,)", "5(1,2", "5(1,2)(1,2)", "5(1,2)3", "5((1,2))", "5[1,2]", "5(1;2)"]) a12 b12
  refine ⟨l7, _, _, _, rfl, rfl, SqL.of (k12 _ _ n7 upd_same), hyv, ?_⟩
  have kall : Keep pen H H12 := k07.trans (k8.trans ((Keep.new hl1 _).trans ((Keep.new hl2 _).trans ((Keep.new hl3 _).trans (k9.trans (k10.trans ((Keep.same s11).trans ((Keep.new hl4 _).trans ((Keep.new hl5 _).trans ((Keep.new hl6 _).trans ((Keep.new hl7 _).trans k12)))))))))))
  have hWd : ptL (.split 5 (.all m) p2) = (fg 5 ++ 40 :: (fg m ++ 44 :: ptL p2)) ++ [41] := by
    show fg 5 ++ 40 :: (fg m ++ 44 :: (ptL p2 ++ [41])) = _
    simp
  have hdl : (ptL (.split 5 (.all m) p2)).dropLast = fg 5 ++ 40 :: (fg m ++ 44 :: ptL p2) := by rw [hWd, List.dropLast_concat]
  have hd4 : dep p2 ≤ 99 := by omega
  have noD : ∀ {n : Int} {d : Nat}, okN n → isD d = false → d ∉ fg n := fun ho hd hm => by
    rw [(ok_fg ho).1 _ hm] at hd
    cases hd
  have q40 : ("(" : Str) = ⟨#[40]⟩ := by decide +kernel
  have q44 : ("," : Str) = ⟨#[44]⟩ := by decide +kernel
  have r1 : repl1 (mkS (ptL (.split 5 (.all m) p2))) "(" "(," = mkS (fg 5 ++ 40 :: 44 :: (fg m ++ 44 :: (ptL p2 ++ [41]))) := by
    rw [q40]
    refine (repl_eq (A := fg 5) (B := fg m ++ 44 :: (ptL p2 ++ [41])) (c := 40) (z := "(,") (noD o5 rfl)).trans ?_
    rw [show ("(," : Str).cps.toList = [40, 44] by decide +kernel]
    rfl
  have r2 : repl1 (mkS (ptL (.split 5 (.all m) p2))) "," "" = mkS (fg 5 ++ 40 :: (fg m ++ (ptL p2 ++ [41]))) := by
    rw [q44]
    have hA : ptL (.split 5 (.all m) p2) = (fg 5 ++ 40 :: fg m) ++ 44 :: (ptL p2 ++ [41]) := by
      show fg 5 ++ 40 :: (fg m ++ 44 :: (ptL p2 ++ [41])) = _
      simp
    rw [hA]
    refine (repl_eq (A := fg 5 ++ 40 :: fg m) (B := ptL p2 ++ [41]) (c := 44) (z := "") (fun hm => ?_)).trans ?_
    · rcases List.mem_append.mp hm with z | z
      · exact noD o5 rfl z
      · rcases List.mem_cons.mp z with z | z
        · exact absurd z (by decide)
        · exact noD om rfl z
    · rw [show ("" : Str).cps.toList = [] by decide +kernel]
      apply str_eq
      simp [mkS_l]
  have fin : y.length ≤ 90000 ∧ okT y.cps.toList = false := by
    simp only [List.mem_cons, List.not_mem_nil, or_false] at hy
    rcases hy with rfl | rfl | rfl | rfl | rfl | rfl | rfl | rfl | rfl | rfl | rfl | rfl | rfl | rfl | rfl | rfl | rfl | rfl | rfl | rfl | rfl | rfl | rfl | rfl
    · refine ⟨?_, paper_bad (c := c) (by show c ∈ a ++ c :: b; simp) ?_⟩
      · rw [mkS_len]
        have h1 := congrArg List.length hab
        rw [List.length_append, mkS_l] at h1
        rw [List.length_append, List.length_cons]
        omega
      · rw [show ("x+.-_: " : Str).cps.toList = [120, 43, 46, 45, 95, 58, 32] by decide +kernel] at hc
        simp only [List.mem_cons, List.not_mem_nil, or_false] at hc
        rcases hc with rfl | rfl | rfl | rfl | rfl | rfl | rfl <;> rfl
    · exact ⟨by rw [app_len]; omega, by rw [lst_app, show ("0" : Str).cps.toList = [48] by decide +kernel]; exact zero_paper hO⟩
    · exact ⟨by rw [app_len]; omega, by rw [lst_app, show (")" : Str).cps.toList = [41] by decide +kernel]; exact behind_paper hO (by omega) rfl (by decide)⟩
    · exact ⟨by rw [app_len]; omega, by rw [lst_app, show ("," : Str).cps.toList = [44] by decide +kernel]; exact behind_paper hO (by omega) rfl (by decide)⟩
    · exact ⟨by rw [app_len]; omega, by rw [lst_app, show ("(" : Str).cps.toList = [40] by decide +kernel]; exact okT_lead rfl⟩
    · exact ⟨by decide +kernel, by rw [show ("" : Str).cps.toList = [] by decide +kernel]; exact okT_lead rfl⟩
    · refine ⟨by omega, ?_⟩
      rw [mkS_l, hdl]
      have := whole_prs (r := []) om hO2 hd4 (fun c hc => by cases hc)
      rw [List.append_nil] at this
      exact this
    · refine ⟨?_, by rw [r1]; exact comma_prs⟩
      rw [r1, mkS_len]
      simp only [List.length_append, List.length_cons, List.length_nil]
      omega
    · refine ⟨by rw [app_len]; omega, ?_⟩
      rw [lst_app, mkS_l, hdl, show (",)" : Str).cps.toList = [44, 41] by decide +kernel]
      have := whole_prs (r := [44, 41]) om hO2 hd4 (fun c hc => by cases hc; exact ⟨rfl, by decide, by decide⟩)
      simpa using this
    · refine ⟨by rw [app_len]; omega, ?_⟩
      rw [lst_app, mkS_l, hdl, show (",1)" : Str).cps.toList = [44, 49, 41] by decide +kernel]
      have := whole_prs (r := [44, 49, 41]) om hO2 hd4 (fun c hc => by cases hc; exact ⟨rfl, by decide, by decide⟩)
      simpa using this
    · refine ⟨?_, by rw [r2]; exact nocomma_prs om hO2⟩
      rw [r2, mkS_len]
      simp only [List.length_append, List.length_cons, List.length_nil]
      omega
    · exact ⟨by rw [mkS_len]; omega, paper_deep hO3 (by omega)⟩
    all_goals exact ⟨by decide +kernel, by decide +kernel⟩
  exact q y H12 kall P12 fin.1 fin.2
end
def Scr (K : PySem.W.Frag) (H : Hp) (a : Addr) (xs : List V) : Prop :=
  (∃ o, H a = some (.frz o (.lst xs))) ∨
    ∃ (o : Obj) (its : Array Value) (n : Nat), K.lookup a = some o ∧ o.cls = .type "list" ∧ o.dict = none ∧ o.data = .seq its n ∧ its.size ≤ sizeLine ∧ Vals xs its.toList
theorem Scr.sq {K : PySem.W.Frag} {H : Hp} {a : Addr} {xs : List V} (h : Scr K H a xs) : SqL K H a xs := by
  rcases h with h | h
  · exact .inl (.inr h)
  · exact .inr h
theorem Scr.of {K : PySem.W.Frag} {H : Hp} {a : Addr} {xs : List V} (h : SqL K H a xs) (o : Only H) : Scr K H a xs := by
  rcases h with (h | h) | h
  · rcases o a with z | ⟨ob, ys, z⟩
    · rw [z] at h; cases h
    · rw [z] at h; cases h
  · exact .inl h
  · exact .inr h
theorem Scr.same {K : PySem.W.Frag} {H H' : Hp} {a : Addr} {xs : List V} (h : Scr K H a xs) (s : Same H H') : Scr K H' a xs := by
  rcases h with ⟨o, h⟩ | h
  · exact .inl ⟨o, s _ _ h⟩
  · exact .inr h
theorem Scr.keep {K : PySem.W.Frag} {H H' : Hp} {a p : Addr} {xs ys : List V} (h : Scr K H a xs) (k : Keep p H H') (e : H p = some (.lst ys)) : Scr K H' a xs := by
  rcases h with ⟨ob, h⟩ | h
  · exact .inl ⟨ob, k _ _ (ne_of h e (by intro z; cases z)) h⟩
  · exact .inr h
theorem PenN.scr {K : PySem.W.Frag} {H H' : Hp} {pen a : Addr} {xs : List V} (p : PenN H pen) (k : Keep pen H H') (h : Scr K H a xs) : Scr K H' a xs := by
  obtain ⟨ys, e⟩ := p.at
  exact h.keep k e
theorem kit_n_s {K : PySem.W.Frag} : PySem.W.kitOne K (.type "NoneType") (.type "str") = some false := by kernel_rfl
theorem kit_b_s {K : PySem.W.Frag} : PySem.W.kitOne K (.type "bool") (.type "str") = some false := by kernel_rfl
theorem kit_l_s {K : PySem.W.Frag} : PySem.W.kitOne K (.type "list") (.type "str") = some false := by kernel_rfl
theorem kit_d_s {K : PySem.W.Frag} : PySem.W.kitOne K (.type "dict") (.type "str") = some false := by kernel_rfl
theorem rd10 : rdN ("-10" : Str).cps.toList = some (-10) := by decide +kernel
theorem rd03 : rdR ("0 -3" : Str) = some [0, -3] := by
  have h := rdR_row (ns := [0, -3]) (fun n hn => by
    simp only [List.mem_cons, List.not_mem_nil, or_false] at hn
    omega)
  rw [show rowT [0, -3] = "0 -3" by decide +kernel] at h
  exact h
abbrev k_law : Nat := 107
abbrev sp_law (K : PySem.W.Frag) : Sp := spLaw K
section
variable {P : Program} {w : World} {K : PySem.W.Frag} {mg : Str → Option Value} {base : Heap}
theorem ok_law (z : Bz K mg cLeastError cBeyond cNoBounds cNoRow cNoSuch cNoText cTooMany) (c__law_cell : Cal P w K mg base k__law_cell "_law_cell" ["_law_script", "_law_k"] (sp__law_cell K)) (c__law_no_number : Cal P w K mg base k__law_no_number "_law_no_number" ["_law_pen_here"] (sp__law_no_number K)) (c__law_no_paper : Cal P w K mg base k__law_no_paper "_law_no_paper" ["_law_pen_here"] (sp__law_no_paper K)) (c__law_no_row : Cal P w K mg base k__law_no_row "_law_no_row" ["_law_pen_here"] (sp__law_no_row K)) (c__law_paper : Cal P w K mg base k__law_paper "_law_paper" ["_law_pen_here", "_law_deep"] (sp__law_paper K)) (c__law_pen : Cal P w K mg base k__law_pen "_law_pen" ["_law_cell_here"] (sp__law_pen K)) (c__law_refused : Cal P w K mg base k__law_refused "_law_refused" ["_law_which", "_law_text"] (sp__law_refused K)) (c__law_take : Cal P w K mg base k__law_take "_law_take" ["_law_pen_here", "_law_size"] (sp__law_take K)) (c__law_written : Cal P w K mg base k__law_written "_law_written" ["_law_paper_here"] (sp__law_written K)) (c_read_number : Cal P w K mg base k_read_number "read_number" ["text"] (sp_read_number K)) (c_read_paper : Cal P w K mg base k_read_paper "read_paper" ["text"] (sp_read_paper K)) (c_read_row : Cal P w K mg base k_read_row "read_row" ["text"] (sp_read_row K)) : ∀ (f : Addr) (fd : FuncData), Fun K "law" "law" s_law f fd → FnOk P w K mg base CX0 k_law f fd ["_law_script"] (sp_law K) := by
  have sc := sc_law
  intro f fd F
  refine F.ok sc (fun vs H Q E h => ?_) (fun cdv A outer s H vs Q E hr h => ?_)
  · obtain ⟨a, ns, rfl, _⟩ := h
    rfl
  obtain ⟨a, scs, rfl, hS, h63, hO, q⟩ := h
  refine ⟨_, (pss_cons (ps_for PassesOwn.never rfl (pi_range1 rfl z.range_ (pa_cons pe_int pa_nil)) (pg_name (i := 1) sc.nd rfl (Or.inl rfl))
  (pss_cons (ps_set (i := 2) sc.nd rfl (Or.inl rfl) (pe_fn c__law_pen (hr.mono (by decide)) (by rfl) (pa_cons (pe_fn c__law_cell (hr.mono (by decide)) (by rfl) (pa_cons (pv 0) (pa_cons (pv 1) pa_nil))) pa_nil)))
 (pss_cons (ps_for PassesOwn.never rfl (pi_range1 rfl z.range_ (pa_cons pe_int pa_nil)) (pg_name (i := 3) sc.nd rfl (Or.inl rfl))
  (pss_cons (ps_if (PW.pt (pw_or (pt_not (pt_val (pe_fn c__law_refused (hr.mono (by decide)) (by rfl) (pa_cons pe_int (pa_cons (pe_fn c__law_no_number (hr.mono (by decide)) (by rfl) (pa_cons (pv 2) pa_nil)) pa_nil))))) (pw_or1 (pt_not (pt_val (pe_fn c__law_refused (hr.mono (by decide)) (by rfl) (pa_cons pe_int (pa_cons (pe_fn c__law_no_row (hr.mono (by decide)) (by rfl) (pa_cons (pv 2) pa_nil)) pa_nil))))))))
  (pss_one (ps_ret pe_bl))
  pss_nil)
 (pss_cons (ps_if (pt_not (pt_val (pe_fn c__law_refused (hr.mono (by decide)) (by rfl) (pa_cons pe_int (pa_cons (pe_fn c__law_no_paper (hr.mono (by decide)) (by rfl) (pa_cons (pv 2) pa_nil)) pa_nil)))))
  (pss_one (ps_ret pe_bl))
  pss_nil)
 (pss_cons (ps_set (i := 4) sc.nd rfl (Or.inl rfl) (pe_ix ix_list (pe_lst (pa_cons pe_non (pa_cons pe_int (pa_cons pe_bl (pa_cons (pe_lst (pa_cons pe_str pa_nil)) (pa_cons (pe_tup (pa_cons pe_str pa_nil)) (pa_cons pe_dnewK (pa_cons pe_int pa_nil)))))))) (pe_fn c__law_take (hr.mono (by decide)) (by rfl) (pa_cons (pv 2) (pa_cons pe_int pa_nil))) (fun _ _ => rfl)))
 (pss_one (ps_for PassesOwn.never rfl (pi_range1 rfl z.range_ (pa_cons pe_int pa_nil)) (pg_name (i := 5) sc.nd rfl (Or.inl rfl))
  (pss_one (ps_if (pt_not (pt_val (pe_fn c__law_refused (hr.mono (by decide)) (by rfl) (pa_cons (pv 5) (pa_cons (pv 4) pa_nil)))))
  (pss_one (ps_ret pe_bl))
  pss_nil))))))))
 (pss_cons (ps_set (i := 6) sc.nd rfl (Or.inl rfl) (pe_fn c__law_paper (hr.mono (by decide)) (by rfl) (pa_cons (pv 2) (pa_cons pe_int pa_nil))))
 (pss_one (ps_if (PW.pt (pw_or (pt_cmpR (op_neAlkD hr.units2) (pe_fn c_read_paper (hr.mono (by decide)) (by rfl) (pa_cons (pe_fn c__law_written (hr.mono (by decide)) (by rfl) (pa_cons (pv 6) pa_nil)) pa_nil)) (pv 6) (nomark _)) (pw_or (pt_cmpR op_ne (pe_fn c_read_number (hr.mono (by decide)) (by rfl) (pa_cons pe_str pa_nil)) (pe_un un_neg pe_int) (nomark _)) (pw_or1 (pt_cmpR (op_neL hr.units) (pe_fn c_read_row (hr.mono (by decide)) (by rfl) (pa_cons pe_str pa_nil)) (pe_lst (pa_cons pe_int (pa_cons (pe_un un_neg pe_int) pa_nil))) (nomark _))))))
  (pss_one (ps_ret pe_bl))
  pss_nil))))))
 (pss_one (ps_ret pe_bl))), ?_⟩
  refine ⟨3, rfl, by decide, by decide, for_range (n := 3) (fun i σ G => ∃ v1 v2 v3 v4 v5 v6 : Option V, σ = [some (.ref a), v1, v2, v3, v4, v5, v6] ∧ Scr K G a (scs.map V.int)) ⟨_, _, _, _, _, _, rfl, Scr.of hS hO⟩ ?_ ?_⟩
  · rintro i σ G hi ⟨v1, v2, v3, v4, v5, v6, rfl, S0⟩
    refine ⟨_, rfl, _, rfl, a, scs, _, rfl, S0.sq, h63, by omega, by omega, fun cell => ⟨cell, rfl, fun pen hpen => ?_⟩⟩
    have P1 : PenN (upd G pen (.lst [.int cell, .int 0])) pen := ⟨_, _, upd_same⟩
    have S1 := S0.same (same_new hpen (.lst [.int cell, .int 0]))
    generalize upd G pen (.lst [.int cell, .int 0]) = H1 at *
    refine ⟨4, rfl, by decide, by decide, for_range (n := 4) (fun j σ G2 => ∃ v3 v4 v5 : Option V, σ = [some (.ref a), some (.int (0 + (i : Int))), some (.ref pen), v3, v4, v5, v6] ∧ PenN G2 pen ∧ Scr K G2 a (scs.map V.int)) ⟨_, _, _, rfl, P1, S1⟩ ?_ ?_⟩
    · rintro j σ G2 hj ⟨v3, v4, v5, rfl, P2, S2⟩
      refine ⟨_, rfl, pen, rfl, P2, fun x1 H3 k3 P3 hl1 hn1 => ⟨0, .str x1, rfl, .inl rfl, .inr ⟨x1, rfl, hl1, fun _ => hn1, fun z => (by cases z), fun z => (by cases z)⟩, fun H4 s4 => ⟨_, rfl, iteF ?_⟩⟩⟩
      refine ⟨_, rfl, pen, rfl, P3.same s4, fun x2 H5 k5 P5 hl2 hn2 => ⟨1, .str x2, rfl, .inr (.inl rfl), .inr ⟨x2, rfl, hl2, fun z => (by cases z), fun _ => hn2, fun z => (by cases z)⟩, fun H6 s6 => ⟨_, rfl, iteF ?_⟩⟩⟩
      refine ⟨_, rfl, pen, rfl, P5.same s6, fun x3 H7 k7 P7 hl3 hn3 => ⟨2, .str x3, rfl, .inr (.inr rfl), .inr ⟨x3, rfl, hl3, fun z => (by cases z), fun z => (by cases z), fun _ => hn3⟩, fun H8 s8 => ⟨_, rfl, iteF ?_⟩⟩⟩
      have S8 : Scr K H8 a (scs.map V.int) := ((P5.same s6).scr k7 (((P3.same s4).scr k5 ((P2.scr k3 S2).same s4)).same s6)).same s8
      have P8 := P7.same s8
      clear k3 k5 k7 s4 s6 s8 P2 P3 P5 P7 S2
      refine ⟨szb rfl, fun q1 hq1 => ⟨szb rfl, fun q2 hq2 => fun q3 hq3 => ⟨szb rfl, fun q4 hq4 => ?_⟩⟩⟩
      have s9 := same_new hq1 (.lst [V.str "1"])
      have s10 := same_new hq2 (.tup [V.str "1"])
      have s11 := same_new hq3 (.dK [])
      have s12 := same_new hq4 (.lst [V.non, .int 5, .bl true, .ref q1, .ref q2, .ref q3, .int 0])
      have s812 := s9.trans (s10.trans (s11.trans s12))
      have h1 := (s10.trans (s11.trans s12)) _ _ (upd_same (H := H8) (a := q1) (o := .lst [V.str "1"]))
      have h2 := (s11.trans s12) _ _ (upd_same (H := upd H8 q1 (.lst [V.str "1"])) (a := q2) (o := .tup [V.str "1"]))
      have h3 := s12 _ _ (upd_same (H := upd (upd H8 q1 (.lst [V.str "1"])) q2 (.tup [V.str "1"])) (a := q3) (o := .dK []))
      have P12 := P8.same s812
      have n1 : q1 ≠ pen := P8.fresh hq1
      have n2 : q2 ≠ pen := (P8.same s9).fresh hq2
      have n3 : q3 ≠ pen := (P8.same (s9.trans s10)).fresh hq3
      have n4 : q4 ≠ pen := (P8.same (s9.trans (s10.trans s11))).fresh hq4
      refine ⟨_, rfl, pen, 7, rfl, P12, by decide, by decide, fun v13 H13 k13 P13 a13 b13 => ?_⟩
      obtain ⟨vn, rfl⟩ := Int.eq_ofNat_of_zero_le a13
      have hvn : vn < ([V.non, .int 5, .bl true, .ref q1, .ref q2, .ref q3, .int 0] : List V).length := by show vn < 7; omega
      have g1 := k13 _ _ n1 h1
      have g2 := k13 _ _ n2 h2
      have g3 := k13 _ _ n3 h3
      have S13 := P12.scr k13 (S8.same s812)
      have hno : ∀ x ∈ ([V.non, .int 5, .bl true, .ref q1, .ref q2, .ref q3, .int 0] : List V), NoStr K H13 x := fun x hx => by
        simp only [List.mem_cons, List.not_mem_nil, or_false] at hx
        rcases hx with rfl | rfl | rfl | rfl | rfl | rfl | rfl
        · exact ⟨_, .non, kit_n_s⟩
        · exact ⟨_, .int _, kit_int_str⟩
        · exact ⟨_, .bl _, kit_b_s⟩
        · exact ⟨_, .lst g1, kit_l_s⟩
        · exact ⟨_, .tup g2, kit_tuple_str⟩
        · exact ⟨_, .dK g3, kit_d_s⟩
        · exact ⟨_, .int _, kit_int_str⟩
      have hth := hno _ (List.getElem_mem hvn)
      refine ⟨q4, _, _, _, rfl, rfl, SqL.of (k13 _ _ n4 upd_same), atI_nat (List.getElem?_eq_getElem hvn), ?_⟩
      generalize ([V.non, .int 5, .bl true, .ref q1, .ref q2, .ref q3, .int 0] : List V)[vn] = th at hth
      clear h1 h2 h3 g1 g2 g3 hno s9 s10 s11 s12 s812 k13 P12 P8 S8
      refine ⟨3, rfl, by decide, by decide, for_range (n := 3) (fun u σ G14 => ∃ v5 : Option V, σ = [some (.ref a), some (.int (0 + (i : Int))), some (.ref pen), some (.int (0 + (j : Int))), some th, v5, v6] ∧ PenN G14 pen ∧ Scr K G14 a (scs.map V.int) ∧ NoStr K G14 th) ⟨_, rfl, P13, S13, hth⟩ ?_ ?_⟩
      · rintro u σ G14 hu ⟨v5', rfl, P14, S14, N14⟩
        refine ⟨_, rfl, _, rfl, _, th, rfl, by omega, .inl N14, fun H15 s15 => ⟨_, rfl, iteF ?_⟩⟩
        exact ⟨_, rfl, P14.same s15, S14.same s15, N14.same s15⟩
      · rintro σ G14 ⟨v5', rfl, P14, S14, _⟩
        exact ⟨_, _, _, rfl, P14, S14⟩
    rintro σ G2 ⟨v3, v4, v5, rfl, P2, S2⟩
    have w4' : wl 4 = 1643 := by decide
    refine ⟨_, rfl, 4, Nat.le_refl _, pen, rfl, P2, fun v p H3 k3 P3 hv hO1 hd1 hlp => ?_⟩
    have S3 := P2.scr k3 S2
    have hsl : (mkS (ptL p)).length ≤ 90000 := by rw [mkS_len]; omega
    have hprs : prsP 100 (mkS (ptL p)).cps.toList = some (p, []) := by
      have z := prs_pt (r := []) hO1 (show dep p ≤ 100 by omega) (fun c hc => by cases hc)
      rw [List.append_nil] at z
      exact z
    refine ⟨_, rfl, v, p, rfl, hv, hO1, by omega, fun H4 s4 => ?_⟩
    refine ⟨mkS (ptL p), p, rfl, hsl, hprs, fun u2 H5 s5 hu2 => ?_⟩
    have hv5 := (hv.same s4).same s5
    obtain ⟨b1, _, eb, _⟩ := hv5.ref
    obtain ⟨b2, _, rfl, _⟩ := hu2.ref
    have hal := alk_pp (K := K) hu2 hv5
    rw [eb] at hal
    refine ⟨_, rfl, dep p + 1, b2, b1, rfl, eb, hal, by omega, _, rfl, iteF ?_⟩
    refine ⟨"-10", -10, rfl, rd10, fun H6 s6 => ⟨_, rfl, rfl, _, rfl, iteNS rfl ?_⟩⟩
    refine ⟨"0 -3", [0, -3], rfl, rd03, by decide +kernel, fun D H7 s7 _ hD => ⟨_, rfl, szb rfl, fun e he => ?_⟩⟩
    have s8 := same_new he (.lst [V.int 0, .int (-3)])
    refine ⟨D, e, [0, -3], [0, -3], rfl, rfl, SqL.of (s8 _ _ hD), SqL.of upd_same, _, rfl, iteNS rfl ?_⟩
    exact ⟨_, _, _, _, _, _, rfl, S3.same (s4.trans (s5.trans (s6.trans (s7.trans s8))))⟩
  · rintro σ G ⟨v1, v2, v3, v4, v5, v6, rfl, _⟩
    exact q G
end
theorem all_ok {P : Program} {w : World} {K : PySem.W.Frag} {mg : Str → Option Value} {base : Heap} (z : Bz K mg cLeastError cBeyond cNoBounds cNoRow cNoSuch cNoText cTooMany)
    (d__law_cell : Def K mg "_law_cell" s__law_cell ["_law_script", "_law_k"])
    (d__law_pen : Def K mg "_law_pen" s__law_pen ["_law_cell_here"])
    (d__law_take : Def K mg "_law_take" s__law_take ["_law_pen_here", "_law_size"])
    (d_are_figures : Def K mg "are_figures" s_are_figures ["text"])
    (d_read_number : Def K mg "read_number" s_read_number ["text"])
    (d_read_row : Def K mg "read_row" s_read_row ["text"])
    (d_place_behind : Def K mg "place_behind" s_place_behind ["text", "place", "sign"])
    (d_read_paper_from : Def K mg "read_paper_from" s_read_paper_from ["text", "start", "depth"])
    (d_read_paper : Def K mg "read_paper" s_read_paper ["text"])
    (d__law_many : Def K mg "_law_many" s__law_many ["_law_pen_here"])
    (d__law_paper : Def K mg "_law_paper" s__law_paper ["_law_pen_here", "_law_deep"])
    (d__law_chain : Def K mg "_law_chain" s__law_chain ["_law_pen_here", "_law_deep"])
    (d__law_written : Def K mg "_law_written" s__law_written ["_law_paper_here"])
    (d__law_refused : Def K mg "_law_refused" s__law_refused ["_law_which", "_law_text"])
    (d__law_with_sign : Def K mg "_law_with_sign" s__law_with_sign ["_law_pen_here", "_law_text", "_law_signs"])
    (d__law_no_number : Def K mg "_law_no_number" s__law_no_number ["_law_pen_here"])
    (d__law_no_row : Def K mg "_law_no_row" s__law_no_row ["_law_pen_here"])
    (d__law_no_paper : Def K mg "_law_no_paper" s__law_no_paper ["_law_pen_here"])
    : ∀ (f : Addr) (fd : FuncData), Fun K "law" "law" s_law f fd → FnOk P w K mg base CX0 k_law f fd ["_law_script"] (sp_law K) := by
  have c__law_cell : Cal P w K mg base k__law_cell "_law_cell" ["_law_script", "_law_k"] (sp__law_cell K) := ok__law_cell d__law_cell z 
  have c__law_pen : Cal P w K mg base k__law_pen "_law_pen" ["_law_cell_here"] (sp__law_pen K) := ok__law_pen d__law_pen z 
  have c__law_take : Cal P w K mg base k__law_take "_law_take" ["_law_pen_here", "_law_size"] (sp__law_take K) := ok__law_take d__law_take z 
  have c_are_figures : Cal P w K mg base k_are_figures "are_figures" ["text"] (sp_are_figures K) := ok_are_figures d_are_figures z 
  have c1_read_number : CalX P w K mg base k_read_number "read_number" ["text"] (sp1_read_number K cNoText) := okx_read_number d_read_number z c_are_figures
  have c_read_number : Cal P w K mg base k_read_number "read_number" ["text"] (sp_read_number K) := ok_read_number c1_read_number
  have c1_read_row : CalX P w K mg base k_read_row "read_row" ["text"] (sp1_read_row K cNoText) := okx_read_row d_read_row z c1_read_number
  have c_read_row : Cal P w K mg base k_read_row "read_row" ["text"] (sp_read_row K) := ok_read_row c1_read_row
  have c1_place_behind : CalX P w K mg base k_place_behind "place_behind" ["text", "place", "sign"] (sp1_place_behind K cNoText) := okx_place_behind d_place_behind z 
  have c_place_behind : Cal P w K mg base k_place_behind "place_behind" ["text", "place", "sign"] (sp_place_behind K) := ok_place_behind c1_place_behind
  have c1_read_paper_from : CalX P w K mg base k_read_paper_from "read_paper_from" ["text", "start", "depth"] (sp1_read_paper_from K cNoText) := okx_read_paper_from d_read_paper_from z c1_place_behind c1_read_number
  have c_read_paper_from : Cal P w K mg base k_read_paper_from "read_paper_from" ["text", "start", "depth"] (sp_read_paper_from K) := ok_read_paper_from c1_read_paper_from
  have c1_read_paper : CalX P w K mg base k_read_paper "read_paper" ["text"] (sp1_read_paper K cNoText) := okx_read_paper d_read_paper z c1_read_paper_from
  have c_read_paper : Cal P w K mg base k_read_paper "read_paper" ["text"] (sp_read_paper K) := ok_read_paper c1_read_paper
  have c__law_many : Cal P w K mg base k__law_many "_law_many" ["_law_pen_here"] (sp__law_many K) := ok__law_many d__law_many z c__law_take
  have c__law_paper : Cal P w K mg base k__law_paper "_law_paper" ["_law_pen_here", "_law_deep"] (sp__law_paper K) := ok__law_paper d__law_paper z c__law_many c__law_take
  have c__law_chain : Cal P w K mg base k__law_chain "_law_chain" ["_law_pen_here", "_law_deep"] (sp__law_chain K) := ok__law_chain d__law_chain z c__law_many c__law_take
  have c__law_written : Cal P w K mg base k__law_written "_law_written" ["_law_paper_here"] (sp__law_written K) := ok__law_written d__law_written z 
  have c__law_refused : Cal P w K mg base k__law_refused "_law_refused" ["_law_which", "_law_text"] (sp__law_refused K) := ok__law_refused d__law_refused z c1_read_number c1_read_paper c1_read_row
  have c__law_with_sign : Cal P w K mg base k__law_with_sign "_law_with_sign" ["_law_pen_here", "_law_text", "_law_signs"] (sp__law_with_sign K) := ok__law_with_sign d__law_with_sign z c__law_take
  have c__law_no_number : Cal P w K mg base k__law_no_number "_law_no_number" ["_law_pen_here"] (sp__law_no_number K) := ok__law_no_number d__law_no_number z c__law_many c__law_take c__law_with_sign
  have c__law_no_row : Cal P w K mg base k__law_no_row "_law_no_row" ["_law_pen_here"] (sp__law_no_row K) := ok__law_no_row d__law_no_row z c__law_many c__law_take c__law_with_sign
  have c__law_no_paper : Cal P w K mg base k__law_no_paper "_law_no_paper" ["_law_pen_here"] (sp__law_no_paper K) := ok__law_no_paper d__law_no_paper z c__law_chain c__law_many c__law_paper c__law_take c__law_with_sign c__law_written
  exact ok_law z c__law_cell c__law_no_number c__law_no_paper c__law_no_row c__law_paper c__law_pen c__law_refused c__law_take c__law_written c_read_number c_read_paper c_read_row
end My
open PySem PySem.W PyProof.Rows
set_option maxRecDepth 100000 in
set_option maxHeartbeats 0 in
theorem PySem.Challenge.cw_manyleast_k58_texts_refused_holds : PySem.Challenge.rw_manyleast_k58_texts_refused.Holds := by
  refine MyQ.hd ?_
  k_fill
  refine L2.walkL (k := My.k_law) (l := PySem.Challenge.rw_manyleast_k58_texts_refused) ⟨rfl, by decide, by decide⟩ rfl rfl (fun w h Y => PySem.W.kIn_of Y) ?F
  case F =>
    intro w mg fa h KX G hmg
    have d__law_cell : L2.Def (L2.KOf KX) mg "_law_cell" My.s__law_cell ["_law_script", "_law_k"] := by
      dsimp only [L2.KOf]
      refine' L2.def_mk KX G ?a ?l ?c ?k ?b
      (case a => k_is); (case l => k_is); (case c => k_is); (case k => k_is)
      (case b => exact fun _ _ _ _ _ _ us hl => match us, hl with | [_, _], _ => rfl)
    have d__law_pen : L2.Def (L2.KOf KX) mg "_law_pen" My.s__law_pen ["_law_cell_here"] := by
      dsimp only [L2.KOf]
      refine' L2.def_mk KX G ?a ?l ?c ?k ?b
      (case a => k_is); (case l => k_is); (case c => k_is); (case k => k_is)
      (case b => exact fun _ _ _ _ _ _ us hl => match us, hl with | [_], _ => rfl)
    have d__law_take : L2.Def (L2.KOf KX) mg "_law_take" My.s__law_take ["_law_pen_here", "_law_size"] := by
      dsimp only [L2.KOf]
      refine' L2.def_mk KX G ?a ?l ?c ?k ?b
      (case a => k_is); (case l => k_is); (case c => k_is); (case k => k_is)
      (case b => exact fun _ _ _ _ _ _ us hl => match us, hl with | [_, _], _ => rfl)
    have d_are_figures : L2.Def (L2.KOf KX) mg "are_figures" My.s_are_figures ["text"] := by
      dsimp only [L2.KOf]
      refine' L2.def_mk KX G ?a ?l ?c ?k ?b
      (case a => k_is); (case l => k_is); (case c => k_is); (case k => k_is)
      (case b => exact fun _ _ _ _ _ _ us hl => match us, hl with | [_], _ => rfl)
    have d_read_number : L2.Def (L2.KOf KX) mg "read_number" My.s_read_number ["text"] := by
      dsimp only [L2.KOf]
      refine' L2.def_mk KX G ?a ?l ?c ?k ?b
      (case a => k_is); (case l => k_is); (case c => k_is); (case k => k_is)
      (case b => exact fun _ _ _ _ _ _ us hl => match us, hl with | [_], _ => rfl)
    have d_read_row : L2.Def (L2.KOf KX) mg "read_row" My.s_read_row ["text"] := by
      dsimp only [L2.KOf]
      refine' L2.def_mk KX G ?a ?l ?c ?k ?b
      (case a => k_is); (case l => k_is); (case c => k_is); (case k => k_is)
      (case b => exact fun _ _ _ _ _ _ us hl => match us, hl with | [_], _ => rfl)
    have d_place_behind : L2.Def (L2.KOf KX) mg "place_behind" My.s_place_behind ["text", "place", "sign"] := by
      dsimp only [L2.KOf]
      refine' L2.def_mk KX G ?a ?l ?c ?k ?b
      (case a => k_is); (case l => k_is); (case c => k_is); (case k => k_is)
      (case b => exact fun _ _ _ _ _ _ us hl => match us, hl with | [_, _, _], _ => rfl)
    have d_read_paper_from : L2.Def (L2.KOf KX) mg "read_paper_from" My.s_read_paper_from ["text", "start", "depth"] := by
      dsimp only [L2.KOf]
      refine' L2.def_mk KX G ?a ?l ?c ?k ?b
      (case a => k_is); (case l => k_is); (case c => k_is); (case k => k_is)
      (case b => exact fun _ _ _ _ _ _ us hl => match us, hl with | [_, _, _], _ => rfl)
    have d_read_paper : L2.Def (L2.KOf KX) mg "read_paper" My.s_read_paper ["text"] := by
      dsimp only [L2.KOf]
      refine' L2.def_mk KX G ?a ?l ?c ?k ?b
      (case a => k_is); (case l => k_is); (case c => k_is); (case k => k_is)
      (case b => exact fun _ _ _ _ _ _ us hl => match us, hl with | [_], _ => rfl)
    have d__law_many : L2.Def (L2.KOf KX) mg "_law_many" My.s__law_many ["_law_pen_here"] := by
      dsimp only [L2.KOf]
      refine' L2.def_mk KX G ?a ?l ?c ?k ?b
      (case a => k_is); (case l => k_is); (case c => k_is); (case k => k_is)
      (case b => exact fun _ _ _ _ _ _ us hl => match us, hl with | [_], _ => rfl)
    have d__law_paper : L2.Def (L2.KOf KX) mg "_law_paper" My.s__law_paper ["_law_pen_here", "_law_deep"] := by
      dsimp only [L2.KOf]
      refine' L2.def_mk KX G ?a ?l ?c ?k ?b
      (case a => k_is); (case l => k_is); (case c => k_is); (case k => k_is)
      (case b => exact fun _ _ _ _ _ _ us hl => match us, hl with | [_, _], _ => rfl)
    have d__law_chain : L2.Def (L2.KOf KX) mg "_law_chain" My.s__law_chain ["_law_pen_here", "_law_deep"] := by
      dsimp only [L2.KOf]
      refine' L2.def_mk KX G ?a ?l ?c ?k ?b
      (case a => k_is); (case l => k_is); (case c => k_is); (case k => k_is)
      (case b => exact fun _ _ _ _ _ _ us hl => match us, hl with | [_, _], _ => rfl)
    have d__law_written : L2.Def (L2.KOf KX) mg "_law_written" My.s__law_written ["_law_paper_here"] := by
      dsimp only [L2.KOf]
      refine' L2.def_mk KX G ?a ?l ?c ?k ?b
      (case a => k_is); (case l => k_is); (case c => k_is); (case k => k_is)
      (case b => exact fun _ _ _ _ _ _ us hl => match us, hl with | [_], _ => rfl)
    have d__law_refused : L2.Def (L2.KOf KX) mg "_law_refused" My.s__law_refused ["_law_which", "_law_text"] := by
      dsimp only [L2.KOf]
      refine' L2.def_mk KX G ?a ?l ?c ?k ?b
      (case a => k_is); (case l => k_is); (case c => k_is); (case k => k_is)
      (case b => exact fun _ _ _ _ _ _ us hl => match us, hl with | [_, _], _ => rfl)
    have d__law_with_sign : L2.Def (L2.KOf KX) mg "_law_with_sign" My.s__law_with_sign ["_law_pen_here", "_law_text", "_law_signs"] := by
      dsimp only [L2.KOf]
      refine' L2.def_mk KX G ?a ?l ?c ?k ?b
      (case a => k_is); (case l => k_is); (case c => k_is); (case k => k_is)
      (case b => exact fun _ _ _ _ _ _ us hl => match us, hl with | [_, _, _], _ => rfl)
    have d__law_no_number : L2.Def (L2.KOf KX) mg "_law_no_number" My.s__law_no_number ["_law_pen_here"] := by
      dsimp only [L2.KOf]
      refine' L2.def_mk KX G ?a ?l ?c ?k ?b
      (case a => k_is); (case l => k_is); (case c => k_is); (case k => k_is)
      (case b => exact fun _ _ _ _ _ _ us hl => match us, hl with | [_], _ => rfl)
    have d__law_no_row : L2.Def (L2.KOf KX) mg "_law_no_row" My.s__law_no_row ["_law_pen_here"] := by
      dsimp only [L2.KOf]
      refine' L2.def_mk KX G ?a ?l ?c ?k ?b
      (case a => k_is); (case l => k_is); (case c => k_is); (case k => k_is)
      (case b => exact fun _ _ _ _ _ _ us hl => match us, hl with | [_], _ => rfl)
    have d__law_no_paper : L2.Def (L2.KOf KX) mg "_law_no_paper" My.s__law_no_paper ["_law_pen_here"] := by
      dsimp only [L2.KOf]
      refine' L2.def_mk KX G ?a ?l ?c ?k ?b
      (case a => k_is); (case l => k_is); (case c => k_is); (case k => k_is)
      (case b => exact fun _ _ _ _ _ _ us hl => match us, hl with | [_], _ => rfl)
    have d_law : L2.Def (L2.KOf KX) mg "law" My.s_law ["_law_script"] := by
      dsimp only [L2.KOf]
      refine' L2.def_mk KX G ?a ?l ?c ?k ?b
      (case a => k_is); (case l => k_is); (case c => k_is); (case k => k_is)
      (case b => exact fun _ _ _ _ _ _ us hl => match us, hl with | [_], _ => rfl)
    obtain ⟨cLeastError, cBeyond, cNoBounds, cNoRow, cNoSuch, cNoText, cTooMany, z⟩ : ∃ cLeastError cBeyond cNoBounds cNoRow cNoSuch cNoText cTooMany : Addr, My.Bz (L2.KOf KX) mg cLeastError cBeyond cNoBounds cNoRow cNoSuch cNoText cTooMany := by
      dsimp only [L2.KOf]
      refine' ⟨_, _, _, _, _, _, _, ⟨PySem.W.mg_none_of KX G ?z0, PySem.W.mg_none_of KX G ?z1, PySem.W.mg_none_of KX G ?z2, PySem.W.mg_none_of KX G ?z3, PySem.W.mg_none_of KX G ?z4, PySem.W.mg_none_of KX G ?z5, PySem.W.mg_none_of KX G ?z6, PySem.W.mg_of KX G ?m0, PySem.W.mg_of KX G ?m1, PySem.W.mg_of KX G ?m2, PySem.W.mg_of KX G ?m3, PySem.W.mg_of KX G ?m4, PySem.W.mg_of KX G ?m5, PySem.W.mg_of KX G ?m6, ?y0_0, ⟨?y1_0, ?y1_1, ?y1_2, ?y1_3, ?y1_4, ?y1_5, ?y1_6, ?y1_7⟩, ?y2_0, ?y3_0, ?y4_0, ?y5_0, ⟨"0123456789", 314, PySem.W.mg_of KX G ?fgs, rfl⟩⟩⟩
      (case z0 => k_is)
      (case z1 => k_is)
      (case z2 => k_is)
      (case z3 => k_is)
      (case z4 => k_is)
      (case z5 => k_is)
      (case z6 => k_is)
      (case m0 => k_is)
      (case m1 => k_is)
      (case m2 => k_is)
      (case m3 => k_is)
      (case m4 => k_is)
      (case m5 => k_is)
      (case m6 => k_is)
      (case y0_0 => first | k_is | kernel_rfl)
      (case y1_0 => first | k_is | kernel_rfl)
      (case y1_1 => first | k_is | kernel_rfl)
      (case y1_2 => first | k_is | kernel_rfl)
      (case y1_3 => first | k_is | kernel_rfl)
      (case y1_4 => first | k_is | kernel_rfl)
      (case y1_5 => first | k_is | kernel_rfl)
      (case y1_6 => first | k_is | kernel_rfl)
      (case y1_7 => first | k_is | kernel_rfl)
      (case y2_0 => first | k_is | kernel_rfl)
      (case y3_0 => first | k_is | kernel_rfl)
      (case y4_0 => first | k_is | kernel_rfl)
      (case y5_0 => first | k_is | kernel_rfl)
      (case fgs => first | k_is | kernel_rfl)
    exact L2.law_mk d_law (fun base => My.all_ok (base := base) z d__law_cell d__law_pen d__law_take d_are_figures d_read_number d_read_row d_place_behind d_read_paper_from d_read_paper d__law_many d__law_paper d__law_chain d__law_written d__law_refused d__law_with_sign d__law_no_number d__law_no_row d__law_no_paper) hmg
#print axioms PySem.Challenge.cw_manyleast_k58_texts_refused_holds
