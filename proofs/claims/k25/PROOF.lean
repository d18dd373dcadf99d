import PyProof.Rows.All
import Wide.All
import OpenK.AllK
import Wide.FinOn
import Lean
import PyProof.EqAt
import PyProof.EqKinds
import PyProof.TupleCall
import KE.KRevSl
import PySem.Challenge.RW_manyleast_k25_whole_orders_and_counts
set_option Elab.async false
set_option linter.all false
set_option maxRecDepth 100000
set_option maxHeartbeats 4000000
namespace MyQ
open PySem PySem.W PyProof.Rows
def at_ (i : Nat) : Stmt := PySem.Challenge.pw_manyleast_k25_whole_orders_and_counts.main.body.getD i (.Pass ⟨0, 0, 0, 0⟩)
def vw : Program := { PySem.Challenge.pw_manyleast_k25_whole_orders_and_counts with main := { PySem.Challenge.pw_manyleast_k25_whole_orders_and_counts.main with body := [at_ 1, at_ 2, at_ 3, at_ 5, at_ 6, at_ 7, at_ 8, at_ 9, at_ 11, at_ 12, at_ 14, at_ 15, at_ 16, at_ 18, at_ 19, at_ 20, at_ 21, at_ 22, at_ 24, at_ 25, at_ 26, at_ 27, at_ 28, at_ 29, at_ 30, at_ 32, at_ 33, at_ 34, at_ 35, at_ 36, at_ 38, at_ 39, at_ 40, at_ 41, at_ 42, at_ 43, at_ 44, at_ 45, at_ 46, at_ 47, at_ 48, at_ 49, at_ 50, at_ 51, at_ 52] } }
set_option hygiene false
local macro_rules | `(tactic| o_head $H) => `(tactic| (refine holds_open (q := MyQ.vw) (loose := ([] : List PySem.Str)) (Xt := fun s => xlAt MyQ.vw ([] : List (PySem.Str × WData)) s && recOk (RowW.records (OpenRow.toRowW _)) s) (XP := XL MyQ.vw ([] : List (PySem.Str × WData))) (Yf := Hook.obs $H) (Ya := Hook.val $H) (YP := Hook.says $H) (N := 20000) ?hl (Hook.of $H) (Hook.keeps $H) (fun s e => xl_of s (Bool.and_eq_true_iff.mp e).1) XL.keeps (by rfl) (by rfl) (by rfl) (fun s e => recFacts_of (Bool.and_eq_true_iff.mp e).2) (by rfl) (by assumption) (by decide +kernel) ⟨rfl, rfl, rfl, rfl, rfl, by decide +kernel⟩ ?hw ?hc; (case hl => exact fun w => by kernel_rfl)))
set_option maxRecDepth 100000 in
set_option maxHeartbeats 0 in
open_top hd for PySem.Challenge.rw_manyleast_k25_whole_orders_and_counts
end MyQ
/-! THE HAND LAYER, for ints, bools, texts, own classes, LISTS and tuples (index, slices, in, append, pop ..), calls, loops. Paste it whole ahead of your own text; what your proof does not reach may be deleted. -/
namespace L2
open PySem PySem.Spec PyProof.Rows

/-- a key: an int or a str -/
abbrev Key := Sum Int Str
def keyIs : Key → Value → Bool
  | .inl k, v => Value.isInt k v
  | .inr x, v => Value.isStrOf x v
def keyH (w : World) : Key → Int
  | .inl k => hashInt k
  | .inr x => hashStr w x
theorem keyIs_shape : ∀ {k : Key} {v : Value}, keyIs k v = true → (∃ i t, k = Sum.inl i ∧ v = Value.int i t) ∨ (∃ x t, k = Sum.inr x ∧ v = Value.str x t)
  | .inl i, v, h => by
    obtain ⟨t, e⟩ := Value.isInt_shape (k := i) (v := v) h
    exact .inl ⟨i, t, rfl, e⟩
  | .inr x, v, h => by
    obtain ⟨t, e⟩ := Value.isStrOf_shape (x := x) (v := v) h
    exact .inr ⟨x, t, rfl, e⟩
theorem key_ll (a b : Int) : decide ((Sum.inl a : Key) = Sum.inl b) = (a == b) := by
  by_cases e : a = b
  · subst e; simp
  · have h : ¬ (Sum.inl a : Key) = Sum.inl b := fun q => e (Sum.inl.inj q)
    rw [decide_eq_false h]
    exact (beq_eq_false_iff_ne.mpr e).symm
theorem key_rr (a b : Str) : decide ((Sum.inr a : Key) = Sum.inr b) = decide (a = b) := by
  by_cases e : a = b
  · subst e; simp
  · have h : ¬ (Sum.inr a : Key) = Sum.inr b := fun q => e (Sum.inr.inj q)
    rw [decide_eq_false h, decide_eq_false e]
theorem key_lr (a : Int) (b : Str) : decide ((Sum.inl a : Key) = Sum.inr b) = false := decide_eq_false (fun q => nomatch q)
theorem key_rl (a : Str) (b : Int) : decide ((Sum.inr a : Key) = Sum.inl b) = false := decide_eq_false (fun q => nomatch q)

def mixKind (prog : Program) (w : World) : PySem.KeyKind prog w Key where
  is := keyIs
  hash := keyH w
  inj := fun v a b ha hb => by
    rcases keyIs_shape ha with ⟨i, t, rfl, rfl⟩ | ⟨x, t, rfl, rfl⟩
    · rcases keyIs_shape hb with ⟨j, u, rfl, e⟩ | ⟨y, u, rfl, e⟩
      · injection e with e1 _; rw [e1]
      · exact nomatch e
    · rcases keyIs_shape hb with ⟨j, u, rfl, e⟩ | ⟨y, u, rfl, e⟩
      · exact nomatch e
      · injection e with e1 _; rw [e1]
  byValue := fun k v h => by
    rcases keyIs_shape h with ⟨i, t, rfl, rfl⟩ | ⟨x, t, rfl, rfl⟩ <;> rfl
  pyHash := fun hv h => by
    rcases keyIs_shape hv with ⟨i, t, rfl, rfl⟩ | ⟨x, t, rfl, rfl⟩
    · exact wpAny_pyHash_int h
    · exact wpAny_pyHash_str h
  eqBool := fun hu hv h => by
    rcases keyIs_shape hu with ⟨i, t, rfl, rfl⟩ | ⟨x, t, rfl, rfl⟩
    · rcases keyIs_shape hv with ⟨j, u, rfl, rfl⟩ | ⟨y, u, rfl, rfl⟩
      · rw [key_ll] at h; exact wpAny_eqBool_int h
      · rw [key_lr] at h; exact SeqAt.EqAt.int_str i t y u _ _ _ _ h
    · rcases keyIs_shape hv with ⟨j, u, rfl, rfl⟩ | ⟨y, u, rfl, rfl⟩
      · rw [key_rl] at h; exact SeqAt.EqAt.str_int x t j u _ _ _ _ h
      · rw [key_rr] at h; exact wpAny_eqBool_str h
  «strs» := fun k x t v h => by
    rcases keyIs_shape h with ⟨i, u, rfl, e⟩ | ⟨y, u, rfl, e⟩
    · exact nomatch e
    · injection e with e1 _
      subst e1
      cases v <;> rfl

end L2

namespace L2
open PySem PySem.Spec PyProof.Rows

/-- a value, without the heap -/
inductive V where
  | non | bl (b : Bool) | int (i : Int) | str (x : Str) | byt (b : Array UInt8) | flt (b : UInt64) | ref (a : Addr) | ty (n : String)
  deriving DecidableEq

def RelV : V → Value → Prop
  | .non, u => u = Value.none
  | .bl b, u => u = Value.bool b
  | .int i, u => ∃ t, u = Value.int i t
  | .str x, u => ∃ t, u = Value.str x t
  | .byt b, u => ∃ t, u = Value.bytes b t
  | .flt b, u => ∃ t, u = Value.float b t
  | .ref a, u => u = Value.ref a
  | .ty n, u => u = Value.type n

abbrev Vals : List V → List Value → Prop := Paired RelV
theorem Vals.length {xs : List V} {us : List Value} (r : Vals xs us) : xs.length = us.length := Paired.length r
theorem Vals.get : ∀ {xs : List V} {us : List Value} {i : Nat} {x : V}, Vals xs us → xs[i]? = some x → ∃ u, us[i]? = some u ∧ RelV x u
  | _, _, _, _, .nil, e => by simp at e
  | _, _, 0, _, .cons r _, e => by simp at e; subst e; exact ⟨_, rfl, r⟩
  | _, _, i + 1, x, .cons _ t, e => by
    obtain ⟨u, h1, h2⟩ := Vals.get (i := i) (x := x) t (by simpa using e)
    exact ⟨u, by simpa using h1, h2⟩
theorem Vals.set {x : V} {u : Value} (r : RelV x u) : ∀ {xs : List V} {us : List Value} (i : Nat), Vals xs us → Vals (xs.set i x) (us.set i u)
  | _, _, _, .nil => .nil
  | _, _, 0, .cons _ t => .cons r t
  | _, _, i + 1, .cons q t => .cons q (Vals.set r i t)
theorem Vals.append : ∀ {xs ys : List V} {us ws : List Value}, Vals xs us → Vals ys ws → Vals (xs ++ ys) (us ++ ws)
  | _, _, _, _, .nil, s => s
  | _, _, _, _, .cons r t, s => .cons r (Vals.append t s)
theorem Vals.take : ∀ {xs : List V} {us : List Value} (n : Nat), Vals xs us → Vals (xs.take n) (us.take n)
  | _, _, 0, _ => .nil
  | _, _, _ + 1, .nil => .nil
  | _, _, n + 1, .cons r t => .cons r (Vals.take n t)
theorem Vals.drop : ∀ {xs : List V} {us : List Value} (n : Nat), Vals xs us → Vals (xs.drop n) (us.drop n)
  | _, _, 0, r => r
  | _, _, _ + 1, .nil => .nil
  | _, _, n + 1, .cons _ t => Vals.drop n t
def RelO : Option V → Option Value → Prop
  | some v, some u => RelV v u
  | none, none => True
  | _, _ => False
def KV {κ : Type} : List (κ × V) → List (κ × Value) → Prop := Paired fun (p : κ × V) (q : κ × Value) => p.1 = q.1 ∧ RelV p.2 q.2

/-- a key of a dict (00_mix): an int or a text -/
def kV : Key → V
  | .inl i => .int i
  | .inr x => .str x

/-- what stands at a tracked address -/
inductive HO where
  /-- a list -/
  | lst (xs : List V)
  /-- a tuple (never changes) -/
  | tup (xs : List V)
  /-- a dict whose keys are ints and texts; one whose keys are tuples of ints and texts (the empty one is both) -/
  | dK (kvs : List (Key × V)) | dT (kvs : List (List Key × V))
  /-- a set of ints: its members, its size -/
  | set (S : Int → Bool) (n : Nat)
  /-- an instance of the class at C, its dict at dx, its attributes -/
  | ins (C dx : Addr) (fs : List (Str × V))
  /-- the dict of the instance at x -/
  | own (x : Addr)
  /-- the dict of an exception -/
  | xd (fs : List (Str × V))
  /-- a bound method, f of x -/
  | met (f x : Addr)
  /-- a range object lo, lo + 1, .. below hi -/
  | rng (lo hi : Int)
  /-- a thing that is known to the object (the script; a dict while a loop walks it): read, never written while it is so -/
  | frz (o : Obj) (u : HO)
  /-- a code object's table -/
  | tbl (ps : Array Value)
  /-- any other thing, by what is true of its one object (a def of one's own: SetO a S n := HO.ext fun h => ..) -/
  | ext (φ : Heap → Prop)

abbrev Hp := Addr → Option HO
def upd (H : Hp) (a : Addr) (o : HO) : Hp := fun b => if b = a then some o else H b
theorem upd_same {H : Hp} {a : Addr} {o : HO} : upd H a o a = some o := by unfold upd; rw [if_pos rfl]
theorem upd_ne {H : Hp} {a b : Addr} {o : HO} (h : b ≠ a) : upd H a o b = H b := by unfold upd; rw [if_neg h]
theorem upd_upd {H : Hp} {a : Addr} {o u : HO} : upd (upd H a o) a u = upd H a u := by
  funext b; unfold upd; split <;> rfl
/-- two objects of different content stand apart -/
theorem ne_of {H : Hp} {a b : Addr} {o u : HO} (h : H a = some o) (h' : H b = some u) (d : o ≠ u) : a ≠ b := by
  intro e; subst e; rw [h] at h'; exact d (Option.some.inj h')
theorem ne_of_none {H : Hp} {a b : Addr} {o : HO} (h : H a = some o) (h' : H b = none) : a ≠ b := by
  intro e; subst e; rw [h] at h'; cases h'

section
variable (P : Program) (w : World)
def ObjOk (H : Hp) (h : Heap) (a : Addr) : HO → Prop
  | .lst xs => xs.length ≤ sizeLine ∧ ∃ (its : List Value) (n : Nat), Vals xs its ∧ h.get? a = some { cls := .type "list", data := .seq its.toArray n }
  | .tup xs => xs.length ≤ sizeLine ∧ ∃ its : List Value, Vals xs its ∧ IsTup h a its.toArray
  | .dK kvs => kvs.length ≤ sizeLine ∧ (a == sysModules) = false ∧ ∃ vs, KV kvs vs ∧ h.DictOf (mixKind P w) a vs
  | .dT kvs => kvs.length ≤ sizeLine ∧ (a == sysModules) = false ∧ ∃ xs : List (List Key × Addr × Value),
      Paired (fun (p : List Key × V) (q : List Key × Addr × Value) => p.1 = q.1 ∧ H q.2.1 = some (.tup (p.1.map kV)) ∧ RelV p.2 q.2.2) kvs xs ∧
      ∃ o es ep, h.get? a = some o ∧ o.ExactDict ∧ o.data = .dict es ep ∧ es.toList = xs.map (entryOfKey (tupleKind (mixKind P w))) ∧ (xs.map (·.1)).Nodup
  | .set S n => h.SetOf (intKind P w) a S n
  | .ins C dx fs => H dx = some (.own a) ∧ fs.length ≤ 1000 ∧ dx ≠ a ∧ h.get? a = some (PySem.W.instObj C dx) ∧
      ∃ mA, h.Ns1 dx mA ∧ (∀ f, RelO (fs.lookup f) (mA f)) ∧ PySem.Within mA (fs.map (·.1))
  | .own _ => ∃ o, h.get? a = some o
  | .xd fs => ∃ mA, h.Ns1 a mA ∧ ∀ f, RelO (fs.lookup f) (mA f)
  | .rng lo hi => ∃ t u v, h.get? a = some { cls := .type "range", data := .fields #[.int lo t, .int hi u, .int 1 v] }
  | .frz o u => h.get? a = some o ∧ ObjOk H h a u
  | .tbl ps => h.get? a = some { cls := .none, data := .fields ps }
  | .met f x => h.get? a = some (PySem.W.methodObj (.ref f) (.ref x))
  | .ext φ => φ h ∧ (∃ o, h.get? a = some o) ∧ ∀ h1 h2 : Heap, φ h1 → (∀ o, h1.get? a = some o → h2.get? a = some o) → φ h2
/-- the abstract heap is held -/
def HOk (H : Hp) (h : Heap) : Prop := ∀ a o, H a = some o → ObjOk P w H h a o
end

section
variable {P : Program} {w : World} {H H' : Hp} {h h' : Heap} {a : Addr} {o : HO}
theorem ObjOk.lt (x : ObjOk P w H h a o) : a < h.objs.size := by
  cases o with
  | lst xs => obtain ⟨_, _, _, _, e⟩ := x; exact Heap.lt_size e
  | tup xs => obtain ⟨_, _, _, p⟩ := x; exact p.lt
  | dK kvs => obtain ⟨_, _, _, _, o, _, _, e, _⟩ := x; exact Heap.lt_size e
  | dT kvs => obtain ⟨_, _, _, _, o, _, _, e, _⟩ := x; exact Heap.lt_size e
  | set S n => obtain ⟨o, _, _, _, e, _⟩ := x; exact Heap.lt_size e
  | ins C dx fs => obtain ⟨_, _, _, e, _⟩ := x; exact Heap.lt_size e
  | own y => obtain ⟨_, e⟩ := x; exact Heap.lt_size e
  | xd fs => obtain ⟨_, ⟨_, _, _, e, _⟩, _⟩ := x; exact Heap.lt_size e
  | rng lo hi => obtain ⟨_, _, _, e⟩ := x; exact Heap.lt_size e
  | frz ob u => obtain ⟨e, _⟩ := x; exact Heap.lt_size e
  | tbl ps => exact Heap.lt_size (show h.get? a = some _ from x)
  | met f y => exact Heap.lt_size (show h.get? a = some _ from x)
  | ext φ => obtain ⟨_, ⟨_, e⟩, _⟩ := x; exact Heap.lt_size e
theorem Paired.mapP {α β : Type} {F G : α → β → Prop} : ∀ {l₁ : List α} {l₂ : List β}, Paired F l₁ l₂ → (∀ a b, F a b → G a b) → Paired G l₁ l₂
  | _, _, .nil, _ => .nil
  | _, _, .cons r t, f => .cons (f _ _ r) (Paired.mapP t f)
/-- what an object's description leans on: its own object, its own dict, the tuples -/
theorem ObjOk.stay (x : ObjOk P w H h a o) (k : ∀ b u, (b = a ∨ H b = some (.own a)) → h.get? b = some u → h'.get? b = some u)
    (ho : ∀ b, H b = some (.own a) → H' b = some (.own a)) (ht : ∀ b xs, H b = some (.tup xs) → H' b = some (.tup xs)) : ObjOk P w H' h' a o := by
  induction o with
  | lst xs => obtain ⟨z, its, n, r, e⟩ := x; exact ⟨z, its, n, r, k _ _ (.inl rfl) e⟩
  | tup xs => obtain ⟨z, its, r, ob, e, c⟩ := x; exact ⟨z, its, r, ob, k _ _ (.inl rfl) e, c⟩
  | dK kvs => obtain ⟨z, y, vs, r, ob, es, ep, e, c⟩ := x; exact ⟨z, y, vs, r, ob, es, ep, k _ _ (.inl rfl) e, c⟩
  | dT kvs =>
    obtain ⟨z, y, xs, r, ob, es, ep, e, c⟩ := x
    exact ⟨z, y, xs, Paired.mapP r fun p q z => ⟨z.1, ht _ _ z.2.1, z.2.2⟩, ob, es, ep, k _ _ (.inl rfl) e, c⟩
  | set S n => obtain ⟨ob, es, ep, t, e, c⟩ := x; exact ⟨ob, es, ep, t, k _ _ (.inl rfl) e, c⟩
  | ins C dx fs =>
    obtain ⟨d, z, ne, e, mA, ⟨od, es, ep, e2, c⟩, r⟩ := x
    exact ⟨ho _ d, z, ne, k _ _ (.inl rfl) e, mA, ⟨od, es, ep, k _ _ (.inr d) e2, c⟩, r⟩
  | own y => obtain ⟨ob, e⟩ := x; exact ⟨ob, k _ _ (.inl rfl) e⟩
  | xd fs => obtain ⟨mA, ⟨od, es, ep, e, c⟩, r⟩ := x; exact ⟨mA, ⟨od, es, ep, k _ _ (.inl rfl) e, c⟩, r⟩
  | rng lo hi => obtain ⟨t, u, v, e⟩ := x; exact ⟨t, u, v, k _ _ (.inl rfl) e⟩
  | frz ob u ih => obtain ⟨e, q⟩ := x; exact ⟨k _ _ (.inl rfl) e, ih q⟩
  | tbl ps =>
    have e : h.get? a = some { cls := .none, data := .fields ps } := x
    show h'.get? a = some { cls := .none, data := .fields ps }
    exact k a _ (.inl rfl) e
  | met f y =>
    have e : h.get? a = some (PySem.W.methodObj (.ref f) (.ref y)) := x
    show h'.get? a = some (PySem.W.methodObj (.ref f) (.ref y))
    exact k a _ (.inl rfl) e
  | ext φ => obtain ⟨p, ⟨o, e⟩, st⟩ := x; exact ⟨st _ _ p fun o q => k _ _ (.inl rfl) q, ⟨o, k _ _ (.inl rfl) e⟩, st⟩
theorem HOk.lt (x : HOk P w H h) (e : H a = some o) : a < h.objs.size := (x a o e).lt
theorem HOk.fresh (x : HOk P w H h) (e : h.objs.size ≤ a) : H a = none := by
  cases q : H a with
  | none => rfl
  | some u => exact absurd (Nat.lt_of_lt_of_le (x.lt q) e) (Nat.lt_irrefl _)
/-- every object of the heap is kept -/
theorem HOk.kept (x : HOk P w H h) (k : ∀ b u, h.get? b = some u → h'.get? b = some u) : HOk P w H h' := fun a o e =>
  (x a o e).stay (fun b u _ q => k b u q) (fun _ q => q) fun _ _ q => q
/-- a new object is laid and tracked -/
theorem HOk.laid (x : HOk P w H h) (k : ∀ b u, h.get? b = some u → h'.get? b = some u) (hp : h.objs.size ≤ a) (new : ObjOk P w (upd H a o) h' a o) : HOk P w (upd H a o) h' := fun b u e => by
  have hn := x.fresh hp
  by_cases hb : b = a
  · subst hb; rw [upd_same] at e; cases e; exact new
  · rw [upd_ne hb] at e
    exact (x b u e).stay (fun c v _ q => k c v q) (fun c q => by rw [upd_ne (ne_of_none q hn)]; exact q) fun c xs q => by rw [upd_ne (ne_of_none q hn)]; exact q
end

/-- what may be read as u: it is u, or a known u -/
def Rd (H : Hp) (a : Addr) (u : HO) : Prop := H a = some u ∨ ∃ o, H a = some (.frz o u)
theorem Rd.ok {P : Program} {w : World} {H : Hp} {h : Heap} {a : Addr} {u : HO} (r : Rd H a u) (x : HOk P w H h) : ObjOk P w H h a u := by
  rcases r with r | ⟨o, r⟩
  · exact x a u r
  · obtain ⟨_, q⟩ := x a _ r
    exact q
/-- what may be written -/
def Mut : Option HO → Prop
  | some (.lst _) => True
  | some (.dK _) => True
  | some (.dT _) => True
  | some (.set _ _) => True
  | some (.ins _ _ _) => True
  | some (.ext _) => True
  | _ => False
section
variable {P : Program} {w : World} {H : Hp} {h h' : Heap} {x e : Addr} {o' : HO}
/-- the object at e is changed: x itself, or the dict of the instance x -/
theorem HOk.write (ok : HOk P w H h) (mu : Mut (H x)) (he : e = x ∨ H e = some (.own x)) (k : ∀ b u, b ≠ e → h.get? b = some u → h'.get? b = some u) (heo : ∃ u, h'.get? e = some u)
    (new : ObjOk P w (upd H x o') h' x o') : HOk P w (upd H x o') h' := fun b u q => by
  have nown : ∀ c y, H c = some (.own y) → c ≠ x := fun c y r z => by subst z; rw [r] at mu; exact mu
  have ntup : ∀ c xs, H c = some (.tup xs) → c ≠ x := fun c xs r z => by subst z; rw [r] at mu; exact mu
  by_cases hb : b = x
  · subst hb; rw [upd_same] at q; cases q; exact new
  · rw [upd_ne hb] at q
    by_cases hbe : b = e
    · have q' : H b = some (.own x) := by
        rcases he with z | z
        · exact absurd (hbe.trans z) hb
        · rw [hbe]; exact z
      rw [q] at q'; cases q'
      obtain ⟨v, hv⟩ := heo
      exact ⟨v, by rw [hbe]; exact hv⟩
    · refine (ok b u q).stay (fun c v hc r => k c v ?_ r) (fun c r => by rw [upd_ne (nown c b r)]; exact r) fun c xs r => by rw [upd_ne (ntup c xs r)]; exact r
      rcases hc with rfl | hc
      · exact hbe
      · rintro rfl
        rcases he with z | z
        · exact nown c b hc z
        · rw [hc] at z; cases z; exact hb rfl
end

/-! ### kept unless tracked; of the frames at fs (the callers') the slots may change (an exception that passes writes there); of the records at ex (iterators) nothing is said -/
structure Un (fs ex : List Addr) (H H' : Hp) (h h' : Heap) : Prop where
  keep : ∀ b o, h.get? b = some o → H b = none → b ∉ fs → b ∉ ex → h'.get? b = some o
  slot : ∀ b o, h.get? b = some o → H b = none → b ∈ fs → b ∉ ex → ∃ sl, h'.get? b = some { o with slots := sl }
  free : ∀ b o, h.get? b = some o → H b = none → b ∉ ex → H' b = none
  there : ∀ b o, h.get? b = some o → b ∉ ex → ∃ o', h'.get? b = some o'
  tups : ∀ b xs, H b = some (.tup xs) → H' b = some (.tup xs)
  frzs : ∀ b o u, H b = some (.frz o u) → H' b = some (.frz o u)
  tbls : ∀ b ps, H b = some (.tbl ps) → ∃ more, H' b = some (.tbl (ps ++ more))
section
variable {fs fs' ex ex' : List Addr} {H H1 H2 : Hp} {h h1 h2 h' : Heap} {a x e : Addr} {o : HO}
theorem Un.any (u : Un fs ex H H1 h h1) {b : Addr} {ob : Obj} (q : h.get? b = some ob) (n : H b = none) (hx : b ∉ ex) : ∃ sl, h1.get? b = some { ob with slots := sl } := by
  by_cases hb : b ∈ fs
  · exact u.slot b ob q n hb hx
  · exact ⟨ob.slots, u.keep b ob q n hb hx⟩
theorem Un.kept (k : ∀ b u, h.get? b = some u → h'.get? b = some u) : Un fs ex H H h h' :=
  ⟨fun b ob q _ _ _ => k b ob q, fun b ob q _ _ _ => ⟨ob.slots, k b ob q⟩, fun _ _ _ n _ => n, fun b ob q _ => ⟨ob, k b ob q⟩, fun _ _ q => q, fun _ _ _ q => q, fun _ ps q => ⟨#[], by rw [q]; simp⟩⟩
theorem Un.refl : Un fs ex H H h h := Un.kept fun _ _ q => q
theorem Un.laid (k : ∀ b u, h.get? b = some u → h'.get? b = some u) (hp : h.objs.size ≤ a) (hn : H a = none) : Un fs ex H (upd H a o) h h' where
  keep := fun b u q _ _ _ => k b u q
  slot := fun b u q _ _ _ => ⟨u.slots, k b u q⟩
  free := fun b u q n _ => by rw [upd_ne (Nat.ne_of_lt (Nat.lt_of_lt_of_le (Heap.lt_size q) hp))]; exact n
  there := fun b u q _ => ⟨u, k b u q⟩
  tups := fun b xs q => by rw [upd_ne (ne_of_none q hn)]; exact q
  frzs := fun b u xs q => by rw [upd_ne (ne_of_none q hn)]; exact q
  tbls := fun b ps q => ⟨#[], by rw [upd_ne (ne_of_none q hn), q]; simp⟩
theorem Un.write (mu : Mut (H x)) (he : e = x ∨ H e = some (.own x)) (k : ∀ b u, b ≠ e → h.get? b = some u → h'.get? b = some u) (heo : ∃ u, h'.get? e = some u) : Un fs ex H (upd H x o) h h' := by
  have hx : ∀ b, H b = none → b ≠ x := fun b n z => by subst z; rw [n] at mu; exact mu
  have hb : ∀ b, H b = none → b ≠ e := fun b n z => by
    subst z
    rcases he with r | r
    · exact hx b n r
    · rw [n] at r; cases r
  have hm : ∀ b u, H b = some u → ¬ Mut (some u) → b ≠ x := fun b u q nm z => by subst z; rw [q] at mu; exact nm mu
  refine ⟨fun b u q n _ _ => k b u (hb b n) q, fun b u q n _ _ => ⟨u.slots, k b u (hb b n) q⟩, fun b u q n _ => by rw [upd_ne (hx b n)]; exact n, fun b u q _ => ?_,
    fun b xs q => by rw [upd_ne (hm b _ q fun z => z)]; exact q, fun b u xs q => by rw [upd_ne (hm b _ q fun z => z)]; exact q, fun b ps q => ⟨#[], by rw [upd_ne (hm b _ q fun z => z), q]; simp⟩⟩
  by_cases hbe : b = e
  · subst hbe; exact heo
  · exact ⟨u, k b u hbe q⟩
end

/-! ### the heap without what is tracked -/
def trk (h : Heap) (H : Hp) : List Addr := (List.range h.objs.size).filter fun a => (H a).isSome
def hidT (h : Heap) (H : Hp) : Heap := PySem.W.hideAll h (trk h H)
theorem hidT_size (h : Heap) (H : Hp) : (hidT h H).objs.size = h.objs.size := PySem.W.hideAll_size _ _
theorem hidT_get {h : Heap} {H : Hp} {b : Addr} {o : Obj} (e : h.get? b = some o) (n : H b = none) : (hidT h H).get? b = some o :=
  PySem.W.hideAll_get _ e fun hm => by
    have q : (H b).isSome = true := (List.mem_filter.mp hm).2
    rw [n] at q; simp at q
theorem of_hidT {h : Heap} {H : Hp} {b : Addr} {o : Obj} (e : (hidT h H).get? b = some o) : h.get? b = some o ∧ H b = none := by
  have e' : h.get? b = some o := PySem.W.of_hideAll (trk h H) e
  refine ⟨e', ?_⟩
  cases q : H b with
  | none => rfl
  | some x =>
    have hm : b ∈ trk h H := List.mem_filter.mpr ⟨List.mem_range.mpr (Heap.lt_size e'), by simp [q]⟩
    have z : (hidT h H).get? b = none := PySem.W.hideAll_none (trk h H) hm
    rw [z] at e; cases e

/-! ### OpenK's ledger, filled with every new object but one -/
def allNews (g h : Heap) (L : Addr) : List (Addr × Obj) := (List.range h.objs.size).filterMap fun a => if a = L ∨ (g.get? a).isSome = true then none else (h.get? a).map fun o => (a, o)
def rest (g h : Heap) (L d : Addr) : List (Addr × Obj) := (allNews g h L).filter fun p => decide (p.1 ≠ d)
end L2

namespace L2
open PySem PySem.Spec PyProof.Rows

/-- the module's facts, over the base: the heap at the law's entry without what is tracked there -/
structure Mod (K : PySem.W.Frag) (mg : Str → Option Value) (base : Heap) : Prop where
  kin : K.In base
  glob : base.Ns mainGlobals mg
  blt : ∃ mb, base.Ns builtinsNs mb ∧ ∀ x : Str, x ≠ "__name__" → mb x = bootBuiltins x
  nolimit : base.NoLimit

/-- the context: a def's body (or a comprehension's block) running. base: fixed through the whole law; s₀, H₀: the entry; outer: the frames whose slots others may change (a def's callers); stack: all frames that run;
   ex: iterators that were made ahead of the entry and are walked here (a comprehension's); fn: the names whose cells were made at the entry (a def: all; a comprehension's block: its own); calm: not within an except suite; pn: pins that every state bears; xe: what is wanted of an exception that leaves the code -/
structure Cx where
  prog : Program
  w : World
  K : PySem.W.Frag
  mg : Str → Option Value
  base : Heap
  A : Around
  N : List Str
  s₀ : Shared
  H₀ : Hp
  env : Env
  outer : List Env
  stack : List Env
  ex : List Addr
  fn : Str → Bool
  calm : Bool
  pn : List (Addr × Obj)
  xe : Value → Shared → Prop
/-- the callers' frames -/
def frs (l : List Env) : List Addr := l.filterMap (·.frame)
abbrev Cx.fs (X : Cx) : List Addr := frs X.outer

def Vis (sc : Scope) (x : Str) : Prop := sc.names.lookup x = some .local ∨ sc.names.lookup x = some .cell ∨ sc.names.lookup x = some .free
def Loc (sc : Scope) (x : Str) : Prop := sc.names.lookup x = some .local ∨ sc.names.lookup x = some .cell
def Look (env : Env) (h : Heap) (m : Str → Option Value) (x : Str) (u : Value) : Prop :=
  (env.kindOf x = some .local ∧ m x = some u) ∨ ((env.kindOf x = some .cell ∨ env.kindOf x = some .free) ∧ ∃ c, env.cells.lookup x = some c ∧ h.IsCell c (some u))

structure Cx.Ok (X : Cx) : Prop where
  mod : Mod X.K X.mg X.base
  kind : X.env.scope.kind = .function
  glob : X.env.globals = mainGlobals
  blt : X.env.builtins = builtinsNs
  above : X.s₀.heap.objs.size ≤ X.env.locals
  inj : ∀ x y c, X.env.cells.lookup x = some c → X.env.cells.lookup y = some c → x = y
  has : ∀ x, (X.env.kindOf x = some .cell ∨ X.env.kindOf x = some .free) → ∃ c, X.env.cells.lookup x = some c
  cab : ∀ x c, X.fn x = true → X.env.cells.lookup x = some c → X.s₀.heap.objs.size ≤ c
  hd : X.calm = true → X.A.handled = none
  frames : X.A.frames = some X.stack
  stk : X.stack = X.outer ∨ (X.stack = X.env :: X.outer ∧ X.env.frame = some X.env.locals)
  exf : ∀ b ∈ X.ex, b ≠ X.env.locals ∧ ∀ x c, X.env.cells.lookup x = some c → c ≠ b
  bs : ∀ b o, X.base.get? b = some o → X.s₀.heap.get? b = some o ∧ X.H₀ b = none
  bsz : X.base.objs.size ≤ X.s₀.heap.objs.size
  noex : ∀ b o, X.base.get? b = some o → b ∉ X.ex
  exfs : ∀ b ∈ X.ex, b ∉ X.fs
  funs : X.s₀.heap.FunFrames X.base X.outer
  frf : ∀ b ∈ X.fs, X.H₀ b = none

structure Inv (X : Cx) (pins : List (Addr × Obj)) (σ : List (Option V)) (H : Hp) (s : Shared) : Prop where
  ok : X.Ok
  os : s.os = X.s₀.os
  bare : AllBare s.gens
  base : Un X.fs X.ex X.H₀ H X.s₀.heap s.heap
  loc : ∃ m, s.heap.Ns X.env.locals m ∧ ∀ (i : Nat) (x : Str) (v : V), X.N[i]? = some x → σ[i]? = some (some v) → Vis X.env.scope x → ∃ u, RelV v u ∧ Look X.env s.heap m x u
  cell : ∀ x c, X.env.cells.lookup x = some c → ∃ v, s.heap.IsCell c v
  free : H X.env.locals = none
  freeC : ∀ x c, X.env.cells.lookup x = some c → H c = none
  pin : ∀ p ∈ X.pn ++ pins, s.heap.get? p.1 = some p.2 ∧ H p.1 = none ∧ p.1 ≠ X.env.locals ∧ p.1 ∉ X.fs ∧ ∀ v, p.2.data ≠ .cell v
  hok : HOk X.prog X.w H s.heap
  len : σ.length = X.N.length

section
variable {X : Cx} {pins : List (Addr × Obj)} {σ : List (Option V)} {H H' : Hp} {s : Shared} {h' : Heap}

theorem Cx.Ok.nofr (ok : X.Ok) {b : Addr} {o : Obj} (e : X.base.get? b = some o) : b ∉ X.fs := fun hb => by
  have := (ok.funs.mem hb).1
  rw [e] at this; cases this
theorem Inv.bs (I : Inv X pins σ H s) : ∀ b o, X.base.get? b = some o → s.heap.get? b = some o ∧ H b = none := fun b o e =>
  ⟨I.base.keep b o (I.ok.bs b o e).1 (I.ok.bs b o e).2 (I.ok.nofr e) (I.ok.noex b o e), I.base.free b o (I.ok.bs b o e).1 (I.ok.bs b o e).2 (I.ok.noex b o e)⟩
theorem Inv.bk (I : Inv X pins σ H s) : ∀ b o, X.base.get? b = some o → s.heap.get? b = some o := fun b o e => (I.bs b o e).1
theorem Inv.mod (I : Inv X pins σ H s) : Mod X.K X.mg X.base := I.ok.mod
theorem Inv.kIn (I : Inv X pins σ H s) : X.K.In s.heap := I.ok.mod.kin.keeps I.bk
theorem Inv.lt (I : Inv X pins σ H s) : X.env.locals < s.heap.objs.size := let ⟨_, hn, _⟩ := I.loc; hn.lt
theorem Inv.sz (I : Inv X pins σ H s) : X.s₀.heap.objs.size ≤ s.heap.objs.size := Nat.le_trans I.ok.above (Nat.le_of_lt I.lt)
theorem Inv.nofs (I : Inv X pins σ H s) {a : Addr} (h : s.heap.objs.size ≤ a) : a ∉ X.fs := fun hb => by
  obtain ⟨_, o, ho, _⟩ := I.ok.funs.mem hb
  exact absurd (Nat.lt_of_lt_of_le (Heap.lt_size ho) (Nat.le_trans I.sz h)) (Nat.lt_irrefl _)
theorem Inv.cne (I : Inv X pins σ H s) : ∀ x c, X.env.cells.lookup x = some c → c ≠ X.env.locals := fun x c e z => by
  obtain ⟨v, o, ho, hd⟩ := I.cell x c e
  obtain ⟨m, ⟨o', es, ep, ho', hd', _⟩, _⟩ := I.loc
  rw [z, ho'] at ho; cases ho; rw [hd'] at hd; cases hd
theorem Inv.funs (I : Inv X pins σ H s) : s.heap.FunFrames X.base X.outer := by
  have all : ∀ (l : List Env), (∀ b ∈ frs l, b ∈ X.fs) → X.s₀.heap.FunFrames X.base l → s.heap.FunFrames X.base l := by
    intro l
    induction l with
    | nil => intro _ _; trivial
    | cons env r ih =>
      intro hs hl
      obtain ⟨hk, ⟨L, o, hf, hn, ho, hd⟩, hr⟩ := hl
      have hL : L ∈ X.fs := hs L (by unfold frs; rw [List.filterMap_cons, hf]; exact List.mem_cons_self)
      obtain ⟨sl, e⟩ := I.base.slot L o ho (I.ok.frf L hL) hL fun z => I.ok.exfs L z hL
      exact ⟨hk, ⟨L, _, hf, hn, e, hd⟩, ih (fun b hb => hs b (by unfold frs; rw [List.filterMap_cons, hf]; exact List.mem_cons_of_mem _ hb)) hr⟩
  exact all X.outer (fun _ hb => hb) I.ok.funs

/-- the frames that run, for a call -/
theorem Inv.stack (I : Inv X pins σ H s) : s.heap.FunFrames X.base X.stack := by
  rcases I.ok.stk with e | ⟨e, hf⟩
  · rw [e]; exact I.funs
  · rw [e]
    obtain ⟨m, hn, _⟩ := I.loc
    refine .cons (by rw [I.ok.kind]; decide) hf hn ?_ I.funs
    exact Heap.get?_none_of_le (Nat.le_trans I.ok.bsz I.ok.above)
theorem Inv.stkSub (I : Inv X pins σ H s) : ∀ b ∈ frs X.stack, b ∈ X.env.locals :: X.fs := fun b hb => by
  rcases I.ok.stk with e | ⟨e, hf⟩
  · rw [e] at hb; exact List.mem_cons_of_mem _ hb
  · rw [e] at hb
    unfold frs at hb
    rw [List.filterMap_cons, hf] at hb
    exact hb
theorem Inv.stkFree (I : Inv X pins σ H s) : ∀ b ∈ frs X.stack, H b = none := fun b hb => by
  rcases List.mem_cons.mp (I.stkSub b hb) with e | hb
  · rw [e]; exact I.free
  · obtain ⟨_, o, ho, _⟩ := I.ok.funs.mem hb
    exact I.base.free b o ho (I.ok.frf b hb) fun z => I.ok.exfs b z hb

/-- THE STEP: the untracked objects but the frame and the records at ch are kept (the callers' frames up to slots), the frame's map is kept, the new abstract heap is held -/
theorem Inv.step {g' : Array GenState} {t' : Nat} {d' : Drawn} {ch : List Addr} (I : Inv X pins σ H s)
    (hch : ∀ b ∈ ch, (b ∈ X.ex ∨ X.s₀.heap.objs.size ≤ b) ∧ b ≠ X.env.locals ∧ (∀ x c, X.env.cells.lookup x = some c → c ≠ b) ∧ ∀ p ∈ X.pn ++ pins, p.1 ≠ b)
    (keep : ∀ b o, b ≠ X.env.locals → b ∉ X.fs → b ∉ ch → s.heap.get? b = some o → H b = none → h'.get? b = some o)
    (slot : ∀ b o, b ≠ X.env.locals → b ∈ X.fs → b ∉ ch → s.heap.get? b = some o → H b = none → ∃ sl, h'.get? b = some { o with slots := sl }) (free : ∀ b o, b ∉ ch → s.heap.get? b = some o → H b = none → H' b = none)
    (there : ∀ b o, b ∉ ch → s.heap.get? b = some o → ∃ o', h'.get? b = some o')
    (tups : ∀ b xs, H b = some (.tup xs) → H' b = some (.tup xs)) (frzs : ∀ b o u, H b = some (.frz o u) → H' b = some (.frz o u)) (tbls : ∀ b ps, H b = some (.tbl ps) → ∃ more, H' b = some (.tbl (ps ++ more)))
    (ns : ∀ m, s.heap.Ns X.env.locals m → h'.Ns X.env.locals m) (hok : HOk X.prog X.w H' h') (hg : AllBare g') :
    Inv X pins σ H' { s with heap := h', gens := g', drawn := d', toks := t' } := by
  have neL : ∀ b o, X.s₀.heap.get? b = some o → b ≠ X.env.locals := fun b o e => Nat.ne_of_lt (Nat.lt_of_lt_of_le (Heap.lt_size e) I.ok.above)
  have neC : ∀ b o, X.s₀.heap.get? b = some o → b ∉ X.ex → b ∉ ch := fun b o e hx hb => by
    rcases (hch b hb).1 with z | z
    · exact hx z
    · exact absurd (Nat.lt_of_lt_of_le (Heap.lt_size e) z) (Nat.lt_irrefl _)
  have cellK : ∀ x c, X.env.cells.lookup x = some c → ∀ v, s.heap.IsCell c v → h'.IsCell c v := fun x c e v ⟨o, ho, hd⟩ => by
    have nch : c ∉ ch := fun z => (hch c z).2.2.1 x c e rfl
    by_cases hc : c ∈ X.fs
    · obtain ⟨sl, q⟩ := slot c o (I.cne x c e) hc nch ho (I.freeC x c e)
      exact ⟨_, q, hd⟩
    · exact ⟨o, keep c o (I.cne x c e) hc nch ho (I.freeC x c e), hd⟩
  refine ⟨I.ok, I.os, hg, ⟨fun b o e n hb hx => ?_, fun b o e n hb hx => ?_, fun b o e n hx => ?_, fun b o e hx => ?_, fun b xs e => tups b xs (I.base.tups b xs e), fun b o xs e => frzs b o xs (I.base.frzs b o xs e), fun b ps e => ?_⟩, ?_, fun x c e => ?_, ?_, fun x c e => ?_, fun p hp => ?_, hok, I.len⟩
  · exact keep b o (neL b o e) hb (neC b o e hx) (I.base.keep b o e n hb hx) (I.base.free b o e n hx)
  · obtain ⟨sl, e1⟩ := I.base.slot b o e n hb hx
    obtain ⟨sl', e2⟩ := slot b _ (neL b o e) hb (neC b o e hx) e1 (I.base.free b o e n hx)
    exact ⟨sl', e2⟩
  · obtain ⟨o', e1⟩ := I.base.there b o e hx
    exact free b o' (neC b o e hx) e1 (I.base.free b o e n hx)
  · obtain ⟨o', e1⟩ := I.base.there b o e hx
    exact there b o' (neC b o e hx) e1
  · obtain ⟨m1, e1⟩ := I.base.tbls b ps e
    obtain ⟨m2, e2⟩ := tbls b _ e1
    exact ⟨m1 ++ m2, by rw [e2, Array.append_assoc]⟩
  · obtain ⟨m, hn, hl⟩ := I.loc
    refine ⟨m, ns m hn, fun i x v e1 e2 e3 => ?_⟩
    obtain ⟨u, r, l⟩ := hl i x v e1 e2 e3
    refine ⟨u, r, ?_⟩
    rcases l with l | ⟨k, c, e, z⟩
    · exact .inl l
    · exact .inr ⟨k, c, e, cellK x c e _ z⟩
  · obtain ⟨v, z⟩ := I.cell x c e
    exact ⟨v, cellK x c e v z⟩
  · obtain ⟨m, ⟨o, _, _, ho, _⟩, _⟩ := I.loc
    exact free _ o (fun z => (hch _ z).2.1 rfl) ho I.free
  · obtain ⟨v, o, ho, hd⟩ := I.cell x c e
    exact free c o (fun z => (hch c z).2.2.1 x c e rfl) ho (I.freeC x c e)
  · obtain ⟨e, n, ne, nf, d⟩ := I.pin p hp
    have nch : p.1 ∉ ch := fun z => (hch p.1 z).2.2.2 p hp rfl
    exact ⟨keep p.1 p.2 ne nf nch e n, free p.1 p.2 nch e n, ne, nf, d⟩
/-- .. where the frame's own object is kept too -/
theorem Inv.un {t' : Nat} (I : Inv X pins σ H s) (u : Un X.fs [] H H' s.heap h') (hok : HOk X.prog X.w H' h') : Inv X pins σ H' { s with heap := h', toks := t' } := by
  obtain ⟨m, ⟨o, es, ep, ho, r⟩, _⟩ := id I.loc
  obtain ⟨sl, hL⟩ := u.any ho I.free (by simp)
  exact I.step (g' := s.gens) (d' := s.drawn) (ch := []) (fun _ z => nomatch z) (fun b o _ hb _ e n => u.keep b o e n hb (by simp)) (fun b o _ hb _ e n => u.slot b o e n hb (by simp)) (fun b o _ e n => u.free b o e n (by simp)) (fun b o _ e => u.there b o e (by simp)) u.tups u.frzs u.tbls (fun m' hm => by
    obtain ⟨o', es', ep', ho', r'⟩ := hm
    rw [ho] at ho'; cases ho'
    exact ⟨_, es', ep', hL, r'⟩) hok I.bare
/-- behind a call (or a comprehension's block): the slots of this frame may have changed too, the records at ch may have turned -/
theorem Inv.call {g' : Array GenState} {t' : Nat} {d' : Drawn} {ch : List Addr} (I : Inv X pins σ H s) (u : Un (frs X.stack) ch H H' s.heap h') (hok : HOk X.prog X.w H' h') (hg : AllBare g')
    (hch : ∀ b ∈ ch, (b ∈ X.ex ∨ X.s₀.heap.objs.size ≤ b) ∧ b ≠ X.env.locals ∧ (∀ x c, X.env.cells.lookup x = some c → c ≠ b) ∧ ∀ p ∈ X.pn ++ pins, p.1 ≠ b) :
    Inv X pins σ H' { s with heap := h', gens := g', drawn := d', toks := t' } := by
  obtain ⟨m, ⟨o, es, ep, ho, r⟩, _⟩ := id I.loc
  obtain ⟨sl, hL⟩ := u.any ho I.free fun z => (hch _ z).2.1 rfl
  exact I.step (ch := ch) hch (fun b o hL hb hc e n => u.keep b o e n (fun z => (List.mem_cons.mp (I.stkSub b z)).elim hL hb) hc) (fun b o _ _ hc e n => u.any e n hc) (fun b o hc e n => u.free b o e n hc) (fun b o hc e => u.there b o e hc) u.tups u.frzs u.tbls (fun m' hm => by
    obtain ⟨o', es', ep', ho', r'⟩ := hm
    rw [ho] at ho'; cases ho'
    exact ⟨_, es', ep', hL, r'⟩) hok hg
/-- an untracked record of ours (an iterator) has turned -/
theorem Inv.turned {t' : Nat} {it : Addr} (I : Inv X pins σ H s) (k : ∀ b o, b ≠ it → s.heap.get? b = some o → h'.get? b = some o) (hn : H it = none) (hL : it ≠ X.env.locals)
    (h1 : it ∈ X.ex ∨ X.s₀.heap.objs.size ≤ it) (h2 : ∀ x c, X.env.cells.lookup x = some c → c ≠ it) (h3 : ∀ p ∈ X.pn ++ pins, p.1 ≠ it) : Inv X pins σ H { s with heap := h', toks := t' } := by
  have nit : ∀ b u, H b = some u → b ≠ it := fun b u e z => by rw [z, hn] at e; cases e
  refine I.step (g' := s.gens) (d' := s.drawn) (ch := [it]) (fun b hb => ?_) (fun b o _ _ hc e _ => k b o (fun z => hc (by simp [z])) e) (fun b o _ _ hc e _ => ⟨o.slots, k b o (fun z => hc (by simp [z])) e⟩) (fun _ _ _ _ n => n)
    (fun b o hc e => ⟨o, k b o (fun z => hc (by simp [z])) e⟩) (fun _ _ e => e) (fun _ _ _ e => e) (fun b ps e => ⟨#[], by rw [e]; simp⟩) (fun m hm => ?_) (fun b u e => ?_) I.bare
  · have e : b = it := by simpa using hb
    subst e
    exact ⟨h1, hL, h2, h3⟩
  · obtain ⟨o, es, ep, ho, r⟩ := hm
    exact ⟨o, es, ep, k _ o (Ne.symm hL) ho, r⟩
  · refine (I.hok b u e).stay (fun c v hc q => k c v ?_ q) (fun _ q => q) fun _ _ q => q
    rcases hc with z | z
    · rw [z]; exact nit b u e
    · exact nit c _ z
theorem Inv.tok (I : Inv X pins σ H s) (t : Nat) : Inv X pins σ H { s with toks := t } := I.un (h' := s.heap) (t' := t) Un.refl I.hok
/-- all objects kept -/
theorem Inv.kept {t' : Nat} (I : Inv X pins σ H s) (k : ∀ b u, s.heap.get? b = some u → h'.get? b = some u) : Inv X pins σ H { s with heap := h', toks := t' } := I.un (Un.kept k) (I.hok.kept k)
/-- a new object laid and tracked -/
theorem Inv.laid {a : Addr} {o : HO} {t' : Nat} (I : Inv X pins σ H s) (k : ∀ b u, s.heap.get? b = some u → h'.get? b = some u) (hp : s.heap.objs.size ≤ a) (new : ObjOk X.prog X.w (upd H a o) h' a o) :
    Inv X pins σ (upd H a o) { s with heap := h', toks := t' } := I.un (Un.laid k hp (I.hok.fresh hp)) (I.hok.laid k hp new)
/-- an object written -/
theorem Inv.write {x e : Addr} {o : HO} {t' : Nat} (I : Inv X pins σ H s) (mu : Mut (H x)) (he : e = x ∨ H e = some (.own x)) (k : ∀ b u, b ≠ e → s.heap.get? b = some u → h'.get? b = some u) (heo : ∃ u, h'.get? e = some u)
    (new : ObjOk X.prog X.w (upd H x o) h' x o) : Inv X pins σ (upd H x o) { s with heap := h', toks := t' } := I.un (Un.write mu he k heo) (I.hok.write mu he k heo new)
theorem Inv.pins_of {pins' : List (Addr × Obj)} (I : Inv X pins σ H s) (h : ∀ p ∈ pins', s.heap.get? p.1 = some p.2 ∧ H p.1 = none ∧ p.1 ≠ X.env.locals ∧ p.1 ∉ X.fs ∧ ∀ v, p.2.data ≠ .cell v) : Inv X pins' σ H s :=
  ⟨I.ok, I.os, I.bare, I.base, I.loc, I.cell, I.free, I.freeC, fun p hp => (List.mem_append.mp hp).elim (fun z => I.pin p (List.mem_append_left _ z)) (h p), I.hok, I.len⟩

theorem nodup_ix {N : List Str} (hN : N.Nodup) {i j : Nat} {x : Str} (a : N[i]? = some x) (b : N[j]? = some x) : i = j := by
  obtain ⟨h1, e1⟩ := List.getElem?_eq_some_iff.mp a
  obtain ⟨h2, e2⟩ := List.getElem?_eq_some_iff.mp b
  exact (List.getElem_inj hN).mp (e1.trans e2.symm)

/-- a name is stored; what changed -/
theorem store_ok2 {M : Model} {A : Around} {E : Value → Shared → Prop} {i : Nat} {x : Str} {v : V} {u : Value} {Q : Unit → Shared → Prop} (I : Inv X pins σ H s) (hN : X.N.Nodup) (hi : X.N[i]? = some x) (hx : Loc X.env.scope x) (r : RelV v u)
    (h : ∀ s', Inv X pins (σ.set i (some v)) H s' → (∃ a, Heap.SameBut a s.heap s'.heap ∧ (a = X.env.locals ∨ X.env.cells.lookup x = some a)) → Q () s') (hf : X.fn x = true ∨ X.env.scope.names.lookup x = some .local := by first | exact .inl rfl | exact .inr rfl | assumption) : wpAny M A (storeName X.env x u) Q E s := by
  obtain ⟨m, hn, hl⟩ := id I.loc
  have hcls : (X.env.scope.kind == .class || (X.env.scope.kind == .module && X.env.locals != X.env.globals)) = false := by rw [I.ok.kind]; rfl
  have hiσ : i < σ.length := by rw [I.len]; exact (List.getElem?_eq_some_iff.mp hi).1
  have cne := I.cne
  have tracked : ∀ {a : Addr} {h' : Heap}, (∃ o, s.heap.get? a = some o ∧ H a = none) → Heap.SameBut a s.heap h' → HOk X.prog X.w H h' := fun {a h'} ha hs b ob e => by
    obtain ⟨_, _, hfree⟩ := ha
    refine (I.hok b ob e).stay (fun c w' hc q => (hs.2 c ?_).trans q) (fun _ q => q) fun _ _ q => q
    rintro rfl
    rcases hc with rfl | hc
    · rw [hfree] at e; cases e
    · rw [hfree] at hc; cases hc
  rcases hx with hk | hk
  · refine wpAny_storeName_local hk hn (fun h' hn' hs => ?_) hcls
    obtain ⟨oL, _, _, hoL, _⟩ := id hn
    refine h _ ⟨I.ok, I.os, I.bare, ⟨fun b o e n hb hx => ?_, fun b o e n hb hx => ?_, I.base.free, fun b o e hx => ?_, I.base.tups, I.base.frzs, I.base.tbls⟩, ⟨_, hn', fun j y v' e1 e2 e3 => ?_⟩, fun y c e => ?_, I.free, I.freeC, fun p hp => ?_, tracked ⟨oL, hoL, I.free⟩ hs, by simpa using I.len⟩ ⟨_, hs, .inl rfl⟩
    · exact (hs.2 b (Nat.ne_of_lt (Nat.lt_of_lt_of_le (Heap.lt_size e) I.ok.above))).trans (I.base.keep b o e n hb hx)
    · obtain ⟨sl, e1⟩ := I.base.slot b o e n hb hx
      exact ⟨sl, (hs.2 b (Nat.ne_of_lt (Nat.lt_of_lt_of_le (Heap.lt_size e) I.ok.above))).trans e1⟩
    · obtain ⟨o', e1⟩ := I.base.there b o e hx
      exact ⟨o', (hs.2 b (Nat.ne_of_lt (Nat.lt_of_lt_of_le (Heap.lt_size e) I.ok.above))).trans e1⟩
    · by_cases hj : j = i
      · subst hj
        rw [hi] at e1; cases e1
        rw [List.getElem?_set_self hiσ] at e2
        cases e2
        exact ⟨u, r, .inl ⟨hk, by simp⟩⟩
      · rw [List.getElem?_set_ne (Ne.symm hj)] at e2
        obtain ⟨u', r', q⟩ := hl j y v' e1 e2 e3
        refine ⟨u', r', ?_⟩
        rcases q with ⟨k, e⟩ | ⟨k, c, e, z⟩
        · refine .inl ⟨k, ?_⟩
          have : y ≠ x := fun e => hj (nodup_ix hN e1 (e ▸ hi))
          simp [this, e]
        · exact .inr ⟨k, c, e, z.sameBut hs (cne y c e)⟩
    · obtain ⟨w', z⟩ := I.cell y c e
      exact ⟨w', z.sameBut hs (cne y c e)⟩
    · obtain ⟨e, n, ne, nf, d⟩ := I.pin p hp
      exact ⟨(hs.2 p.1 ne).trans e, n, ne, nf, d⟩
  · have hfn : X.fn x = true := by
      rcases hf with z | z
      · exact z
      · rw [z] at hk; cases hk
    obtain ⟨c, hc⟩ := I.ok.has x (.inl hk)
    obtain ⟨w', z⟩ := I.cell x c hc
    refine wpAny_storeName_cell I.ok.kind hk hc z (fun h' hc' hs => ?_)
    obtain ⟨oc, hoc, hocd⟩ := id z
    refine h { s with heap := h' } ⟨I.ok, I.os, I.bare, ⟨fun b o e n hb hx => ?_, fun b o e n hb hx => ?_, I.base.free, fun b o e hx => ?_, I.base.tups, I.base.frzs, I.base.tbls⟩, ⟨m, hn.sameBut hs (Ne.symm (cne x c hc)), fun j y v' e1 e2 e3 => ?_⟩, fun y c' e => ?_, I.free, I.freeC, fun p hp => ?_, tracked ⟨oc, hoc, I.freeC x c hc⟩ hs, by simpa using I.len⟩ ⟨c, hs, .inr hc⟩
    · exact (hs.2 b (Nat.ne_of_lt (Nat.lt_of_lt_of_le (Heap.lt_size e) (I.ok.cab x c hfn hc)))).trans (I.base.keep b o e n hb hx)
    · obtain ⟨sl, e1⟩ := I.base.slot b o e n hb hx
      exact ⟨sl, (hs.2 b (Nat.ne_of_lt (Nat.lt_of_lt_of_le (Heap.lt_size e) (I.ok.cab x c hfn hc)))).trans e1⟩
    · obtain ⟨o', e1⟩ := I.base.there b o e hx
      exact ⟨o', (hs.2 b (Nat.ne_of_lt (Nat.lt_of_lt_of_le (Heap.lt_size e) (I.ok.cab x c hfn hc)))).trans e1⟩
    · by_cases hj : j = i
      · subst hj
        rw [hi] at e1; cases e1
        rw [List.getElem?_set_self hiσ] at e2
        cases e2
        exact ⟨u, r, .inr ⟨.inl hk, c, hc, hc'⟩⟩
      · rw [List.getElem?_set_ne (Ne.symm hj)] at e2
        obtain ⟨u', r', q⟩ := hl j y v' e1 e2 e3
        refine ⟨u', r', ?_⟩
        rcases q with q | ⟨k, c', e, z'⟩
        · exact .inl q
        · refine .inr ⟨k, c', e, z'.sameBut hs ?_⟩
          rintro rfl
          exact hj (nodup_ix hN e1 (I.ok.inj _ _ _ e hc ▸ hi))
    · by_cases hcc : c' = c
      · subst hcc; exact ⟨_, hc'⟩
      · obtain ⟨w2, z2⟩ := I.cell y c' e
        exact ⟨w2, z2.sameBut hs hcc⟩
    · obtain ⟨e, n, ne, nf, d⟩ := I.pin p hp
      refine ⟨(hs.2 p.1 ?_).trans e, n, ne, nf, d⟩
      intro q
      rw [q, hoc] at e
      have q' : oc = p.2 := Option.some.inj e
      exact d w' (by rw [← q']; exact hocd)
theorem store_ok {M : Model} {A : Around} {E : Value → Shared → Prop} {i : Nat} {x : Str} {v : V} {u : Value} {Q : Unit → Shared → Prop} (I : Inv X pins σ H s) (hN : X.N.Nodup) (hi : X.N[i]? = some x) (hx : Loc X.env.scope x) (r : RelV v u)
    (h : ∀ s', Inv X pins (σ.set i (some v)) H s' → Q () s') (hf : X.fn x = true ∨ X.env.scope.names.lookup x = some .local := by first | exact .inl rfl | exact .inr rfl | assumption) : wpAny M A (storeName X.env x u) Q E s :=
  store_ok2 I hN hi hx r (fun s' I' _ => h s' I') hf
/-- behind a call or a block, the state as it is -/
theorem Inv.call' {s' : Shared} {ch : List Addr} (I : Inv X pins σ H s) (ho : s'.os = s.os) (u : Un (frs X.stack) ch H H' s.heap s'.heap) (hok : HOk X.prog X.w H' s'.heap) (hg : AllBare s'.gens)
    (hch : ∀ b ∈ ch, (b ∈ X.ex ∨ X.s₀.heap.objs.size ≤ b) ∧ b ≠ X.env.locals ∧ (∀ x c, X.env.cells.lookup x = some c → c ≠ b) ∧ ∀ p ∈ X.pn ++ pins, p.1 ≠ b) : Inv X pins σ H' s' := by
  obtain ⟨h', g', d', t', o'⟩ := s'
  have e : o' = s.os := ho
  subst e
  exact I.call (g' := g') (t' := t') (d' := d') u hok hg hch
end

/-! ### the judgements -/
/-- an exception: its class, its own dict's address (where it has one), the abstract heap behind it -/
abbrev XK := Value → Option Addr → Hp → Prop
abbrev St := List (Option V)
abbrev VK := V → Hp → Prop
/-- an expression's reading; a test's; an argument list's -/
abbrev TE := St → Hp → VK → Prop
abbrev TT := St → Hp → (Bool → Hp → Prop) → Prop
abbrev TA := St → Hp → (List V → Hp → Prop) → Prop
/-- what is wanted behind a statement -/
structure Ends where
  nx : St → Hp → Prop
  rt : VK
  bk : St → Hp → Prop := fun _ _ => False
  ct : St → Hp → Prop := fun _ _ => False
abbrev TS := Ends → St → Hp → Prop

def EP (X : Cx) (pins : List (Addr × Obj)) (σ : St) (Q : VK) (u : Value) (s' : Shared) : Prop := ∃ v H', Inv X pins σ H' s' ∧ RelV v u ∧ Q v H'
def TP (X : Cx) (pins : List (Addr × Obj)) (σ : St) (Q : Bool → Hp → Prop) (b : Bool) (s' : Shared) : Prop := ∃ H', Inv X pins σ H' s' ∧ Q b H'
def AP (X : Cx) (pins : List (Addr × Obj)) (σ : St) (Q : List V → Hp → Prop) (us : List Value) (s' : Shared) : Prop := ∃ vs H', Inv X pins σ H' s' ∧ Vals vs us ∧ Q vs H'
def SP (X : Cx) (pins : List (Addr × Obj)) (D : Ends) (f : Flow) (s' : Shared) : Prop :=
  match f with
  | .next => ∃ σ' H', Inv X pins σ' H' s' ∧ D.nx σ' H'
  | .brk => ∃ σ' H', Inv X pins σ' H' s' ∧ D.bk σ' H'
  | .cont => ∃ σ' H', Inv X pins σ' H' s' ∧ D.ct σ' H'
  | .ret u => ∃ v σ' H', Inv X pins σ' H' s' ∧ RelV v u ∧ D.rt v H'

def PE (X : Cx) (e : Expr) (t : TE) : Prop :=
  ∀ (pins : List (Addr × Obj)) (s : Shared) (σ : St) (H : Hp) (Q : VK), Inv X pins σ H s → t σ H Q → wpAny (model X.prog X.w) X.A (eval e X.env) (EP X pins σ Q) X.xe s
def PT (X : Cx) (e : Expr) (t : TT) : Prop :=
  ∀ (pins : List (Addr × Obj)) (s : Shared) (σ : St) (H : Hp) (Q : Bool → Hp → Prop), Inv X pins σ H s → t σ H Q → wpAny (model X.prog X.w) X.A (isTrue e X.env (eval e X.env)) (TP X pins σ Q) X.xe s
/-- a test whatever its 'whole' is (and, or) -/
def PW (X : Cx) (e : Expr) (t : TT) : Prop :=
  ∀ (whole : Sem Value) (pins : List (Addr × Obj)) (s : Shared) (σ : St) (H : Hp) (Q : Bool → Hp → Prop), Inv X pins σ H s → t σ H Q → wpAny (model X.prog X.w) X.A (isTrue e X.env whole) (TP X pins σ Q) X.xe s
theorem PW.pt {X : Cx} {e : Expr} {t : TT} (h : PW X e t) : PT X e t := h _
/-- an argument list (no star), from the left -/
def PA (X : Cx) (es : List Expr) (t : TA) : Prop :=
  ∀ (pos : Pos) (pins : List (Addr × Obj)) (s : Shared) (σ : St) (H : Hp) (Q : List V → Hp → Prop), Inv X pins σ H s → t σ H Q → wpAny (model X.prog X.w) X.A (spliced (backTo pos (starEach es X.env))) (AP X pins σ Q) X.xe s
def PS (X : Cx) (st : Stmt) (t : TS) : Prop :=
  ∀ (pins : List (Addr × Obj)) (s : Shared) (σ : St) (H : Hp) (D : Ends), Inv X pins σ H s → t D σ H → wpAny (model X.prog X.w) X.A (exec st X.env) (SP X pins D) X.xe s
def PSs (X : Cx) (st : List Stmt) (t : TS) : Prop :=
  ∀ (pins : List (Addr × Obj)) (s : Shared) (σ : St) (H : Hp) (D : Ends), Inv X pins σ H s → t D σ H → wpAny (model X.prog X.w) X.A (execs st X.env) (SP X pins D) X.xe s
/-- weaken the end -/
theorem thn {α : Type} {t : Sem α} {Q Q' : α → Shared → Prop} {M : Model} {A : Around} {E : Value → Shared → Prop} {s : Shared} (h : wpAny M A t Q E s) (hQ : ∀ a s, Q a s → Q' a s) : wpAny M A t Q' E s := wpAny_mono h hQ fun _ _ x => x
end L2

namespace L2
open PySem PySem.Spec PyProof.Rows
section
variable {X : Cx}

/-! ### names and constants -/
def tVar (i : Nat) : TE := fun σ H Q => ∃ v, σ[i]? = some (some v) ∧ Q v H
def tC (v : V) : TE := fun _ H Q => Q v H
theorem pe_var {i : Nat} {x : Str} {pos : Pos} (hN : X.N[i]? = some x) (hv : Vis X.env.scope x) (hd : (x == ("__debug__" : Str)) = false := by decide) (hcd : (x == ("__classdict__" : Str)) = false := by decide) : PE X (.Name x pos) (tVar i) := by
  intro pins s σ H Q I h
  obtain ⟨v, e, h⟩ := h
  obtain ⟨m, hn, hl⟩ := I.loc
  obtain ⟨u, r, l⟩ := hl i x v hN e hv
  have fin : EP X pins σ Q u s := ⟨v, H, I, r, h⟩
  rcases l with ⟨hk, hm⟩ | ⟨hk, c, hc, hcell⟩
  · exact wpAny_Name (wpAny_loadName_local I.ok.kind hk hn hm fin) hd
  · rcases hk with hk | hk
    · exact wpAny_Name (wpAny_loadName_cell I.ok.kind hk hc hcell fin) hd
    · exact wpAny_Name (wpAny_loadName_free I.ok.kind hk hc hcell fin hcd) hd
theorem pe_int {i j pos} : PE X (.Constant (.int i) j pos) (tC (.int i)) := fun _ _ _ H _ I h => wpAny_Constant_int ⟨.int i, H, I.tok _, ⟨_, rfl⟩, h⟩
theorem pe_bl {b j pos} : PE X (.Constant (.bool b) j pos) (tC (.bl b)) := fun _ _ _ H _ I h => Constant_bool ⟨.bl b, H, I, rfl, h⟩
theorem pe_non {j pos} : PE X (.Constant .none j pos) (tC .non) := fun _ _ _ H _ I h => Constant_none ⟨.non, H, I, rfl, h⟩
theorem pe_str {x j pos} : PE X (.Constant (.str x) j pos) (tC (.str x)) := fun _ _ _ H _ I h => Calls.Constant_str ⟨.str x, H, I.tok _, ⟨_, rfl⟩, h⟩

/-- a global name of the def -/
def Gl (X : Cx) (x : Str) : Prop := X.env.kindOf x = some .globalImplicit
theorem ld_glob {E : Value → Shared → Prop} {pins : List (Addr × Obj)} {s : Shared} {σ : St} {H : Hp} {x : Str} {u : Value} {pos : Pos} {Q : Value → Shared → Prop} (I : Inv X pins σ H s) (hg : Gl X x) (hm : X.mg x = some u) (h : Q u s)
    (hd : (x == ("__debug__" : Str)) = false := by decide) : wpAny (model X.prog X.w) X.A (eval (.Name x pos) X.env) Q E s :=
  Calls.Name_function_global I.ok.kind hg (Calls.loadGlobal_global (by rw [I.ok.glob]; exact I.mod.glob.keeps I.bk) hm h) hd
theorem ld_blt {E : Value → Shared → Prop} {pins : List (Addr × Obj)} {s : Shared} {σ : St} {H : Hp} {x : Str} {u : Value} {pos : Pos} {Q : Value → Shared → Prop} (I : Inv X pins σ H s) (hg : Gl X x) (hm : X.mg x = none) (hv : bootBuiltins x = some u) (h : Q u s)
    (hn : x ≠ "__name__" := by decide) (hd : (x == ("__debug__" : Str)) = false := by decide) : wpAny (model X.prog X.w) X.A (eval (.Name x pos) X.env) Q E s := by
  obtain ⟨mb, h1, h2⟩ := I.mod.blt
  exact Calls.Name_function_global I.ok.kind hg (Calls.loadGlobal_builtin (by rw [I.ok.glob]; exact I.mod.glob.keeps I.bk) hm (by rw [I.ok.blt]; exact h1.keeps I.bk) ((h2 x hn).trans hv) h) hd
/-! ### arithmetic -/
/-- two ints -/
def t2I (ta tb : TE) (k : Int → Int → Hp → Prop) : St → Hp → Prop := fun σ H => ta σ H fun x H1 => tb σ H1 fun y H2 => ∃ i j, x = .int i ∧ y = .int j ∧ k i j H2
def tAdd (ta tb : TE) : TE := fun σ H Q => t2I ta tb (fun i j H2 => Q (.int (i + j)) H2) σ H
def tSub (ta tb : TE) : TE := fun σ H Q => t2I ta tb (fun i j H2 => Q (.int (i - j)) H2) σ H
/-- the left factor below 2^64 -/
def tMul (ta tb : TE) : TE := fun σ H Q => t2I ta tb (fun i j H2 => (-(2 ^ 64) < i ∧ i < 2 ^ 64) ∧ Q (.int (i * j)) H2) σ H
variable {a b : Expr} {ta tb : TE} {pos : Pos}
/-! ### comparisons -/
def PC (X : Cx) (op : CmpOp) (a b : Expr) (t : TE) : Prop :=
  ∀ (pins : List (Addr × Obj)) (s : Shared) (σ : St) (H : Hp) (Q : VK), Inv X pins σ H s → t σ H Q →
    wpAny (model X.prog X.w) X.A (eval a X.env) (fun v s₁ => wpAny (model X.prog X.w) X.A (eval b X.env) (fun u s₂ => wpAny (model X.prog X.w) X.A (compareOp op v u) (EP X pins σ Q) X.xe s₂) X.xe s₁) X.xe s
def tCmp (p : Int → Int → Bool) (ta tb : TE) : TE := fun σ H Q => t2I ta tb (fun i j H2 => Q (.bl (p i j)) H2) σ H
abbrev tLt : TE → TE → TE := tCmp fun i j => decide (i < j)
abbrev tLe : TE → TE → TE := tCmp fun i j => decide (i ≤ j)
abbrev tGt : TE → TE → TE := tCmp fun i j => decide (j < i)
abbrev tGe : TE → TE → TE := tCmp fun i j => decide (j ≤ i)
abbrev tEqI : TE → TE → TE := tCmp fun i j => decide (i = j)
abbrev tNeI : TE → TE → TE := tCmp fun i j => !decide (i = j)
/-- is None -/
def tIsN (ta : TE) : TE := fun σ H Q => ta σ H fun x H1 => Q (.bl (decide (x = .non))) H1
def tNotN (ta : TE) : TE := fun σ H Q => ta σ H fun x H1 => Q (.bl (!decide (x = .non))) H1
/-- a comparison as a value, as a test -/
def tB (t : TE) : TT := fun σ H Q => t σ H fun x H1 => ∃ c, x = .bl c ∧ Q c H1
/-- an expression whose value is a bool, as a test -/
theorem pt_val {e : Expr} {t : TE} (h : PE X e t) (he : ∀ whole, isTrue e X.env whole = (do let v ← whole; standAt e.pos; holding [v] (truthy v)) := by intro _; rfl) : PT X e (tB t) := by
  intro pins s σ H Q I hw
  refine isTrue_plain (thn (h pins s σ H _ I hw) fun v s1 ⟨x, H1, I1, r1, q1⟩ => ?_) (he _)
  obtain ⟨d, rfl, q⟩ := q1
  cases r1
  exact wpAny_truthy_bool ⟨H1, I1, q⟩

/-! ### and, or, not -/
variable {tA tB' : TT} {rest : List Expr}
def tAnd (t u : TT) : TT := fun σ H Q => t σ H fun c H1 => if c = true then u σ H1 Q else Q false H1
def tOr (t u : TT) : TT := fun σ H Q => t σ H fun c H1 => if c = true then Q true H1 else u σ H1 Q
def tNot (t : TT) : TT := fun σ H Q => t σ H fun c H1 => Q (!c) H1
theorem pw_and1 (ha : PT X a tA) : PW X (.BoolOp .And [a] pos) tA := by
  intro wh pins s σ H Q I h
  refine isTrue_and (thn (ha pins s σ H Q I h) fun c s1 e => ?_)
  cases c with
  | true => exact isTrue_and_nil e
  | false => exact e
theorem pw_or1 (ha : PT X a tA) : PW X (.BoolOp .Or [a] pos) tA := by
  intro wh pins s σ H Q I h
  refine isTrue_or (thn (ha pins s σ H Q I h) fun c s1 e => ?_)
  cases c with
  | false => exact isTrue_or_nil e
  | true => exact e
theorem pw_and (ha : PT X a tA) (hb : PW X (.BoolOp .And (b :: rest) pos) tB') : PW X (.BoolOp .And (a :: b :: rest) pos) (tAnd tA tB') := by
  intro wh pins s σ H Q I h
  refine isTrue_and (thn (ha pins s σ H _ I h) fun c s1 ⟨H1, I1, q1⟩ => ?_)
  cases c with
  | true => exact hb wh pins s1 σ H1 Q I1 q1
  | false => exact ⟨H1, I1, q1⟩
theorem pw_or (ha : PT X a tA) (hb : PW X (.BoolOp .Or (b :: rest) pos) tB') : PW X (.BoolOp .Or (a :: b :: rest) pos) (tOr tA tB') := by
  intro wh pins s σ H Q I h
  refine isTrue_or (thn (ha pins s σ H _ I h) fun c s1 ⟨H1, I1, q1⟩ => ?_)
  cases c with
  | true => exact ⟨H1, I1, q1⟩
  | false => exact hb wh pins s1 σ H1 Q I1 q1
theorem pt_not (ha : PT X a tA) : PT X (.UnaryOp .Not a pos) (tNot tA) := by
  intro pins s σ H Q I h
  exact isTrue_not (ha pins s σ H (fun c H1 => Q (!c) H1) I h)
/-- .. as values (bools) -/
def tAndV (ta tb : TE) : TE := fun σ H Q => ta σ H fun x H1 => ∃ c, x = .bl c ∧ if c = true then tb σ H1 Q else Q (.bl false) H1
def tOrV (ta tb : TE) : TE := fun σ H Q => ta σ H fun x H1 => ∃ c, x = .bl c ∧ if c = true then Q (.bl true) H1 else tb σ H1 Q
def tNotV (ta : TE) : TE := fun σ H Q => ta σ H fun x H1 => ∃ c, x = .bl c ∧ Q (.bl (!c)) H1
/-- a if t else b -/
def tIf (t : TT) (ta tb : TE) : TE := fun σ H Q => t σ H fun c H1 => if c = true then ta σ H1 Q else tb σ H1 Q
theorem pe_ifExp {c : Expr} (hc : PT X c tA) (ha : PE X a ta) (hb : PE X b tb) : PE X (.IfExp c a b pos) (tIf tA ta tb) := by
  intro pins s σ H Q I h
  refine wpAny_IfExp (thn (hc pins s σ H _ I h) fun d s1 ⟨H1, I1, q1⟩ => ?_)
  cases d with
  | true => exact ha pins s1 σ H1 Q I1 q1
  | false => exact hb pins s1 σ H1 Q I1 q1
end
end L2

namespace L2
open PySem PySem.Spec PyProof.Rows

/-! ### a list, a tuple that is read: tracked, frozen, or an object of the module -/
def SqL (K : PySem.W.Frag) (H : Hp) (a : Addr) (xs : List V) : Prop :=
  Rd H a (.lst xs) ∨
    ∃ (o : Obj) (its : Array Value) (n : Nat), K.lookup a = some o ∧ o.cls = .type "list" ∧ o.dict = none ∧ o.data = .seq its n ∧ its.size ≤ sizeLine ∧ Vals xs its.toList
def SqT (K : PySem.W.Frag) (H : Hp) (a : Addr) (xs : List V) : Prop :=
  Rd H a (.tup xs) ∨
    ∃ (o : Obj) (its : Array Value) (n : Nat), K.lookup a = some o ∧ o.cls = .type "tuple" ∧ o.data = .seq its n ∧ its.size ≤ sizeLine ∧ Vals xs its.toList
def absV : Value → Option V
  | .none => some .non
  | .bool b => some (.bl b)
  | .int i _ => some (.int i)
  | .str x _ => some (.str x)
  | .bytes b _ => some (.byt b)
  | .float b _ => some (.flt b)
  | .ref a => some (.ref a)
  | .type n => some (.ty n)
  | _ => none
theorem RelV.abs {x : V} {u : Value} (r : RelV x u) : absV u = some x := by
  cases x with
  | non => cases r; rfl
  | bl _ => cases r; rfl
  | int _ => obtain ⟨t, rfl⟩ := r; rfl
  | str _ => obtain ⟨t, rfl⟩ := r; rfl
  | byt _ => obtain ⟨t, rfl⟩ := r; rfl
  | flt _ => obtain ⟨t, rfl⟩ := r; rfl
  | ref _ => cases r; rfl
  | ty _ => cases r; rfl
theorem RelV.inj {x y : V} {u : Value} (r : RelV x u) (q : RelV y u) : x = y := Option.some.inj (r.abs.symm.trans q.abs)
theorem Vals.inj : ∀ {xs ys : List V} {us : List Value}, Vals xs us → Vals ys us → xs = ys
  | _, _, _, .nil, .nil => rfl
  | _, _, _, .cons r t, .cons r' t' => by rw [r.inj r', Vals.inj t t']
section
variable {X : Cx} {pins : List (Addr × Obj)} {σ : St} {H : Hp} {s : Shared} {a : Addr} {xs ys : List V}
theorem SqL.of {K : PySem.W.Frag} (h : H a = some (.lst xs)) : SqL K H a xs := .inl (.inl h)
theorem SqT.of {K : PySem.W.Frag} (h : H a = some (.tup xs)) : SqT K H a xs := .inl (.inl h)
theorem Inv.list (I : Inv X pins σ H s) (h : SqL X.K H a xs) : ∃ its : List Value, Vals xs its ∧ PlainL s.heap a its.toArray ∧ xs.length ≤ sizeLine := by
  rcases h with h | ⟨o, its, n, hk, hc, hd, hs, hz, r⟩
  · obtain ⟨z, its, n, r, e⟩ := h.ok I.hok
    exact ⟨its, r, ⟨_, n, e, rfl, rfl, rfl⟩, z⟩
  · refine ⟨its.toList, r, ⟨o, n, I.kIn a o hk, hc, hd, by simpa using hs⟩, ?_⟩
    have e := r.length
    simp only [Array.length_toList] at e
    omega
theorem Inv.tuple (I : Inv X pins σ H s) (h : SqT X.K H a xs) : ∃ its : List Value, Vals xs its ∧ IsTup s.heap a its.toArray ∧ xs.length ≤ sizeLine := by
  rcases h with h | ⟨o, its, n, hk, hc, hs, hz, r⟩
  · obtain ⟨z, its, r, p⟩ := h.ok I.hok
    exact ⟨its, r, p, z⟩
  · refine ⟨its.toList, r, ⟨o, I.kIn a o hk, hc, n, by simpa using hs⟩, ?_⟩
    have e := r.length
    simp only [Array.length_toList] at e
    omega
theorem Inv.list_inj (I : Inv X pins σ H s) (h : SqL X.K H a xs) (h' : SqL X.K H a ys) : xs = ys := by
  obtain ⟨its, r, ⟨o, n, e, _, _, d⟩, _⟩ := I.list h
  obtain ⟨its', r', ⟨o', n', e', _, _, d'⟩, _⟩ := I.list h'
  rw [e] at e'; cases e'
  rw [d] at d'
  injection d' with d1 _
  have : its = its' := by simpa using congrArg Array.toList d1
  subst this
  exact r.inj r'
theorem Inv.tuple_inj (I : Inv X pins σ H s) (h : SqT X.K H a xs) (h' : SqT X.K H a ys) : xs = ys := by
  obtain ⟨its, r, ⟨o, e, _, n, d⟩, _⟩ := I.tuple h
  obtain ⟨its', r', ⟨o', e', _, n', d'⟩, _⟩ := I.tuple h'
  rw [e] at e'; cases e'
  rw [d] at d'
  injection d' with d1 _
  have : its = its' := by simpa using congrArg Array.toList d1
  subst this
  exact r.inj r'
end

/-! ### another wish about exceptions -/
abbrev Cx.wish (X : Cx) (E : Value → Shared → Prop) : Cx := { X with xe := E }
/-- no exception leaves -/
abbrev Cx.nox (X : Cx) : Cx := X.wish fun _ _ => False
theorem Cx.Ok.wish {X : Cx} (ok : X.Ok) (E : Value → Shared → Prop) : (X.wish E).Ok :=
  ⟨ok.mod, ok.kind, ok.glob, ok.blt, ok.above, ok.inj, ok.has, ok.cab, ok.hd, ok.frames, ok.stk, ok.exf, ok.bs, ok.bsz, ok.noex, ok.exfs, ok.funs, ok.frf⟩
theorem Cx.Ok.unwish {X : Cx} {E : Value → Shared → Prop} (ok : (X.wish E).Ok) : X.Ok :=
  ⟨ok.mod, ok.kind, ok.glob, ok.blt, ok.above, ok.inj, ok.has, ok.cab, ok.hd, ok.frames, ok.stk, ok.exf, ok.bs, ok.bsz, ok.noex, ok.exfs, ok.funs, ok.frf⟩
section
variable {X : Cx} {pins : List (Addr × Obj)} {σ : St} {H : Hp} {s : Shared} {E : Value → Shared → Prop}
theorem Inv.wish (I : Inv X pins σ H s) (E : Value → Shared → Prop) : Inv (X.wish E) pins σ H s := ⟨I.ok.wish E, I.os, I.bare, I.base, I.loc, I.cell, I.free, I.freeC, I.pin, I.hok, I.len⟩
theorem Inv.unwish (I : Inv (X.wish E) pins σ H s) : Inv X pins σ H s := ⟨I.ok.unwish, I.os, I.bare, I.base, I.loc, I.cell, I.free, I.freeC, I.pin, I.hok, I.len⟩
theorem SP.unwish {D : Ends} {f : Flow} {s' : Shared} (h : SP (X.wish E) pins D f s') : SP X pins D f s' := by
  cases f with
  | next => obtain ⟨σ', H', I, q⟩ := h; exact ⟨σ', H', I.unwish, q⟩
  | brk => obtain ⟨σ', H', I, q⟩ := h; exact ⟨σ', H', I.unwish, q⟩
  | cont => obtain ⟨σ', H', I, q⟩ := h; exact ⟨σ', H', I.unwish, q⟩
  | ret u => obtain ⟨v, σ', H', I, r, q⟩ := h; exact ⟨v, σ', H', I.unwish, r, q⟩
theorem PSs.nox {st : List Stmt} {t : TS} (h : PSs X.nox st t) : PSs X st t := fun pins s σ H D I hw =>
  wpAny_mono (h pins s σ H D (I.wish _) hw) (fun _ _ q => q.unwish) fun _ _ z => False.elim z
end

/-! ### blocks and small statements -/
section
variable {X : Cx} {st : Stmt} {rest : List Stmt} {t u : TS} {e : Expr} {te : TE} {pos : Pos}
def tNext : TS := fun D σ H => D.nx σ H
def tSeq (t u : TS) : TS := fun D σ H => t { D with nx := u D } σ H
theorem pss_nil : PSs X [] tNext := fun _ _ σ H _ I h => wpAny_execs_nil ⟨σ, H, I, h⟩
theorem pss_cons (h1 : PS X st t) (h2 : PSs X rest u) : PSs X (st :: rest) (tSeq t u) := by
  intro pins s σ H D I h
  refine wpAny_execs_cons (thn (h1 pins s σ H { D with nx := u D } I h) fun f s1 q => ?_)
  cases f with
  | next =>
    obtain ⟨σ', H', I', q⟩ := q
    exact h2 pins s1 σ' H' D I' q
  | ret v => exact q
  | brk => exact q
  | cont => exact q
theorem pss_one (h1 : PS X st t) : PSs X [st] t := by
  intro pins s σ H D I h
  refine wpAny_execs_cons (thn (h1 pins s σ H D I h) fun f s1 q => ?_)
  cases f with
  | next => exact wpAny_execs_nil q
  | ret v => exact q
  | brk => exact q
  | cont => exact q
def tBreak : TS := fun D σ H => D.bk σ H
def tCont : TS := fun D σ H => D.ct σ H
/-- in a def's body nothing is shown -/
theorem Inv.quiet {pins : List (Addr × Obj)} {σ : St} {H : Hp} {s : Shared} (I : Inv X pins σ H s) : interactive X.env = false := by simp [interactive, I.ok.kind]
/-- an expression whose value is dropped -/
def tDrop (te : TE) : TS := fun D σ H => te σ H fun _ H1 => D.nx σ H1
theorem ps_expr (he : PE X e te) (hs : swapsWith e none pos.line X.env = pure false := by rfl) : PS X (.Expr e pos) (tDrop te) := by
  intro pins s σ H D I h
  exact wpAny_Expr_any (thn (he pins s σ H _ I h) fun v s1 ⟨x, H1, I1, r1, q1⟩ => ⟨σ, H1, I1, q1⟩) I.quiet hs
def tRet (te : TE) : TS := fun D σ H => te σ H D.rt
theorem ps_ret (he : PE X e te) : PS X (.Return (some e) pos) (tRet te) := by
  intro pins s σ H D I h
  exact wpAny_Return_some (thn (he pins s σ H _ I h) fun v s1 ⟨x, H1, I1, r1, q1⟩ => ⟨x, σ, H1, I1, r1, q1⟩)
def tRetN : TS := fun D _ H => D.rt .non H
def tIfS (c : TT) (t u : TS) : TS := fun D σ H => c σ H fun b H1 => if b = true then t D σ H1 else u D σ H1
theorem ps_if {c : Expr} {a b : List Stmt} {tc : TT} (hc : PT X c tc) (ha : PSs X a t) (hb : PSs X b u) : PS X (.If c a b pos) (tIfS tc t u) := by
  intro pins s σ H D I h
  refine wpAny_If (thn (hc pins s σ H _ I h) fun d s1 ⟨H1, I1, q1⟩ => ?_)
  cases d with
  | true => exact ha pins s1 σ H1 D I1 q1
  | false => exact hb pins s1 σ H1 D I1 q1
/-- code that the proof never comes to -/
def tNever : TS := fun _ _ _ => False
theorem ps_never : PS X st tNever := fun _ _ _ _ _ _ h => h.elim
end

/-! ### targets -/
abbrev TG := V → St → Hp → (St → Hp → Prop) → Prop
abbrev TGs := List V → St → Hp → (St → Hp → Prop) → Prop
def PG (X : Cx) (target : Expr) (t : TG) : Prop :=
  ∀ (pins : List (Addr × Obj)) (s : Shared) (σ : St) (H : Hp) (v : V) (u : Value) (Q : St → Hp → Prop), Inv X pins σ H s → RelV v u → t v σ H Q →
    wpAny (model X.prog X.w) X.A (assign target X.env u) (fun _ s' => ∃ σ' H', Inv X pins σ' H' s' ∧ Q σ' H') X.xe s
/-- several targets, one after another -/
def PGs (X : Cx) (ts : List Expr) (t : TGs) : Prop :=
  ∀ (pins : List (Addr × Obj)) (s : Shared) (σ : St) (H : Hp) (vs : List V) (us : List Value) (Q : St → Hp → Prop), Inv X pins σ H s → Vals vs us → t vs σ H Q →
    wpAny (model X.prog X.w) X.A (assignInOrder ((assignEach ts X.env).map (·.2)) us) (fun _ s' => ∃ σ' H', Inv X pins σ' H' s' ∧ Q σ' H') X.xe s
/-- o[i] = v, by values -/
abbrev TSet := V → V → V → Hp → (Hp → Prop) → Prop
def PSet (X : Cx) (t : TSet) : Prop :=
  ∀ (pins : List (Addr × Obj)) (s : Shared) (σ : St) (H : Hp) (o i v : V) (ov iv u : Value) (Q : Hp → Prop), Inv X pins σ H s → RelV o ov → RelV i iv → RelV v u → t o i v H Q →
    wpAny (model X.prog X.w) X.A (setItem ov iv u) (fun _ s' => ∃ H', Inv X pins σ H' s' ∧ Q H') X.xe s
/-- a op= b, by values -/
abbrev TIp := V → V → Hp → VK → Prop
def PIp (X : Cx) (op : Operator) (t : TIp) : Prop :=
  ∀ (pins : List (Addr × Obj)) (s : Shared) (σ : St) (H : Hp) (x y : V) (v u : Value) (Q : VK), Inv X pins σ H s → RelV x v → RelV y u → t x y H Q →
    wpAny (model X.prog X.w) X.A (inplaceOp op v u) (EP X pins σ Q) X.xe s
section
variable {X : Cx} {pos : Pos}
def gName (i : Nat) : TG := fun v σ H Q => Q (σ.set i (some v)) H
theorem pg_name {i : Nat} {x : Str} (hN : X.N.Nodup) (hi : X.N[i]? = some x) (hx : Loc X.env.scope x) (hf : X.fn x = true ∨ X.env.scope.names.lookup x = some .local := by first | exact .inl rfl | exact .inr rfl | assumption) : PG X (.Name x pos) (gName i) := by
  intro pins s σ H v u Q I r h
  exact wpAny_assign_Name (store_ok I hN hi hx r (fun s' I' => ⟨_, H, I', h⟩) hf)
def gNil : TGs := fun vs σ H Q => vs = [] ∧ Q σ H
def gCons (t : TG) (u : TGs) : TGs := fun vs σ H Q => ∃ v r, vs = v :: r ∧ t v σ H fun σ' H' => u r σ' H' Q
theorem pgs_nil : PGs X [] gNil := by
  intro pins s σ H vs us Q I r h
  obtain ⟨e, h⟩ := h
  subst e
  cases r
  exact assignInOrder_nil ⟨σ, H, I, h⟩
theorem pgs_cons {e : Expr} {es : List Expr} {t : TG} {u : TGs} (h1 : PG X e t) (h2 : PGs X es u)
    (hs : (assignEach (e :: es) X.env).map (·.2) = assign e X.env :: (assignEach es X.env).map (·.2) := by rfl) : PGs X (e :: es) (gCons t u) := by
  intro pins s σ H vs us Q I r h
  obtain ⟨v, vr, e1, h⟩ := h
  subst e1
  cases r with
  | cons r rr =>
    rw [hs]
    refine assignInOrder_cons (thn (h1 pins s σ H _ _ _ I r h) fun _ s1 ⟨σ1, H1, I1, q1⟩ => ?_)
    exact h2 pins s1 σ1 H1 _ _ Q I1 rr q1
/-- (a, b, ..) = a tuple of that length -/
def gTup (K : PySem.W.Frag) (n : Nat) (t : TGs) : TG := fun v σ H Q => ∃ a xs, v = .ref a ∧ SqT K H a xs ∧ xs.length = n ∧ t xs σ H Q
theorem pg_tup {es : List Expr} {k : Nat} {t : TGs} {n : Nat} (hc : X.calm = true) (h : PGs X es t)
    (hn : (assignEach es X.env).length = n := by rfl) (hst : (assignEach es X.env).findIdx? (·.1) = none := by rfl) : PG X (.Tuple es k pos) (gTup X.K n t) := by
  intro pins s σ H v u Q I r hw
  obtain ⟨a, xs, e1, hq, hl, hw⟩ := hw
  subst e1
  cases r
  obtain ⟨its, rv, ht, hz⟩ := I.tuple hq
  refine assign_Tuple_tuple (I.ok.hd hc) ht (by simp [hn, ← hl, rv.length]) hst fun h' hx => ?_
  have I1 : Inv X pins σ H { s with heap := h' } := I.kept (t' := s.toks) fun b o e => hx b o (Nat.ne_of_lt (Heap.lt_size e)) e
  exact h pins _ σ H xs _ Q I1 (by simpa using rv) hw
/-- o[i] = .. -/
def gSub (to ti : TE) (t : TSet) : TG := fun v σ H Q => to σ H fun o H1 => ti σ H1 fun i H2 => t o i v H2 fun H3 => Q σ H3
theorem pg_sub {o i : Expr} {to ti : TE} {t : TSet} (ho : PE X o to) (hi : PE X i ti) (hs : PSet X t)
    (ha : ∀ v, assign (.Subscript o i pos) X.env v = (do
      let ov ← holding [v] (eval o X.env)
      let iv ← holding [v, ov] (eval i X.env)
      standAt pos
      holding [v, ov, iv] (setItem ov iv v)
      release [v, ov, iv] []) := by intro _; rfl) : PG X (.Subscript o i pos) (gSub to ti t) := by
  intro pins s σ H v u Q I r h
  rw [ha]
  refine wpAny_bind (wpAny_holding (thn (ho pins s σ H _ I h) fun ov s1 ⟨x, H1, I1, r1, q1⟩ => ?_))
  refine wpAny_bind (wpAny_holding (thn (hi pins s1 σ H1 _ I1 q1) fun iv s2 ⟨y, H2, I2, r2, q2⟩ => ?_))
  refine wpAny_bind (wpAny_standAt (wpAny_bind (wpAny_holding (thn (hs pins s2 σ H2 x y v ov iv u _ I2 r1 r2 r q2) fun _ s3 ⟨H3, I3, q3⟩ => ?_))))
  exact wpAny_release ⟨σ, H3, I3, q3⟩
/-- target = value -/
def tAsg (te : TE) (g : TG) : TS := fun D σ H => te σ H fun x H1 => g x σ H1 D.nx
theorem ps_asg {tg e : Expr} {te : TE} {g : TG} (he : PE X e te) (hg : PG X tg g) (hs : swapsWithSole [tg] e pos.line X.env = pure false := by rfl) (hw : swappedStores [tg] e X.env = pure none := by rfl)
    (h1 : (assignEach [tg] X.env).map (·.2) = [assign tg X.env] := by rfl) : PS X (.Assign [tg] e pos) (tAsg te g) := by
  intro pins s σ H D I h
  refine wpAny_Assign_stores (thn (he pins s σ H _ I h) fun v s1 ⟨x, H1, I1, r1, q1⟩ => ?_) hs hw
  rw [h1]
  exact thn (hg pins s1 σ H1 x v _ I1 r1 q1) fun _ s2 q => q
/-- name = value -/
theorem ps_set {i : Nat} {x : Str} {e : Expr} {te : TE} {pos' : Pos} (hN : X.N.Nodup) (hi : X.N[i]? = some x) (hx : Loc X.env.scope x) (he : PE X e te) (hs : swapsWith e (some (.Name x pos')) pos.line X.env = pure false := by rfl) (hf : X.fn x = true ∨ X.env.scope.names.lookup x = some .local := by first | exact .inl rfl | exact .inr rfl | assumption) :
    PS X (.Assign [.Name x pos'] e pos) (tAsg te (gName i)) := by
  intro pins s σ H D I h
  refine wpAny_Assign_Name (thn (he pins s σ H _ I h) fun v s1 ⟨y, H1, I1, r1, q1⟩ => ?_) hs
  exact store_ok I1 hN hi hx r1 (fun s2 I2 => ⟨_, H1, I2, q1⟩) hf
/-- a, b = x, y with plain local names: stored from the right; the pair itself is not tracked (the opening rows as in PyProof/Rows/TupAssign.lean:23) -/
def tPar (i j : Nat) (ta : TA) : TS := fun D σ H => ta σ H fun vs H1 => ∃ v w, vs = [v, w] ∧ D.nx ((σ.set i (some v)).set j (some w)) H1
theorem ps_par {i j : Nat} {x y : Str} {a b : Expr} {ta : TA} {px py pt : Pos} {kt k2 pt2} (hc : X.calm = true) (hN : X.N.Nodup) (hi : X.N[i]? = some x) (hj : X.N[j]? = some y) (hij : i ≠ j)
    (hx : X.env.scope.names.lookup x = some .local) (hy : X.env.scope.names.lookup y = some .local) (ha : PA X [a, b] ta)
    (hw : swappedStores [.Tuple [.Name x px, .Name y py] kt pt] (.Tuple [a, b] k2 pt2) X.env = pure (some [x, y]))
    (hs : swapsWithSole [.Tuple [.Name x px, .Name y py] kt pt] (.Tuple [a, b] k2 pt2) pos.line X.env = pure false := by rfl) :
    PS X (.Assign [.Tuple [.Name x px, .Name y py] kt pt] (.Tuple [a, b] k2 pt2) pos) (tPar i j ta) := by
  intro pins s σ H D I h
  rw [exec_Assign_arm]
  refine wpAny_bind (wpAny_standAt ?_)
  rw [hs]
  refine wpAny_bind (wpAny_pure ?_)
  rw [if_neg (by decide)]
  refine wpAny_bind (Tuple_ (thn (ha _ pins s σ H _ I h) fun us s1 ⟨vs, H1, I1, r1, q1⟩ => ?_))
  obtain ⟨v, w, e1, q1⟩ := q1
  subst e1
  obtain ⟨u1, u2, rfl, rv, rw'⟩ : ∃ u1 u2, us = [u1, u2] ∧ RelV v u1 ∧ RelV w u2 := by
    cases r1 with
    | cons p q =>
      cases q with
      | cons p' q' =>
        cases q'
        exact ⟨_, _, rfl, p, p'⟩
  refine wpAny_newObj_type ?_ (by show 2 ≤ sizeLine; decide)
  have I2 : Inv X pins σ H1 { s1 with heap := s1.heap.push { cls := .type "tuple", data := .seq [u1, u2].toArray } } := I1.kept (t' := s1.toks) fun b o e => Heap.get?_push_of_some _ e
  rw [hw]
  refine wpAny_bind (wpAny_pure ?_)
  show wpAny (model X.prog X.w) X.A (do rule "assign.swapped-stores"; let items ← unpackItems (.ref s1.heap.objs.size) 2 none; assignInOrder [fun v => bindName X.env y v, fun v => bindName X.env x v] items.reverse; pure Flow.next) _ _ _
  refine wpAny_bind (wpAny_rule (wpAny_bind (unpackItems_tuple (items := #[u1, u2]) (I.ok.hd hc) (IsTup.new s1.heap _) fun h' hx' => ?_)))
  have I3 := I2.kept (h' := h') (t' := s1.toks) fun b o e => hx' b o (Nat.ne_of_lt (Heap.lt_size e)) e
  show wpAny _ _ (assignInOrder [fun v => bindName X.env y v, fun v => bindName X.env x v] [u2, u1] >>= fun _ => pure Flow.next) _ _ _
  refine wpAny_bind (assignInOrder_cons (wpAny_bindName (store_ok I3 hN hj (.inl hy) rw' (fun s2 I4 => ?_) (.inr hy))))
  refine assignInOrder_cons (wpAny_bindName (store_ok I4 hN hi (.inl hx) rv (fun s3 I5 => assignInOrder_nil (wpAny_pure ?_)) (.inr hx)))
  rw [List.set_comm _ _ (Ne.symm hij)] at I5
  exact ⟨_, H1, I5, q1⟩
/-- name op= e -/
def tAug (i : Nat) (te : TE) (ti : TIp) : TS := fun D σ H => ∃ x, σ[i]? = some (some x) ∧ te σ H fun y H1 => ti x y H1 fun z H2 => D.nx (σ.set i (some z)) H2
/-- o[i] op= e -/
def tAugS (to ti te : TE) (tget : V → V → Hp → VK → Prop) (tip : TIp) (tset : TSet) : TS := fun D σ H => to σ H fun o H1 => ti σ H1 fun i H2 => tget o i H2 fun x H3 => te σ H3 fun y H4 => tip x y H4 fun z H5 => tset o i z H5 fun H6 => D.nx σ H6
/-- o[i], by values -/
def PGet (X : Cx) (t : V → V → Hp → VK → Prop) : Prop :=
  ∀ (pins : List (Addr × Obj)) (s : Shared) (σ : St) (H : Hp) (o i : V) (ov iv : Value) (Q : VK), Inv X pins σ H s → RelV o ov → RelV i iv → t o i H Q →
    wpAny (model X.prog X.w) X.A (getItem ov iv) (EP X pins σ Q) X.xe s
/-- ints -/
def ipI (f : Int → Int → Int) : TIp := fun x y H Q => ∃ i j, x = .int i ∧ y = .int j ∧ Q (.int (f i j)) H
end

/-! ### while -/
section
variable {X : Cx} {pos : Pos}
/-- the invariant W with its measure -/
def tWhile (c : TT) (tb : TS) : TS := fun D σ H => ∃ W : Nat → St → Hp → Prop, (∃ m, W m σ H) ∧ ∀ m σ H, W m σ H →
  c σ H fun b H1 => if b = true then ∃ N : St → Hp → Prop, (∀ σ' H', N σ' H' → ∃ m', m' < m ∧ W m' σ' H') ∧ tb { D with nx := N, ct := N, bk := D.nx } σ H1 else D.nx σ H1
theorem ps_while {c : Expr} {body : List Stmt} {tc : TT} {tb : TS} (hp : PassesOwn (model X.prog X.w) X.A X.env X.xe) (hc : PT X c tc) (hb : PSs X body tb) : PS X (.While c body [] pos) (tWhile tc tb) := by
  intro pins s σ H D I h
  obtain ⟨W, ⟨m0, w0⟩, turn⟩ := h
  refine wpAny_While (codeAny_whileLoop (fun n s' => ∃ σ' H', Inv X pins σ' H' s' ∧ W n σ' H') ?_ m0 ⟨σ, H, I, w0⟩)
  rintro n s1 ⟨σ1, H1, I1, w1⟩
  refine wpAny_passesOwn hp (thn (hc pins s1 σ1 H1 _ I1 (turn n σ1 H1 w1)) fun b s2 ⟨H2, I2, q2⟩ => ?_)
  cases b with
  | true =>
    obtain ⟨N, hN, q2⟩ := q2
    rw [if_pos rfl]
    refine wpAny_passesOwn hp (thn (hb pins s2 σ1 H2 _ I2 q2) fun f s3 q3 => ?_)
    cases f with
    | next =>
      obtain ⟨σ3, H3, I3, n3⟩ := q3
      obtain ⟨m', hm, w3⟩ := hN σ3 H3 n3
      exact ⟨m', hm, σ3, H3, I3, w3⟩
    | cont =>
      obtain ⟨σ3, H3, I3, n3⟩ := q3
      obtain ⟨m', hm, w3⟩ := hN σ3 H3 n3
      exact ⟨m', hm, σ3, H3, I3, w3⟩
    | brk => exact q3
    | ret v => exact q3
  | false =>
    rw [if_neg Bool.false_ne_true]
    exact wpAny_execs_nil ⟨σ1, H2, I2, q2⟩
end

/-! ### what a loop or a comprehension walks -/
/-- at turn i: it yields x (the heap may grow), or it stops -/
structure It where
  go : Nat → Hp → Prop
  yld : Nat → Hp → V → Hp → Prop
  stop : Nat → Hp → Prop
/-- the iterator's own objects may turn: they are not the frame's, not pinned, younger than the entry (or a comprehension's own) -/
def FpOk (X : Cx) (pins : List (Addr × Obj)) (H : Hp) (b : Addr) : Prop :=
  H b = none ∧ b ≠ X.env.locals ∧ b ∉ X.fs ∧ (b ∈ X.ex ∨ X.s₀.heap.objs.size ≤ b) ∧ (∀ x c, X.env.cells.lookup x = some c → c ≠ b) ∧ ∀ p ∈ X.pn ++ pins, p.1 ≠ b
theorem Inv.fpOk {X : Cx} {pins : List (Addr × Obj)} {σ : St} {H H' : Hp} {s : Shared} {b : Addr} (I : Inv X pins σ H s) (hb : s.heap.objs.size ≤ b) (hn : H' b = none) : FpOk X pins H' b := by
  refine ⟨hn, Nat.ne_of_gt (Nat.lt_of_lt_of_le I.lt hb), I.nofs hb, .inr (Nat.le_trans I.sz hb), fun x c e z => ?_, fun p hp z => ?_⟩
  · obtain ⟨v, q⟩ := I.cell x c e
    exact absurd (Nat.lt_of_lt_of_le q.lt (by rw [z]; exact hb)) (Nat.lt_irrefl _)
  · exact absurd (Nat.lt_of_lt_of_le (Heap.lt_size (I.pin p hp).1) (by rw [z]; exact hb)) (Nat.lt_irrefl _)
structure Turn (P : Program) (w : World) (K : PySem.W.Frag) (tg : Expr) (J : It) (fp : List Addr) (it : Addr) (tn : Nat → Heap → Prop) : Prop where
  mem : it ∈ fp
  obj : ∀ i h, tn i h → ∀ b ∈ fp, ∃ o, h.get? b = some o ∧ ∀ v, o.data ≠ .cell v
  keep : ∀ i h h', tn i h → (∀ b ∈ fp, ∀ o, h.get? b = some o → h'.get? b = some o) → tn i h'
  item : ∀ (X : Cx), X.prog = P → X.w = w → X.K = K → X.calm = true → ∀ (i : Nat) (pins : List (Addr × Obj)) (s : Shared) (σ : St) (H : Hp) (E : Value → Shared → Prop), Inv X pins σ H s → (∀ b ∈ fp, FpOk X pins H b) → tn i s.heap → J.go i H →
    wpAny (model P w) X.A (pyNext (.ref it)) (fun r s1 => ∃ u, r = some u ∧
      wpAny (model P w) X.A (letOwnedTupleGo tg (.ref it) u) (fun _ s2 => ∃ x H', Inv X pins σ H' s2 ∧ RelV x u ∧ J.yld i H x H' ∧ tn (i + 1) s2.heap ∧ ∀ b ∈ fp, H' b = none) E s1) E s
  done : ∀ (X : Cx), X.prog = P → X.w = w → X.K = K → X.calm = true → ∀ (i : Nat) (pins : List (Addr × Obj)) (s : Shared) (σ : St) (H : Hp) (E : Value → Shared → Prop), Inv X pins σ H s → (∀ b ∈ fp, FpOk X pins H b) → tn i s.heap → J.stop i H →
    wpAny (model P w) X.A (pyNext (.ref it)) (fun r s1 => r = none ∧ Inv X pins σ H s1) E s
  self : ∀ (A : Around) (i : Nat) (s : Shared) (Q : Value → Shared → Prop) (E : Value → Shared → Prop), tn i s.heap → Q (.ref it) s → wpAny (model P w) A (pyIter (.ref it)) Q E s
abbrev TI := St → Hp → (It → Hp → Prop) → Prop
/-- an iterator has come -/
def PIE (X : Cx) (pins : List (Addr × Obj)) (σ : St) (tg : Expr) (R : It → Hp → Prop) (itv : Value) (s2 : Shared) : Prop :=
  ∃ (it : Addr) (fp : List Addr) (tn : Nat → Heap → Prop) (J : It) (H' : Hp), itv = .ref it ∧ Inv X pins σ H' s2 ∧ Turn X.prog X.w X.K tg J fp it tn ∧ tn 0 s2.heap ∧ (∀ b ∈ fp, FpOk X pins H' b) ∧ R J H'
def PI (X : Cx) (tg iter : Expr) (wi : TI) : Prop :=
  ∀ (pins : List (Addr × Obj)) (s : Shared) (σ : St) (H : Hp) (R : It → Hp → Prop), Inv X pins σ H s → wi σ H R →
    wpAny (model X.prog X.w) X.A (eval iter X.env) (fun v s1 => wpAny (model X.prog X.w) X.A (pyIter v) (PIE X pins σ tg R) X.xe s1) X.xe s

/-- the step ahead of the store is nothing for an iterator that keeps no tuple -/
theorem go_of {M : Model} {A : Around} {E : Value → Shared → Prop} {s : Shared} {tg : Expr} {it : Addr} {u : Value} {o : Obj} {n : String} {vs : Array Value} {Q : Unit → Shared → Prop} (ho : s.heap.get? it = some o) (hc : o.cls = .type n) (hd : o.data = .fields vs)
    (hn : ["enumerate", "zip", "dict_itemiterator", "dict_reverseitemiterator", "odict_iterator", "itertools.zip_longest", "itertools.pairwise"].contains n = false) (hQ : Q () s) : wpAny M A (letOwnedTupleGo tg (.ref it) u) Q E s := by
  unfold letOwnedTupleGo
  cases tg <;> first
    | exact wpAny_pure hQ
    | (cases u <;> first
        | exact wpAny_pure hQ
        | (refine wpAny_bind (wpAny_load ho ?_)
           rw [hc, hd]
           show wpAny M A (if (["enumerate", "zip", "dict_itemiterator", "dict_reverseitemiterator", "odict_iterator", "itertools.zip_longest", "itertools.pairwise"].contains n && vs[0]? == some (rawInt _)) = true then _ else _) Q E s
           rw [if_neg (by intro h; rw [hn, Bool.false_and] at h; cases h)]
           exact wpAny_pure hQ))

/-- the list at a, as it stands at each turn (a loop may append to it) -/
def Itl (K : PySem.W.Frag) (a : Addr) : It :=
  ⟨fun i H => ∃ xs x, SqL K H a xs ∧ xs[i]? = some x, fun i H x H' => H' = H ∧ ∀ xs, SqL K H a xs → xs[i]? = some x, fun i H => ∃ xs, SqL K H a xs ∧ xs.length ≤ i⟩
def Itt (K : PySem.W.Frag) (a : Addr) : It :=
  ⟨fun i H => ∃ xs x, SqT K H a xs ∧ xs[i]? = some x, fun i H x H' => H' = H ∧ ∀ xs, SqT K H a xs → xs[i]? = some x, fun i H => ∃ xs, SqT K H a xs ∧ xs.length ≤ i⟩
/-- lo, lo + 1, .. (n of them) -/
def Itr (lo : Int) (n : Nat) : It := ⟨fun i _ => i < n, fun i H x H' => H' = H ∧ x = .int (lo + i), fun i _ => n ≤ i⟩
theorem turn_list {P : Program} {w : World} {K : PySem.W.Frag} {tg : Expr} (a it : Addr) : Turn P w K tg (Itl K a) [it] it (fun i h => h.IsListIter it a i) where
  mem := by simp
  obj := fun i h st b hb => by
    have e : b = it := by simpa using hb
    subst e
    obtain ⟨o, e, c, d⟩ := st
    exact ⟨o, e, fun v z => by rw [d] at z; cases z⟩
  keep := fun i h h' st k => st.at fun o e => k it (by simp) o e
  item := by
    intro X hP hw hK hc i pins s σ H E I hf st hg
    subst hP hw hK
    obtain ⟨xs, x, hq, hx⟩ := hg
    obtain ⟨its, rv, p, hz⟩ := I.list hq
    obtain ⟨u, hu, ru⟩ := rv.get hx
    obtain ⟨f0, f1, f2, f3, f4, f5⟩ := hf it (by simp)
    refine wpAny_pyNext_list_item st p.isList (x := u) (by simpa using hu) fun h' st' sb => ?_
    have I1 : Inv X pins σ H { s with heap := h' } := I.turned (t' := s.toks) (fun b o hb e => (sb.2 b hb).trans e) f0 f1 f3 f4 f5
    obtain ⟨o, e, c, d⟩ := id st'
    exact ⟨u, rfl, go_of (s := { s with heap := h' }) e c d (by decide) ⟨x, H, I1, ru, ⟨rfl, fun ys hy => by rw [I.list_inj hy hq]; exact hx⟩, st', fun b hb => (hf b hb).1⟩⟩
  done := by
    intro X hP hw hK hc i pins s σ H E I hf st hg
    subst hP hw hK
    obtain ⟨xs, hq, hx⟩ := hg
    obtain ⟨its, rv, p, hz⟩ := I.list hq
    obtain ⟨f0, f1, f2, f3, f4, f5⟩ := hf it (by simp)
    have hl := rv.length
    exact wpAny_pyNext_list_end (I.ok.hd hc) st p.isList (by simp; omega) fun h' eb => ⟨rfl, I.turned (t' := s.toks) (fun b o hb e => eb b o hb e) f0 f1 f3 f4 f5⟩
  self := fun _ _ _ _ _ st h => wpAny_pyIter_listiter st h
theorem turn_tuple {P : Program} {w : World} {K : PySem.W.Frag} {tg : Expr} (a it : Addr) : Turn P w K tg (Itt K a) [it] it (fun i h => h.IsTupleIter it a i) where
  mem := by simp
  obj := fun i h st b hb => by
    have e : b = it := by simpa using hb
    subst e
    obtain ⟨o, e, c, d⟩ := st
    exact ⟨o, e, fun v z => by rw [d] at z; cases z⟩
  keep := fun i h h' st k => st.at fun o e => k it (by simp) o e
  item := by
    intro X hP hw hK hc i pins s σ H E I hf st hg
    subst hP hw hK
    obtain ⟨xs, x, hq, hx⟩ := hg
    obtain ⟨its, rv, p, hz⟩ := I.tuple hq
    obtain ⟨u, hu, ru⟩ := rv.get hx
    obtain ⟨f0, f1, f2, f3, f4, f5⟩ := hf it (by simp)
    refine wpAny_pyNext_tuple_item st (show s.heap.IsTuple a its.toArray from p) (x := u) (by simpa using hu) fun h' st' sb => ?_
    have I1 : Inv X pins σ H { s with heap := h' } := I.turned (t' := s.toks) (fun b o hb e => (sb.2 b hb).trans e) f0 f1 f3 f4 f5
    obtain ⟨o, e, c, d⟩ := id st'
    exact ⟨u, rfl, go_of (s := { s with heap := h' }) e c d (by decide) ⟨x, H, I1, ru, ⟨rfl, fun ys hy => by rw [I.tuple_inj hy hq]; exact hx⟩, st', fun b hb => (hf b hb).1⟩⟩
  done := by
    intro X hP hw hK hc i pins s σ H E I hf st hg
    subst hP hw hK
    obtain ⟨xs, hq, hx⟩ := hg
    obtain ⟨its, rv, p, hz⟩ := I.tuple hq
    obtain ⟨f0, f1, f2, f3, f4, f5⟩ := hf it (by simp)
    have hl := rv.length
    exact wpAny_pyNext_tuple_end (I.ok.hd hc) st (show s.heap.IsTuple a its.toArray from p) (by simp; omega) fun h' eb => ⟨rfl, I.turned (t' := s.toks) (fun b o hb e => eb b o hb e) f0 f1 f3 f4 f5⟩
  self := fun _ _ _ _ _ st h => wpAny_pyIter_tupleiter st h
theorem turn_range {P : Program} {w : World} {K : PySem.W.Frag} {tg : Expr} (it : Addr) (lo : Int) (n : Nat) : Turn P w K tg (Itr lo n) [it] it (fun i h => IsRangeIter h it (lo + (i : Nat) * 1) ((n : Int) - (i : Nat)) 1) where
  mem := by simp
  obj := fun i h st b hb => by
    have e : b = it := by simpa using hb
    subst e
    exact ⟨_, st, fun v z => by
      have z' : Data.fields _ = Data.cell v := z
      cases z'⟩
  keep := fun i h h' st k => k it (by simp) _ st
  item := by
    intro X hP hw hK hc i pins s σ H E I hf st hg
    subst hP hw hK
    obtain ⟨f0, f1, f2, f3, f4, f5⟩ := hf it (by simp)
    have W := Walks.range (prog := X.prog) (w := X.w) (I.ok.hd hc) it lo 1 n
    refine W.item i s _ _ hg st fun v h' tk hv st' kk => ?_
    obtain ⟨t, rfl⟩ := hv
    have I1 : Inv X pins σ H { s with heap := h', toks := tk } := I.turned (fun b o hb e => kk b o (by simpa using hb) e) f0 f1 f3 f4 f5
    refine ⟨_, rfl, go_of (s := { s with heap := h', toks := tk }) (n := "range_iterator") st' rfl rfl (by decide) ⟨.int (lo + i), H, I1, ⟨t, ?_⟩, ⟨rfl, rfl⟩, st', fun b hb => (hf b hb).1⟩⟩
    rw [Int.mul_one]
  done := by
    intro X hP hw hK hc i pins s σ H E I hf st hg
    subst hP hw hK
    obtain ⟨f0, f1, f2, f3, f4, f5⟩ := hf it (by simp)
    exact wpAny_pyNext_range_end (I.ok.hd hc) st (by have : n ≤ i := hg; omega) fun h' eb => ⟨rfl, I.turned (t' := s.toks) (fun b o hb e => eb b o hb e) f0 f1 f3 f4 f5⟩
  self := fun _ _ _ _ _ st h => wpAny_pyIter_rangeiter st h
end L2

namespace L2
open PySem PySem.Spec PyProof.Rows
section
variable {X : Cx} {tg : Expr}
def iList (K : PySem.W.Frag) (tl : TE) : TI := fun σ H R => tl σ H fun x H1 => ∃ a, x = .ref a ∧ (∃ xs, SqL K H1 a xs) ∧ R (Itl K a) H1
def iTup (K : PySem.W.Frag) (tl : TE) : TI := fun σ H R => tl σ H fun x H1 => ∃ a, x = .ref a ∧ (∃ xs, SqT K H1 a xs) ∧ R (Itt K a) H1
theorem pi_list {l : Expr} {tl : TE} (hl : PE X l tl) : PI X tg l (iList X.K tl) := by
  intro pins s σ H R I h
  refine thn (hl pins s σ H _ I h) fun v s1 ⟨x, H1, I1, r1, q1⟩ => ?_
  obtain ⟨a, e, ⟨xs, hq⟩, q⟩ := q1
  subst e
  cases r1
  obtain ⟨its, rv, p, hz⟩ := I1.list hq
  refine wpAny_pyIter_list p.isList ?_
  refine ⟨s1.heap.objs.size, [s1.heap.objs.size], _, _, H1, rfl, I1.kept (t' := s1.toks) fun b o e => Heap.get?_push_of_some _ e, turn_list a _, ⟨_, Heap.get?_push_size _ rfl, rfl, rfl⟩, fun b hb => ?_, q⟩
  have e : b = s1.heap.objs.size := by simpa using hb
  subst e
  exact I1.fpOk (Nat.le_refl _) (I1.hok.fresh (Nat.le_refl _))
theorem pi_tup {l : Expr} {tl : TE} (hl : PE X l tl) : PI X tg l (iTup X.K tl) := by
  intro pins s σ H R I h
  refine thn (hl pins s σ H _ I h) fun v s1 ⟨x, H1, I1, r1, q1⟩ => ?_
  obtain ⟨a, e, ⟨xs, hq⟩, q⟩ := q1
  subst e
  cases r1
  obtain ⟨its, rv, p, hz⟩ := I1.tuple hq
  refine wpAny_pyIter_tuple (show s1.heap.IsTuple a its.toArray from p) ?_
  refine ⟨s1.heap.objs.size, [s1.heap.objs.size], _, _, H1, rfl, I1.kept (t' := s1.toks) fun b o e => Heap.get?_push_of_some _ e, turn_tuple a _, ⟨_, Heap.get?_push_size _ rfl, rfl, rfl⟩, fun b hb => ?_, q⟩
  have e : b = s1.heap.objs.size := by simpa using hb
  subst e
  exact I1.fpOk (Nat.le_refl _) (I1.hok.fresh (Nat.le_refl _))
/-- a range object just made, walked -/
theorem range_it {pins : List (Addr × Obj)} {σ : St} {H : Hp} {s : Shared} {R : It → Hp → Prop} {E : Value → Shared → Prop} {lo hi : Int} {t u v : Tok} {tk : Nat} (I : Inv X pins σ H s) (h1 : -(2 ^ 62) ≤ lo) (h2 : lo < 2 ^ 62) (h3 : -(2 ^ 62) ≤ hi) (h4 : hi < 2 ^ 62)
    (q : R (Itr lo (hi - lo).toNat) H) : wpAny (model X.prog X.w) X.A (pyIter (.ref s.heap.objs.size)) (PIE X pins σ tg R) E { s with heap := s.heap.push { cls := .type "range", data := .fields #[.int lo t, .int hi u, .int 1 v] }, toks := tk } := by
  refine wpAny_pyIter_range (IsRange.new ..) (small_one h1 h2 h3 h4) ?_
  have I1 : Inv X pins σ H { s with heap := s.heap.push { cls := .type "range", data := .fields #[.int lo t, .int hi u, .int 1 v] }, toks := tk } := I.kept fun b o e => Heap.get?_push_of_some _ e
  refine ⟨(s.heap.push { cls := .type "range", data := .fields #[.int lo t, .int hi u, .int 1 v] }).objs.size, [(s.heap.push { cls := .type "range", data := .fields #[.int lo t, .int hi u, .int 1 v] }).objs.size], _, _, H, rfl,
    I1.kept (t' := tk) fun b o e => Heap.get?_push_of_some _ e, turn_range _ lo (hi - lo).toNat, ?_, fun b hb => ?_, q⟩
  · have e1 : lo + ((0 : Nat) : Int) * 1 = lo := by simp
    have e2 : (((hi - lo).toNat : Nat) : Int) - ((0 : Nat) : Int) = Builtin.Range.rangeSize lo hi 1 := by rw [rangeSize_one]; split <;> omega
    show IsRangeIter _ _ (lo + ((0 : Nat) : Int) * 1) ((((hi - lo).toNat : Nat) : Int) - ((0 : Nat) : Int)) 1
    rw [e1, e2]
    exact Heap.get?_push_size _ rfl
  · have e : b = (s.heap.push { cls := .type "range", data := .fields #[.int lo t, .int hi u, .int 1 v] }).objs.size := by simpa using hb
    subst e
    exact I1.fpOk (Nat.le_refl _) (I1.hok.fresh (Nat.le_refl _))
def iRng1 (ta : TA) : TI := fun σ H R => ta σ H fun vs H1 => ∃ j : Int, vs = [.int j] ∧ -(2 ^ 62) ≤ j ∧ j < 2 ^ 62 ∧ R (Itr 0 j.toNat) H1
def iRng2 (ta : TA) : TI := fun σ H R => ta σ H fun vs H1 => ∃ i j : Int, vs = [.int i, .int j] ∧ (-(2 ^ 62) ≤ i ∧ i < 2 ^ 62 ∧ -(2 ^ 62) ≤ j ∧ j < 2 ^ 62) ∧ R (Itr i (j - i).toNat) H1
theorem pi_range1 {a : Expr} {ta : TA} {p pos : Pos} (hg : Gl X "range") (hm : X.mg "range" = none) (ha : PA X [a] ta) (hs : starEach [a] X.env = [(false, eval a X.env)] := by rfl) : PI X tg (.Call (.Name "range" p) [a] [] pos) (iRng1 ta) := by
  intro pins s σ H R I h
  refine Call_ (ld_blt I hg hm boot_range (PyProof.Rows.callWith_type1 (thn (ha pos pins s σ H _ I h) fun us s1 ⟨vs, H1, I1, r1, q1⟩ => ?_) hs rfl))
  obtain ⟨j, e, q1, q2, q⟩ := q1
  subst e
  cases r1 with
  | cons r rr =>
    cases rr
    obtain ⟨t, rfl⟩ := r
    exact call_range_1 (range_it I1 (by omega) (by omega) q1 q2 (by simpa using q))
theorem pi_range2 {a b : Expr} {ta : TA} {p pos : Pos} (hg : Gl X "range") (hm : X.mg "range" = none) (ha : PA X [a, b] ta) (hs : starEach [a, b] X.env = [(false, eval a X.env), (false, eval b X.env)] := by rfl) (hs2 : starEach [b] X.env = [(false, eval b X.env)] := by rfl) :
    PI X tg (.Call (.Name "range" p) [a, b] [] pos) (iRng2 ta) := by
  intro pins s σ H R I h
  refine Call_ (ld_blt I hg hm boot_range (PyProof.Rows.callWith_type1 (thn (ha pos pins s σ H _ I h) fun us s1 ⟨vs, H1, I1, r1, q1⟩ => ?_) (by rw [hs, hs2]) (by rw [hs2]; rfl)))
  obtain ⟨i, j, e, ⟨q1, q2, q3, q4⟩, q⟩ := q1
  subst e
  cases r1 with
  | cons r rr =>
    cases rr with
    | cons r' rr =>
      cases rr
      obtain ⟨t, rfl⟩ := r
      obtain ⟨t', rfl⟩ := r'
      exact call_range_2 (range_it I1 q1 q2 q3 q4 q)

/-! ### for -/
/-- W: the invariant by the turn and a measure; N: what the body is to reach -/
def tFor (wi : TI) (g : TG) (tb : TS) : TS := fun D σ H => wi σ H fun J H1 => ∃ W : Nat → Nat → St → Hp → Prop, (∃ m, W 0 m σ H1) ∧ ∀ i m σ H, W i m σ H →
  (J.stop i H ∧ D.nx σ H) ∨ (J.go i H ∧ ∃ N : St → Hp → Prop, (∀ σ' H', N σ' H' → ∃ m', m' < m ∧ W (i + 1) m' σ' H') ∧ ∀ x H', J.yld i H x H' → g x σ H' fun σ2 H2 => tb { D with nx := N, ct := N, bk := D.nx } σ2 H2)
/-- the records at fp as they stand -/
def pinsAt (fp : List Addr) (h : Heap) : List (Addr × Obj) := fp.filterMap fun b => (h.get? b).map fun o => (b, o)
theorem mem_pinsAt {fp : List Addr} {h : Heap} {b : Addr} {o : Obj} (hb : b ∈ fp) (e : h.get? b = some o) : (b, o) ∈ pinsAt fp h := List.mem_filterMap.mpr ⟨b, hb, by rw [e]; rfl⟩
theorem of_pinsAt {fp : List Addr} {h : Heap} {p : Addr × Obj} (hp : p ∈ pinsAt fp h) : p.1 ∈ fp ∧ h.get? p.1 = some p.2 := by
  obtain ⟨b, hb, e⟩ := List.mem_filterMap.mp hp
  cases q : h.get? b with
  | none => rw [q] at e; cases e
  | some o =>
    rw [q] at e
    have e' : (b, o) = p := Option.some.inj e
    subst e'
    exact ⟨hb, q⟩
theorem Inv.pinned {pins : List (Addr × Obj)} {σ : St} {H : Hp} {s : Shared} {fp : List Addr} (I : Inv X pins σ H s) (hf : ∀ b ∈ fp, FpOk X pins H b) (ho : ∀ b ∈ fp, ∃ o, s.heap.get? b = some o ∧ ∀ v, o.data ≠ .cell v) : Inv X (pins ++ pinsAt fp s.heap) σ H s :=
  I.pins_of fun p hp => (List.mem_append.mp hp).elim (fun z => I.pin p (List.mem_append_right _ z)) fun z => by
    obtain ⟨hb, e⟩ := of_pinsAt z
    obtain ⟨f0, f1, f2, _⟩ := hf p.1 hb
    obtain ⟨o, e', d⟩ := ho p.1 hb
    rw [e] at e'; cases e'
    exact ⟨e, f0, f1, f2, d⟩
theorem Inv.unpinned {pins pl : List (Addr × Obj)} {σ : St} {H : Hp} {s : Shared} (I : Inv X (pins ++ pl) σ H s) : Inv X pins σ H s := I.pins_of fun p hp => I.pin p (List.mem_append_right _ (List.mem_append_left _ hp))
theorem ps_for {iter : Expr} {body : List Stmt} {wi : TI} {g : TG} {tb : TS} {pos : Pos} (hp : PassesOwn (model X.prog X.w) X.A X.env X.xe) (hc : X.calm = true) (hi : PI X tg iter wi) (hg : PG X tg g) (hb : PSs X body tb)
    (hs : ∀ x, foldedSetIterable iter X.env x = pure x := by intro _; rfl) : PS X (.For tg iter body [] pos) (tFor wi g tb) := by
  intro pins s σ H D I h
  refine wpAny_For (thn (hi pins s σ H _ I h) fun v s1 h1 => thn h1 fun itv s2 h2 => ?_) hs
  obtain ⟨it, fp, tn, J, H2, e, I2, T, st2, f2, W, ⟨m0, w0⟩, turn⟩ := h2
  subst e
  -- what stays true of the iterator's objects through the loop
  have stat : ∀ {H' : Hp}, (∀ b ∈ fp, H' b = none) → ∀ b ∈ fp, FpOk X pins H' b := fun hn b hb => ⟨hn b hb, (f2 b hb).2⟩
  refine codeAny_forLoop_any (fun n s' => ∃ i σ' H', Inv X pins σ' H' s' ∧ tn i s'.heap ∧ (∀ b ∈ fp, H' b = none) ∧ W i n σ' H') ?_ m0 ⟨0, σ, H2, I2, st2, fun b hb => (f2 b hb).1, w0⟩
  rintro n s3 ⟨i, σ3, H3, I3, st3, fr3, w3⟩
  rcases turn i n σ3 H3 w3 with ⟨stop, qn⟩ | ⟨go, N, hN, step⟩
  · refine wpAny_passesOwn hp (thn (T.done X rfl rfl rfl hc i pins s3 σ3 H3 X.xe I3 (stat fr3) st3 stop) fun r s4 ⟨hr, I4⟩ => ?_)
    subst hr
    exact wpAny_execs_nil ⟨σ3, H3, I4, qn⟩
  · refine wpAny_passesOwn hp (thn (T.item X rfl rfl rfl hc i pins s3 σ3 H3 X.xe I3 (stat fr3) st3 go) fun r s4 ⟨u, hr, h4⟩ => ?_)
    subst hr
    refine wpAny_passesOwn hp (thn h4 fun _ s5 ⟨x, H5, I5, r5, y5, st5, fr5⟩ => ?_)
    have I5' := I5.pinned (stat fr5) (T.obj _ _ st5)
    refine wpAny_passesOwn hp (thn (hg _ s5 σ3 H5 x u _ I5' r5 (step x H5 y5)) fun _ s6 ⟨σ6, H6, I6, q6⟩ => ?_)
    refine wpAny_passesOwn hp (thn (hb _ s6 σ6 H6 _ I6 q6) fun f s7 q7 => ?_)
    have again : ∀ {σ7 : St} {H7 : Hp}, Inv X (pins ++ pinsAt fp s5.heap) σ7 H7 s7 → N σ7 H7 → ∃ m, m < n ∧ ∃ i σ' H', Inv X pins σ' H' s7 ∧ tn i s7.heap ∧ (∀ b ∈ fp, H' b = none) ∧ W i m σ' H' := fun {σ7 H7} I7 n7 => by
      obtain ⟨m', hm, w7⟩ := hN σ7 H7 n7
      refine ⟨m', hm, i + 1, σ7, H7, I7.unpinned, T.keep _ _ _ st5 fun b hb o e => (I7.pin (b, o) (List.mem_append_right _ (List.mem_append_right _ (mem_pinsAt hb e)))).1, fun b hb => ?_, w7⟩
      obtain ⟨o, e, d⟩ := T.obj _ _ st5 b hb
      exact (I7.pin (b, o) (List.mem_append_right _ (List.mem_append_right _ (mem_pinsAt hb e)))).2.1
    cases f with
    | next => obtain ⟨σ7, H7, I7, n7⟩ := q7; exact again I7 n7
    | cont => obtain ⟨σ7, H7, I7, n7⟩ := q7; exact again I7 n7
    | brk => obtain ⟨σ7, H7, I7, q7⟩ := q7; exact ⟨σ7, H7, I7.unpinned, q7⟩
    | ret v => obtain ⟨x7, σ7, H7, I7, r7, q7⟩ := q7; exact ⟨x7, σ7, H7, I7.unpinned, r7, q7⟩
end

/-! ### the forms one uses -/
theorem for_tup {K : PySem.W.Frag} {a : Addr} {xs : List V} {g : TG} {tb : TS} {D : Ends} {σ : St} {H : Hp} (Pv : Nat → St → Hp → Prop) (h0 : Pv 0 σ H) (hl : ∀ i σ H, i ≤ xs.length → Pv i σ H → SqT K H a xs)
    (hs : ∀ i x σ H, xs[i]? = some x → Pv i σ H → g x σ H fun σ2 H2 => tb { D with nx := Pv (i + 1), ct := Pv (i + 1), bk := D.nx } σ2 H2) (hd : ∀ σ H, Pv xs.length σ H → D.nx σ H) :
    ∃ W : Nat → Nat → St → Hp → Prop, (∃ m, W 0 m σ H) ∧ ∀ i m σ H, W i m σ H →
      ((Itt K a).stop i H ∧ D.nx σ H) ∨ ((Itt K a).go i H ∧ ∃ N : St → Hp → Prop, (∀ σ' H', N σ' H' → ∃ m', m' < m ∧ W (i + 1) m' σ' H') ∧ ∀ x H', (Itt K a).yld i H x H' → g x σ H' fun σ2 H2 => tb { D with nx := N, ct := N, bk := D.nx } σ2 H2) := by
  refine ⟨fun i m σ H => m = xs.length - i ∧ i ≤ xs.length ∧ Pv i σ H, ⟨xs.length, by simp, Nat.zero_le _, h0⟩, ?_⟩
  rintro i m σ H ⟨rfl, hi, p⟩
  have q := hl i σ H hi p
  by_cases hlt : i < xs.length
  · refine .inr ⟨⟨xs, xs[i], q, by simp [hlt]⟩, Pv (i + 1), fun σ' H' p' => ⟨xs.length - (i + 1), by omega, rfl, hlt, p'⟩, fun x H' y => ?_⟩
    obtain ⟨e, y⟩ := y
    subst e
    exact hs i x σ _ (y xs q) p
  · have e : i = xs.length := by omega
    subst e
    exact .inl ⟨⟨xs, q, Nat.le_refl _⟩, hd σ H p⟩
theorem for_range {lo : Int} {n : Nat} {g : TG} {tb : TS} {D : Ends} {σ : St} {H : Hp} (Pv : Nat → St → Hp → Prop) (h0 : Pv 0 σ H)
    (hs : ∀ i σ H, i < n → Pv i σ H → g (.int (lo + i)) σ H fun σ2 H2 => tb { D with nx := Pv (i + 1), ct := Pv (i + 1), bk := D.nx } σ2 H2) (hd : ∀ σ H, Pv n σ H → D.nx σ H) :
    ∃ W : Nat → Nat → St → Hp → Prop, (∃ m, W 0 m σ H) ∧ ∀ i m σ H, W i m σ H →
      ((Itr lo n).stop i H ∧ D.nx σ H) ∨ ((Itr lo n).go i H ∧ ∃ N : St → Hp → Prop, (∀ σ' H', N σ' H' → ∃ m', m' < m ∧ W (i + 1) m' σ' H') ∧ ∀ x H', (Itr lo n).yld i H x H' → g x σ H' fun σ2 H2 => tb { D with nx := N, ct := N, bk := D.nx } σ2 H2) := by
  refine ⟨fun i m σ H => m = n - i ∧ i ≤ n ∧ Pv i σ H, ⟨n, by simp, Nat.zero_le _, h0⟩, ?_⟩
  rintro i m σ H ⟨rfl, hi, p⟩
  by_cases hlt : i < n
  · refine .inr ⟨hlt, Pv (i + 1), fun σ' H' p' => ⟨n - (i + 1), by omega, rfl, hlt, p'⟩, fun x H' y => ?_⟩
    obtain ⟨e, y⟩ := y
    subst e y
    exact hs i σ _ hlt p
  · have e : i = n := by omega
    subst e
    exact .inl ⟨Nat.le_refl _, hd σ H p⟩
/-- while, by a word and a measure of the state -/
theorem while_by {c : TT} {tb : TS} {D : Ends} {σ : St} {H : Hp} (Pv : St → Hp → Prop) (μ : St → Hp → Nat) (h0 : Pv σ H)
    (hs : ∀ σ H, Pv σ H → c σ H fun b H1 => if b = true then tb { D with nx := fun σ' H' => Pv σ' H' ∧ μ σ' H' < μ σ H, ct := fun σ' H' => Pv σ' H' ∧ μ σ' H' < μ σ H, bk := D.nx } σ H1 else D.nx σ H1)
    (mono : ∀ σ H Q Q', (∀ b H1, Q b H1 → Q' b H1) → c σ H Q → c σ H Q') : tWhile c tb D σ H := by
  refine ⟨fun m σ H => m = μ σ H ∧ Pv σ H, ⟨_, rfl, h0⟩, ?_⟩
  rintro m σ H ⟨rfl, p⟩
  refine mono σ H _ _ (fun b H1 q => ?_) (hs σ H p)
  cases b with
  | true => exact ⟨_, fun σ' H' ⟨p', l⟩ => ⟨_, l, rfl, p'⟩, q⟩
  | false => exact q
end L2

namespace L2
open PySem PySem.Spec PyProof.Rows

abbrev R2 := V → V → Hp → VK → Prop
/-- a two-place operation on values: f is binaryOp op, inplaceOp op or compareOp op -/
def OpR (X : Cx) (f : Value → Value → Sem Value) (r : R2) : Prop :=
  ∀ (pins : List (Addr × Obj)) (s : Shared) (σ : St) (H : Hp) (x y : V) (v u : Value) (Q : VK), Inv X pins σ H s → RelV x v → RelV y u → r x y H Q →
    wpAny (model X.prog X.w) X.A (f v u) (EP X pins σ Q) X.xe s
/-- a one-place operation -/
def UnR (X : Cx) (f : Value → Sem Value) (r : V → Hp → VK → Prop) : Prop :=
  ∀ (pins : List (Addr × Obj)) (s : Shared) (σ : St) (H : Hp) (x : V) (v : Value) (Q : VK), Inv X pins σ H s → RelV x v → r x H Q →
    wpAny (model X.prog X.w) X.A (f v) (EP X pins σ Q) X.xe s
/-- a call of a value that is known (a builtin, a type) with values -/
def CallR (X : Cx) (f : Value) (r : List V → Hp → VK → Prop) : Prop :=
  ∀ (pins : List (Addr × Obj)) (s : Shared) (σ : St) (H : Hp) (xs : List V) (us : List Value) (Q : VK), Inv X pins σ H s → Vals xs us → r xs H Q →
    wpAny (model X.prog X.w) X.A (call f us) (EP X pins σ Q) X.xe s
/-- a value's truth -/
def TruR (X : Cx) (r : V → Hp → (Bool → Hp → Prop) → Prop) : Prop :=
  ∀ (pins : List (Addr × Obj)) (s : Shared) (σ : St) (H : Hp) (x : V) (v : Value) (Q : Bool → Hp → Prop), Inv X pins σ H s → RelV x v → r x H Q →
    wpAny (model X.prog X.w) X.A (truthy v) (TP X pins σ Q) X.xe s

def tOp (r : R2) (ta tb : TE) : TE := fun σ H Q => ta σ H fun x H1 => tb σ H1 fun y H2 => r x y H2 Q
def tUn (r : V → Hp → VK → Prop) (ta : TE) : TE := fun σ H Q => ta σ H fun x H1 => r x H1 Q
/-- ints in, under C, and a value out -/
def rI (C : Int → Int → Prop) (g : Int → Int → V) : R2 := fun x y H Q => ∃ i j, x = .int i ∧ y = .int j ∧ C i j ∧ Q (g i j) H
def rI0 (g : Int → Int → V) : R2 := fun x y H Q => ∃ i j, x = .int i ∧ y = .int j ∧ Q (g i j) H
def rU (g : Int → V) : V → Hp → VK → Prop := fun x H Q => ∃ i, x = .int i ∧ Q (g i) H

section
variable {X : Cx} {a b c : Expr} {ta tb tc : TE} {pos : Pos}

theorem binT (ha : PE X a ta) (hb : PE X b tb) {pins : List (Addr × Obj)} {s : Shared} {σ : St} {H : Hp} {R : V → V → Hp → Prop} (I : Inv X pins σ H s)
    (h : ta σ H fun x H1 => tb σ H1 fun y H2 => R x y H2) {Q : Value → Shared → Prop} {f : Value → Value → Sem Value}
    (hf : ∀ v u s2 x y H2, Inv X pins σ H2 s2 → RelV x v → RelV y u → R x y H2 → wpAny (model X.prog X.w) X.A (f v u) Q X.xe s2) :
    wpAny (model X.prog X.w) X.A (eval a X.env) (fun v s₁ => wpAny (model X.prog X.w) X.A (eval b X.env) (fun u s₂ => wpAny (model X.prog X.w) X.A (f v u) Q X.xe s₂) X.xe s₁) X.xe s := by
  refine thn (ha pins s σ H _ I h) fun v s1 ⟨x, H1, I1, r1, q1⟩ => ?_
  refine thn (hb pins s1 σ H1 _ I1 q1) fun u s2 ⟨y, H2, I2, r2, q2⟩ => ?_
  exact hf v u s2 x y H2 I2 r1 r2 q2

theorem pe_op {op : Operator} {r : R2} (ho : OpR X (binaryOp op) r) (ha : PE X a ta) (hb : PE X b tb) : PE X (.BinOp a op b pos) (tOp r ta tb) := by
  intro pins s σ H Q I h
  exact wpAny_BinOp (binT ha hb I h fun v u s2 x y H2 I2 rx ry q => ho pins s2 σ H2 x y v u Q I2 rx ry q)
theorem pe_un {op : UnaryOp} {r : V → Hp → VK → Prop} (ho : UnR X (unaryOp op) r) (ha : PE X a ta) : PE X (.UnaryOp op a pos) (tUn r ta) := by
  intro pins s σ H Q I h
  exact UnaryOp_ (thn (ha pins s σ H _ I h) fun v s1 ⟨x, H1, I1, r1, q1⟩ => ho pins s1 σ H1 x v Q I1 r1 q1)
/-! ### ints -/
theorem opI {f : Value → Value → Sem Value} {C : Int → Int → Prop} {g : Int → Int → Int}
    (rule : ∀ (i j : Int) (t u : Tok) (s : Shared) (Q : Value → Shared → Prop) (E : Value → Shared → Prop), C i j → Q (.int (g i j) s.toks) { s with toks := s.toks + 1 } → wpAny (model X.prog X.w) X.A (f (.int i t) (.int j u)) Q E s) :
    OpR X f (rI C fun i j => .int (g i j)) := by
  intro pins s σ H x y v u Q I rx ry h
  obtain ⟨i, j, rfl, rfl, hc, q⟩ := h
  obtain ⟨t, rfl⟩ := rx
  obtain ⟨t', rfl⟩ := ry
  exact rule i j t t' s _ _ hc ⟨.int (g i j), H, I.tok _, ⟨_, rfl⟩, q⟩
theorem opI0 {f : Value → Value → Sem Value} {g : Int → Int → Int}
    (rule : ∀ (i j : Int) (t u : Tok) (s : Shared) (Q : Value → Shared → Prop) (E : Value → Shared → Prop), Q (.int (g i j) s.toks) { s with toks := s.toks + 1 } → wpAny (model X.prog X.w) X.A (f (.int i t) (.int j u)) Q E s) :
    OpR X f (rI0 fun i j => .int (g i j)) := by
  intro pins s σ H x y v u Q I rx ry h
  obtain ⟨i, j, rfl, rfl, q⟩ := h
  obtain ⟨t, rfl⟩ := rx
  obtain ⟨t', rfl⟩ := ry
  exact rule i j t t' s _ _ ⟨.int (g i j), H, I.tok _, ⟨_, rfl⟩, q⟩
theorem opB0 {f : Value → Value → Sem Value} {g : Int → Int → Bool}
    (rule : ∀ (i j : Int) (t u : Tok) (s : Shared) (Q : Value → Shared → Prop) (E : Value → Shared → Prop), Q (.bool (g i j)) s → wpAny (model X.prog X.w) X.A (f (.int i t) (.int j u)) Q E s) :
    OpR X f (rI0 fun i j => .bl (g i j)) := by
  intro pins s σ H x y v u Q I rx ry h
  obtain ⟨i, j, rfl, rfl, q⟩ := h
  obtain ⟨t, rfl⟩ := rx
  obtain ⟨t', rfl⟩ := ry
  exact rule i j t t' s _ _ ⟨.bl (g i j), H, I, rfl, q⟩

def CDiv (i j : Int) : Prop := 0 < j ∧ j < 1073741824
def CDivN (i j : Int) : Prop := j ≠ 0 ∧ j.natAbs < 1073741824
def CPow (i j : Int) : Prop := 0 ≤ j ∧ j ≤ 1000000 ∧ i.natAbs < 2 ^ 64
def CMul (i j : Int) : Prop := (-(2 ^ 64) < i ∧ i < 2 ^ 64) ∨ (-(2 ^ 64) < j ∧ j < 2 ^ 64)
theorem CMul.ok {i j : Int} (h : CMul i j) : IntMulOk i j := by
  rcases h with ⟨h1, h2⟩ | ⟨h1, h2⟩
  · exact .of_left (intBits_le_64 h1 h2)
  · exact .of_right (intBits_le_64 h1 h2)
theorem op_add : OpR X (binaryOp .Add) (rI0 fun i j => .int (i + j)) := opI0 fun _ _ _ _ _ _ _ q => add_int q
theorem op_sub : OpR X (binaryOp .Sub) (rI0 fun i j => .int (i - j)) := opI0 fun _ _ _ _ _ _ _ q => sub_int q
theorem op_mul : OpR X (binaryOp .Mult) (rI CMul fun i j => .int (i * j)) := opI fun _ _ _ _ _ _ _ hc q => mul_int q hc.ok
/-- % by a positive divisor of any size -/
theorem op_mod : OpR X (binaryOp .Mod) (rI (fun _ j => 0 < j) fun i j => .int (i % j)) := opI fun i j _ _ _ _ _ hc q => by
  have h1 : (0 : Int) < j := hc
  exact mod_int' (by omega) (by rw [Int.fmod_eq_emod_of_nonneg i (by omega)]; exact q)
theorem op_pow : OpR X (binaryOp .Pow) (rI CPow fun i j => .int (i ^ j.toNat)) := opI fun _ _ _ _ _ _ _ hc q => pow_int_small hc.1 hc.2.1 hc.2.2 q
theorem op_shl : OpR X (binaryOp .LShift) (rI CPow fun i j => .int (i * 2 ^ j.toNat)) := opI fun _ _ _ _ _ _ _ hc q => lshift_int_small hc.1 hc.2.1 hc.2.2 q
theorem unI {f : Value → Sem Value} {g : Int → Int}
    (rule : ∀ (i : Int) (t : Tok) (s : Shared) (Q : Value → Shared → Prop) (E : Value → Shared → Prop), Q (.int (g i) s.toks) { s with toks := s.toks + 1 } → wpAny (model X.prog X.w) X.A (f (.int i t)) Q E s) :
    UnR X f (rU fun i => .int (g i)) := by
  intro pins s σ H x v Q I rx h
  obtain ⟨i, rfl, q⟩ := h
  obtain ⟨t, rfl⟩ := rx
  exact rule i t s _ _ ⟨.int (g i), H, I.tok _, ⟨_, rfl⟩, q⟩
theorem un_neg : UnR X (unaryOp .USub) (rU fun i => .int (-i)) := unI fun _ _ _ _ _ q => neg_int q
/-! ### bools among ints: n += (a < b) -/
end

/-! ### comparisons -/
/-- the scalars that == tells apart as data does -/
def scal : V → V → Bool
  | .non, .non => true | .non, .int _ => true | .int _, .non => true | .non, .bl _ => true | .bl _, .non => true | .non, .str _ => true | .str _, .non => true
  | .int _, .int _ => true | .bl _, .bl _ => true | .str _, .str _ => true | .byt _, .byt _ => true
  | .int _, .str _ => true | .str _, .int _ => true | .bl _, .str _ => true | .str _, .bl _ => true
  | _, _ => false
def rEq : R2 := fun x y H Q => scal x y = true ∧ Q (.bl (decide (x = y))) H
def rNe : R2 := fun x y H Q => scal x y = true ∧ Q (.bl (!decide (x = y))) H

theorem dec_int {i j : Int} : decide (V.int i = V.int j) = (i == j) := by
  rw [Bool.eq_iff_iff]
  simp
theorem dec_bl {i j : Bool} : decide (V.bl i = V.bl j) = (i == j) := by
  rw [Bool.eq_iff_iff]
  simp
theorem dec_str {i j : Str} : decide (V.str i = V.str j) = (i == j) := by
  rw [Bool.eq_iff_iff]
  simp
theorem dec_byt {i j : Array UInt8} : decide (V.byt i = V.byt j) = (i.toList == j.toList) := by
  rw [Bool.eq_iff_iff]
  cases i
  cases j
  simp

section
variable {X : Cx} {a b c : Expr} {ta tb tc : TE} {pos : Pos}
theorem fin_bl {pins : List (Addr × Obj)} {σ : St} {H : Hp} {s : Shared} {Q : VK} {k k' : Bool} (I : Inv X pins σ H s) (q : Q (.bl k) H) (e : k = k') : EP X pins σ Q (.bool k') s := by
  subst e
  exact ⟨.bl k, H, I, rfl, q⟩
theorem op_eq : OpR X (compareOp .Eq) rEq := by
  intro pins s σ H x y v u Q I rx ry h
  obtain ⟨hs, q⟩ := h
  cases x with
  | non =>
    cases rx
    cases y with
    | non => cases ry; exact PySem.EqNone.eq_none_none (fin_bl I q (by simp))
    | bl j => cases ry; exact PySem.EqNone.eq_none_bool (fin_bl I q (by simp))
    | int j => obtain ⟨t', rfl⟩ := ry; exact PySem.EqNone.eq_none_int (fin_bl I q (by simp))
    | str j => obtain ⟨t', rfl⟩ := ry; exact PySem.EqNone.eq_none_str (fin_bl I q (by simp))
    | _ => exact absurd (show false = true from hs) Bool.false_ne_true
  | bl i =>
    cases rx
    cases y with
    | non => cases ry; exact PySem.EqNone.eq_bool_none (fin_bl I q (by simp))
    | bl j => cases ry; exact eq_bool (fin_bl I q dec_bl)
    | str j => obtain ⟨t', rfl⟩ := ry; exact PySem.EqMixed.eq_bool_str (fin_bl I q (by simp))
    | _ => exact absurd (show false = true from hs) Bool.false_ne_true
  | int i =>
    obtain ⟨t, rfl⟩ := rx
    cases y with
    | non => cases ry; exact PySem.EqNone.eq_int_none (fin_bl I q (by simp))
    | int j => obtain ⟨t', rfl⟩ := ry; exact eq_int (fin_bl I q dec_int)
    | str j => obtain ⟨t', rfl⟩ := ry; exact PySem.EqMixed.eq_int_str (fin_bl I q (by simp))
    | _ => exact absurd (show false = true from hs) Bool.false_ne_true
  | str i =>
    obtain ⟨t, rfl⟩ := rx
    cases y with
    | non => cases ry; exact PySem.EqNone.eq_str_none (fin_bl I q (by simp))
    | bl j => cases ry; exact PySem.EqMixed.eq_str_bool (fin_bl I q (by simp))
    | int j => obtain ⟨t', rfl⟩ := ry; exact PySem.EqMixed.eq_str_int (fin_bl I q (by simp))
    | str j => obtain ⟨t', rfl⟩ := ry; exact eq_str (fin_bl I q dec_str)
    | _ => exact absurd (show false = true from hs) Bool.false_ne_true
  | byt i =>
    obtain ⟨t, rfl⟩ := rx
    cases y with
    | byt j => obtain ⟨t', rfl⟩ := ry; exact PySem.W.eq_bytes (fin_bl I q dec_byt)
    | _ => exact absurd (show false = true from hs) Bool.false_ne_true
  | _ => cases y <;> exact absurd (show false = true from hs) Bool.false_ne_true
theorem op_ne : OpR X (compareOp .NotEq) rNe := by
  intro pins s σ H x y v u Q I rx ry h
  obtain ⟨hs, q⟩ := h
  cases x with
  | non =>
    cases rx
    cases y with
    | non => cases ry; exact PySem.EqNone.ne_none_none (fin_bl I q (by simp))
    | bl j => cases ry; exact PySem.EqNone.ne_none_bool (fin_bl I q (by simp))
    | int j => obtain ⟨t', rfl⟩ := ry; exact PySem.EqNone.ne_none_int (fin_bl I q (by simp))
    | str j => obtain ⟨t', rfl⟩ := ry; exact PySem.EqNone.ne_none_str (fin_bl I q (by simp))
    | _ => exact absurd (show false = true from hs) Bool.false_ne_true
  | bl i =>
    cases rx
    cases y with
    | non => cases ry; exact PySem.EqNone.ne_bool_none (fin_bl I q (by simp))
    | bl j => cases ry; exact ne_bool (fin_bl I q (congrArg not dec_bl))
    | str j => obtain ⟨t', rfl⟩ := ry; exact PySem.EqMixed.ne_bool_str (fin_bl I q (by simp))
    | _ => exact absurd (show false = true from hs) Bool.false_ne_true
  | int i =>
    obtain ⟨t, rfl⟩ := rx
    cases y with
    | non => cases ry; exact PySem.EqNone.ne_int_none (fin_bl I q (by simp))
    | int j => obtain ⟨t', rfl⟩ := ry; exact ne_int (fin_bl I q (congrArg not dec_int))
    | str j => obtain ⟨t', rfl⟩ := ry; exact PySem.EqMixed.ne_int_str (fin_bl I q (by simp))
    | _ => exact absurd (show false = true from hs) Bool.false_ne_true
  | str i =>
    obtain ⟨t, rfl⟩ := rx
    cases y with
    | non => cases ry; exact PySem.EqNone.ne_str_none (fin_bl I q (by simp))
    | bl j => cases ry; exact PySem.EqMixed.ne_str_bool (fin_bl I q (by simp))
    | int j => obtain ⟨t', rfl⟩ := ry; exact PySem.EqMixed.ne_str_int (fin_bl I q (by simp))
    | str j => obtain ⟨t', rfl⟩ := ry; exact ne_str (fin_bl I q (congrArg not dec_str))
    | _ => exact absurd (show false = true from hs) Bool.false_ne_true
  | byt i =>
    obtain ⟨t, rfl⟩ := rx
    cases y with
    | byt j => obtain ⟨t', rfl⟩ := ry; exact PySem.W.ne_bytes (fin_bl I q (congrArg not dec_byt))
    | _ => exact absurd (show false = true from hs) Bool.false_ne_true
  | _ => cases y <;> exact absurd (show false = true from hs) Bool.false_ne_true

theorem op_lt : OpR X (compareOp .Lt) (rI0 fun i j => .bl (decide (i < j))) := opB0 fun _ _ _ _ _ _ _ q => lt_int q
theorem op_le : OpR X (compareOp .LtE) (rI0 fun i j => .bl (decide (i ≤ j))) := opB0 fun _ _ _ _ _ _ _ q => le_int q
theorem op_gt : OpR X (compareOp .Gt) (rI0 fun i j => .bl (decide (j < i))) := opB0 fun _ _ _ _ _ _ _ q => gt_int q
theorem op_ge : OpR X (compareOp .GtE) (rI0 fun i j => .bl (decide (j ≤ i))) := opB0 fun _ _ _ _ _ _ _ q => ge_int q
/-- is None, is not None: the right side a value none -/
theorem op_isN : OpR X (compareOp .Is) (fun x y H Q => y = .non ∧ Q (.bl (decide (x = .non))) H) := by
  intro pins s σ H x y v u Q I rx ry h
  obtain ⟨rfl, q⟩ := h
  cases ry
  refine is_none_gen (fin_bl I q ?_)
  cases x <;> first
    | (cases rx; rfl)
    | (obtain ⟨t, rfl⟩ := rx; rfl)
theorem op_notN : OpR X (compareOp .IsNot) (fun x y H Q => y = .non ∧ Q (.bl (!decide (x = .non))) H) := by
  intro pins s σ H x y v u Q I rx ry h
  obtain ⟨rfl, q⟩ := h
  cases ry
  refine isnot_none_gen (fin_bl I q ?_)
  cases x <;> first
    | (cases rx; rfl)
    | (obtain ⟨t, rfl⟩ := rx; rfl)

/-- is, is not of two objects that are tracked lists or instances -/
def isObj : HO → Bool
  | .lst _ => true
  | .ins _ _ _ => true
  | _ => false
theorem nomark (b : Expr) {op : CmpOp} (h : op ≠ .In := by decide) (h2 : op ≠ .NotIn := by decide) : behindInMarks op b = false := by
  have e1 : (op == CmpOp.In) = false := by cases op <;> first | rfl | exact absurd rfl h
  have e2 : (op == CmpOp.NotIn) = false := by cases op <;> first | rfl | exact absurd rfl h2
  cases b <;> simp [behindInMarks, e1, e2]
/-- a comparison as a value; hm: nomark b, or (for in, not in) by with_unfolding_all rfl -/
theorem pe_cmpR {op : CmpOp} {r : R2} (ho : OpR X (compareOp op) r) (ha : PE X a ta) (hb : PE X b tb) (hm : behindInMarks op b = false) : PE X (.Compare a [op] [b] pos) (tOp r ta tb) := by
  intro pins s σ H Q I h
  exact wpAny_Compare1 (binT ha hb I h fun v u s2 x y H2 I2 rx ry q => ho pins s2 σ H2 x y v u Q I2 rx ry q) hm
/-- a reading of a value as a test -/
def tTest (t : TE) : TT := fun σ H Q => t σ H fun x H' => ∃ k, x = .bl k ∧ Q k H'
theorem pt_cmpR {op : CmpOp} {r : R2} (ho : OpR X (compareOp op) r) (ha : PE X a ta) (hb : PE X b tb) (hm : behindInMarks op b = false) : PT X (.Compare a [op] [b] pos) (tTest (tOp r ta tb)) := by
  intro pins s σ H Q I h
  refine wpAny_isTrue_Compare1 (thn (ha pins s σ H _ I h) fun v s1 ⟨x, H1, I1, r1, q1⟩ => thn (hb pins s1 σ H1 _ I1 q1) fun u s2 ⟨y, H2, I2, r2, q2⟩ =>
    thn (ho pins s2 σ H2 x y v u _ I2 r1 r2 q2) fun c s3 ⟨z, H3, I3, r3, k, e, q3⟩ => ?_) hm
  subst e
  cases r3
  exact wpAny_truthy_bool ⟨H3, I3, q3⟩
/-- a op1 b op2 c -/
def tChain (r r' : R2) (ta tb tc : TE) : TE := fun σ H Q => ta σ H fun x H1 => tb σ H1 fun y H2 => r x y H2 fun z H3 => ∃ k, z = .bl k ∧
  (if k = true then tc σ H3 fun w' H4 => r' y w' H4 Q else Q (.bl false) H3)
theorem pt_chain {op op' : CmpOp} {r r' : R2} (ho : OpR X (compareOp op) r) (ho' : OpR X (compareOp op') r') (ha : PE X a ta) (hb : PE X b tb) (hc : PE X c tc)
    (hm : lastMarks [op, op'] [b, c] = false := by with_unfolding_all rfl) : PT X (.Compare a [op, op'] [b, c] pos) (tTest (tChain r r' ta tb tc)) := by
  intro pins s σ H Q I h
  refine isTrue_chain (thn (ha pins s σ H _ I h) fun v s1 ⟨x, H1, I1, r1, q1⟩ => test_link (thn (hb pins s1 σ H1 _ I1 q1) fun u s2 ⟨y, H2, I2, r2, q2⟩ =>
    thn (ho pins s2 σ H2 x y v u _ I2 r1 r2 q2) fun d s3 ⟨z, H3, I3, r3, k, e, q3⟩ => ?_)) hm
  subst e
  cases r3
  refine wpAny_truthy_bool ?_
  cases k with
  | false =>
    obtain ⟨k', e', q'⟩ := q3
    cases e'
    exact ite_ff ⟨H3, I3, q'⟩
  | true =>
    refine ite_tt (test_last (thn (hc pins s3 σ H3 _ I3 q3) fun w' s4 ⟨z', H4, I4, r4, q4⟩ => thn (ho' pins s4 σ H4 y z' u w' _ I4 r2 r4 q4) fun d' s5 ⟨z2, H5, I5, r5, k2, e2, q5⟩ => ?_))
    subst e2
    cases r5
    exact wpAny_truthy_bool ⟨H5, I5, q5⟩

/-! ### truth -/
/-- a value's truth by the abstract heap -/
def TruV (K : PySem.W.Frag) (x : V) (H : Hp) (k : Bool) : Prop :=
  match x with
  | .non => k = false
  | .bl b => k = b
  | .int i => k = (i != 0)
  | .str y => y.length ≤ sizeLine ∧ k = ((y.length : Int) != 0)
  | .byt y => y.size ≤ sizeLine ∧ k = ((y.size : Int) != 0)
  | .ref p => (∃ xs, SqL K H p xs ∧ k = !xs.isEmpty) ∨ (∃ xs, SqT K H p xs ∧ k = !xs.isEmpty) ∨ ∃ kvs, H p = some (.dK kvs) ∧ k = !kvs.isEmpty
  | _ => False
theorem line63 : (sizeLine : Nat) < 2 ^ 63 := by rw [sizeLine_eq]; decide
/-! ### strs and bytes -/
def PlainIxT (b : Expr) : Prop := ∀ o i, subscripted b false o i = operate [o, i] (getItem o i)
/-! ### scalar builtins, by CallR -/
theorem vals1 {x : V} {us : List Value} (r : Vals [x] us) : ∃ u, us = [u] ∧ RelV x u := by
  cases r with
  | cons r1 r2 => cases r2; exact ⟨_, rfl, r1⟩
theorem vals2 {x y : V} {us : List Value} (r : Vals [x, y] us) : ∃ u w', us = [u, w'] ∧ RelV x u ∧ RelV y w' := by
  cases r with
  | cons r1 r2 =>
    cases r2 with
    | cons r3 r4 => cases r4; exact ⟨_, _, rfl, r1, r3⟩
theorem call_max2 (hc : X.calm = true) : CallR X (.builtin "max") (fun xs H Q => ∃ i j, xs = [.int i, .int j] ∧ Q (.int (if j > i then j else i)) H) := by
  intro pins s σ H xs us Q I r h
  obtain ⟨i, j, rfl, q⟩ := h
  obtain ⟨u, w', rfl, ⟨t, rfl⟩, ⟨t', rfl⟩⟩ := vals2 r
  refine max_two_ints (I.ok.hd hc) fun h' tk k => ⟨_, H, I.kept k, ?_, q⟩
  by_cases hj : j > i
  · rw [if_pos hj, if_pos hj]; exact ⟨_, rfl⟩
  · rw [if_neg hj, if_neg hj]; exact ⟨_, rfl⟩
theorem call_min2 (hc : X.calm = true) : CallR X (.builtin "min") (fun xs H Q => ∃ i j, xs = [.int i, .int j] ∧ Q (.int (if j < i then j else i)) H) := by
  intro pins s σ H xs us Q I r h
  obtain ⟨i, j, rfl, q⟩ := h
  obtain ⟨u, w', rfl, ⟨t, rfl⟩, ⟨t', rfl⟩⟩ := vals2 r
  refine min_two_ints (I.ok.hd hc) fun h' tk k => ⟨_, H, I.kept k, ?_, q⟩
  by_cases hj : j < i
  · rw [if_pos hj, if_pos hj]; exact ⟨_, rfl⟩
  · rw [if_neg hj, if_neg hj]; exact ⟨_, rfl⟩
theorem call_int1 : CallR X (.type "int") (fun xs H Q => (∃ i, xs = [.int i] ∧ Q (.int i) H) ∨ ∃ k, xs = [.bl k] ∧ Q (.int (if k then 1 else 0)) H) := by
  intro pins s σ H xs us Q I r h
  rcases h with ⟨i, rfl, q⟩ | ⟨k, rfl, q⟩
  · obtain ⟨u, rfl, t, rfl⟩ := vals1 r
    exact call_int_int ⟨.int i, H, I, ⟨_, rfl⟩, q⟩
  · obtain ⟨u, rfl, r1⟩ := vals1 r
    cases r1
    exact call_int_bool ⟨.int (if k then 1 else 0), H, I.tok _, ⟨_, rfl⟩, q⟩
/-- len of a str, a bytes, a list, a tuple -/
def LenV (K : PySem.W.Frag) (x : V) (H : Hp) (n : Nat) : Prop :=
  match x with
  | .str y => y.length ≤ sizeLine ∧ n = y.length
  | .byt y => y.size ≤ sizeLine ∧ n = y.size
  | .ref p => (∃ xs, SqL K H p xs ∧ n = xs.length) ∨ ∃ xs, SqT K H p xs ∧ n = xs.length
  | _ => False
end
end L2

namespace L2
open PySem PySem.Spec PyProof.Rows

/-! ### an instance, its attributes a map -/
structure ObjM (h : Heap) (x dx C : Addr) (mA : Str → Option Value) : Prop where
  obj : h.get? x = some (PySem.W.instObj C dx)
  ns : h.Ns1 dx mA
  ne : dx ≠ x

section
variable {prog : Program} {w : World} {A : Around} {E : Value → Shared → Prop} {s : Shared} {K : PySem.W.Frag} {x dx C f : Addr} {mA : Str → Option Value} {name : Str} {v : Value}

end

/-! ### the attributes as a list of pairs -/
def putF (f : Str) (v : V) : List (Str × V) → List (Str × V)
  | [] => [(f, v)]
  | (g, x) :: r => if g = f then (g, v) :: r else (g, x) :: putF f v r
section
variable {P : Program} {w : World} {H H' : Hp} {h h' : Heap} {a C dx : Addr} {fs fs' : List (Str × V)}
end

/-! ### what of the text a class must have -/
structure Cls (K : PySem.W.Frag) (C : Addr) : Prop where
  pg : PySem.W.plainGet K C Str.empty = true
  hd : PySem.W.hasDictIn K C = true
  po : PySem.W.plainOver K C = true
  sa : PySem.W.findIn K (.ref C) "__setattr__" = some (some (.builtin "object.__setattr__"))
/-- no class of it has the name -/
def NoAttr (K : PySem.W.Frag) (C : Addr) (f : Str) : Prop := PySem.W.findIn K (.ref C) f = some none
/-- a constant of the class -/
structure Con (K : PySem.W.Frag) (C : Addr) (f : Str) (v : V) (u : Value) : Prop where
  at_ : PySem.W.findIn K (.ref C) f = some (some u)
  rel : RelV v u
  get : PySem.W.specialIn K u "__get__" = some none
  cp : PySem.W.copiedNames.contains f = false
/-- a method: a plain def of the class or of one above it -/
structure Meth (K : PySem.W.Frag) (C : Addr) (m : Str) (f : Addr) : Prop where
  at_ : PySem.W.findIn K (.ref C) m = some (some (.ref f))
  fn : PySem.W.isFn K (.ref f) = true
  kp : PySem.W.keepIn K (.ref f) = true

section
variable {X : Cx} {pins : List (Addr × Obj)} {σ : St} {H : Hp} {s : Shared} {a C dx : Addr} {fs : List (Str × V)} {f : Str} {v : V} {A : Around} {E : Value → Shared → Prop}

end

/-! ### readings and rules -/
/-- e.f, an attribute of the instance -/
def tFld (K : PySem.W.Frag) (ta : TE) (f : Str) : TE := fun σ H Q => ta σ H fun x H1 => ∃ a C dx fs v, x = .ref a ∧ H1 a = some (.ins C dx fs) ∧ Cls K C ∧ NoAttr K C f ∧ fs.lookup f = some v ∧ Q v H1
/-- e.f, a constant of the class -/
def tCon (K : PySem.W.Frag) (ta : TE) (f : Str) : TE := fun σ H Q => ta σ H fun x H1 => ∃ a C dx fs v u, x = .ref a ∧ H1 a = some (.ins C dx fs) ∧ Cls K C ∧ Con K C f v u ∧ fs.lookup f = none ∧ Q v H1
/-- e.f = value -/
def sFld (K : PySem.W.Frag) (ta tv : TE) (f : Str) : TS := fun D σ H => tv σ H fun y H1 => ta σ H1 fun x H2 => ∃ a C dx fs, x = .ref a ∧ H2 a = some (.ins C dx fs) ∧ Cls K C ∧ NoAttr K C f ∧ fs.length < 1000 ∧
  D.nx σ (upd H2 a (.ins C dx (putF f y fs)))
/-- an augmented operator on two values -/
def InOp (X : Cx) (op : Operator) (rd : V → V → Hp → VK → Prop) : Prop :=
  ∀ (pins : List (Addr × Obj)) (s : Shared) (σ : St) (H : Hp) (x y : V) (u v : Value) (Q : VK), Inv X pins σ H s → RelV x u → RelV y v → rd x y H Q → wpAny (model X.prog X.w) X.A (inplaceOp op u v) (EP X pins σ Q) X.xe s
/-- e.f op= value -/
def sFldAug (K : PySem.W.Frag) (ta tv : TE) (rd : V → V → Hp → VK → Prop) (f : Str) : TS := fun D σ H => ta σ H fun x H1 => ∃ a C dx fs v, x = .ref a ∧ H1 a = some (.ins C dx fs) ∧ Cls K C ∧ NoAttr K C f ∧ fs.lookup f = some v ∧
  tv σ H1 fun y H2 => rd v y H2 fun z H3 => ∃ dx' fs', H3 a = some (.ins C dx' fs') ∧ fs'.length < 1000 ∧ D.nx σ (upd H3 a (.ins C dx' (putF f z fs')))

section
variable {X : Cx} {o e value : Expr} {f : Str} {pos pos' tpos : Pos} {ta tv : TE}
def rAdd : V → V → Hp → VK → Prop := fun x y H Q => ∃ i j, x = .int i ∧ y = .int j ∧ Q (.int (i + j)) H
def rSub : V → V → Hp → VK → Prop := fun x y H Q => ∃ i j, x = .int i ∧ y = .int j ∧ Q (.int (i - j)) H
end

/-! ### isinstance -/
section
variable {X : Cx} {pins : List (Addr × Obj)} {σ : St} {H : Hp} {s : Shared} {A : Around} {E : Value → Shared → Prop} {Q : Value → Shared → Prop} {c : Value} {b : Bool}
/-- the type of a value, as the fragment's deciders take it; for an instance its class -/
inductive TyOf (K : PySem.W.Frag) (H : Hp) : V → Value → Prop where
  | non : TyOf K H .non (.type "NoneType")
  | bl (x : Bool) : TyOf K H (.bl x) (.type "bool")
  | int (i : Int) : TyOf K H (.int i) (.type "int")
  | str (x : Str) : TyOf K H (.str x) (.type "str")
  | flt (x : UInt64) : TyOf K H (.flt x) (.type "float")
  | lst {a : Addr} {xs : List V} (e : H a = some (.lst xs)) : TyOf K H (.ref a) (.type "list")
  | frz {a : Addr} {o : Obj} {xs : List V} (e : H a = some (.frz o (.lst xs))) : TyOf K H (.ref a) (.type "list")
  | tup {a : Addr} {xs : List V} (e : H a = some (.tup xs)) : TyOf K H (.ref a) (.type "tuple")
  | dK {a : Addr} {kvs : List (Key × V)} (e : H a = some (.dK kvs)) : TyOf K H (.ref a) (.type "dict")
  | dT {a : Addr} {kvs : List (List Key × V)} (e : H a = some (.dT kvs)) : TyOf K H (.ref a) (.type "dict")
  | ins {a C dx : Addr} {fs : List (Str × V)} (e : H a = some (.ins C dx fs)) (cl : Cls K C) (ha : PySem.W.findIn K (.ref C) "__class__" = some (some (.builtin "object.__class__")))
      (hn : PySem.W.specialIn K (.builtin "object.__class__") "__get__" = some (some (.builtin "getset_descriptor.__get__"))) (htk : PySem.W.takesIn K (.builtin "object.__class__") = some true)
      (hm : PySem.W.mroIn K C (.type "object") = some true) : TyOf K H (.ref a) (.ref C)
end
end L2

namespace L2
open PySem PySem.Spec PyProof.Rows

/-! ### room -/
structure Room (k : Nat) (A : Around) : Prop where
  hd : A.handled = none
  dp : A.depth + 3 * k + 5 < recursionLimit
  un : A.units + 16 * k + 200 < cLine
theorem Room.mono {j k : Nat} {A : Around} (r : Room k A) (h : j ≤ k) : Room j A := ⟨r.hd, by have := r.dp; omega, by have := r.un; omega⟩
theorem Room.deeper {k : Nat} {A : Around} (r : Room (k + 1) A) (env : Env) : Room k (A.deeper env) :=
  ⟨r.hd, by have := r.dp; show A.depth + 1 + 3 * k + 5 < _; omega, by have := r.un; show A.units + 3 + 16 * k + 200 < _; omega⟩
theorem Room.depth {k : Nat} {A : Around} (r : Room k A) : A.depth < recursionLimit := by have := r.dp; omega
theorem Room.units {k : Nat} {A : Around} (r : Room k A) : A.units + 64 < cLine := by have := r.un; omega
/-! ### argument lists and displays -/
def tNil : TA := fun _ H Q => Q [] H
def tCons (ta : TE) (tr : TA) : TA := fun σ H Q => ta σ H fun x H1 => tr σ H1 fun xs H2 => Q (x :: xs) H2
section
variable {X : Cx} {e : Expr} {es : List Expr} {te : TE} {t : TA} {pos : Pos}
theorem pa_nil : PA X [] tNil := fun _ _ _ _ H Q I h => Calls.spliced_nil ⟨[], H, I, .nil, h⟩
theorem pa_cons (ha : PE X e te) (hr : PA X es t) (hs : starEach (e :: es) X.env = (false, eval e X.env) :: starEach es X.env := by rfl) : PA X (e :: es) (tCons te t) := by
  intro pos pins s σ H Q I h
  rw [hs]
  show wpAny _ _ (spliced ((false, eval e X.env) :: backTo pos (starEach es X.env))) _ _ s
  refine Calls.spliced_cons (thn (ha pins s σ H _ I h) fun u s1 ⟨x, H1, I1, r1, q1⟩ => ?_)
  exact thn (hr pos pins s1 σ H1 _ I1 q1) fun us s2 ⟨xs, H2, I2, r2, q2⟩ => ⟨x :: xs, H2, I2, .cons r1 r2, q2⟩

/-- a tuple, a list of written items -/
def tTup (t : TA) : TE := fun σ H Q => t σ H fun xs H1 => xs.length ≤ sizeLine ∧ ∀ p, H1 p = none → Q (.ref p) (upd H1 p (.tup xs))
def tLst (t : TA) : TE := fun σ H Q => t σ H fun xs H1 => xs.length ≤ sizeLine ∧ ∀ p, H1 p = none → Q (.ref p) (upd H1 p (.lst xs))
theorem pe_tup {x1} (h : PA X es t) : PE X (.Tuple es x1 pos) (tTup t) := by
  intro pins s σ H Q I hq
  refine wpAny_Tuple_spliced (thn (h pos pins s σ H _ I hq) fun us s1 ⟨xs, H1, I1, r, z, q⟩ => ⟨by rw [← r.length]; exact z, ?_⟩)
  have hf : H1 s1.heap.objs.size = none := I1.hok.fresh (Nat.le_refl _)
  refine ⟨.ref s1.heap.objs.size, upd H1 s1.heap.objs.size (.tup xs), I1.laid (t' := s1.toks) (fun b u e => Heap.get?_push_of_some _ e) (Nat.le_refl _) ?_, rfl, q _ hf⟩
  exact ⟨z, us, r, ⟨_, Heap.get?_push_size _ rfl, rfl, _, rfl⟩⟩
theorem pe_lst (h : PA X es t) : PE X (.List es pos) (tLst t) := by
  intro pins s σ H Q I hq
  refine wpAny_List_spliced (thn (h pos pins s σ H _ I hq) fun us s1 ⟨xs, H1, I1, r, z, q⟩ => ⟨by rw [← r.length]; exact z, ?_⟩)
  have hf : H1 s1.heap.objs.size = none := I1.hok.fresh (Nat.le_refl _)
  refine ⟨.ref s1.heap.objs.size, upd H1 s1.heap.objs.size (.lst xs), I1.laid (t' := s1.toks) (fun b u e => Heap.get?_push_of_some _ e) (Nat.le_refl _) ?_, rfl, q _ hf⟩
  exact ⟨z, us, 0, r, Heap.get?_push_size _ rfl⟩
end

/-! ### what a def promises -/
/-- a def's promise: the bound arguments in the parameters' order, the heap, the wanted end, the wanted exception -/
abbrev Sp := List V → Hp → VK → XK → Prop
/-- how an exception lies behind a call (file 08 gives it): the callers' frames, abstract heap and state ahead of the call, the wish, the exception, the state -/
abbrev CXT := List Env → Hp → Shared → XK → Value → Shared → Prop

/-- the state at a call -/
structure Env0 (P : Program) (w : World) (K : PySem.W.Frag) (mg : Str → Option Value) (base : Heap) (A : Around) (outer : List Env) (s : Shared) (H : Hp) : Prop where
  frames : A.frames = some outer
  mod : Mod K mg base
  bs : ∀ b o, base.get? b = some o → s.heap.get? b = some o ∧ H b = none
  bsz : base.objs.size ≤ s.heap.objs.size
  funs : s.heap.FunFrames base outer
  frf : ∀ b ∈ frs outer, H b = none
  hok : HOk P w H s.heap
  bare : AllBare s.gens
/-- a call's end -/
def CE (outer : List Env) (P : Program) (w : World) (H : Hp) (s : Shared) (Q : VK) (u : Value) (s' : Shared) : Prop :=
  ∃ v H', s'.os = s.os ∧ AllBare s'.gens ∧ Un (frs outer) [] H H' s.heap s'.heap ∧ HOk P w H' s'.heap ∧ RelV v u ∧ Q v H'
def CR (CX : CXT) (outer : List Env) (P : Program) (w : World) (H : Hp) (s : Shared) (Q : VK) (E : XK) (r : Result) (s' : Shared) : Prop :=
  match r with
  | .ok (.ret u) => CE outer P w H s Q u s'
  | .ok _ => False
  | .error e => CX outer H s E e s'
structure FnOk (P : Program) (w : World) (K : PySem.W.Frag) (mg : Str → Option Value) (base : Heap) (CX : CXT) (k : Nat) (f : Addr) (fd : FuncData) (ps : List Str) (sp : Sp) : Prop where
  len : ∀ vs H Q E, sp vs H Q E → vs.length = ps.length
  run : ∀ (A : Around) (outer : List Env) (s : Shared) (H : Hp) (args : Args) (us : List Value) (vs : List V) (Q : VK) (E : XK), Room k A → Env0 P w K mg base A outer s H → BindsTo s fd args (ps.zip us) → Vals vs us → sp vs H Q E →
    codeAny (model P w) A (.call (.ref f) args) (CR CX outer P w H s Q E) s
theorem FnOk.mono {P : Program} {w : World} {K : PySem.W.Frag} {mg : Str → Option Value} {base : Heap} {CX : CXT} {j k : Nat} {f : Addr} {fd : FuncData} {ps : List Str} {sp : Sp} (F : FnOk P w K mg base CX j f fd ps sp) (h : j ≤ k) :
    FnOk P w K mg base CX k f fd ps sp := ⟨F.len, fun A outer s H args us vs Q E hr => F.run A outer s H args us vs Q E (hr.mono h)⟩
section
variable {X : Cx} {pins : List (Addr × Obj)} {σ : St} {H : Hp} {s s' : Shared}
/-- from a body: what a callee wants -/
theorem Inv.env0 (I : Inv X pins σ H s) : Env0 X.prog X.w X.K X.mg X.base X.A X.stack s H :=
  ⟨I.ok.frames, I.ok.mod, I.bs, Nat.le_trans I.ok.bsz I.sz, I.stack, I.stkFree, I.hok, I.bare⟩
/-- behind a call -/
theorem Inv.after {Q : VK} {u : Value} (I : Inv X pins σ H s) (h : CE X.stack X.prog X.w H s Q u s') : EP X pins σ Q u s' := by
  obtain ⟨v, H', os, bare, un, hok, r, q⟩ := h
  obtain ⟨hh, g, d, t, os'⟩ := s'
  obtain rfl : os' = s.os := os
  exact ⟨v, H', I.call (h' := hh) (g' := g) (d' := d) (t' := t) (ch := []) un hok bare (fun b z => absurd z (by simp)), r, q⟩
end

/-! ### calls -/
/-- f(..): the written arguments, then the defaults dvs; E: what is wanted of an exception -/
def tCall (sp : Sp) (dvs : List V) (E : XK) (t : TA) : TE := fun σ H Q => t σ H fun vs H1 => sp (vs ++ dvs) H1 Q E
/-- o.m(..) of an instance of the class at C -/
def tMeth (C : Addr) (m : Str) (sp : Sp) (dvs : List V) (E : XK) (ta : TE) (t : TA) : TE := fun σ H Q => ta σ H fun x H1 => ∃ a dx fs, x = .ref a ∧ H1 a = some (.ins C dx fs) ∧ fs.lookup m = none ∧
  t σ H1 fun vs H2 => sp (x :: (vs ++ dvs)) H2 Q E
/-- C(..): a new instance and its dict, then __init__ -/
def tMake (C : Addr) (sp : Sp) (dvs : List V) (E : XK) (t : TA) : TE := fun σ H Q => t σ H fun vs H1 => ∀ x dx, H1 x = none → H1 dx = none → dx ≠ x →
  sp (.ref x :: (vs ++ dvs)) (upd (upd H1 dx (.own x)) x (.ins C dx [])) (fun v H2 => v = .non ∧ Q (.ref x) H2) E

/-- how the parameters are bound: us the positional arguments, kw the keywords' values by name, ds the defaults that fill up -/
def Binds (K : PySem.W.Frag) (fd : FuncData) (ps : List Str) (ds : List Value) : Prop :=
  ∀ (s : Shared) (us : List Value), K.In s.heap → (us ++ ds).length = ps.length → BindsTo s fd ⟨us, []⟩ (ps.zip (us ++ ds))
/-- every parameter is given -/
theorem Binds.all {K : PySem.W.Frag} {fd : FuncData} {ps : List Str} (h : ∀ us : List Value, us.length = ps.length → bindArgs fd ⟨us, []⟩ = pure (ps.zip us)) : Binds K fd ps [] := fun s us _ hl => by
  rw [List.append_nil] at hl ⊢
  exact .of_eq (h us hl)

/-- an exception of a callee reaches what this body wants of exceptions -/
def Passes (CX : CXT) (X : Cx) (E : XK) : Prop := ∀ (pins : List (Addr × Obj)) (σ : St) (H : Hp) (s : Shared) (e : Value) (s' : Shared), Inv X pins σ H s → CX X.stack H s E e s' → X.xe e s'

section
variable {X : Cx} {CX : CXT} {k : Nat} {f C : Addr} {fd : FuncData} {ps : List Str} {sp : Sp} {dvs : List V} {ds : List Value} {E : XK} {x m : Str} {p pos apos : Pos} {e o : Expr} {es : List Expr} {ta : TE} {t : TA}

/-- the callee runs -/
theorem run_fn {pins : List (Addr × Obj)} {σ : St} {H : Hp} {s : Shared} {Q : VK} {us : List Value} {vs : List V} (F : FnOk X.prog X.w X.K X.mg X.base CX k f fd ps sp) (hr : Room k X.A) (hb : Binds X.K fd ps ds) (hd : Vals dvs ds) (hx : Passes CX X E)
    (I : Inv X pins σ H s) (r : Vals vs us) (h : sp (vs ++ dvs) H Q E) : wpAny (model X.prog X.w) X.A (call (.ref f) us) (EP X pins σ Q) X.xe s := by
  have r2 : Vals (vs ++ dvs) (us ++ ds) := r.append hd
  have hl : (us ++ ds).length = ps.length := by rw [← r2.length]; exact F.len _ _ _ _ h
  refine wpAny_call (codeAny_mono (F.run X.A X.stack s H ⟨us, []⟩ (us ++ ds) (vs ++ dvs) Q E hr I.env0 (hb s us I.kIn hl) r2 h) fun r s' hq => ?_)
  cases r with
  | error e => exact hx pins σ H s e s' I hq
  | ok fl =>
    cases fl with
    | ret u => exact I.after hq
    | next => exact False.elim hq
    | brk => exact False.elim hq
    | cont => exact False.elim hq

theorem pe_call (F : FnOk X.prog X.w X.K X.mg X.base CX k f fd ps sp) (hr : Room k X.A) (hg : Gl X x) (hm : X.mg x = some (.ref f)) (hk : PySem.W.keepIn X.K (.ref f) = true) (hb : Binds X.K fd ps ds) (hd : Vals dvs ds) (hx : Passes CX X E)
    (ha : PA X (e :: es) t) (hdb : (x == ("__debug__" : Str)) = false := by decide) (he : starEach (e :: es) X.env = (false, eval e X.env) :: starEach es X.env := by rfl) (hpl : (backTo pos (starEach es X.env)).any (·.1) = false := by rfl) :
    PE X (.Call (.Name x p) (e :: es) [] pos) (tCall sp dvs E t) := by
  intro pins s σ H Q I h
  refine wpAny_Call_Name_kw (ld_glob I hg hm ?_ hdb)
  refine PySem.W.callWith_K (h₀ := X.base) I.ok.mod.kin hk (thn (ha pos pins s σ H _ I h) fun us s1 ⟨vs, H1, I1, r, q⟩ => ⟨I1.kIn, ?_⟩) he hpl
  exact run_fn F hr hb hd hx I1 r q
/-- what a class must have to be made -/
structure Mk (K : PySem.W.Frag) (C f : Addr) : Prop where
  makes : PySem.W.makesIn K C = true
  init : PySem.W.findIn K (.ref C) "__init__" = some (some (.ref f))
  fn : PySem.W.isFn K (.ref f) = true
  kp : PySem.W.keepIn K (.ref C) = true

end

/-! ### keywords -/
/-- the values of the keywords, from the left -/
def PK (X : Cx) (kws : List Keyword) (t : TA) : Prop :=
  ∀ (pos : Pos) (pins : List (Addr × Obj)) (s : Shared) (σ : St) (H : Hp) (Q : List V → Hp → Prop), Inv X pins σ H s → t σ H Q → wpAny (model X.prog X.w) X.A (evalAll ((backToKw pos (keywordEach kws X.env)).map (·.2))) (AP X pins σ Q) X.xe s
section
variable {X : Cx} {CX : CXT} {k : Nat} {f C : Addr} {fd : FuncData} {ps ks : List Str} {sp : Sp} {E : XK} {x m : Str} {p pos apos kpos : Pos} {e o : Expr} {es : List Expr} {kws : List Keyword} {te ta : TE} {t tk : TA} {nm : Option Str}
/-- how a call with keywords binds: g puts the positional values us and the keywords' values ws (names ks) in the parameters' order, defaults among them -/
structure KBinds (K : PySem.W.Frag) (fd : FuncData) (ps ks : List Str) (g : List Value → List Value → List Value) (gV : List V → List V → List V) : Prop where
  to : ∀ (s : Shared) (us ws : List Value), K.In s.heap → (g us ws).length = ps.length → BindsTo s fd ⟨us, ks.zip ws⟩ (ps.zip (g us ws))
  rel : ∀ {vs : List V} {us : List Value} {zs : List V} {ws : List Value}, Vals vs us → Vals zs ws → Vals (gV vs zs) (g us ws)
def tCallK (sp : Sp) (gV : List V → List V → List V) (E : XK) (t tk : TA) : TE := fun σ H Q => t σ H fun vs H1 => tk σ H1 fun zs H2 => sp (gV vs zs) H2 Q E
variable {g : List Value → List Value → List Value} {gV : List V → List V → List V}
end

/-! ### a def's body keeps its promise -/
/-- names: the parameters first -/
structure FnScope (N P : List Str) (sc : Scope) : Prop where
  kind : sc.kind = .function
  co : sc.isCoroutine = false
  gen : sc.isGenerator = false
  nd : N.Nodup
  pre : N.take P.length = P
  par : ∀ x ∈ P, sc.names.lookup x = some .local ∨ sc.names.lookup x = some .cell
  nofree : ∀ y ∈ sc.names, y.2 ≠ .free

theorem bindL_out {kindOf : Str → Option NameKind} {x : Str} : ∀ {binds : List (Str × Value)} {m : Str → Option Value}, (∀ v, (x, v) ∉ binds) → bindL kindOf binds m x = m x
  | [], _, _ => rfl
  | (n, v) :: r, m, h => by
    unfold bindL
    rw [bindL_out fun w hw => h w (List.mem_cons_of_mem _ hw)]
    split
    · have : x ≠ n := by rintro rfl; exact h v List.mem_cons_self
      simp [this]
    · rfl
theorem bindC_out {kindOf : Str → Option NameKind} {x : Str} : ∀ {binds : List (Str × Value)} {m : Str → Option Value}, (∀ v, (x, v) ∉ binds) → bindC kindOf binds m x = m x
  | [], _, _ => rfl
  | (n, v) :: r, m, h => by
    unfold bindC
    rw [bindC_out fun w hw => h w (List.mem_cons_of_mem _ hw)]
    split
    · rfl
    · have : x ≠ n := by rintro rfl; exact h v List.mem_cons_self
      simp [this]
theorem bindL_get {kindOf : Str → Option NameKind} {x : Str} {v : Value} : ∀ {P : List Str} {vs : List Value} {i : Nat} {m : Str → Option Value}, P.Nodup → P[i]? = some x → vs[i]? = some v → kindOf x = some .local →
    bindL kindOf (P.zip vs) m x = some v
  | [], _, _, _, _, h, _, _ => by simp at h
  | _ :: _, [], _, _, _, _, h, _ => by simp at h
  | p :: P, w :: vs, 0, m, nd, h1, h2, hk => by
    simp at h1 h2; subst h1; subst h2
    show bindL kindOf ((p, w) :: P.zip vs) m p = _
    unfold bindL
    rw [bindL_out fun v hv => (List.nodup_cons.mp nd).1 (List.of_mem_zip hv).1, if_pos hk]
    simp
  | p :: P, w :: vs, i + 1, m, nd, h1, h2, hk => by
    show bindL kindOf ((p, w) :: P.zip vs) m x = _
    unfold bindL
    exact bindL_get (i := i) (List.nodup_cons.mp nd).2 (by simpa using h1) (by simpa using h2) hk
theorem bindC_get {kindOf : Str → Option NameKind} {x : Str} {v : Value} : ∀ {P : List Str} {vs : List Value} {i : Nat} {m : Str → Option Value}, P.Nodup → P[i]? = some x → vs[i]? = some v → kindOf x ≠ some .local →
    bindC kindOf (P.zip vs) m x = some v
  | [], _, _, _, _, h, _, _ => by simp at h
  | _ :: _, [], _, _, _, _, h, _ => by simp at h
  | p :: P, w :: vs, 0, m, nd, h1, h2, hk => by
    simp at h1 h2; subst h1; subst h2
    show bindC kindOf ((p, w) :: P.zip vs) m p = _
    unfold bindC
    rw [bindC_out fun v hv => (List.nodup_cons.mp nd).1 (List.of_mem_zip hv).1, if_neg hk]
    simp
  | p :: P, w :: vs, i + 1, m, nd, h1, h2, hk => by
    show bindC kindOf ((p, w) :: P.zip vs) m x = _
    unfold bindC
    exact bindC_get (i := i) (List.nodup_cons.mp nd).2 (by simpa using h1) (by simpa using h2) hk

/-- the names' values at the entry -/
def start (N : List Str) (vs : List V) : St := vs.map some ++ List.replicate (N.length - vs.length) none

/-- the context of a def's body, at its entry; an exception leaves the frame, then lies as CX says -/
def cxOf (CX : CXT) (P : Program) (w : World) (K : PySem.W.Frag) (mg : Str → Option Value) (base : Heap) (N : List Str) (qual : Str) (scope : Scope) (f : Addr) (cd : Value) (A : Around) (outer : List Env) (s : Shared) (H : Hp) (E : XK) : Cx where
  prog := P
  w := w
  K := K
  mg := mg
  base := base
  A := A.deeper (envOfC qual scope s.heap.objs.size f cd)
  N := N
  s₀ := s
  H₀ := H
  env := envOfC qual scope s.heap.objs.size f cd
  outer := outer
  stack := envOfC qual scope s.heap.objs.size f cd :: outer
  ex := []
  calm := true
  fn := fun _ => true
  pn := []
  xe := fun e s' => wpAny (model P w) (A.deeper (envOfC qual scope s.heap.objs.size f cd)) (leaving (envOfC qual scope s.heap.objs.size f cd) e) (fun _ s'' => CX outer H s E e s'') (fun e' s'' => CX outer H s E e' s'') s'

theorem cell_has {sc : Scope} {n : Nat} {x : Str} (h : sc.names.lookup x = some .cell) : ∃ c, (cellsFrom n sc.names []).lookup x = some c := by
  have q := PySem.W.cellsFrom_some sc.names n [] (.inl h)
  exact Option.isSome_iff_exists.mp q

theorem inv_start {CX : CXT} {P : Program} {w : World} {K : PySem.W.Frag} {mg : Str → Option Value} {base : Heap} {N ps : List Str} {qual : Str} {scope : Scope} {f : Addr} {cd : Value} {A : Around} {outer : List Env} {s s1 : Shared} {H : Hp} {E : XK} {us : List Value} {vs : List V}
    (S : FnScope N ps scope) (hd : A.handled = none) (e0 : Env0 P w K mg base A outer s H) (hl : vs.length = ps.length) (r : Vals vs us)
    (x : InCallC s s.heap.objs.size (bindL (envOfC qual scope s.heap.objs.size f cd).kindOf (ps.zip us) fun _ => none) (cellsFrom (s.heap.objs.size + 1) scope.names []) (bindC (envOfC qual scope s.heap.objs.size f cd).kindOf (ps.zip us) fun _ => none) s1) :
    Inv (cxOf CX P w K mg base N qual scope f cd A outer s H E) [] (start N vs) H s1 := by
  have hpl : ps.length ≤ N.length := by have := congrArg List.length S.pre; rw [List.length_take] at this; omega
  obtain ⟨h1, tk, rfl, hk⟩ := x.done
  have noA : ∀ b : Addr, b ∉ (cxOf CX P w K mg base N qual scope f cd A outer s H E).ex := fun b z => absurd (show b ∈ ([] : List Addr) from z) (by simp)
  refine ⟨⟨e0.mod, S.kind, rfl, rfl, Nat.le_refl _, fun y z c h1 h2 => ?_, fun y hy => ?_, fun y c _ h => ?_, fun _ => hd, Around.frames_deeper e0.frames, .inr ⟨rfl, rfl⟩, fun b z => absurd z (noA b), e0.bs, e0.bsz, fun b _ _ => noA b, fun b z => absurd z (noA b), e0.funs, e0.frf⟩,
    rfl, e0.bare, Un.kept hk, ⟨_, x.toInCall.ns, fun i y v h1 h2 h3 => ?_⟩, fun y c h => ⟨_, x.cell y c h⟩, e0.hok.fresh (Nat.le_refl _), fun y c h => ?_, fun p hp => absurd (show p ∈ ([] : List (Addr × Obj)) from hp) (by simp), e0.hok.kept hk, ?_⟩
  · exact name_of_addr x.apart (PySem.mem_of_lookup h1) (PySem.mem_of_lookup h2)
  · have hy : scope.names.lookup y = some .cell ∨ scope.names.lookup y = some .free := hy
    rcases hy with hy | hy
    · exact cell_has hy
    · exact absurd rfl (S.nofree _ (PySem.mem_of_lookup hy))
  · exact Nat.le_of_lt (x.above y c (PySem.mem_of_lookup h))
  · have hi : i < vs.length := by
      unfold start at h2
      by_cases hi : i < vs.length
      · exact hi
      · rw [List.getElem?_append_right (by simpa using hi)] at h2
        rw [List.getElem?_replicate] at h2
        split at h2 <;> cases h2
    have ha : vs[i]? = some v := by
      unfold start at h2
      rw [List.getElem?_append_left (by simpa using hi), List.getElem?_map] at h2
      cases e : vs[i]? with
      | none => rw [e] at h2; cases h2
      | some a => rw [e] at h2; cases h2; rfl
    obtain ⟨u, hu, rv⟩ := r.get ha
    have hp : ps[i]? = some y := by
      rw [← S.pre, List.getElem?_take_of_lt (by omega)]; exact h1
    have ndP : ps.Nodup := by rw [← S.pre]; exact S.nd.sublist (List.take_sublist _ _)
    refine ⟨u, rv, ?_⟩
    rcases S.par y (List.mem_of_getElem? hp) with k | k
    · exact .inl ⟨k, bindL_get ndP hp hu k⟩
    · obtain ⟨c, e⟩ := cell_has (n := s.heap.objs.size + 1) k
      refine .inr ⟨.inl k, c, e, ?_⟩
      have q := x.cell y c e
      rw [bindC_get ndP hp hu (by show scope.names.lookup y ≠ _; rw [k]; decide)] at q
      exact q
  · exact e0.hok.fresh (Nat.le_of_lt (x.above y c (PySem.mem_of_lookup h)))
  · unfold start
    show _ = N.length
    rw [List.length_append, List.length_map, List.length_replicate]
    omega

/-- THE RULE: a def (or a method) of the text, by its body. The body's reading t is chosen for each entry; it is run at the parameters' values -/
theorem fn_of {CX : CXT} {P : Program} {w : World} {K : PySem.W.Frag} {mg : Str → Option Value} {base : Heap} {k : Nat} {f : Addr} {name qual : Str} {params : Arguments} {body : List Stmt} {scope : Scope} {dV kV doc pm cdv ct oc : Value} {an od : Option Addr}
    {osl : Array (Option Value)} {N ps : List Str} {sp : Sp} (lk : K.lookup f = some ⟨oc, od, .func (PySem.W.fnOf name qual params body scope dV kV doc pm an cdv ct), osl⟩) (hcd : PySem.W.codeIn K cdv qual = true) (S : FnScope N ps scope)
    (len : ∀ vs H Q E, sp vs H Q E → vs.length = ps.length)
    (hbody : ∀ (A : Around) (outer : List Env) (s : Shared) (H : Hp) (vs : List V) (Q : VK) (E : XK), Room k (A.deeper (envOfC qual scope s.heap.objs.size f cdv)) → sp vs H Q E →
      ∃ t, PSs (cxOf CX P w K mg base N qual scope f cdv A outer s H E) body t ∧ t { nx := fun _ H' => Q .non H', rt := Q } (start N vs) H) :
    FnOk P w K mg base CX (k + 1) f (PySem.W.fnOf name qual params body scope dV kV doc pm an cdv ct) ps sp := by
  refine ⟨len, fun A outer s H args us vs Q E hr e0 hb r hsp => ?_⟩
  have hl := len _ _ _ _ hsp
  have KX : K.In s.heap := e0.mod.kin.keeps fun b o e => (e0.bs b o e).1
  have lim : s.heap.NoLimit := e0.mod.nolimit.keeps fun b o e => (e0.bs b o e).1
  have hkind : ∀ y ∈ ps.zip us, scope.names.lookup y.1 = some .local ∨ (scope.names.lookup y.1 = some .cell ∧ ((cellsFrom (s.heap.objs.size + 1) scope.names []).lookup y.1).isSome = true) := fun ⟨n, v⟩ hy => by
    rcases S.par n (List.of_mem_zip hy).1 with q | q
    · exact .inl q
    · exact .inr ⟨q, PySem.W.cellsFrom_some _ _ _ (.inl q)⟩
  refine codeAny_call_function hr.depth (KX _ _ lk) rfl S.co S.gen rfl (PySem.W.codeRec_of KX hcd) (hb _ _ _ _ ?_)
  refine wpAny_newFunctionEnv_cells S.kind hkind fun env he s1 x => ?_
  subst he
  refine ⟨lim.keeps x.toInCall.keep, codeAny_func ?_⟩
  obtain ⟨t, ht, hq⟩ := hbody A outer s H vs Q E (hr.deeper _) hsp
  have I : Inv (cxOf CX P w K mg base N qual scope f cdv A outer s H E) [] (start N vs) H s1 := inv_start S hr.hd e0 hl r x
  refine wpAny_mono (ht [] s1 (start N vs) H _ I hq) (fun fl s' hs => ?_) fun e s' hs => hs
  have fin : ∀ {σ' : St} {H' : Hp} {v : V} {u : Value}, Inv (cxOf CX P w K mg base N qual scope f cdv A outer s H E) [] σ' H' s' → RelV v u → Q v H' → CE outer P w H s Q u s' :=
    fun {σ' H' v u} J rv q => ⟨v, H', J.os, J.bare, J.base, J.hok, rv, q⟩
  cases fl with
  | ret u =>
    obtain ⟨v, σ', H', J, rv, q⟩ := hs
    exact fin J rv q
  | next =>
    obtain ⟨σ', H', J, q⟩ := hs
    exact fin (v := V.non) (u := Value.none) J rfl q
  | brk =>
    obtain ⟨_, _, _, q⟩ := hs
    exact False.elim q
  | cont =>
    obtain ⟨_, _, _, q⟩ := hs
    exact False.elim q
end L2

namespace L2
open PySem PySem.Spec PyProof.Rows
section
variable {X : Cx} {x : Str} {p pos : Pos} {e : Expr} {es : List Expr} {t : TA} {id T : String} {r : List V → Hp → VK → Prop}

def tCB (r : List V → Hp → VK → Prop) (t : TA) : TE := fun σ H Q => t σ H fun vs H1 => r vs H1 Q
/-- f(e, ..), f a built-in function -/
theorem pe_callB (hc : CallR X (.builtin id) r) (hg : Gl X x) (hm : X.mg x = none) (hv : bootBuiltins x = some (.builtin id)) (ha : PA X (e :: es) t) (hn : x ≠ "__name__" := by decide) (hdb : (x == ("__debug__" : Str)) = false := by decide)
    (he : starEach (e :: es) X.env = (false, eval e X.env) :: starEach es X.env := by rfl) (hpl : (backTo pos (starEach es X.env)).any (·.1) = false := by rfl) : PE X (.Call (.Name x p) (e :: es) [] pos) (tCB r t) := by
  intro pins s σ H Q I h
  refine wpAny_Call_Name_kw (ld_blt I hg hm hv ?_ hn hdb)
  exact PyProof.Rows.callWith_builtin1 (thn (ha pos pins s σ H _ I h) fun us s1 ⟨vs, H1, I1, r1, q1⟩ => hc pins s1 σ H1 vs us Q I1 r1 q1) he hpl
/-- T(e, ..), T a built-in type -/
theorem pe_callTy (hc : CallR X (.type T) r) (hg : Gl X x) (hm : X.mg x = none) (hv : bootBuiltins x = some (.type T)) (ha : PA X (e :: es) t) (hn : x ≠ "__name__" := by decide) (hdb : (x == ("__debug__" : Str)) = false := by decide)
    (he : starEach (e :: es) X.env = (false, eval e X.env) :: starEach es X.env := by rfl) (hpl : (backTo pos (starEach es X.env)).any (·.1) = false := by rfl) : PE X (.Call (.Name x p) (e :: es) [] pos) (tCB r t) := by
  intro pins s σ H Q I h
  refine wpAny_Call_Name_kw (ld_blt I hg hm hv ?_ hn hdb)
  exact PyProof.Rows.callWith_type1 (thn (ha pos pins s σ H _ I h) fun us s1 ⟨vs, H1, I1, r1, q1⟩ => hc pins s1 σ H1 vs us Q I1 r1 q1) he hpl
end
end L2

namespace HT
open PySem PyProof.Rows

/-- t < u of tuples of ints -/
def lexLt : List Int → List Int → Bool
  | [], [] => false
  | [], _ :: _ => true
  | _ :: _, [] => false
  | x :: xs, y :: ys => if x = y then lexLt xs ys else decide (x < y)
section
open PySem.SeqAt
open PySem.AutoSeq1 (wpAny_loadPart')
open PySem.MeetsSeq PySem.MeetsSeq2 PySem.MeetsSeq3

end

section
variable {prog : Program} {w : World} {A : Around} {E : Value → Shared → Prop} {s : Shared}

/-! ### t[a:b], not the whole -/
/-- a slice's bound as a place among n (d where it is left out) -/
def sIx (n d : Nat) : Option Int → Nat
  | none => d
  | some v => if v < 0 then (v + (n : Int)).toNat else min v.toNat n
theorem sIx_none (n d : Nat) : sIx n d none = d := rfl
theorem sIx_nat (n d k : Nat) : sIx n d (some (k : Int)) = min k n := by
  show (if (k : Int) < 0 then ((k : Int) + (n : Int)).toNat else min (k : Int).toNat n) = min k n
  rw [if_neg (by omega), Int.toNat_natCast]
theorem sIx_le (n d : Nat) (hd : d ≤ n) (o : Option Int) : sIx n d o ≤ n := by
  cases o with
  | none => exact hd
  | some v =>
    show (if v < 0 then (v + (n : Int)).toNat else min v.toNat n) ≤ n
    by_cases hv : v < 0
    · rw [if_pos hv]; omega
    · rw [if_neg hv]; exact Nat.min_le_right _ _
theorem clip_eq (v : Int) (n d : Nat) : (if v < 0 then max (v + (n : Int)) 0 else min v (n : Int)) = ((sIx n d (some v) : Nat) : Int) := by
  show (if v < 0 then max (v + (n : Int)) 0 else min v (n : Int)) = (((if v < 0 then (v + (n : Int)).toNat else min v.toNat n) : Nat) : Int)
  by_cases hv : v < 0
  · simp only [if_pos hv]; omega
  · simp only [if_neg hv]; omega
theorem adjust_gen (lo hi : Option Int) (n : Nat) : Builtin.Slice.sliceAdjust lo hi 1 (n : Int) = (((sIx n 0 lo : Nat) : Int), ((sIx n n hi : Nat) : Int)) := by
  have h1 : ¬ ((1 : Int) < 0) := by omega
  unfold Builtin.Slice.sliceAdjust
  simp only [h1, if_false]
  refine Prod.ext ?_ ?_
  · cases lo with
    | none => rfl
    | some v => exact clip_eq v n 0
  · cases hi with
    | none => rfl
    | some v => exact clip_eq v n n
theorem places_gen (i j : Nat) : Builtin.Slice.slicePlaces (i : Int) (j : Int) 1 = j - i := by
  unfold Builtin.Slice.slicePlaces
  have h1 : (1 : Int) > 0 := by omega
  simp only [h1, if_true, Int.ediv_one]
  split <;> omega
theorem slicePart_ {v : Value} {o : Option Int} {Q : Option Int → Shared → Prop} (p : IsPart v o) (h : Q o s) : wpAny (model prog w) A (Builtin.Slice.slicePartIndex v) Q E s := by
  cases p with
  | none => exact slicePart_none h
  | int i t => exact slicePart_int h
theorem sliceApplied_gen {sl : Addr} {vl vu : Value} {lo hi : Option Int} {n : Nat} {Q : Int × Int × Nat → Shared → Prop} (hs : s.heap.IsSliceOf sl vl vu .none) (pl : IsPart vl lo) (pu : IsPart vu hi)
    (h : Q (((sIx n 0 lo : Nat) : Int), 1, sIx n n hi - sIx n 0 lo) s) : wpAny (model prog w) A (Builtin.Slice.sliceApplied (.ref sl) (pure (n : Int))) Q E s := by
  obtain ⟨os, hos, hcs, hds⟩ := id hs
  unfold Builtin.Slice.sliceApplied Builtin.Slice.sliceFields
  refine wpAny_bind (wpAny_bind (wpAny_field hos hds (x := vl) rfl (wpAny_bind (wpAny_field hos hds (x := vu) rfl (wpAny_bind (wpAny_field hos hds (x := .none) rfl (wpAny_pure ?_)))))))
  refine wpAny_bind (slicePart_none ?_)
  show wpAny _ _ (if ((1 : Int) == 0) = true then _ else _) _ _ s
  rw [if_neg (by decide)]
  refine wpAny_bind (slicePart_ pl (wpAny_bind (slicePart_ pu (wpAny_bind (wpAny_pure ?_)))))
  show wpAny _ _ (match Builtin.Slice.sliceAdjust lo hi 1 (n : Int) with | (lo, hi) => pure (lo, (1 : Int), Builtin.Slice.slicePlaces lo hi 1)) _ _ s
  rw [adjust_gen lo hi n]
  show wpAny _ _ (pure (((sIx n 0 lo : Nat) : Int), (1 : Int), Builtin.Slice.slicePlaces ((sIx n 0 lo : Nat) : Int) ((sIx n n hi : Nat) : Int) 1)) _ _ s
  rw [places_gen]
  exact wpAny_pure h
theorem pick_gen (xs : Array Value) (i k : Nat) : ((List.range k).filterMap fun (m : Nat) => xs[((i : Int) + (m : Int) * 1).toNat]?).toArray = ((xs.toList.drop i).take k).toArray := by
  have e : (fun (m : Nat) => xs[((i : Int) + (m : Int) * 1).toNat]?) = fun m => xs[i + m]? := by
    funext m
    have : ((i : Int) + (m : Int) * 1).toNat = i + m := by omega
    rw [this]
  rw [e]
  have := pick_run xs i k
  rw [List.filterMap_map] at this
  have e2 : ((fun x => xs[x]?) ∘ fun x => i + x) = fun m => xs[i + m]? := rfl
  rw [e2] at this
  rw [this]

theorem getItem_tuple_cut {t sl : Addr} {items : Array Value} {vl vu : Value} {lo hi : Option Int} {Q : Value → Shared → Prop} (ht : IsTup s.heap t items) (hs : s.heap.IsSliceOf sl vl vu .none) (pl : IsPart vl lo) (pu : IsPart vu hi)
    (hw : ¬ (sIx items.size 0 lo = 0 ∧ sIx items.size items.size hi = items.size))
    (h : Q (.ref s.heap.objs.size) { s with heap := s.heap.push { cls := .type "tuple", data := .seq ((items.toList.drop (sIx items.size 0 lo)).take (sIx items.size items.size hi - sIx items.size 0 lo)).toArray } })
    (hsz : items.size ≤ sizeLine) : wpAny (model prog w) A (getItem (.ref t) (.ref sl)) Q E s := by
  have htake : sizeOk (.seq ((items.toList.drop (sIx items.size 0 lo)).take (sIx items.size items.size hi - sIx items.size 0 lo)).toArray) := by
    show ((items.toList.drop (sIx items.size 0 lo)).take (sIx items.size items.size hi - sIx items.size 0 lo)).toArray.size ≤ sizeLine
    rw [List.size_toArray, List.length_take, List.length_drop, Array.length_toList]
    omega
  have hj : sIx items.size items.size hi ≤ items.size := sIx_le _ _ (Nat.le_refl _) hi
  obtain ⟨os, hos, hcs, hds⟩ := id hs
  have hTs : s.TypeIs (.ref sl) "slice" := ⟨os, hos, hcs⟩
  unfold getItem
  try with_reducible refine wpAny_holding ?_
  first | refine wpAny_bind (wpAny_pure ?_) | skip
  refine wpAny_bind (wpAny_sequenceKey ht.typeIs (by decide) ?_)
  refine wpAny_bind (wpAny_callSpecial?_slot (name := Str.ofString "__getitem__") ht.typeIs PyProof.Rows.slot_tuple_getitem
    (wpAny_call_entry PyProof.Rows.slot_tuple_getitem ht.typeIs entry_tuple_getitem ?_ (args_tuple_getitem _ _)))
  show wpAny _ _ (Builtin.Tuple.tupleItemsOf (.ref t) >>= _) _ _ s
  refine wpAny_bind (tupleItemsOf_ ht ?_)
  refine wpAny_bind (wpAny_typeOf hTs ?_)
  rw [if_pos (by decide)]
  refine wpAny_bind (sliceApplied_gen hs pl pu ?_)
  have hno : ¬ ((((sIx items.size 0 lo : Nat) : Int) == 0 && (1 : Int) == 1 && (sIx items.size items.size hi - sIx items.size 0 lo) == items.size) = true) := by
    intro q
    rw [Bool.and_eq_true, Bool.and_eq_true] at q
    have q1 : ((sIx items.size 0 lo : Nat) : Int) = 0 := eq_of_beq q.1.1
    have q2 : sIx items.size items.size hi - sIx items.size 0 lo = items.size := eq_of_beq q.2
    exact hw ⟨by omega, by omega⟩
  show wpAny _ _ (if (((sIx items.size 0 lo : Nat) : Int) == 0 && (1 : Int) == 1 && (sIx items.size items.size hi - sIx items.size 0 lo) == items.size) = true then _ else _) _ _ s
  rw [if_neg hno, pick_gen]
  first
    | exact wpAny_bind (m := Builtin.Tuple.tupleExact _) (wpAny_newObj_type (wpAny_pure ⟨_, rfl, wpAny_pure h⟩) htake)
    | exact wpAny_bind (m := Builtin.Tuple.tupleExact _) (wpAny_newObj_type (wpAny_bind (wpAny_pure (wpAny_pure ⟨_, rfl, wpAny_pure h⟩))) htake)
    | exact wpAny_bind (wpAny_bind (m := Builtin.Tuple.tupleExact _) (wpAny_newObj_type (wpAny_pure (wpAny_pure ⟨_, rfl, wpAny_pure h⟩)) htake))
    | exact wpAny_bind (wpAny_bind (m := Builtin.Tuple.tupleExact _) (wpAny_newObj_type (wpAny_pure ⟨_, rfl, wpAny_pure h⟩) htake))
end
end HT

namespace L2
open PySem PySem.Spec PyProof.Rows

/-! ### the parts of a slice -/
abbrev TO := St → Hp → (Option Int → Hp → Prop) → Prop
/-- a slice's part (left out, or an int) -/
def PO (X : Cx) (e : Option Expr) (t : TO) : Prop :=
  ∀ (pins : List (Addr × Obj)) (s : Shared) (σ : St) (H : Hp) (Q : Option Int → Hp → Prop), Inv X pins σ H s → t σ H Q →
    wpAny (model X.prog X.w) X.A (evalPart e X.env) (fun u s' => ∃ o H', Inv X pins σ H' s' ∧ IsPart u o ∧ Q o H') X.xe s
def tNoPart : TO := fun _ H Q => Q none H
def tPart (t : TE) : TO := fun σ H Q => t σ H fun x H1 => ∃ i, x = .int i ∧ Q (some i) H1

theorem intsAre_of {ns : List Int} : ∀ {us : List Value}, Vals (ns.map V.int) us → IntsAre us ns := by
  induction ns with
  | nil => intro us r; rw [List.map_nil] at r; cases r; exact .nil
  | cons n ns ih =>
    intro us r
    rw [List.map_cons] at r
    cases r with
    | cons r1 r2 =>
      obtain ⟨t, e⟩ := r1
      subst e
      exact .cons n t (ih r2)

section
variable {X : Cx} {e : Expr} {te : TE} {lo hi : Option Expr} {tl th : TO} {pos p2 : Pos}

theorem po_none : PO X none tNoPart := by
  intro pins s σ H Q I h
  rw [evalPart_none]
  exact wpAny_pure ⟨none, H, I, .none, h⟩
theorem po_some (h : PE X e te) : PO X (some e) (tPart te) := by
  intro pins s σ H Q I hw
  rw [evalPart_some]
  refine thn (h pins s σ H _ I hw) fun u s1 ⟨x, H1, I1, r1, q1⟩ => ?_
  obtain ⟨i, rfl, q⟩ := q1
  obtain ⟨t, rfl⟩ := r1
  exact ⟨some i, H1, I1, .int i t, q⟩

/-- what a slice of a value is, by values: the slice object stands at sl -/
def SlR (X : Cx) (r : V → Option Int → Option Int → Hp → VK → Prop) : Prop :=
  ∀ (pins : List (Addr × Obj)) (s : Shared) (σ : St) (H : Hp) (x : V) (v vl vu : Value) (lo hi : Option Int) (sl : Addr) (Q : VK), Inv X pins σ H s → RelV x v → s.heap.IsSliceOf sl vl vu .none → IsPart vl lo → IsPart vu hi → r x lo hi H Q →
    ∃ T id, typeLookup (.type T) "__getitem__" = pure (some (.builtin id)) ∧ s.TypeIs v T ∧ wpAny (model X.prog X.w) X.A (getItem v (.ref sl)) (EP X pins σ Q) X.xe s
def tSl (r : V → Option Int → Option Int → Hp → VK → Prop) (te : TE) (tl th : TO) : TE := fun σ H Q => te σ H fun x H1 => tl σ H1 fun l H2 => th σ H2 fun u H3 => r x l u H3 Q
/-- a[lo:hi], any a -/
theorem pe_slice {r : V → Option Int → Option Int → Hp → VK → Prop} (hr : SlR X r) (he : PE X e te) (hl : PO X lo tl) (hu : PO X hi th) : PE X (.Subscript e (.Slice lo hi none p2) pos) (tSl r te tl th) := by
  intro pins s σ H Q I h
  refine Subscript_ (thn (he pins s σ H _ I h) fun v s1 ⟨x, H1, I1, r1, q1⟩ => ?_)
  refine wpAny_Slice (thn (hl pins s1 σ H1 _ I1 q1) fun vl s2 ⟨l, H2, I2, pl, q2⟩ => thn (hu pins s2 σ H2 _ I2 q2) fun vu s3 ⟨u, H3, I3, pu, q3⟩ => ?_)
  rw [evalPart_none]
  refine wpAny_pure ?_
  have I4 : Inv X pins σ H3 { s3 with heap := s3.heap.push { cls := .type "slice", data := .fields #[vl, vu, .none] } } := I3.kept (t' := s3.toks) fun b ob q => Heap.get?_push_of_some _ q
  obtain ⟨T, id, hT, ht, hg⟩ := hr pins { s3 with heap := s3.heap.push { cls := .type "slice", data := .fields #[vl, vu, .none] } } σ H3 x v vl vu l u s3.heap.objs.size Q I4 r1 (Heap.IsSliceOf.new ..) pl pu q3
  show wpAny (model X.prog X.w) X.A (subscriptTail e (.Slice lo hi none p2) v (.ref s3.heap.objs.size)) (EP X pins σ Q) X.xe { s3 with heap := s3.heap.push { cls := .type "slice", data := .fields #[vl, vu, .none] } }
  exact tail_any (ops := [.ref s3.heap.objs.size, v]) ht hT hg (by with_unfolding_all rfl)

/-- the items of xs[lo:hi] -/
def cutV (xs : List V) (lo hi : Option Int) : List V := (xs.drop (HT.sIx xs.length 0 lo)).take (HT.sIx xs.length xs.length hi - HT.sIx xs.length 0 lo)
theorem cutV_length (xs : List V) (lo hi : Option Int) : (cutV xs lo hi).length ≤ xs.length := by
  unfold cutV
  rw [List.length_take, List.length_drop]
  omega
/-- t[lo:hi], not the whole of it (the whole would be t itself) -/
def rSlT (K : PySem.W.Frag) : V → Option Int → Option Int → Hp → VK → Prop := fun x lo hi H Q => ∃ a xs, x = .ref a ∧ SqT K H a xs ∧
  ¬ (HT.sIx xs.length 0 lo = 0 ∧ HT.sIx xs.length xs.length hi = xs.length) ∧ ∀ p, H p = none → Q (.ref p) (upd H p (.tup (cutV xs lo hi)))
/-! ### t < u, t + u -/
def rLtT (K : PySem.W.Frag) : R2 := fun x y H Q => ∃ a b ns ms, x = .ref a ∧ y = .ref b ∧ SqT K H a (ns.map V.int) ∧ SqT K H b (ms.map V.int) ∧ Q (.bl (HT.lexLt ns ms)) H
/-- t + u, t not empty: u empty gives t itself -/
def rCatT (K : PySem.W.Frag) : R2 := fun x y H Q => ∃ a b xs ys, x = .ref a ∧ y = .ref b ∧ SqT K H a xs ∧ SqT K H b ys ∧ xs ≠ [] ∧ xs.length + ys.length ≤ sizeLine ∧
  (ys = [] → Q (.ref a) H) ∧ (ys ≠ [] → ∀ p, H p = none → Q (.ref p) (upd H p (.tup (xs ++ ys))))
theorem Vals.nil_iff {xs : List V} {us : List Value} (r : Vals xs us) : us = [] ↔ xs = [] := by
  cases r with
  | nil => simp
  | cons _ _ => simp
end
end L2

namespace L2
open PySem PySem.Spec PyProof.Rows

/-! ### places -/
/-- the place that an index of any sign means -/
def ixN (n : Nat) (i : Int) : Option Nat := if 0 ≤ i then (if i < n then some i.toNat else none) else if -(n : Int) ≤ i then some (i + n).toNat else none
def atI {α : Type} (xs : List α) (i : Int) : Option α := (ixN xs.length i).bind fun j => xs[j]?
theorem ixN_seq {n : Nat} {i : Int} {j : Nat} (h : ixN n i = some j) : seqIndex? i n = some j ∧ j < n ∧ -(n : Int) ≤ i ∧ i < n := by
  unfold ixN at h
  by_cases h0 : 0 ≤ i
  · rw [if_pos h0] at h
    by_cases h1 : i < n
    · rw [if_pos h1] at h
      have e : i.toNat = j := Option.some.inj h
      exact ⟨by rw [seqIndex_of h0 h1, e], by omega, by omega, h1⟩
    · rw [if_neg h1] at h; cases h
  · rw [if_neg h0] at h
    by_cases h1 : -(n : Int) ≤ i
    · rw [if_pos h1] at h
      have e : (i + n).toNat = j := Option.some.inj h
      exact ⟨by rw [seqIndex_neg (by omega) h1, e], by omega, h1, by omega⟩
    · rw [if_neg h1] at h; cases h
theorem atI_get {α : Type} {xs : List α} {i : Int} {v : α} (h : atI xs i = some v) : ∃ j, seqIndex? i xs.length = some j ∧ xs[j]? = some v ∧ j < xs.length ∧ -(xs.length : Int) ≤ i ∧ i < xs.length := by
  unfold atI at h
  cases e : ixN xs.length i with
  | none => rw [e] at h; cases h
  | some j =>
    rw [e] at h
    obtain ⟨h1, h2, h3, h4⟩ := ixN_seq e
    exact ⟨j, h1, h, h2, h3, h4⟩
theorem atI_nat {α : Type} {xs : List α} {j : Nat} {v : α} (h : xs[j]? = some v) : atI xs (j : Int) = some v := by
  have hj : j < xs.length := (List.getElem?_eq_some_iff.mp h).1
  have e : ixN xs.length (j : Int) = some j := by
    unfold ixN
    rw [if_pos (by omega), if_pos (by omega)]; simp
  unfold atI; rw [e]; exact h
/-! ### what may be subscripted -/
/-- what stands as an index of a plain subscript -/
def PlainIx (b : Expr) : Prop := ∀ o i, subscripted b false o i = operate [o, i] (getItem o i)
/-- a subscript by values -/
def IxR (X : Cx) (r : R2) : Prop :=
  ∀ (value slice : Expr) (pins : List (Addr × Obj)) (s : Shared) (σ : St) (H : Hp) (x y : V) (v u : Value) (Q : VK), Inv X pins σ H s → RelV x v → RelV y u → r x y H Q →
    subscripted slice false v u = operate [v, u] (getItem v u) → wpAny (model X.prog X.w) X.A (subscriptTail value slice v u) (EP X pins σ Q) X.xe s
/-- a call of a builtin's method by values: the receiver, the arguments -/
def MtR (X : Cx) (id : String) (r : V → List V → Hp → VK → Prop) : Prop :=
  ∀ (pins : List (Addr × Obj)) (s : Shared) (σ : St) (H : Hp) (x : V) (xs : List V) (v : Value) (us : List Value) (Q : VK), Inv X pins σ H s → RelV x v → Vals xs us → r x xs H Q →
    wpAny (model X.prog X.w) X.A (call (.builtin id) (v :: us)) (EP X pins σ Q) X.xe s
section
variable {X : Cx} {a b : Expr} {ta tb : TE} {pos : Pos}
/-- a[b] -/
theorem pe_ix {r : R2} (hr : IxR X r) (ha : PE X a ta) (hb : PE X b tb) (hs : PlainIx b) : PE X (.Subscript a b pos) (tOp r ta tb) := by
  intro pins s σ H Q I h
  exact Subscript_ (binT ha hb I h fun v u s2 x y H2 I2 rx ry q => hr a b pins s2 σ H2 x y v u Q I2 rx ry q (hs _ _))

def rIxL (K : PySem.W.Frag) : R2 := fun x y H Q => ∃ p xs i v, x = .ref p ∧ y = .int i ∧ SqL K H p xs ∧ atI xs i = some v ∧ Q v H
def rIxT (K : PySem.W.Frag) : R2 := fun x y H Q => ∃ p xs i v, x = .ref p ∧ y = .int i ∧ SqT K H p xs ∧ atI xs i = some v ∧ Q v H
def rIxS : R2 := fun x y H Q => ∃ z i c, x = .str z ∧ y = .int i ∧ z.length ≤ sizeLine ∧ atI z.cps.toList i = some c ∧ Q (.str ⟨#[c]⟩) H
theorem ix_list : IxR X (rIxL X.K) := by
  intro value slice pins s σ H x y v u Q I rx ry h hs
  obtain ⟨p, xs, i, z, rfl, rfl, hq, he, q⟩ := h
  cases rx
  obtain ⟨t, rfl⟩ := ry
  obtain ⟨its, r, pl, hz⟩ := I.list hq
  obtain ⟨j, h1, h2, h3, h4, h5⟩ := atI_get he
  obtain ⟨w, ew, rw'⟩ := r.get h2
  have hl := r.length
  have hn := line63
  have fin : EP X pins σ Q w s := ⟨z, H, I, rw', q⟩
  by_cases h0 : 0 ≤ i
  · have hj : i.toNat = j := by
      rw [seqIndex_of h0 h5] at h1
      exact Option.some.inj h1
    exact item_listR pl.isList h0 (by omega) (by rw [hj]; simpa using ew) fin hs
  · have hj : (i + (its.toArray.size : Int)).toNat = j := by
      rw [seqIndex_neg (by omega) h4] at h1
      rw [List.size_toArray, ← hl]
      exact Option.some.inj h1
    exact subscriptTail_builtinR (x := w) pl.isList.typeIs slot_list_getitem.lookup
      (wpAny_getItem_list_neg (Q := fun r s' => r = w ∧ EP X pins σ Q r s') pl.isList (by omega) (by rw [List.size_toArray] <;> omega) (by omega) (by rw [hj]; simpa using ew) ⟨rfl, fin⟩) hs
theorem ix_tup : IxR X (rIxT X.K) := by
  intro value slice pins s σ H x y v u Q I rx ry h hs
  obtain ⟨p, xs, i, z, rfl, rfl, hq, he, q⟩ := h
  cases rx
  obtain ⟨t, rfl⟩ := ry
  obtain ⟨its, r, pl, hz⟩ := I.tuple hq
  obtain ⟨j, h1, h2, h3, h4, h5⟩ := atI_get he
  obtain ⟨w, ew, rw'⟩ := r.get h2
  have hl := r.length
  have hn := line63
  have fin : EP X pins σ Q w s := ⟨z, H, I, rw', q⟩
  exact subscriptTail_builtinR (x := w) pl.typeIs slot_tuple_getitem.lookup
    (getItem_tuple (j := j) (Q := fun r s' => r = w ∧ EP X pins σ Q r s') pl (by omega) (by omega) (by rw [List.size_toArray, ← hl]; exact h1) (by simpa using ew) ⟨rfl, fin⟩) hs
/-- list, tuple or str -/
def rIx (K : PySem.W.Frag) : R2 := fun x y H Q => rIxL K x y H Q ∨ rIxT K x y H Q ∨ rIxS x y H Q
/-! ### xs[i] = v, any sign -/
/-- the list's object behind a store -/
theorem mapSeq_set (its : List Value) (n j : Nat) (u : Value) : Obj.mapSeq (·.setIfInBounds j u) { cls := .type "list", data := .seq its.toArray n } = { cls := .type "list", data := .seq (its.set j u).toArray n } := by
  simp [Obj.mapSeq]
theorem Inv.lst {pins : List (Addr × Obj)} {σ : St} {H : Hp} {s : Shared} {p : Addr} {xs : List V} (I : Inv X pins σ H s) (h : H p = some (.lst xs)) :
    ∃ (its : List Value) (n : Nat), Vals xs its ∧ s.heap.get? p = some { cls := .type "list", data := .seq its.toArray n } ∧ xs.length ≤ sizeLine := by
  obtain ⟨z, its, n, r, e⟩ := I.hok p _ h
  exact ⟨its, n, r, e, z⟩
/-- the list at p is written by an update of its object -/
theorem Inv.lstUpd {pins : List (Addr × Obj)} {σ : St} {H : Hp} {s : Shared} {p : Addr} {xs ys : List V} {its its' : List Value} {n n' : Nat} {f : Obj → Obj} (I : Inv X pins σ H s) (h : H p = some (.lst xs))
    (ho : s.heap.get? p = some { cls := .type "list", data := .seq its.toArray n }) (hf : f { cls := .type "list", data := .seq its.toArray n } = { cls := .type "list", data := .seq its'.toArray n' }) (r : Vals ys its') (hz : ys.length ≤ sizeLine) (t : Nat) :
    Inv X pins σ (upd H p (.lst ys)) { s with heap := s.heap.update p f, toks := t } := by
  have e : (s.heap.update p f).get? p = some { cls := .type "list", data := .seq its'.toArray n' } := by
    rw [Heap.get?_update_self f ho (by rw [hf] <;> rfl), hf]
  refine I.write (x := p) (e := p) (by rw [h]; trivial) (.inl rfl) (fun b u hb q => (Heap.get?_update_other _ _ (Ne.symm hb)).trans q) ⟨_, e⟩ ?_
  exact ⟨hz, its', n', r, e⟩
def rSetL : V → V → V → Hp → (Hp → Prop) → Prop := fun o i v H Q => ∃ p xs k j, o = .ref p ∧ i = .int k ∧ H p = some (.lst xs) ∧ ixN xs.length k = some j ∧ Q (upd H p (.lst (xs.set j v)))
theorem set_list : PSet X rSetL := by
  intro pins s σ H o i v ov iv u Q I ro ri rv h
  obtain ⟨p, xs, k, j, rfl, rfl, hp, hj, q⟩ := h
  cases ro
  obtain ⟨t, rfl⟩ := ri
  obtain ⟨its, n, r, ho, hz⟩ := I.lst hp
  obtain ⟨h1, h2, h3, h4⟩ := ixN_seq hj
  have hl := r.length
  have hn := line63
  have I' : Inv X pins σ (upd H p (.lst (xs.set j v))) { s with heap := s.heap.update p (Obj.mapSeq (·.setIfInBounds j u)) } :=
    I.lstUpd hp ho (mapSeq_set its n j u) (r.set rv j) (by rw [List.length_set]; exact hz) s.toks
  by_cases h0 : 0 ≤ k
  · have hk : k.toNat = j := by
      rw [seqIndex_of h0 h4] at h1
      exact Option.some.inj h1
    exact PySem.W.ki_setAt ho h0 (by omega) (by rw [List.size_toArray, ← hl]; exact h4) (by rw [hk]; exact ⟨_, I', q⟩)
  · have hk : (k + (its.toArray.size : Int)).toNat = j := by
      rw [seqIndex_neg (by omega) h3] at h1
      rw [List.size_toArray, ← hl]
      exact Option.some.inj h1
    exact PySem.W.ki_setBack ho (by omega) (by rw [List.size_toArray, ← hl]; exact h3) (by omega) (by rw [hk]; exact ⟨_, I', q⟩)

/-! ### slices -/
theorem slice_bounds (lo hi : Option Int) (n : Nat) : (sliceBounds lo hi none n).1 = ((HT.sIx n 0 lo : Nat) : Int) ∧ (sliceBounds lo hi none n).2.1 = ((HT.sIx n n hi : Nat) : Int) ∧ (sliceBounds lo hi none n).2.2 = 1 := by
  refine ⟨?_, ?_, rfl⟩
  · cases lo with
    | none => simp [sliceBounds, HT.sIx]
    | some i =>
      simp only [sliceBounds, HT.sIx, Option.getD_none, show (1 : Int) > 0 by decide, if_true]
      by_cases h : i < 0
      · simp only [h, if_true] <;> omega
      · simp only [h, if_false] <;> omega
  · cases hi with
    | none => simp [sliceBounds, HT.sIx]
    | some i =>
      simp only [sliceBounds, HT.sIx, Option.getD_none, show (1 : Int) > 0 by decide, if_true]
      by_cases h : i < 0
      · simp only [h, if_true] <;> omega
      · simp only [h, if_false] <;> omega
theorem slicePick_cut (its : List Value) (lo hi : Option Int) : slicePick its.toArray lo hi none = ((its.drop (HT.sIx its.length 0 lo)).take (HT.sIx its.length its.length hi - HT.sIx its.length 0 lo)).toArray := by
  obtain ⟨h1, h2, h3⟩ := slice_bounds lo hi its.toArray.size
  unfold slicePick
  rw [h1, h2, h3]
  simp only [sliceRange_one, pick_run, List.size_toArray] <;> rfl
/-- xs[lo:hi] of a list: a new list -/
def rSlL (K : PySem.W.Frag) : V → Option Int → Option Int → Hp → VK → Prop := fun x lo hi H Q => ∃ a xs, x = .ref a ∧ SqL K H a xs ∧ ∀ p, H p = none → Q (.ref p) (upd H p (.lst (cutV xs lo hi)))
theorem sl_list : SlR X (rSlL X.K) := by
  intro pins s σ H x v vl vu lo hi sl Q I rx hs pl pu h
  obtain ⟨a, xs, rfl, hx, q⟩ := h
  cases rx
  obtain ⟨its, r, ht, hz⟩ := I.list hx
  have hlen := r.length
  refine ⟨"list", _, slot_list_getitem.lookup, ht.isList.typeIs, ?_⟩
  refine wpAny_getItem_list_slice ht.isList hs pl pu .none (by simp) ?_ (by rw [List.size_toArray] <;> omega)
  rw [slicePick_cut, ← hlen]
  refine ⟨.ref s.heap.objs.size, _, I.laid (t' := s.toks) (o := .lst (cutV xs lo hi)) (fun b ob q => Heap.get?_push_of_some _ q) (Nat.le_refl _) ?_, rfl, q _ (I.hok.fresh (Nat.le_refl _))⟩
  exact ⟨Nat.le_trans (cutV_length xs lo hi) hz, _, 0, (r.drop (HT.sIx xs.length 0 lo)).take (HT.sIx xs.length xs.length hi - HT.sIx xs.length 0 lo), Heap.get?_push_size _ rfl⟩

/-! ### in, not in: flat items -/
def flatV : V → Bool
  | .non => true
  | .bl _ => true
  | .int _ => true
  | .str _ => true
  | _ => false
/-- == of flat values -/
def eqV : V → V → Bool
  | .non, .non => true
  | .bl a, .bl b => a == b
  | .bl a, .int b => (if a then 1 else 0) == b
  | .int a, .bl b => a == (if b then 1 else 0)
  | .int a, .int b => a == b
  | .str a, .str b => a == b
  | _, _ => false
theorem eqAt_V {A : Around} {s : Shared} {y x : V} {u v : Value} (ry : RelV y u) (rx : RelV x v) (fy : flatV y = true) (fx : flatV x = true) : SeqAt.EqAt A s u v (eqV y x) := by
  cases y with
  | non =>
    cases ry
    cases x with
    | non => cases rx; exact SeqAt.EqAt.same _
    | bl b => cases rx; exact SeqAt.EqAt.none_bool b
    | int b => obtain ⟨t, rfl⟩ := rx; exact SeqAt.EqAt.none_int b t
    | str b => obtain ⟨t, rfl⟩ := rx; exact SeqAt.EqAt.none_str b t
    | _ => exact absurd (show false = true from fx) Bool.false_ne_true
  | bl a =>
    cases ry
    cases x with
    | non => cases rx; exact SeqAt.EqAt.bool_none a
    | bl b => cases rx; exact SeqAt.EqAt.bool_bool a b
    | int b => obtain ⟨t, rfl⟩ := rx; exact SeqAt.EqAt.bool_int a b t
    | str b => obtain ⟨t, rfl⟩ := rx; exact SeqAt.EqAt.bool_str a b t
    | _ => exact absurd (show false = true from fx) Bool.false_ne_true
  | int a =>
    obtain ⟨t', rfl⟩ := ry
    cases x with
    | non => cases rx; exact SeqAt.EqAt.int_none a t'
    | bl b => cases rx; exact SeqAt.EqAt.int_bool a t' b
    | int b => obtain ⟨t, rfl⟩ := rx; exact SeqAt.EqAt.int_int a t' b t
    | str b => obtain ⟨t, rfl⟩ := rx; exact SeqAt.EqAt.int_str a t' b t
    | _ => exact absurd (show false = true from fx) Bool.false_ne_true
  | str a =>
    obtain ⟨t', rfl⟩ := ry
    cases x with
    | non => cases rx; exact SeqAt.EqAt.str_none a t'
    | bl b => cases rx; exact SeqAt.EqAt.str_bool a t' b
    | int b => obtain ⟨t, rfl⟩ := rx; exact SeqAt.EqAt.str_int a t' b t
    | str b => obtain ⟨t, rfl⟩ := rx; exact SeqAt.EqAt.str_str a t' b t
    | _ => exact absurd (show false = true from fx) Bool.false_ne_true
  | _ => exact absurd (show false = true from fy) Bool.false_ne_true
/-- the items' answers, read off the values (a value's own answer does not lean on its token) -/
def eqU (x : V) (u : Value) : Bool := match u with
  | .none => eqV .non x
  | .bool b => eqV (.bl b) x
  | .int i _ => eqV (.int i) x
  | .str z _ => eqV (.str z) x
  | _ => false
theorem eqU_of {x y : V} {u : Value} (r : RelV y u) (f : flatV y = true) : eqU x u = eqV y x := by
  cases y with
  | non => cases r; rfl
  | bl b => cases r; rfl
  | int i => obtain ⟨t, rfl⟩ := r; rfl
  | str z => obtain ⟨t, rfl⟩ := r; rfl
  | _ => exact absurd (show false = true from f) Bool.false_ne_true
theorem mem_eqAt {A : Around} {s : Shared} {x : V} {v : Value} (rx : RelV x v) (fx : flatV x = true) : ∀ {xs : List V} {us : List Value}, Vals xs us → xs.all flatV = true → ∀ u ∈ us, SeqAt.EqAt A s u v (eqU x u)
  | _, _, .nil, _ => fun u hu => by cases hu
  | y :: xs, u :: us, .cons r t, f => fun u' hu => by
    rw [List.all_cons, Bool.and_eq_true] at f
    rcases List.mem_cons.mp hu with rfl | hu
    · rw [eqU_of r f.1]; exact eqAt_V r rx f.1 fx
    · exact mem_eqAt rx fx t f.2 u' hu
def inV (x : V) (xs : List V) : Bool := xs.any fun y => eqV y x
/-- x in a list or tuple of flat items -/
def rIn (K : PySem.W.Frag) (neg : Bool) : R2 := fun x y H Q => ∃ p xs, y = .ref p ∧ (SqL K H p xs ∨ SqT K H p xs) ∧ flatV x = true ∧ xs.all flatV = true ∧ Q (.bl (if neg then !inV x xs else inV x xs)) H
/-! ### len, list(x), tuple(x) of any list or tuple that is read -/
theorem call_len_seq : CallR X (.builtin "len") (fun xs H Q => ∃ p ys, xs = [.ref p] ∧ (SqL X.K H p ys ∨ SqT X.K H p ys) ∧ Q (.int ys.length) H) := by
  intro pins s σ H xs us Q I r h
  obtain ⟨p, ys, rfl, hq, q⟩ := h
  obtain ⟨u, rfl, rx⟩ := vals1 r
  cases rx
  have hn := line63
  rcases hq with hq | hq
  · obtain ⟨its, r', pl, hz⟩ := I.list hq
    have hlen := r'.length
    exact Calls.call_len_list pl.isList (by simp only [List.size_toArray] <;> omega) ⟨.int ys.length, H, I.tok _, ⟨s.toks + 1, by rw [List.size_toArray, hlen]⟩, q⟩
  · obtain ⟨its, r', pl, hz⟩ := I.tuple hq
    have hlen := r'.length
    exact len_tuple pl (by simp only [List.size_toArray] <;> omega) ⟨.int ys.length, H, I.tok _, ⟨s.toks + 1, by rw [List.size_toArray, hlen]⟩, q⟩
/-! ### the call of a builtin's method: o.m(..) -/
/-- the value is of that builtin type -/
def tyV (K : PySem.W.Frag) (T : String) (x : V) (H : Hp) : Prop := match x with
  | .str _ => T = "str"
  | .int _ => T = "int"
  | .ref p => (T = "list" ∧ ∃ xs, SqL K H p xs) ∨ (T = "tuple" ∧ ∃ o, K.lookup p = some o ∧ o.cls = .type "tuple" ∧ o.dict = none) ∨
      (T = "dict" ∧ ((∃ kvs, H p = some (.dK kvs)) ∨ ∃ kvs, H p = some (.dT kvs))) ∨ (T = "set" ∧ ∃ S n, H p = some (.set S n))
  | _ => False
theorem tyV_is {pins : List (Addr × Obj)} {σ : St} {H : Hp} {s : Shared} {T : String} {x : V} {v : Value} (I : Inv X pins σ H s) (r : RelV x v) (ty : tyV X.K T x H) :
    s.TypeIs v T ∧ ∀ a, v = .ref a → ∃ ob, s.heap.get? a = some ob ∧ ob.dict = none := by
  cases x with
  | str z =>
    obtain ⟨t, rfl⟩ := r
    cases (show T = "str" from ty)
    exact ⟨typeIs_str s z t, fun _ e => nomatch e⟩
  | int i =>
    obtain ⟨t, rfl⟩ := r
    cases (show T = "int" from ty)
    exact ⟨typeIs_int s i t, fun _ e => nomatch e⟩
  | ref p =>
    cases r
    rcases ty with ⟨rfl, xs, hq⟩ | ⟨rfl, o, hk, hc, hd⟩ | ⟨rfl, hk⟩ | ⟨rfl, S, n, hk⟩
    · obtain ⟨its, _, pl, _⟩ := I.list hq
      refine ⟨pl.isList.typeIs, fun a e => ?_⟩
      cases e
      obtain ⟨o, n, e, c, hd, _⟩ := pl
      exact ⟨o, e, hd⟩
    · refine ⟨⟨o, I.kIn p o hk, hc⟩, fun a e => ?_⟩
      cases e
      exact ⟨o, I.kIn _ o hk, hd⟩
    · have z : ∃ o, s.heap.get? p = some o ∧ o.ExactDict := by
        rcases hk with ⟨kvs, hk⟩ | ⟨kvs, hk⟩
        · obtain ⟨_, _, _, _, o, _, _, e, ex, _⟩ := I.hok p _ hk
          exact ⟨o, e, ex⟩
        · obtain ⟨_, _, _, _, o, _, _, e, ex, _⟩ := I.hok p _ hk
          exact ⟨o, e, ex⟩
      obtain ⟨o, e, ex⟩ := z
      refine ⟨⟨o, e, ex.1⟩, fun a e2 => ?_⟩
      cases e2
      exact ⟨o, e, ex.2.1⟩
    · obtain ⟨o, _, _, _, e, ex, _⟩ := I.hok p _ hk
      refine ⟨⟨o, e, ex.1⟩, fun a e2 => ?_⟩
      cases e2
      exact ⟨o, e, ex.2.1⟩
  | _ => exact False.elim ty
def tBM0 (K : PySem.W.Frag) (T : String) (r : V → List V → Hp → VK → Prop) (to : TE) : TE := fun σ H Q => to σ H fun x H1 => tyV K T x H1 ∧ r x [] H1 Q
def tBM (K : PySem.W.Frag) (T : String) (r : V → List V → Hp → VK → Prop) (to : TE) (t : TA) : TE := fun σ H Q => to σ H fun x H1 => tyV K T x H1 ∧ t σ H1 fun xs H2 => r x xs H2 Q
variable {o e : Expr} {es : List Expr} {to : TE} {t : TA} {name : Str} {apos cpos : Pos} {T id : String} {r : V → List V → Hp → VK → Prop}
theorem pe_bm (pa : PlainAttrs T) (slot : Slot T name id) (hty : typeOf (.builtin id) = pure (.type "method_descriptor")) (hm : MtR X id r) (ho : PE X o to) (ha : PA X (e :: es) t)
    (hbase : attributeBase o name X.env (eval o X.env) = eval o X.env := by rfl)
    (hfew : ((backTo cpos (starEach (e :: es) X.env)).all (fun x => !x.1) && (backToKw cpos (keywordEach [] X.env)).all (fun x => x.1.isSome)
      && decide ((e :: es).length + ([] : List Keyword).length + (if ([] : List Keyword).isEmpty then 0 else 1) < 30)) = true := by rfl)
    (hline : (apos.endLine == cpos.line) = true := by rfl) (hs : starEach (e :: es) X.env = (false, eval e X.env) :: starEach es X.env := by rfl) (hplain : (backTo cpos (starEach es X.env)).any (·.1) = false := by rfl) :
    PE X (.Call (.Attribute o name apos) (e :: es) [] cpos) (tBM X.K T r to t) := by
  intro pins s σ H Q I h
  refine wpAny_Call_method_late hbase hfew hline rfl (thn (ho pins s σ H _ I h) fun v s1 ⟨x, H1, I1, r1, ty, q1⟩ => ?_)
  obtain ⟨h1, h2⟩ := tyV_is I1 r1 ty
  refine ⟨T, id, pa, slot, hty, h1, h2, ?_⟩
  have hA := ha cpos pins s1 σ H1 _ I1 q1
  rw [hs] at hA ⊢
  refine Calls.callWith_builtin (by show (false || (backTo cpos (starEach es X.env)).any (·.1)) = false; rw [hplain] <;> rfl) (Calls.evalArgs_plain ?_)
  exact thn hA fun us s2 ⟨vs, H2, I2, r2, q2⟩ => hm pins s2 σ H2 x vs v us Q I2 r1 r2 q2
/- xs.append(e), list.index on a module's tuple .. are MtR facts of 06m -/
end
end L2

namespace L2
open PySem PySem.Spec PyProof.Rows

def MtM (X : Cx) (id : String) (r : V → List V → Hp → VK → Prop) : Prop :=
  ∀ (pins : List (Addr × Obj)) (s : Shared) (σ : St) (H : Hp) (x : V) (xs : List V) (v : Value) (us : List Value) (Q : VK), Inv X pins σ H s → RelV x v → Vals xs us → r x xs H Q →
    wpAny (model X.prog X.w) X.A (call (.builtin id) (v :: us)) (EP X pins σ Q) X.xe s

/-! ### lists of values -/
theorem Vals.one : ∀ {x : V} {us : List Value}, Vals [x] us → ∃ u, us = [u] ∧ RelV x u
  | _, _, .cons r .nil => ⟨_, rfl, r⟩
theorem Vals.reverse {xs : List V} {us : List Value} (h : Vals xs us) : Vals xs.reverse us.reverse := by
  induction h with
  | nil => exact .nil
  | cons r t ih => rw [List.reverse_cons, List.reverse_cons]; exact Vals.append ih (.cons r .nil)
section
variable {X : Cx} {pins : List (Addr × Obj)} {σ : St} {H : Hp} {s : Shared} {l b : Addr} {xs ys zs : List V}

/-! ### the two steps: a tracked list is rewritten, a new list is laid -/
theorem Inv.lset {its its' : List Value} {n : Nat} {f : Array Value → Array Value} {t' : Nat} (I : Inv X pins σ H s) (hH : H l = some (.lst xs))
    (e : s.heap.get? l = some { cls := .type "list", data := .seq its.toArray n }) (hf : f its.toArray = its'.toArray) (hv : Vals ys its') (hz : ys.length ≤ sizeLine) :
    Inv X pins σ (upd H l (.lst ys)) { s with heap := s.heap.update l (Obj.mapSeq f), toks := t' } := by
  have q := PySem.IsL.update e f
  rw [hf] at q
  refine I.write (x := l) (e := l) (by rw [hH]; exact trivial) (.inl rfl) (fun b' u hb hu => (Heap.get?_update_other s.heap (Obj.mapSeq f) (Ne.symm hb)).trans hu) ⟨_, q⟩ ?_
  exact ⟨hz, its', _, hv, q⟩
theorem Inv.lnew {its : List Value} {t' : Nat} (I : Inv X pins σ H s) (hv : Vals ys its) (hz : ys.length ≤ sizeLine) :
    Inv X pins σ (upd H s.heap.objs.size (.lst ys)) { s with heap := s.heap.push { cls := .type "list", data := .seq its.toArray }, toks := t' } :=
  I.laid (fun _ _ q => Heap.get?_push_of_some _ q) (Nat.le_refl _) ⟨hz, its, 0, hv, Heap.get?_push_size _ rfl⟩
theorem Inv.fresh (I : Inv X pins σ H s) : H s.heap.objs.size = none := I.hok.fresh (Nat.le_refl _)
theorem Inv.lstM (I : Inv X pins σ H s) (hH : H l = some (.lst xs)) : xs.length ≤ sizeLine ∧ ∃ (its : List Value) (n : Nat), Vals xs its ∧ xs.length = its.length ∧ s.heap.get? l = some { cls := .type "list", data := .seq its.toArray n } := by
  obtain ⟨z, its, n, r, e⟩ := I.hok l _ hH
  exact ⟨z, its, n, r, r.length, e⟩

end

section
variable {X : Cx}

/-! ### methods -/
def rAppend : V → List V → Hp → VK → Prop := fun x vs H Q => ∃ l xs y, x = .ref l ∧ vs = [y] ∧ H l = some (.lst xs) ∧ xs.length < sizeLine ∧ Q .non (upd H l (.lst (xs ++ [y])))
theorem mt_append : MtM X "list.append" rAppend := by
  intro pins s σ H x vs v us Q I rx rv h
  obtain ⟨l, xs, y, rfl, rfl, hH, hz, q⟩ := h
  cases rx
  obtain ⟨u, rfl, ru⟩ := rv.one
  obtain ⟨z, its, n, r, hl, e⟩ := I.lstM hH
  refine call_meets F.slot_list_append ⟨_, e, rfl⟩ F.entry_list_append (F.args_list_append_2 _ _) (PySem.list_append l its.toArray n u (by rw [List.size_toArray]; omega)) ⟨e, ?_⟩
  refine ⟨.non, _, I.lset (its' := its ++ [u]) hH e (by simp) (r.append (.cons ru .nil)) ?_, rfl, q⟩
  rw [List.length_append, List.length_singleton]
  omega

def rExtend : V → List V → Hp → VK → Prop := fun x vs H Q => ∃ l b xs zs, x = .ref l ∧ vs = [.ref b] ∧ H l = some (.lst xs) ∧ H b = some (.lst zs) ∧ xs.length + zs.length ≤ sizeLine ∧ Q .non (upd H l (.lst (xs ++ zs)))
def rPop : V → List V → Hp → VK → Prop := fun x vs H Q => ∃ l xs y, x = .ref l ∧ vs = [] ∧ H l = some (.lst xs) ∧ xs[xs.length - 1]? = some y ∧ Q y (upd H l (.lst xs.dropLast))
def rPopAt : V → List V → Hp → VK → Prop := fun x vs H Q => ∃ l xs i k y, x = .ref l ∧ vs = [.int i] ∧ H l = some (.lst xs) ∧ -(2 ^ 63) ≤ i ∧ i < 2 ^ 63 ∧ seqIndex? i xs.length = some k ∧ xs[k]? = some y ∧ Q y (upd H l (.lst (xs.eraseIdx k)))
def rReverse : V → List V → Hp → VK → Prop := fun x vs H Q => ∃ l xs, x = .ref l ∧ vs = [] ∧ H l = some (.lst xs) ∧ Q .non (upd H l (.lst xs.reverse))
def rClear : V → List V → Hp → VK → Prop := fun x vs H Q => ∃ l xs, x = .ref l ∧ vs = [] ∧ H l = some (.lst xs) ∧ Q .non (upd H l (.lst []))
/-! ### list + list, list += list, list * int -/
def rCat : R2 := fun x y H Q => ∃ l b xs zs, x = .ref l ∧ y = .ref b ∧ H l = some (.lst xs) ∧ H b = some (.lst zs) ∧ xs.length + zs.length ≤ sizeLine ∧ ∀ p, H p = none → Q (.ref p) (upd H p (.lst (xs ++ zs)))
theorem op_cat : OpR X (binaryOp .Add) rCat := by
  intro pins s σ H x y v u Q I rx ry h
  obtain ⟨l, b, xs, zs, rfl, rfl, hH, hB, hz, q⟩ := h
  cases rx
  cases ry
  obtain ⟨z, its, n, r, hl, e⟩ := I.lstM hH
  obtain ⟨z2, its2, n2, r2, hl2, e2⟩ := I.lstM hB
  refine PySem.P.add_list e e2 ?_ (by rw [List.size_toArray, List.size_toArray]; omega)
  have ea : its.toArray ++ its2.toArray = (its ++ its2).toArray := by simp
  rw [ea]
  exact ⟨.ref _, _, I.lnew (t' := s.toks) (r.append r2) (by rw [List.length_append]; omega), rfl, q _ I.fresh⟩
/-- a list times an int (a negative one is nothing) -/
def rRep : R2 := fun x y H Q => ∃ l k xs, x = .ref l ∧ y = .int k ∧ H l = some (.lst xs) ∧ -(2 ^ 63) ≤ k ∧ k < 2 ^ 63 ∧ xs.length * k.toNat ≤ sizeLine ∧
  ∀ p, H p = none → Q (.ref p) (upd H p (.lst (List.replicate k.toNat xs).flatten))
/-! ### del xs[i] -/
end

/-! ### xs[a:b] = ys -/
section
variable {prog : Program} {w : World} {A : Around} {E : Value → Shared → Prop} {s : Shared}
set_option maxRecDepth 100000 in
end

section
variable {X : Cx}
end
end L2

namespace Att
open PySem PySem.W PySem.Calls PyProof.Rows

/-! ### the script -/
theorem ints_of_wellAll {P : Params} {h : Heap} : ∀ (ns : List Int) (vs : List Value), WellAll P h vs (ns.map WData.int) → IntsAre vs ns := by
  intro ns
  induction ns with
  | nil =>
    intro vs w
    rw [List.map_nil] at w
    cases w
    exact .nil
  | cons n ns ih =>
    intro vs w
    rw [List.map_cons] at w
    cases w with
    | cons a b =>
      cases a
      exact .cons _ _ (ih _ b)

theorem script_of {l : OpenLaw} {n : Nat} (hn : l.most = some n) {P : Params} {h : Heap} {args : List WData} {vals : List Value}
    (hpre : l.row.toRowW.claim.pre args = true) (hwl : WellAll P h vals args) :
    ∃ a vs ns, vals = [Value.ref a] ∧ args = [WData.list (ns.map WData.int)] ∧ h.get? a = some { cls := .type "list", data := .seq vs.toArray } ∧ IntsAre vs ns ∧ ns.length ≤ n := by
  have hsh : WShape.hasAll [] args [.list .int] = true := (pre_splitW hpre).1
  have hc : l.pre.holds [] { args := args } = true := (pre_splitW hpre).2
  obtain ⟨d, r, rfl, h1, h2⟩ := hasAllW_cons hsh
  obtain rfl := hasAllW_nil h2
  obtain ⟨xs, rfl, h3⟩ := hasW_list h1
  obtain ⟨ns, rfl⟩ := items_int h3
  have hlen : ns.length ≤ n := by
    unfold OpenLaw.pre at hc
    have h4 : (WTm.not (.lt (.lit (.int (n : Int))) (.len (.arg 0)))).holds [] { args := [.list (ns.map .int)] } = true := by
      have h4 := (holds_andW hc).1
      rw [hn] at h4
      exact h4
    have h5 := condW_of h4 (w_not (w_lt w_lit (w_len_list (w_arg rfl))))
    rw [List.length_map] at h5
    refine Nat.le_of_not_lt fun q => ?_
    have q' : (n : Int) < ((ns.length : Nat) : Int) := by omega
    first
      | (rw [decide_eq_true q'] at h5; exact absurd h5 (by decide))
      | (simp at h5; omega)
  cases hwl with
  | cons w1 w2 =>
    cases w2
    cases w1 with
    | list ho hall => exact ⟨_, _, ns, rfl, rfl, ho, ints_of_wellAll ns _ hall, hlen⟩

theorem post_true (l : OpenLaw) (args : List WData) : l.row.toRowW.claim.post args (.bool true) args = true :=
  postW_of (r := l.row.toRowW) (X := (true == true))
    (show WShape.has [] (.bool true) .bool = true by first | rfl | decide | simp [WShape.has, WShape.arms, WShape.armsAll])
    (show (WTm.eq .res (.lit (.bool true))).value [] { args := args, res := some (.bool true), after := args } = some (.bool (true == true)) from w_eq_bool (w_res rfl) w_lit) rfl

/-! ### the attachment: holds_open's last premise (the goal 'hc' behind k_head) from a wpAny of the law's body -/
/-- the same from a codeAny of the CALL (for a layer whose function contracts speak of calls) -/
theorem attach_call {l : OpenLaw} {n : Nat} {q : Program} {loose : List Str} {XP : (Str → Option Value) → Heap → Prop} {YP : World → Heap → Prop} {d : DefRec}
    (hn : l.most = some n) (hdf : d.params.defaults = [])
    (call : ∀ (w : World) (s₀ s₁ : Shared) (mg mb : Str → Option Value) (fa : Addr) (o : Obj) (pm cd doc : Value) (a : Addr) (vs : List Value) (ns : List Int),
      Ground q loose [] XP w s₀ mg mb s₁.heap → YP w s₁.heap →
      s₁.heap.get? fa = some o → o.data = .func (docDef d.name d.params d.body d.scope pm cd doc) → s₁.heap.CodeRec cd d.name → mg d.name = some (.ref fa) →
      s₁.heap.get? a = some { cls := .type "list", data := .seq vs.toArray } → IntsAre vs ns → ns.length ≤ n → s₁.gens = #[] →
      codeAny (model l.prog w) callerA (.call (.ref fa) ⟨[.ref a], []⟩) (fun r s' => r = .ok (.ret (.bool true)) ∧ OldK s₁.heap s'.heap ∧ s'.os = s₁.os ∧ AllBare s'.gens) s₁) :
    WalkO q loose XP YP l.row.toRowW d [] (fun f vs => PySem.call f vs) := by
  intro w s₀ s₁ mg mb G Y fa o pm cd doc dV kV ho hd hcd hD hmg hg args vals as hpre hlay hrd hwl hlo
  obtain rfl : dV = .none := Dflts.none hD hdf
  obtain rfl : kV = .none := Dflts.noKw hD
  obtain ⟨a, vs, ns, rfl, rfl, hobj, hints, hlen⟩ := script_of hn hpre hwl
  refine enter_call (codeAny_mono (call w s₀ s₁ mg mb fa o pm cd doc a vs ns G Y ho (fd_plain hd) hcd hmg hobj hints hlen hg) fun r s' hq => ?_)
  obtain ⟨rfl, h2, h3, h4⟩ := hq
  exact ⟨.inl ⟨.bool true, .bool true, [], rfl, fun _ => rfl, .bool true, post_true l _, fun _ => ⟨List.Pairwise.nil, fun _ hm => (nomatch hm)⟩⟩, h2, h3, h4⟩

/-! ### rules over ANY heap (no ledger) from facts about the written part K: the library's own take a ledger (News) for what they write -/
section
variable {prog : Program} {w : World} {A : Around} {E : Value → Shared → Prop} {s : Shared} {K : Frag}

/-! the whole heap as the ledger: makes every rule that writes through a ledger a rule over any heap -/
def noObjs (h : Heap) : Heap := { h with objs := #[] }
def ledger (h : Heap) (L d : Addr) : List (Addr × Obj) := (List.range h.objs.size).filterMap fun a => if a = L ∨ a = d then none else (h.get? a).map fun o => (a, o)
end
end Att

namespace L2
open PySem PySem.Spec PyProof.Rows

theorem vals_ints : ∀ {vs : List Value} {ns : List Int}, IntsAre vs ns → Vals (ns.map V.int) vs
  | _, _, .nil => .nil
  | _, _, .cons n t h => .cons ⟨t, rfl⟩ (vals_ints h)

/-- nothing is tracked but the script, known to the object (or it is an object of the module) -/
def Only (H : Hp) : Prop := ∀ b, H b = none ∨ ∃ o xs, H b = some (.frz o (.lst xs))

/-- THE HEAD: the law's promise, at the heap behind the top. F, the promise of the law's def, may use that base is part of the heap (so K.In base, base.Ns mainGlobals mg stand in Mod) -/
theorem law_call {P : Program} {w : World} {K : PySem.W.Frag} {mg mb : Str → Option Value} {CX : CXT} {k : Nat} {fa a : Addr} {fd : FuncData} {x : Str} {sp : Sp} {s₁ : Shared} {vs : List Value} {ns : List Int}
    (KX : K.In s₁.heap) (hns : s₁.heap.Ns mainGlobals mg) (hb : s₁.heap.Ns builtinsNs mb) (hbb : ∀ x : Str, x ≠ "__name__" → mb x = bootBuiltins x) (hlim : s₁.heap.NoLimit) (hg : s₁.gens = #[])
    (ha : s₁.heap.get? a = some { cls := .type "list", data := .seq vs.toArray }) (hi : IntsAre vs ns) (hl : ns.length ≤ sizeLine) (hr : Room k callerA)
    (F : ∀ base : Heap, K.In base → base.Ns mainGlobals mg → FnOk P w K mg base CX k fa fd [x] sp) (hbind : ∀ (s : Shared) (u : Value), BindsTo s fd ⟨[u], []⟩ [(x, u)])
    (hsp : ∀ H : Hp, Only H → SqL K H a (ns.map V.int) → sp [.ref a] H (fun v _ => v = .bl true) fun _ _ _ => False)
    (hCX : ∀ H e s', CX [] H s₁ (fun _ _ _ => False) e s' → False) :
    codeAny (model P w) callerA (.call (.ref fa) ⟨[.ref a], []⟩) (fun r s' => r = .ok (.ret (.bool true)) ∧ OldK s₁.heap s'.heap ∧ s'.os = s₁.os ∧ AllBare s'.gens) s₁ := by
  have rv := vals_ints hi
  have lenV := hi.length
  -- from an abstract heap in which nothing but the script may be tracked
  have core : ∀ H : Hp, Only H → SqL K H a (ns.map V.int) → HOk P w H s₁.heap → (∀ b, H b ≠ none → b = a) → (H a ≠ none → K.lookup a = none) →
      codeAny (model P w) callerA (.call (.ref fa) ⟨[.ref a], []⟩) (fun r s' => r = .ok (.ret (.bool true)) ∧ OldK s₁.heap s'.heap ∧ s'.os = s₁.os ∧ AllBare s'.gens) s₁ := by
    intro H hO hS hok hA hK
    have base_of : ∀ {b : Addr} {o : Obj}, s₁.heap.get? b = some o → H b = none → (hidT s₁.heap H).get? b = some o := fun e n => hidT_get e n
    have noA : ∀ {b : Addr} {o : Obj} {es : Array DictEntry} {ep : Nat}, s₁.heap.get? b = some o → o.data = .dict es ep → H b = none := fun {b o es ep} e d => by
      cases q : H b with
      | none => rfl
      | some u =>
        have e' : b = a := hA b (by rw [q]; simp)
        subst e'
        rw [ha] at e; cases e
        have d' : Data.seq vs.toArray _ = Data.dict es ep := d
        cases d'
    have nsK : ∀ {b : Addr} {m : Str → Option Value}, s₁.heap.Ns b m → (hidT s₁.heap H).Ns b m := fun {b m} ⟨o, es, ep, e, d, r⟩ => ⟨o, es, ep, base_of e (noA e d), d, r⟩
    have hKb : K.In (hidT s₁.heap H) := fun b o e => base_of (KX b o e) (by
      cases q : H b with
      | none => rfl
      | some u =>
        have e' : b = a := hA b (by rw [q]; simp)
        subst e'
        rw [hK (by rw [q]; simp)] at e; cases e)
    have hM : Mod K mg (hidT s₁.heap H) := ⟨hKb, nsK hns, ⟨mb, nsK hb, hbb⟩, let ⟨mc, h1, h2⟩ := hlim; ⟨mc, nsK h1, h2⟩⟩
    have e0 : Env0 P w K mg (hidT s₁.heap H) callerA [] s₁ H := ⟨rfl, hM, fun b o e => of_hidT e, Nat.le_of_eq (hidT_size _ _), trivial, fun b hb => absurd (show b ∈ ([] : List Addr) from hb) (by simp), hok, .of_eq hg⟩
    refine codeAny_mono ((F _ hKb (nsK hns)).run callerA [] s₁ H ⟨[.ref a], []⟩ [.ref a] [.ref a] _ _ hr e0 (hbind s₁ (.ref a)) (.cons rfl .nil) (hsp H hO hS)) fun r s' h => ?_
    cases r with
    | error e => exact (hCX H e s' h).elim
    | ok fl =>
      cases fl with
      | next => exact False.elim h
      | brk => exact False.elim h
      | cont => exact False.elim h
      | ret u =>
        obtain ⟨v, H', os, bare, un, hok', r', q⟩ := h
        have q' : v = .bl true := q
        subst q'
        obtain rfl : u = Value.bool true := r'
        refine ⟨rfl, OldK.of_keep fun b o e => ?_, os, bare⟩
        cases q : H b with
        | none => exact un.keep b o e q (by intro z; exact absurd (show b ∈ ([] : List Addr) from z) (by simp)) (by simp)
        | some u =>
          rcases hO b with z | ⟨ob, xs, z⟩
          · rw [q] at z; cases z
          · have z2 := un.frzs b ob _ z
            obtain ⟨e1, _⟩ := hok b _ z
            obtain ⟨e2, _⟩ := hok' b _ z2
            rw [e] at e1; cases e1
            exact e2
  cases hk : K.lookup a with
  | some o =>
    -- the script is one of the module's own objects
    have e := KX a o hk
    rw [ha] at e
    cases e
    refine core (fun _ => none) (fun _ => .inl rfl) (.inr ⟨_, vs.toArray, _, hk, rfl, rfl, rfl, by rw [List.size_toArray, lenV]; exact hl, by simpa using rv⟩) (fun b u z => by have z' : (none : Option HO) = some u := z; cases z') (fun b z => absurd rfl z) fun z => absurd rfl z
  | none =>
    refine core (fun b => if b = a then some (.frz { cls := .type "list", data := .seq vs.toArray } (.lst (ns.map V.int))) else none) (fun b => ?_) (.inl (.inr ⟨{ cls := .type "list", data := .seq vs.toArray }, if_pos rfl⟩)) (fun b u z => ?_) (fun b z => ?_) fun _ => hk
    · by_cases hb : b = a
      · exact .inr ⟨_, _, if_pos hb⟩
      · exact .inl (if_neg hb)
    · by_cases hb : b = a
      · have z' := (if_pos hb).symm.trans z
        cases z'
        subst hb
        exact ⟨ha, by rw [List.length_map]; exact hl, vs, _, rv, ha⟩
      · have z' := (if_neg hb).symm.trans z
        cases z'
    · by_cases hb : b = a
      · exact hb
      · exact absurd (if_neg hb) z
end L2

namespace L2
open PySem PySem.Spec PyProof.Rows

abbrev KOf {K : PySem.W.Frag} {h : Heap} (_ : K.In h) : PySem.W.Frag := K

/-- the goal that k_head leaves (case hc), from the law's promise. F gives the function object fd (K's own) once, then the promise over every base -/
theorem walk_of {l : PySem.W.OpenLaw} {n k : Nat} {q : Program} {loose : List Str} {XP : (Str → Option Value) → Heap → Prop} {YP : World → Heap → Prop} {d : DefRec} {K : Params → PySem.W.Frag} {CX : World → CXT} {sp : World → Sp} {x : Str}
    (hn : l.most = some n) (hn2 : n ≤ sizeLine) (hdf : d.params.defaults = []) (hr : Room k callerA)
    (hY : ∀ (w : World) (h : Heap), YP w h → (K w.params).In h)
    (F : ∀ (w : World) (mg : Str → Option Value) (fa : Addr) (h : Heap), (K w.params).In h → h.Ns mainGlobals mg → mg d.name = some (.ref fa) →
      ∃ fd : FuncData, (∀ (s : Shared) (u : Value), BindsTo s fd ⟨[u], []⟩ [(x, u)]) ∧
        ∀ base : Heap, (K w.params).In base → base.Ns mainGlobals mg → FnOk l.prog w (K w.params) mg base (CX w) k fa fd [x] (sp w))
    (hsp : ∀ (w : World) (H : Hp) (a : Addr) (ns : List Int), ns.length ≤ n → Only H → SqL (K w.params) H a (ns.map V.int) → sp w [.ref a] H (fun v _ => v = .bl true) fun _ _ _ => False)
    (hCX : ∀ (w : World) (H : Hp) (s : Shared) (e : Value) (s' : Shared), CX w [] H s (fun _ _ _ => False) e s' → False) :
    PySem.W.WalkO q loose XP YP l.row.toRowW d [] (fun f vs => PySem.call f vs) := by
  refine Att.attach_call hn hdf fun w s₀ s₁ mg mb fa o pm cd doc a vs ns G Y ho hd hcd hmg hobj hints hlen hg => ?_
  have KX := hY w _ Y
  obtain ⟨fd, hb, hF⟩ := F w mg fa _ KX G.T.g hmg
  exact law_call KX G.T.g G.T.b G.T.builtins G.T.nolimit hg hobj hints (Nat.le_trans hlen hn2) hr hF hb (fun H hO hS => hsp w H a ns hlen hO hS) fun H e s' => hCX w H s₁ e s'
end L2

/- THE LAST THEOREM (shape; LID, My.* are yours):
   My.Adr: a structure of the addresses that your layer names (classes, functions); My.Txt K t: a structure (Prop) of the equations over K;
   My.txt_mk : {K} {implicit addresses ..} (e1 : nsIn K mainGlobals "law" = some (some (.ref f))) (e2 : K.lookup f = some ⟨oc, od, .func (fnOf "law" "law" params body scope dV kV doc pm an cdv ct), sl⟩) (e3 : codeIn K cdv "law" = true) .. : ∃ t, My.Txt K t

set_option maxRecDepth 100000 in
set_option maxHeartbeats 0 in
theorem PySem.Challenge.cw_LID_holds : PySem.Challenge.rw_LID.Holds := by
  w_on; o_law; k_head; (case hw => w_witness2)
  k_fill
  refine L2.walk_of (l := PySem.Challenge.rw_LID) (n := 63) (k := 40) (x := "script") (CX := fun w => ..) (sp := fun _ => My.sp_law) rfl (by decide) rfl ⟨rfl, by decide, by decide⟩ (fun w h Y => PySem.W.kIn_of Y) ?F ?S ?C
  case F =>
    intro w mg fa h KX G hmg
    have T : ∃ t, My.Txt (L2.KOf KX) t := by
      dsimp only [L2.KOf]                          -- K must stand as «<heap const> w.params» for k_is
      refine' My.txt_mk ?e1 ?e2 ?e3 ..
      (case e1 => PySem.W.k_is)                    -- in the order: a name -> its address -> its object -> its parts
      (case e2 => PySem.W.k_is)
      ..
    obtain ⟨t, T⟩ := T
    have e0 := hmg.symm.trans (PySem.W.mg_of KX G T.law)
    cases e0                                       -- fa is the law's own address
    exact ⟨_, fun s u => .of_eq rfl, fun base kb nb => My.law_fn T kb nb⟩     -- if «.of_eq rfl» comes too early: refine' ⟨_, ?b, fun base kb nb => My.law_fn T kb nb⟩; exact fun s u => .of_eq rfl
  case S => exact fun w H a ns hl hO hS => ..
  case C => exact ..
(the tactic k_is has no namespace: write k_is) -/

/-! SHORT WORDS over the layer: a def of the text, its body, what a loop and a test want. -/
namespace L2
open PySem PySem.Spec PyProof.Rows

/-! ### the text by places -/
/-- the j-th statement of a class's body -/
def inClass (s : Stmt) (j : Nat) : Stmt := match s with
  | .ClassDef _ _ _ body _ _ _ _ _ _ _ => body.getD j (.Pass ⟨0, 0, 0, 0⟩)
  | _ => .Pass ⟨0, 0, 0, 0⟩
def defArgs (s : Stmt) : Arguments := match s with
  | .FunctionDef _ a _ _ _ _ _ _ _ _ => a
  | _ => { posonlyargs := [], args := [], vararg := none, kwonlyargs := [], kw_defaults := [], kwarg := none, defaults := [] }
def defBody (s : Stmt) : List Stmt := match s with
  | .FunctionDef _ _ b _ _ _ _ _ _ _ => b
  | _ => []
def defScope (s : Stmt) : Scope := match s with
  | .FunctionDef _ _ _ _ _ _ sc _ _ _ => sc
  | _ => { kind := .function, names := [], isGenerator := false, isCoroutine := false }

/-! ### no exception leaves a def -/
abbrev CX0 : CXT := fun _ _ _ _ _ _ => False
abbrev E0 : XK := fun _ _ _ => False
theorem pass0 {X : Cx} : Passes CX0 X E0 := fun _ _ _ _ _ _ _ h => h.elim

/-! ### a def (or method) of the text as it stands behind the top -/
structure Fun (K : PySem.W.Frag) (x qual : Str) (st : Stmt) (f : Addr) (fd : FuncData) : Prop where
  ex : ∃ (oc : Value) (od : Option Addr) (kV doc pm : Value) (an : Option Addr) (cdv ct : Value) (osl : Array (Option Value)),
    fd = PySem.W.fnOf x qual (defArgs st) (defBody st) (defScope st) .none kV doc pm an cdv ct ∧ K.lookup f = some ⟨oc, od, .func fd, osl⟩ ∧ PySem.W.codeIn K cdv qual = true
  kp : PySem.W.keepIn K (.ref f) = true
section
variable {P : Program} {w : World} {K : PySem.W.Frag} {mg : Str → Option Value} {base : Heap}
/-- THE RULE for a def: its body as a term of rules, and the reading of that term -/
theorem Fun.ok {x qual : Str} {st : Stmt} {f : Addr} {fd : FuncData} {N ps : List Str} {k : Nat} {sp : Sp} (F : Fun K x qual st f fd) (S : FnScope N ps (defScope st)) (len : ∀ vs H Q E, sp vs H Q E → vs.length = ps.length)
    (hbody : ∀ (cdv : Value) (A : Around) (outer : List Env) (s : Shared) (H : Hp) (vs : List V) (Q : VK) (E : XK), Room k (A.deeper (envOfC qual (defScope st) s.heap.objs.size f cdv)) → sp vs H Q E →
      ∃ t, PSs (cxOf CX0 P w K mg base N qual (defScope st) f cdv A outer s H E).nox (defBody st) t ∧ t { nx := fun _ H' => Q .non H', rt := Q } (start N vs) H) : FnOk P w K mg base CX0 (k + 1) f fd ps sp := by
  obtain ⟨oc, od, kV, doc, pm, an, cdv, ct, osl, rfl, lk, hcd⟩ := F.ex
  refine fn_of lk hcd S len fun A outer s H vs Q E hr hsp => ?_
  obtain ⟨t, h, q⟩ := hbody cdv A outer s H vs Q E hr hsp
  exact ⟨t, h.nox, q⟩
theorem fun_mk {x qual : Str} {st : Stmt} {f : Addr} {oc : Value} {od an : Option Addr} {osl : Array (Option Value)} {kV doc pm cdv ct : Value} (l : K.lookup f = some ⟨oc, od, .func (PySem.W.fnOf x qual (defArgs st) (defBody st) (defScope st) .none kV doc pm an cdv ct), osl⟩)
    (c : PySem.W.codeIn K cdv qual = true) (k : PySem.W.keepIn K (.ref f) = true) : Fun K x qual st f (PySem.W.fnOf x qual (defArgs st) (defBody st) (defScope st) .none kV doc pm an cdv ct) := ⟨⟨oc, od, kV, doc, pm, an, cdv, ct, osl, rfl, l, c⟩, k⟩
end
theorem small1000 {n : Nat} (h : n ≤ 1000) : n < sizeLine := Nat.lt_of_le_of_lt h (by decide)

/-! ### expressions in short: the name that stands in the i-th slot -/
section
variable {X : Cx}
theorem pv (i : Nat) {x : Str} {pos : Pos} (hN : X.N[i]? = some x := by rfl) (hv : Vis X.env.scope x := by first | exact Or.inl rfl | exact Or.inr (Or.inl rfl) | exact Or.inr (Or.inr rfl)) (hd : (x == ("__debug__" : Str)) = false := by decide)
    (hcd : (x == ("__classdict__" : Str)) = false := by decide) : PE X (.Name x pos) (tVar i) := pe_var hN hv hd hcd
end

/-! ### tests -/
theorem iteF {A B : Prop} (h : B) : if false = true then A else B := by
  rw [if_neg Bool.false_ne_true]
  exact h
theorem iteT {A B : Prop} (h : A) : if true = true then A else B := by
  rw [if_pos rfl]
  exact h
theorem ite2 {c A B : Prop} [Decidable c] (h1 : c → A) (h2 : ¬ c → B) : if c then A else B := by
  by_cases h : c
  · rw [if_pos h]
    exact h1 h
  · rw [if_neg h]
    exact h2 h
/-! ### heaps -/
/-- all that was tracked is as it was -/
def Same (H H' : Hp) : Prop := ∀ b o, H b = some o → H' b = some o
theorem Same.refl (H : Hp) : Same H H := fun _ _ h => h
theorem Same.trans {H H1 H2 : Hp} (a : Same H H1) (b : Same H1 H2) : Same H H2 := fun c o h => b c o (a c o h)
theorem Same.seq {K : PySem.W.Frag} {H H' : Hp} {a : Addr} {xs : List V} (e : Same H H') (h : SqL K H a xs) : SqL K H' a xs := by
  rcases h with (h | ⟨o, h⟩) | h
  · exact .inl (.inl (e _ _ h))
  · exact .inl (.inr ⟨o, e _ _ h⟩)
  · exact .inr h

end L2

namespace L2
open PySem PySem.Spec PyProof.Rows

/-! ### lists of pairs as tables -/
section
variable {κ : Type} [DecidableEq κ]
def valV (kvs : List (κ × V)) (k : κ) : Option V := (kvs.find? fun kv => decide (kv.1 = k)).map (·.2)
/-- in its place, or at the end -/
def putK (kvs : List (κ × V)) (k : κ) (v : V) : List (κ × V) :=
  if (kvs.any fun kv => decide (kv.1 = k)) = true then kvs.map (fun kv => if kv.1 = k then (kv.1, v) else kv) else kvs ++ [(k, v)]
def dropK (kvs : List (κ × V)) (k : κ) : List (κ × V) := kvs.filter fun kv => decide (kv.1 ≠ k)

end


/-! ### a tracked dict, its keys ints and texts or tuples of these -/
/-- raw entries of a dict with tuple keys -/
abbrev KT (H : Hp) : List (List Key × V) → List (List Key × Addr × Value) → Prop := Paired fun p q => p.1 = q.1 ∧ H q.2.1 = some (.tup (p.1.map kV)) ∧ RelV p.2 q.2.2
section
variable {P : Program} {w : World} {H : Hp} {h : Heap} {a : Addr}
end

/-- what the dict at a holds at the key y -/
def DGet (H : Hp) (a : Addr) (y : V) (r : Option V) : Prop :=
  (∃ kvs k, Rd H a (.dK kvs) ∧ y = kV k ∧ r = valV kvs k) ∨ ∃ kvs k b, Rd H a (.dT kvs) ∧ y = .ref b ∧ H b = some (.tup (k.map kV)) ∧ r = valV kvs k
/-- the heap behind a[y] = v -/
def DPut (H : Hp) (a : Addr) (y v : V) (H' : Hp) : Prop :=
  (∃ kvs k, H a = some (.dK kvs) ∧ y = kV k ∧ kvs.length < sizeLine ∧ H' = upd H a (.dK (putK kvs k v))) ∨
  ∃ kvs k b, H a = some (.dT kvs) ∧ y = .ref b ∧ H b = some (.tup (k.map kV)) ∧ kvs.length < sizeLine ∧ H' = upd H a (.dT (putK kvs k v))
section
variable {X : Cx} {pins : List (Addr × Obj)} {σ : St} {H : Hp} {s : Shared} {a : Addr} {y v : V} {u r : Value} {o : Option V} {A : Around} {E : Value → Shared → Prop}

end

section
variable {X : Cx} {pins : List (Addr × Obj)} {σ : St} {H : Hp} {s : Shared} {a : Addr} {kvs : List (Key × V)} {k : Key} {u : Value} {A : Around} {E : Value → Shared → Prop}
end


/-! ### readings and rules -/
/-- the element of a subscription, not a slice -/
def NoSl (i : Expr) : Prop := ∀ ov iv, subscripted i false ov iv = operate [ov, iv] (getItem ov iv)
/-- d[y] -/
def tDGet (td ty : TE) : TE := fun σ H Q => td σ H fun x H1 => ty σ H1 fun y H2 => ∃ a v, x = .ref a ∧ DGet H2 a y (some v) ∧ Q v H2
/-- y in d, y not in d -/
def tDIn (ty td : TE) : TE := fun σ H Q => ty σ H fun y H1 => td σ H1 fun x H2 => ∃ a o, x = .ref a ∧ DGet H2 a y o ∧ Q (.bl o.isSome) H2
def tDNotIn (ty td : TE) : TE := fun σ H Q => ty σ H fun y H1 => td σ H1 fun x H2 => ∃ a o, x = .ref a ∧ DGet H2 a y o ∧ Q (.bl (!o.isSome)) H2
/-- d[y] = v -/
def sDPut (td ty tv : TE) : TS := fun D σ H => tv σ H fun v H1 => td σ H1 fun x H2 => ty σ H2 fun y H3 => ∃ a H4, x = .ref a ∧ DPut H3 a y v H4 ∧ D.nx σ H4
/-- d[y] op= v -/
def sDAug (td ty tv : TE) (rd : V → V → Hp → VK → Prop) : TS := fun D σ H => td σ H fun x H1 => ty σ H1 fun y H2 => ∃ a v, x = .ref a ∧ DGet H2 a y (some v) ∧
  tv σ H2 fun y2 H3 => rd v y2 H3 fun z H4 => ∃ H5, DPut H4 a y z H5 ∧ D.nx σ H5
/-- del d[y] -/
def sDDel (td ty : TE) : TS := fun D σ H => td σ H fun x H1 => ty σ H1 fun y H2 => ∃ a kvs k, x = .ref a ∧ H2 a = some (.dK kvs) ∧ y = kV k ∧ (valV kvs k).isSome = true ∧ D.nx σ (upd H2 a (.dK (dropK kvs k)))

section
variable {X : Cx} {o i e value : Expr} {pos pos' tpos : Pos} {td ty tv : TE}
end


/-! ### displays -/
/-- {}, to be a dict of the kind that is wanted -/
def tDNewK : TE := fun _ H Q => ∀ p, H p = none → Q (.ref p) (upd H p (.dK []))
def tDNewT : TE := fun _ H Q => ∀ p, H p = none → Q (.ref p) (upd H p (.dT []))
section
variable {X : Cx} {pos : Pos}
end

/-- the pairs of a display, from the left -/
def tPairs : List (TE × TE) → St → Hp → (List (V × V) → Hp → Prop) → Prop
  | [], _, H, Q => Q [] H
  | (tk, tv) :: r, σ, H, Q => tk σ H fun x H1 => tv σ H1 fun y H2 => tPairs r σ H2 fun ps H3 => Q ((x, y) :: ps) H3
abbrev VV : List (V × V) → List (Value × Value) → Prop := Paired fun p q => RelV p.1 q.1 ∧ RelV p.2 q.2
def PPs (X : Cx) (pos : Pos) (keys : List (Option Expr)) (values : List Expr) (trs : List (TE × TE)) : Prop :=
  ∀ (pins : List (Addr × Obj)) (s : Shared) (σ : St) (H : Hp) (Q : List (V × V) → Hp → Prop), Inv X pins σ H s → tPairs trs σ H Q →
    wpAny (model X.prog X.w) X.A (evalPairs (pairTrees keys values X.env pos)) (fun vs s' => ∃ ps H', Inv X pins σ H' s' ∧ VV ps vs ∧ Q ps H') X.xe s
def mergeK (kvs more : List (Key × V)) : List (Key × V) := more.foldl (fun acc kv => putK acc kv.1 kv.2) kvs
/-- {k: v, ..} with keys ints and texts; the new dict stands empty while the pairs are made -/
def tDisp (trs : List (TE × TE)) : TE := fun σ H Q => ∀ p, H p = none → tPairs trs σ (upd H p (.dK [])) fun ps H2 => H2 p = some (.dK []) ∧ ∃ kvs : List (Key × V), ps = kvs.map (fun kv => (kV kv.1, kv.2)) ∧ kvs.length ≤ 15 ∧ Q (.ref p) (upd H2 p (.dK (mergeK [] kvs)))
end L2
/-! my own rules over the layer: the glue of defs, floor division by great numbers, isinstance, is, tuples -/
namespace L2
open PySem PySem.Spec PyProof.Rows

theorem same_new {H : Hp} {p : Addr} (h : H p = none) (o : HO) : Same H (upd H p o) := fun b u q => by rw [upd_ne (ne_of_none q h)]; exact q
/-- a def of the top, by its name -/
structure Def (K : PySem.W.Frag) (mg : Str → Option Value) (x : Str) (st : Stmt) (ps : List Str) : Prop where
  ex : ∃ (f : Addr) (fd : FuncData), Fun K x x st f fd ∧ (∀ us : List Value, us.length = ps.length → bindArgs fd ⟨us, []⟩ = pure (ps.zip us)) ∧ mg x = some (.ref f)
theorem def_mk {K : PySem.W.Frag} {h : Heap} {mg : Str → Option Value} {x : Str} {st : Stmt} {ps : List Str} {f : Addr} {oc : Value} {od an : Option Addr} {osl : Array (Option Value)} {kV doc pm cdv ct : Value}
    (KX : K.In h) (G : h.Ns mainGlobals mg) (a : PySem.W.nsIn K mainGlobals x = some (some (.ref f)))
    (l : K.lookup f = some ⟨oc, od, .func (PySem.W.fnOf x x (defArgs st) (defBody st) (defScope st) .none kV doc pm an cdv ct), osl⟩)
    (c : PySem.W.codeIn K cdv x = true) (k : PySem.W.keepIn K (.ref f) = true)
    (b : ∀ (kV doc pm : Value) (an : Option Addr) (cdv ct : Value) (us : List Value), us.length = ps.length → bindArgs (PySem.W.fnOf x x (defArgs st) (defBody st) (defScope st) .none kV doc pm an cdv ct) ⟨us, []⟩ = pure (ps.zip us)) :
    Def K mg x st ps := ⟨f, _, fun_mk l c k, b kV doc pm an cdv ct, PySem.W.mg_of KX G a⟩

/-- what a caller knows of a def -/
structure Cal (P : Program) (w : World) (K : PySem.W.Frag) (mg : Str → Option Value) (base : Heap) (k : Nat) (x : Str) (ps : List Str) (sp : Sp) : Prop where
  ex : ∃ (f : Addr) (fd : FuncData), FnOk P w K mg base CX0 k f fd ps sp ∧ Binds K fd ps [] ∧ PySem.W.keepIn K (.ref f) = true ∧ mg x = some (.ref f)
theorem Def.cal {P : Program} {w : World} {K : PySem.W.Frag} {mg : Str → Option Value} {base : Heap} {k : Nat} {x : Str} {st : Stmt} {ps : List Str} {sp : Sp} (d : Def K mg x st ps)
    (F : ∀ (f : Addr) (fd : FuncData), Fun K x x st f fd → FnOk P w K mg base CX0 k f fd ps sp) : Cal P w K mg base k x ps sp := by
  obtain ⟨f, fd, h1, h2, h3⟩ := d.ex
  exact ⟨f, fd, F f fd h1, .all h2, h1.kp, h3⟩
section
variable {X : Cx} {k : Nat} {x : Str} {ps : List Str} {sp : Sp} {p pos : Pos} {e : Expr} {es : List Expr} {t : TA}
/-- f(..), f a def of the top -/
theorem pe_fn (c : Cal X.prog X.w X.K X.mg X.base k x ps sp) (hr : Room k X.A) (hg : Gl X x) (ha : PA X (e :: es) t) (hdb : (x == ("__debug__" : Str)) = false := by decide)
    (he : starEach (e :: es) X.env = (false, eval e X.env) :: starEach es X.env := by rfl) (hpl : (backTo pos (starEach es X.env)).any (·.1) = false := by rfl) :
    PE X (.Call (.Name x p) (e :: es) [] pos) (tCall sp [] E0 t) := by
  obtain ⟨f, fd, F, B, kp, m⟩ := c.ex
  exact pe_call F hr hg m kp B .nil pass0 ha hdb he hpl
end

/-- the law's own promise -/
def spLaw (K : PySem.W.Frag) : Sp := fun vs H Q _ => ∃ (a : Addr) (ns : List Int), vs = [.ref a] ∧ SqL K H a (ns.map V.int) ∧ ns.length ≤ 63 ∧ Only H ∧ ∀ H', Q (.bl true) H'
theorem law_mk {P : Program} {w : World} {K : PySem.W.Frag} {mg : Str → Option Value} {k : Nat} {st : Stmt} {fa : Addr} (d : Def K mg "law" st ["_law_script"])
    (F : ∀ (base : Heap) (f : Addr) (fd : FuncData), Fun K "law" "law" st f fd → FnOk P w K mg base CX0 k f fd ["_law_script"] (spLaw K)) (hmg : mg "law" = some (.ref fa)) :
    ∃ fd : FuncData, (∀ (s : Shared) (u : Value), BindsTo s fd ⟨[u], []⟩ [("_law_script", u)]) ∧ ∀ base : Heap, K.In base → base.Ns mainGlobals mg → FnOk P w K mg base CX0 k fa fd ["_law_script"] (spLaw K) := by
  obtain ⟨f, fd, h1, h2, h3⟩ := d.ex
  have e := hmg.symm.trans h3
  cases e
  exact ⟨fd, fun s u => .of_eq (h2 [u] rfl), fun base _ _ => F base _ _ h1⟩
theorem walkL {l : PySem.W.OpenLaw} {k : Nat} {q : Program} {loose : List Str} {XP : (Str → Option Value) → Heap → Prop} {YP : World → Heap → Prop} {d : DefRec} {K : Params → PySem.W.Frag} (hr : Room k callerA) (hn : l.most = some 63) (hdf : d.params.defaults = [])
    (hY : ∀ (w : World) (h : Heap), YP w h → (K w.params).In h)
    (F : ∀ (w : World) (mg : Str → Option Value) (fa : Addr) (h : Heap), (K w.params).In h → h.Ns mainGlobals mg → mg d.name = some (.ref fa) →
      ∃ fd : FuncData, (∀ (s : Shared) (u : Value), BindsTo s fd ⟨[u], []⟩ [("_law_script", u)]) ∧ ∀ base : Heap, (K w.params).In base → base.Ns mainGlobals mg → FnOk l.prog w (K w.params) mg base CX0 k fa fd ["_law_script"] (spLaw (K w.params))) :
    PySem.W.WalkO q loose XP YP l.row.toRowW d [] (fun f vs => PySem.call f vs) :=
  walk_of (n := 63) (k := k) (x := "_law_script") (CX := fun _ => CX0) (sp := fun w => spLaw (K w.params)) hn (by decide) hdf hr hY F (fun _ _ a ns hl hO hS => ⟨a, ns, rfl, hS, hl, hO, fun _ => rfl⟩) fun _ _ _ _ _ z => z

section
variable {X : Cx}
theorem log2_small {n : Nat} (h : n < 10 ^ 60) : n.log2 < 9000 := by
  by_cases h0 : n = 0
  · subst h0; decide
  · have h1 : n.log2 < 200 := (Nat.log2_lt h0).mpr (Nat.lt_of_lt_of_le h (by decide))
    omega
/-- // by a positive number of at most sixty digits -/
theorem op_fdivB : OpR X (binaryOp .FloorDiv) (rI (fun _ j => 0 < j ∧ j < 10 ^ 60) fun i j => .int (i / j)) := opI fun i j _ _ _ _ _ hc q => by
  have h1 : (0 : Int) < j := hc.1
  have h2 : j < 10 ^ 60 := hc.2
  exact floordiv_int (by omega) (by rw [Int.fdiv_eq_ediv_of_nonneg i (by omega)]; exact q) (.inl (PyProof.noPylong_of_log2 (log2_small (by omega))))
/-- t + u of any two tuples -/
theorem op_catU : OpR X (binaryOp .Add) (fun x y H Q => ∃ a b xs ys, x = .ref a ∧ y = .ref b ∧ SqT X.K H a xs ∧ SqT X.K H b ys ∧ xs.length + ys.length ≤ sizeLine ∧
    ∀ p H', Same H H' → SqT X.K H' p (xs ++ ys) → (H a = some (.tup xs) → H b = some (.tup ys) → H' p = some (.tup (xs ++ ys))) → Q (.ref p) H') := by
  intro pins s σ H x y v u Q I rx ry h
  obtain ⟨a, b, xs, ys, rfl, rfl, ha, hb, hz, q1⟩ := h
  cases rx
  cases ry
  obtain ⟨its, r1, p1, _⟩ := I.tuple ha
  obtain ⟨its2, r2, p2, _⟩ := I.tuple hb
  have hz' : its.length + its2.length ≤ sizeLine := by rw [← r1.length, ← r2.length]; exact hz
  obtain ⟨⟨cls, dd, data, sl⟩, ho, hc, n, hd⟩ := id p1
  obtain ⟨⟨cls2, dd2, data2, sl2⟩, ho2, hc2, n2, hd2⟩ := id p2
  simp only at hc hd hc2 hd2
  subst hc hd hc2 hd2
  have e : its.toArray ++ its2.toArray = (its ++ its2).toArray := by simp
  by_cases hv : its = []
  · have hx : xs = [] := r1.nil_iff.mp hv
    subst hx
    exact concat_meets ⟨_, ho, rfl⟩ ⟨_, ho2, rfl⟩ noFill_tuple_add seq_tuple_add PySem.F.slot_tuple_add PySem.F.entry_tuple_add (PySem.F.args_tuple_add_2 _ _)
      (tuple_addW0 a b its.toArray its2.toArray n n2 dd dd2 sl sl2 (by simp [hv])) ⟨ho, ho2, ⟨.ref b, H, I, rfl, q1 b H (Same.refl H) (by simpa using hb) (fun _ z => by simpa using z)⟩⟩
  · by_cases hw : its2 = []
    · have hy : ys = [] := r2.nil_iff.mp hw
      subst hy
      exact concat_meets ⟨_, ho, rfl⟩ ⟨_, ho2, rfl⟩ noFill_tuple_add seq_tuple_add PySem.F.slot_tuple_add PySem.F.entry_tuple_add (PySem.F.args_tuple_add_2 _ _)
        (tuple_addW1 a b its.toArray its2.toArray n n2 dd dd2 sl sl2 (by simpa using hv) (by simp [hw])) ⟨ho, ho2, ⟨.ref a, H, I, rfl, q1 a H (Same.refl H) (by simpa using ha) (fun z _ => by simpa using z)⟩⟩
    · refine concat_meets ⟨_, ho, rfl⟩ ⟨_, ho2, rfl⟩ noFill_tuple_add seq_tuple_add PySem.F.slot_tuple_add PySem.F.entry_tuple_add (PySem.F.args_tuple_add_2 _ _)
        (tuple_addW2 a b its.toArray its2.toArray n n2 dd dd2 sl sl2 (by simpa using hv) (by simpa using hw) (by rw [List.size_toArray, List.size_toArray]; exact hz')) ⟨ho, ho2, ?_⟩
      rw [e]
      refine ⟨.ref s.heap.objs.size, _, I.laid (t' := s.toks) (o := .tup (xs ++ ys)) (fun b ob q => Heap.get?_push_of_some _ q) (Nat.le_refl _) ?_, rfl, q1 _ _ (same_new (I.hok.fresh (Nat.le_refl _)) _) (SqT.of upd_same) (fun _ _ => upd_same)⟩
      exact ⟨by rw [List.length_append]; exact hz, _, r1.append r2, IsTup.new _ _⟩
end
section
theorem bt_int : bootBuiltins "int" = some (.type "int") := by decide +kernel
theorem bt_tuple : bootBuiltins "tuple" = some (.type "tuple") := by decide +kernel
theorem bt_len : bootBuiltins "len" = some (.builtin "len") := by decide +kernel
theorem bt_max : bootBuiltins "max" = some (.builtin "max") := by decide +kernel
theorem bt_min : bootBuiltins "min" = some (.builtin "min") := by decide +kernel
theorem bt_sum : bootBuiltins "sum" = some (.builtin "sum") := by decide +kernel
theorem bt_sorted : bootBuiltins "sorted" = some (.builtin "sorted") := by decide +kernel
end
section
variable {K : PySem.W.Frag}
end

/-! ### heaps: all kept but one -/
def Keep (p : Addr) (H H' : Hp) : Prop := ∀ b o, b ≠ p → H b = some o → H' b = some o
theorem Keep.refl (p : Addr) (H : Hp) : Keep p H H := fun _ _ _ h => h
theorem Keep.trans {p : Addr} {H H1 H2 : Hp} (a : Keep p H H1) (b : Keep p H1 H2) : Keep p H H2 := fun c o n h => b c o n (a c o n h)
theorem Keep.same {p : Addr} {H H' : Hp} (s : Same H H') : Keep p H H' := fun b o _ h => s b o h
theorem Keep.set (p : Addr) (H : Hp) (o : HO) : Keep p H (upd H p o) := fun b u n h => by rw [upd_ne n]; exact h
theorem Keep.new {p q : Addr} {H : Hp} (h : H q = none) (o : HO) : Keep p H (upd H q o) := .same (same_new h o)
theorem Same.seqT {K : PySem.W.Frag} {H H' : Hp} {a : Addr} {xs : List V} (e : Same H H') (h : SqT K H a xs) : SqT K H' a xs := by
  rcases h with (h | ⟨o, h⟩) | h
  · exact .inl (.inl (e _ _ h))
  · exact .inl (.inr ⟨o, e _ _ h⟩)
  · exact .inr h
theorem sz {n : Nat} (h : n ≤ 1000) : n ≤ sizeLine := Nat.le_of_lt (small1000 h)
theorem szb {n : Nat} (h : Nat.ble n 1000 = true) : n ≤ sizeLine := sz (Nat.le_of_ble_eq_true h)
theorem atI_ints {l : List Int} {i : Int} (h0 : 0 ≤ i) (h1 : i < (l.length : Int)) : ∃ v, v ∈ l ∧ atI (l.map V.int) i = some (.int v) := by
  have hk : i.toNat < l.length := by omega
  have ek : i = ((i.toNat : Nat) : Int) := by omega
  have q : atI (l.map V.int) ((i.toNat : Nat) : Int) = some (.int l[i.toNat]) := atI_nat (by rw [List.getElem?_map, List.getElem?_eq_getElem hk] <;> rfl)
  rw [← ek] at q
  exact ⟨l[i.toNat], List.getElem_mem hk, q⟩
end L2
/-! my own rules over the layer: a list comprehension whose element may change things -/
namespace L2
open PySem PySem.Spec PyProof.Rows

/-- the kinds of the names of a comprehension's block within a def of that scope -/
def relN (scope sc0 : Scope) : List (Str × NameKind) := scope.names.map fun (n, k) => if (k == .free && sc0.kind == .function && sc0.names.lookup n == some .cell) then (n, .cell) else (n, k)
def CellsIn (env : Env) : List (Str × Addr) → Prop
  | [] => True
  | (n, c) :: r => env.cells.lookup n = some c ∧ CellsIn env r
theorem CellsIn.look {env : Env} : ∀ {cl : List (Str × Addr)} {n : Str} {c : Addr}, CellsIn env cl → cl.lookup n = some c → env.cells.lookup n = some c
  | [], _, _, _, h => by cases h
  | (m, d) :: r, n, c, hc, h => by
    rw [List.lookup_cons] at h
    cases hx : n == m with
    | true =>
      rw [hx] at h
      cases h
      rw [eq_of_beq hx]
      exact hc.1
    | false =>
      rw [hx] at h
      exact CellsIn.look hc.2 h
theorem look_of_mem {cl : List (Str × Addr)} {n : Str} (h : n ∈ cl.map (·.1)) : ∃ c, cl.lookup n = some c := by
  induction cl with
  | nil => cases h
  | cons p r ih =>
    obtain ⟨m, d⟩ := p
    rw [List.lookup_cons]
    cases hx : n == m with
    | true => exact ⟨d, rfl⟩
    | false =>
      rcases List.mem_cons.mp h with e | e
      · have e' : n = m := e
        rw [e', beq_self_eq_true] at hx
        cases hx
      · exact ih e
structure CompOk (scope sc0 : Scope) (x : Str) (N cn : List Str) : Prop where
  has : ∀ p ∈ relN scope sc0, (p.2 = .cell ∨ p.2 = .free) → p.1 ∈ cn
  nc : ∀ p ∈ scope.names, p.2 ≠ .cell
  names : ∀ p ∈ scope.names, p.2 = .local → scope.names.lookup p.1 = some .local
  hx : scope.names.lookup x = some .local
  hx' : (relN scope sc0).lookup x = some .local
  nd : (x :: N).Nodup
  frs : ∀ y ∈ N, (relN scope sc0).lookup y = some .cell ∧ sc0.names.lookup y = some .cell ∧ y ∈ cn

/-- the context of a comprehension's block -/
def compCx (X : Cx) (scope : Scope) (cl : List (Str × Addr)) (C : Addr) (x : Str) (N : List Str) (s₂ : Shared) (H₂ : Hp) (fp : List Addr) : Cx where
  prog := X.prog
  w := X.w
  K := X.K
  mg := X.mg
  base := X.base
  A := X.A
  N := x :: N
  s₀ := s₂
  H₀ := H₂
  env := compEnvC scope cl C X.env
  outer := X.stack
  stack := X.stack
  ex := fp
  fn := fun _ => false
  calm := X.calm
  pn := []
  xe := fun _ _ => False

/-- the reading: W the invariant by the turn, a measure, the items so far -/
def tComp (wi : TI) (te : TE) (fr : List Nat) : TE := fun σ H Q => wi σ H fun J H1 => ∀ D, H1 D = none → ∃ W : Nat → Nat → List V → Hp → Prop, (∃ m, W 0 m [] (upd H1 D (.lst []))) ∧
  ∀ i m ys H2, W i m ys H2 → H2 D = some (.lst ys) ∧ ((J.stop i H2 ∧ Q (.ref D) H2) ∨ (J.go i H2 ∧ ys.length < sizeLine ∧ ∃ N : V → Hp → Prop, (∀ y H3, N y H3 → H3 D = some (.lst ys) ∧ ∃ m', m' < m ∧ W (i + 1) m' (ys ++ [y]) (upd H3 D (.lst (ys ++ [y])))) ∧
    ∀ x H', J.yld i H2 x H' → te (some x :: fr.map fun j => (σ[j]?).getD none) H' N))

section
variable {prog : Program} {w : World} {A : Around} {R : Result → Shared → Prop} {s : Shared}
theorem compLoop_any {elt target iter : Expr} {scope : Scope} {pos : Pos} {it acc : Value} {env : Env} (I : Nat → Shared → Prop)
    (turn : ∀ n s, I n s → wpAny (model prog w) A (pyNext it) (fun r s₁ => match r with
      | none => R (.ok .next) s₁
      | some v => wpAny (model prog w) A (letOwnedTupleGo target it v) (fun _ s₁' => wpAny (model prog w) A (assign target env v) (fun _ s₂ => wpAny (model prog w) A (eval elt env) (fun x s₃ =>
          wpAny (model prog w) A (call (.builtin "list.append") [acc, x]) (fun _ s₄ => ∃ m, m < n ∧ I m s₄) (notedBy (model prog w) A env fun e s' => R (.error e) s') s₃)
          (notedBy (model prog w) A env fun e s' => R (.error e) s') s₂) (notedBy (model prog w) A env fun e s' => R (.error e) s') s₁') (notedBy (model prog w) A env fun e s' => R (.error e) s') s₁) (notedBy (model prog w) A env fun e s' => R (.error e) s') s)
    (n : Nat) (h : I n s) :
    codeAny (model prog w) A (.compLoop (.ListComp elt [⟨target, iter, [], 0⟩] scope pos) 0 it acc env) R s := by
  refine codeAny_loop rfl I (fun n s hI => ?_) n h
  show wpAny _ _ ((compTurn (.ListComp elt [⟨target, iter, [], 0⟩] scope pos) 0 it acc env).onRaise (fun x => do noteFrame x env; theTreesLotGoes x)) _ _ s
  refine wpAny_noted ?_
  rw [compTurn_list1]
  refine wpAny_bind (wpAny_standAt (wpAny_bind (wpAny_mono (turn n s hI) (fun r s₁ h₁ => ?_) fun _ _ h' => h')))
  cases r with
  | none => exact wpAny_pure h₁
  | some v =>
    exact wpAny_bind (wpAny_mono h₁ (fun _ s₁' h₁' => wpAny_bind (wpAny_mono h₁' (fun _ s₂ h₂ => wpAny_bind (wpAny_bind (wpAny_mono h₂ (fun x s₃ h₃ => wpAny_bind (wpAny_mono h₃
      (fun _ s₄ h₄ => wpAny_pure (wpAny_pure ⟨rfl, h₄⟩)) fun _ _ h' => h')) fun _ _ h' => h'))) fun _ _ h' => h')) fun _ _ h' => h')
end

theorem lookup_mem {α : Type} : ∀ {l : List (Str × α)} {x : Str} {a : α}, l.lookup x = some a → (x, a) ∈ l := fun h => PySem.mem_of_lookup h

theorem comp_core {X : Cx} {elt iter : Expr} {x : Str} {px pos : Pos} {scope sc0 : Scope} {cl : List (Str × Addr)} {cn N : List Str} {fr : List Nat} {te : TE} {pins : List (Addr × Obj)} {σ : St} {H2 : Hp} {s2 : Shared} {it : Addr} {fp : List Addr}
    {tn : Nat → Heap → Prop} {J : It} {RR : Value → Addr → Result → Shared → Prop} {R : Hp → Prop} {E : Value → Shared → Prop} {W : Nat → Nat → List V → Hp → Prop} {m0 : Nat}
    (hc : X.calm = true) (he : ∀ (C : Addr) (s₂ : Shared) (H₂ : Hp) (fp : List Addr), PE (compCx X scope cl C x N s₂ H₂ fp) elt te)
    (hcl : CellsIn X.env cl) (hcn : cl.map (·.1) = cn) (hsc : X.env.scope = sc0) (hk : scope.kind = .function) (hok : CompOk scope sc0 x N cn) (hfr : fr.map (fun j => X.N[j]?) = N.map some)
    (I2 : Inv X pins σ H2 s2) (T : Turn X.prog X.w X.K (.Name x px) J fp it tn) (st2 : tn 0 s2.heap) (f2 : ∀ b ∈ fp, FpOk X pins H2 b)
    (w0 : W 0 m0 [] (upd H2 s2.heap.objs.size (.lst [])))
    (turn : ∀ i m ys H, W i m ys H → H s2.heap.objs.size = some (.lst ys) ∧ ((J.stop i H ∧ R H) ∨ (J.go i H ∧ ys.length < sizeLine ∧ ∃ N : V → Hp → Prop,
      (∀ y H3, N y H3 → H3 s2.heap.objs.size = some (.lst ys) ∧ ∃ m', m' < m ∧ W (i + 1) m' (ys ++ [y]) (upd H3 s2.heap.objs.size (.lst (ys ++ [y])))) ∧
      ∀ x H', J.yld i H x H' → te (some x :: fr.map fun j => (σ[j]?).getD none) H' N)))
    (hRR : ∀ (C : Addr) (H6 : Hp) (s6 : Shared) (m6 : Str → Option Value), s6.heap.Ns C m6 → Inv X pins σ H6 s6 → FpOk X pins H6 C → R H6 → RR (.ref s2.heap.objs.size) C (.ok .next) s6) :
    wpAny (model X.prog X.w) X.A (newList []) (fun acc s₃ => wpAny (model X.prog X.w) X.A (newFunctionEnv scope X.env.globals cl [] X.env.qual none .none (some X.env)) (fun cenv s₄ =>
      codeAny (model X.prog X.w) X.A (.compStart (.ListComp elt [⟨.Name x px, iter, [], 0⟩] scope pos) 0 (.ref it) acc { cenv with scope := relabel scope X.env }) (RR acc cenv.locals) s₄) E s₃) E s2 := by
  refine wpAny_newObj_type (wpAny_newFunctionEnv hok.nc (by intro y hy; simp at hy) (fun h4 hns hsb => ?_) hk)
  dsimp only at hns hsb ⊢
  have rel : ∀ y, (compEnvC scope cl 0 X.env).scope.names.lookup y = (relN scope sc0).lookup y := fun y => by
    show (relabel scope X.env).names.lookup y = _
    unfold relabel relN Env.kindOf
    rw [hsc]
  generalize hD : s2.heap.objs.size = D at *
  have I3 : Inv X pins σ (upd H2 D (.lst [])) { s2 with heap := s2.heap.push { cls := .type "list", dict := none, data := .seq ([] : List Value).toArray } } :=
    I2.laid (t' := s2.toks) (fun b u e => Heap.get?_push_of_some _ e) (Nat.le_of_eq hD) ⟨Nat.zero_le _, [], 0, .nil, by rw [← hD]; exact Heap.get?_push_size _ rfl⟩
  have k23 : ∀ b u, s2.heap.get? b = some u → (s2.heap.push { cls := .type "list", dict := none, data := .seq ([] : List Value).toArray }).get? b = some u := fun b u e => Heap.get?_push_of_some _ e
  have hsz : s2.heap.objs.size ≤ (s2.heap.push { cls := .type "list", dict := none, data := .seq ([] : List Value).toArray }).objs.size := by rw [Heap.size_push]; exact Nat.le_succ _
  generalize hh3 : s2.heap.push { cls := .type "list", dict := none, data := .seq ([] : List Value).toArray } = h3 at *
  have k34 : ∀ b u, h3.get? b = some u → h4.get? b = some u := fun b u e => (hsb.2 b (Nat.ne_of_lt (Heap.lt_size e))).trans (Heap.get?_push_of_some _ e)
  generalize hC : h3.objs.size = C at *
  have I4 : Inv X pins σ (upd H2 D (.lst [])) { s2 with heap := h4, toks := s2.toks + ([] : List (Str × Value)).length } := I3.kept (t' := s2.toks + 0) k34
  generalize hH3 : upd H2 D (.lst []) = H3 at *
  have ltC : ∀ b o, s2.heap.get? b = some o → b < C := fun b o e => Nat.lt_of_lt_of_le (Heap.lt_size e) hsz
  have lenF : fr.length = N.length := by simpa using congrArg List.length hfr
  have fpo : ∀ b ∈ fp, b ≠ C ∧ b ∉ frs X.stack := fun b hb => by
    obtain ⟨o, e, _⟩ := T.obj 0 s2.heap st2 b hb
    refine ⟨Nat.ne_of_lt (ltC b o e), fun z => ?_⟩
    obtain ⟨_, n1, n2, _⟩ := f2 b hb
    rcases List.mem_cons.mp (I2.stkSub b z) with q | q
    · exact n1 q
    · exact n2 q
  have H3C : H3 C = none := I3.hok.fresh (Nat.le_of_eq hC)
  have okX : (compCx X scope cl C x N { s2 with heap := h3 } H3 fp).Ok := by
    refine ⟨I2.ok.mod, hk, I2.ok.glob, I2.ok.blt, Nat.le_of_eq hC, fun y z c e1 e2 => I2.ok.inj y z c (hcl.look e1) (hcl.look e2), fun y hy => ?_, fun y c z => (Bool.false_ne_true z).elim, fun z => I2.ok.hd z, I2.ok.frames, .inl rfl,
      fun b hb => ⟨(fpo b hb).1, fun y c e => (f2 b hb).2.2.2.2.1 y c (hcl.look e)⟩, fun b o e => I3.bs b o e, Nat.le_trans I2.ok.bsz I3.sz, fun b o e hb => ?_, fun b hb => (fpo b hb).2, I3.stack, I3.stkFree⟩
    · have hy' : (relN scope sc0).lookup y = some .cell ∨ (relN scope sc0).lookup y = some .free := by
        rcases hy with hy | hy
        · exact .inl ((rel y).symm.trans hy)
        · exact .inr ((rel y).symm.trans hy)
      have hm : y ∈ cn := by
        rcases hy' with q | q
        · exact hok.has (y, .cell) (lookup_mem q) (.inl rfl)
        · exact hok.has (y, .free) (lookup_mem q) (.inr rfl)
      exact look_of_mem (cl := cl) (n := y) (by rw [hcn]; exact hm)
    · rcases (f2 b hb).2.2.2.1 with z | z
      · exact I2.ok.noex b o e z
      · exact absurd (Nat.lt_of_lt_of_le (Heap.lt_size e) (Nat.le_trans I2.ok.bsz z)) (Nat.lt_irrefl _)
  have I5 : Inv (compCx X scope cl C x N { s2 with heap := h3 } H3 fp) [] (none :: fr.map fun j => (σ[j]?).getD none) H3 { s2 with heap := h4, toks := s2.toks + ([] : List (Str × Value)).length } := by
    refine ⟨okX, rfl, I4.bare, Un.kept k34, ⟨_, hns, fun i y v e1 e2 e3 => ?_⟩, fun y c e => I4.cell y c (hcl.look e), H3C, fun y c e => I4.freeC y c (hcl.look e), fun p hp => absurd (show p ∈ ([] : List (Addr × Obj)) from hp) (by simp), I4.hok, by simp [compCx, lenF]⟩
    cases i with
    | zero => cases e2
    | succ j =>
      have e1' : N[j]? = some y := e1
      have e2' : (fr.map fun j => (σ[j]?).getD none)[j]? = some (some v) := e2
      obtain ⟨k, ek⟩ : ∃ k, fr[j]? = some k := by
        have : j < fr.length := by rw [lenF]; exact (List.getElem?_eq_some_iff.mp e1').1
        exact ⟨fr[j], List.getElem?_eq_getElem this⟩
      rw [List.getElem?_map, ek] at e2'
      have e2'' : (σ[k]?).getD none = some v := Option.some.inj e2'
      have eσ : σ[k]? = some (some v) := by
        cases q : σ[k]? with
        | none => rw [q] at e2''; cases e2''
        | some o => rw [q] at e2''; exact congrArg some e2''
      have eN : X.N[k]? = some y := by
        have z := congrArg (fun l => l[j]?) hfr
        simp only [List.getElem?_map, ek, e1', Option.map_some] at z
        exact Option.some.inj z
      obtain ⟨r1, r2, r3⟩ := hok.frs y (List.mem_of_getElem? e1')
      obtain ⟨m, _, hl⟩ := I4.loc
      obtain ⟨u, ru, look⟩ := hl k y v eN eσ (.inr (.inl (by rw [hsc]; exact r2)))
      refine ⟨u, ru, .inr ⟨.inl ((rel y).trans r1), ?_⟩⟩
      rcases look with ⟨l1, _⟩ | ⟨_, c, l1, l2⟩
      · exfalso
        have l1' : X.env.scope.names.lookup y = some .local := l1
        rw [hsc, r2] at l1'
        cases l1'
      · obtain ⟨c', l3⟩ := look_of_mem (cl := cl) (n := y) (by rw [hcn]; exact r3)
        have l4 := hcl.look l3
        rw [l1] at l4
        cases l4
        exact ⟨c, l3, l2⟩
  have st4 : tn 0 h4 := T.keep 0 s2.heap h4 st2 fun b hb o e => k34 b o (k23 b o e)
  have fp5 : ∀ {H' : Hp}, (∀ b ∈ fp, H' b = none) → ∀ b ∈ fp, FpOk (compCx X scope cl C x N { s2 with heap := h3 } H3 fp) [] H' b := fun hn b hb =>
    ⟨hn b hb, (fpo b hb).1, (fpo b hb).2, .inl hb, fun y c e => (f2 b hb).2.2.2.2.1 y c (hcl.look e), fun p hp => absurd (show p ∈ ([] : List (Addr × Obj)) from hp) (by simp)⟩
  have fr3 : ∀ b ∈ fp, H3 b = none := fun b hb => by
    obtain ⟨o, e, _⟩ := T.obj 0 s2.heap st2 b hb
    have : b ≠ D := Nat.ne_of_lt (hD ▸ Heap.lt_size e)
    rw [← hH3, upd_ne this]
    exact (f2 b hb).1
  have hx' : Loc (compCx X scope cl C x N { s2 with heap := h3 } H3 fp).env.scope x := .inl ((rel x).trans hok.hx')
  have fin : ∀ (H6 : Hp) (s6 : Shared) (σ6 : St), Inv (compCx X scope cl C x N { s2 with heap := h3 } H3 fp) [] σ6 H6 s6 → Inv X pins σ H6 s6 ∧ FpOk X pins H6 C := by
    intro H6 s6 σ6 I6
    refine ⟨I3.call' (s' := s6) (ch := fp) I6.os ⟨I6.base.keep, I6.base.slot, I6.base.free, I6.base.there, I6.base.tups, I6.base.frzs, I6.base.tbls⟩ I6.hok I6.bare (fun b hb => ?_), I3.fpOk (Nat.le_of_eq hC) I6.free⟩
    obtain ⟨_, n1, _, n3, n4, n5⟩ := f2 b hb
    exact ⟨n3, n1, n4, n5⟩
  have loop : codeAny (model X.prog X.w) X.A (.compLoop (.ListComp elt [⟨.Name x px, iter, [], 0⟩] scope pos) 0 (.ref it) (.ref D) (compEnvC scope cl C X.env))
      (RR (.ref D) C) { s2 with heap := h4, toks := s2.toks + ([] : List (Str × Value)).length } := by
    refine compLoop_any (fun n s' => ∃ i v0 ys H', Inv (compCx X scope cl C x N { s2 with heap := h3 } H3 fp) [] (v0 :: fr.map fun j => (σ[j]?).getD none) H' s' ∧ tn i s'.heap ∧ (∀ b ∈ fp, H' b = none) ∧ W i n ys H') ?_ m0
      ⟨0, none, [], H3, I5, st4, fr3, w0⟩
    rintro n s6 ⟨i, v0, ys, H6, I6, st6, fr6, w6⟩
    obtain ⟨hDl, hw⟩ := turn i n ys H6 w6
    rcases hw with ⟨stop, qn⟩ | ⟨go, hlen, N', hN', step⟩
    · refine thn (T.done (compCx X scope cl C x N { s2 with heap := h3 } H3 fp) rfl rfl rfl hc i [] s6 _ H6 _ I6 (fp5 fr6) st6 stop) fun r s7 ⟨hr, I7⟩ => ?_
      subst hr
      obtain ⟨m7, hn7, _⟩ := I7.loc
      obtain ⟨J7, F7⟩ := fin H6 s7 _ I7
      exact hRR C H6 s7 m7 hn7 J7 F7 qn
    · refine thn (T.item (compCx X scope cl C x N { s2 with heap := h3 } H3 fp) rfl rfl rfl hc i [] s6 _ H6 _ I6 (fp5 fr6) st6 go) fun r s7 ⟨u, hr, h7⟩ => ?_
      subst hr
      refine thn h7 fun _ s8 ⟨x8, H8, I8, r8, y8, st8, fr8⟩ => ?_
      have I8' := I8.pinned (fp5 fr8) (T.obj _ _ st8)
      refine wpAny_assign_Name (store_ok (i := 0) I8' hok.nd rfl hx' r8 (fun s9 I9 => ?_) (.inr ((rel x).trans hok.hx')))
      have I9' : Inv (compCx X scope cl C x N { s2 with heap := h3 } H3 fp) ([] ++ pinsAt fp s8.heap) (some x8 :: fr.map fun j => (σ[j]?).getD none) H8 s9 := I9
      refine wpAny_mono (he C { s2 with heap := h3 } H3 fp _ s9 _ H8 _ I9' (step x8 H8 y8)) (fun y s10 h10 => ?_) fun _ _ z => False.elim z
      obtain ⟨y10, H10, I10, r10, n10⟩ := h10
      obtain ⟨hD10, m', hm, w10⟩ := hN' y10 H10 n10
      refine wpAny_mono (mt_append (X := compCx X scope cl C x N { s2 with heap := h3 } H3 fp) _ s10 _ H10 (.ref D) [y10] (.ref D) [y] (fun _ H' => H' = upd H10 D (.lst (ys ++ [y10]))) I10 rfl (.cons r10 .nil) ⟨D, ys, y10, rfl, rfl, hD10, hlen, rfl⟩) (fun _ s11 h11 => ?_) fun _ _ z => False.elim z
      obtain ⟨_, H11, I11, _, e11⟩ := h11
      subst e11
      refine ⟨m', hm, i + 1, some x8, ys ++ [y10], _, I11.unpinned, T.keep _ _ _ st8 fun b hb o e => (I11.pin (b, o) (List.mem_append_right _ (List.mem_append_right _ (mem_pinsAt hb e)))).1, fun b hb => ?_, w10⟩
      obtain ⟨o, e, d⟩ := T.obj _ _ st8 b hb
      exact (I11.pin (b, o) (List.mem_append_right _ (List.mem_append_right _ (mem_pinsAt hb e)))).2.1
  exact codeAny_compStart_list loop (T.self _ 0 _ _ _ st4 loop)

theorem Inv.let_go {X : Cx} {pins : List (Addr × Obj)} {σ : St} {H : Hp} {s : Shared} {C : Addr} {h' : Heap} (I : Inv X pins σ H s) (F : FpOk X pins H C) (sb : Heap.SameBut C s.heap h') : Inv X pins σ H { s with heap := h' } := by
  obtain ⟨f0, f1, _, f3, f4, f5⟩ := F
  exact I.turned (t' := s.toks) (fun b o hb e => (sb.2 b hb).trans e) f0 f1 f3 f4 f5
theorem pe_comp {X : Cx} {elt iter : Expr} {x : Str} {px pos : Pos} {scope sc0 : Scope} {cl : List (Str × Addr)} {cn N : List Str} {fr : List Nat} {wi : TI} {te : TE}
    (hc : X.calm = true) (hi : PI X (.Name x px) iter wi) (he : ∀ (C : Addr) (s₂ : Shared) (H₂ : Hp) (fp : List Addr), PE (compCx X scope cl C x N s₂ H₂ fp) elt te)
    (hclos : closureFor scope X.env = pure cl) (hcl : CellsIn X.env cl) (hcn : cl.map (·.1) = cn) (hsc : X.env.scope = sc0) (hk : scope.kind = .function) (hok : CompOk scope sc0 x N cn)
    (hfr : fr.map (fun j => X.N[j]?) = N.map some) (hs : ∀ v, foldedSetIterable iter X.env v = pure v := by intro _; rfl) :
    PE X (.ListComp elt [⟨.Name x px, iter, [], 0⟩] scope pos) (tComp wi te fr) := by
  intro pins s σ H Q I h
  rw [eval_ListComp]
  refine wpAny_comprehension_free (use := none) rfl hs hclos hk hok.names (thn (hi pins s σ H _ I h) fun v s1 h1 => thn h1 fun itv s2 h2 => ?_)
  obtain ⟨it, fp, tn, J, H2, e, I2, T, st2, f2, hq⟩ := h2
  subst e
  obtain ⟨W, ⟨m0, w0⟩, turn⟩ := hq s2.heap.objs.size (I2.hok.fresh (Nat.le_refl _))
  exact comp_core (RR := fun acc C => compPost (model X.prog X.w) X.A X.xe none (EP X pins σ Q) acc C) (R := fun H6 => Q (.ref s2.heap.objs.size) H6) hc he hcl hcn hsc hk hok hfr I2 T st2 f2 w0 turn
    fun C H6 s6 m6 hn I6 F6 q => ⟨m6, hn, fun h' sb => ⟨.ref s2.heap.objs.size, H6, I6.let_go F6 sb, rfl, q⟩⟩
/-- y = [.. for x in ..], straight to a local name -/
def tSetComp (i : Nat) (wi : TI) (te : TE) (fr : List Nat) : TS := fun D σ H => tComp wi te fr σ H fun v H1 => D.nx (σ.set i (some v)) H1
theorem ps_setComp {X : Cx} {i : Nat} {y : Str} {py spos : Pos} {elt iter : Expr} {x : Str} {px pos : Pos} {scope sc0 : Scope} {cl : List (Str × Addr)} {cn N : List Str} {fr : List Nat} {wi : TI} {te : TE}
    (hN : X.N.Nodup) (hiN : X.N[i]? = some y) (hy : Loc X.env.scope y)
    (hc : X.calm = true) (hi : PI X (.Name x px) iter wi) (he : ∀ (C : Addr) (s₂ : Shared) (H₂ : Hp) (fp : List Addr), PE (compCx X scope cl C x N s₂ H₂ fp) elt te)
    (hclos : closureFor scope X.env = pure cl) (hcl : CellsIn X.env cl) (hcn : cl.map (·.1) = cn) (hsc : X.env.scope = sc0) (hk : scope.kind = .function) (hok : CompOk scope sc0 x N cn)
    (hfr : fr.map (fun j => X.N[j]?) = N.map some) (hsw : swapsWith (.ListComp elt [⟨.Name x px, iter, [], 0⟩] scope pos) (some (.Name y py)) spos.line X.env = pure true)
    (hf : X.fn y = true ∨ X.env.scope.names.lookup y = some .local) (hs : ∀ v, foldedSetIterable iter X.env v = pure v := by intro _; rfl) :
    PS X (.Assign [.Name y py] (.ListComp elt [⟨.Name x px, iter, [], 0⟩] scope pos) spos) (tSetComp i wi te fr) := by
  intro pins s σ H D I h
  rw [exec_Assign_Name_used _ _ _ _ hsw]
  refine wpAny_bind (wpAny_standAt (wpAny_bind ?_))
  show wpAny _ X.A (do let _ ← comprehension (.ListComp elt [⟨.Name x px, iter, [], 0⟩] scope pos) scope X.env _ (newList []) false (eval iter X.env) (some (assign (.Name y py) X.env))) _ _ s
  refine wpAny_bind (wpAny_mono (wpAny_comprehension_free (use := some (assign (.Name y py) X.env)) (Q := fun _ s' => SP X pins D .next s') rfl hs hclos hk hok.names
    (thn (hi pins s σ H _ I h) fun v s1 h1 => thn h1 fun itv s2 h2 => ?_)) (fun _ s' hq => wpAny_pure (wpAny_pure hq)) fun _ _ e => e)
  obtain ⟨it, fp, tn, J, H2, e, I2, T, st2, f2, hq⟩ := h2
  subst e
  obtain ⟨W, ⟨m0, w0⟩, turn⟩ := hq s2.heap.objs.size (I2.hok.fresh (Nat.le_refl _))
  refine comp_core (RR := fun acc C => compPost (model X.prog X.w) X.A X.xe (some (assign (.Name y py) X.env)) (fun _ s' => SP X pins D .next s') acc C) (R := fun H6 => D.nx (σ.set i (some (.ref s2.heap.objs.size))) H6) hc he hcl hcn hsc hk hok hfr I2 T st2 f2 w0 turn
    fun C H6 s6 m6 hn I6 F6 q => ?_
  show wpAny _ X.A (assign (.Name y py) X.env (.ref s2.heap.objs.size)) _ _ _
  refine wpAny_assign_Name (store_ok2 (v := .ref s2.heap.objs.size) I6 hN hiN hy rfl (fun s7 I7 ⟨a, sb, ha⟩ => ?_) hf)
  have neC : C ≠ a := by
    rcases ha with ha | ha
    · rw [ha]; exact F6.2.1
    · exact Ne.symm (F6.2.2.2.2.1 y a ha)
  exact ⟨m6, hn.sameBut sb neC, fun h' sb' => ⟨_, H6, I7.let_go F6 sb', q⟩⟩

/-- [.. for x in range(n)] -/
theorem comp_range {lo : Int} {n : Nat} {T : V → Hp → (V → Hp → Prop) → Prop} {D : Addr} {H1 : Hp} {R : Hp → Prop} (hn : n ≤ sizeLine) (Pv : Nat → List V → Hp → Prop) (h0 : Pv 0 [] (upd H1 D (.lst [])))
    (hD : ∀ i ys H, Pv i ys H → H D = some (.lst ys) ∧ ys.length = i)
    (hs : ∀ i ys H, i < n → Pv i ys H → T (.int (lo + i)) H fun y H3 => H3 D = some (.lst ys) ∧ Pv (i + 1) (ys ++ [y]) (upd H3 D (.lst (ys ++ [y]))))
    (hd : ∀ ys H, Pv n ys H → R H) :
    ∃ W : Nat → Nat → List V → Hp → Prop, (∃ m, W 0 m [] (upd H1 D (.lst []))) ∧
      ∀ i m ys H2, W i m ys H2 → H2 D = some (.lst ys) ∧ (((Itr lo n).stop i H2 ∧ R H2) ∨ ((Itr lo n).go i H2 ∧ ys.length < sizeLine ∧ ∃ N : V → Hp → Prop, (∀ y H3, N y H3 → H3 D = some (.lst ys) ∧ ∃ m', m' < m ∧ W (i + 1) m' (ys ++ [y]) (upd H3 D (.lst (ys ++ [y])))) ∧
        ∀ x H', (Itr lo n).yld i H2 x H' → T x H' N)) := by
  refine ⟨fun i m ys H => m = n - i ∧ i ≤ n ∧ Pv i ys H, ⟨n, by simp, Nat.zero_le _, h0⟩, ?_⟩
  rintro i m ys H2 ⟨rfl, hi, p⟩
  obtain ⟨d1, d2⟩ := hD i ys H2 p
  refine ⟨d1, ?_⟩
  by_cases hlt : i < n
  · refine .inr ⟨hlt, by omega, fun y H3 => H3 D = some (.lst ys) ∧ Pv (i + 1) (ys ++ [y]) (upd H3 D (.lst (ys ++ [y]))), fun y H3 ⟨z1, z2⟩ => ⟨z1, n - (i + 1), by omega, rfl, hlt, z2⟩, fun x H' y => ?_⟩
    obtain ⟨e, y⟩ := y
    subst e y
    exact hs i ys _ hlt p
  · have e : i = n := by omega
    subst e
    exact .inl ⟨Nat.le_refl _, hd ys H2 p⟩
end L2
/-! my own rules over the layer: tuples known to the object: slices, the whole among them, and count -/
namespace HT
open PySem PySem.Spec PyProof.Rows
section
variable {prog : Program} {w : World} {A : Around} {E : Value → Shared → Prop} {s : Shared}
theorem getItem_tuple_all {t sl : Addr} {items : Array Value} {vl vu : Value} {lo hi : Option Int} {Q : Value → Shared → Prop} (ht : IsTup s.heap t items) (hs : s.heap.IsSliceOf sl vl vu .none) (pl : IsPart vl lo) (pu : IsPart vu hi)
    (h0 : sIx items.size 0 lo = 0) (h1 : sIx items.size items.size hi = items.size) (h : Q (.ref t) s) : wpAny (model prog w) A (getItem (.ref t) (.ref sl)) Q E s := by
  obtain ⟨os, hos, hcs, hds⟩ := id hs
  have hTs : s.TypeIs (.ref sl) "slice" := ⟨os, hos, hcs⟩
  have hT : s.TypeIs (.ref t) "tuple" := ht.typeIs
  unfold getItem
  try with_reducible refine wpAny_holding ?_
  first | refine wpAny_bind (wpAny_pure ?_) | skip
  refine wpAny_bind (wpAny_sequenceKey ht.typeIs (by decide) ?_)
  refine wpAny_bind (wpAny_callSpecial?_slot (name := Str.ofString "__getitem__") ht.typeIs PyProof.Rows.slot_tuple_getitem
    (wpAny_call_entry PyProof.Rows.slot_tuple_getitem ht.typeIs entry_tuple_getitem ?_ (args_tuple_getitem _ _)))
  show wpAny _ _ (Builtin.Tuple.tupleItemsOf (.ref t) >>= _) _ _ s
  refine wpAny_bind (tupleItemsOf_ ht ?_)
  refine wpAny_bind (wpAny_typeOf hTs ?_)
  rw [if_pos (by decide)]
  refine wpAny_bind (sliceApplied_gen hs pl pu ?_)
  have hyes : ((((sIx items.size 0 lo : Nat) : Int) == 0 && (1 : Int) == 1 && (sIx items.size items.size hi - sIx items.size 0 lo) == items.size) = true) := by
    rw [h0, h1]; simp
  show wpAny _ _ (if (((sIx items.size 0 lo : Nat) : Int) == 0 && (1 : Int) == 1 && (sIx items.size items.size hi - sIx items.size 0 lo) == items.size) = true then _ else _) _ _ s
  rw [if_pos hyes]
  first
    | exact wpAny_bind (wpAny_typeOf hT (wpAny_pure ⟨_, rfl, wpAny_pure h⟩))
    | exact wpAny_pure ⟨_, rfl, wpAny_pure h⟩
    | exact wpAny_bind (wpAny_pure ⟨_, rfl, wpAny_pure h⟩)
    | (wp_walk; exact ⟨_, rfl, wpAny_pure h⟩)
    | (wp_walk; exact ⟨_, rfl, h⟩)
end
end HT
namespace L2
open PySem PySem.Spec PyProof.Rows
/-- a tuple known to the object -/
def TupF (H : Hp) (a : Addr) (xs : List V) : Prop := ∃ o : Obj, H a = some (.frz o (.tup xs)) ∧ o.cls = .type "tuple" ∧ o.dict = none
theorem TupF.sq {K : PySem.W.Frag} {H : Hp} {a : Addr} {xs : List V} (h : TupF H a xs) : SqT K H a xs := by
  obtain ⟨o, h, _⟩ := h
  exact .inl (.inr ⟨o, h⟩)
theorem TupF.same {H H' : Hp} {a : Addr} {xs : List V} (h : TupF H a xs) (s : Same H H') : TupF H' a xs := by
  obtain ⟨o, h, c⟩ := h
  exact ⟨o, s _ _ h, c⟩
section
variable {X : Cx}
/-- tuple(xs) of a list -/
theorem call_tupleF : CallR X (.type "tuple") (fun xs H Q => ∃ p ys, xs = [.ref p] ∧ SqL X.K H p ys ∧ ∀ l H', Same H H' → TupF H' l ys → Q (.ref l) H') := by
  intro pins s σ H xs us Q I r h
  obtain ⟨p, ys, rfl, hq, q⟩ := h
  obtain ⟨u, rfl, rx⟩ := vals1 r
  cases rx
  obtain ⟨its, r', pl, hz⟩ := I.list hq
  have hlen := r'.length
  refine call_tuple_list pl.isList (fun h' kp => ?_) (by simp only [List.size_toArray] <;> omega)
  have I1 : Inv X pins σ H { s with heap := h' } := I.kept (t' := s.toks) kp
  have I2 : Inv X pins σ (upd H h'.objs.size (.frz { cls := .type "tuple", data := .seq its.toArray } (.tup ys))) { s with heap := h'.push { cls := .type "tuple", data := .seq its.toArray } } :=
    I1.laid (t' := s.toks) (fun b o e => Heap.get?_push_of_some _ e) (Nat.le_refl _) (show ObjOk X.prog X.w _ _ _ (.frz _ (.tup ys)) from ⟨Heap.get?_push_size _ rfl, hz, its, r', IsTup.new _ _⟩)
  exact ⟨.ref h'.objs.size, _, I2, rfl, q _ _ (same_new (I1.hok.fresh (Nat.le_refl _)) _) ⟨_, upd_same, rfl, rfl⟩⟩
theorem cutV_all {xs : List V} {lo hi : Option Int} (h0 : HT.sIx xs.length 0 lo = 0) (h1 : HT.sIx xs.length xs.length hi = xs.length) : cutV xs lo hi = xs := by
  unfold cutV
  rw [h0, h1, List.drop_zero, Nat.sub_zero, List.take_length]
/-- t[lo:hi], the whole too -/
theorem sl_tupF : SlR X (fun x lo hi H Q => ∃ a xs, x = .ref a ∧ TupF H a xs ∧ ∀ p H', Same H H' → TupF H' p (cutV xs lo hi) → Q (.ref p) H') := by
  intro pins s σ H x v vl vu lo hi sl Q I rx hs pl pu h
  obtain ⟨a, xs, rfl, hx, q⟩ := h
  cases rx
  obtain ⟨its, r, ht, hz⟩ := I.tuple (hx.sq (K := X.K))
  have hlen : its.toArray.size = xs.length := by rw [List.size_toArray]; exact r.length.symm
  refine ⟨"tuple", _, PyProof.Rows.slot_tuple_getitem.lookup, ht.typeIs, ?_⟩
  by_cases hw : HT.sIx xs.length 0 lo = 0 ∧ HT.sIx xs.length xs.length hi = xs.length
  · refine HT.getItem_tuple_all ht hs pl pu (by rw [hlen]; exact hw.1) (by rw [hlen]; exact hw.2) ⟨.ref a, H, I, rfl, q a H (Same.refl H) ?_⟩
    rw [cutV_all hw.1 hw.2]
    exact hx
  · refine HT.getItem_tuple_cut ht hs pl pu (by rw [hlen]; exact hw) ?_ (by rw [hlen]; exact hz)
    rw [hlen]
    refine ⟨.ref s.heap.objs.size, _, I.laid (t' := s.toks) (o := .frz { cls := .type "tuple", data := .seq ((its.toArray.toList.drop (HT.sIx xs.length 0 lo)).take (HT.sIx xs.length xs.length hi - HT.sIx xs.length 0 lo)).toArray } (.tup (cutV xs lo hi))) (fun b ob q => Heap.get?_push_of_some _ q) (Nat.le_refl _) ?_, rfl,
      q _ _ (same_new (I.hok.fresh (Nat.le_refl _)) _) ⟨_, upd_same, rfl, rfl⟩⟩
    exact ⟨Heap.get?_push_size _ rfl, Nat.le_trans (cutV_length xs lo hi) hz, _, (r.drop (HT.sIx xs.length 0 lo)).take (HT.sIx xs.length xs.length hi - HT.sIx xs.length 0 lo), IsTup.new _ _⟩
theorem countP_eqU {x : V} : ∀ {xs : List V} {us : List Value}, Vals xs us → xs.all flatV = true → us.countP (eqU x) = xs.countP fun y => eqV y x
  | _, _, .nil, _ => rfl
  | y :: xs, u :: us, .cons r t, f => by
    rw [List.all_cons, Bool.and_eq_true] at f
    rw [List.countP_cons, List.countP_cons, eqU_of r f.1, countP_eqU t f.2]
/-- t.count(x), flat things -/
theorem mt_countT : MtR X "tuple.count" (fun x xs H Q => ∃ a ys v, x = .ref a ∧ xs = [v] ∧ SqT X.K H a ys ∧ flatV v = true ∧ ys.all flatV = true ∧ Q (.int (ys.countP fun y => eqV y v : Nat)) H) := by
  intro pins s σ H x xs v us Q I rx rv h
  obtain ⟨a, ys, y, rfl, rfl, ha, f1, f2, q⟩ := h
  cases rx
  obtain ⟨u, rfl, ru⟩ := rv.one
  obtain ⟨its, r, p, hz⟩ := I.tuple ha
  obtain ⟨⟨cls, dd, data, sl⟩, ho, hc, n, hd⟩ := id p
  simp only at hc hd
  subst hc hd
  refine call_meets F.slot_tuple_count ⟨_, ho, rfl⟩ F.entry_tuple_count (F.args_tuple_count_2 _ _) (SeqAt.tuple_countAt a its.toArray n dd sl u (eqU y)) ⟨ho, fun z hz => mem_eqAt ru f1 r f2 z (by simpa using hz), ?_⟩
  refine ⟨.int (ys.countP fun y' => eqV y' y : Nat), H, I.tok _, ?_, q⟩
  rw [← countP_eqU r f2]
  exact ⟨_, rfl⟩
def tBMF (T : String) (r : V → List V → Hp → VK → Prop) (to : TE) (t : TA) : TE := fun σ H Q => to σ H fun x H1 => (∃ a o u, x = .ref a ∧ H1 a = some (.frz o u) ∧ o.cls = .type T ∧ o.dict = none) ∧ t σ H1 fun xs H2 => r x xs H2 Q
variable {o e : Expr} {es : List Expr} {to : TE} {t : TA} {name : Str} {apos cpos : Pos} {T id : String} {r : V → List V → Hp → VK → Prop}
/-- a method of a thing known to the object -/
theorem pe_bmF (pa : PlainAttrs T) (slot : Slot T name id) (hty : typeOf (.builtin id) = pure (.type "method_descriptor")) (hm : MtR X id r) (ho : PE X o to) (ha : PA X (e :: es) t)
    (hbase : attributeBase o name X.env (eval o X.env) = eval o X.env := by rfl)
    (hfew : ((backTo cpos (starEach (e :: es) X.env)).all (fun x => !x.1) && (backToKw cpos (keywordEach [] X.env)).all (fun x => x.1.isSome)
      && decide ((e :: es).length + ([] : List Keyword).length + (if ([] : List Keyword).isEmpty then 0 else 1) < 30)) = true := by rfl)
    (hline : (apos.endLine == cpos.line) = true := by rfl) (hs : starEach (e :: es) X.env = (false, eval e X.env) :: starEach es X.env := by rfl) (hplain : (backTo cpos (starEach es X.env)).any (·.1) = false := by rfl) :
    PE X (.Call (.Attribute o name apos) (e :: es) [] cpos) (tBMF T r to t) := by
  intro pins s σ H Q I h
  refine wpAny_Call_method_late hbase hfew hline rfl (thn (ho pins s σ H _ I h) fun v s1 ⟨x, H1, I1, r1, ty, q1⟩ => ?_)
  obtain ⟨a, ob, u, rfl, hH, hc, hd⟩ := ty
  cases r1
  obtain ⟨hg, _⟩ := I1.hok a _ hH
  refine ⟨T, id, pa, slot, hty, ⟨ob, hg, hc⟩, fun b eb => ?_, ?_⟩
  · cases eb
    exact ⟨ob, hg, hd⟩
  have hA := ha cpos pins s1 σ H1 _ I1 q1
  rw [hs] at hA ⊢
  refine Calls.callWith_builtin (by show (false || (backTo cpos (starEach es X.env)).any (·.1)) = false; rw [hplain] <;> rfl) (Calls.evalArgs_plain ?_)
  exact thn hA fun us s2 ⟨vs, H2, I2, r2, q2⟩ => hm pins s2 σ H2 (.ref a) vs (.ref a) us Q I2 rfl r2 q2
end
end L2
/-! my own rules over the layer: all(..) of a list of truths, xs != ys of lists of ints -/
namespace L2
open PySem PySem.Spec PyProof.Rows
section
variable {X : Cx}
/-- xs != ys of two lists of ints -/
theorem op_neL (hu : X.A.units + 64 < cLine) : OpR X (compareOp .NotEq) (fun x y H Q => ∃ (a b : Addr) (ns ms : List Int), x = .ref a ∧ y = .ref b ∧ SqL X.K H a (ns.map V.int) ∧ SqL X.K H b (ms.map V.int) ∧ Q (.bl (!decide (ns = ms))) H) := by
  intro pins s σ H x y v u Q I rx ry h
  obtain ⟨a, b, ns, ms, rfl, rfl, ha, hb, q⟩ := h
  cases rx
  cases ry
  obtain ⟨its, r1, p1, _⟩ := I.list ha
  obtain ⟨its2, r2, p2, _⟩ := I.list hb
  exact PySem.W.ke_ne_ints p1.isList p2.isList (intsAre_of r1) (intsAre_of r2) hu ⟨.bl _, H, I, rfl, q⟩
end
end L2
/-! my own rules over the layer: a list comprehension with one test -/
namespace L2
open PySem PySem.Spec PyProof.Rows
/-- the reading: as tComp's, and what passes the test alone is kept -/
def tCompIf (wi : TI) (tt : TT) (te : TE) (fr : List Nat) : TE := fun σ H Q => wi σ H fun J H1 => ∀ D, H1 D = none → ∃ W : Nat → Nat → List V → Hp → Prop, (∃ m, W 0 m [] (upd H1 D (.lst []))) ∧
  ∀ i m ys H2, W i m ys H2 → H2 D = some (.lst ys) ∧ ((J.stop i H2 ∧ Q (.ref D) H2) ∨ (J.go i H2 ∧ ys.length < sizeLine ∧ ∃ N : V → Hp → Prop, (∀ y H3, N y H3 → H3 D = some (.lst ys) ∧ ∃ m', m' < m ∧ W (i + 1) m' (ys ++ [y]) (upd H3 D (.lst (ys ++ [y])))) ∧
    ∀ x H', J.yld i H2 x H' → tt (some x :: fr.map fun j => (σ[j]?).getD none) H' fun b H3 => if b = true then te (some x :: fr.map fun j => (σ[j]?).getD none) H3 N else ∃ m', m' < m ∧ W (i + 1) m' ys H3))
section
variable {prog : Program} {w : World} {A : Around} {R : Result → Shared → Prop} {s : Shared}
abbrev nbOf (prog : Program) (w : World) (A : Around) (env : Env) (R : Result → Shared → Prop) : Value → Shared → Prop := notedBy (model prog w) A env fun e s' => R (.error e) s'
theorem compLoop_if {elt target iter cc : Expr} {scope : Scope} {pos : Pos} {it acc : Value} {env : Env} (I : Nat → Shared → Prop)
    (turn : ∀ n s, I n s → wpAny (model prog w) A (pyNext it) (fun r s₁ => match r with
      | none => R (.ok .next) s₁
      | some v => wpAny (model prog w) A (letOwnedTupleGo target it v) (fun _ s₁' => wpAny (model prog w) A (assign target env v) (fun _ s₂ => wpAny (model prog w) A (isTrue cc env (eval cc env)) (fun okb s₂' => if okb = true then
          wpAny (model prog w) A (eval elt env) (fun x s₃ => wpAny (model prog w) A (call (.builtin "list.append") [acc, x]) (fun _ s₄ => ∃ m, m < n ∧ I m s₄) (nbOf prog w A env R) s₃) (nbOf prog w A env R) s₂'
          else ∃ m, m < n ∧ I m s₂') (nbOf prog w A env R) s₂) (nbOf prog w A env R) s₁') (nbOf prog w A env R) s₁) (nbOf prog w A env R) s)
    (n : Nat) (h : I n s) :
    codeAny (model prog w) A (.compLoop (.ListComp elt [⟨target, iter, [cc], 0⟩] scope pos) 0 it acc env) R s := by
  refine codeAny_loop rfl I (fun n s hI => ?_) n h
  show wpAny _ _ ((compTurn (.ListComp elt [⟨target, iter, [cc], 0⟩] scope pos) 0 it acc env).onRaise (fun x => do noteFrame x env; theTreesLotGoes x)) _ _ s
  refine wpAny_noted ?_
  rw [compTurn_list]
  refine wpAny_bind (wpAny_standAt (wpAny_bind (wpAny_mono (turn n s hI) (fun r s₁ h₁ => ?_) fun _ _ h' => h')))
  cases r with
  | none => exact wpAny_pure h₁
  | some v =>
    refine wpAny_bind (wpAny_mono h₁ (fun _ s₁' h₁' => wpAny_bind (wpAny_mono h₁' (fun _ s₂ h₂ => wpAny_bind (wpAny_tests_one (wpAny_mono h₂ (fun okb s₂' h₂' => ?_) fun _ _ h' => h'))) fun _ _ h' => h')) fun _ _ h' => h')
    cases okb with
    | false => exact wpAny_pure ⟨rfl, h₂'⟩
    | true => exact wpAny_bind (wpAny_bind (wpAny_mono h₂' (fun x s₃ h₃ => wpAny_bind (wpAny_mono h₃ (fun _ s₄ h₄ => wpAny_pure (wpAny_pure ⟨rfl, h₄⟩)) fun _ _ h' => h')) fun _ _ h' => h'))
end
theorem comp_coreIf {X : Cx} {elt iter cc : Expr} {x : Str} {px pos : Pos} {scope sc0 : Scope} {cl : List (Str × Addr)} {cn N : List Str} {fr : List Nat} {tt : TT} {te : TE} {pins : List (Addr × Obj)} {σ : St} {H2 : Hp} {s2 : Shared} {it : Addr} {fp : List Addr}
    {tn : Nat → Heap → Prop} {J : It} {RR : Value → Addr → Result → Shared → Prop} {R : Hp → Prop} {E : Value → Shared → Prop} {W : Nat → Nat → List V → Hp → Prop} {m0 : Nat}
    (hc : X.calm = true) (he : ∀ (C : Addr) (s₂ : Shared) (H₂ : Hp) (fp : List Addr), PE (compCx X scope cl C x N s₂ H₂ fp) elt te) (hct : ∀ (C : Addr) (s₂ : Shared) (H₂ : Hp) (fp : List Addr), PT (compCx X scope cl C x N s₂ H₂ fp) cc tt)
    (hcl : CellsIn X.env cl) (hcn : cl.map (·.1) = cn) (hsc : X.env.scope = sc0) (hk : scope.kind = .function) (hok : CompOk scope sc0 x N cn) (hfr : fr.map (fun j => X.N[j]?) = N.map some)
    (I2 : Inv X pins σ H2 s2) (T : Turn X.prog X.w X.K (.Name x px) J fp it tn) (st2 : tn 0 s2.heap) (f2 : ∀ b ∈ fp, FpOk X pins H2 b)
    (w0 : W 0 m0 [] (upd H2 s2.heap.objs.size (.lst [])))
    (turn : ∀ i m ys H, W i m ys H → H s2.heap.objs.size = some (.lst ys) ∧ ((J.stop i H ∧ R H) ∨ (J.go i H ∧ ys.length < sizeLine ∧ ∃ N : V → Hp → Prop,
      (∀ y H3, N y H3 → H3 s2.heap.objs.size = some (.lst ys) ∧ ∃ m', m' < m ∧ W (i + 1) m' (ys ++ [y]) (upd H3 s2.heap.objs.size (.lst (ys ++ [y])))) ∧
      ∀ x H', J.yld i H x H' → tt (some x :: fr.map fun j => (σ[j]?).getD none) H' fun b H3 => if b = true then te (some x :: fr.map fun j => (σ[j]?).getD none) H3 N else ∃ m', m' < m ∧ W (i + 1) m' ys H3)))
    (hRR : ∀ (C : Addr) (H6 : Hp) (s6 : Shared) (m6 : Str → Option Value), s6.heap.Ns C m6 → Inv X pins σ H6 s6 → FpOk X pins H6 C → R H6 → RR (.ref s2.heap.objs.size) C (.ok .next) s6) :
    wpAny (model X.prog X.w) X.A (newList []) (fun acc s₃ => wpAny (model X.prog X.w) X.A (newFunctionEnv scope X.env.globals cl [] X.env.qual none .none (some X.env)) (fun cenv s₄ =>
      codeAny (model X.prog X.w) X.A (.compStart (.ListComp elt [⟨.Name x px, iter, [cc], 0⟩] scope pos) 0 (.ref it) acc { cenv with scope := relabel scope X.env }) (RR acc cenv.locals) s₄) E s₃) E s2 := by
  refine wpAny_newObj_type (wpAny_newFunctionEnv hok.nc (by intro y hy; simp at hy) (fun h4 hns hsb => ?_) hk)
  dsimp only at hns hsb ⊢
  have rel : ∀ y, (compEnvC scope cl 0 X.env).scope.names.lookup y = (relN scope sc0).lookup y := fun y => by
    show (relabel scope X.env).names.lookup y = _
    unfold relabel relN Env.kindOf
    rw [hsc]
  generalize hD : s2.heap.objs.size = D at *
  have I3 : Inv X pins σ (upd H2 D (.lst [])) { s2 with heap := s2.heap.push { cls := .type "list", dict := none, data := .seq ([] : List Value).toArray } } :=
    I2.laid (t' := s2.toks) (fun b u e => Heap.get?_push_of_some _ e) (Nat.le_of_eq hD) ⟨Nat.zero_le _, [], 0, .nil, by rw [← hD]; exact Heap.get?_push_size _ rfl⟩
  have k23 : ∀ b u, s2.heap.get? b = some u → (s2.heap.push { cls := .type "list", dict := none, data := .seq ([] : List Value).toArray }).get? b = some u := fun b u e => Heap.get?_push_of_some _ e
  have hsz : s2.heap.objs.size ≤ (s2.heap.push { cls := .type "list", dict := none, data := .seq ([] : List Value).toArray }).objs.size := by rw [Heap.size_push]; exact Nat.le_succ _
  generalize hh3 : s2.heap.push { cls := .type "list", dict := none, data := .seq ([] : List Value).toArray } = h3 at *
  have k34 : ∀ b u, h3.get? b = some u → h4.get? b = some u := fun b u e => (hsb.2 b (Nat.ne_of_lt (Heap.lt_size e))).trans (Heap.get?_push_of_some _ e)
  generalize hC : h3.objs.size = C at *
  have I4 : Inv X pins σ (upd H2 D (.lst [])) { s2 with heap := h4, toks := s2.toks + ([] : List (Str × Value)).length } := I3.kept (t' := s2.toks + 0) k34
  generalize hH3 : upd H2 D (.lst []) = H3 at *
  have ltC : ∀ b o, s2.heap.get? b = some o → b < C := fun b o e => Nat.lt_of_lt_of_le (Heap.lt_size e) hsz
  have lenF : fr.length = N.length := by simpa using congrArg List.length hfr
  have fpo : ∀ b ∈ fp, b ≠ C ∧ b ∉ frs X.stack := fun b hb => by
    obtain ⟨o, e, _⟩ := T.obj 0 s2.heap st2 b hb
    refine ⟨Nat.ne_of_lt (ltC b o e), fun z => ?_⟩
    obtain ⟨_, n1, n2, _⟩ := f2 b hb
    rcases List.mem_cons.mp (I2.stkSub b z) with q | q
    · exact n1 q
    · exact n2 q
  have H3C : H3 C = none := I3.hok.fresh (Nat.le_of_eq hC)
  have okX : (compCx X scope cl C x N { s2 with heap := h3 } H3 fp).Ok := by
    refine ⟨I2.ok.mod, hk, I2.ok.glob, I2.ok.blt, Nat.le_of_eq hC, fun y z c e1 e2 => I2.ok.inj y z c (hcl.look e1) (hcl.look e2), fun y hy => ?_, fun y c z => (Bool.false_ne_true z).elim, fun z => I2.ok.hd z, I2.ok.frames, .inl rfl,
      fun b hb => ⟨(fpo b hb).1, fun y c e => (f2 b hb).2.2.2.2.1 y c (hcl.look e)⟩, fun b o e => I3.bs b o e, Nat.le_trans I2.ok.bsz I3.sz, fun b o e hb => ?_, fun b hb => (fpo b hb).2, I3.stack, I3.stkFree⟩
    · have hy' : (relN scope sc0).lookup y = some .cell ∨ (relN scope sc0).lookup y = some .free := by
        rcases hy with hy | hy
        · exact .inl ((rel y).symm.trans hy)
        · exact .inr ((rel y).symm.trans hy)
      have hm : y ∈ cn := by
        rcases hy' with q | q
        · exact hok.has (y, .cell) (lookup_mem q) (.inl rfl)
        · exact hok.has (y, .free) (lookup_mem q) (.inr rfl)
      exact look_of_mem (cl := cl) (n := y) (by rw [hcn]; exact hm)
    · rcases (f2 b hb).2.2.2.1 with z | z
      · exact I2.ok.noex b o e z
      · exact absurd (Nat.lt_of_lt_of_le (Heap.lt_size e) (Nat.le_trans I2.ok.bsz z)) (Nat.lt_irrefl _)
  have I5 : Inv (compCx X scope cl C x N { s2 with heap := h3 } H3 fp) [] (none :: fr.map fun j => (σ[j]?).getD none) H3 { s2 with heap := h4, toks := s2.toks + ([] : List (Str × Value)).length } := by
    refine ⟨okX, rfl, I4.bare, Un.kept k34, ⟨_, hns, fun i y v e1 e2 e3 => ?_⟩, fun y c e => I4.cell y c (hcl.look e), H3C, fun y c e => I4.freeC y c (hcl.look e), fun p hp => absurd (show p ∈ ([] : List (Addr × Obj)) from hp) (by simp), I4.hok, by simp [compCx, lenF]⟩
    cases i with
    | zero => cases e2
    | succ j =>
      have e1' : N[j]? = some y := e1
      have e2' : (fr.map fun j => (σ[j]?).getD none)[j]? = some (some v) := e2
      obtain ⟨k, ek⟩ : ∃ k, fr[j]? = some k := by
        have : j < fr.length := by rw [lenF]; exact (List.getElem?_eq_some_iff.mp e1').1
        exact ⟨fr[j], List.getElem?_eq_getElem this⟩
      rw [List.getElem?_map, ek] at e2'
      have e2'' : (σ[k]?).getD none = some v := Option.some.inj e2'
      have eσ : σ[k]? = some (some v) := by
        cases q : σ[k]? with
        | none => rw [q] at e2''; cases e2''
        | some o => rw [q] at e2''; exact congrArg some e2''
      have eN : X.N[k]? = some y := by
        have z := congrArg (fun l => l[j]?) hfr
        simp only [List.getElem?_map, ek, e1', Option.map_some] at z
        exact Option.some.inj z
      obtain ⟨r1, r2, r3⟩ := hok.frs y (List.mem_of_getElem? e1')
      obtain ⟨m, _, hl⟩ := I4.loc
      obtain ⟨u, ru, look⟩ := hl k y v eN eσ (.inr (.inl (by rw [hsc]; exact r2)))
      refine ⟨u, ru, .inr ⟨.inl ((rel y).trans r1), ?_⟩⟩
      rcases look with ⟨l1, _⟩ | ⟨_, c, l1, l2⟩
      · exfalso
        have l1' : X.env.scope.names.lookup y = some .local := l1
        rw [hsc, r2] at l1'
        cases l1'
      · obtain ⟨c', l3⟩ := look_of_mem (cl := cl) (n := y) (by rw [hcn]; exact r3)
        have l4 := hcl.look l3
        rw [l1] at l4
        cases l4
        exact ⟨c, l3, l2⟩
  have st4 : tn 0 h4 := T.keep 0 s2.heap h4 st2 fun b hb o e => k34 b o (k23 b o e)
  have fp5 : ∀ {H' : Hp}, (∀ b ∈ fp, H' b = none) → ∀ b ∈ fp, FpOk (compCx X scope cl C x N { s2 with heap := h3 } H3 fp) [] H' b := fun hn b hb =>
    ⟨hn b hb, (fpo b hb).1, (fpo b hb).2, .inl hb, fun y c e => (f2 b hb).2.2.2.2.1 y c (hcl.look e), fun p hp => absurd (show p ∈ ([] : List (Addr × Obj)) from hp) (by simp)⟩
  have fr3 : ∀ b ∈ fp, H3 b = none := fun b hb => by
    obtain ⟨o, e, _⟩ := T.obj 0 s2.heap st2 b hb
    have : b ≠ D := Nat.ne_of_lt (hD ▸ Heap.lt_size e)
    rw [← hH3, upd_ne this]
    exact (f2 b hb).1
  have hx' : Loc (compCx X scope cl C x N { s2 with heap := h3 } H3 fp).env.scope x := .inl ((rel x).trans hok.hx')
  have fin : ∀ (H6 : Hp) (s6 : Shared) (σ6 : St), Inv (compCx X scope cl C x N { s2 with heap := h3 } H3 fp) [] σ6 H6 s6 → Inv X pins σ H6 s6 ∧ FpOk X pins H6 C := by
    intro H6 s6 σ6 I6
    refine ⟨I3.call' (s' := s6) (ch := fp) I6.os ⟨I6.base.keep, I6.base.slot, I6.base.free, I6.base.there, I6.base.tups, I6.base.frzs, I6.base.tbls⟩ I6.hok I6.bare (fun b hb => ?_), I3.fpOk (Nat.le_of_eq hC) I6.free⟩
    obtain ⟨_, n1, _, n3, n4, n5⟩ := f2 b hb
    exact ⟨n3, n1, n4, n5⟩
  have loop : codeAny (model X.prog X.w) X.A (.compLoop (.ListComp elt [⟨.Name x px, iter, [cc], 0⟩] scope pos) 0 (.ref it) (.ref D) (compEnvC scope cl C X.env))
      (RR (.ref D) C) { s2 with heap := h4, toks := s2.toks + ([] : List (Str × Value)).length } := by
    refine compLoop_if (fun n s' => ∃ i v0 ys H', Inv (compCx X scope cl C x N { s2 with heap := h3 } H3 fp) [] (v0 :: fr.map fun j => (σ[j]?).getD none) H' s' ∧ tn i s'.heap ∧ (∀ b ∈ fp, H' b = none) ∧ W i n ys H') ?_ m0
      ⟨0, none, [], H3, I5, st4, fr3, w0⟩
    rintro n s6 ⟨i, v0, ys, H6, I6, st6, fr6, w6⟩
    obtain ⟨hDl, hw⟩ := turn i n ys H6 w6
    rcases hw with ⟨stop, qn⟩ | ⟨go, hlen, N', hN', step⟩
    · refine thn (T.done (compCx X scope cl C x N { s2 with heap := h3 } H3 fp) rfl rfl rfl hc i [] s6 _ H6 _ I6 (fp5 fr6) st6 stop) fun r s7 ⟨hr, I7⟩ => ?_
      subst hr
      obtain ⟨m7, hn7, _⟩ := I7.loc
      obtain ⟨J7, F7⟩ := fin H6 s7 _ I7
      exact hRR C H6 s7 m7 hn7 J7 F7 qn
    · refine thn (T.item (compCx X scope cl C x N { s2 with heap := h3 } H3 fp) rfl rfl rfl hc i [] s6 _ H6 _ I6 (fp5 fr6) st6 go) fun r s7 ⟨u, hr, h7⟩ => ?_
      subst hr
      refine thn h7 fun _ s8 ⟨x8, H8, I8, r8, y8, st8, fr8⟩ => ?_
      have I8' := I8.pinned (fp5 fr8) (T.obj _ _ st8)
      refine wpAny_assign_Name (store_ok (i := 0) I8' hok.nd rfl hx' r8 (fun s9 I9 => ?_) (.inr ((rel x).trans hok.hx')))
      have I9' : Inv (compCx X scope cl C x N { s2 with heap := h3 } H3 fp) ([] ++ pinsAt fp s8.heap) (some x8 :: fr.map fun j => (σ[j]?).getD none) H8 s9 := I9
      refine wpAny_mono (hct C { s2 with heap := h3 } H3 fp _ s9 _ H8 _ I9' (step x8 H8 y8)) (fun okb s9b h9b => ?_) fun _ _ z => False.elim z
      obtain ⟨H9, I9b, n9⟩ := h9b
      cases okb with
      | false =>
        rw [if_neg Bool.false_ne_true] at n9 ⊢
        obtain ⟨m', hm, w9⟩ := n9
        refine ⟨m', hm, i + 1, some x8, ys, _, I9b.unpinned, T.keep _ _ _ st8 fun b hb o e => (I9b.pin (b, o) (List.mem_append_right _ (List.mem_append_right _ (mem_pinsAt hb e)))).1, fun b hb => ?_, w9⟩
        obtain ⟨o, e, d⟩ := T.obj _ _ st8 b hb
        exact (I9b.pin (b, o) (List.mem_append_right _ (List.mem_append_right _ (mem_pinsAt hb e)))).2.1
      | true =>
        rw [if_pos rfl] at n9 ⊢
        refine wpAny_mono (he C { s2 with heap := h3 } H3 fp _ s9b _ H9 _ I9b n9) (fun y s10 h10 => ?_) fun _ _ z => False.elim z
        obtain ⟨y10, H10, I10, r10, n10⟩ := h10
        obtain ⟨hD10, m', hm, w10⟩ := hN' y10 H10 n10
        refine wpAny_mono (mt_append (X := compCx X scope cl C x N { s2 with heap := h3 } H3 fp) _ s10 _ H10 (.ref D) [y10] (.ref D) [y] (fun _ H' => H' = upd H10 D (.lst (ys ++ [y10]))) I10 rfl (.cons r10 .nil) ⟨D, ys, y10, rfl, rfl, hD10, hlen, rfl⟩) (fun _ s11 h11 => ?_) fun _ _ z => False.elim z
        obtain ⟨_, H11, I11, _, e11⟩ := h11
        subst e11
        refine ⟨m', hm, i + 1, some x8, ys ++ [y10], _, I11.unpinned, T.keep _ _ _ st8 fun b hb o e => (I11.pin (b, o) (List.mem_append_right _ (List.mem_append_right _ (mem_pinsAt hb e)))).1, fun b hb => ?_, w10⟩
        obtain ⟨o, e, d⟩ := T.obj _ _ st8 b hb
        exact (I11.pin (b, o) (List.mem_append_right _ (List.mem_append_right _ (mem_pinsAt hb e)))).2.1
  exact codeAny_compStart_list loop (T.self _ 0 _ _ _ st4 loop)

theorem pe_compIf {X : Cx} {elt iter cc : Expr} {x : Str} {px pos : Pos} {scope sc0 : Scope} {cl : List (Str × Addr)} {cn N : List Str} {fr : List Nat} {wi : TI} {tt : TT} {te : TE}
    (hc : X.calm = true) (hi : PI X (.Name x px) iter wi) (he : ∀ (C : Addr) (s₂ : Shared) (H₂ : Hp) (fp : List Addr), PE (compCx X scope cl C x N s₂ H₂ fp) elt te) (hct : ∀ (C : Addr) (s₂ : Shared) (H₂ : Hp) (fp : List Addr), PT (compCx X scope cl C x N s₂ H₂ fp) cc tt)
    (hclos : closureFor scope X.env = pure cl) (hcl : CellsIn X.env cl) (hcn : cl.map (·.1) = cn) (hsc : X.env.scope = sc0) (hk : scope.kind = .function) (hok : CompOk scope sc0 x N cn)
    (hfr : fr.map (fun j => X.N[j]?) = N.map some) (hs : ∀ v, foldedSetIterable iter X.env v = pure v := by intro _; rfl) :
    PE X (.ListComp elt [⟨.Name x px, iter, [cc], 0⟩] scope pos) (tCompIf wi tt te fr) := by
  intro pins s σ H Q I h
  rw [eval_ListComp]
  refine wpAny_comprehension_free (use := none) rfl hs hclos hk hok.names (thn (hi pins s σ H _ I h) fun v s1 h1 => thn h1 fun itv s2 h2 => ?_)
  obtain ⟨it, fp, tn, J, H2, e, I2, T, st2, f2, hq⟩ := h2
  subst e
  obtain ⟨W, ⟨m0, w0⟩, turn⟩ := hq s2.heap.objs.size (I2.hok.fresh (Nat.le_refl _))
  exact comp_coreIf (RR := fun acc C => compPost (model X.prog X.w) X.A X.xe none (EP X pins σ Q) acc C) (R := fun H6 => Q (.ref s2.heap.objs.size) H6) hc he hct hcl hcn hsc hk hok hfr I2 T st2 f2 w0 turn
    fun C H6 s6 m6 hn I6 F6 q => ⟨m6, hn, fun h' sb => ⟨.ref s2.heap.objs.size, H6, I6.let_go F6 sb, rfl, q⟩⟩
/-- y = [.. for x in ..], straight to a local name -/
def tSetCompIf (i : Nat) (wi : TI) (tt : TT) (te : TE) (fr : List Nat) : TS := fun D σ H => tCompIf wi tt te fr σ H fun v H1 => D.nx (σ.set i (some v)) H1
/-- gone through a list of ints, those kept that pass, each told by g -/
theorem compIf_list {K : PySem.W.Frag} {a : Addr} {xs : List V} {p : V → Bool} {g : V → V} {Tt : V → Hp → (Bool → Hp → Prop) → Prop} {Te : V → Hp → (V → Hp → Prop) → Prop} {D : Addr} {H1 : Hp} {R : Hp → Prop}
    (ha : SqL K H1 a xs) (hD : H1 D = none) (hn : xs.length ≤ sizeLine) (hT : ∀ x ∈ xs, ∀ (H : Hp) (Q : Bool → Hp → Prop), Same H1 H → Q (p x) H → Tt x H Q) (hE : ∀ x ∈ xs, p x = true → ∀ (H : Hp) (Q : V → Hp → Prop), Same H1 H → Q (g x) H → Te x H Q)
    (hR : R (upd H1 D (.lst ((xs.filter p).map g)))) :
    ∃ W : Nat → Nat → List V → Hp → Prop, (∃ m, W 0 m [] (upd H1 D (.lst []))) ∧
      ∀ i m ys H2, W i m ys H2 → H2 D = some (.lst ys) ∧ (((Itl K a).stop i H2 ∧ R H2) ∨ ((Itl K a).go i H2 ∧ ys.length < sizeLine ∧ ∃ N : V → Hp → Prop, (∀ y H3, N y H3 → H3 D = some (.lst ys) ∧ ∃ m', m' < m ∧ W (i + 1) m' (ys ++ [y]) (upd H3 D (.lst (ys ++ [y])))) ∧
        ∀ x H', (Itl K a).yld i H2 x H' → Tt x H' fun b H3 => if b = true then Te x H3 N else ∃ m', m' < m ∧ W (i + 1) m' ys H3)) := by
  refine ⟨fun i m ys H => m = xs.length - i ∧ i ≤ xs.length ∧ ys = ((xs.take i).filter p).map g ∧ H = upd H1 D (.lst ys), ⟨xs.length, by simp, Nat.zero_le _, by simp, rfl⟩, ?_⟩
  rintro i m ys H2 ⟨rfl, hi, hy, rfl⟩
  have sm : Same H1 (upd H1 D (.lst ys)) := same_new hD _
  have q := sm.seq ha
  have hyl : ys.length ≤ i := by
    rw [hy, List.length_map]
    exact Nat.le_trans (List.length_filter_le _ _) (by rw [List.length_take]; exact Nat.min_le_left _ _)
  refine ⟨upd_same, ?_⟩
  by_cases hlt : i < xs.length
  · refine .inr ⟨⟨xs, xs[i], q, by simp [hlt]⟩, by omega, fun y H3 => H3 = upd H1 D (.lst ys) ∧ y = g xs[i] ∧ p xs[i] = true, fun y H3 ⟨z1, z2, z3⟩ => ⟨by rw [z1]; exact upd_same, xs.length - (i + 1), by omega, rfl, hlt, ?eq, by rw [z1, upd_upd]⟩, fun x H' y => ?st⟩
    case eq =>
      rw [List.take_succ_eq_append_getElem hlt, List.filter_append, List.map_append, ← hy, z2]
      simp [z3]
    case st =>
      obtain ⟨e, y⟩ := y
      subst e
      have hx : xs[i]? = some x := y xs q
      have hx' : xs[i] = x := by simpa [hlt] using hx
      have hm : x ∈ xs := by rw [← hx']; exact List.getElem_mem hlt
      refine hT x hm _ _ sm ?_
      by_cases hp : p x = true
      · rw [if_pos hp]
        exact hE x hm hp _ _ sm ⟨rfl, by rw [hx'], by rw [hx']; exact hp⟩
      · rw [if_neg hp]
        refine ⟨xs.length - (i + 1), by omega, rfl, hlt, ?_, rfl⟩
        rw [List.take_succ_eq_append_getElem hlt, List.filter_append, List.map_append, ← hy, hx']
        simp [hp]
  · have e : i = xs.length := by omega
    subst e
    refine .inl ⟨⟨xs, q, Nat.le_refl _⟩, ?_⟩
    rw [hy, List.take_length]
    exact hR
end L2
/-! my own rules over the layer: a def that calls itself; gone through by a map; sorted ints; xs[::-1]; trees of tuples -/
namespace L2
open PySem PySem.Spec PyProof.Rows
section
variable {P : Program} {w : World} {K : PySem.W.Frag} {mg : Str → Option Value} {base : Heap}
/-- what the call below promises: nothing at 0 -/
def prevSp (sp : Nat → Sp) : Nat → Sp
  | 0 => fun _ _ _ _ => False
  | e + 1 => sp e
/-- a def that calls itself, by a measure -/
theorem Def.recur {sp : Nat → Sp} {x : Str} {st : Stmt} {ps : List Str} (d : Def K mg x st ps) {k : Nat} (n : Nat)
    (step : ∀ e, e ≤ n → Cal P w K mg base (e + k) x ps (prevSp sp e) → ∀ (f : Addr) (fd : FuncData), Fun K x x st f fd → FnOk P w K mg base CX0 (e + (k + 1)) f fd ps (sp e)) :
    Cal P w K mg base (n + (k + 1)) x ps (fun vs H Q E => ∃ e, e ≤ n ∧ sp e vs H Q E) := by
  obtain ⟨f, fd, h1, h2, h3⟩ := d.ex
  have all : ∀ e, e ≤ n → FnOk P w K mg base CX0 (e + (k + 1)) f fd ps (sp e) := by
    intro e
    induction e with
    | zero => exact fun he => step 0 he ⟨f, fd, ⟨fun _ _ _ _ h => h.elim, fun _ _ _ _ _ _ _ _ _ _ _ _ _ h => h.elim⟩, .all h2, h1.kp, h3⟩ f fd h1
    | succ e ih => exact fun he => step (e + 1) he ⟨f, fd, (ih (by omega)).mono (by omega), .all h2, h1.kp, h3⟩ f fd h1
  refine ⟨f, fd, ⟨?_, ?_⟩, .all h2, h1.kp, h3⟩
  · rintro vs H Q E ⟨e, he, h⟩
    exact (all e he).len vs H Q E h
  · rintro A outer s H args us vs Q E hr he hb hv ⟨e, hle, h⟩
    exact (all e hle).run A outer s H args us vs Q E (hr.mono (by omega)) he hb hv h
end
/-- gone through a list, each told by g -/
theorem comp_listM {K : PySem.W.Frag} {a : Addr} {xs : List V} {g : V → V} {Te : V → Hp → (V → Hp → Prop) → Prop} {D : Addr} {H1 : Hp} {R : Hp → Prop}
    (ha : SqL K H1 a xs) (hD : H1 D = none) (hn : xs.length ≤ sizeLine) (hE : ∀ x ∈ xs, ∀ (H : Hp) (Q : V → Hp → Prop), Same H1 H → Q (g x) H → Te x H Q) (hR : R (upd H1 D (.lst (xs.map g)))) :
    ∃ W : Nat → Nat → List V → Hp → Prop, (∃ m, W 0 m [] (upd H1 D (.lst []))) ∧
      ∀ i m ys H2, W i m ys H2 → H2 D = some (.lst ys) ∧ (((Itl K a).stop i H2 ∧ R H2) ∨ ((Itl K a).go i H2 ∧ ys.length < sizeLine ∧ ∃ N : V → Hp → Prop, (∀ y H3, N y H3 → H3 D = some (.lst ys) ∧ ∃ m', m' < m ∧ W (i + 1) m' (ys ++ [y]) (upd H3 D (.lst (ys ++ [y])))) ∧
        ∀ x H', (Itl K a).yld i H2 x H' → Te x H' N)) := by
  refine ⟨fun i m ys H => m = xs.length - i ∧ i ≤ xs.length ∧ ys = (xs.take i).map g ∧ H = upd H1 D (.lst ys), ⟨xs.length, by simp, Nat.zero_le _, by simp, rfl⟩, ?_⟩
  rintro i m ys H2 ⟨rfl, hi, hy, rfl⟩
  have sm : Same H1 (upd H1 D (.lst ys)) := same_new hD _
  have q := sm.seq ha
  have hyl : ys.length ≤ i := by
    rw [hy, List.length_map, List.length_take]; exact Nat.min_le_left _ _
  refine ⟨upd_same, ?_⟩
  by_cases hlt : i < xs.length
  · refine .inr ⟨⟨xs, xs[i], q, by simp [hlt]⟩, by omega, fun y H3 => H3 = upd H1 D (.lst ys) ∧ y = g xs[i], fun y H3 ⟨z1, z2⟩ => ⟨by rw [z1]; exact upd_same, xs.length - (i + 1), by omega, rfl, hlt, ?eq, by rw [z1, upd_upd]⟩, fun x H' y => ?st⟩
    case eq =>
      rw [List.take_succ_eq_append_getElem hlt, List.map_append, ← hy, z2]
      rfl
    case st =>
      obtain ⟨e, y⟩ := y
      subst e
      have hx : xs[i]? = some x := y xs q
      have hx' : xs[i] = x := by simpa [hlt] using hx
      have hm : x ∈ xs := by rw [← hx']; exact List.getElem_mem hlt
      exact hE x hm _ _ sm ⟨rfl, by rw [hx']⟩
  · have e : i = xs.length := by omega
    subst e
    refine .inl ⟨⟨xs, q, Nat.le_refl _⟩, ?_⟩
    rw [hy, List.take_length]
    exact hR
section
variable {X : Cx}
/-- xs == ys of two lists of ints -/
theorem op_eqL (hu : X.A.units + 64 < cLine) : OpR X (compareOp .Eq) (fun x y H Q => ∃ (a b : Addr) (ns ms : List Int), x = .ref a ∧ y = .ref b ∧ SqL X.K H a (ns.map V.int) ∧ SqL X.K H b (ms.map V.int) ∧ Q (.bl (decide (ns = ms))) H) := by
  intro pins s σ H x y v u Q I rx ry h
  obtain ⟨a, b, ns, ms, rfl, rfl, ha, hb, q⟩ := h
  cases rx
  cases ry
  obtain ⟨its, r1, p1, _⟩ := I.list ha
  obtain ⟨its2, r2, p2, _⟩ := I.list hb
  exact PySem.W.ke_eq_ints p1.isList p2.isList (intsAre_of r1) (intsAre_of r2) hu ⟨.bl _, H, I, rfl, q⟩
/-- sorted(xs), fewer than 64 ints -/
theorem call_sortedI : CallR X (.builtin "sorted") (fun xs H Q => ∃ (p : Addr) (ns : List Int), xs = [.ref p] ∧ SqL X.K H p (ns.map V.int) ∧ ns.length < 64 ∧ ∀ (l : Addr) (ms : List Int), H l = none → ms.Perm ns → ms.Pairwise (· ≤ ·) → Q (.ref l) (upd H l (.lst (ms.map V.int)))) := by
  intro pins s σ H xs us Q I r h
  obtain ⟨p, ns, rfl, hq, h64, q⟩ := h
  obtain ⟨u, rfl, rx⟩ := vals1 r
  cases rx
  obtain ⟨its, r', pl, hz⟩ := I.list hq
  have hl := r'.length
  rw [List.length_map] at hl hz
  refine PyProof.Rows.sorted_ints pl.isList (intsAre_of r') (by omega) fun out ms a1 a2 a3 => ?_
  obtain ⟨e, he⟩ := PyProof.Rows.sortedAll_at s.heap its out
  have hml : ms.length = ns.length := a2.length_eq
  refine ⟨.ref (s.heap.objs.size + 1), _, I.laid (t' := s.toks) (a := s.heap.objs.size + 1) (o := .lst (ms.map V.int)) (fun b ob z => PyProof.Rows.sortedAll_old z) (Nat.le_succ _) ?_, rfl, q _ ms (I.hok.fresh (Nat.le_succ _)) a2 a3⟩
  refine ⟨by rw [List.length_map]; omega, out.toList, e, vals_ints a1, ?_⟩
  rw [he]
/-- xs[::-1] of a list -/
def tRev (K : PySem.W.Frag) (te : TE) : TE := fun σ H Q => te σ H fun x H1 => ∃ a xs, x = .ref a ∧ SqL K H1 a xs ∧ ∀ p, H1 p = none → Q (.ref p) (upd H1 p (.lst xs.reverse))
theorem pe_rev {e : Expr} {te : TE} {p1 p2 p3 pos : Pos} {k : Nat} (he : PE X e te) : PE X (.Subscript e (.Slice none none (some (.UnaryOp .USub (.Constant (.int 1) k p1) p3)) p2) pos) (tRev X.K te) := by
  intro pins s σ H Q I h
  refine Subscript_ (thn (he pins s σ H _ I h) fun v s1 ⟨x, H1, I1, r1, q1⟩ => ?_)
  obtain ⟨a, xs, rfl, hx, q⟩ := q1
  cases r1
  have hst : PO X (some (.UnaryOp .USub (.Constant (.int 1) k p1) p3)) (tPart (tUn (rU fun i => .int (-i)) fun _ H Q => Q (.int 1) H)) := po_some (pe_un un_neg pe_int)
  refine wpAny_Slice (thn (po_none (X := X) pins s1 σ H1 (fun o H' => o = none ∧ H' = H1) I1 ⟨rfl, rfl⟩) fun vl s2 ⟨l, H2, I2, pl, el, e2⟩ => thn (po_none (X := X) pins s2 σ H2 (fun o H' => o = none ∧ H' = H1) I2 ⟨rfl, e2⟩) fun vu s3 ⟨u, H3, I3, pu, eu, e3⟩ =>
    thn (hst pins s3 σ H3 (fun o H' => o = some (-1) ∧ H' = H1) I3 ⟨_, rfl, ⟨_, rfl, rfl, e3⟩⟩) fun vk s4 ⟨kk, H4, I4, pk, ek, e4⟩ => ?_)
  subst el eu ek e4
  have I5 : Inv X pins σ H4 { s4 with heap := s4.heap.push { cls := .type "slice", data := .fields #[vl, vu, vk] } } := I4.kept (t' := s4.toks) fun b ob q => Heap.get?_push_of_some _ q
  obtain ⟨its, r, ht, hz⟩ := I5.list hx
  have hlen := r.length
  show wpAny (model X.prog X.w) X.A (subscriptTail e _ (.ref a) (.ref s4.heap.objs.size)) (EP X pins σ Q) X.xe { s4 with heap := s4.heap.push { cls := .type "slice", data := .fields #[vl, vu, vk] } }
  refine tail_any (ops := [.ref a, .ref s4.heap.objs.size]) ht.isList.typeIs slot_list_getitem.lookup ?_ (by with_unfolding_all rfl)
  refine wpAny_getItem_list_slice ht.isList (Heap.IsSliceOf.new ..) pl pu pk (by simp) ?_ (by rw [List.size_toArray] <;> omega)
  rw [PySem.W.krv_pick]
  refine ⟨.ref _, _, I5.laid (t' := s4.toks) (o := .lst xs.reverse) (fun b ob q => Heap.get?_push_of_some _ q) (Nat.le_refl _) ?_, rfl, q _ (I5.hok.fresh (Nat.le_refl _))⟩
  exact ⟨by rw [List.length_reverse]; exact hz, _, 0, r.reverse, Heap.get?_push_size _ rfl⟩
end

section
variable {X : Cx} {K : PySem.W.Frag}
theorem ix_tupK (h : X.K = K) : IxR X (rIxT K) := by subst h; exact ix_tup
theorem ix_listK (h : X.K = K) : IxR X (rIxL K) := by subst h; exact ix_list
end
/-! ### trees -/
inductive Tr where
  | non
  | many (n : Int)
  | part (ms : List Int) (l r : Tr)
def Tr.deep : Tr → Nat
  | .non => 0
  | .many _ => 0
  | .part _ l r => max l.deep r.deep + 1
/-- a value that is this tree -/
def TreeAt (H : Hp) : V → Tr → Prop
  | v, .non => v = .non
  | v, .many n => ∃ a, v = .ref a ∧ H a = some (.tup [.str "many", .int n])
  | v, .part ms l r => ∃ a m x y, v = .ref a ∧ H a = some (.tup [.str "part", .ref m, x, y]) ∧ TupF H m (ms.map V.int) ∧ TreeAt H x l ∧ TreeAt H y r
/-- what tuples there are stays -/
def TKeep (H H' : Hp) : Prop := ∀ b xs, (H b = some (.tup xs) → H' b = some (.tup xs)) ∧ ∀ o, H b = some (.frz o (.tup xs)) → H' b = some (.frz o (.tup xs))
theorem TKeep.same {H H' : Hp} (s : Same H H') : TKeep H H' := fun _ _ => ⟨s _ _, fun _ => s _ _⟩
theorem TKeep.keep {H H' : Hp} {p : Addr} {ys : List V} (s : Keep p H H') (e : H p = some (.lst ys)) : TKeep H H' := fun _ _ => ⟨fun h => s _ _ (ne_of h e (by intro z; cases z)) h, fun _ h => s _ _ (ne_of h e (by intro z; cases z)) h⟩
theorem TKeep.set {H : Hp} {p : Addr} {ys zs : List V} (e : H p = some (.lst ys)) : TKeep H (upd H p (.lst zs)) := .keep (Keep.set p H _) e
theorem TupF.tk {H H' : Hp} {a : Addr} {xs : List V} (h : TupF H a xs) (s : TKeep H H') : TupF H' a xs := by
  obtain ⟨o, h, c⟩ := h
  exact ⟨o, (s _ _).2 o h, c⟩
theorem TreeAt.tk {H H' : Hp} (s : TKeep H H') : ∀ {t : Tr} {v : V}, TreeAt H v t → TreeAt H' v t
  | .non, _, h => h
  | .many _, _, ⟨a, e, h⟩ => ⟨a, e, (s _ _).1 h⟩
  | .part _ _ _, _, ⟨a, m, x, y, e, h, hm, hl, hr⟩ => ⟨a, m, x, y, e, (s _ _).1 h, hm.tk s, TreeAt.tk s hl, TreeAt.tk s hr⟩
theorem TreeAt.same {H H' : Hp} (s : Same H H') {t : Tr} {v : V} (h : TreeAt H v t) : TreeAt H' v t := h.tk (.same s)
section
variable {X : Cx}
theorem eqAt_tup {pins : List (Addr × Obj)} {σ : St} {H : Hp} {s : Shared} {A : Around} {a b : Addr} {xs ys : List V} (I : Inv X pins σ H s) (ha : SqT X.K H a xs) (hb : SqT X.K H b ys) (hl : xs.length = ys.length)
    (he : ∀ (j : Nat) (x y : V), xs[j]? = some x → ys[j]? = some y → ∀ u v, RelV x u → RelV y v → SeqAt.EqAt A.in1 s u v true) (hu : A.units < cLine) :
    SeqAt.RcAt A s (.ref a) (.ref b) true ∧ SeqAt.RcNeAt A s (.ref a) (.ref b) false := by
  obtain ⟨its, r1, p1, _⟩ := I.tuple ha
  obtain ⟨its2, r2, p2, _⟩ := I.tuple hb
  have l1 := r1.length
  have l2 := r2.length
  have hz : its.toArray.size = its2.toArray.size := by rw [List.size_toArray, List.size_toArray]; omega
  have el : ∀ (j : Nat) (h1 : j < its.toArray.size) (h2 : j < its2.toArray.size), SeqAt.EqAt A.in1 s its.toArray[j] its2.toArray[j] ((fun _ => true) j) := by
    intro j h1 h2
    have h1' : j < xs.length := by rw [List.size_toArray] at h1; omega
    have h2' : j < ys.length := by rw [List.size_toArray] at h2; omega
    obtain ⟨v1, e1, r1'⟩ := r1.get (i := j) (x := xs[j]) (List.getElem?_eq_getElem h1')
    obtain ⟨v2, e2, r2'⟩ := r2.get (i := j) (x := ys[j]) (List.getElem?_eq_getElem h2')
    have g1 : its.toArray[j] = v1 := by
      have := List.getElem?_eq_some_iff.mp e1
      simpa using this.2
    have g2 : its2.toArray[j] = v2 := by
      have := List.getElem?_eq_some_iff.mp e2
      simpa using this.2
    rw [g1, g2]
    exact he j _ _ (List.getElem?_eq_getElem h1') (List.getElem?_eq_getElem h2') _ _ r1' r2'
  have t0 : ((List.range (min its.toArray.size its2.toArray.size)).all (fun _ => true) && its.toArray.size == its2.toArray.size) = true := by
    rw [hz]; simp
  constructor
  · rw [← t0]
    exact SeqAt.RcAt.tuples p1 p2 hu el
  · have z := SeqAt.RcNeAt.tuples (e := fun _ => true) p1 p2 hu el
    rw [t0] at z
    exact z
theorem eqAt_ref {A : Around} {s : Shared} {a b : Addr} (h : SeqAt.RcAt A s (.ref a) (.ref b) true) : SeqAt.EqAt A s (.ref a) (.ref b) true := by
  by_cases e : a = b
  · subst e
    exact SeqAt.EqAt.same _
  · exact .of_refs e h
end
end L2
/-! my own rules over the layer: gone through a list or a tuple of ints; heaps kept -/
namespace L2
open PySem PySem.Spec PyProof.Rows
def onI {α : Type} (f : Int → α) (d : α) : V → α
  | .int n => f n
  | _ => d
theorem filt_onI {p : Int → Bool} {g : Int → V} (ns : List Int) : (((ns.map V.int).filter (onI p false)).map (onI g .non)) = (ns.filter p).map g := by
  induction ns with
  | nil => rfl
  | cons n ns ih =>
    rw [List.map_cons, List.filter_cons, List.filter_cons]
    have e : onI p false (.int n) = p n := rfl
    rw [e]
    by_cases h : p n = true
    · rw [if_pos h, if_pos h, List.map_cons, List.map_cons, ih]; rfl
    · rw [if_neg h, if_neg h]; exact ih
section
variable {K : PySem.W.Frag} {a : Addr} {ns : List Int} {p : Int → Bool} {g : Int → V} {Tt : V → Hp → (Bool → Hp → Prop) → Prop} {Te : V → Hp → (V → Hp → Prop) → Prop} {D : Addr} {H1 : Hp} {R : Hp → Prop}
theorem compIf_ints (ha : SqL K H1 a (ns.map V.int)) (hD : H1 D = none) (hn : ns.length ≤ sizeLine) (hT : ∀ n ∈ ns, ∀ (H : Hp) (Q : Bool → Hp → Prop), Same H1 H → Q (p n) H → Tt (.int n) H Q)
    (hE : ∀ n ∈ ns, p n = true → ∀ (H : Hp) (Q : V → Hp → Prop), Same H1 H → Q (g n) H → Te (.int n) H Q) (hR : R (upd H1 D (.lst ((ns.filter p).map g)))) :
    ∃ W : Nat → Nat → List V → Hp → Prop, (∃ m, W 0 m [] (upd H1 D (.lst []))) ∧
      ∀ i m ys H2, W i m ys H2 → H2 D = some (.lst ys) ∧ (((Itl K a).stop i H2 ∧ R H2) ∨ ((Itl K a).go i H2 ∧ ys.length < sizeLine ∧ ∃ N : V → Hp → Prop, (∀ y H3, N y H3 → H3 D = some (.lst ys) ∧ ∃ m', m' < m ∧ W (i + 1) m' (ys ++ [y]) (upd H3 D (.lst (ys ++ [y])))) ∧
        ∀ x H', (Itl K a).yld i H2 x H' → Tt x H' fun b H3 => if b = true then Te x H3 N else ∃ m', m' < m ∧ W (i + 1) m' ys H3)) := by
  refine compIf_list (p := onI p false) (g := onI g .non) ha hD (by rw [List.length_map]; exact hn) (fun x hx H Q s q => ?_) (fun x hx hp H Q s q => ?_) (by rw [filt_onI]; exact hR)
  · obtain ⟨n, hm, rfl⟩ := List.mem_map.mp hx
    exact hT n hm H Q s q
  · obtain ⟨n, hm, rfl⟩ := List.mem_map.mp hx
    exact hE n hm hp H Q s q
theorem comp_ints (ha : SqL K H1 a (ns.map V.int)) (hD : H1 D = none) (hn : ns.length ≤ sizeLine) (hE : ∀ n ∈ ns, ∀ (H : Hp) (Q : V → Hp → Prop), Same H1 H → Q (g n) H → Te (.int n) H Q) (hR : R (upd H1 D (.lst (ns.map g)))) :
    ∃ W : Nat → Nat → List V → Hp → Prop, (∃ m, W 0 m [] (upd H1 D (.lst []))) ∧
      ∀ i m ys H2, W i m ys H2 → H2 D = some (.lst ys) ∧ (((Itl K a).stop i H2 ∧ R H2) ∨ ((Itl K a).go i H2 ∧ ys.length < sizeLine ∧ ∃ N : V → Hp → Prop, (∀ y H3, N y H3 → H3 D = some (.lst ys) ∧ ∃ m', m' < m ∧ W (i + 1) m' (ys ++ [y]) (upd H3 D (.lst (ys ++ [y])))) ∧
        ∀ x H', (Itl K a).yld i H2 x H' → Te x H' N)) := by
  refine comp_listM (g := onI g .non) ha hD (by rw [List.length_map]; exact hn) (fun x hx H Q s q => ?_) (by rw [List.map_map]; exact hR)
  obtain ⟨n, hm, rfl⟩ := List.mem_map.mp hx
  exact hE n hm H Q s q
end
theorem Keep.free {p l : Addr} {H H' : Hp} {o : HO} (k : Keep p H H') (hl : H' l = none) (hp : H' p = some o) : H l = none := by
  cases e : H l with
  | none => rfl
  | some u =>
    have n : l ≠ p := fun z => by rw [z, hp] at hl; cases hl
    rw [k l u n e] at hl
    cases hl
/-- a list of ours that was not there before is written: all else is kept -/
theorem Keep.own {p r : Addr} {H H' : Hp} {o : HO} (k : Keep p H H') (hr : H r = none) : Keep p H (upd H' r o) := fun c u hc z => by
  rw [upd_ne (ne_of_none z hr)]
  exact k c u hc z
theorem p2pos (L : Nat) : (0 : Int) < 2 ^ L := by
  induction L with
  | zero => decide
  | succ L ih => rw [Int.pow_succ]; omega
theorem p2le {L : Nat} (h : L ≤ 40) : (2 : Int) ^ L ≤ 1099511627776 := by
  have e : (2 : Int) ^ L = ((2 ^ L : Nat) : Int) := by simp
  have : 2 ^ L ≤ 2 ^ 40 := Nat.pow_le_pow_right (by decide) h
  rw [e]
  have e2 : (2 : Nat) ^ 40 = 1099511627776 := by decide
  omega
theorem shlOne (L : Nat) : (1 : Int) * 2 ^ ((L : Int)).toNat = 2 ^ L := by rw [Int.one_mul]; rfl
end L2
/-! my own rules over the layer: things alike, however deep; list.insert -/
namespace L2
open PySem PySem.Spec PyProof.Rows
/-- two values that are alike, so deep at most: flat ones, tuples and lists of such -/
inductive Alk (K : PySem.W.Frag) (H : Hp) : Nat → V → V → Prop where
  | flat {n : Nat} {x : V} (h : flatV x = true) : Alk K H n x x
  | tup {n : Nat} {a b : Addr} {xs ys : List V} (ha : SqT K H a xs) (hb : SqT K H b ys) (hl : xs.length = ys.length) (h : ∀ (j : Nat) (x y : V), xs[j]? = some x → ys[j]? = some y → Alk K H n x y) : Alk K H (n + 1) (.ref a) (.ref b)
  | lst {n : Nat} {a b : Addr} {xs ys : List V} (ha : SqL K H a xs) (hb : SqL K H b ys) (hl : xs.length = ys.length) (h : ∀ (j : Nat) (x y : V), xs[j]? = some x → ys[j]? = some y → Alk K H n x y) : Alk K H (n + 1) (.ref a) (.ref b)
theorem eqV_self : ∀ {x : V}, flatV x = true → eqV x x = true := by
  intro x h
  cases x <;> simp [flatV] at h <;> simp [eqV]
section
variable {X : Cx}
theorem eqAt_lst {pins : List (Addr × Obj)} {σ : St} {H : Hp} {s : Shared} {A : Around} {a b : Addr} {xs ys : List V} (I : Inv X pins σ H s) (ha : SqL X.K H a xs) (hb : SqL X.K H b ys) (hl : xs.length = ys.length)
    (he : ∀ (j : Nat) (x y : V), xs[j]? = some x → ys[j]? = some y → ∀ u v, RelV x u → RelV y v → SeqAt.EqAt A.in1 s u v true) (hu : A.units < cLine) :
    SeqAt.RcAt A s (.ref a) (.ref b) true ∧ SeqAt.RcNeAt A s (.ref a) (.ref b) false := by
  obtain ⟨its, r1, p1, _⟩ := I.list ha
  obtain ⟨its2, r2, p2, _⟩ := I.list hb
  have l1 := r1.length
  have l2 := r2.length
  have hz : its.toArray.size = its2.toArray.size := by rw [List.size_toArray, List.size_toArray]; omega
  have el : ∀ (j : Nat) (h1 : j < its.toArray.size) (h2 : j < its2.toArray.size), SeqAt.EqAt A.in1 s its.toArray[j] its2.toArray[j] ((fun _ => true) j) := by
    intro j h1 h2
    have h1' : j < xs.length := by rw [List.size_toArray] at h1; omega
    have h2' : j < ys.length := by rw [List.size_toArray] at h2; omega
    obtain ⟨v1, e1, r1'⟩ := r1.get (i := j) (x := xs[j]) (List.getElem?_eq_getElem h1')
    obtain ⟨v2, e2, r2'⟩ := r2.get (i := j) (x := ys[j]) (List.getElem?_eq_getElem h2')
    have g1 : its.toArray[j] = v1 := by
      have := List.getElem?_eq_some_iff.mp e1
      simpa using this.2
    have g2 : its2.toArray[j] = v2 := by
      have := List.getElem?_eq_some_iff.mp e2
      simpa using this.2
    rw [g1, g2]
    exact he j _ _ (List.getElem?_eq_getElem h1') (List.getElem?_eq_getElem h2') _ _ r1' r2'
  have t0 : (List.range its.toArray.size).all (fun _ => true) = true := by simp
  constructor
  · rw [← t0]
    exact SeqAt.RcAt.lists p1.isList p2.isList hz hu el
  · have z := SeqAt.RcNeAt.lists (e := fun _ => true) p1.isList p2.isList hz hu el
    rw [t0] at z
    exact z
theorem alk_eqAt {pins : List (Addr × Obj)} {σ : St} {H : Hp} {s : Shared} (I : Inv X pins σ H s) {n : Nat} {x y : V} (h : Alk X.K H n x y) : ∀ (A : Around) (u v : Value), RelV x u → RelV y v → A.units + n + 1 < cLine → SeqAt.EqAt A s u v true := by
  induction h with
  | @flat n x hf =>
    intro A u v ru rv hu
    have z := eqAt_V (A := A) (s := s) ru rv hf hf
    rw [eqV_self hf] at z
    exact z
  | tup ha hb hl _ ih =>
    intro A u v ru rv hu
    cases ru
    cases rv
    exact eqAt_ref (eqAt_tup I ha hb hl (fun j x y h1 h2 u v r1 r2 => ih j x y h1 h2 A.in1 u v r1 r2 (by show A.units + 1 + _ + 1 < cLine; omega)) (by omega)).1
  | lst ha hb hl _ ih =>
    intro A u v ru rv hu
    cases ru
    cases rv
    exact eqAt_ref (eqAt_lst I ha hb hl (fun j x y h1 h2 u v r1 r2 => ih j x y h1 h2 A.in1 u v r1 r2 (by show A.units + 1 + _ + 1 < cLine; omega)) (by omega)).1
theorem alk_refs {pins : List (Addr × Obj)} {σ : St} {H : Hp} {s : Shared} (I : Inv X pins σ H s) {n : Nat} {a b : Addr} (h : Alk X.K H n (.ref a) (.ref b)) (A : Around) (hu : A.units + n + 1 < cLine) : SeqAt.RcAt A s (.ref a) (.ref b) true ∧ SeqAt.RcNeAt A s (.ref a) (.ref b) false := by
  cases h with
  | flat hf => exact absurd hf (by simp [flatV])
  | tup ha hb hl h => exact eqAt_tup I ha hb hl (fun j x y h1 h2 u v r1 r2 => alk_eqAt I (h j x y h1 h2) A.in1 u v r1 r2 (by show A.units + 1 + _ + 1 < cLine; omega)) (by omega)
  | lst ha hb hl h => exact eqAt_lst I ha hb hl (fun j x y h1 h2 u v r1 r2 => alk_eqAt I (h j x y h1 h2) A.in1 u v r1 r2 (by show A.units + 1 + _ + 1 < cLine; omega)) (by omega)
/-- x != y of two tuples or lists that are alike -/
theorem op_neAlk (hu : X.A.units + 64 < cLine) : OpR X (compareOp .NotEq) (fun x y H Q => ∃ (n : Nat) (a b : Addr), x = .ref a ∧ y = .ref b ∧ Alk X.K H n (.ref a) (.ref b) ∧ n ≤ 60 ∧ Q (.bl false) H) := by
  intro pins s σ H x y v u Q I rx ry h
  obtain ⟨n, a, b, rfl, rfl, hk, hn, q⟩ := h
  cases rx
  cases ry
  exact (alk_refs I hk X.A (by omega)).2 _ _ _ _ ⟨.bl false, H, I, rfl, q⟩
/-- x == y of two tuples or lists that are alike -/
theorem op_eqAlk (hu : X.A.units + 64 < cLine) : OpR X (compareOp .Eq) (fun x y H Q => ∃ (n : Nat) (a b : Addr), x = .ref a ∧ y = .ref b ∧ Alk X.K H n (.ref a) (.ref b) ∧ n ≤ 60 ∧ Q (.bl true) H) := by
  intro pins s σ H x y v u Q I rx ry h
  obtain ⟨n, a, b, rfl, rfl, hk, hn, q⟩ := h
  cases rx
  cases ry
  exact (alk_refs I hk X.A (by omega)).1 _ _ _ _ ⟨.bl true, H, I, rfl, q⟩
end
end L2
/-! my own rules over the layer: a list comprehension of any target, with tests or without -/
namespace L2
open PySem PySem.Spec PyProof.Rows
/-- tests of a comprehension -/
def PTs (X : Cx) (ifs : List Expr) (tt : TT) : Prop :=
  ∀ (pins : List (Addr × Obj)) (s : Shared) (σ : St) (H : Hp) (Q : Bool → Hp → Prop), Inv X pins σ H s → tt σ H Q →
    wpAny (model X.prog X.w) X.A (forIn ifs true fun c r => if r = true then do let ok ← isTrue c X.env (eval c X.env); pure (ForInStep.yield ok) else pure (ForInStep.yield r)) (TP X pins σ Q) X.xe s
theorem pts_nil {X : Cx} : PTs X [] (fun _ H Q => Q true H) := fun _ _ _ H _ I h => wpAny_tests_nil ⟨H, I, h⟩
structure CompOkG (scope sc0 : Scope) (N cn : List Str) : Prop where
  has : ∀ p ∈ relN scope sc0, (p.2 = .cell ∨ p.2 = .free) → p.1 ∈ cn
  nc : ∀ p ∈ scope.names, p.2 ≠ .cell
  names : ∀ p ∈ scope.names, p.2 = .local → scope.names.lookup p.1 = some .local
  frs : ∀ y ∈ N, (relN scope sc0).lookup y = some .cell ∧ sc0.names.lookup y = some .cell ∧ y ∈ cn
/-- the reading: any target, tests, what passes alone is kept -/
def tCompG (k : Nat) (wi : TI) (gt : TG) (tt : TT) (te : TE) (fr : List Nat) : TE := fun σ H Q => wi σ H fun J H1 => ∀ D, H1 D = none → ∃ W : Nat → Nat → List V → Hp → Prop, (∃ m, W 0 m [] (upd H1 D (.lst []))) ∧
  ∀ i m ys H2, W i m ys H2 → H2 D = some (.lst ys) ∧ ((J.stop i H2 ∧ Q (.ref D) H2) ∨ (J.go i H2 ∧ ys.length < sizeLine ∧ ∃ (N : V → Hp → Prop) (Z : Hp → Prop), (∀ y H3, N y H3 → H3 D = some (.lst ys) ∧ ∃ m', m' < m ∧ W (i + 1) m' (ys ++ [y]) (upd H3 D (.lst (ys ++ [y])))) ∧ (∀ H3, Z H3 → ∃ m', m' < m ∧ W (i + 1) m' ys H3) ∧
    ∀ x H', J.yld i H2 x H' → ∀ vs : St, vs.length = k → gt x (vs ++ fr.map fun j => (σ[j]?).getD none) H' fun σ' H3 => (∃ vs' : St, vs'.length = k ∧ σ' = vs' ++ fr.map fun j => (σ[j]?).getD none) ∧ tt σ' H3 fun b H4 => if b = true then te σ' H4 N else Z H4))
section
variable {prog : Program} {w : World} {A : Around} {R : Result → Shared → Prop} {s : Shared}
theorem compLoop_G {elt target iter : Expr} {ifs : List Expr} {scope : Scope} {pos : Pos} {it acc : Value} {env : Env} (I : Nat → Shared → Prop)
    (turn : ∀ n s, I n s → wpAny (model prog w) A (pyNext it) (fun r s₁ => match r with
      | none => R (.ok .next) s₁
      | some v => wpAny (model prog w) A (letOwnedTupleGo target it v) (fun _ s₁' => wpAny (model prog w) A (assign target env v) (fun _ s₂ =>
          wpAny (model prog w) A (forIn ifs true fun c r => if r = true then do let ok ← isTrue c env (eval c env); pure (ForInStep.yield ok) else pure (ForInStep.yield r)) (fun okb s₂' => if okb = true then
          wpAny (model prog w) A (eval elt env) (fun x s₃ => wpAny (model prog w) A (call (.builtin "list.append") [acc, x]) (fun _ s₄ => ∃ m, m < n ∧ I m s₄) (nbOf prog w A env R) s₃) (nbOf prog w A env R) s₂'
          else ∃ m, m < n ∧ I m s₂') (nbOf prog w A env R) s₂) (nbOf prog w A env R) s₁') (nbOf prog w A env R) s₁) (nbOf prog w A env R) s)
    (n : Nat) (h : I n s) :
    codeAny (model prog w) A (.compLoop (.ListComp elt [⟨target, iter, ifs, 0⟩] scope pos) 0 it acc env) R s := by
  refine codeAny_loop rfl I (fun n s hI => ?_) n h
  show wpAny _ _ ((compTurn (.ListComp elt [⟨target, iter, ifs, 0⟩] scope pos) 0 it acc env).onRaise (fun x => do noteFrame x env; theTreesLotGoes x)) _ _ s
  refine wpAny_noted ?_
  rw [compTurn_list]
  refine wpAny_bind (wpAny_standAt (wpAny_bind (wpAny_mono (turn n s hI) (fun r s₁ h₁ => ?_) fun _ _ h' => h')))
  cases r with
  | none => exact wpAny_pure h₁
  | some v =>
    refine wpAny_bind (wpAny_mono h₁ (fun _ s₁' h₁' => wpAny_bind (wpAny_mono h₁' (fun _ s₂ h₂ => wpAny_bind (wpAny_mono h₂ (fun okb s₂' h₂' => ?_) fun _ _ h' => h')) fun _ _ h' => h')) fun _ _ h' => h')
    cases okb with
    | false => exact wpAny_pure ⟨rfl, h₂'⟩
    | true => exact wpAny_bind (wpAny_bind (wpAny_mono h₂' (fun x s₃ h₃ => wpAny_bind (wpAny_mono h₃ (fun _ s₄ h₄ => wpAny_pure (wpAny_pure ⟨rfl, h₄⟩)) fun _ _ h' => h')) fun _ _ h' => h'))
end
theorem comp_coreG {X : Cx} {elt iter tg : Expr} {ifs : List Expr} {x : Str} {pos : Pos} {scope sc0 : Scope} {cl : List (Str × Addr)} {cn TN N : List Str} {fr : List Nat} {gt : TG} {tt : TT} {te : TE} {pins : List (Addr × Obj)} {σ : St} {H2 : Hp} {s2 : Shared} {it : Addr} {fp : List Addr}
    {tn : Nat → Heap → Prop} {J : It} {RR : Value → Addr → Result → Shared → Prop} {R : Hp → Prop} {E : Value → Shared → Prop} {W : Nat → Nat → List V → Hp → Prop} {m0 : Nat}
    (hc : X.calm = true) (he : ∀ (C : Addr) (s₂ : Shared) (H₂ : Hp) (fp : List Addr), PE (compCx X scope cl C x (TN ++ N) s₂ H₂ fp) elt te) (hct : ∀ (C : Addr) (s₂ : Shared) (H₂ : Hp) (fp : List Addr), PTs (compCx X scope cl C x (TN ++ N) s₂ H₂ fp) ifs tt) (hgt : ∀ (C : Addr) (s₂ : Shared) (H₂ : Hp) (fp : List Addr), PG (compCx X scope cl C x (TN ++ N) s₂ H₂ fp) tg gt)
    (hcl : CellsIn X.env cl) (hcn : cl.map (·.1) = cn) (hsc : X.env.scope = sc0) (hk : scope.kind = .function) (hok : CompOkG scope sc0 N cn) (hfr : fr.map (fun j => X.N[j]?) = N.map some)
    (I2 : Inv X pins σ H2 s2) (T : Turn X.prog X.w X.K tg J fp it tn) (st2 : tn 0 s2.heap) (f2 : ∀ b ∈ fp, FpOk X pins H2 b)
    (w0 : W 0 m0 [] (upd H2 s2.heap.objs.size (.lst [])))
    (turn : ∀ i m ys H, W i m ys H → H s2.heap.objs.size = some (.lst ys) ∧ ((J.stop i H ∧ R H) ∨ (J.go i H ∧ ys.length < sizeLine ∧ ∃ (N : V → Hp → Prop) (Z : Hp → Prop),
      (∀ y H3, N y H3 → H3 s2.heap.objs.size = some (.lst ys) ∧ ∃ m', m' < m ∧ W (i + 1) m' (ys ++ [y]) (upd H3 s2.heap.objs.size (.lst (ys ++ [y])))) ∧ (∀ H3, Z H3 → ∃ m', m' < m ∧ W (i + 1) m' ys H3) ∧
      ∀ x H', J.yld i H x H' → ∀ vs : St, vs.length = TN.length + 1 → gt x (vs ++ fr.map fun j => (σ[j]?).getD none) H' fun σ' H3 => (∃ vs' : St, vs'.length = TN.length + 1 ∧ σ' = vs' ++ fr.map fun j => (σ[j]?).getD none) ∧ tt σ' H3 fun b H4 => if b = true then te σ' H4 N else Z H4)))
    (hRR : ∀ (C : Addr) (H6 : Hp) (s6 : Shared) (m6 : Str → Option Value), s6.heap.Ns C m6 → Inv X pins σ H6 s6 → FpOk X pins H6 C → R H6 → RR (.ref s2.heap.objs.size) C (.ok .next) s6) :
    wpAny (model X.prog X.w) X.A (newList []) (fun acc s₃ => wpAny (model X.prog X.w) X.A (newFunctionEnv scope X.env.globals cl [] X.env.qual none .none (some X.env)) (fun cenv s₄ =>
      codeAny (model X.prog X.w) X.A (.compStart (.ListComp elt [⟨tg, iter, ifs, 0⟩] scope pos) 0 (.ref it) acc { cenv with scope := relabel scope X.env }) (RR acc cenv.locals) s₄) E s₃) E s2 := by
  refine wpAny_newObj_type (wpAny_newFunctionEnv hok.nc (by intro y hy; simp at hy) (fun h4 hns hsb => ?_) hk)
  dsimp only at hns hsb ⊢
  have rel : ∀ y, (compEnvC scope cl 0 X.env).scope.names.lookup y = (relN scope sc0).lookup y := fun y => by
    show (relabel scope X.env).names.lookup y = _
    unfold relabel relN Env.kindOf
    rw [hsc]
  generalize hD : s2.heap.objs.size = D at *
  have I3 : Inv X pins σ (upd H2 D (.lst [])) { s2 with heap := s2.heap.push { cls := .type "list", dict := none, data := .seq ([] : List Value).toArray } } :=
    I2.laid (t' := s2.toks) (fun b u e => Heap.get?_push_of_some _ e) (Nat.le_of_eq hD) ⟨Nat.zero_le _, [], 0, .nil, by rw [← hD]; exact Heap.get?_push_size _ rfl⟩
  have k23 : ∀ b u, s2.heap.get? b = some u → (s2.heap.push { cls := .type "list", dict := none, data := .seq ([] : List Value).toArray }).get? b = some u := fun b u e => Heap.get?_push_of_some _ e
  have hsz : s2.heap.objs.size ≤ (s2.heap.push { cls := .type "list", dict := none, data := .seq ([] : List Value).toArray }).objs.size := by rw [Heap.size_push]; exact Nat.le_succ _
  generalize hh3 : s2.heap.push { cls := .type "list", dict := none, data := .seq ([] : List Value).toArray } = h3 at *
  have k34 : ∀ b u, h3.get? b = some u → h4.get? b = some u := fun b u e => (hsb.2 b (Nat.ne_of_lt (Heap.lt_size e))).trans (Heap.get?_push_of_some _ e)
  generalize hC : h3.objs.size = C at *
  have I4 : Inv X pins σ (upd H2 D (.lst [])) { s2 with heap := h4, toks := s2.toks + ([] : List (Str × Value)).length } := I3.kept (t' := s2.toks + 0) k34
  generalize hH3 : upd H2 D (.lst []) = H3 at *
  have ltC : ∀ b o, s2.heap.get? b = some o → b < C := fun b o e => Nat.lt_of_lt_of_le (Heap.lt_size e) hsz
  have lenF : fr.length = N.length := by simpa using congrArg List.length hfr
  have fpo : ∀ b ∈ fp, b ≠ C ∧ b ∉ frs X.stack := fun b hb => by
    obtain ⟨o, e, _⟩ := T.obj 0 s2.heap st2 b hb
    refine ⟨Nat.ne_of_lt (ltC b o e), fun z => ?_⟩
    obtain ⟨_, n1, n2, _⟩ := f2 b hb
    rcases List.mem_cons.mp (I2.stkSub b z) with q | q
    · exact n1 q
    · exact n2 q
  have H3C : H3 C = none := I3.hok.fresh (Nat.le_of_eq hC)
  have okX : (compCx X scope cl C x (TN ++ N) { s2 with heap := h3 } H3 fp).Ok := by
    refine ⟨I2.ok.mod, hk, I2.ok.glob, I2.ok.blt, Nat.le_of_eq hC, fun y z c e1 e2 => I2.ok.inj y z c (hcl.look e1) (hcl.look e2), fun y hy => ?_, fun y c z => (Bool.false_ne_true z).elim, fun z => I2.ok.hd z, I2.ok.frames, .inl rfl,
      fun b hb => ⟨(fpo b hb).1, fun y c e => (f2 b hb).2.2.2.2.1 y c (hcl.look e)⟩, fun b o e => I3.bs b o e, Nat.le_trans I2.ok.bsz I3.sz, fun b o e hb => ?_, fun b hb => (fpo b hb).2, I3.stack, I3.stkFree⟩
    · have hy' : (relN scope sc0).lookup y = some .cell ∨ (relN scope sc0).lookup y = some .free := by
        rcases hy with hy | hy
        · exact .inl ((rel y).symm.trans hy)
        · exact .inr ((rel y).symm.trans hy)
      have hm : y ∈ cn := by
        rcases hy' with q | q
        · exact hok.has (y, .cell) (lookup_mem q) (.inl rfl)
        · exact hok.has (y, .free) (lookup_mem q) (.inr rfl)
      exact look_of_mem (cl := cl) (n := y) (by rw [hcn]; exact hm)
    · rcases (f2 b hb).2.2.2.1 with z | z
      · exact I2.ok.noex b o e z
      · exact absurd (Nat.lt_of_lt_of_le (Heap.lt_size e) (Nat.le_trans I2.ok.bsz z)) (Nat.lt_irrefl _)
  have I5 : Inv (compCx X scope cl C x (TN ++ N) { s2 with heap := h3 } H3 fp) [] (List.replicate (TN.length + 1) none ++ fr.map fun j => (σ[j]?).getD none) H3 { s2 with heap := h4, toks := s2.toks + ([] : List (Str × Value)).length } := by
    refine ⟨okX, rfl, I4.bare, Un.kept k34, ⟨_, hns, fun i y v e1 e2 e3 => ?_⟩, fun y c e => I4.cell y c (hcl.look e), H3C, fun y c e => I4.freeC y c (hcl.look e), fun p hp => absurd (show p ∈ ([] : List (Addr × Obj)) from hp) (by simp), I4.hok, by simp [compCx, lenF]; omega⟩
    by_cases hiT : i < TN.length + 1
    · exfalso
      rw [List.getElem?_append_left (by rw [List.length_replicate]; exact hiT), List.getElem?_replicate, if_pos hiT] at e2
      cases e2
    · obtain ⟨j, rfl⟩ : ∃ j, i = TN.length + 1 + j := ⟨i - (TN.length + 1), by omega⟩
      have e1' : N[j]? = some y := by
        have e1b : (x :: (TN ++ N))[TN.length + 1 + j]? = some y := e1
        rw [show TN.length + 1 + j = (TN.length + j) + 1 by omega, List.getElem?_cons_succ, List.getElem?_append_right (by omega), show TN.length + j - TN.length = j by omega] at e1b
        exact e1b
      have e2' : (fr.map fun j => (σ[j]?).getD none)[j]? = some (some v) := by
        rw [List.getElem?_append_right (by rw [List.length_replicate]; omega), List.length_replicate, show TN.length + 1 + j - (TN.length + 1) = j by omega] at e2
        exact e2
      obtain ⟨k, ek⟩ : ∃ k, fr[j]? = some k := by
        have : j < fr.length := by rw [lenF]; exact (List.getElem?_eq_some_iff.mp e1').1
        exact ⟨fr[j], List.getElem?_eq_getElem this⟩
      rw [List.getElem?_map, ek] at e2'
      have e2'' : (σ[k]?).getD none = some v := Option.some.inj e2'
      have eσ : σ[k]? = some (some v) := by
        cases q : σ[k]? with
        | none => rw [q] at e2''; cases e2''
        | some o => rw [q] at e2''; exact congrArg some e2''
      have eN : X.N[k]? = some y := by
        have z := congrArg (fun l => l[j]?) hfr
        simp only [List.getElem?_map, ek, e1', Option.map_some] at z
        exact Option.some.inj z
      obtain ⟨r1, r2, r3⟩ := hok.frs y (List.mem_of_getElem? e1')
      obtain ⟨m, _, hl⟩ := I4.loc
      obtain ⟨u, ru, look⟩ := hl k y v eN eσ (.inr (.inl (by rw [hsc]; exact r2)))
      refine ⟨u, ru, .inr ⟨.inl ((rel y).trans r1), ?_⟩⟩
      rcases look with ⟨l1, _⟩ | ⟨_, c, l1, l2⟩
      · exfalso
        have l1' : X.env.scope.names.lookup y = some .local := l1
        rw [hsc, r2] at l1'
        cases l1'
      · obtain ⟨c', l3⟩ := look_of_mem (cl := cl) (n := y) (by rw [hcn]; exact r3)
        have l4 := hcl.look l3
        rw [l1] at l4
        cases l4
        exact ⟨c, l3, l2⟩
  have st4 : tn 0 h4 := T.keep 0 s2.heap h4 st2 fun b hb o e => k34 b o (k23 b o e)
  have fp5 : ∀ {H' : Hp}, (∀ b ∈ fp, H' b = none) → ∀ b ∈ fp, FpOk (compCx X scope cl C x (TN ++ N) { s2 with heap := h3 } H3 fp) [] H' b := fun hn b hb =>
    ⟨hn b hb, (fpo b hb).1, (fpo b hb).2, .inl hb, fun y c e => (f2 b hb).2.2.2.2.1 y c (hcl.look e), fun p hp => absurd (show p ∈ ([] : List (Addr × Obj)) from hp) (by simp)⟩
  have fr3 : ∀ b ∈ fp, H3 b = none := fun b hb => by
    obtain ⟨o, e, _⟩ := T.obj 0 s2.heap st2 b hb
    have : b ≠ D := Nat.ne_of_lt (hD ▸ Heap.lt_size e)
    rw [← hH3, upd_ne this]
    exact (f2 b hb).1
  have fin : ∀ (H6 : Hp) (s6 : Shared) (σ6 : St), Inv (compCx X scope cl C x (TN ++ N) { s2 with heap := h3 } H3 fp) [] σ6 H6 s6 → Inv X pins σ H6 s6 ∧ FpOk X pins H6 C := by
    intro H6 s6 σ6 I6
    refine ⟨I3.call' (s' := s6) (ch := fp) I6.os ⟨I6.base.keep, I6.base.slot, I6.base.free, I6.base.there, I6.base.tups, I6.base.frzs, I6.base.tbls⟩ I6.hok I6.bare (fun b hb => ?_), I3.fpOk (Nat.le_of_eq hC) I6.free⟩
    obtain ⟨_, n1, _, n3, n4, n5⟩ := f2 b hb
    exact ⟨n3, n1, n4, n5⟩
  have loop : codeAny (model X.prog X.w) X.A (.compLoop (.ListComp elt [⟨tg, iter, ifs, 0⟩] scope pos) 0 (.ref it) (.ref D) (compEnvC scope cl C X.env))
      (RR (.ref D) C) { s2 with heap := h4, toks := s2.toks + ([] : List (Str × Value)).length } := by
    refine compLoop_G (fun n s' => ∃ (i : Nat) (vs : St) (ys : List V) (H' : Hp), vs.length = TN.length + 1 ∧ Inv (compCx X scope cl C x (TN ++ N) { s2 with heap := h3 } H3 fp) [] (vs ++ fr.map fun j => (σ[j]?).getD none) H' s' ∧ tn i s'.heap ∧ (∀ b ∈ fp, H' b = none) ∧ W i n ys H') ?_ m0
      ⟨0, List.replicate (TN.length + 1) none, [], H3, by simp, I5, st4, fr3, w0⟩
    rintro n s6 ⟨i, vs, ys, H6, hvs, I6, st6, fr6, w6⟩
    obtain ⟨hDl, hw⟩ := turn i n ys H6 w6
    rcases hw with ⟨stop, qn⟩ | ⟨go, hlen, N', Z', hN', hZ', step⟩
    · refine thn (T.done (compCx X scope cl C x (TN ++ N) { s2 with heap := h3 } H3 fp) rfl rfl rfl hc i [] s6 _ H6 _ I6 (fp5 fr6) st6 stop) fun r s7 ⟨hr, I7⟩ => ?_
      subst hr
      obtain ⟨m7, hn7, _⟩ := I7.loc
      obtain ⟨J7, F7⟩ := fin H6 s7 _ I7
      exact hRR C H6 s7 m7 hn7 J7 F7 qn
    · refine thn (T.item (compCx X scope cl C x (TN ++ N) { s2 with heap := h3 } H3 fp) rfl rfl rfl hc i [] s6 _ H6 _ I6 (fp5 fr6) st6 go) fun r s7 ⟨u, hr, h7⟩ => ?_
      subst hr
      refine thn h7 fun _ s8 ⟨x8, H8, I8, r8, y8, st8, fr8⟩ => ?_
      have I8' := I8.pinned (fp5 fr8) (T.obj _ _ st8)
      refine wpAny_mono (hgt C { s2 with heap := h3 } H3 fp _ s8 _ H8 x8 u _ I8' r8 (step x8 H8 y8 vs hvs)) (fun _ s9 h9 => ?_) fun _ _ z => False.elim z
      obtain ⟨σ9, H9a, I9, ⟨vs9, hl9, e9⟩, n9a⟩ := h9
      subst e9
      refine wpAny_mono (hct C { s2 with heap := h3 } H3 fp _ s9 _ H9a _ I9 n9a) (fun okb s9b h9b => ?_) fun _ _ z => False.elim z
      obtain ⟨H9, I9b, n9⟩ := h9b
      cases okb with
      | false =>
        rw [if_neg Bool.false_ne_true] at n9 ⊢
        obtain ⟨m', hm, w9⟩ := hZ' _ n9
        refine ⟨m', hm, i + 1, vs9, ys, _, hl9, I9b.unpinned, T.keep _ _ _ st8 fun b hb o e => (I9b.pin (b, o) (List.mem_append_right _ (List.mem_append_right _ (mem_pinsAt hb e)))).1, fun b hb => ?_, w9⟩
        obtain ⟨o, e, d⟩ := T.obj _ _ st8 b hb
        exact (I9b.pin (b, o) (List.mem_append_right _ (List.mem_append_right _ (mem_pinsAt hb e)))).2.1
      | true =>
        rw [if_pos rfl] at n9 ⊢
        refine wpAny_mono (he C { s2 with heap := h3 } H3 fp _ s9b _ H9 _ I9b n9) (fun y s10 h10 => ?_) fun _ _ z => False.elim z
        obtain ⟨y10, H10, I10, r10, n10⟩ := h10
        obtain ⟨hD10, m', hm, w10⟩ := hN' y10 H10 n10
        refine wpAny_mono (mt_append (X := compCx X scope cl C x (TN ++ N) { s2 with heap := h3 } H3 fp) _ s10 _ H10 (.ref D) [y10] (.ref D) [y] (fun _ H' => H' = upd H10 D (.lst (ys ++ [y10]))) I10 rfl (.cons r10 .nil) ⟨D, ys, y10, rfl, rfl, hD10, hlen, rfl⟩) (fun _ s11 h11 => ?_) fun _ _ z => False.elim z
        obtain ⟨_, H11, I11, _, e11⟩ := h11
        subst e11
        refine ⟨m', hm, i + 1, vs9, ys ++ [y10], _, hl9, I11.unpinned, T.keep _ _ _ st8 fun b hb o e => (I11.pin (b, o) (List.mem_append_right _ (List.mem_append_right _ (mem_pinsAt hb e)))).1, fun b hb => ?_, w10⟩
        obtain ⟨o, e, d⟩ := T.obj _ _ st8 b hb
        exact (I11.pin (b, o) (List.mem_append_right _ (List.mem_append_right _ (mem_pinsAt hb e)))).2.1
  exact codeAny_compStart_list loop (T.self _ 0 _ _ _ st4 loop)

theorem pe_compG {X : Cx} {elt iter tg : Expr} {ifs : List Expr} {x : Str} {pos : Pos} {scope sc0 : Scope} {cl : List (Str × Addr)} {cn TN N : List Str} {fr : List Nat} {wi : TI} {gt : TG} {tt : TT} {te : TE}
    (hc : X.calm = true) (hi : PI X tg iter wi) (he : ∀ (C : Addr) (s₂ : Shared) (H₂ : Hp) (fp : List Addr), PE (compCx X scope cl C x (TN ++ N) s₂ H₂ fp) elt te) (hct : ∀ (C : Addr) (s₂ : Shared) (H₂ : Hp) (fp : List Addr), PTs (compCx X scope cl C x (TN ++ N) s₂ H₂ fp) ifs tt) (hgt : ∀ (C : Addr) (s₂ : Shared) (H₂ : Hp) (fp : List Addr), PG (compCx X scope cl C x (TN ++ N) s₂ H₂ fp) tg gt)
    (hclos : closureFor scope X.env = pure cl) (hcl : CellsIn X.env cl) (hcn : cl.map (·.1) = cn) (hsc : X.env.scope = sc0) (hk : scope.kind = .function) (hok : CompOkG scope sc0 N cn)
    (hfr : fr.map (fun j => X.N[j]?) = N.map some) (hs : ∀ v, foldedSetIterable iter X.env v = pure v := by intro _; rfl) :
    PE X (.ListComp elt [⟨tg, iter, ifs, 0⟩] scope pos) (tCompG (TN.length + 1) wi gt tt te fr) := by
  intro pins s σ H Q I h
  rw [eval_ListComp]
  refine wpAny_comprehension_free (use := none) rfl hs hclos hk hok.names (thn (hi pins s σ H _ I h) fun v s1 h1 => thn h1 fun itv s2 h2 => ?_)
  obtain ⟨it, fp, tn, J, H2, e, I2, T, st2, f2, hq⟩ := h2
  subst e
  obtain ⟨W, ⟨m0, w0⟩, turn⟩ := hq s2.heap.objs.size (I2.hok.fresh (Nat.le_refl _))
  exact comp_coreG (RR := fun acc C => compPost (model X.prog X.w) X.A X.xe none (EP X pins σ Q) acc C) (R := fun H6 => Q (.ref s2.heap.objs.size) H6) hc he hct hgt hcl hcn hsc hk hok hfr I2 T st2 f2 w0 turn
    fun C H6 s6 m6 hn I6 F6 q => ⟨m6, hn, fun h' sb => ⟨.ref s2.heap.objs.size, H6, I6.let_go F6 sb, rfl, q⟩⟩
/-- y = [.. for x in ..], straight to a local name -/
def tSetCompG (i k : Nat) (wi : TI) (gt : TG) (tt : TT) (te : TE) (fr : List Nat) : TS := fun D σ H => tCompG k wi gt tt te fr σ H fun v H1 => D.nx (σ.set i (some v)) H1
/-- gone through a list that stays -/
theorem compG_list {K : PySem.W.Frag} {a : Addr} {xs : List V} {Tn : V → Hp → (V → Hp → Prop) → (Hp → Prop) → Prop} {D : Addr} {H1 : Hp} {R : Hp → Prop} (hn : xs.length ≤ sizeLine) (Pv : Nat → List V → Hp → Prop) (h0 : Pv 0 [] (upd H1 D (.lst [])))
    (hl : ∀ i ys H, Pv i ys H → SqL K H a xs) (hD : ∀ i ys H, Pv i ys H → H D = some (.lst ys) ∧ ys.length ≤ i)
    (hs : ∀ i x ys H, xs[i]? = some x → Pv i ys H → Tn x H (fun y H3 => H3 D = some (.lst ys) ∧ Pv (i + 1) (ys ++ [y]) (upd H3 D (.lst (ys ++ [y])))) (Pv (i + 1) ys))
    (hd : ∀ ys H, Pv xs.length ys H → R H) :
    ∃ W : Nat → Nat → List V → Hp → Prop, (∃ m, W 0 m [] (upd H1 D (.lst []))) ∧
      ∀ i m ys H2, W i m ys H2 → H2 D = some (.lst ys) ∧ (((Itl K a).stop i H2 ∧ R H2) ∨ ((Itl K a).go i H2 ∧ ys.length < sizeLine ∧ ∃ (N : V → Hp → Prop) (Z : Hp → Prop), (∀ y H3, N y H3 → H3 D = some (.lst ys) ∧ ∃ m', m' < m ∧ W (i + 1) m' (ys ++ [y]) (upd H3 D (.lst (ys ++ [y])))) ∧ (∀ H3, Z H3 → ∃ m', m' < m ∧ W (i + 1) m' ys H3) ∧
        ∀ x H', (Itl K a).yld i H2 x H' → Tn x H' N Z)) := by
  refine ⟨fun i m ys H => m = xs.length - i ∧ i ≤ xs.length ∧ Pv i ys H, ⟨xs.length, by simp, Nat.zero_le _, h0⟩, ?_⟩
  rintro i m ys H2 ⟨rfl, hi, p⟩
  obtain ⟨d1, d2⟩ := hD i ys H2 p
  have q := hl i ys H2 p
  refine ⟨d1, ?_⟩
  by_cases hlt : i < xs.length
  · refine .inr ⟨⟨xs, xs[i], q, by simp [hlt]⟩, by omega, fun y H3 => H3 D = some (.lst ys) ∧ Pv (i + 1) (ys ++ [y]) (upd H3 D (.lst (ys ++ [y]))), Pv (i + 1) ys, fun y H3 ⟨z1, z2⟩ => ⟨z1, xs.length - (i + 1), by omega, rfl, hlt, z2⟩, fun H3 z => ⟨xs.length - (i + 1), by omega, rfl, hlt, z⟩, fun x H' y => ?_⟩
    obtain ⟨e, y⟩ := y
    subst e
    exact hs i x ys _ (y xs q) p
  · have e : i = xs.length := by omega
    subst e
    exact .inl ⟨⟨xs, q, Nat.le_refl _⟩, hd ys H2 p⟩
end L2
/-! my own rules over the layer: gone through a range, each told by g, those alone that pass -/
namespace L2
open PySem PySem.Spec PyProof.Rows
section
variable {n : Nat} {lo : Int} {p : Nat → Bool} {g : Nat → V} {Tt : V → Hp → (Bool → Hp → Prop) → Prop} {Te : V → Hp → (V → Hp → Prop) → Prop} {D : Addr} {H1 : Hp} {R : Hp → Prop}
theorem compIf_range (hD : H1 D = none) (hn : n ≤ sizeLine) (hT : ∀ i, i < n → ∀ (H : Hp) (Q : Bool → Hp → Prop), Same H1 H → Q (p i) H → Tt (.int (lo + (i : Int))) H Q)
    (hE : ∀ i, i < n → ∀ (H : Hp) (Q : V → Hp → Prop), Same H1 H → Q (g i) H → Te (.int (lo + (i : Int))) H Q) (hR : R (upd H1 D (.lst (((List.range n).filter p).map g)))) :
    ∃ W : Nat → Nat → List V → Hp → Prop, (∃ m, W 0 m [] (upd H1 D (.lst []))) ∧
      ∀ i m ys H2, W i m ys H2 → H2 D = some (.lst ys) ∧ (((Itr lo n).stop i H2 ∧ R H2) ∨ ((Itr lo n).go i H2 ∧ ys.length < sizeLine ∧ ∃ N : V → Hp → Prop, (∀ y H3, N y H3 → H3 D = some (.lst ys) ∧ ∃ m', m' < m ∧ W (i + 1) m' (ys ++ [y]) (upd H3 D (.lst (ys ++ [y])))) ∧
        ∀ x H', (Itr lo n).yld i H2 x H' → Tt x H' fun b H3 => if b = true then Te x H3 N else ∃ m', m' < m ∧ W (i + 1) m' ys H3)) := by
  refine ⟨fun i m ys H => m = n - i ∧ i ≤ n ∧ ys = ((List.range i).filter p).map g ∧ H = upd H1 D (.lst ys), ⟨n, by simp, Nat.zero_le _, by simp, rfl⟩, ?_⟩
  rintro i m ys H2 ⟨rfl, hi, hy, rfl⟩
  have sm : Same H1 (upd H1 D (.lst ys)) := same_new hD _
  have hyl : ys.length ≤ i := by
    rw [hy, List.length_map]
    exact Nat.le_trans (List.length_filter_le _ _) (by rw [List.length_range]; exact Nat.le_refl _)
  refine ⟨upd_same, ?_⟩
  by_cases hlt : i < n
  · refine .inr ⟨hlt, by omega, fun y H3 => H3 = upd H1 D (.lst ys) ∧ y = g i ∧ p i = true, fun y H3 ⟨z1, z2, z3⟩ => ⟨by rw [z1]; exact upd_same, n - (i + 1), by omega, rfl, hlt, ?eq, by rw [z1, upd_upd]⟩, fun x H' y => ?st⟩
    case eq =>
      rw [List.range_succ, List.filter_append, List.map_append, ← hy, z2]
      simp [z3]
    case st =>
      obtain ⟨e, y⟩ := y
      subst e y
      refine hT i hlt _ _ sm ?_
      by_cases hp : p i = true
      · rw [if_pos hp]
        exact hE i hlt _ _ sm ⟨rfl, rfl, hp⟩
      · rw [if_neg hp]
        refine ⟨n - (i + 1), by omega, rfl, hlt, ?_, rfl⟩
        rw [List.range_succ, List.filter_append, List.map_append, ← hy]
        simp [hp]
  · have e : i = n := by omega
    subst e
    refine .inl ⟨Nat.le_refl _, ?_⟩
    rw [hy]
    exact hR
end
end L2
/-! my own rules over the layer: sum of ints; gone through a list, things made on the way; a tuple's names in a comprehension; trees alike -/
namespace L2
open PySem PySem.Spec PyProof.Rows
section
variable {X : Cx}
/-- sum(xs) of a list of ints -/
theorem call_sumI (hc : X.calm = true) : CallR X (.builtin "sum") (fun xs H Q => ∃ (p : Addr) (ns : List Int), xs = [.ref p] ∧ SqL X.K H p (ns.map V.int) ∧ Q (.int ns.sum) H) := by
  intro pins s σ H xs us Q I r h
  obtain ⟨p, ns, rfl, hq, q⟩ := h
  obtain ⟨u, rfl, rx⟩ := vals1 r
  cases rx
  obtain ⟨its, r', pl, hz⟩ := I.list hq
  have hi := intsAre_of r'
  obtain ⟨ys, hx⟩ := hi.allInts.items
  have hl' : s.heap.IsList p (intItems ys) := hx ▸ pl.isList
  refine sum_intListG (I.ok.hd hc) hl' fun h' tk t' hk => ?_
  have e1 : ns = ys.toList.map (·.1) := by
    rw [← nums_intItems, ← hx]
    exact (show numsOf its.toArray.toList = ns from hi.numsOf).symm
  have e2 : preSum (numAt ys) ys.size = ns.sum := by
    rw [preSum_eq, List.take_of_length_le (by simp), e1]
  rw [e2]
  exact ⟨.int ns.sum, H, I.kept (t' := tk) hk, ⟨_, rfl⟩, q⟩
theorem pg_tupK {K : PySem.W.Frag} {es : List Expr} {k : Nat} {t : TGs} {n : Nat} {pos : Pos} (hK : X.K = K) (hc : X.calm = true) (h : PGs X es t)
    (hn : (assignEach es X.env).length = n := by rfl) (hst : (assignEach es X.env).findIdx? (·.1) = none := by rfl) : PG X (.Tuple es k pos) (gTup K n t) := by subst hK; exact pg_tup hc h hn hst
end
/-- [.. for x in xs], xs a list that stays -/
theorem comp_listP {K : PySem.W.Frag} {a : Addr} {xs : List V} {T : V → Hp → (V → Hp → Prop) → Prop} {D : Addr} {H1 : Hp} {R : Hp → Prop} (hn : xs.length ≤ sizeLine) (Pv : Nat → List V → Hp → Prop) (h0 : Pv 0 [] (upd H1 D (.lst [])))
    (hl : ∀ i ys H, Pv i ys H → SqL K H a xs) (hD : ∀ i ys H, Pv i ys H → H D = some (.lst ys) ∧ ys.length = i)
    (hs : ∀ i x ys H, xs[i]? = some x → Pv i ys H → T x H fun y H3 => H3 D = some (.lst ys) ∧ Pv (i + 1) (ys ++ [y]) (upd H3 D (.lst (ys ++ [y]))))
    (hd : ∀ ys H, Pv xs.length ys H → R H) :
    ∃ W : Nat → Nat → List V → Hp → Prop, (∃ m, W 0 m [] (upd H1 D (.lst []))) ∧
      ∀ i m ys H2, W i m ys H2 → H2 D = some (.lst ys) ∧ (((Itl K a).stop i H2 ∧ R H2) ∨ ((Itl K a).go i H2 ∧ ys.length < sizeLine ∧ ∃ N : V → Hp → Prop, (∀ y H3, N y H3 → H3 D = some (.lst ys) ∧ ∃ m', m' < m ∧ W (i + 1) m' (ys ++ [y]) (upd H3 D (.lst (ys ++ [y])))) ∧
        ∀ x H', (Itl K a).yld i H2 x H' → T x H' N)) := by
  refine ⟨fun i m ys H => m = xs.length - i ∧ i ≤ xs.length ∧ Pv i ys H, ⟨xs.length, by simp, Nat.zero_le _, h0⟩, ?_⟩
  rintro i m ys H2 ⟨rfl, hi, p⟩
  obtain ⟨d1, d2⟩ := hD i ys H2 p
  have q := hl i ys H2 p
  refine ⟨d1, ?_⟩
  by_cases hlt : i < xs.length
  · refine .inr ⟨⟨xs, xs[i], q, by simp [hlt]⟩, by omega, fun y H3 => H3 D = some (.lst ys) ∧ Pv (i + 1) (ys ++ [y]) (upd H3 D (.lst (ys ++ [y]))), fun y H3 ⟨z1, z2⟩ => ⟨z1, xs.length - (i + 1), by omega, rfl, hlt, z2⟩, fun x H' y => ?_⟩
    obtain ⟨e, y⟩ := y
    subst e
    exact hs i x ys _ (y xs q) p
  · have e : i = xs.length := by omega
    subst e
    exact .inl ⟨⟨xs, q, Nat.le_refl _⟩, hd ys H2 p⟩
end L2
/-! my own rules over the layer: t >= u, t * n of tuples, xs != [] -/
namespace HT
open PySem PySem.Spec PyProof.Rows
section
open PySem.SeqAt
open PySem.AutoSeq1 (wpAny_loadPart')
open PySem.MeetsSeq PySem.MeetsSeq2 PySem.MeetsSeq3
end
section
variable {prog : Program} {w : World} {A : Around} {E : Value → Shared → Prop} {s : Shared}
end
end HT
namespace L2
open PySem PySem.Spec PyProof.Rows
section
variable {X : Cx}
/-- xs != [] of a list of anything -/
theorem op_neNil (hu : X.A.units + 64 < cLine) : OpR X (compareOp .NotEq) (fun x y H Q => ∃ (a b : Addr) (xs : List V), x = .ref a ∧ y = .ref b ∧ SqL X.K H a xs ∧ SqL X.K H b [] ∧ Q (.bl (!xs.isEmpty)) H) := by
  intro pins s σ H x y v u Q I rx ry h
  obtain ⟨a, b, xs, rfl, rfl, ha, hb, q⟩ := h
  cases rx
  cases ry
  cases xs with
  | nil => exact (eqAt_lst I ha hb rfl (fun j x y h1 => nomatch h1) (by omega)).2 _ _ _ _ ⟨.bl false, H, I, rfl, q⟩
  | cons x xs =>
    obtain ⟨its, r1, p1, _⟩ := I.list ha
    obtain ⟨its2, r2, p2, _⟩ := I.list hb
    have l1 := r1.length
    have l2 := r2.length
    have hz : (its.toArray.size != its2.toArray.size) = true := by
      rw [List.size_toArray, List.size_toArray, ← l1, ← l2]; rfl
    exact SeqAt.RcNeAt.lists_lengths p1.isList p2.isList hz (by omega) _ _ _ _ ⟨.bl true, H, I, rfl, q⟩
end
/-- a comprehension with a test, the heap growing -/
theorem compIf_listP {K : PySem.W.Frag} {a : Addr} {xs : List V} {Tt : V → Hp → (Bool → Hp → Prop) → Prop} {Te : V → Hp → (V → Hp → Prop) → Prop} {D : Addr} {H1 : Hp} {R : Hp → Prop} (hn : xs.length ≤ sizeLine) (Pv : Nat → List V → Hp → Prop) (h0 : Pv 0 [] (upd H1 D (.lst [])))
    (hl : ∀ i ys H, Pv i ys H → SqL K H a xs) (hD : ∀ i ys H, Pv i ys H → H D = some (.lst ys) ∧ ys.length ≤ i)
    (hs : ∀ i x ys H, xs[i]? = some x → Pv i ys H → Tt x H fun b H3 => if b = true then Te x H3 (fun y H4 => H4 D = some (.lst ys) ∧ Pv (i + 1) (ys ++ [y]) (upd H4 D (.lst (ys ++ [y])))) else ∃ m', m' < xs.length - i ∧ m' = xs.length - (i + 1) ∧ i + 1 ≤ xs.length ∧ Pv (i + 1) ys H3)
    (hd : ∀ ys H, Pv xs.length ys H → R H) :
    ∃ W : Nat → Nat → List V → Hp → Prop, (∃ m, W 0 m [] (upd H1 D (.lst []))) ∧
      ∀ i m ys H2, W i m ys H2 → H2 D = some (.lst ys) ∧ (((Itl K a).stop i H2 ∧ R H2) ∨ ((Itl K a).go i H2 ∧ ys.length < sizeLine ∧ ∃ N : V → Hp → Prop, (∀ y H3, N y H3 → H3 D = some (.lst ys) ∧ ∃ m', m' < m ∧ W (i + 1) m' (ys ++ [y]) (upd H3 D (.lst (ys ++ [y])))) ∧
        ∀ x H', (Itl K a).yld i H2 x H' → Tt x H' fun b H3 => if b = true then Te x H3 N else ∃ m', m' < m ∧ W (i + 1) m' ys H3)) := by
  refine ⟨fun i m ys H => m = xs.length - i ∧ i ≤ xs.length ∧ Pv i ys H, ⟨xs.length, by simp, Nat.zero_le _, h0⟩, ?_⟩
  rintro i m ys H2 ⟨rfl, hi, p⟩
  obtain ⟨d1, d2⟩ := hD i ys H2 p
  have q := hl i ys H2 p
  refine ⟨d1, ?_⟩
  by_cases hlt : i < xs.length
  · refine .inr ⟨⟨xs, xs[i], q, by simp [hlt]⟩, by omega, fun y H3 => H3 D = some (.lst ys) ∧ Pv (i + 1) (ys ++ [y]) (upd H3 D (.lst (ys ++ [y]))), fun y H3 ⟨z1, z2⟩ => ⟨z1, xs.length - (i + 1), by omega, rfl, hlt, z2⟩, fun x H' y => ?_⟩
    obtain ⟨e, y⟩ := y
    subst e
    exact hs i x ys _ (y xs q) p
  · have e : i = xs.length := by omega
    subst e
    exact .inl ⟨⟨xs, q, Nat.le_refl _⟩, hd ys H2 p⟩
end L2
/-! my own rules over the layer: t == () of any tuple; sum of a tuple of ints; tuples written or joined that are known to the object -/
namespace L2
open PySem PySem.Spec PyProof.Rows
section
variable {X : Cx}
/-- a written tuple, known to the object -/
def tTupF (t : TA) : TE := fun σ H Q => t σ H fun xs H1 => xs.length ≤ sizeLine ∧ ∀ p H', Same H1 H' → TupF H' p xs → Q (.ref p) H'
end
end L2
/-! enumerate over a tuple -/
namespace L2
open PySem PySem.Spec PyProof.Rows
section
variable {prog : Program} {w : World} {A : Around} {E : Value → Shared → Prop} {s : Shared}
theorem nextT_item {ia tp : Addr} {i : Nat} {us : Array Value} {u : Value} {Q : Value → Shared → Prop} (a1 : s.heap.IsTupleIter ia tp i) (a2 : s.heap.IsTuple tp us) (a3 : us[i]? = some u)
    (k : ∀ h', h'.IsTupleIter ia tp (i + 1) → Heap.SameBut ia s.heap h' → Q u { s with heap := h' }) : wpAny (model prog w) A (Builtin.SmallTypes.nextOf (.ref ia)) Q E s := by
  obtain ⟨o, b1, b2, b3⟩ := id a1
  obtain ⟨ot, c1, _, nt, c2⟩ := a2
  unfold Builtin.SmallTypes.nextOf
  refine wpAny_bind (wpAny_callSpecial?_slot (name := Str.ofString "__next__") a1.typeIs F.slot_tuple_iterator_next (wpAny_call_entry F.slot_tuple_iterator_next a1.typeIs F.entry_tuple_iterator_next ?_ (F.args_tuple_iterator_next_1 _)))
  show wpAny _ _ (field (.ref ia) 0 >>= _) _ _ s
  refine wpAny_bind (wpAny_field b1 b3 (x := .ref tp) rfl ?_)
  show wpAny _ _ (if (Value.ref tp == Value.none) = true then _ else _) _ _ s
  rw [if_neg (show ¬ ((Value.ref tp == Value.none) = true) from Bool.false_ne_true)]
  show wpAny _ _ (field (.ref ia) 1 >>= _) _ _ s
  refine wpAny_bind (wpAny_field b1 b3 (x := .int i 0) rfl ?_)
  show wpAny _ _ (seqItems? (.ref tp) >>= _) _ _ s
  refine wpAny_bind (wpAny_seqItems c1 c2 ?_)
  simp only [Int.toNat_natCast, a3]
  refine wpAny_bind (wpAny_setField b1 b3 (by simp) (wpAny_pure ⟨u, rfl, wpAny_pure (k _ ?_ (Heap.SameBut.update ..))⟩))
  exact ⟨_, Heap.get?_update_self _ b1 (Obj.isFreed_of_fields (Obj.data_mapFields b3 _)), (Obj.cls_mapFields ..).trans b2, by rw [Obj.data_mapFields b3]; simp [rawInt]⟩
theorem nextT_end {ia tp : Addr} {i : Nat} {us : Array Value} {Q : Value → Shared → Prop} (hh : A.handled = none) (a1 : s.heap.IsTupleIter ia tp i) (a2 : s.heap.IsTuple tp us) (a3 : us[i]? = none)
    (k : ∀ h' x, Heap.ExtBut ia s.heap h' → (∃ o, h'.get? x = some o ∧ o.cls = .type "StopIteration") → E (.ref x) { s with heap := h' }) : wpAny (model prog w) A (Builtin.SmallTypes.nextOf (.ref ia)) Q E s := by
  obtain ⟨o, b1, b2, b3⟩ := id a1
  obtain ⟨ot, c1, _, nt, c2⟩ := a2
  unfold Builtin.SmallTypes.nextOf
  refine wpAny_bind (wpAny_callSpecial?_slot (name := Str.ofString "__next__") a1.typeIs F.slot_tuple_iterator_next (wpAny_call_entry F.slot_tuple_iterator_next a1.typeIs F.entry_tuple_iterator_next ?_ (F.args_tuple_iterator_next_1 _)))
  show wpAny _ _ (field (.ref ia) 0 >>= _) _ _ s
  refine wpAny_bind (wpAny_field b1 b3 (x := .ref tp) rfl ?_)
  show wpAny _ _ (if (Value.ref tp == Value.none) = true then _ else _) _ _ s
  rw [if_neg (show ¬ ((Value.ref tp == Value.none) = true) from Bool.false_ne_true)]
  show wpAny _ _ (field (.ref ia) 1 >>= _) _ _ s
  refine wpAny_bind (wpAny_field b1 b3 (x := .int i 0) rfl ?_)
  show wpAny _ _ (seqItems? (.ref tp) >>= _) _ _ s
  refine wpAny_bind (wpAny_seqItems c1 c2 ?_)
  simp only [Int.toNat_natCast, a3]
  refine wpAny_bind (wpAny_rule (wpAny_bind (wpAny_setField b1 b3 (by simp) ?_)))
  show wpAny _ _ (newExc (.type "StopIteration") [] >>= fun _ => _) _ _ _
  refine wpAny_bind ?_
  simp only [newExc, newTuple]
  refine wpAny_bind (wpAny_newObj_type ?_ (by size_fits))
  refine wpAny_bind (m := firstArgMember _ _) (wpAny_of_eq (a := Value.none) (by first | rfl | simp [firstArgMember]) (wpAny_newObj_type ?_ (by size_fits)))
  simp only [raiseNew]
  refine wpAny_bind (wpAny_handled ?_)
  first | rw [show A.in1.handled = none from hh] | (rw [hh]; skip)
  exact wpAny_bind (wpAny_pure (wpAny_throw (k _ _ (((Heap.SameBut.update ..).extBut.push _).push _) ⟨_, Heap.get?_push_size _ rfl, rfl⟩)))
/-- one turn of an enumerate -/
theorem enumT_item {en ia tp : Addr} {i : Nat} {us : Array Value} {u was : Value} {Q : Option Value → Shared → Prop} (e0 : IsEnum s.heap en ia i was) (a1 : s.heap.IsTupleIter ia tp i) (a2 : s.heap.IsTuple tp us) (a3 : us[i]? = some u) (ne : en ≠ ia)
    (k : ∀ h', IsEnumOut h' en ia ((i : Int) + 1) u s.heap.objs.size → h'.IsTupleIter ia tp (i + 1) → h'.get? s.heap.objs.size = some { cls := .type "tuple", data := .seq #[.int i s.toks, u] } →
      (∀ b o, b ≠ en → b ≠ ia → s.heap.get? b = some o → h'.get? b = some o) → Q (some (.ref s.heap.objs.size)) { s with heap := h', toks := s.toks + 1 }) :
    wpAny (model prog w) A (pyNext (.ref en)) Q E s := by
  have ty : s.TypeIs (.ref en) "enumerate" := ⟨_, e0, rfl⟩
  unfold pyNext
  refine wpAny_bind (wpAny_attempt (wpAny_callSpecial?_slot (name := Str.ofString "__next__") ty F.slot_enumerate_next (wpAny_call_entry F.slot_enumerate_next ty F.entry_enumerate_next ?_ (F.args_enumerate_next_1 _))))
  obtain ⟨h0, g, d, tk, os⟩ := s
  show wpAny _ _ (field (.ref en) 2 >>= _) _ _ _
  refine wpAny_bind (wpAny_field e0 rfl (x := .ref ia) rfl (wpAny_bind (nextT_item a1 a2 a3 fun h1 n1 s1 => ?_)))
  replace s1 : Heap.SameBut ia h0 h1 := s1
  have e1 : IsEnum h1 en ia i was := (s1.2 en ne).trans e0
  show wpAny _ _ (field (.ref en) 3 >>= _) _ _ ⟨h1, g, d, tk, os⟩
  refine wpAny_bind (wpAny_field e1 rfl (x := rawInt i) rfl ?_)
  show wpAny _ _ (field (.ref en) 4 >>= _) _ _ ⟨h1, g, d, tk, os⟩
  refine wpAny_bind (wpAny_field e1 rfl (x := .none) rfl ?_)
  show wpAny _ _ (mkInt i >>= _) _ _ ⟨h1, g, d, tk, os⟩
  refine wpAny_bind (wpAny_mkInt ?_)
  show wpAny _ _ (setField (.ref en) 3 (rawInt ((i : Int) + 1)) >>= _) _ _ ⟨h1, g, d, tk + 1, os⟩
  refine wpAny_bind (wpAny_setField_rec e1 (by simp) fun h2 e2 s2 => ?_)
  replace s2 : Heap.SameBut en h1 h2 := s2
  replace e2 : IsEnum h2 en ia ((i : Int) + 1) was := e2
  show wpAny _ _ (setField (.ref en) 4 .none >>= _) _ _ ⟨h2, g, d, tk + 1, os⟩
  refine wpAny_bind (wpAny_setField_rec e2 (by simp) fun h3 e3 s3 => ?_)
  replace s3 : Heap.SameBut en h2 h3 := s3
  replace e3 : IsEnum h3 en ia ((i : Int) + 1) was := e3
  show wpAny _ _ (newTuple [.int i tk, u] >>= _) _ _ ⟨h3, g, d, tk + 1, os⟩
  refine wpAny_bind (wpAny_newTuple ?_)
  have z3 : h3.objs.size = h0.objs.size := by rw [s3.1, s2.1, s1.1]
  have l0 : en < h0.objs.size := Heap.lt_size e0
  have ni : ia ≠ en := Ne.symm ne
  generalize hh4 : h3.push { cls := .type "tuple", data := .seq #[.int i tk, u] } = h4
  have e4 : IsEnum h4 en ia ((i : Int) + 1) was := by rw [← hh4]; exact Heap.get?_push_of_some _ e3
  have t4 : h4.get? h0.objs.size = some { cls := .type "tuple", data := .seq #[.int i tk, u] } := by rw [← hh4, ← z3]; exact Heap.get?_push_size _ rfl
  have k4 : ∀ b o, b ≠ en → b ≠ ia → h0.get? b = some o → h4.get? b = some o := fun b o m1 m2 q => by
    rw [← hh4]
    exact Heap.get?_push_of_some _ (s3.extBut b o m1 (s2.extBut b o m1 (s1.extBut b o m2 q)))
  have n4 : h4.IsTupleIter ia tp (i + 1) := by
    rw [← hh4]
    obtain ⟨o, q, r⟩ := (n1.extBut s2.extBut ni).extBut s3.extBut ni
    exact ⟨o, Heap.get?_push_of_some _ q, r⟩
  show wpAny _ _ (Builtin.SmallTypes.ownedTupleIsFree (.ref en) >>= _) _ _ ⟨h4, g, d, tk + 1, os⟩
  rw [z3]
  clear hh4
  refine wpAny_bind ?_
  unfold Builtin.SmallTypes.ownedTupleIsFree
  refine wpAny_bind (wpAny_field e4 rfl (x := .none) rfl (wpAny_pure ?_))
  simp only [if_true]
  refine wpAny_bind (wpAny_rule (wpAny_bind (wpAny_field e4 rfl (x := was) rfl (wpAny_bind (wpAny_setField_rec e4 (by simp) fun h5 e5 s5 => ?_)))))
  replace s5 : Heap.SameBut en h4 h5 := s5
  replace e5 : IsEnum h5 en ia ((i : Int) + 1) u := e5
  show wpAny _ _ (Builtin.SmallTypes.ownedTupleHandOut (.ref en) (.ref h0.objs.size) >>= _) _ _ ⟨h5, g, d, tk + 1, os⟩
  refine wpAny_bind ?_
  unfold Builtin.SmallTypes.ownedTupleHandOut
  refine wpAny_bind (wpAny_setField_rec e5 (by simp) fun h6 e6 s6 => ?_)
  replace s6 : Heap.SameBut en h5 h6 := s6
  replace e6 : IsEnumOut h6 en ia ((i : Int) + 1) u h0.objs.size := e6
  refine wpAny_setField_rec e6 (by simp) fun h7 e7 s7 => ?_
  replace s7 : Heap.SameBut en h6 h7 := s7
  replace e7 : IsEnumOut h7 en ia ((i : Int) + 1) u h0.objs.size := e7
  have up : ∀ b o, b ≠ en → h4.get? b = some o → h7.get? b = some o := fun b o m q => s7.extBut b o m (s6.extBut b o m (s5.extBut b o m q))
  refine wpAny_bind (wpAny_letGo (wpAny_pure ⟨_, rfl, wpAny_pure (k h7 e7 ?_ (up _ _ (Nat.ne_of_gt l0) t4) fun b o m1 m2 q => up b o m1 (k4 b o m1 m2 q))⟩))
  obtain ⟨o, q, r⟩ := n4
  exact ⟨o, up _ _ ni q, r⟩
theorem enumT_end {en ia tp : Addr} {i : Nat} {us : Array Value} {was : Value} {Q : Option Value → Shared → Prop} (hh : A.handled = none) (e0 : IsEnum s.heap en ia i was) (a1 : s.heap.IsTupleIter ia tp i) (a2 : s.heap.IsTuple tp us) (a3 : us[i]? = none)
    (k : ∀ h', Heap.ExtBut ia s.heap h' → Q none { s with heap := h' }) : wpAny (model prog w) A (pyNext (.ref en)) Q E s := by
  have ty : s.TypeIs (.ref en) "enumerate" := ⟨_, e0, rfl⟩
  unfold pyNext
  refine wpAny_bind (wpAny_attempt (wpAny_callSpecial?_slot (name := Str.ofString "__next__") ty F.slot_enumerate_next (wpAny_call_entry F.slot_enumerate_next ty F.entry_enumerate_next ?_ (F.args_enumerate_next_1 _))))
  show wpAny _ _ (field (.ref en) 2 >>= _) _ _ _
  refine wpAny_bind (wpAny_field e0 rfl (x := .ref ia) rfl (wpAny_bind (nextT_end hh a1 a2 a3 fun h' x q1 q2 => ?_)))
  obtain ⟨o, o1, o2⟩ := q2
  exact wpAny_bind (wpAny_isInstance (T := "StopIteration") (b := true) ⟨o, o1, o2⟩ isSubtype_stop (wpAny_pure (k _ q1)))
end
end L2
/-! for a, b in enumerate(a tuple) -/
namespace L2
open PySem PySem.Spec PyProof.Rows
/-- the pairs (0, x0), (1, x1), .. of the tuple at a -/
def Ite (K : PySem.W.Frag) (a : Addr) : It :=
  ⟨fun i H => ∃ xs x, SqT K H a xs ∧ xs[i]? = some x, fun i H x H' => ∃ p y, x = .ref p ∧ H p = none ∧ H' = upd H p (.tup [.int i, y]) ∧ ∀ xs, SqT K H a xs → xs[i]? = some y, fun i H => ∃ xs, SqT K H a xs ∧ xs.length ≤ i⟩
theorem two_small : 2 ≤ sizeLine := szb rfl
theorem turn_enumT {P : Program} {w : World} {K : PySem.W.Frag} {es : List Expr} {x1 : Nat} {pos : Pos} (a en ia : Addr) (ne : en ≠ ia) :
    Turn P w K (.Tuple es x1 pos) (Ite K a) [en, ia] en (fun i h => (∃ was, IsEnum h en ia (i : Nat) was) ∧ h.IsTupleIter ia a i) where
  mem := by simp
  obj := fun i h st b hb => by
    obtain ⟨⟨was, q1⟩, o, q2, q3, q4⟩ := st
    rcases List.mem_cons.mp hb with z | z
    · subst z
      exact ⟨_, q1, fun v y => by cases y⟩
    · have z' : b = ia := by simpa using z
      subst z'
      exact ⟨o, q2, fun v y => by rw [q4] at y; cases y⟩
  keep := fun i h h' st k => by
    obtain ⟨⟨was, q1⟩, o, q2, q3⟩ := st
    exact ⟨⟨was, k en (by simp) _ q1⟩, o, k ia (by simp) _ q2, q3⟩
  item := by
    intro X hP hw hK hc i pins s σ H E I hf st hg
    subst hP hw hK
    obtain ⟨⟨was, q1⟩, q2⟩ := st
    obtain ⟨xs, x, hq, hx⟩ := hg
    obtain ⟨its, rv, p, hz⟩ := I.tuple hq
    obtain ⟨u, hu, ru⟩ := rv.get hx
    refine enumT_item q1 q2 (show s.heap.IsTuple a its.toArray from p) (u := u) (by simpa using hu) ne fun h1 e1 n1 t1 k1 => ⟨_, rfl, ?_⟩
    refine wpAny_letOwnedTupleGo_enum e1 fun h2 e2 s2 => ?_
    replace s2 : Heap.SameBut en h1 h2 := s2
    have len : en < s.heap.objs.size := Heap.lt_size q1
    have t2 : h2.get? s.heap.objs.size = some { cls := .type "tuple", data := .seq #[.int i s.toks, u] } := (s2.2 _ (Nat.ne_of_gt len)).trans t1
    have kk : ∀ b o, b ≠ en → b ≠ ia → s.heap.get? b = some o → h2.get? b = some o := fun b o m1 m2 q => (s2.2 b m1).trans (k1 b o m1 m2 q)
    have fr : H s.heap.objs.size = none := I.hok.fresh (Nat.le_refl _)
    have f1 := hf en (by simp)
    have f2 := hf ia (by simp)
    have neq : ∀ b, H b ≠ none → b ≠ en ∧ b ≠ ia := fun b m => ⟨fun z => m (z ▸ f1.1), fun z => m (z ▸ f2.1)⟩
    have un : Un (frs X.stack) [en, ia] H (upd H s.heap.objs.size (.tup [.int i, x])) s.heap h2 := by
      have nn : ∀ b, b ∉ [en, ia] → b ≠ en ∧ b ≠ ia := fun b m => ⟨fun z => m (by simp [z]), fun z => m (by simp [z])⟩
      have np : ∀ b o, s.heap.get? b = some o → b ≠ s.heap.objs.size := fun b o q => Nat.ne_of_lt (Heap.lt_size q)
      exact ⟨fun b o q _ _ m => kk b o (nn b m).1 (nn b m).2 q, fun b o q _ _ m => ⟨o.slots, kk b o (nn b m).1 (nn b m).2 q⟩, fun b o q m _ => by rw [upd_ne (np b o q)]; exact m, fun b o q m => ⟨o, kk b o (nn b m).1 (nn b m).2 q⟩,
        fun b ys q => by rw [upd_ne (ne_of_none q fr)]; exact q, fun b o v q => by rw [upd_ne (ne_of_none q fr)]; exact q, fun b ps q => ⟨#[], by rw [upd_ne (ne_of_none q fr), q]; simp⟩⟩
    have hok : HOk X.prog X.w (upd H s.heap.objs.size (.tup [.int i, x])) h2 := fun b ob e => by
      by_cases hb : b = s.heap.objs.size
      · subst hb
        rw [upd_same] at e
        cases e
        exact ⟨two_small, [.int i s.toks, u], .cons ⟨_, rfl⟩ (.cons ru .nil), ⟨_, t2, rfl, _, rfl⟩⟩
      · rw [upd_ne hb] at e
        refine (I.hok b ob e).stay (fun c v z q => ?_) (fun c q => by rw [upd_ne (ne_of_none q fr)]; exact q) fun c ys q => by rw [upd_ne (ne_of_none q fr)]; exact q
        have m : H c ≠ none := by
          rcases z with rfl | z
          · rw [e]; exact fun y => nomatch y
          · rw [z]; exact fun y => nomatch y
        exact kk c v (neq c m).1 (neq c m).2 q
    have J : Inv X pins σ (upd H s.heap.objs.size (.tup [.int i, x])) { s with heap := h2, toks := s.toks + 1 } := by
      refine I.call' (s' := { s with heap := h2, toks := s.toks + 1 }) (ch := [en, ia]) rfl un hok I.bare fun b hb => ?_
      rcases List.mem_cons.mp hb with z | z
      · subst z
        exact ⟨f1.2.2.2.1, f1.2.1, f1.2.2.2.2.1, f1.2.2.2.2.2⟩
      · have z' : b = ia := by simpa using z
        subst z'
        exact ⟨f2.2.2.2.1, f2.2.1, f2.2.2.2.2.1, f2.2.2.2.2.2⟩
    refine ⟨.ref s.heap.objs.size, _, J, rfl, ⟨s.heap.objs.size, x, rfl, fr, rfl, fun ys hy => by rw [I.tuple_inj hy hq]; exact hx⟩, ⟨⟨u, ?_⟩, ?_⟩, fun b hb => ?_⟩
    · have : ((i + 1 : Nat) : Int) = (i : Int) + 1 := by omega
      rw [this]
      exact e2
    · obtain ⟨o, q, r⟩ := n1
      exact ⟨o, (s2.2 ia (Ne.symm ne)).trans q, r⟩
    · have hb' : b = en ∨ b = ia := by simpa using hb
      have lb : b < s.heap.objs.size := by
        rcases hb' with z | z
        · rw [z]; exact len
        · obtain ⟨o, q, _⟩ := q2
          rw [z]; exact Heap.lt_size q
      rw [upd_ne (Nat.ne_of_lt lb)]
      exact (hf b hb).1
  done := by
    intro X hP hw hK hc i pins s σ H E I hf st hg
    subst hP hw hK
    obtain ⟨⟨was, q1⟩, q2⟩ := st
    obtain ⟨xs, hq, hx⟩ := hg
    obtain ⟨its, rv, p, hz⟩ := I.tuple hq
    obtain ⟨f0, f1, f2, f3, f4, f5⟩ := hf ia (by simp)
    have hl := rv.length
    exact enumT_end (I.ok.hd hc) q1 q2 (show s.heap.IsTuple a its.toArray from p) (by simp; omega) fun h' eb => ⟨rfl, I.turned (t' := s.toks) (fun b o hb e => eb b o hb e) f0 f1 f3 f4 f5⟩
  self := fun _ _ _ _ _ st h => by
    obtain ⟨⟨was, q1⟩, _⟩ := st
    exact wpAny_pyIter_enum q1 h

theorem enum_newT (tp : Addr) (us : Array Value) (n : Nat) (dct : Option Addr) (sl : Array (Option Value)) :
    Meets (Builtin.«enumerate.__new__» ⟨[.type "enumerate", .ref tp], []⟩) (fun _ R s => s.heap.get? tp = some { cls := .type "tuple", dict := dct, data := .seq us n, slots := sl } ∧
      R (.ok (.ret (.ref (s.heap.push { cls := .type "tuple_iterator", data := .fields #[.ref tp, .int 0 0] }).objs.size)))
        { s with heap := (s.heap.push { cls := .type "tuple_iterator", data := .fields #[.ref tp, .int 0 0] }).push { cls := .type "enumerate", data := .fields #[.none, .bool false, .ref s.heap.objs.size, rawInt 0, .none, .none] } }) :=
  .of_wp fun prog w A R s z => by
    obtain ⟨hp, g, d, tk, os⟩ := s
    obtain ⟨z1, z2⟩ := z
    have sb := sub_enumerate
    have T : Heap.IsTuple (Shared.heap ⟨hp, g, d, tk, os⟩) tp us := ⟨_, z1, rfl, n, rfl⟩
    wp_walk using AutoSeq1.wpAny_loadPart' z1
    refine wpAny_stack_any fun st => wpAny_pure ?_
    split
    · rename_i c _ _ _ _ _
      cases (c == Value.type "enumerate")
      all_goals
        wp_walk using AutoSeq1.wpAny_loadPart' z1, wpAny_pyIter_tuple T
        exact ⟨_, rfl, z2⟩
    · wp_walk using AutoSeq1.wpAny_loadPart' z1, wpAny_pyIter_tuple T
      exact ⟨_, rfl, z2⟩
section
variable {prog : Program} {w : World} {A : Around} {E : Value → Shared → Prop} {s : Shared}
theorem call_enumT {tp : Addr} {us : Array Value} {Q : Value → Shared → Prop} (T : s.heap.IsTuple tp us)
    (k : ∀ h', IsEnum h' (s.heap.objs.size + 1) s.heap.objs.size 0 .none → h'.IsTupleIter s.heap.objs.size tp 0 → (∀ b o, s.heap.get? b = some o → h'.get? b = some o) → Q (.ref (s.heap.objs.size + 1)) { s with heap := h' }) :
    wpAny (model prog w) A (call (.type "enumerate") [.ref tp]) Q E s := by
  obtain ⟨⟨c, dct, dt, sl⟩, z1, z2, n, z3⟩ := T
  simp only at z2 z3
  subst z2 z3
  refine callType_new F.called_enumerate (by decide) (F.typeCall_enumerate_1 _) (F.newCall_enumerate_1 _) (fun obj => F.args_object_init_2 obj _) F.entry_enumerate_new (enum_newT tp us n dct sl) ⟨z1, ?_⟩
  generalize ho : ({ cls := .type "tuple_iterator", data := .fields #[.ref tp, .int 0 0] } : Obj) = o1
  have y1 : (s.heap.push o1).objs.size = s.heap.objs.size + 1 := Heap.size_push ..
  have y2 : ∀ o2 : Obj, o2.isFreed = false → ((s.heap.push o1).push o2).get? (s.heap.objs.size + 1) = some o2 := fun o2 f => by
    have := Heap.get?_push_size (s.heap.push o1) (o := o2) f
    rwa [y1] at this
  show _ ∧ _
  rw [y1]
  have y3 := y2 { cls := .type "enumerate", data := .fields #[.none, .bool false, .ref s.heap.objs.size, rawInt 0, .none, .none] } rfl
  refine ⟨⟨_, y3, rfl⟩, k _ y3 ⟨o1, Heap.get?_push_of_some _ (Heap.get?_push_size _ (by rw [← ho]; rfl)), by rw [← ho], by rw [← ho]; rfl⟩ fun b o q => Heap.get?_push_of_some _ (Heap.get?_push_of_some _ q)⟩
end
section
variable {X : Cx} {es : List Expr} {x1 : Nat} {tpos : Pos}
def iEnum (K : PySem.W.Frag) (ta : TA) : TI := fun σ H R => ta σ H fun vs H1 => ∃ a, vs = [.ref a] ∧ (∃ xs, SqT K H1 a xs) ∧ R (Ite K a) H1
theorem pi_enum {l : Expr} {ta : TA} {p pos : Pos} (hg : Gl X "enumerate") (hm : X.mg "enumerate" = none) (ha : PA X [l] ta) (hs : starEach [l] X.env = [(false, eval l X.env)] := by rfl) :
    PI X (.Tuple es x1 tpos) (.Call (.Name "enumerate" p) [l] [] pos) (iEnum X.K ta) := by
  intro pins s σ H R I h
  refine Call_ (ld_blt I hg hm boot_enumerate (PyProof.Rows.callWith_type1 (thn (ha pos pins s σ H _ I h) fun us s1 ⟨vs, H1, I1, r1, q1⟩ => ?_) hs rfl))
  obtain ⟨a, e, ⟨xs, hq⟩, q⟩ := q1
  subst e
  cases r1 with
  | cons r rr =>
    cases rr
    cases r
    obtain ⟨its, rv, p, hz⟩ := I1.tuple hq
    refine call_enumT (show s1.heap.IsTuple a its.toArray from p) fun h' e1 e2 k => wpAny_pyIter_enum e1 ?_
    have I2 : Inv X pins σ H1 { s1 with heap := h' } := I1.kept (t' := s1.toks) k
    refine ⟨s1.heap.objs.size + 1, [s1.heap.objs.size + 1, s1.heap.objs.size], _, _, H1, rfl, I2, turn_enumT a _ _ (Nat.succ_ne_self _), ⟨⟨_, e1⟩, e2⟩, fun b hb => ?_, q⟩
    have hb' : s1.heap.objs.size ≤ b := by
      have z : b = s1.heap.objs.size + 1 ∨ b = s1.heap.objs.size := by simpa using hb
      rcases z with z | z
      · rw [z]; exact Nat.le_succ _
      · rw [z]; exact Nat.le_refl _
    exact I1.fpOk hb' (I1.hok.fresh hb')
theorem for_enum {K : PySem.W.Frag} {a : Addr} {xs : List V} {g : TG} {tb : TS} {D : Ends} {σ : St} {H : Hp} (Pv : Nat → St → Hp → Prop) (h0 : Pv 0 σ H) (hl : ∀ i σ H, i ≤ xs.length → Pv i σ H → SqT K H a xs)
    (hs : ∀ i x σ H p, xs[i]? = some x → Pv i σ H → H p = none → g (.ref p) σ (upd H p (.tup [.int i, x])) fun σ2 H2 => tb { D with nx := Pv (i + 1), ct := Pv (i + 1), bk := D.nx } σ2 H2) (hd : ∀ σ H, Pv xs.length σ H → D.nx σ H) :
    ∃ W : Nat → Nat → St → Hp → Prop, (∃ m, W 0 m σ H) ∧ ∀ i m σ H, W i m σ H →
      ((Ite K a).stop i H ∧ D.nx σ H) ∨ ((Ite K a).go i H ∧ ∃ N : St → Hp → Prop, (∀ σ' H', N σ' H' → ∃ m', m' < m ∧ W (i + 1) m' σ' H') ∧ ∀ x H', (Ite K a).yld i H x H' → g x σ H' fun σ2 H2 => tb { D with nx := N, ct := N, bk := D.nx } σ2 H2) := by
  refine ⟨fun i m σ H => m = xs.length - i ∧ i ≤ xs.length ∧ Pv i σ H, ⟨xs.length, by simp, Nat.zero_le _, h0⟩, ?_⟩
  rintro i m σ H ⟨rfl, hi, p⟩
  have q := hl i σ H hi p
  by_cases hlt : i < xs.length
  · refine .inr ⟨⟨xs, xs[i], q, by simp [hlt]⟩, Pv (i + 1), fun σ' H' p' => ⟨xs.length - (i + 1), by omega, rfl, hlt, p'⟩, fun x H' y => ?_⟩
    obtain ⟨pp, yv, rfl, e2, rfl, y⟩ := y
    exact hs i yv σ _ pp (y xs q) p e2
  · have e : i = xs.length := by omega
    subst e
    exact .inl ⟨⟨xs, q, Nat.le_refl _⟩, hd σ H p⟩
end
end L2
/-! my own rules over the layer: a pair in a list of pairs; xs == []; a <= b <= c < d -/
namespace L2
open PySem PySem.Spec PyProof.Rows
def pairV (H : Hp) : Value → Option (Int × Int)
  | .ref b => match H b with
    | some (.tup [.int i, .int j]) => some (i, j)
    | _ => none
  | _ => none
section
variable {X : Cx}
def PairsIn (H : Hp) (xs : List V) (ps : List (Int × Int)) : Prop := xs.length = ps.length ∧ ∀ (j : Nat) (x : V) (q : Int × Int), xs[j]? = some x → ps[j]? = some q → ∃ b, x = .ref b ∧ H b = some (.tup [.int q.1, .int q.2])
/-- a op1 b op2 c op3 d, as a test -/
def tChain3 (r r' r'' : R2) (ta tb tc td : TE) : TE := fun σ H Q => ta σ H fun x H1 => tb σ H1 fun y H2 => r x y H2 fun z H3 => ∃ k, z = .bl k ∧
  (if k = true then tc σ H3 fun w' H4 => r' y w' H4 fun z2 H5 => ∃ k2, z2 = .bl k2 ∧ (if k2 = true then td σ H5 fun w'' H6 => r'' w' w'' H6 Q else Q (.bl false) H5) else Q (.bl false) H3)
variable {a b c d : Expr} {ta tb tc td : TE} {pos : Pos}
end
end L2
namespace My
open PySem L2

def top (i : Nat) : Stmt := PySem.Challenge.pw_manyleast_k25_whole_orders_and_counts.main.body.getD i (.Pass ⟨0, 0, 0, 0⟩)
abbrev s_many_worths : Stmt := top 5
abbrev s_top_of : Stmt := top 6
abbrev s_where : Stmt := top 7
abbrev s_span_of : Stmt := top 8
abbrev s_way_of : Stmt := top 9
abbrev s_ahead : Stmt := top 11
abbrev s_place_of : Stmt := top 12
abbrev s_half_of : Stmt := top 14
abbrev s_size_of : Stmt := top 15
abbrev s_number_at : Stmt := top 16
abbrev s_many_in : Stmt := top 18
abbrev s_filled : Stmt := top 19
abbrev s_led : Stmt := top 20
abbrev s_led_stretch : Stmt := top 21
abbrev s_lifted : Stmt := top 22
abbrev s_nth_least : Stmt := top 24
abbrev s_way_of_nth : Stmt := top 25
abbrev s_nth_alike : Stmt := top 26
abbrev s_many_lesser : Stmt := top 27
abbrev s_rank_of : Stmt := top 28
abbrev s_below : Stmt := top 29
abbrev s_between : Stmt := top 30
abbrev s_next_up : Stmt := top 32
abbrev s_next_down : Stmt := top 33
abbrev s_counted_nth : Stmt := top 34
abbrev s_sum_of_least : Stmt := top 35
abbrev s_sum_from : Stmt := top 36
abbrev s__law_cell : Stmt := top 38
abbrev s__law_pen : Stmt := top 39
abbrev s__law_take : Stmt := top 40
abbrev s__law_bounds : Stmt := top 41
abbrev s__law_numbers : Stmt := top 42
abbrev s__law_grown : Stmt := top 43
abbrev s__law_tree : Stmt := top 44
abbrev s__law_drawn : Stmt := top 45
abbrev s__law_gathering : Stmt := top 46
abbrev s__law_some_number : Stmt := top 48
abbrev s__law_thing_right : Stmt := top 49
abbrev s__law_gone_up : Stmt := top 50
abbrev s__law_gone_back : Stmt := top 51
abbrev s_law : Stmt := top 52
theorem sc_many_worths : FnScope ["levels", "many", "level"] ["levels"] (defScope s_many_worths) := ⟨rfl, rfl, rfl, by decide +kernel, rfl, by decide +kernel, by decide +kernel⟩
theorem sc_top_of : FnScope ["bounds"] ["bounds"] (defScope s_top_of) := ⟨rfl, rfl, rfl, by decide +kernel, rfl, by decide +kernel, by decide +kernel⟩
theorem sc_where : FnScope ["bounds", "number"] ["bounds", "number"] (defScope s_where) := ⟨rfl, rfl, rfl, by decide +kernel, rfl, by decide +kernel, by decide +kernel⟩
theorem sc_span_of : FnScope ["bounds", "way", "least", "many", "turn"] ["bounds", "way"] (defScope s_span_of) := ⟨rfl, rfl, rfl, by decide +kernel, rfl, by decide +kernel, by decide +kernel⟩
theorem sc_way_of : FnScope ["bounds", "number", "least", "many", "way", "level"] ["bounds", "number"] (defScope s_way_of) := ⟨rfl, rfl, rfl, by decide +kernel, rfl, by decide +kernel, by decide +kernel⟩
theorem sc_ahead : FnScope ["marks", "mark", "place"] ["marks", "mark", "place"] (defScope s_ahead) := ⟨rfl, rfl, rfl, by decide +kernel, rfl, by decide +kernel, by decide +kernel⟩
theorem sc_place_of : FnScope ["marks", "mark", "number", "left", "place", "other"] ["marks", "mark", "number"] (defScope s_place_of) := ⟨rfl, rfl, rfl, by decide +kernel, rfl, by decide +kernel, by decide +kernel⟩
theorem sc_half_of : FnScope ["tree", "mark"] ["tree", "mark"] (defScope s_half_of) := ⟨rfl, rfl, rfl, by decide +kernel, rfl, by decide +kernel, by decide +kernel⟩
theorem sc_size_of : FnScope ["tree"] ["tree"] (defScope s_size_of) := ⟨rfl, rfl, rfl, by decide +kernel, rfl, by decide +kernel, by decide +kernel⟩
theorem sc_number_at : FnScope ["bounds", "tree", "place", "least", "many", "part", "inner", "mark"] ["bounds", "tree", "place"] (defScope s_number_at) := ⟨rfl, rfl, rfl, by decide +kernel, rfl, by decide +kernel, by decide +kernel⟩
theorem sc_many_in : FnScope ["gathering"] ["gathering"] (defScope s_many_in) := ⟨rfl, rfl, rfl, by decide +kernel, rfl, by decide +kernel, by decide +kernel⟩
theorem sc_filled : FnScope ["gathering"] ["gathering"] (defScope s_filled) := ⟨rfl, rfl, rfl, by decide +kernel, rfl, by decide +kernel, by decide +kernel⟩
theorem sc_led : FnScope ["gathering", "way"] ["gathering", "way"] (defScope s_led) := ⟨rfl, rfl, rfl, by decide +kernel, rfl, by decide +kernel, by decide +kernel⟩
theorem sc_led_stretch : FnScope ["stretch", "way", "part", "start", "end", "turn", "half"] ["stretch", "way"] (defScope s_led_stretch) := ⟨rfl, rfl, rfl, by decide +kernel, rfl, by decide +kernel, by decide +kernel⟩
theorem sc_lifted : FnScope ["tree", "way", "place", "inner"] ["tree", "way", "place"] (defScope s_lifted) := ⟨rfl, rfl, rfl, by decide +kernel, rfl, by decide +kernel, by decide +kernel⟩
theorem sc_nth_least : FnScope ["bounds", "gathering", "k", "way", "alike"] ["bounds", "gathering", "k"] (defScope s_nth_least) := ⟨rfl, rfl, rfl, by decide +kernel, rfl, by decide +kernel, by decide +kernel⟩
theorem sc_way_of_nth : FnScope ["levels", "gathering", "k", "way", "parts", "left", "level", "lower", "turn"] ["levels", "gathering", "k"] (defScope s_way_of_nth) := ⟨rfl, rfl, rfl, by decide +kernel, rfl, by decide +kernel, by decide +kernel⟩
theorem sc_nth_alike : FnScope ["gathering", "way", "number", "parts", "left", "j"] ["gathering", "way", "number"] (defScope s_nth_alike) := ⟨rfl, rfl, rfl, by decide +kernel, rfl, by decide +kernel, by decide +kernel⟩
theorem sc_many_lesser : FnScope ["gathering", "way", "many", "parts", "turn"] ["gathering", "way"] (defScope s_many_lesser) := ⟨rfl, rfl, rfl, by decide +kernel, rfl, by decide +kernel, by decide +kernel⟩
theorem sc_rank_of : FnScope ["bounds", "gathering", "j", "place", "stretch", "way", "before"] ["bounds", "gathering", "j", "place"] (defScope s_rank_of) := ⟨rfl, rfl, rfl, by decide +kernel, rfl, by decide +kernel, by decide +kernel⟩
theorem sc_below : FnScope ["bounds", "gathering", "number", "side"] ["bounds", "gathering", "number"] (defScope s_below) := ⟨rfl, rfl, rfl, by decide +kernel, rfl, by decide +kernel, by decide +kernel⟩
theorem sc_between : FnScope ["bounds", "gathering", "low", "high"] ["bounds", "gathering", "low", "high"] (defScope s_between) := ⟨rfl, rfl, rfl, by decide +kernel, rfl, by decide +kernel, by decide +kernel⟩
theorem sc_next_up : FnScope ["bounds", "gathering", "number", "k"] ["bounds", "gathering", "number"] (defScope s_next_up) := ⟨rfl, rfl, rfl, by decide +kernel, rfl, by decide +kernel, by decide +kernel⟩
theorem sc_next_down : FnScope ["bounds", "gathering", "number", "k"] ["bounds", "gathering", "number"] (defScope s_next_down) := ⟨rfl, rfl, rfl, by decide +kernel, rfl, by decide +kernel, by decide +kernel⟩
theorem sc_counted_nth : FnScope ["bounds", "gathering", "k", "way"] ["bounds", "gathering", "k"] (defScope s_counted_nth) := ⟨rfl, rfl, rfl, by decide +kernel, rfl, by decide +kernel, by decide +kernel⟩
theorem sc_sum_of_least : FnScope ["bounds", "gathering", "k"] ["bounds", "gathering", "k"] (defScope s_sum_of_least) := ⟨rfl, rfl, rfl, by decide +kernel, rfl, by decide +kernel, by decide +kernel⟩
theorem sc_sum_from : FnScope ["least", "many", "parts", "k", "half", "lower", "upper", "first"] ["least", "many", "parts", "k"] (defScope s_sum_from) := ⟨rfl, rfl, rfl, by decide +kernel, rfl, by decide +kernel, by decide +kernel⟩
theorem sc__law_cell : FnScope ["_law_script", "_law_k", "_law_number"] ["_law_script", "_law_k"] (defScope s__law_cell) := ⟨rfl, rfl, rfl, by decide +kernel, rfl, by decide +kernel, by decide +kernel⟩
theorem sc__law_pen : FnScope ["_law_cell_here"] ["_law_cell_here"] (defScope s__law_pen) := ⟨rfl, rfl, rfl, by decide +kernel, rfl, by decide +kernel, by decide +kernel⟩
theorem sc__law_take : FnScope ["_law_pen_here", "_law_size", "_law_digit", "_law_number"] ["_law_pen_here", "_law_size"] (defScope s__law_take) := ⟨rfl, rfl, rfl, by decide +kernel, rfl, by decide +kernel, by decide +kernel⟩
theorem sc__law_bounds : FnScope ["_law_pen_here", "_law_levels", "_law_low"] ["_law_pen_here"] (defScope s__law_bounds) := ⟨rfl, rfl, rfl, by decide +kernel, rfl, by decide +kernel, by decide +kernel⟩
theorem sc__law_numbers : FnScope ["_law_pen_here", "_law_bounds_here", "_law_long", "_law_found", "_law_k"] ["_law_pen_here", "_law_bounds_here", "_law_long"] (defScope s__law_numbers) := ⟨rfl, rfl, rfl, by decide +kernel, rfl, by decide +kernel, by decide +kernel⟩
theorem sc__law_grown : FnScope ["_law_levels", "_law_offsets", "_law_half", "_law_marks", "_law_lower"] ["_law_levels", "_law_offsets"] (defScope s__law_grown) := ⟨rfl, rfl, rfl, by decide +kernel, rfl, by decide +kernel, by decide +kernel⟩
theorem sc__law_tree : FnScope ["_law_bounds_here", "_law_row"] ["_law_bounds_here", "_law_row"] (defScope s__law_tree) := ⟨rfl, rfl, rfl, by decide +kernel, rfl, by decide +kernel, by decide +kernel⟩
theorem sc__law_drawn : FnScope ["_law_pen_here", "_law_long", "_law_bounds_here", "_law_rows", "_law_some", "_law_k", "_law_which", "_law_start", "_law_end"] ["_law_pen_here", "_law_long"] (defScope s__law_drawn) := ⟨rfl, rfl, rfl, by decide +kernel, rfl, by decide +kernel, by decide +kernel⟩
theorem sc__law_gathering : FnScope ["_law_bounds_here", "_law_rows", "_law_some", "_law_trees"] ["_law_bounds_here", "_law_rows", "_law_some"] (defScope s__law_gathering) := ⟨rfl, rfl, rfl, by decide +kernel, rfl, by decide +kernel, by decide +kernel⟩
theorem sc__law_some_number : FnScope ["_law_pen_here", "_law_bounds_here", "_law_rows", "_law_way", "_law_row", "_law_number"] ["_law_pen_here", "_law_bounds_here", "_law_rows"] (defScope s__law_some_number) := ⟨rfl, rfl, rfl, by decide +kernel, rfl, by decide +kernel, by decide +kernel⟩
theorem sc__law_thing_right : FnScope ["_law_bounds_here", "_law_gathering_here", "_law_k", "_law_worth", "_law_j", "_law_place", "_law_lower"] ["_law_bounds_here", "_law_gathering_here", "_law_k"] (defScope s__law_thing_right) := ⟨rfl, rfl, rfl, by decide +kernel, rfl, by decide +kernel, by decide +kernel⟩
theorem sc__law_gone_up : FnScope ["_law_bounds_here", "_law_gathering_here", "_law_found", "_law_one"] ["_law_bounds_here", "_law_gathering_here"] (defScope s__law_gone_up) := ⟨rfl, rfl, rfl, by decide +kernel, rfl, by decide +kernel, by decide +kernel⟩
theorem sc__law_gone_back : FnScope ["_law_bounds_here", "_law_gathering_here", "_law_long", "_law_found", "_law_one"] ["_law_bounds_here", "_law_gathering_here", "_law_long"] (defScope s__law_gone_back) := ⟨rfl, rfl, rfl, by decide +kernel, rfl, by decide +kernel, by decide +kernel⟩
theorem sc_law : FnScope ["_law_script", "_law_pen_here", "_law_bounds_here", "_law_rows", "_law_some", "_law_gathering_here", "_law_whole", "_law_k", "_law_marks", "_law_parts", "_law_steps", "_law_twice"] ["_law_script"] (defScope s_law) := ⟨rfl, rfl, rfl, by decide +kernel, rfl, by decide +kernel, by decide +kernel⟩
structure Bz (mg : Str → Option Value) : Prop where
  enumerate_ : mg "enumerate" = none
  int_ : mg "int" = none
  len_ : mg "len" = none
  max_ : mg "max" = none
  min_ : mg "min" = none
  range_ : mg "range" = none
  sorted_ : mg "sorted" = none
  sum_ : mg "sum" = none
  tuple_ : mg "tuple" = none
def Wths (low : Int) (L : Nat) (ns : List Int) : Prop := ∀ x ∈ ns, low ≤ x ∧ x < low + 2 ^ L
theorem Wths.snoc {low : Int} {L : Nat} {ns : List Int} {y : Int} (h : Wths low L ns) (h0 : low ≤ y) (h1 : y < low + 2 ^ L) : Wths low L (ns ++ [y]) := fun x hx => by
  rcases List.mem_append.mp hx with h' | h'
  · exact h x h'
  · cases List.mem_singleton.mp h'
    exact ⟨h0, h1⟩

/-! ### the pen of the second kind: a cell, and how often it was mixed -/
def PenN (H : Hp) (pen : Addr) : Prop := ∃ c n : Int, H pen = some (.lst [.int c, .int n])
theorem PenN.same {H H' : Hp} {pen : Addr} (p : PenN H pen) (s : Same H H') : PenN H' pen := by
  obtain ⟨c, n, h⟩ := p
  exact ⟨c, n, s _ _ h⟩
theorem PenN.new {H : Hp} {pen q : Addr} (p : PenN H pen) (h : H q = none) (o : HO) : PenN (upd H q o) pen := p.same (same_new h o)
theorem PenN.at {H : Hp} {pen : Addr} (p : PenN H pen) : ∃ xs, H pen = some (.lst xs) := by
  obtain ⟨c, n, h⟩ := p
  exact ⟨_, h⟩
theorem PenN.ne {H : Hp} {pen b : Addr} {xs : List V} (p : PenN H pen) (h : H b = some (.tup xs)) : b ≠ pen := by
  obtain ⟨c, n, e⟩ := p
  exact ne_of h e (by intro z; cases z)
theorem PenN.fresh {H : Hp} {pen b : Addr} (p : PenN H pen) (h : H b = none) : b ≠ pen := by
  obtain ⟨c, n, e⟩ := p
  exact Ne.symm (ne_of_none e h)
theorem PenN.other {H : Hp} {pen q : Addr} (p : PenN H pen) (hq : q ≠ pen) (o : HO) : PenN (upd H q o) pen := by
  obtain ⟨c, n, e⟩ := p
  exact ⟨c, n, by rw [upd_ne (Ne.symm hq)]; exact e⟩
theorem PenN.tk {H H' : Hp} {pen : Addr} (p : PenN H pen) (k : Keep pen H H') : TKeep H H' := by
  obtain ⟨xs, e⟩ := p.at
  exact TKeep.keep k e
theorem PenN.free {H H' : Hp} {pen l : Addr} (p : PenN H' pen) (k : Keep pen H H') (h : H' l = none) : H l = none := by
  obtain ⟨xs, e⟩ := p.at
  exact k.free h e
abbrev k__law_cell : Nat := 1
def sp__law_cell (K : PySem.W.Frag) : Sp := fun vs H Q _ => ∃ (a : Addr) (ns : List Int) (k : Int), vs = [.ref a, .int k] ∧ SqL K H a (ns.map V.int) ∧ ns.length ≤ 63 ∧ 0 ≤ k ∧ k < 1000000 ∧ ∀ n : Int, Q (.int n) H
abbrev k__law_pen : Nat := 1
def sp__law_pen (_ : PySem.W.Frag) : Sp := fun vs H Q _ => ∃ c : Int, vs = [.int c] ∧ ∀ p, H p = none → Q (.ref p) (upd H p (.lst [.int c, .int 0]))
abbrev k__law_take : Nat := 1
def sp__law_take (_ : PySem.W.Frag) : Sp := fun vs H Q _ => ∃ (pen : Addr) (size : Int), vs = [.ref pen, .int size] ∧ PenN H pen ∧ 0 < size ∧ size < 10 ^ 60 ∧
  ∀ (v : Int) (H' : Hp), Keep pen H H' → PenN H' pen → 0 ≤ v → v < size → Q (.int v) H'
abbrev k__law_bounds : Nat := 2
def sp__law_bounds (_ : PySem.W.Frag) : Sp := fun vs H Q _ => ∃ (pen : Addr), vs = [.ref pen] ∧ PenN H pen ∧ ∀ (b : Addr) (low : Int) (L : Nat) (H' : Hp), Keep pen H H' → PenN H' pen → H' b = some (.tup [.int low, .int (L : Int)]) → L ≤ 40 → Q (.ref b) H'
abbrev k__law_numbers : Nat := 2
def sp__law_numbers (_ : PySem.W.Frag) : Sp := fun vs H Q _ => ∃ (pen b : Addr) (low g : Int) (L : Nat), vs = [.ref pen, .ref b, .int g] ∧ PenN H pen ∧ H b = some (.tup [.int low, .int (L : Int)]) ∧ L ≤ 40 ∧ 0 ≤ g ∧ g ≤ 300 ∧
  ∀ (r : Addr) (ns : List Int) (H' : Hp), Keep pen H H' → PenN H' pen → H' r = some (.lst (ns.map V.int)) → H r = none → (ns.length : Int) ≤ g → Wths low L ns → Q (.ref r) H'
section
variable {P : Program} {w : World} {K : PySem.W.Frag} {mg : Str → Option Value} {base : Heap}
theorem ok__law_cell (d : Def K mg "_law_cell" s__law_cell ["_law_script", "_law_k"]) (z : Bz mg)  : Cal P w K mg base k__law_cell "_law_cell" ["_law_script", "_law_k"] (sp__law_cell K) := by
  have sc := sc__law_cell
  refine d.cal fun f fd F => F.ok sc (fun vs H Q E h => ?_) (fun cdv A outer s H vs Q E hr h => ?_)
  · obtain ⟨a, ns, k, rfl, _⟩ := h
    rfl
  obtain ⟨a, ns, k, rfl, hS, h63, h0, hk, q⟩ := h
  refine ⟨_, (pss_cons (ps_if (pt_cmpR op_lt (pv 1) (pe_callB call_len_seq (by rfl) z.len_ bt_len (pa_cons (pv 0) pa_nil)) (nomark _))
  (pss_one (ps_ret (pe_ix ix_list (pv 0) (pv 1) (fun _ _ => rfl))))
  pss_nil)
 (pss_cons (ps_set (i := 2) sc.nd rfl (Or.inl rfl) (pe_op op_add (pe_op op_mul (pv 1) pe_int) pe_int))
 (pss_cons (ps_if (pt_cmpR op_gt (pe_callB call_len_seq (by rfl) z.len_ bt_len (pa_cons (pv 0) pa_nil)) pe_int (nomark _))
  (pss_one (ps_set (i := 2) sc.nd rfl (Or.inl rfl) (pe_op op_add (pe_op op_mul (pe_op op_mod (pe_ix ix_list (pv 0) (pe_op op_mod (pe_op op_mul (pv 1) pe_int) (pe_callB call_len_seq (by rfl) z.len_ bt_len (pa_cons (pv 0) pa_nil))) (fun _ _ => rfl)) pe_int) pe_int) (pe_op op_mul (pv 1) pe_int))))
  pss_nil)
 (pss_one (ps_ret (pe_op op_mod (pe_op op_mul (pv 2) (pv 2)) pe_int)))))), ?_⟩
  have hl : (ns.map V.int).length = ns.length := List.length_map _
  refine ⟨_, rfl, _, rfl, a, _, rfl, .inl hS, _, _, rfl, rfl, _, rfl, ?_⟩
  refine ite2 (fun c => ?_) (fun c => ?_)
  · have c' : k < (((ns.map V.int).length : Nat) : Int) := of_decide_eq_true c
    rw [hl] at c'
    obtain ⟨v, _, hv⟩ := atI_ints h0 c'
    exact ⟨_, rfl, _, rfl, a, _, _, _, rfl, rfl, hS, hv, q v⟩
  · refine ⟨_, rfl, _, _, rfl, rfl, .inr ⟨by decide, by decide⟩, _, _, rfl, rfl, ?_⟩
    refine ⟨_, rfl, a, _, rfl, .inl hS, _, _, rfl, rfl, _, rfl, ?_⟩
    refine ite2 (fun c2 => ?_) (fun c2 => ?_)
    · have c2' : (0 : Int) < (((ns.map V.int).length : Nat) : Int) := of_decide_eq_true c2
      have m0 : 0 ≤ (k * 7) % (((ns.map V.int).length : Nat) : Int) := Int.emod_nonneg _ (by omega)
      have m1 : (k * 7) % (((ns.map V.int).length : Nat) : Int) < (((ns.map V.int).length : Nat) : Int) := Int.emod_lt_of_pos _ c2'
      obtain ⟨v, _, hv⟩ := atI_ints (l := ns) m0 (by rw [hl] at m1 ⊢; exact m1)
      have b0 : 0 ≤ v % 2147483647 := Int.emod_nonneg _ (by decide)
      have b1 : v % 2147483647 < 2147483647 := Int.emod_lt_of_pos _ (by decide)
      refine ⟨_, rfl, _, rfl, _, _, rfl, rfl, .inr ⟨by decide, by decide⟩, _, rfl, a, _, rfl, .inl hS, _, _, rfl, rfl, c2', a, _, _, _, rfl, rfl, hS, hv, _, _, rfl, rfl, (by show (0 : Int) < 2147483647; decide), _, _, rfl, rfl, .inr ⟨by decide, by decide⟩, _, rfl, _, _, rfl, rfl, .inr ⟨by decide, by decide⟩, _, _, rfl, rfl, ?_⟩
      exact ⟨_, rfl, _, rfl, _, _, rfl, rfl, .inl ⟨by omega, by omega⟩, _, _, rfl, rfl, (by show (0 : Int) < 2147483629; decide), q _⟩
    · exact ⟨_, rfl, _, rfl, _, _, rfl, rfl, .inl ⟨by omega, by omega⟩, _, _, rfl, rfl, (by show (0 : Int) < 2147483629; decide), q _⟩
theorem ok__law_pen (d : Def K mg "_law_pen" s__law_pen ["_law_cell_here"]) (z : Bz mg)  : Cal P w K mg base k__law_pen "_law_pen" ["_law_cell_here"] (sp__law_pen K) := by
  have sc := sc__law_pen
  refine d.cal fun f fd F => F.ok sc (fun vs H Q E h => ?_) (fun cdv A outer s H vs Q E hr h => ?_)
  · obtain ⟨c, rfl, _⟩ := h
    rfl
  obtain ⟨c, rfl, q⟩ := h
  refine ⟨_, (pss_one (ps_ret (pe_lst (pa_cons (pv 0) (pa_cons pe_int pa_nil))))), ?_⟩
  exact ⟨_, rfl, szb rfl, q⟩
theorem ok__law_take (d : Def K mg "_law_take" s__law_take ["_law_pen_here", "_law_size"]) (z : Bz mg)  : Cal P w K mg base k__law_take "_law_take" ["_law_pen_here", "_law_size"] (sp__law_take K) := by
  have sc := sc__law_take
  refine d.cal fun f fd F => F.ok sc (fun vs H Q E h => ?_) (fun cdv A outer s H vs Q E hr h => ?_)
  · obtain ⟨pen, size, rfl, _⟩ := h
    rfl
  obtain ⟨pen, size, rfl, ⟨c, n, hp⟩, s0, s1, q⟩ := h
  refine ⟨_, (pss_cons (ps_if (PW.pt (pw_or (pt_cmpR op_lt (pe_ix ix_list (pv 0) pe_int (fun _ _ => rfl)) pe_int (nomark _)) (pw_or1 (PW.pt (pw_and (pt_cmpR op_eq (pe_ix ix_list (pv 0) pe_int (fun _ _ => rfl)) pe_int (nomark _)) (pw_and1 (pt_cmpR op_ge (pe_ix ix_list (pv 0) pe_int (fun _ _ => rfl)) (pe_op op_pow pe_int pe_int) (nomark _))))))))
  (pss_cons (ps_asg (pe_un un_neg pe_int) (pg_sub (pv 0) pe_int set_list))
 (pss_cons (ps_set (i := 2) sc.nd rfl (Or.inl rfl) (pe_op op_mod (pe_ix ix_list (pv 0) pe_int (fun _ _ => rfl)) (pv 1)))
 (pss_cons (ps_asg (pe_op op_fdivB (pe_ix ix_list (pv 0) pe_int (fun _ _ => rfl)) (pv 1)) (pg_sub (pv 0) pe_int set_list))
 (pss_one (ps_ret (pv 2))))))
  pss_nil)
 (pss_cons (ps_asg (pe_op op_add (pe_ix ix_list (pv 0) pe_int (fun _ _ => rfl)) pe_int) (pg_sub (pv 0) pe_int set_list))
 (pss_cons (ps_set (i := 3) sc.nd rfl (Or.inl rfl) (pe_op op_mod (pe_op op_add (pe_op op_add (pe_op op_mod (pe_ix ix_list (pv 0) pe_int (fun _ _ => rfl)) pe_int) (pe_op op_mul pe_int (pe_ix ix_list (pv 0) pe_int (fun _ _ => rfl)))) pe_int) pe_int))
 (pss_cons (ps_set (i := 3) sc.nd rfl (Or.inl rfl) (pe_op op_mod (pe_op op_mul (pv 3) (pe_op op_add (pv 3) pe_int)) pe_int))
 (pss_one (ps_ret (pe_op op_mod (pe_op op_fdivB (pe_op op_mod (pe_op op_mul (pv 3) (pe_op op_add (pv 3) pe_int)) pe_int) pe_int) (pv 1)))))))), ?_⟩
  refine ⟨_, rfl, pen, _, _, _, rfl, rfl, SqL.of hp, rfl, _, _, rfl, rfl, _, rfl, ?_⟩
  refine ite2 (fun c1 => ?_) (fun c1 => ?_)
  · refine iteT ?_
    refine ⟨_, rfl, _, rfl, pen, _, _, 1, rfl, rfl, hp, rfl, ?_⟩
    refine ⟨_, rfl, pen, _, _, _, rfl, rfl, SqL.of upd_same, rfl, _, rfl, _, _, rfl, rfl, s0, ?_⟩
    refine ⟨_, rfl, pen, _, _, _, rfl, rfl, SqL.of upd_same, rfl, _, rfl, _, _, rfl, rfl, ⟨s0, s1⟩, _, rfl, pen, _, _, 0, rfl, rfl, upd_same, rfl, _, rfl, ?_⟩
    exact q _ _ ((Keep.set pen H _).trans (Keep.set pen _ _)) ⟨_, _, upd_same⟩ (Int.emod_nonneg _ (by omega)) (Int.emod_lt_of_pos _ s0)
  · refine ⟨_, rfl, pen, _, _, _, rfl, rfl, SqL.of hp, rfl, rfl, _, rfl, ?_⟩
    refine ite2 (fun c2 => ?_) (fun c2 => ?_)
    · refine ⟨_, rfl, pen, _, _, _, rfl, rfl, SqL.of hp, rfl, _, _, rfl, rfl, ⟨by decide, by decide, by decide⟩, _, _, rfl, rfl, _, rfl, ?_⟩
      refine ite2 (fun c3 => ?_) (fun c3 => ?_)
      ·
        refine ⟨_, rfl, _, rfl, pen, _, _, 1, rfl, rfl, hp, rfl, ?_⟩
        refine ⟨_, rfl, pen, _, _, _, rfl, rfl, SqL.of upd_same, rfl, _, rfl, _, _, rfl, rfl, s0, ?_⟩
        refine ⟨_, rfl, pen, _, _, _, rfl, rfl, SqL.of upd_same, rfl, _, rfl, _, _, rfl, rfl, ⟨s0, s1⟩, _, rfl, pen, _, _, 0, rfl, rfl, upd_same, rfl, _, rfl, ?_⟩
        exact q _ _ ((Keep.set pen H _).trans (Keep.set pen _ _)) ⟨_, _, upd_same⟩ (Int.emod_nonneg _ (by omega)) (Int.emod_lt_of_pos _ s0)
      ·
        refine ⟨_, rfl, pen, _, _, _, rfl, rfl, SqL.of hp, rfl, _, _, rfl, rfl, _, rfl, pen, _, _, 1, rfl, rfl, hp, rfl, ?_⟩
        refine ⟨_, rfl, pen, _, _, _, rfl, rfl, SqL.of upd_same, rfl, _, _, rfl, rfl, (by show (0 : Int) < 2147483647; decide), _, rfl, pen, _, _, _, rfl, rfl, SqL.of upd_same, rfl, _, _, rfl, rfl, .inl ⟨by decide, by decide⟩, _, _, rfl, rfl, _, _, rfl, rfl, _, _, rfl, rfl, (by show (0 : Int) < 2147483629; decide), ?_⟩
        generalize hx : ((c % 2147483647 + 40503 * (n + 1) + 11) % 2147483629) = x1
        have g0 : 0 ≤ x1 := by rw [← hx]; exact Int.emod_nonneg _ (by decide)
        have g1 : x1 < 2147483629 := by rw [← hx]; exact Int.emod_lt_of_pos _ (by decide)
        refine ⟨_, rfl, _, rfl, _, _, rfl, rfl, _, _, rfl, rfl, .inl ⟨by omega, by omega⟩, _, _, rfl, rfl, (by show (0 : Int) < 2147483587; decide), ?_⟩
        generalize hy : (x1 * (x1 + 48271) % 2147483587) = x2
        have d0 : 0 ≤ x2 := by rw [← hy]; exact Int.emod_nonneg _ (by decide)
        have d1 : x2 < 2147483587 := by rw [← hy]; exact Int.emod_lt_of_pos _ (by decide)
        refine ⟨_, rfl, _, rfl, _, _, rfl, rfl, _, _, rfl, rfl, .inl ⟨by omega, by omega⟩, _, _, rfl, rfl, (by show (0 : Int) < 2305843009213693951; decide), _, _, rfl, rfl, ⟨by decide, by decide⟩, _, rfl, _, _, rfl, rfl, s0, ?_⟩
        exact q _ _ (Keep.set pen H _) ⟨_, _, upd_same⟩ (Int.emod_nonneg _ (by omega)) (Int.emod_lt_of_pos _ s0)
    · refine iteF ?_
      refine ⟨_, rfl, pen, _, _, _, rfl, rfl, SqL.of hp, rfl, _, _, rfl, rfl, _, rfl, pen, _, _, 1, rfl, rfl, hp, rfl, ?_⟩
      refine ⟨_, rfl, pen, _, _, _, rfl, rfl, SqL.of upd_same, rfl, _, _, rfl, rfl, (by show (0 : Int) < 2147483647; decide), _, rfl, pen, _, _, _, rfl, rfl, SqL.of upd_same, rfl, _, _, rfl, rfl, .inl ⟨by decide, by decide⟩, _, _, rfl, rfl, _, _, rfl, rfl, _, _, rfl, rfl, (by show (0 : Int) < 2147483629; decide), ?_⟩
      generalize hx : ((c % 2147483647 + 40503 * (n + 1) + 11) % 2147483629) = x1
      have g0 : 0 ≤ x1 := by rw [← hx]; exact Int.emod_nonneg _ (by decide)
      have g1 : x1 < 2147483629 := by rw [← hx]; exact Int.emod_lt_of_pos _ (by decide)
      refine ⟨_, rfl, _, rfl, _, _, rfl, rfl, _, _, rfl, rfl, .inl ⟨by omega, by omega⟩, _, _, rfl, rfl, (by show (0 : Int) < 2147483587; decide), ?_⟩
      generalize hy : (x1 * (x1 + 48271) % 2147483587) = x2
      have d0 : 0 ≤ x2 := by rw [← hy]; exact Int.emod_nonneg _ (by decide)
      have d1 : x2 < 2147483587 := by rw [← hy]; exact Int.emod_lt_of_pos _ (by decide)
      refine ⟨_, rfl, _, rfl, _, _, rfl, rfl, _, _, rfl, rfl, .inl ⟨by omega, by omega⟩, _, _, rfl, rfl, (by show (0 : Int) < 2305843009213693951; decide), _, _, rfl, rfl, ⟨by decide, by decide⟩, _, rfl, _, _, rfl, rfl, s0, ?_⟩
      exact q _ _ (Keep.set pen H _) ⟨_, _, upd_same⟩ (Int.emod_nonneg _ (by omega)) (Int.emod_lt_of_pos _ s0)
theorem ok__law_bounds (d : Def K mg "_law_bounds" s__law_bounds ["_law_pen_here"]) (z : Bz mg) (c__law_take : Cal P w K mg base k__law_take "_law_take" ["_law_pen_here", "_law_size"] (sp__law_take K)) : Cal P w K mg base k__law_bounds "_law_bounds" ["_law_pen_here"] (sp__law_bounds K) := by
  have sc := sc__law_bounds
  refine d.cal fun f fd F => F.ok sc (fun vs H Q E h => ?_) (fun cdv A outer s H vs Q E hr h => ?_)
  · obtain ⟨pen, rfl, _⟩ := h
    rfl
  obtain ⟨pen, rfl, P0, q⟩ := h
  refine ⟨_, (pss_cons (ps_set (i := 1) sc.nd rfl (Or.inl rfl) (pe_ix ix_list (pe_lst (pa_cons (pe_fn c__law_take (hr.mono (by decide)) (by rfl) (pa_cons (pv 0) (pa_cons pe_int pa_nil))) (pa_cons pe_int (pa_cons (pe_fn c__law_take (hr.mono (by decide)) (by rfl) (pa_cons (pv 0) (pa_cons pe_int pa_nil))) (pa_cons pe_int pa_nil))))) (pe_fn c__law_take (hr.mono (by decide)) (by rfl) (pa_cons (pv 0) (pa_cons pe_int pa_nil))) (fun _ _ => rfl)))
 (pss_cons (ps_set (i := 2) sc.nd rfl (Or.inl rfl) (pe_ix ix_list (pe_lst (pa_cons pe_int (pa_cons (pe_un un_neg pe_int) (pa_cons (pe_op op_sub (pe_fn c__law_take (hr.mono (by decide)) (by rfl) (pa_cons (pv 0) (pa_cons (pe_op op_pow pe_int pe_int) pa_nil))) (pe_op op_pow pe_int pe_int)) (pa_cons pe_int pa_nil))))) (pe_fn c__law_take (hr.mono (by decide)) (by rfl) (pa_cons (pv 0) (pa_cons pe_int pa_nil))) (fun _ _ => rfl)))
 (pss_one (ps_ret (pe_tup (pa_cons (pv 2) (pa_cons (pv 1) pa_nil))))))), ?_⟩
  refine ⟨_, rfl, pen, 5, rfl, P0, by decide, by decide, fun v1 H1 k1 P1 a1 b1 => ?_⟩
  refine ⟨_, rfl, pen, 41, rfl, P1, by decide, by decide, fun v2 H2 k2 P2 a2 b2 => ⟨szb rfl, fun p hp => ?_⟩⟩
  refine ⟨_, rfl, pen, 4, rfl, P2.new hp _, by decide, by decide, fun v3 H3 k3 P3 a3 b3 => ?_⟩
  obtain ⟨L', hm, hv⟩ := atI_ints (l := [v1, 3, v2, 2]) a3 b3
  have hL : 0 ≤ L' ∧ L' ≤ 40 := by
    simp only [List.mem_cons, List.not_mem_nil, or_false] at hm
    omega
  obtain ⟨L, rfl⟩ := Int.eq_ofNat_of_zero_le hL.1
  have hL2 : L ≤ 40 := by omega
  have k03 : Keep pen H H3 := k1.trans (k2.trans ((Keep.new hp _).trans k3))
  refine ⟨p, _, _, _, rfl, rfl, SqL.of (k3 _ _ (P2.fresh hp) upd_same), hv, ?_⟩
  refine ⟨_, rfl, _, rfl, _, _, rfl, rfl, ⟨by decide, by decide, by decide⟩, pen, _, rfl, P3, by decide, by decide, fun v4 H4 k4 P4 a4 b4 => ⟨_, _, rfl, rfl, ⟨by decide, by decide, by decide⟩, _, _, rfl, rfl, szb rfl, fun p2 hp2 => ?_⟩⟩
  refine ⟨_, rfl, pen, 4, rfl, P4.new hp2 _, by decide, by decide, fun v5 H5 k5 P5 a5 b5 => ?_⟩
  obtain ⟨low, hm2, hv2⟩ := atI_ints (l := [0, -7, v4 - 10 ^ (38 : Int).toNat, 1]) a5 b5
  refine ⟨p2, _, _, _, rfl, rfl, SqL.of (k5 _ _ (P4.fresh hp2) upd_same), hv2, ?_⟩
  refine ⟨_, rfl, _, rfl, szb rfl, fun b hb => ?_⟩
  exact q b low L _ (k03.trans (k4.trans ((Keep.new hp2 _).trans (k5.trans (Keep.new hb _))))) (P5.new hb _) upd_same hL2
theorem ok__law_numbers (d : Def K mg "_law_numbers" s__law_numbers ["_law_pen_here", "_law_bounds_here", "_law_long"]) (z : Bz mg) (c__law_take : Cal P w K mg base k__law_take "_law_take" ["_law_pen_here", "_law_size"] (sp__law_take K)) : Cal P w K mg base k__law_numbers "_law_numbers" ["_law_pen_here", "_law_bounds_here", "_law_long"] (sp__law_numbers K) := by
  have sc := sc__law_numbers
  refine d.cal fun f fd F => F.ok sc (fun vs H Q E h => ?_) (fun cdv A outer s H vs Q E hr h => ?_)
  · obtain ⟨pen, b, low, g, L, rfl, _⟩ := h
    rfl
  obtain ⟨pen, b, low, g, L, rfl, P0, hb, hL, g0, g1, q⟩ := h
  refine ⟨_, (pss_cons (ps_set (i := 3) sc.nd rfl (Or.inl rfl) (pe_lst pa_nil))
 (pss_cons (ps_for PassesOwn.never rfl (pi_range1 rfl z.range_ (pa_cons (pe_fn c__law_take (hr.mono (by decide)) (by rfl) (pa_cons (pv 0) (pa_cons (pe_op op_add (pv 2) pe_int) pa_nil))) pa_nil)) (pg_name (i := 4) sc.nd rfl (Or.inl rfl))
  (pss_one (ps_if (PW.pt (pw_and (pt_cmpR op_eq (pe_fn c__law_take (hr.mono (by decide)) (by rfl) (pa_cons (pv 0) (pa_cons pe_int pa_nil))) pe_int (nomark _)) (pw_and1 (pt_cmpR (op_neL hr.units) (pv 3) (pe_lst pa_nil) (nomark _)))))
  (pss_one (ps_expr (pe_bm PySem.F.plainAttrs_list PySem.F.slot_list_append PySem.F.type_list_append mt_append (pv 3) (pa_cons (pe_ix ix_list (pv 3) (pe_fn c__law_take (hr.mono (by decide)) (by rfl) (pa_cons (pv 0) (pa_cons (pe_callB call_len_seq (by rfl) z.len_ bt_len (pa_cons (pv 3) pa_nil)) pa_nil))) (fun _ _ => rfl)) pa_nil))))
  (pss_one (ps_expr (pe_bm PySem.F.plainAttrs_list PySem.F.slot_list_append PySem.F.type_list_append mt_append (pv 3) (pa_cons (pe_op op_add (pe_ix ix_tup (pv 1) pe_int (fun _ _ => rfl)) (pe_fn c__law_take (hr.mono (by decide)) (by rfl) (pa_cons (pv 0) (pa_cons (pe_op op_shl pe_int (pe_ix ix_tup (pv 1) pe_int (fun _ _ => rfl))) pa_nil)))) pa_nil)))))))
 (pss_one (ps_ret (pv 3))))), ?_⟩
  have hp := p2pos L
  have hq := p2le hL
  refine ⟨szb rfl, fun r hr => ?_⟩
  have P1 : PenN (upd H r (.lst [])) pen := P0.new hr _
  have hrp : r ≠ pen := P0.fresh hr
  refine ⟨_, rfl, _, rfl, _, _, rfl, rfl, pen, _, rfl, P1, by omega, by omega, fun m H2 k2 P2 m0 m1 => ⟨m, rfl, by omega, by omega, for_range (n := m.toNat) (fun i σ H3 => ∃ (ns : List Int) (v4 : Option V), σ = [some (.ref pen), some (.ref b), some (.int g), some (.ref r), v4] ∧ H3 r = some (.lst (ns.map V.int)) ∧ ns.length = i ∧ Wths low L ns ∧ Keep pen H H3 ∧ PenN H3 pen)
    ⟨[], none, rfl, k2 _ _ hrp upd_same, rfl, fun x hx => absurd hx (by simp), (Keep.new hr _).trans k2, P2⟩ ?_ ?_⟩⟩
  · rintro i σ H3 hi ⟨ns, v4, rfl, hr3, hl, hw, k3, P3⟩
    have fin : ∀ (y : Int) (H9 : Hp), low ≤ y → y < low + 2 ^ L → Keep pen H3 H9 → PenN H9 pen → H9 r = some (.lst (ns.map V.int)) ∧ (ns.map V.int).length < sizeLine ∧
        ∃ (ns' : List Int) (v4' : Option V), [some (V.ref pen), some (.ref b), some (.int g), some (.ref r), some (.int (0 + (i : Int)))] = [some (V.ref pen), some (.ref b), some (.int g), some (.ref r), v4'] ∧ (upd H9 r (.lst (ns.map V.int ++ [.int y]))) r = some (.lst (ns'.map V.int)) ∧ ns'.length = i + 1 ∧ Wths low L ns' ∧
          Keep pen H (upd H9 r (.lst (ns.map V.int ++ [.int y]))) ∧ PenN (upd H9 r (.lst (ns.map V.int ++ [.int y]))) pen := by
      intro y H9 y0 y1 k9 P9
      have hr9 := k9 _ _ hrp hr3
      refine ⟨hr9, by rw [List.length_map, hl]; exact small1000 (by omega), ns ++ [y], _, rfl, ?_, by rw [List.length_append, hl] <;> rfl, hw.snoc y0 y1, (k3.trans k9).own hr, P9.other hrp _⟩
      rw [upd_same, List.map_append]
      rfl
    refine ⟨_, rfl, pen, 4, rfl, P3, by decide, by decide, fun u H4 k4 P4 a4 b4 => ⟨rfl, _, rfl, ?_⟩⟩
    have hr4 := k4 _ _ hrp hr3
    have hb4 : H4 b = some (.tup [.int low, .int (L : Int)]) := k4 _ _ (P0.ne hb) (k3 _ _ (P0.ne hb) hb)
    refine ite2 (fun c => ?_) (fun c => ?_)
    · refine ⟨_, rfl, szb rfl, fun e he => ?_⟩
      have s5 : Same H4 (upd H4 e (.lst [])) := same_new he _
      refine ⟨r, e, ns, [], rfl, rfl, SqL.of (s5 _ _ hr4), SqL.of upd_same, _, rfl, ?_⟩
      have P5 := P4.same s5
      have hr5 := s5 _ _ hr4
      have hb5 := s5 _ _ hb4
      have k5 : Keep pen H3 (upd H4 e (.lst [])) := k4.trans (Keep.same s5)
      generalize upd H4 e (.lst []) = H5 at *
      refine ite2 (fun c2 => ?_) (fun c2 => ?_)
      · have hne : 0 < ns.length := by
          cases ns with
          | nil => exact absurd c2 (by decide)
          | cons x l => exact Nat.succ_pos _
        refine ⟨_, rfl, .inl ⟨rfl, _, SqL.of hr5⟩, _, rfl, _, rfl, _, rfl, r, _, rfl, .inl (SqL.of hr5), pen, _, rfl, P5, by rw [List.length_map]; omega, by rw [List.length_map]; omega, fun u6 H6 k6 P6 a6 b6 => ?_⟩
        rw [List.length_map] at b6
        obtain ⟨y, hy, hv⟩ := atI_ints (l := ns) a6 b6
        obtain ⟨f1, f2, f3⟩ := fin y H6 (hw y hy).1 (hw y hy).2 (k5.trans k6) P6
        exact ⟨r, _, _, _, rfl, rfl, SqL.of f1, hv, r, _, _, rfl, rfl, f1, f2, f3⟩
      ·
        refine ⟨_, rfl, .inl ⟨rfl, _, SqL.of hr5⟩, _, rfl, b, _, _, _, rfl, rfl, SqT.of hb5, rfl, _, rfl, _, rfl, b, _, _, _, rfl, rfl, SqT.of hb5, rfl, _, _, rfl, rfl, ⟨by omega, by omega, by decide⟩, ?_⟩
        dsimp only; rw [shlOne]
        refine ⟨pen, _, rfl, P5, hp, by omega, fun u6 H6 k6 P6 a6 b6 => ⟨_, _, rfl, rfl, ?_⟩⟩
        obtain ⟨f1, f2, f3⟩ := fin (low + u6) H6 (by omega) (by omega) (k5.trans k6) P6
        exact ⟨r, _, _, rfl, rfl, f1, f2, f3⟩
    · refine iteF ?_
      have P5 := P4
      have hr5 := hr4
      have hb5 := hb4
      have k5 := k4
      refine ⟨_, rfl, .inl ⟨rfl, _, SqL.of hr5⟩, _, rfl, b, _, _, _, rfl, rfl, SqT.of hb5, rfl, _, rfl, _, rfl, b, _, _, _, rfl, rfl, SqT.of hb5, rfl, _, _, rfl, rfl, ⟨by omega, by omega, by decide⟩, ?_⟩
      dsimp only; rw [shlOne]
      refine ⟨pen, _, rfl, P5, hp, by omega, fun u6 H6 k6 P6 a6 b6 => ⟨_, _, rfl, rfl, ?_⟩⟩
      obtain ⟨f1, f2, f3⟩ := fin (low + u6) H6 (by omega) (by omega) (k5.trans k6) P6
      exact ⟨r, _, _, rfl, rfl, f1, f2, f3⟩
  · rintro σ H3 ⟨ns, v4, rfl, hr3, hl, hw, k3, P3⟩
    exact ⟨_, rfl, q r ns H3 k3 P3 hr3 hr (by omega) hw⟩
end

/-! ### the tree of a row -/
def grow (low : Int) : Nat → List Int → Tr
  | 0, ns => if ns = [] then .non else .many ns.length
  | e + 1, ns => if ns = [] then .non else .part (ns.map fun n => if n < low + 2 ^ e then 0 else 1) (grow low e (ns.filter fun n => decide (n < low + 2 ^ e))) (grow (low + 2 ^ e) e (ns.filter fun n => decide (low + 2 ^ e ≤ n)))
/-- no marks are long -/
def Tr.fit (b : Nat) : Tr → Prop
  | .non => True
  | .many _ => True
  | .part ms l r => ms.length ≤ b ∧ Tr.fit b l ∧ Tr.fit b r
/-! ### sizes, halves, places -/
def trSize : Tr → Int
  | .non => 0
  | .many n => n
  | .part ms _ _ => ms.length
def trHalf : Tr → Int → Tr
  | .part _ l r, mk => if mk = 0 then l else r
  | _, _ => .non
abbrev k_size_of : Nat := 1
def sp_size_of (_ : PySem.W.Frag) : Sp := fun vs H Q _ => ∃ (v : V) (t : Tr), vs = [v] ∧ TreeAt H v t ∧ Q (.int (trSize t)) H
section
variable {P : Program} {w : World} {K : PySem.W.Frag} {mg : Str → Option Value} {base : Heap}
theorem ok_size_of (d : Def K mg "size_of" s_size_of ["tree"]) (z : Bz mg)  : Cal P w K mg base k_size_of "size_of" ["tree"] (sp_size_of K) := by
  have sc := sc_size_of
  refine d.cal fun f fd F => F.ok sc (fun vs H Q E h => ?_) (fun cdv A outer s H vs Q E hr h => ?_)
  · obtain ⟨v, t, rfl, _⟩ := h
    rfl
  obtain ⟨v, t, rfl, ht, q⟩ := h
  refine ⟨_, (pss_cons (ps_if (pt_cmpR op_isN (pv 0) pe_non (nomark _))
  (pss_one (ps_ret pe_int))
  pss_nil)
 (pss_cons (ps_if (pt_cmpR op_eq (pe_ix ix_tup (pv 0) pe_int (fun _ _ => rfl)) pe_str (nomark _))
  (pss_one (ps_ret (pe_ix ix_tup (pv 0) pe_int (fun _ _ => rfl))))
  pss_nil)
 (pss_one (ps_ret (pe_callB call_len_seq (by rfl) z.len_ bt_len (pa_cons (pe_ix ix_tup (pv 0) pe_int (fun _ _ => rfl)) pa_nil)))))), ?_⟩
  refine ⟨_, rfl, rfl, _, rfl, ?_⟩
  cases t with
  | non =>
    cases ht
    exact ite2 (fun c => q) (fun c => absurd (decide_eq_true rfl) c)
  | many n =>
    obtain ⟨a, rfl, ha⟩ := ht
    refine ite2 (fun c => absurd (of_decide_eq_true c) (by intro z; cases z)) (fun c => ?_)
    refine ⟨_, rfl, a, _, _, _, rfl, rfl, SqT.of ha, rfl, rfl, _, rfl, ?_⟩
    refine ite2 (fun c => ?_) (fun c => absurd (decide_eq_true rfl) c)
    exact ⟨_, rfl, a, _, _, _, rfl, rfl, SqT.of ha, rfl, q⟩
  | part ms l r =>
    obtain ⟨a, m, x, y, rfl, ha, hm, hl, hr'⟩ := ht
    refine ite2 (fun c => absurd (of_decide_eq_true c) (by intro z; cases z)) (fun c => ?_)
    refine ⟨_, rfl, a, _, _, _, rfl, rfl, SqT.of ha, rfl, rfl, _, rfl, ?_⟩
    refine ite2 (fun c => absurd (of_decide_eq_true c) (by decide)) (fun c => ?_)
    refine ⟨_, rfl, a, _, _, _, rfl, rfl, SqT.of ha, rfl, m, _, rfl, .inr hm.sq, ?_⟩
    rw [List.length_map]
    exact q
end

abbrev k_half_of : Nat := 1
def sp_half_of (_ : PySem.W.Frag) : Sp := fun vs H Q _ => ∃ (v : V) (t : Tr) (mk : Int), vs = [v, .int mk] ∧ TreeAt H v t ∧ (mk = 0 ∨ mk = 1) ∧ ∀ u, TreeAt H u (trHalf t mk) → Q u H
section
variable {P : Program} {w : World} {K : PySem.W.Frag} {mg : Str → Option Value} {base : Heap}
theorem ok_half_of (d : Def K mg "half_of" s_half_of ["tree", "mark"]) (z : Bz mg)  : Cal P w K mg base k_half_of "half_of" ["tree", "mark"] (sp_half_of K) := by
  have sc := sc_half_of
  refine d.cal fun f fd F => F.ok sc (fun vs H Q E h => ?_) (fun cdv A outer s H vs Q E hr h => ?_)
  · obtain ⟨v, t, mk, rfl, _⟩ := h
    rfl
  obtain ⟨v, t, mk, rfl, ht, hmk, q⟩ := h
  refine ⟨_, (pss_cons (ps_if (PW.pt (pw_or (pt_cmpR op_isN (pv 0) pe_non (nomark _)) (pw_or1 (pt_cmpR op_eq (pe_ix ix_tup (pv 0) pe_int (fun _ _ => rfl)) pe_str (nomark _)))))
  (pss_one (ps_ret pe_non))
  pss_nil)
 (pss_one (ps_ret (pe_ix ix_tup (pv 0) (pe_op op_add pe_int (pv 1)) (fun _ _ => rfl))))), ?_⟩
  refine ⟨_, rfl, rfl, _, rfl, ?_⟩
  cases t with
  | non =>
    cases ht
    exact ite2 (fun c => q .non rfl) (fun c => absurd (decide_eq_true rfl) c)
  | many n =>
    obtain ⟨a, rfl, ha⟩ := ht
    refine ite2 (fun c => absurd (of_decide_eq_true c) (by intro z; cases z)) (fun c => ?_)
    refine ⟨_, rfl, a, _, _, _, rfl, rfl, SqT.of ha, rfl, rfl, _, rfl, ?_⟩
    exact ite2 (fun c => q .non rfl) (fun c => absurd (decide_eq_true rfl) c)
  | part ms l r =>
    obtain ⟨a, m, x, y, rfl, ha, hm, hl, hr'⟩ := ht
    refine ite2 (fun c => absurd (of_decide_eq_true c) (by intro z; cases z)) (fun c => ?_)
    refine ⟨_, rfl, a, _, _, _, rfl, rfl, SqT.of ha, rfl, rfl, _, rfl, ?_⟩
    refine ite2 (fun c => absurd (of_decide_eq_true c) (by decide)) (fun c => ?_)
    refine ⟨_, rfl, _, rfl, _, _, rfl, rfl, ?_⟩
    rcases hmk with rfl | rfl
    · exact ⟨a, _, _, _, rfl, rfl, SqT.of ha, rfl, q x hl⟩
    · exact ⟨a, _, _, _, rfl, rfl, SqT.of ha, rfl, q y hr'⟩
end

/-- the places at which p holds -/
def idxs (p : Int → Bool) : List Int → List Nat
  | [] => []
  | o :: os => if p o = true then 0 :: (idxs p os).map (· + 1) else (idxs p os).map (· + 1)
theorem idxs_comp {p q r : Int → Bool} {f : Int → Int} : ∀ (os : List Int) (k : Nat), (∀ o ∈ os, p o = (q o && r (f o))) → (idxs p os)[k]? = ((idxs r ((os.filter q).map f))[k]?).bind fun j => (idxs q os)[j]?
  | [], k, _ => by simp [idxs]
  | o :: os, k, h => by
    have h0 := h o (List.mem_cons_self ..)
    have ih := fun k => idxs_comp (p := p) (q := q) (r := r) (f := f) os k fun x hx => h x (List.mem_cons_of_mem _ hx)
    cases hq : q o with
    | false =>
      have hp : p o = false := by rw [h0, hq]; rfl
      simp only [idxs, hp, hq, List.filter_cons, Bool.false_eq_true, if_false, List.getElem?_map, ih]
      cases (idxs r ((os.filter q).map f))[k]? <;> simp
    | true =>
      cases hr : r (f o) with
      | false =>
        have hp : p o = false := by rw [h0, hq, hr]; rfl
        simp only [idxs, hp, hq, hr, List.filter_cons, Bool.false_eq_true, if_false, if_true, List.map_cons, List.getElem?_map, ih]
        cases (idxs r ((os.filter q).map f))[k]? <;> simp
      | true =>
        have hp : p o = true := by rw [h0, hq, hr]; rfl
        cases k with
        | zero => simp [idxs, hp, hq, hr, List.filter_cons]
        | succ k =>
          simp only [idxs, hp, hq, hr, List.filter_cons, if_true, List.map_cons, List.getElem?_cons_succ, List.getElem?_map, ih]
          cases (idxs r ((os.filter q).map f))[k]? <;> simp
theorem idxs_true : ∀ (os : List Int), idxs (fun _ => true) os = List.range os.length
  | [] => rfl
  | o :: os => by
    rw [idxs, if_pos rfl, idxs_true os, List.length_cons, List.range_succ_eq_map]
/-- whether a number, told by how far from the low it is, lies at a way -/
def inW : Nat → Int → List Int → Bool
  | _, _, [] => true
  | 0, _, _ :: _ => false
  | e + 1, o, w :: ws => (o / 2 ^ e == w) && inW e (o % 2 ^ e) ws
def mk0 (e : Nat) (o : Int) : Int := if o < 2 ^ e then 0 else 1
/-- those of a half, told anew -/
def halfO (e : Nat) (w : Int) (os : List Int) : List Int := (os.filter fun o => mk0 e o == w).map fun o => o % 2 ^ e
theorem div_mk {e : Nat} {o : Int} (h0 : 0 ≤ o) (h1 : o < 2 ^ (e + 1)) : o / 2 ^ e = mk0 e o := by
  have hp : (0 : Int) < 2 ^ e := Int.pow_pos (by decide)
  have hs : (2 : Int) ^ (e + 1) = 2 ^ e + 2 ^ e := by rw [Int.pow_succ]; omega
  unfold mk0
  split
  · exact Int.ediv_eq_zero_of_lt h0 (by assumption)
  · have e1 : o = (o - 2 ^ e) + 1 * 2 ^ e := by omega
    rw [e1, Int.add_mul_ediv_right _ _ (by omega), Int.ediv_eq_zero_of_lt (by omega) (by omega)]
    rfl
def spots (L : Nat) (os ws : List Int) : List Nat := idxs (fun o => inW L o ws) os
theorem spots_cons {e : Nat} {os ws : List Int} {w : Int} (h : ∀ o ∈ os, 0 ≤ o ∧ o < (2 : Int) ^ (e + 1)) (k : Nat) :
    (spots (e + 1) os (w :: ws))[k]? = ((spots e (halfO e w os) ws)[k]?).bind fun j => (idxs (fun o => mk0 e o == w) os)[j]? := by
  unfold spots halfO
  refine idxs_comp os k fun o ho => ?_
  obtain ⟨h0, h1⟩ := h o ho
  show ((o / 2 ^ e == w) && inW e (o % 2 ^ e) ws) = _
  rw [div_mk h0 h1]
def plc (mk : Int) : List Int → Int → Nat → Option Nat
  | [], _, _ => none
  | m :: r, l, i => if m = mk then (if l = 0 then some i else plc mk r (l - 1) (i + 1)) else plc mk r l (i + 1)
theorem plc_idxs {w : Int} {f : Int → Int} : ∀ (os : List Int) (j i : Nat), plc w (os.map f) (j : Int) i = ((idxs (fun o => f o == w) os)[j]?).map (· + i)
  | [], j, i => by simp [plc, idxs]
  | o :: os, j, i => by
    rw [List.map_cons, plc, idxs]
    by_cases c : f o = w
    · rw [if_pos c, if_pos (beq_iff_eq.mpr c)]
      cases j with
      | zero => simp
      | succ j =>
        rw [if_neg (by omega), show (((j + 1 : Nat) : Int) - 1) = (j : Int) by omega, plc_idxs os j (i + 1), List.getElem?_cons_succ, List.getElem?_map, Option.map_map]
        congr 1
        funext x
        show x + (i + 1) = (x + 1) + i
        omega
    · rw [if_neg c, if_neg (by rw [beq_iff_eq]; exact c), plc_idxs os j (i + 1), List.getElem?_map, Option.map_map]
      congr 1
      funext x
      show x + (i + 1) = (x + 1) + i
      omega

def InO (L : Nat) (os : List Int) : Prop := ∀ o ∈ os, 0 ≤ o ∧ o < (2 : Int) ^ L
def growO : Nat → List Int → Tr
  | 0, os => if os = [] then .non else .many os.length
  | e + 1, os => if os = [] then .non else .part (os.map (mk0 e)) (growO e (os.filter fun o => decide (o < 2 ^ e))) (growO e ((os.filter fun o => decide ((2 : Int) ^ e ≤ o)).map fun o => o - 2 ^ e))
theorem growO_nil (e : Nat) : growO e [] = .non := by cases e <;> rfl
theorem growO_zero {os : List Int} (h : os ≠ []) : growO 0 os = .many os.length := by unfold growO; rw [if_neg h]
theorem growO_succ {e : Nat} {os : List Int} (h : os ≠ []) : growO (e + 1) os = .part (os.map (mk0 e)) (growO e (os.filter fun o => decide (o < 2 ^ e))) (growO e ((os.filter fun o => decide ((2 : Int) ^ e ≤ o)).map fun o => o - 2 ^ e)) := by
  rw [growO, if_neg h]
theorem halfO_0 {e : Nat} {os : List Int} (h : InO (e + 1) os) : halfO e 0 os = os.filter fun o => decide (o < 2 ^ e) := by
  unfold halfO
  have e1 : (os.filter fun o => mk0 e o == 0) = os.filter fun o => decide (o < 2 ^ e) := List.filter_congr fun o _ => by
    unfold mk0
    by_cases c : o < 2 ^ e
    · rw [if_pos c, decide_eq_true c]; rfl
    · rw [if_neg c, decide_eq_false c]; rfl
  rw [e1]
  have e2 : ∀ o ∈ (os.filter fun o => decide (o < (2 : Int) ^ e)), o % 2 ^ e = o := fun o ho => by
    obtain ⟨h1, h2⟩ := List.mem_filter.mp ho
    exact Int.emod_eq_of_lt (h o h1).1 (of_decide_eq_true h2)
  rw [List.map_congr_left e2, List.map_id']
theorem halfO_1 {e : Nat} {os : List Int} (h : InO (e + 1) os) : halfO e 1 os = (os.filter fun o => decide ((2 : Int) ^ e ≤ o)).map fun o => o - 2 ^ e := by
  unfold halfO
  have e1 : (os.filter fun o => mk0 e o == 1) = os.filter fun o => decide ((2 : Int) ^ e ≤ o) := List.filter_congr fun o _ => by
    unfold mk0
    by_cases c : o < 2 ^ e
    · rw [if_pos c, decide_eq_false (by omega)]; rfl
    · rw [if_neg c, decide_eq_true (by omega)]; rfl
  rw [e1]
  refine List.map_congr_left fun o ho => ?_
  obtain ⟨h1, h2⟩ := List.mem_filter.mp ho
  have h3 : (2 : Int) ^ e ≤ o := of_decide_eq_true h2
  have h4 := (h o h1).2
  have hs : (2 : Int) ^ (e + 1) = 2 ^ e + 2 ^ e := by rw [Int.pow_succ]; omega
  have e3 : o = (o - 2 ^ e) + 2 ^ e := by omega
  have e4 : o % 2 ^ e = (o - 2 ^ e) % 2 ^ e := by rw [e3, Int.add_emod_right]; congr 1; omega
  rw [e4]
  exact Int.emod_eq_of_lt (by omega) (by omega)
theorem halfO_in {e : Nat} {os : List Int} {w : Int} : InO e (halfO e w os) := fun o ho => by
  obtain ⟨x, _, rfl⟩ := List.mem_map.mp ho
  have hp : (0 : Int) < 2 ^ e := Int.pow_pos (by decide)
  exact ⟨Int.emod_nonneg _ (by omega), Int.emod_lt_of_pos _ hp⟩
theorem halfO_len {e : Nat} {os : List Int} {w : Int} : (halfO e w os).length ≤ os.length := by
  unfold halfO
  rw [List.length_map]
  exact List.length_filter_le _ _
theorem growO_half {e : Nat} {os : List Int} {w : Int} (h : InO (e + 1) os) (hw : w = 0 ∨ w = 1) : trHalf (growO (e + 1) os) w = growO e (halfO e w os) := by
  by_cases hn : os = []
  · subst hn
    rw [growO_nil]
    show Tr.non = growO e ([] : List Int)
    rw [growO_nil]
  · rw [growO_succ hn]
    rcases hw with rfl | rfl
    · rw [halfO_0 h]; rfl
    · rw [halfO_1 h]; rfl
theorem growO_size (e : Nat) (os : List Int) : trSize (growO e os) = os.length := by
  by_cases h : os = []
  · rw [h, growO_nil]; rfl
  · cases e with
    | zero => rw [growO_zero h]; rfl
    | succ e =>
      rw [growO_succ h]
      show ((List.map _ os).length : Int) = _
      rw [List.length_map]
theorem spots_nil {L : Nat} {ws : List Int} : spots L [] ws = [] := rfl
theorem spots_empty {L : Nat} {os : List Int} : spots L os [] = List.range os.length := by
  unfold spots
  have e : (fun o => inW L o []) = fun _ => true := by
    funext o
    cases L <;> rfl
  rw [e, idxs_true]
/-- the next step down: which place it is there -/
theorem spots_down {e : Nat} {os ws : List Int} {w : Int} (h : InO (e + 1) os) (k : Nat) :
    (spots (e + 1) os (w :: ws))[k]? = ((spots e (halfO e w os) ws)[k]?).bind fun j => plc w (os.map (mk0 e)) (j : Int) 0 := by
  rw [spots_cons h]
  congr 1
  funext j
  rw [plc_idxs]
  simp

def B01 (l : List Int) : Prop := ∀ m ∈ l, m = 0 ∨ m = 1
theorem drop_cons {l : List Int} {i : Nat} {m : Int} (h : l[i]? = some m) : l.drop i = m :: l.drop (i + 1) := by
  obtain ⟨h1, h2⟩ := List.getElem?_eq_some_iff.mp h
  rw [List.drop_eq_getElem_cons h1, h2]
theorem plc_cons {mk m l : Int} {r : List Int} {i : Nat} : plc mk (m :: r) l i = if m = mk then (if l = 0 then some i else plc mk r (l - 1) (i + 1)) else plc mk r l (i + 1) := rfl
theorem cut_take (ms : List Int) (k : Nat) : cutV (ms.map V.int) none (some (k : Int)) = (ms.take k).map V.int := by
  unfold cutV
  rw [HT.sIx_nat, HT.sIx_none, List.drop_zero, Nat.sub_zero, List.map_take]
  by_cases h : k ≤ (ms.map V.int).length
  · rw [Nat.min_eq_left h]
  · rw [Nat.min_eq_right (by omega), List.take_length, List.take_of_length_le (by omega)]
abbrev k_place_of : Nat := 1
def sp_place_of (K : PySem.W.Frag) : Sp := fun vs H Q _ => ∃ (t : Addr) (ms : List Int) (mk num : Int) (p : Nat), vs = [.ref t, .int mk, .int num] ∧ SqT K H t (ms.map V.int) ∧ plc mk ms num 0 = some p ∧ ∀ H', Same H H' → Q (.int (p : Nat)) H'
section
variable {P : Program} {w : World} {K : PySem.W.Frag} {mg : Str → Option Value} {base : Heap}
theorem ok_place_of (d : Def K mg "place_of" s_place_of ["marks", "mark", "number"]) (z : Bz mg)  : Cal P w K mg base k_place_of "place_of" ["marks", "mark", "number"] (sp_place_of K) := by
  have sc := sc_place_of
  refine d.cal fun f fd F => F.ok sc (fun vs H Q E h => ?_) (fun cdv A outer s H vs Q E hr h => ?_)
  · obtain ⟨t, ms, mk, num, p0, rfl, _⟩ := h
    rfl
  obtain ⟨t, ms, mk, num, p0, rfl, ht, hp0, q⟩ := h
  refine ⟨_, (pss_cons (ps_set (i := 3) sc.nd rfl (Or.inl rfl) (pv 2))
 (pss_cons (ps_for PassesOwn.never rfl (pi_enum rfl z.enumerate_ (pa_cons (pv 0) pa_nil)) (pg_tup rfl (pgs_cons (pg_name (i := 4) sc.nd rfl (Or.inl rfl)) (pgs_cons (pg_name (i := 5) sc.nd rfl (Or.inl rfl)) pgs_nil)))
  (pss_one (ps_if (pt_cmpR op_eq (pv 5) (pv 1) (nomark _))
  (pss_cons (ps_if (pt_cmpR op_eq (pv 3) pe_int (nomark _))
  (pss_one (ps_ret (pv 4)))
  pss_nil)
 (pss_one (ps_set (i := 3) sc.nd rfl (Or.inl rfl) (pe_op op_sub (pv 3) pe_int))))
  pss_nil)))
 (pss_one ps_never))), ?_⟩
  refine ⟨_, rfl, _, rfl, t, rfl, ⟨_, ht⟩, for_enum (xs := ms.map V.int) (fun i σ H2 => ∃ (L : Int) (v u : Option V), σ = [some (.ref t), some (.int mk), some (.int num), some (.int L), v, u] ∧ Same H H2 ∧ plc mk (ms.drop i) L i = some p0)
    ⟨num, none, none, rfl, Same.refl H, hp0⟩ (fun i σ H2 _ ⟨_, _, _, _, s2, _⟩ => s2.seqT ht) ?_ ?_⟩
  · rintro i x σ H2 p hx ⟨L, v, u, rfl, s2, hp⟩ hpn
    obtain ⟨m, gm, rfl⟩ : ∃ m, ms[i]? = some m ∧ V.int m = x := by
      rw [List.getElem?_map] at hx
      cases e : ms[i]? with
      | none => rw [e] at hx; cases hx
      | some m => rw [e] at hx; exact ⟨m, rfl, Option.some.inj hx⟩
    have s3 : Same H (upd H2 p (.tup [.int (i : Nat), .int m])) := s2.trans (same_new hpn _)
    rw [drop_cons gm, plc_cons] at hp
    refine ⟨p, _, rfl, SqT.of upd_same, rfl, _, _, rfl, _, _, rfl, rfl, ?_⟩
    refine ⟨_, rfl, _, rfl, rfl, _, rfl, ?_⟩
    refine ite2 (fun c => ?_) (fun c => ?_)
    · have c' : m = mk := V.int.inj (of_decide_eq_true c)
      rw [if_pos c'] at hp
      refine ⟨_, rfl, rfl, _, rfl, ?_⟩
      refine ite2 (fun c2 => ?_) (fun c2 => ?_)
      · have c2' : L = 0 := V.int.inj (of_decide_eq_true c2)
        rw [if_pos c2'] at hp
        cases hp
        exact ⟨_, rfl, q _ s3⟩
      · have c2' : ¬ L = 0 := fun z => c2 (by rw [z]; exact decide_eq_true rfl)
        rw [if_neg c2'] at hp
        exact ⟨_, rfl, _, _, rfl, rfl, _, _, _, rfl, s3, hp⟩
    · have c' : ¬ m = mk := fun z => c (by rw [z]; exact decide_eq_true rfl)
      rw [if_neg c'] at hp
      exact ⟨_, _, _, rfl, s3, hp⟩
  · rintro σ H2 ⟨L, v, u, rfl, s2, hp⟩
    rw [List.length_map, List.drop_length] at hp
    cases hp
end
abbrev kb__law_grown : Nat := 0
abbrev kn__law_grown : Nat := 40
abbrev k__law_grown : Nat := 41
def spe__law_grown (K : PySem.W.Frag) (e : Nat) : Sp := fun vs H Q _ => ∃ (a : Addr) (os : List Int), vs = [.int (e : Int), .ref a] ∧ SqL K H a (os.map V.int) ∧ os.length ≤ 1000 ∧ ∀ (H' : Hp) (v : V), Same H H' → TreeAt H' v (growO e os) → Q v H'
def sp__law_grown (K : PySem.W.Frag) : Sp := fun vs H Q E => ∃ e, e ≤ kn__law_grown ∧ spe__law_grown K e vs H Q E
abbrev k__law_tree : Nat := 42
def sp__law_tree (K : PySem.W.Frag) : Sp := fun vs H Q _ => ∃ (b r : Addr) (low : Int) (L : Nat) (ns : List Int), vs = [.ref b, .ref r] ∧ SqT K H b [.int low, .int (L : Int)] ∧ L ≤ 40 ∧ SqL K H r (ns.map V.int) ∧ ns.length ≤ 1000 ∧
  ∀ (H' : Hp) (v : V), Same H H' → TreeAt H' v (growO L (ns.map fun n => n - low)) → Q v H'
section
variable {P : Program} {w : World} {K : PySem.W.Frag} {mg : Str → Option Value} {base : Heap}
theorem ok__law_grown (d : Def K mg "_law_grown" s__law_grown ["_law_levels", "_law_offsets"]) (z : Bz mg)  : Cal P w K mg base k__law_grown "_law_grown" ["_law_levels", "_law_offsets"] (sp__law_grown K) := by
  have sc := sc__law_grown
  refine d.recur (k := kb__law_grown) (sp := spe__law_grown K) kn__law_grown fun e hen c__law_grown f fd F => F.ok sc (fun vs H Q E h => ?_) (fun cdv A outer s H vs Q E hr h => ?_)
  · obtain ⟨a, os, rfl, _⟩ := h
    rfl
  obtain ⟨a, os, rfl, ha, hl, q⟩ := h
  refine ⟨_, (pss_cons (ps_if (pt_cmpR (op_eqL hr.units) (pv 1) (pe_lst pa_nil) (nomark _))
  (pss_one (ps_ret pe_non))
  pss_nil)
 (pss_cons (ps_if (pt_cmpR op_eq (pv 0) pe_int (nomark _))
  (pss_one (ps_ret (pe_tup (pa_cons pe_str (pa_cons (pe_callB call_len_seq (by rfl) z.len_ bt_len (pa_cons (pv 1) pa_nil)) pa_nil)))))
  pss_nil)
 (pss_cons (ps_set (i := 2) sc.nd rfl (Or.inr rfl) (pe_op op_shl pe_int (pe_op op_sub (pv 0) pe_int)))
 (pss_cons (ps_set (i := 3) sc.nd rfl (Or.inl rfl) (pe_callTy call_tupleF (by rfl) z.tuple_ bt_tuple (pa_cons (pe_comp (cl := [("_law_half", s.heap.objs.size + 1 + 0)]) (cn := ["_law_half"]) (N := ["_law_half"]) (fr := [2]) (sc0 := defScope s__law_grown) rfl (pi_list (pv 1)) (fun C s₂ H₂ fp => (pe_callTy call_int1 (by rfl) z.int_ bt_int (pa_cons (pe_cmpR op_ge (pv 0) (pv 1) (nomark _)) pa_nil))) (by with_unfolding_all rfl) ⟨by with_unfolding_all rfl, trivial⟩ rfl rfl rfl ⟨by decide +kernel, by decide +kernel, by decide +kernel, by decide +kernel, by decide +kernel, by decide +kernel, by decide +kernel⟩ rfl) pa_nil)))
 (pss_cons (ps_set (i := 4) sc.nd rfl (Or.inl rfl) (pe_fn c__law_grown (hr.mono (Nat.le_refl _)) (by rfl) (pa_cons (pe_op op_sub (pv 0) pe_int) (pa_cons (pe_compIf (cl := [("_law_half", s.heap.objs.size + 1 + 0)]) (cn := ["_law_half"]) (N := ["_law_half"]) (fr := [2]) (sc0 := defScope s__law_grown) rfl (pi_list (pv 1)) (fun C s₂ H₂ fp => (pv 0)) (fun C s₂ H₂ fp => (pt_cmpR op_lt (pv 0) (pv 1) (nomark _))) (by with_unfolding_all rfl) ⟨by with_unfolding_all rfl, trivial⟩ rfl rfl rfl ⟨by decide +kernel, by decide +kernel, by decide +kernel, by decide +kernel, by decide +kernel, by decide +kernel, by decide +kernel⟩ rfl) pa_nil))))
 (pss_one (ps_ret (pe_tup (pa_cons pe_str (pa_cons (pv 3) (pa_cons (pv 4) (pa_cons (pe_fn c__law_grown (hr.mono (Nat.le_refl _)) (by rfl) (pa_cons (pe_op op_sub (pv 0) pe_int) (pa_cons (pe_compIf (cl := [("_law_half", s.heap.objs.size + 1 + 0)]) (cn := ["_law_half"]) (N := ["_law_half"]) (fr := [2]) (sc0 := defScope s__law_grown) rfl (pi_list (pv 1)) (fun C s₂ H₂ fp => (pe_op op_sub (pv 0) (pv 1))) (fun C s₂ H₂ fp => (pt_cmpR op_ge (pv 0) (pv 1) (nomark _))) (by with_unfolding_all rfl) ⟨by with_unfolding_all rfl, trivial⟩ rfl rfl rfl ⟨by decide +kernel, by decide +kernel, by decide +kernel, by decide +kernel, by decide +kernel, by decide +kernel, by decide +kernel⟩ rfl) pa_nil))) pa_nil)))))))))))), ?_⟩
  have hz : os.length ≤ sizeLine := sz hl
  refine ⟨_, rfl, szb rfl, fun p0 hp0 => ?_⟩
  have s0 : Same H (upd H p0 (.lst [])) := same_new hp0 _
  refine ⟨a, p0, os, [], rfl, rfl, s0.seq ha, SqL.of upd_same, _, rfl, ?_⟩
  have ha := s0.seq ha
  refine ite2 (fun c => ?_) (fun c => ?_)
  · have e0 : os = [] := of_decide_eq_true c
    subst e0
    exact q _ .non s0 (by rw [growO_nil]; rfl)
  · have hne : os ≠ [] := fun z => c (decide_eq_true z)
    generalize hH0 : upd H p0 (.lst []) = H0 at *
    refine ⟨_, rfl, rfl, _, rfl, ?_⟩
    refine ite2 (fun c2 => ?_) (fun c2 => ?_)
    · have e0' : ((e : Nat) : Int) = 0 := V.int.inj (of_decide_eq_true c2)
      have e0 : e = 0 := by omega
      subst e0
      refine ⟨_, rfl, a, _, rfl, .inl ha, szb rfl, fun p hp => q _ _ (s0.trans (same_new hp _)) ?_⟩
      rw [growO_zero hne]
      refine ⟨p, rfl, ?_⟩
      rw [upd_same, List.length_map]
    · cases e with
      | zero => exact absurd (decide_eq_true rfl) c2
      | succ e =>
        have hen' : e + 1 ≤ 40 := hen
        have ee : (((e + 1 : Nat) : Int) - 1) = (e : Int) := by omega
        refine ⟨_, rfl, _, _, rfl, rfl, _, _, rfl, rfl, ⟨by omega, by omega, by decide⟩, ?_⟩
        dsimp only
        rw [ee, shlOne]
        refine ⟨_, rfl, a, rfl, ⟨_, ha⟩, fun D hD => ?_⟩
        refine comp_ints (g := fun n => .int (mk0 e n)) ha hD hz (fun n _ H1 Q1 _ q1 => ?_) ?_
        · refine ⟨_, rfl, _, rfl, _, _, rfl, rfl, .inr ⟨_, rfl, ?_⟩⟩
          unfold mk0 at q1
          by_cases c3 : n < 2 ^ e
          · rw [if_pos c3] at q1
            rw [if_neg (by intro z; have := of_decide_eq_true z; omega)]
            exact q1
          · rw [if_neg c3] at q1
            rw [if_pos (decide_eq_true (by omega))]
            exact q1
        have s1 : Same H0 (upd H0 D (.lst (os.map fun n => V.int (mk0 e n)))) := same_new hD _
        refine ⟨D, _, rfl, SqL.of upd_same, fun m H2 s2 hm => ?_⟩
        have s02 : Same H0 H2 := s1.trans s2
        have hm' : TupF H2 m ((os.map (mk0 e)).map V.int) := by rw [List.map_map]; exact hm
        refine ⟨_, rfl, _, _, rfl, rfl, _, rfl, a, rfl, ⟨_, s02.seq ha⟩, fun D2 hD2 => ?_⟩
        refine compIf_ints (p := fun n => decide (n < 2 ^ e)) (g := V.int) (s02.seq ha) hD2 hz (fun n _ H1 Q1 _ q1 => ⟨_, rfl, _, rfl, _, _, rfl, rfl, _, rfl, q1⟩) (fun n _ _ H1 Q1 _ q1 => ⟨_, rfl, q1⟩) ?_
        refine ⟨D2, _, congrArg (fun t => [V.int t, V.ref D2]) ee, SqL.of upd_same, Nat.le_trans (List.length_filter_le _ _) hl, fun H3 lo s3 hlo => ?_⟩
        have s03 : Same H0 H3 := s02.trans ((same_new hD2 _).trans s3)
        refine ⟨_, rfl, _, rfl, _, rfl, _, _, rfl, rfl, _, rfl, a, rfl, ⟨_, s03.seq ha⟩, fun D3 hD3 => ?_⟩
        refine compIf_ints (p := fun n => decide ((2 : Int) ^ e ≤ n)) (g := fun n => V.int (n - 2 ^ e)) (s03.seq ha) hD3 hz (fun n _ H1 Q1 _ q1 => ⟨_, rfl, _, rfl, _, _, rfl, rfl, _, rfl, q1⟩) (fun n _ _ H1 Q1 _ q1 => ⟨_, rfl, _, rfl, _, _, rfl, rfl, q1⟩) ?_
        have eu : (os.filter fun n => decide ((2 : Int) ^ e ≤ n)).map (fun n => V.int (n - 2 ^ e)) = ((os.filter fun n => decide ((2 : Int) ^ e ≤ n)).map fun n => n - 2 ^ e).map V.int := by rw [List.map_map]; rfl
        rw [eu]
        refine ⟨D3, _, congrArg (fun t => [V.int t, V.ref D3]) ee, SqL.of upd_same, by rw [List.length_map]; exact Nat.le_trans (List.length_filter_le _ _) hl, fun H4 hi s4 hhi => ?_⟩
        have s34 : Same H3 H4 := (same_new hD3 _).trans s4
        refine ⟨szb rfl, fun p hp => q _ _ (s0.trans (s03.trans (s34.trans (same_new hp _)))) ?_⟩
        rw [growO_succ hne]
        have sp : Same H4 (upd H4 p (.tup [.str "part", .ref m, lo, hi])) := same_new hp _
        have s24 : Same H2 H4 := (same_new hD2 _).trans (s3.trans s34)
        exact ⟨p, m, lo, hi, rfl, upd_same, (hm'.same s24).same sp, (hlo.same s34).same sp, hhi.same sp⟩
theorem ok__law_tree (d : Def K mg "_law_tree" s__law_tree ["_law_bounds_here", "_law_row"]) (z : Bz mg) (c__law_grown : Cal P w K mg base k__law_grown "_law_grown" ["_law_levels", "_law_offsets"] (sp__law_grown K)) : Cal P w K mg base k__law_tree "_law_tree" ["_law_bounds_here", "_law_row"] (sp__law_tree K) := by
  have sc := sc__law_tree
  refine d.cal fun f fd F => F.ok sc (fun vs H Q E h => ?_) (fun cdv A outer s H vs Q E hr h => ?_)
  · obtain ⟨b, r, low, L, ns, rfl, _⟩ := h
    rfl
  obtain ⟨b, r, low, L, ns, rfl, hb, hL, hr', hl, q⟩ := h
  refine ⟨_, (pss_one (ps_ret (pe_fn c__law_grown (hr.mono (by decide)) (by rfl) (pa_cons (pe_ix ix_tup (pv 0) pe_int (fun _ _ => rfl)) (pa_cons (pe_comp (cl := [("_law_bounds_here", s.heap.objs.size + 1 + 0)]) (cn := ["_law_bounds_here"]) (N := ["_law_bounds_here"]) (fr := [0]) (sc0 := defScope s__law_tree) rfl (pi_list (pv 1)) (fun C s₂ H₂ fp => (pe_op op_sub (pv 0) (pe_ix (ix_tupK (K := K) rfl) (pv 1) pe_int (fun _ _ => rfl)))) (by with_unfolding_all rfl) ⟨by with_unfolding_all rfl, trivial⟩ rfl rfl rfl ⟨by decide +kernel, by decide +kernel, by decide +kernel, by decide +kernel, by decide +kernel, by decide +kernel, by decide +kernel⟩ rfl) pa_nil))))), ?_⟩
  refine ⟨_, rfl, b, _, _, _, rfl, rfl, hb, rfl, _, rfl, r, rfl, ⟨_, hr'⟩, fun D hD => ?_⟩
  refine comp_ints (g := fun n => .int (n - low)) hr' hD (sz hl) (fun n _ H1 Q1 s1 q1 => ⟨_, rfl, _, rfl, b, _, _, _, rfl, rfl, s1.seqT hb, rfl, _, _, rfl, rfl, q1⟩) ?_
  have eu : ns.map (fun n => V.int (n - low)) = (ns.map fun n => n - low).map V.int := by rw [List.map_map]; rfl
  rw [eu]
  exact ⟨L, hL, D, _, rfl, SqL.of upd_same, by rw [List.length_map]; exact hl, fun H' v s' ht => q H' v ((same_new hD _).trans s') ht⟩
end

theorem all_flat (ms : List Int) : (ms.map V.int).all flatV = true := by
  rw [List.all_eq_true]
  intro x hx
  obtain ⟨i, _, rfl⟩ := List.mem_map.mp hx
  rfl
theorem count_map (ms : List Int) (m : Int) : (ms.map V.int).countP (fun y => eqV y (.int m)) = ms.count m := by
  rw [List.countP_map, List.count_eq_countP]
  rfl
abbrev k_ahead : Nat := 1
def sp_ahead (_ : PySem.W.Frag) : Sp := fun vs H Q _ => ∃ (t : Addr) (ms : List Int) (mk : Int) (pl : Nat), vs = [.ref t, .int mk, .int (pl : Int)] ∧ TupF H t (ms.map V.int) ∧ ∀ H', Same H H' → Q (.int ((ms.take pl).count mk : Nat)) H'
section
variable {P : Program} {w : World} {K : PySem.W.Frag} {mg : Str → Option Value} {base : Heap}
theorem ok_ahead (d : Def K mg "ahead" s_ahead ["marks", "mark", "place"]) (z : Bz mg)  : Cal P w K mg base k_ahead "ahead" ["marks", "mark", "place"] (sp_ahead K) := by
  have sc := sc_ahead
  refine d.cal fun f fd F => F.ok sc (fun vs H Q E h => ?_) (fun cdv A outer s H vs Q E hr h => ?_)
  · obtain ⟨t, ms, mk, pl, rfl, _⟩ := h
    rfl
  obtain ⟨t, ms, mk, pl, rfl, ht, q⟩ := h
  refine ⟨_, (pss_one (ps_ret (pe_bmF PySem.F.plainAttrs_tuple PySem.F.slot_tuple_count PySem.F.type_tuple_count mt_countT (pe_slice sl_tupF (pv 0) po_none (po_some (pe_callB (call_max2 rfl) (by rfl) z.max_ bt_max (pa_cons (pv 2) (pa_cons pe_int pa_nil))))) (pa_cons (pv 1) pa_nil)))), ?_⟩
  have e1 : (if (0 : Int) > (pl : Int) then (0 : Int) else (pl : Int)) = (pl : Int) := if_neg (by omega)
  refine ⟨_, rfl, _, rfl, _, _, rfl, _, rfl, t, _, rfl, ht, fun p H1 s1 h1 => ?_⟩
  rw [e1, cut_take] at h1
  obtain ⟨o, ho, hc, hd⟩ := id h1
  refine ⟨⟨p, o, _, rfl, ho, hc, hd⟩, _, rfl, p, _, _, rfl, rfl, h1.sq, rfl, all_flat _, ?_⟩
  rw [count_map]
  exact q H1 s1
end

/-! ### stretches led -/
abbrev G3 := List Int × Nat × Nat
def GoodS (L : Nat) (g : G3) : Prop := InO L g.1 ∧ g.2.1 ≤ g.2.2 ∧ g.2.2 ≤ g.1.length ∧ g.1.length ≤ 300
def led1 (e : Nat) (w : Int) (g : G3) : G3 := (halfO e w g.1, ((g.1.map (mk0 e)).take g.2.1).count w, ((g.1.map (mk0 e)).take g.2.2).count w)
def ledS : Nat → List Int → G3 → G3
  | _, [], g => g
  | 0, _ :: _, g => g
  | e + 1, w :: ws, g => ledS e ws (led1 e w g)
theorem ledS_empty (L : Nat) (g : G3) : ledS L [] g = g := by cases L <;> rfl
theorem ledS_cons (e : Nat) (w : Int) (ws : List Int) (g : G3) : ledS (e + 1) (w :: ws) g = ledS e ws (led1 e w g) := rfl
theorem count_mk (e : Nat) (w : Int) (os : List Int) : (os.map (mk0 e)).count w = (halfO e w os).length := by
  unfold halfO
  rw [List.length_map, List.count_eq_countP, List.countP_map, List.countP_eq_length_filter]
  rfl
theorem led1_good {e : Nat} {w : Int} {g : G3} (h : GoodS (e + 1) g) : GoodS e (led1 e w g) := by
  obtain ⟨h1, h2, h3, h4⟩ := h
  refine ⟨halfO_in, ?_, ?_, Nat.le_trans halfO_len h4⟩
  · exact (List.take_sublist_take_left h2).count_le w
  · show ((g.1.map (mk0 e)).take g.2.2).count w ≤ (halfO e w g.1).length
    rw [← count_mk]
    exact (List.take_sublist _ _).count_le w
theorem led1_none {e : Nat} {w : Int} {g : G3} (h : halfO e w g.1 = []) : led1 e w g = ([], 0, 0) := by
  have z : ∀ k, ((g.1.map (mk0 e)).take k).count w = 0 := fun k => by
    have h1 := (List.take_sublist k (g.1.map (mk0 e))).count_le w
    rw [count_mk, h, List.length_nil] at h1
    omega
  unfold led1
  rw [h, z, z]
theorem ledS_nil : ∀ (e : Nat) (ws : List Int), ledS e ws ([], 0, 0) = ([], 0, 0)
  | e, [] => ledS_empty e _
  | 0, _ :: _ => rfl
  | e + 1, w :: ws => by
    rw [ledS_cons, led1_none (e := e) (w := w) (g := ([], 0, 0)) rfl]
    exact ledS_nil e ws
def manyG (gs : List G3) : Int := (gs.map fun g => (g.2.2 : Int) - g.2.1).sum
theorem cnt01 {e : Nat} (os : List Int) (k : Nat) : ((os.map (mk0 e)).take k).count 0 + ((os.map (mk0 e)).take k).count 1 = min k os.length := by
  have z : ∀ l : List Int, (l.map (mk0 e)).count 0 + (l.map (mk0 e)).count 1 = l.length := fun l => by
    induction l with
    | nil => rfl
    | cons x l ih =>
      rw [List.map_cons, List.count_cons, List.count_cons, List.length_cons]
      unfold mk0 at ih ⊢
      by_cases c : x < 2 ^ e
      · simp only [c, if_true] at ih ⊢
        simp
        omega
      · simp only [c, if_false] at ih ⊢
        simp
        omega
  rw [← List.map_take, z, List.length_take]
/-! ### full ways -/
def fullW (L : Nat) (o : Int) : List Int := ((List.range L).map fun i => o / 2 ^ i % 2).reverse
theorem idxs_congr {p q : Int → Bool} : ∀ {os : List Int}, (∀ o ∈ os, p o = q o) → idxs p os = idxs q os
  | [], _ => rfl
  | o :: os, h => by
    rw [idxs, idxs, h o (List.mem_cons_self ..), idxs_congr fun x hx => h x (List.mem_cons_of_mem _ hx)]
def StrAt (H : Hp) (L : Nat) (v : V) (g : G3) : Prop := ∃ t u, v = .ref t ∧ H t = some (.tup [u, .int (g.2.1 : Int), .int (g.2.2 : Int)]) ∧ TreeAt H u (growO L g.1)
def GatAt (H : Hp) (L : Nat) (xs : List V) (gs : List G3) : Prop := xs.length = gs.length ∧ ∀ (j : Nat) (x : V) (g : G3), xs[j]? = some x → gs[j]? = some g → StrAt H L x g
theorem StrAt.tk {H H' : Hp} {L : Nat} {v : V} {g : G3} (h : StrAt H L v g) (k : TKeep H H') : StrAt H' L v g := by
  obtain ⟨t, u, e, h1, h2⟩ := h
  exact ⟨t, u, e, (k _ _).1 h1, h2.tk k⟩
theorem GatAt.tk {H H' : Hp} {L : Nat} {xs : List V} {gs : List G3} (h : GatAt H L xs gs) (k : TKeep H H') : GatAt H' L xs gs := ⟨h.1, fun j x g h1 h2 => (h.2 j x g h1 h2).tk k⟩
theorem GatAt.same {H H' : Hp} {L : Nat} {xs : List V} {gs : List G3} (h : GatAt H L xs gs) (s : Same H H') : GatAt H' L xs gs := h.tk (.same s)
theorem GatAt.nil (H : Hp) (L : Nat) : GatAt H L [] [] := ⟨rfl, fun j x g h1 _ => by simp at h1⟩
theorem snoc_get {α : Type} {l : List α} {x y : α} {j : Nat} (h : (l ++ [x])[j]? = some y) : (j < l.length ∧ l[j]? = some y) ∨ (j = l.length ∧ y = x) := by
  by_cases hj : j < l.length
  · rw [List.getElem?_append_left hj] at h
    exact .inl ⟨hj, h⟩
  · have hlt : j < (l ++ [x]).length := (List.getElem?_eq_some_iff.mp h).1
    rw [List.length_append, List.length_singleton] at hlt
    have e : j = l.length := by omega
    subst e
    rw [List.getElem?_append_right (Nat.le_refl _), Nat.sub_self] at h
    exact .inr ⟨rfl, (Option.some.inj h).symm⟩
theorem GatAt.snoc {H : Hp} {L : Nat} {xs : List V} {gs : List G3} {x : V} {g : G3} (h : GatAt H L xs gs) (hx : StrAt H L x g) : GatAt H L (xs ++ [x]) (gs ++ [g]) := by
  refine ⟨by rw [List.length_append, List.length_append, h.1] <;> rfl, fun j y k h1 h2 => ?_⟩
  have hl := h.1
  rcases snoc_get h1 with ⟨a1, a2⟩ | ⟨a1, a2⟩
  · rcases snoc_get h2 with ⟨b1, b2⟩ | ⟨b1, b2⟩
    · exact h.2 j y k a2 b2
    · omega
  · rcases snoc_get h2 with ⟨b1, b2⟩ | ⟨b1, b2⟩
    · omega
    · rw [a2, b2]; exact hx
theorem Same.own {H H' : Hp} {r : Addr} {o : HO} (k : Same H H') (hr : H r = none) : Same H (upd H' r o) := fun c u z => by
  rw [upd_ne (ne_of_none z hr)]
  exact k c u z
theorem non_growO {H : Hp} {e : Nat} {os : List Int} (h : TreeAt H .non (growO e os)) : os = [] := by
  apply Classical.byContradiction
  intro hn
  cases e with
  | zero =>
    rw [growO_zero hn] at h
    obtain ⟨a, z, _⟩ := h
    cases z
  | succ e =>
    rw [growO_succ hn] at h
    obtain ⟨a, m, x, y, z, _⟩ := h
    cases z
abbrev k_led_stretch : Nat := 2
def sp_led_stretch (K : PySem.W.Frag) : Sp := fun vs H Q _ => ∃ (v : V) (wy : Addr) (L : Nat) (ws : List Int) (g : G3), vs = [v, .ref wy] ∧ StrAt H L v g ∧ GoodS L g ∧ SqT K H wy (ws.map V.int) ∧ ws.length ≤ L ∧ B01 ws ∧
  ∀ (H' : Hp) (v' : V), Same H H' → StrAt H' (L - ws.length) v' (ledS L ws g) → Q v' H'
abbrev k_led : Nat := 3
def sp_led (K : PySem.W.Frag) : Sp := fun vs H Q _ => ∃ (ga wy : Addr) (xs : List V) (L : Nat) (ws : List Int) (gs : List G3), vs = [.ref ga, .ref wy] ∧ SqL K H ga xs ∧ GatAt H L xs gs ∧ (∀ g ∈ gs, GoodS L g) ∧ gs.length ≤ 1000 ∧ SqT K H wy (ws.map V.int) ∧ ws.length ≤ L ∧ B01 ws ∧
  ∀ (H' : Hp) (D : Addr) (ys : List V), Same H H' → H' D = some (.lst ys) → H D = none → GatAt H' (L - ws.length) ys (gs.map (ledS L ws)) → Q (.ref D) H'
abbrev k_many_in : Nat := 1
def sp_many_in (K : PySem.W.Frag) : Sp := fun vs H Q _ => ∃ (ga : Addr) (xs : List V) (L : Nat) (gs : List G3), vs = [.ref ga] ∧ SqL K H ga xs ∧ GatAt H L xs gs ∧ gs.length ≤ 1000 ∧ ∀ H', Same H H' → Q (.int (manyG gs)) H'
section
variable {P : Program} {w : World} {K : PySem.W.Frag} {mg : Str → Option Value} {base : Heap}
theorem ok_many_in (d : Def K mg "many_in" s_many_in ["gathering"]) (z : Bz mg)  : Cal P w K mg base k_many_in "many_in" ["gathering"] (sp_many_in K) := by
  have sc := sc_many_in
  refine d.cal fun f fd F => F.ok sc (fun vs H Q E h => ?_) (fun cdv A outer s H vs Q E hr h => ?_)
  · obtain ⟨ga, xs, L, gs, rfl, _⟩ := h
    rfl
  obtain ⟨ga, xs, L, gs, rfl, hga, hg, hl, q⟩ := h
  refine ⟨_, (pss_one (ps_ret (pe_callB (call_sumI rfl) (by rfl) z.sum_ bt_sum (pa_cons (pe_comp (cl := []) (cn := []) (N := []) (fr := []) (sc0 := defScope s_many_in) rfl (pi_list (pv 0)) (fun C s₂ H₂ fp => (pe_op op_sub (pe_ix (ix_tupK (K := K) rfl) (pv 0) pe_int (fun _ _ => rfl)) (pe_ix (ix_tupK (K := K) rfl) (pv 0) pe_int (fun _ _ => rfl)))) (by with_unfolding_all rfl) trivial rfl rfl rfl ⟨by decide +kernel, by decide +kernel, by decide +kernel, by decide +kernel, by decide +kernel, by decide +kernel, by decide +kernel⟩ rfl) pa_nil)))), ?_⟩
  have hxl := hg.1
  refine ⟨_, rfl, ga, rfl, ⟨_, hga⟩, fun D hD => ?_⟩
  refine comp_listP (xs := xs) (sz (by omega)) (fun i ys H2 => ys = (gs.take i).map (fun g => V.int ((g.2.2 : Int) - g.2.1)) ∧ i ≤ gs.length ∧ H2 = upd H D (.lst ys)) ⟨by simp, Nat.zero_le _, rfl⟩ (fun i ys H2 ⟨_, _, e⟩ => by rw [e]; exact (same_new hD _).seq hga)
    (fun i ys H2 ⟨e1, e2, e3⟩ => ⟨by rw [e3]; exact upd_same, by rw [e1, List.length_map, List.length_take]; omega⟩) ?_ ?_
  · rintro i x ys H2 hx ⟨e1, e2, rfl⟩
    have hi : i < gs.length := by rw [← hxl]; exact (List.getElem?_eq_some_iff.mp hx).1
    have gi : gs[i]? = some gs[i] := List.getElem?_eq_getElem hi
    generalize gs[i] = g at gi
    obtain ⟨t, u, rfl, ht, _⟩ := hg.2 i x g hx gi
    have ht' : SqT K (upd H D (.lst ys)) t [u, .int (g.2.1 : Int), .int (g.2.2 : Int)] := SqT.of (same_new hD _ _ _ ht)
    refine ⟨_, rfl, t, _, _, _, rfl, rfl, ht', rfl, _, rfl, t, _, _, _, rfl, rfl, ht', rfl, _, _, rfl, rfl, upd_same, ?_, by omega, by rw [upd_upd]⟩
    rw [List.take_add_one, gi, List.map_append, ← e1]
    rfl
  · rintro ys H2 ⟨e1, e2, rfl⟩
    rw [hxl, List.take_length] at e1
    refine ⟨D, gs.map (fun (g : G3) => (g.2.2 : Int) - (g.2.1 : Int)), rfl, SqL.of ?_, q _ (same_new hD _)⟩
    rw [upd_same, e1, List.map_map]
    rfl
theorem ok_led_stretch (d : Def K mg "led_stretch" s_led_stretch ["stretch", "way"]) (z : Bz mg) (c_ahead : Cal P w K mg base k_ahead "ahead" ["marks", "mark", "place"] (sp_ahead K)) (c_half_of : Cal P w K mg base k_half_of "half_of" ["tree", "mark"] (sp_half_of K)) : Cal P w K mg base k_led_stretch "led_stretch" ["stretch", "way"] (sp_led_stretch K) := by
  have sc := sc_led_stretch
  refine d.cal fun f fd F => F.ok sc (fun vs H Q E h => ?_) (fun cdv A outer s H vs Q E hr h => ?_)
  · obtain ⟨v, wy, L, ws, g, rfl, _⟩ := h
    rfl
  obtain ⟨v, wy, L, ws, g, rfl, ⟨t, u, rfl, ht, hu⟩, hgood, hw, hwl, h01, q⟩ := h
  refine ⟨_, (pss_cons (ps_set (i := 2) sc.nd rfl (Or.inl rfl) (pe_ix ix_tup (pv 0) pe_int (fun _ _ => rfl)))
 (pss_cons (ps_set (i := 3) sc.nd rfl (Or.inl rfl) (pe_ix ix_tup (pv 0) pe_int (fun _ _ => rfl)))
 (pss_cons (ps_set (i := 4) sc.nd rfl (Or.inl rfl) (pe_ix ix_tup (pv 0) pe_int (fun _ _ => rfl)))
 (pss_cons (ps_for PassesOwn.never rfl (pi_tup (pv 1)) (pg_name (i := 5) sc.nd rfl (Or.inl rfl))
  (pss_cons (ps_set (i := 6) sc.nd rfl (Or.inl rfl) (pe_fn c_half_of (hr.mono (by decide)) (by rfl) (pa_cons (pv 2) (pa_cons (pv 5) pa_nil))))
 (pss_cons (ps_if (pt_cmpR op_isN (pv 6) pe_non (nomark _))
  (pss_one (ps_ret (pe_tup (pa_cons pe_non (pa_cons pe_int (pa_cons pe_int pa_nil))))))
  pss_nil)
 (pss_cons (ps_set (i := 3) sc.nd rfl (Or.inl rfl) (pe_fn c_ahead (hr.mono (by decide)) (by rfl) (pa_cons (pe_ix ix_tup (pv 2) pe_int (fun _ _ => rfl)) (pa_cons (pv 5) (pa_cons (pv 3) pa_nil)))))
 (pss_cons (ps_set (i := 4) sc.nd rfl (Or.inl rfl) (pe_fn c_ahead (hr.mono (by decide)) (by rfl) (pa_cons (pe_ix ix_tup (pv 2) pe_int (fun _ _ => rfl)) (pa_cons (pv 5) (pa_cons (pv 4) pa_nil)))))
 (pss_one (ps_set (i := 2) sc.nd rfl (Or.inl rfl) (pv 6))))))))
 (pss_one (ps_ret (pe_tup (pa_cons (pv 2) (pa_cons (pv 3) (pa_cons (pv 4) pa_nil)))))))))), ?_⟩
  have htt : SqT K H t [u, .int (g.2.1 : Int), .int (g.2.2 : Int)] := SqT.of ht
  refine ⟨_, rfl, t, _, _, _, rfl, rfl, htt, rfl, _, rfl, t, _, _, _, rfl, rfl, htt, rfl, _, rfl, t, _, _, _, rfl, rfl, htt, rfl, ?_⟩
  refine ⟨_, rfl, wy, rfl, ⟨_, hw⟩, for_tup (K := K) (a := wy) (xs := ws.map V.int) (fun i σ H2 => ∃ (u' : V) (g' : G3) (v5 v6 : Option V), σ = [some (.ref t), some (.ref wy), some u', some (.int (g'.2.1 : Int)), some (.int (g'.2.2 : Int)), v5, v6] ∧ Same H H2 ∧ TreeAt H2 u' (growO (L - i) g'.1) ∧ GoodS (L - i) g' ∧ i ≤ ws.length ∧ ledS L ws g = ledS (L - i) (ws.drop i) g')
    ⟨u, g, none, none, rfl, Same.refl H, hu, hgood, Nat.zero_le _, rfl⟩ (fun i σ H2 _ ⟨_, _, _, _, _, s2, _⟩ => s2.seqT hw) ?_ ?_⟩
  · rintro i x σ H2 hi ⟨u', g', v5, v6, rfl, s2, hu', hg', hil, hled⟩
    obtain ⟨wv, hwv, rfl⟩ : ∃ t, ws[i]? = some t ∧ x = .int t := by
      rw [List.getElem?_map] at hi
      cases e : ws[i]? with
      | none => rw [e] at hi; cases hi
      | some m => rw [e] at hi; exact ⟨m, rfl, (Option.some.inj hi).symm⟩
    have hil2 : i < ws.length := (List.getElem?_eq_some_iff.mp hwv).1
    have hw01 := h01 wv (List.mem_of_getElem? hwv)
    obtain ⟨e, he⟩ : ∃ e, L - i = e + 1 := ⟨L - i - 1, by omega⟩
    have he2 : L - (i + 1) = e := by omega
    have hdr : ws.drop i = wv :: ws.drop (i + 1) := by
      obtain ⟨h1, h2⟩ := List.getElem?_eq_some_iff.mp hwv
      rw [List.drop_eq_getElem_cons h1, h2]
    rw [he] at hu' hg' hled
    rw [hdr, ledS_cons] at hled
    refine ⟨_, rfl, _, rfl, u', _, wv, rfl, hu', hw01, fun u2 hu2 => ?_⟩
    rw [growO_half hg'.1 hw01] at hu2
    refine ⟨_, rfl, rfl, _, rfl, ?_⟩
    refine ite2 (fun c => ?_) (fun c => ?_)
    · have c' : u2 = .non := of_decide_eq_true c
      subst c'
      have h0 := non_growO hu2
      rw [led1_none h0, ledS_nil] at hled
      refine ⟨szb rfl, fun p hp => q _ _ (s2.trans (same_new hp _)) ?_⟩
      rw [hled]
      exact ⟨p, .non, rfl, upd_same, by rw [growO_nil]; rfl⟩
    · have hne : g'.1 ≠ [] := fun z => c (by
        rw [z] at hu2
        have e0 : halfO e wv [] = [] := rfl
        rw [e0, growO_nil] at hu2
        exact decide_eq_true hu2)
      have hu3 := hu'
      rw [growO_succ hne] at hu3
      obtain ⟨a, m, x1, y1, rfl, ha, hm, _, _⟩ := hu3
      refine ⟨_, rfl, a, _, _, _, rfl, rfl, SqT.of ha, rfl, _, rfl, _, rfl, m, g'.1.map (mk0 e), wv, g'.2.1, rfl, hm, fun H3 s3 => ?_⟩
      refine ⟨_, rfl, a, _, _, _, rfl, rfl, SqT.of (s3 _ _ ha), rfl, _, rfl, _, rfl, m, g'.1.map (mk0 e), wv, g'.2.2, rfl, hm.same s3, fun H4 s4 => ?_⟩
      refine ⟨_, rfl, u2, led1 e wv g', _, _, rfl, s2.trans (s3.trans s4), ?_, ?_, by omega, ?_⟩
      · rw [he2]; exact (hu2.same s3).same s4
      · rw [he2]; exact led1_good hg'
      · rw [he2]; exact hled
  · rintro σ H2 ⟨u', g', v5, v6, rfl, s2, hu', hg', hil, hled⟩
    rw [List.length_map] at hu' hled
    rw [List.drop_length, ledS_empty] at hled
    refine ⟨_, rfl, _, rfl, _, rfl, szb rfl, fun p hp => q _ _ (s2.trans (same_new hp _)) ?_⟩
    rw [hled]
    exact ⟨p, u', rfl, upd_same, hu'.same (same_new hp _)⟩
theorem ok_led (d : Def K mg "led" s_led ["gathering", "way"]) (z : Bz mg) (c_led_stretch : Cal P w K mg base k_led_stretch "led_stretch" ["stretch", "way"] (sp_led_stretch K)) : Cal P w K mg base k_led "led" ["gathering", "way"] (sp_led K) := by
  have sc := sc_led
  refine d.cal fun f fd F => F.ok sc (fun vs H Q E h => ?_) (fun cdv A outer s H vs Q E hr h => ?_)
  · obtain ⟨ga, wy, xs, L, ws, gs, rfl, _⟩ := h
    rfl
  obtain ⟨ga, wy, xs, L, ws, gs, rfl, hga, hg, hgood, hl, hw, hwl, h01, q⟩ := h
  refine ⟨_, (pss_one (ps_ret (pe_comp (cl := [("way", s.heap.objs.size + 1 + 0)]) (cn := ["way"]) (N := ["way"]) (fr := [1]) (sc0 := defScope s_led) rfl (pi_list (pv 0)) (fun C s₂ H₂ fp => (pe_fn c_led_stretch (hr.mono (by decide)) (by rfl) (pa_cons (pv 0) (pa_cons (pv 1) pa_nil)))) (by with_unfolding_all rfl) ⟨by with_unfolding_all rfl, trivial⟩ rfl rfl rfl ⟨by decide +kernel, by decide +kernel, by decide +kernel, by decide +kernel, by decide +kernel, by decide +kernel, by decide +kernel⟩ rfl))), ?_⟩
  have hxl := hg.1
  refine ⟨_, rfl, ga, rfl, ⟨_, hga⟩, fun D hD => ?_⟩
  refine comp_listP (xs := xs) (sz (by omega)) (fun i ys H2 => H2 D = some (.lst ys) ∧ ys.length = i ∧ Same H H2 ∧ GatAt H2 (L - ws.length) ys ((gs.take i).map (ledS L ws))) ⟨upd_same, rfl, same_new hD _, by simp only [List.take_zero, List.map_nil]; exact GatAt.nil _ _⟩ (fun i ys H2 ⟨_, _, e, _⟩ => e.seq hga)
    (fun i ys H2 ⟨e1, e2, _, _⟩ => ⟨e1, e2⟩) ?_ ?_
  · rintro i x ys H2 hx ⟨e1, e2, s2, hg2⟩
    have hi : i < gs.length := by rw [← hxl]; exact (List.getElem?_eq_some_iff.mp hx).1
    have gi : gs[i]? = some gs[i] := List.getElem?_eq_getElem hi
    generalize gs[i] = g at gi
    refine ⟨_, rfl, _, rfl, x, wy, L, ws, g, rfl, (hg.2 i x g hx gi).tk (.same s2), hgood g (List.mem_of_getElem? gi), s2.seqT hw, hwl, h01, fun H3 v' s3 hv' => ?_⟩
    have e3 := s3 _ _ e1
    have tk : TKeep H3 (upd H3 D (.lst (ys ++ [v']))) := TKeep.set e3
    refine ⟨e3, upd_same, by rw [List.length_append, e2] <;> rfl, Same.own (s2.trans s3) hD, ?_⟩
    rw [List.take_add_one, gi, List.map_append]
    exact ((hg2.same s3).tk tk).snoc (hv'.tk tk)
  · rintro ys H2 ⟨e1, e2, s2, hg2⟩
    rw [hxl, List.take_length] at hg2
    exact q H2 D ys s2 e1 hD hg2
end

/-! ### rows and stretches drawn -/
def RowAt (H : Hp) (av : List Addr) (low : Int) (L : Nat) (x : V) (ns : List Int) : Prop := ∃ r, x = .ref r ∧ r ∉ av ∧ H r = some (.lst (ns.map V.int)) ∧ Wths low L ns ∧ ns.length ≤ 60
def RowsAt (H : Hp) (av : List Addr) (low : Int) (L : Nat) (xs : List V) (nss : List (List Int)) : Prop := xs.length = nss.length ∧ ∀ (j : Nat) (x : V) (ns : List Int), xs[j]? = some x → nss[j]? = some ns → RowAt H av low L x ns
theorem RowAt.keep {H H' : Hp} {av : List Addr} {low : Int} {L : Nat} {x : V} {ns : List Int} {p : Addr} (h : RowAt H av low L x ns) (k : Keep p H H') (hp : p ∈ av) : RowAt H' av low L x ns := by
  obtain ⟨r, e, n, h1, h2⟩ := h
  exact ⟨r, e, n, k _ _ (fun z => n (z ▸ hp)) h1, h2⟩
theorem RowAt.same {H H' : Hp} {av : List Addr} {low : Int} {L : Nat} {x : V} {ns : List Int} (h : RowAt H av low L x ns) (s : Same H H') : RowAt H' av low L x ns := by
  obtain ⟨r, e, n, h1, h2⟩ := h
  exact ⟨r, e, n, s _ _ h1, h2⟩
theorem RowAt.upd {H : Hp} {av : List Addr} {low : Int} {L : Nat} {x : V} {ns : List Int} {p : Addr} {o : HO} (h : RowAt H av low L x ns) (hp : p ∈ av) : RowAt (upd H p o) av low L x ns := h.keep (Keep.set p H o) hp
theorem RowAt.weak {H : Hp} {av av' : List Addr} {low : Int} {L : Nat} {x : V} {ns : List Int} (h : RowAt H av low L x ns) (hs : ∀ a ∈ av', a ∈ av) : RowAt H av' low L x ns := by
  obtain ⟨r, e, n, h1, h2⟩ := h
  exact ⟨r, e, fun z => n (hs r z), h1, h2⟩
theorem RowAt.more {H : Hp} {av : List Addr} {low : Int} {L : Nat} {x : V} {ns : List Int} {p : Addr} (h : RowAt H av low L x ns) (hp : H p = none) : RowAt H (p :: av) low L x ns := by
  obtain ⟨r, e, n, h1, h2⟩ := h
  refine ⟨r, e, fun z => ?_, h1, h2⟩
  rcases List.mem_cons.mp z with z | z
  · rw [z, hp] at h1; cases h1
  · exact n z
theorem RowsAt.map {H H' : Hp} {av av' : List Addr} {low : Int} {L : Nat} {xs : List V} {nss : List (List Int)} (h : RowsAt H av low L xs nss) (f : ∀ x ns, RowAt H av low L x ns → RowAt H' av' low L x ns) : RowsAt H' av' low L xs nss := ⟨h.1, fun j x ns h1 h2 => f x ns (h.2 j x ns h1 h2)⟩
theorem RowsAt.snoc {H : Hp} {av : List Addr} {low : Int} {L : Nat} {xs : List V} {nss : List (List Int)} {x : V} {ns : List Int} (h : RowsAt H av low L xs nss) (hx : RowAt H av low L x ns) : RowsAt H av low L (xs ++ [x]) (nss ++ [ns]) := by
  refine ⟨by rw [List.length_append, List.length_append, h.1] <;> rfl, fun j y k h1 h2 => ?_⟩
  have hl := h.1
  rcases snoc_get h1 with ⟨a1, a2⟩ | ⟨a1, a2⟩
  · rcases snoc_get h2 with ⟨b1, b2⟩ | ⟨b1, b2⟩
    · exact h.2 j y k a2 b2
    · omega
  · rcases snoc_get h2 with ⟨b1, b2⟩ | ⟨b1, b2⟩
    · omega
    · rw [a2, b2]; exact hx
abbrev T3 := Nat × Nat × Nat
def TAt (H : Hp) (x : V) (t : T3) : Prop := ∃ p, x = .ref p ∧ H p = some (.tup [.int (t.1 : Int), .int (t.2.1 : Int), .int (t.2.2 : Int)])
def TsAt (H : Hp) (xs : List V) (ts : List T3) : Prop := xs.length = ts.length ∧ ∀ (j : Nat) (x : V) (t : T3), xs[j]? = some x → ts[j]? = some t → TAt H x t
theorem TAt.tk {H H' : Hp} {x : V} {t : T3} (h : TAt H x t) (k : TKeep H H') : TAt H' x t := by
  obtain ⟨p, e, h⟩ := h
  exact ⟨p, e, (k _ _).1 h⟩
theorem TsAt.tk {H H' : Hp} {xs : List V} {ts : List T3} (h : TsAt H xs ts) (k : TKeep H H') : TsAt H' xs ts := ⟨h.1, fun j x t h1 h2 => (h.2 j x t h1 h2).tk k⟩
theorem TsAt.snoc {H : Hp} {xs : List V} {ts : List T3} {x : V} {t : T3} (h : TsAt H xs ts) (hx : TAt H x t) : TsAt H (xs ++ [x]) (ts ++ [t]) := by
  refine ⟨by rw [List.length_append, List.length_append, h.1] <;> rfl, fun j y k h1 h2 => ?_⟩
  have hl := h.1
  rcases snoc_get h1 with ⟨a1, a2⟩ | ⟨a1, a2⟩
  · rcases snoc_get h2 with ⟨b1, b2⟩ | ⟨b1, b2⟩
    · exact h.2 j y k a2 b2
    · omega
  · rcases snoc_get h2 with ⟨b1, b2⟩ | ⟨b1, b2⟩
    · omega
    · rw [a2, b2]; exact hx
def TsOk (nss : List (List Int)) (ts : List T3) : Prop := ∀ t ∈ ts, ∃ ns, nss[t.1]? = some ns ∧ t.2.1 ≤ t.2.2 ∧ t.2.2 ≤ ns.length
abbrev k__law_drawn : Nat := 3
def sp__law_drawn (_ : PySem.W.Frag) : Sp := fun vs H Q _ => ∃ (pen : Addr) (lg : Int), vs = [.ref pen, .int lg] ∧ PenN H pen ∧ 0 ≤ lg ∧ lg ≤ 60 ∧
  ∀ (t b ra sa : Addr) (low : Int) (L : Nat) (xs ys : List V) (nss : List (List Int)) (ts : List T3) (H' : Hp), Keep pen H H' → PenN H' pen → H' t = some (.tup [.ref b, .ref ra, .ref sa]) → H' b = some (.tup [.int low, .int (L : Int)]) → L ≤ 40 →
    H' ra = some (.lst xs) → ra ≠ pen → RowsAt H' [pen] low L xs nss → 0 < nss.length → nss.length ≤ 3 → H' sa = some (.lst ys) → sa ≠ pen → TsAt H' ys ts → TsOk nss ts → ts.length ≤ 7 → Q (.ref t) H'
section
variable {P : Program} {w : World} {K : PySem.W.Frag} {mg : Str → Option Value} {base : Heap}
theorem ok__law_drawn (d : Def K mg "_law_drawn" s__law_drawn ["_law_pen_here", "_law_long"]) (z : Bz mg) (c__law_bounds : Cal P w K mg base k__law_bounds "_law_bounds" ["_law_pen_here"] (sp__law_bounds K)) (c__law_numbers : Cal P w K mg base k__law_numbers "_law_numbers" ["_law_pen_here", "_law_bounds_here", "_law_long"] (sp__law_numbers K)) (c__law_take : Cal P w K mg base k__law_take "_law_take" ["_law_pen_here", "_law_size"] (sp__law_take K)) : Cal P w K mg base k__law_drawn "_law_drawn" ["_law_pen_here", "_law_long"] (sp__law_drawn K) := by
  have sc := sc__law_drawn
  refine d.cal fun f fd F => F.ok sc (fun vs H Q E h => ?_) (fun cdv A outer s H vs Q E hr h => ?_)
  · obtain ⟨pen, lg, rfl, _⟩ := h
    rfl
  obtain ⟨pen, lg, rfl, P0, lg0, lg1, q⟩ := h
  refine ⟨_, (pss_cons (ps_set (i := 2) sc.nd rfl (Or.inr rfl) (pe_fn c__law_bounds (hr.mono (by decide)) (by rfl) (pa_cons (pv 0) pa_nil)))
 (pss_cons (ps_setComp (i := 3) (cl := [("_law_pen_here", s.heap.objs.size + 1 + 0), ("_law_long", s.heap.objs.size + 1 + 1), ("_law_bounds_here", s.heap.objs.size + 1 + 2)]) (cn := ["_law_pen_here", "_law_long", "_law_bounds_here"]) (N := ["_law_bounds_here", "_law_long", "_law_pen_here"]) (fr := [2, 1, 0]) (sc0 := defScope s__law_drawn) sc.nd rfl (Or.inl rfl) rfl (pi_range1 rfl z.range_ (pa_cons (pe_op op_add pe_int (pe_fn c__law_take (hr.mono (by decide)) (by rfl) (pa_cons (pv 0) (pa_cons pe_int pa_nil)))) pa_nil)) (fun C s₂ H₂ fp => (pe_fn c__law_numbers (hr.mono (by decide)) (by rfl) (pa_cons (pv 3) (pa_cons (pv 1) (pa_cons (pe_ix (ix_listK (K := K) rfl) (pe_lst (pa_cons pe_int (pa_cons pe_int (pa_cons pe_int (pa_cons (pv 2) pa_nil))))) (pe_fn c__law_take (hr.mono (by decide)) (by rfl) (pa_cons (pv 3) (pa_cons pe_int pa_nil))) (fun _ _ => rfl)) pa_nil))))) (by with_unfolding_all rfl) ⟨by with_unfolding_all rfl, by with_unfolding_all rfl, by with_unfolding_all rfl, trivial⟩ rfl rfl rfl ⟨by decide +kernel, by decide +kernel, by decide +kernel, by decide +kernel, by decide +kernel, by decide +kernel, by decide +kernel⟩ rfl (by with_unfolding_all rfl) (.inl rfl))
 (pss_cons (ps_set (i := 4) sc.nd rfl (Or.inl rfl) (pe_lst pa_nil))
 (pss_cons (ps_for PassesOwn.never rfl (pi_range1 rfl z.range_ (pa_cons (pe_op op_add pe_int (pe_op op_mul (pe_fn c__law_take (hr.mono (by decide)) (by rfl) (pa_cons (pv 0) (pa_cons pe_int pa_nil))) (pe_op op_add pe_int (pe_fn c__law_take (hr.mono (by decide)) (by rfl) (pa_cons (pv 0) (pa_cons pe_int pa_nil)))))) pa_nil)) (pg_name (i := 5) sc.nd rfl (Or.inl rfl))
  (pss_cons (ps_set (i := 6) sc.nd rfl (Or.inl rfl) (pe_fn c__law_take (hr.mono (by decide)) (by rfl) (pa_cons (pv 0) (pa_cons (pe_callB call_len_seq (by rfl) z.len_ bt_len (pa_cons (pv 3) pa_nil)) pa_nil))))
 (pss_cons (ps_set (i := 7) sc.nd rfl (Or.inl rfl) (pe_fn c__law_take (hr.mono (by decide)) (by rfl) (pa_cons (pv 0) (pa_cons (pe_op op_add (pe_callB call_len_seq (by rfl) z.len_ bt_len (pa_cons (pe_ix ix_list (pv 3) (pv 6) (fun _ _ => rfl)) pa_nil)) pe_int) pa_nil))))
 (pss_cons (ps_set (i := 8) sc.nd rfl (Or.inl rfl) (pe_op op_add (pv 7) (pe_fn c__law_take (hr.mono (by decide)) (by rfl) (pa_cons (pv 0) (pa_cons (pe_op op_sub (pe_op op_add (pe_callB call_len_seq (by rfl) z.len_ bt_len (pa_cons (pe_ix ix_list (pv 3) (pv 6) (fun _ _ => rfl)) pa_nil)) pe_int) (pv 7)) pa_nil)))))
 (pss_cons (ps_if (pt_cmpR op_eq (pe_fn c__law_take (hr.mono (by decide)) (by rfl) (pa_cons (pv 0) (pa_cons pe_int pa_nil))) pe_int (nomark _))
  (pss_one (ps_par (i := 7) (j := 8) rfl sc.nd rfl rfl (by decide) rfl rfl (pa_cons pe_int (pa_cons (pe_callB call_len_seq (by rfl) z.len_ bt_len (pa_cons (pe_ix ix_list (pv 3) (pv 6) (fun _ _ => rfl)) pa_nil)) pa_nil)) (by with_unfolding_all rfl)))
  pss_nil)
 (pss_one (ps_expr (pe_bm PySem.F.plainAttrs_list PySem.F.slot_list_append PySem.F.type_list_append mt_append (pv 4) (pa_cons (pe_tup (pa_cons (pv 6) (pa_cons (pv 7) (pa_cons (pv 8) pa_nil)))) pa_nil)))))))))
 (pss_one (ps_ret (pe_tup (pa_cons (pv 2) (pa_cons (pv 3) (pa_cons (pv 4) pa_nil)))))))))), ?_⟩
  refine ⟨_, rfl, pen, rfl, P0, fun b low L H1 k1 P1 hb1 hL => ?_⟩
  refine ⟨_, rfl, pen, 3, rfl, P1, by decide, by decide, fun c H2 k2 P2 c0 c1 => ⟨_, _, rfl, rfl, 1 + c, rfl, by omega, by omega, fun D hD => ?_⟩⟩
  have k02 : Keep pen H H2 := k1.trans k2
  have hD0 : H D = none := P2.free k02 hD
  have hDp : D ≠ pen := P2.fresh hD
  have hb2 := k2 _ _ (P1.ne hb1) hb1
  refine comp_range (n := (1 + c).toNat) (sz (by omega)) (fun j ys H6 => ∃ nss : List (List Int), nss.length = j ∧ H6 D = some (.lst ys) ∧ RowsAt H6 [pen, D] low L ys nss ∧ Keep pen H H6 ∧ PenN H6 pen ∧ H6 b = some (.tup [.int low, .int (L : Int)]))
    ⟨[], rfl, upd_same, ⟨rfl, fun j x ns h1 _ => by simp at h1⟩, k02.own hD0, P2.new hD _, same_new hD _ _ _ hb2⟩ (fun j ys H6 ⟨nss, e1, e2, e3, _⟩ => ⟨e2, by rw [e3.1]; exact e1⟩) ?_ ?_
  · rintro j ys H6 hj ⟨nss, e1, e2, e3, k6, P6, hb6⟩
    refine ⟨_, rfl, _, rfl, _, rfl, szb rfl, fun lp hlp => ?_⟩
    refine ⟨_, rfl, pen, 4, rfl, P6.new hlp _, by decide, by decide, fun u H7 k7 P7 a7 b7 => ?_⟩
    obtain ⟨g, hm, hv⟩ := atI_ints (l := [12, 12, 4, lg]) a7 b7
    have hg : 0 ≤ g ∧ g ≤ 60 := by
      simp only [List.mem_cons, List.not_mem_nil, or_false] at hm
      omega
    have k67 : Keep pen H6 H7 := (Keep.new hlp _).trans k7
    have hb7 := k67 _ _ (P6.ne hb6) hb6
    refine ⟨lp, _, _, _, rfl, rfl, SqL.of (k7 _ _ (P6.fresh hlp) upd_same), hv, pen, b, low, g, L, rfl, P7, hb7, hL, hg.1, by omega, fun r ns H8 k8 P8 hr8 hr0 hrl hw8 => ?_⟩
    have k68 := k67.trans k8
    have e28 := k68 _ _ hDp e2
    have hrD : r ≠ D := fun z => by rw [z, k67 _ _ hDp e2] at hr0; cases hr0
    have hrp : r ≠ pen := P7.fresh hr0
    refine ⟨e28, nss ++ [ns], by rw [List.length_append, e1] <;> rfl, upd_same, ?_, (k6.trans k68).own hD0, P8.other hDp _, (TKeep.set e28 _ _).1 (k8 _ _ (P7.ne hb7) hb7)⟩
    refine (e3.map fun x ns h => ((h.keep k68 (by simp)).upd (by simp))).snoc ⟨r, rfl, by simp [hrD, hrp], ?_, hw8, by omega⟩
    rw [upd_ne hrD]
    exact hr8
  · rintro xs H6 ⟨nss, e1, hD6, e3, k6, P6, hb6⟩
    have hnl : 0 < nss.length ∧ nss.length ≤ 3 := by omega
    refine ⟨szb rfl, fun sa hsa => ?_⟩
    have hsa0 : H sa = none := P6.free k6 hsa
    have hsp : sa ≠ pen := P6.fresh hsa
    have hsD : sa ≠ D := fun z => by rw [z, hD6] at hsa; cases hsa
    have s7 : Same H6 (upd H6 sa (.lst [])) := same_new hsa _
    have R7 : RowsAt (upd H6 sa (.lst [])) [pen, sa] low L xs nss := e3.map fun x ns h => ((h.more hsa).same s7).weak (by simp)
    have P7 := P6.same s7
    have hD7 := s7 _ _ hD6
    have hb7 := s7 _ _ hb6
    have k7 : Keep pen H (upd H6 sa (.lst [])) := k6.own hsa0
    have hs7 : upd H6 sa (.lst []) sa = some (.lst []) := upd_same
    generalize upd H6 sa (.lst []) = H7 at *
    refine ⟨_, rfl, pen, 4, rfl, P7, by decide, by decide, fun u1 H8 k8 P8 a8 b8 => ⟨_, rfl, pen, 2, rfl, P8, by decide, by decide, fun u2 H9 k9 P9 a9 b9 => ?_⟩⟩
    have hmul : 0 ≤ u1 * (1 + u2) ∧ u1 * (1 + u2) ≤ 6 := by
      have h1 : u2 = 0 ∨ u2 = 1 := by omega
      rcases h1 with h1 | h1
      · rw [h1]; omega
      · rw [h1]; omega
    have k79 := k8.trans k9
    refine ⟨_, _, rfl, rfl, _, _, rfl, rfl, .inl ⟨by omega, by omega⟩, _, _, rfl, rfl, 1 + u1 * (1 + u2), rfl, by omega, by omega, for_range (n := (1 + u1 * (1 + u2)).toNat) (fun i σ H10 => ∃ (ys : List V) (ts : List T3) (v5 v6 v7 v8 : Option V), σ = [some (.ref pen), some (.int lg), some (.ref b), some (.ref D), some (.ref sa), v5, v6, v7, v8] ∧
      H10 sa = some (.lst ys) ∧ TsAt H10 ys ts ∧ TsOk nss ts ∧ ts.length = i ∧ Keep pen H H10 ∧ PenN H10 pen ∧ H10 b = some (.tup [.int low, .int (L : Int)]) ∧ H10 D = some (.lst xs) ∧ RowsAt H10 [pen, sa] low L xs nss)
      ⟨[], [], _, _, _, _, rfl, k79 _ _ hsp hs7, ⟨rfl, fun j x t h1 _ => by simp at h1⟩, fun t ht => absurd ht (by simp), rfl, k7.trans k79, P9, k79 _ _ (P7.ne hb7) hb7, k79 _ _ hDp hD7, R7.map fun x ns h => h.keep k79 (by simp)⟩ ?_ ?_⟩
    · rintro i σ H10 hi ⟨ys, ts, v5, v6, v7, v8, rfl, hs10, hT10, hok, hlen, k10, P10, hb10, hD10, R10⟩
      refine ⟨_, rfl, _, rfl, D, _, rfl, .inl (SqL.of hD10), pen, _, rfl, P10, by rw [R10.1]; omega, by rw [R10.1]; omega, fun wv H11 k11 P11 a11 b11 => ?_⟩
      rw [R10.1] at b11
      obtain ⟨W, rfl⟩ := Int.eq_ofNat_of_zero_le a11
      have hW : W < nss.length := by omega
      have gW : nss[W]? = some nss[W] := List.getElem?_eq_getElem hW
      generalize nss[W] = ns at gW
      have hWx : W < xs.length := by rw [R10.1]; exact hW
      have gx : xs[W]? = some xs[W] := List.getElem?_eq_getElem hWx
      obtain ⟨r, hxr, hrav, hr10, hwr, hrl⟩ := R10.2 W _ ns gx gW
      rw [hxr] at gx
      have hrp : r ≠ pen := fun z => hrav (by rw [z]; simp)
      have hat : atI xs (W : Int) = some (.ref r) := atI_nat gx
      have hlm : (ns.map V.int).length = ns.length := List.length_map _
      have hD11 := k11 _ _ hDp hD10
      have hr11 := k11 _ _ hrp hr10
      refine ⟨_, rfl, _, rfl, _, rfl, D, _, _, _, rfl, rfl, SqL.of hD11, hat, r, _, rfl, .inl (SqL.of hr11), _, _, rfl, rfl, pen, _, rfl, P11, by omega, by omega, fun sv H12 k12 P12 a12 b12 => ?_⟩
      obtain ⟨S, rfl⟩ := Int.eq_ofNat_of_zero_le a12
      have hD12 := k12 _ _ hDp hD11
      have hr12 := k12 _ _ hrp hr11
      refine ⟨_, rfl, _, rfl, _, rfl, _, rfl, D, _, _, _, rfl, rfl, SqL.of hD12, hat, r, _, rfl, .inl (SqL.of hr12), _, _, rfl, rfl, _, rfl, _, _, rfl, rfl, pen, _, rfl, P12, by omega, by omega, fun ev H13 k13 P13 a13 b13 => ⟨_, _, rfl, rfl, ?_⟩⟩
      obtain ⟨E2, rfl⟩ := Int.eq_ofNat_of_zero_le a13
      refine ⟨_, rfl, pen, 3, rfl, P13, by decide, by decide, fun u4 H14 k14 P14 a14 b14 => ⟨rfl, _, rfl, ?_⟩⟩
      have k1014 : Keep pen H10 H14 := k11.trans (k12.trans (k13.trans k14))
      have tk : TKeep H10 H14 := P10.tk k1014
      have hD14 := k1014 _ _ hDp hD10
      have hr14 := k1014 _ _ hrp hr10
      have hs14 := k1014 _ _ hsp hs10
      have hT14 := hT10.tk tk
      have hb14 := (tk _ _).1 hb10
      have R14 : RowsAt H14 [pen, sa] low L xs nss := R10.map fun x ns h => h.keep k1014 (by simp)
      have fin : ∀ (S E : Nat), S ≤ E → E ≤ ns.length → ∀ p, H14 p = none → ys.length < sizeLine ∧ (upd H14 p (.tup [.int (W : Int), .int (S : Int), .int (E : Int)])) sa = some (.lst ys) ∧
          let H16 := upd (upd H14 p (.tup [.int (W : Int), .int (S : Int), .int (E : Int)])) sa (.lst (ys ++ [.ref p]))
          H16 sa = some (.lst (ys ++ [.ref p])) ∧ TsAt H16 (ys ++ [.ref p]) (ts ++ [(W, S, E)]) ∧ TsOk nss (ts ++ [(W, S, E)]) ∧ (ts ++ [(W, S, E)]).length = i + 1 ∧ Keep pen H H16 ∧ PenN H16 pen ∧ H16 b = some (.tup [.int low, .int (L : Int)]) ∧ H16 D = some (.lst xs) ∧ RowsAt H16 [pen, sa] low L xs nss := by
        intro S E hSE hE p hp
        have s15 : Same H14 (upd H14 p (.tup [.int (W : Int), .int (S : Int), .int (E : Int)])) := same_new hp _
        have hs15 := s15 _ _ hs14
        have t16 : TKeep (upd H14 p (.tup [.int (W : Int), .int (S : Int), .int (E : Int)])) (upd (upd H14 p (.tup [.int (W : Int), .int (S : Int), .int (E : Int)])) sa (.lst (ys ++ [.ref p]))) := TKeep.set hs15
        have hpt : upd H14 p (.tup [.int (W : Int), .int (S : Int), .int (E : Int)]) p = some (.tup [.int (W : Int), .int (S : Int), .int (E : Int)]) := upd_same
        refine ⟨by rw [hT14.1, hlen]; exact small1000 (by omega), hs15, upd_same, ((hT14.tk (.same s15)).tk t16).snoc ⟨p, rfl, (t16 _ _).1 hpt⟩, fun t ht => ?_, by rw [List.length_append, hlen] <;> rfl, ((k10.trans k1014).trans (Keep.same s15)).own hsa0, (P14.same s15).other hsp _, (t16 _ _).1 (s15 _ _ hb14), by rw [upd_ne (Ne.symm hsD)]; exact s15 _ _ hD14, R14.map fun x ns h => (h.same s15).upd (by simp)⟩
        rcases List.mem_append.mp ht with h' | h'
        · exact hok t h'
        · cases List.mem_singleton.mp h'
          exact ⟨ns, gW, hSE, hE⟩
      refine ite2 (fun _ => ?_) (fun _ => ?_)
      · refine ⟨_, rfl, _, rfl, D, _, _, _, rfl, rfl, SqL.of hD14, hat, r, _, rfl, .inl (SqL.of hr14), _, _, rfl, ?_⟩
        refine ⟨_, rfl, .inl ⟨rfl, _, SqL.of hs14⟩, _, rfl, _, rfl, _, rfl, szb rfl, fun p hp => ?_⟩
        obtain ⟨f0, f1, f2, f3, f4, f5, f6, f7, f8, f9, f10⟩ := fin 0 (ns.map V.int).length (Nat.zero_le _) (by omega) p hp
        exact ⟨sa, _, _, rfl, rfl, f1, f0, _, _, _, _, _, _, rfl, f2, f3, f4, f5, f6, f7, f8, f9, f10⟩
      · refine ⟨_, rfl, .inl ⟨rfl, _, SqL.of hs14⟩, _, rfl, _, rfl, _, rfl, szb rfl, fun p hp => ?_⟩
        obtain ⟨f0, f1, f2, f3, f4, f5, f6, f7, f8, f9, f10⟩ := fin S (S + E2) (Nat.le_add_right _ _) (by omega) p hp
        exact ⟨sa, _, _, rfl, rfl, f1, f0, _, _, _, _, _, _, rfl, f2, f3, f4, f5, f6, f7, f8, f9, f10⟩
    · rintro σ H10 ⟨ys, ts, v5, v6, v7, v8, rfl, hs10, hT10, hok, hlen, k10, P10, hb10, hD10, R10⟩
      refine ⟨_, rfl, _, rfl, _, rfl, szb rfl, fun t ht => ?_⟩
      have s11 : Same H10 (upd H10 t (.tup [.ref b, .ref D, .ref sa])) := same_new ht _
      exact q t b D sa low L xs ys nss ts _ (k10.trans (Keep.same s11)) (P10.same s11) upd_same (s11 _ _ hb10) hL (s11 _ _ hD10) hDp (R10.map fun x ns h => (h.same s11).weak (by simp)) hnl.1 hnl.2 (s11 _ _ hs10) hsp (hT10.tk (.same s11)) hok (by omega)
end

/-! ### a gathering made -/
def gOf (low : Int) (nss : List (List Int)) (t : T3) : G3 := (((nss[t.1]?).getD []).map fun n => n - low, t.2.1, t.2.2)
theorem gOf_good {av : List Addr} {H : Hp} {low : Int} {L : Nat} {xs : List V} {nss : List (List Int)} {ts : List T3} (hR : RowsAt H av low L xs nss) (hok : TsOk nss ts) : ∀ g ∈ ts.map (gOf low nss), GoodS L g := fun g hg => by
  obtain ⟨t, ht, rfl⟩ := List.mem_map.mp hg
  obtain ⟨ns, h1, h2, h3⟩ := hok t ht
  have hj : t.1 < xs.length := by rw [hR.1]; exact (List.getElem?_eq_some_iff.mp h1).1
  obtain ⟨r, _, _, _, hw, hl⟩ := hR.2 t.1 _ ns (List.getElem?_eq_getElem hj) h1
  unfold gOf
  rw [h1, Option.getD_some]
  refine ⟨fun o ho => ?_, h2, by rw [List.length_map]; exact h3, by rw [List.length_map]; omega⟩
  obtain ⟨x, hx, rfl⟩ := List.mem_map.mp ho
  have := hw x hx
  omega
abbrev k__law_gathering : Nat := 43
def sp__law_gathering (K : PySem.W.Frag) : Sp := fun vs H Q _ => ∃ (b ra sa : Addr) (av : List Addr) (low : Int) (L : Nat) (xs ys : List V) (nss : List (List Int)) (ts : List T3), vs = [.ref b, .ref ra, .ref sa] ∧ SqT K H b [.int low, .int (L : Int)] ∧ L ≤ 40 ∧
  SqL K H ra xs ∧ RowsAt H av low L xs nss ∧ nss.length ≤ 1000 ∧ SqL K H sa ys ∧ TsAt H ys ts ∧ TsOk nss ts ∧ ts.length ≤ 1000 ∧
  ∀ (H' : Hp) (ga : Addr) (zs : List V), Same H H' → H' ga = some (.lst zs) → H ga = none → GatAt H' L zs (ts.map (gOf low nss)) → Q (.ref ga) H'
section
variable {P : Program} {w : World} {K : PySem.W.Frag} {mg : Str → Option Value} {base : Heap}
theorem ok__law_gathering (d : Def K mg "_law_gathering" s__law_gathering ["_law_bounds_here", "_law_rows", "_law_some"]) (z : Bz mg) (c__law_tree : Cal P w K mg base k__law_tree "_law_tree" ["_law_bounds_here", "_law_row"] (sp__law_tree K)) : Cal P w K mg base k__law_gathering "_law_gathering" ["_law_bounds_here", "_law_rows", "_law_some"] (sp__law_gathering K) := by
  have sc := sc__law_gathering
  refine d.cal fun f fd F => F.ok sc (fun vs H Q E h => ?_) (fun cdv A outer s H vs Q E hr h => ?_)
  · obtain ⟨b, ra, sa, av, low, L, xs, ys, nss, ts, rfl, _⟩ := h
    rfl
  obtain ⟨b, ra, sa, av, low, L, xs, ys, nss, ts, rfl, hb, hL, hra, hR, hnl, hsa, hT, hok, htl, q⟩ := h
  refine ⟨_, (pss_cons (ps_set (i := 3) sc.nd rfl (Or.inr rfl) (pe_comp (cl := [("_law_bounds_here", s.heap.objs.size + 1 + 0)]) (cn := ["_law_bounds_here"]) (N := ["_law_bounds_here"]) (fr := [0]) (sc0 := defScope s__law_gathering) rfl (pi_list (pv 1)) (fun C s₂ H₂ fp => (pe_fn c__law_tree (hr.mono (by decide)) (by rfl) (pa_cons (pv 1) (pa_cons (pv 0) pa_nil)))) (by with_unfolding_all rfl) ⟨by with_unfolding_all rfl, trivial⟩ rfl rfl rfl ⟨by decide +kernel, by decide +kernel, by decide +kernel, by decide +kernel, by decide +kernel, by decide +kernel, by decide +kernel⟩ rfl))
 (pss_one (ps_ret (pe_compG (x := "_law_which") (cl := [("_law_trees", s.heap.objs.size + 1 + 1)]) (cn := ["_law_trees"]) (TN := ["_law_start", "_law_end"]) (N := ["_law_trees"]) (fr := [3]) (sc0 := defScope s__law_gathering) rfl (pi_list (pv 2)) (fun C s₂ H₂ fp => (pe_tup (pa_cons (pe_ix (ix_listK (K := K) rfl) (pv 3) (pv 0) (fun _ _ => rfl)) (pa_cons (pv 1) (pa_cons (pv 2) pa_nil))))) (fun C s₂ H₂ fp => pts_nil) (fun C s₂ H₂ fp => (pg_tupK (K := K) (n := 3) rfl rfl (pgs_cons (pg_name (i := 0) (show (["_law_which", "_law_start", "_law_end", "_law_trees"] : List Str).Nodup by decide +kernel) rfl (Or.inl rfl)) (pgs_cons (pg_name (i := 1) (show (["_law_which", "_law_start", "_law_end", "_law_trees"] : List Str).Nodup by decide +kernel) rfl (Or.inl rfl)) (pgs_cons (pg_name (i := 2) (show (["_law_which", "_law_start", "_law_end", "_law_trees"] : List Str).Nodup by decide +kernel) rfl (Or.inl rfl)) pgs_nil))))) (by with_unfolding_all rfl) ⟨by with_unfolding_all rfl, trivial⟩ rfl rfl rfl ⟨by decide +kernel, by decide +kernel, by decide +kernel, by decide +kernel⟩ rfl)))), ?_⟩
  have hxl := hR.1
  refine ⟨_, rfl, ra, rfl, ⟨_, hra⟩, fun D hD => ?_⟩
  refine comp_listP (xs := xs) (sz (by omega)) (fun i vs H2 => H2 D = some (.lst vs) ∧ vs.length = i ∧ Same H H2 ∧ ∀ (j : Nat) (v : V) (ns : List Int), vs[j]? = some v → nss[j]? = some ns → TreeAt H2 v (growO L (ns.map fun n => n - low))) ⟨upd_same, rfl, same_new hD _, fun j v ns h1 _ => by simp at h1⟩ (fun i vs H2 ⟨_, _, e, _⟩ => e.seq hra)
    (fun i vs H2 ⟨e1, e2, _, _⟩ => ⟨e1, e2⟩) ?_ ?_
  · rintro i x vs H2 hx ⟨e1, e2, s2, ht2⟩
    have hi : i < nss.length := by rw [← hxl]; exact (List.getElem?_eq_some_iff.mp hx).1
    have gi : nss[i]? = some nss[i] := List.getElem?_eq_getElem hi
    generalize nss[i] = ns at gi
    obtain ⟨r, rfl, _, hr2, hw2, hl2⟩ := hR.2 i x ns hx gi
    refine ⟨_, rfl, _, rfl, b, r, low, L, ns, rfl, s2.seqT hb, hL, SqL.of (s2 _ _ hr2), by omega, fun H3 v s3 hv => ?_⟩
    have e3 := s3 _ _ e1
    have tk : TKeep H3 (upd H3 D (.lst (vs ++ [v]))) := TKeep.set e3
    refine ⟨e3, upd_same, by rw [List.length_append, e2] <;> rfl, Same.own (s2.trans s3) hD, fun j y k h1 h2 => ?_⟩
    rcases snoc_get h1 with ⟨a1, a2⟩ | ⟨a1, a2⟩
    · exact ((ht2 j y k a2 h2).same s3).tk tk
    · rw [a1, e2, gi] at h2
      cases h2
      rw [a2]
      exact hv.tk tk
  · rintro vs H2 ⟨hD2, e2, s2, ht2⟩
    have hsa2 := s2.seq hsa
    have hT2 := hT.tk (.same s2)
    refine ⟨_, rfl, sa, rfl, ⟨_, hsa2⟩, fun D2 hDn => ?_⟩
    refine compG_list (xs := ys) (sz (by rw [hT.1]; exact htl)) (fun i zs H3 => H3 D2 = some (.lst zs) ∧ zs.length = i ∧ Same H2 H3 ∧ GatAt H3 L zs ((ts.take i).map (gOf low nss))) ⟨upd_same, rfl, same_new hDn _, by simp only [List.take_zero, List.map_nil]; exact GatAt.nil _ _⟩ (fun i zs H3 ⟨_, _, e, _⟩ => e.seq hsa2)
      (fun i zs H3 ⟨e1, e2, _, _⟩ => ⟨e1, Nat.le_of_eq e2⟩) ?_ ?_
    · rintro i x zs H3 hx ⟨e1, e3, s3, hg3⟩ vs3 hvs3
      have hi : i < ts.length := by rw [← hT.1]; exact (List.getElem?_eq_some_iff.mp hx).1
      have gi : ts[i]? = some ts[i] := List.getElem?_eq_getElem hi
      generalize ts[i] = t at gi
      obtain ⟨p, rfl, hp⟩ := (hT2.2 i x t hx gi).tk (.same s3)
      obtain ⟨ns, n1, n2, n3⟩ := hok t (List.mem_of_getElem? gi)
      have hj : t.1 < vs.length := by rw [e2, hxl]; exact (List.getElem?_eq_some_iff.mp n1).1
      have gv : vs[t.1]? = some vs[t.1] := List.getElem?_eq_getElem hj
      generalize vs[t.1] = tv at gv
      have htv := (ht2 t.1 tv ns gv n1).same s3
      match vs3, hvs3 with
      | [x0, x1, x2], _ =>
        refine ⟨p, _, rfl, SqT.of hp, rfl, _, _, rfl, _, _, rfl, _, _, rfl, rfl, ⟨[_, _, _], rfl, rfl⟩, iteT ?_⟩
        refine ⟨_, rfl, _, rfl, D, _, _, _, rfl, rfl, SqL.of (s3 _ _ hD2), atI_nat gv, _, rfl, _, rfl, szb rfl, fun p2 hp2 => ?_⟩
        have s4 : Same H3 (upd H3 p2 (.tup [tv, .int (t.2.1 : Int), .int (t.2.2 : Int)])) := same_new hp2 _
        have e4 := s4 _ _ e1
        have tk : TKeep (upd H3 p2 (.tup [tv, .int (t.2.1 : Int), .int (t.2.2 : Int)])) (upd (upd H3 p2 (.tup [tv, .int (t.2.1 : Int), .int (t.2.2 : Int)])) D2 (.lst (zs ++ [.ref p2]))) := TKeep.set e4
        refine ⟨e4, upd_same, by rw [List.length_append, e3] <;> rfl, Same.own (s3.trans s4) hDn, ?_⟩
        rw [List.take_add_one, gi, List.map_append]
        refine ((hg3.same s4).tk tk).snoc ?_
        have eg : gOf low nss t = (ns.map fun n => n - low, t.2.1, t.2.2) := by unfold gOf; rw [n1, Option.getD_some]
        show StrAt _ L (.ref p2) (gOf low nss t)
        rw [eg]
        have hs4 : StrAt (upd H3 p2 (.tup [tv, .int (t.2.1 : Int), .int (t.2.2 : Int)])) L (.ref p2) (ns.map fun n => n - low, t.2.1, t.2.2) := ⟨p2, tv, rfl, upd_same, htv.same s4⟩
        exact hs4.tk tk
    · rintro zs H3 ⟨e1, e3, s3, hg3⟩
      rw [hT.1, List.take_length] at hg3
      exact q H3 D2 zs (s2.trans s3) e1 (by
        cases z : H D2 with
        | none => rfl
        | some o => rw [s2 _ _ z] at hDn; cases hDn) hg3
end

abbrev k_many_worths : Nat := 1
def sp_many_worths (_ : PySem.W.Frag) : Sp := fun vs H Q _ => ∃ L : Nat, vs = [.int (L : Int)] ∧ L ≤ 40 ∧ Q (.int (2 ^ L)) H
abbrev k_top_of : Nat := 2
def sp_top_of (K : PySem.W.Frag) : Sp := fun vs H Q _ => ∃ (b : Addr) (low : Int) (L : Nat), vs = [.ref b] ∧ SqT K H b [.int low, .int (L : Int)] ∧ L ≤ 40 ∧ Q (.int (low + 2 ^ L - 1)) H
section
variable {P : Program} {w : World} {K : PySem.W.Frag} {mg : Str → Option Value} {base : Heap}
theorem ok_many_worths (d : Def K mg "many_worths" s_many_worths ["levels"]) (z : Bz mg)  : Cal P w K mg base k_many_worths "many_worths" ["levels"] (sp_many_worths K) := by
  have sc := sc_many_worths
  refine d.cal fun f fd F => F.ok sc (fun vs H Q E h => ?_) (fun cdv A outer s H vs Q E hr h => ?_)
  · obtain ⟨L, rfl, _⟩ := h
    rfl
  obtain ⟨L, rfl, hL, q⟩ := h
  refine ⟨_, (pss_cons (ps_set (i := 1) sc.nd rfl (Or.inl rfl) pe_int)
 (pss_cons (ps_for PassesOwn.never rfl (pi_range1 rfl z.range_ (pa_cons (pv 0) pa_nil)) (pg_name (i := 2) sc.nd rfl (Or.inl rfl))
  (pss_one (ps_set (i := 1) sc.nd rfl (Or.inl rfl) (pe_op op_mul (pv 1) pe_int))))
 (pss_one (ps_ret (pv 1))))), ?_⟩
  refine ⟨_, rfl, (L : Int), rfl, by omega, by omega, for_range (n := L) (fun i σ H2 => ∃ v : Option V, σ = [some (.int (L : Int)), some (.int (2 ^ i)), v] ∧ H2 = H) ⟨none, rfl, rfl⟩ ?_ ?_⟩
  · rintro i σ H2 hi ⟨v, rfl, rfl⟩
    refine ⟨_, rfl, _, _, rfl, rfl, .inr ⟨by decide, by decide⟩, ?_⟩
    exact ⟨_, by rw [Int.pow_succ]; rfl, rfl⟩
  · rintro σ H2 ⟨v, rfl, rfl⟩
    exact ⟨_, rfl, q⟩
theorem ok_top_of (d : Def K mg "top_of" s_top_of ["bounds"]) (z : Bz mg) (c_many_worths : Cal P w K mg base k_many_worths "many_worths" ["levels"] (sp_many_worths K)) : Cal P w K mg base k_top_of "top_of" ["bounds"] (sp_top_of K) := by
  have sc := sc_top_of
  refine d.cal fun f fd F => F.ok sc (fun vs H Q E h => ?_) (fun cdv A outer s H vs Q E hr h => ?_)
  · obtain ⟨b, low, L, rfl, _⟩ := h
    rfl
  obtain ⟨b, low, L, rfl, hb, hL, q⟩ := h
  refine ⟨_, (pss_one (ps_ret (pe_op op_sub (pe_op op_add (pe_ix ix_tup (pv 0) pe_int (fun _ _ => rfl)) (pe_fn c_many_worths (hr.mono (by decide)) (by rfl) (pa_cons (pe_ix ix_tup (pv 0) pe_int (fun _ _ => rfl)) pa_nil))) pe_int))), ?_⟩
  exact ⟨_, rfl, b, _, _, _, rfl, rfl, hb, rfl, _, rfl, b, _, _, _, rfl, rfl, hb, rfl, L, rfl, hL, _, _, rfl, rfl, _, _, rfl, rfl, q⟩
end

abbrev k_where : Nat := 3
def whereS (low : Int) (L : Nat) (n : Int) : Str := if n < low then "below" else if low + 2 ^ L - 1 < n then "above" else "within"
def sp_where (K : PySem.W.Frag) : Sp := fun vs H Q _ => ∃ (b : Addr) (low n : Int) (L : Nat), vs = [.ref b, .int n] ∧ SqT K H b [.int low, .int (L : Int)] ∧ L ≤ 40 ∧ Q (.str (whereS low L n)) H
section
variable {P : Program} {w : World} {K : PySem.W.Frag} {mg : Str → Option Value} {base : Heap}
theorem ok_where (d : Def K mg "where" s_where ["bounds", "number"]) (z : Bz mg) (c_top_of : Cal P w K mg base k_top_of "top_of" ["bounds"] (sp_top_of K)) : Cal P w K mg base k_where "where" ["bounds", "number"] (sp_where K) := by
  have sc := sc_where
  refine d.cal fun f fd F => F.ok sc (fun vs H Q E h => ?_) (fun cdv A outer s H vs Q E hr h => ?_)
  · obtain ⟨b, low, n, L, rfl, _⟩ := h
    rfl
  obtain ⟨b, low, n, L, rfl, hb, hL, q⟩ := h
  refine ⟨_, (pss_cons (ps_if (pt_cmpR op_lt (pv 1) (pe_ix ix_tup (pv 0) pe_int (fun _ _ => rfl)) (nomark _))
  (pss_one (ps_ret pe_str))
  pss_nil)
 (pss_cons (ps_if (pt_cmpR op_gt (pv 1) (pe_fn c_top_of (hr.mono (by decide)) (by rfl) (pa_cons (pv 0) pa_nil)) (nomark _))
  (pss_one (ps_ret pe_str))
  pss_nil)
 (pss_one (ps_ret pe_str)))), ?_⟩
  unfold whereS at q
  refine ⟨_, rfl, _, rfl, b, _, _, _, rfl, rfl, hb, rfl, _, _, rfl, rfl, _, rfl, ?_⟩
  refine ite2 (fun c => ?_) (fun c => ?_)
  · rw [if_pos (of_decide_eq_true c)] at q
    exact q
  · rw [if_neg (fun z => c (decide_eq_true z))] at q
    refine ⟨_, rfl, _, rfl, b, low, L, rfl, hb, hL, _, _, rfl, rfl, _, rfl, ?_⟩
    refine ite2 (fun c => ?_) (fun c => ?_)
    · rw [if_pos (of_decide_eq_true c)] at q
      exact q
    · rw [if_neg (fun z => c (decide_eq_true z))] at q
      exact q
end

/-! ### what is led, by the places -/
theorem filt_take {q : Int → Bool} : ∀ (os : List Int) (s : Nat), (os.filter q).take ((os.take s).countP q) = (os.take s).filter q
  | [], s => by simp
  | x :: os, 0 => by simp
  | x :: os, s + 1 => by
    rw [List.take_succ_cons, List.countP_cons, List.filter_cons, List.filter_cons]
    by_cases c : q x = true
    · rw [if_pos c, if_pos c, if_pos c, List.take_succ_cons, filt_take os s]
    · rw [if_neg c, if_neg c, if_neg c, Nat.add_zero]
      exact filt_take os s
theorem halfO_take {e : Nat} {w : Int} (os : List Int) (s : Nat) : (halfO e w os).take (((os.map (mk0 e)).take s).count w) = halfO e w (os.take s) := by
  unfold halfO
  rw [← List.map_take, ← List.map_take, List.count_eq_countP, List.countP_map]
  congr 1
  exact filt_take os s
theorem count_half {e : Nat} {w : Int} {p : Int → Bool} (os : List Int) : (halfO e w os).countP p = os.countP fun o => (mk0 e o == w) && p (o % 2 ^ e) := by
  unfold halfO
  rw [List.countP_map, List.countP_filter]
  congr 1
  funext o
  show (p (o % 2 ^ e) && (mk0 e o == w)) = _
  rw [Bool.and_comm]
theorem inW_step {e : Nat} {o w : Int} {ws : List Int} (h : 0 ≤ o ∧ o < (2 : Int) ^ (e + 1)) : inW (e + 1) o (w :: ws) = ((mk0 e o == w) && inW e (o % 2 ^ e) ws) := by
  show ((o / 2 ^ e == w) && inW e (o % 2 ^ e) ws) = _
  rw [div_mk h.1 h.2]
def selO (L : Nat) (os ws : List Int) : List Int := (os.filter fun o => inW L o ws).map fun o => o % 2 ^ (L - ws.length)
theorem mod_pow {a b : Nat} {o : Int} (h : a ≤ b) : (o % 2 ^ b) % 2 ^ a = o % 2 ^ a := by
  refine Int.emod_emod_of_dvd o ?_
  exact ⟨2 ^ (b - a), by rw [← Int.pow_add]; congr 1; omega⟩
theorem ledS_sel : ∀ (L : Nat) (ws os : List Int) (s t : Nat), ws.length ≤ L → InO L os →
    ledS L ws (os, s, t) = (selO L os ws, (os.take s).countP (fun o => inW L o ws), (os.take t).countP (fun o => inW L o ws)) ∨ (os.length < s ∨ os.length < t)
  | L, [], os, s, t, _, hin => by
    by_cases hs : os.length < s
    · exact .inr (.inl hs)
    · by_cases ht : os.length < t
      · exact .inr (.inr ht)
      · refine .inl ?_
        rw [ledS_empty]
        have e : (fun o => inW L o []) = fun _ => true := by
          funext o
          cases L <;> rfl
        unfold selO
        rw [e]
        have c1 : ∀ l : List Int, l.countP (fun _ => true) = l.length := fun l => by simp
        have c2 : (os.filter fun _ => true) = os := by simp
        rw [c1, c1, c2, List.length_take, List.length_take, Nat.min_eq_left (by omega), Nat.min_eq_left (by omega)]
        have c3 : os.map (fun o => o % 2 ^ (L - ([] : List Int).length)) = os := by
          have : ∀ o ∈ os, o % 2 ^ (L - ([] : List Int).length) = id o := fun o ho => Int.emod_eq_of_lt (hin o ho).1 (hin o ho).2
          rw [List.map_congr_left this, List.map_id]
        rw [c3]
  | 0, _ :: _, _, _, _, h, _ => absurd h (Nat.not_succ_le_zero _)
  | e + 1, w :: ws, os, s, t, h, hin => by
    by_cases hs : os.length < s
    · exact .inr (.inl hs)
    · by_cases ht : os.length < t
      · exact .inr (.inr ht)
      · refine .inl ?_
        have hl : ws.length ≤ e := by rw [List.length_cons] at h; omega
        rw [ledS_cons]
        have hc : ∀ k, ((os.map (mk0 e)).take k).count w ≤ (halfO e w os).length := fun k => by
          rw [← count_mk]
          exact (List.take_sublist _ _).count_le w
        have ih := ledS_sel e ws (halfO e w os) (((os.map (mk0 e)).take s).count w) (((os.map (mk0 e)).take t).count w) hl halfO_in
        rcases ih with ih | ih | ih
        · show ledS e ws (halfO e w os, _, _) = _
          rw [ih, halfO_take, halfO_take, count_half, count_half]
          have hcong : ∀ l : List Int, (∀ o ∈ l, o ∈ os) → l.countP (fun o => (mk0 e o == w) && inW e (o % 2 ^ e) ws) = l.countP fun o => inW (e + 1) o (w :: ws) := fun l hl => by
            refine List.countP_congr fun o ho => ?_
            rw [inW_step (hin o (hl o ho))]
          rw [hcong _ fun o ho => List.mem_of_mem_take ho, hcong _ fun o ho => List.mem_of_mem_take ho]
          have hsel : selO e (halfO e w os) ws = selO (e + 1) os (w :: ws) := by
            unfold selO halfO
            rw [List.filter_map, List.filter_filter, List.map_map, List.length_cons, Nat.add_sub_add_right]
            have f1 : (os.filter fun a => ((fun o => inW e o ws) ∘ fun o => o % 2 ^ e) a && (mk0 e a == w)) = os.filter fun o => inW (e + 1) o (w :: ws) := List.filter_congr fun o ho => by
              rw [inW_step (hin o ho), Bool.and_comm]
              rfl
            rw [f1]
            refine List.map_congr_left fun o _ => ?_
            exact mod_pow (by omega)
          rw [hsel]
        · have := hc s; omega
        · have := hc t; omega
theorem idxs_vals {p : Int → Bool} : ∀ (os : List Int), (idxs p os).map (fun i => (os[i]?).getD 0) = os.filter p
  | [] => rfl
  | o :: os => by
    rw [idxs, List.filter_cons]
    have e : ((idxs p os).map (· + 1)).map (fun i => ((o :: os)[i]?).getD 0) = os.filter p := by
      rw [List.map_map, ← idxs_vals os]
      refine List.map_congr_left fun i _ => ?_
      simp
    by_cases c : p o = true
    · rw [if_pos c, if_pos c, List.map_cons, e]
      rfl
    · rw [if_neg c, if_neg c, e]
/-! ### the ends of what a stretch has between two numbers -/
def Hit (g : G3) (p : Int → Bool) (i : Nat) : Prop := g.2.1 ≤ i ∧ i < g.2.2 ∧ ∃ o, g.1[i]? = some o ∧ p o = true
def EndsOf (g : G3) (p : Int → Bool) : Option (Nat × Nat) → Prop
  | none => ∀ i, ¬ Hit g p i
  | some ab => Hit g p ab.1 ∧ Hit g p ab.2 ∧ ∀ i, Hit g p i → ab.1 ≤ i ∧ i ≤ ab.2
theorem cnt_mono {q : Int → Bool} (os : List Int) {a b : Nat} (h : a ≤ b) : (os.take a).countP q ≤ (os.take b).countP q := by
  have e : os.take a = (os.take b).take a := by rw [List.take_take, Nat.min_eq_left h]
  rw [e]
  exact (List.take_sublist a (os.take b)).countP_le
theorem cnt_step {q : Int → Bool} {os : List Int} {i : Nat} {o : Int} (h : os[i]? = some o) (hq : q o = true) : (os.take (i + 1)).countP q = (os.take i).countP q + 1 := by
  rw [List.take_add_one, h, List.countP_append]
  simp [hq]
theorem idxs_get {q : Int → Bool} : ∀ (os : List Int) (j i : Nat), (idxs q os)[j]? = some i → ∃ o, os[i]? = some o ∧ q o = true ∧ (os.take i).countP q = j
  | [], j, i, h => by simp [idxs] at h
  | o :: os, j, i, h => by
    rw [idxs] at h
    by_cases c : q o = true
    · rw [if_pos c] at h
      cases j with
      | zero =>
        have : i = 0 := by simpa using h.symm
        subst this
        exact ⟨o, rfl, c, rfl⟩
      | succ j =>
        have h' : ((idxs q os).map (· + 1))[j]? = some i := by simpa using h
        rw [List.getElem?_map] at h'
        cases e : (idxs q os)[j]? with
        | none => rw [e] at h'; cases h'
        | some i' =>
          rw [e] at h'
          have : i = i' + 1 := (Option.some.inj h').symm
          subst this
          obtain ⟨o', h1, h2, h3⟩ := idxs_get os j i' e
          exact ⟨o', by simpa using h1, h2, by rw [List.take_succ_cons, List.countP_cons, h3, if_pos c]⟩
    · rw [if_neg c] at h
      have h' : ((idxs q os).map (· + 1))[j]? = some i := by simpa using h
      rw [List.getElem?_map] at h'
      cases e : (idxs q os)[j]? with
      | none => rw [e] at h'; cases h'
      | some i' =>
        rw [e] at h'
        have : i = i' + 1 := (Option.some.inj h').symm
        subst this
        obtain ⟨o', h1, h2, h3⟩ := idxs_get os j i' e
        exact ⟨o', by simpa using h1, h2, by rw [List.take_succ_cons, List.countP_cons, h3, if_neg c] <;> rfl⟩
theorem filt_at {q : Int → Bool} : ∀ (os : List Int) (i : Nat) (o : Int), os[i]? = some o → q o = true → (os.filter q)[(os.take i).countP q]? = some o
  | [], i, o, h, _ => by simp at h
  | a :: os, 0, o, h, hq => by
    have : a = o := by simpa using h
    subst this
    rw [List.filter_cons, if_pos hq]
    rfl
  | a :: os, i + 1, o, h, hq => by
    have ih := filt_at os i o (by simpa using h) hq
    rw [List.filter_cons, List.take_succ_cons, List.countP_cons]
    by_cases c : q a = true
    · rw [if_pos c, if_pos c]
      simpa using ih
    · rw [if_neg c, if_neg c]
      simpa using ih
theorem cnt_take (e : Nat) (w : Int) (os : List Int) (s : Nat) : ((os.map (mk0 e)).take s).count w = (os.take s).countP (fun o => mk0 e o == w) := by
  rw [← List.map_take, List.count_eq_countP, List.countP_map]
  rfl
theorem half_at {e : Nat} {w : Int} {os : List Int} {i : Nat} {o : Int} (h : os[i]? = some o) (hw : mk0 e o = w) : (halfO e w os)[(os.take i).countP (fun o => mk0 e o == w)]? = some (o % 2 ^ e) := by
  unfold halfO
  rw [List.getElem?_map, filt_at os i o h (by simp [hw])]
  rfl
theorem mod_mk {e : Nat} {o w : Int} (h0 : 0 ≤ o) (h1 : o < 2 ^ (e + 1)) (hw : mk0 e o = w) : o % 2 ^ e + w * 2 ^ e = o := by
  have d := div_mk h0 h1
  rw [hw] at d
  have := Int.emod_add_mul_ediv o (2 ^ e)
  rw [d, Int.mul_comm] at this
  exact this
theorem mk01 (e : Nat) (o : Int) : mk0 e o = 0 ∨ mk0 e o = 1 := by
  unfold mk0
  by_cases h : o < 2 ^ e
  · exact .inl (if_pos h)
  · exact .inr (if_neg h)

/-! ### what a gathering has, and how often -/
def sel (g : G3) : List Int := (g.1.take g.2.2).drop g.2.1
def Wh (gs : List G3) : List Int := gs.flatMap sel
theorem sel_len {L : Nat} {g : G3} (h : GoodS L g) : ((sel g).length : Int) = (g.2.2 : Int) - g.2.1 := by
  obtain ⟨_, h1, h2, _⟩ := h
  unfold sel
  rw [List.length_drop, List.length_take, Nat.min_eq_left h2]
  omega
theorem manyG_W {L : Nat} : ∀ {gs : List G3}, (∀ g ∈ gs, GoodS L g) → manyG gs = ((Wh gs).length : Nat)
  | [], _ => rfl
  | g :: gs, h => by
    have ih := manyG_W (gs := gs) fun x hx => h x (List.mem_cons_of_mem _ hx)
    have hg := sel_len (h g List.mem_cons_self)
    unfold manyG at ih ⊢
    unfold Wh at ih ⊢
    rw [List.map_cons, List.sum_cons, ih, List.flatMap_cons, List.length_append]
    omega
theorem halfO_app {e : Nat} {w : Int} (a b : List Int) : halfO e w (a ++ b) = halfO e w a ++ halfO e w b := by
  unfold halfO
  rw [List.filter_append, List.map_append]
theorem cnt_half_len {e : Nat} {w : Int} (os : List Int) : (os.map (mk0 e)).count w = (halfO e w os).length := count_mk e w os
theorem sel_led1 {e : Nat} {w : Int} {g : G3} (h : GoodS (e + 1) g) : sel (led1 e w g) = halfO e w (sel g) := by
  obtain ⟨_, h1, h2, _⟩ := h
  show ((halfO e w g.1).take (((g.1.map (mk0 e)).take g.2.2).count w)).drop (((g.1.map (mk0 e)).take g.2.1).count w) = _
  rw [halfO_take]
  have e1 : g.1.take g.2.2 = g.1.take g.2.1 ++ sel g := by
    unfold sel
    have := (List.take_append_drop g.2.1 (g.1.take g.2.2)).symm
    rw [List.take_take, Nat.min_eq_left h1] at this
    exact this
  rw [e1, halfO_app]
  have e2 : ((g.1.map (mk0 e)).take g.2.1).count w = (halfO e w (g.1.take g.2.1)).length := by
    rw [← List.map_take]
    exact cnt_half_len _
  rw [e2, List.drop_left]
theorem W_led {e : Nat} {w : Int} : ∀ {gs : List G3}, (∀ g ∈ gs, GoodS (e + 1) g) → Wh (gs.map (led1 e w)) = halfO e w (Wh gs)
  | [], _ => rfl
  | g :: gs, h => by
    have ih := W_led (w := w) (gs := gs) fun x hx => h x (List.mem_cons_of_mem _ hx)
    unfold Wh at ih ⊢
    rw [List.map_cons, List.flatMap_cons, List.flatMap_cons, halfO_app, ih, sel_led1 (h g List.mem_cons_self)]
def fillG (gs : List G3) : List G3 := gs.filter fun g => decide (g.2.1 < g.2.2)
theorem W_fill : ∀ {gs : List G3}, Wh (fillG gs) = Wh gs
  | [] => rfl
  | g :: gs => by
    have ih := W_fill (gs := gs)
    unfold fillG Wh at ih ⊢
    rw [List.filter_cons]
    by_cases c : g.2.1 < g.2.2
    · rw [if_pos (decide_eq_true c), List.flatMap_cons, List.flatMap_cons, ih]
    · rw [if_neg (by simpa using c), ih, List.flatMap_cons]
      have : sel g = [] := by
        unfold sel
        rw [List.drop_eq_nil_iff, List.length_take]
        omega
      rw [this, List.nil_append]
theorem fill_good {L : Nat} {gs : List G3} (h : ∀ g ∈ gs, GoodS L g) : ∀ g ∈ fillG gs, GoodS L g := fun g hg => h g (List.mem_filter.mp hg).1
theorem W_in {L : Nat} {gs : List G3} (h : ∀ g ∈ gs, GoodS L g) : InO L (Wh gs) := fun o ho => by
  obtain ⟨g, hg, ho⟩ := List.mem_flatMap.mp ho
  exact (h g hg).1 o (List.mem_of_mem_take (List.mem_of_mem_drop ho))
theorem W_app (a b : List G3) : Wh (a ++ b) = Wh a ++ Wh b := List.flatMap_append
abbrev P2 := Int × Int
def caF (part floor : Int) : Nat → Int → List Int → List P2
  | 0, least, ws => if (ws.length : Int) * part ≤ floor then [] else [(least, (ws.length : Int))]
  | e + 1, least, ws => if (ws.length : Int) * part ≤ floor then [] else caF part floor e least (halfO e 0 ws) ++ caF part floor e (least + 2 ^ e) (halfO e 1 ws)
theorem half_count {e : Nat} {w x : Int} {ws : List Int} (h : InO (e + 1) ws) (hw : w = 0 ∨ w = 1) (h0 : 0 ≤ x) (h1 : x < 2 ^ e) : (halfO e w ws).count x = ws.count (x + w * 2 ^ e) := by
  rw [List.count_eq_countP, List.count_eq_countP, count_half]
  refine List.countP_congr fun o ho => ?_
  have hin := h o ho
  have hp := p2pos e
  rw [Bool.and_eq_true, beq_iff_eq, beq_iff_eq, beq_iff_eq]
  constructor
  · rintro ⟨a, b⟩
    rw [← b]
    exact (mod_mk hin.1 hin.2 a).symm
  · intro a
    have e2 : (2 : Int) ^ (e + 1) = 2 * 2 ^ e := by rw [Int.pow_succ]; omega
    have hm : mk0 e o = w := by
      unfold mk0
      rcases hw with rfl | rfl
      · rw [if_pos (by omega)]
      · rw [if_neg (by omega)]
    refine ⟨hm, ?_⟩
    have := mod_mk hin.1 hin.2 hm
    omega
theorem st_mem : ∀ (e : Nat) (least : Int) (ws : List Int), InO e ws → ∀ (w m : Int), (w, m) ∈ caF 1 0 e least ws ↔ (m = (ws.count (w - least) : Nat) ∧ 0 < m)
  | 0, least, ws, hin, w, m => by
    have hz : ∀ x ∈ ws, x = 0 := fun x hx => by
      have := hin x hx
      simp at this
      omega
    unfold caF
    by_cases c : (ws.length : Int) * 1 ≤ 0
    · rw [if_pos c]
      have : ws = [] := List.eq_nil_of_length_eq_zero (by omega)
      subst this
      simp
      omega
    · rw [if_neg c, List.mem_singleton]
      have call : ws.count 0 = ws.length := List.count_eq_length.mpr fun b hb => (hz b hb).symm
      constructor
      · intro z
        cases z
        rw [Int.sub_self, call]
        exact ⟨rfl, by omega⟩
      · rintro ⟨h1, h2⟩
        have : (w - least) ∈ ws := List.count_pos_iff.mp (by omega)
        have z := hz _ this
        rw [z, call] at h1
        have : w = least := by omega
        rw [this, h1]
  | e + 1, least, ws, hin, w, m => by
    have hp := p2pos e
    have e2 : (2 : Int) ^ (e + 1) = 2 * 2 ^ e := by rw [Int.pow_succ]; omega
    unfold caF
    by_cases c : (ws.length : Int) * 1 ≤ 0
    · rw [if_pos c]
      have : ws = [] := List.eq_nil_of_length_eq_zero (by omega)
      subst this
      simp
      omega
    · rw [if_neg c, List.mem_append, st_mem e _ _ halfO_in, st_mem e _ _ halfO_in]
      have rng : ∀ {x : Int} {us : List Int}, InO e us → 0 < us.count x → 0 ≤ x ∧ x < 2 ^ e := fun h h0 => h _ (List.count_pos_iff.mp h0)
      constructor
      · rintro (⟨h1, h2⟩ | ⟨h1, h2⟩)
        · have r := rng halfO_in (show 0 < (halfO e 0 ws).count (w - least) by omega)
          rw [half_count hin (.inl rfl) r.1 r.2] at h1
          have : w - least + 0 * 2 ^ e = w - least := by omega
          rw [this] at h1
          exact ⟨h1, h2⟩
        · have r := rng halfO_in (show 0 < (halfO e 1 ws).count (w - (least + 2 ^ e)) by omega)
          rw [half_count hin (.inr rfl) r.1 r.2] at h1
          have : w - (least + 2 ^ e) + 1 * 2 ^ e = w - least := by omega
          rw [this] at h1
          exact ⟨h1, h2⟩
      · rintro ⟨h1, h2⟩
        have r := hin _ (List.count_pos_iff.mp (show 0 < ws.count (w - least) by omega))
        by_cases d : w - least < 2 ^ e
        · refine .inl ⟨?_, h2⟩
          rw [half_count hin (.inl rfl) r.1 d]
          have : w - least + 0 * 2 ^ e = w - least := by omega
          rw [this]
          exact h1
        · refine .inr ⟨?_, h2⟩
          rw [half_count hin (.inr rfl) (by omega) (by omega)]
          have : w - (least + 2 ^ e) + 1 * 2 ^ e = w - least := by omega
          rw [this]
          exact h1
theorem st_rng {e : Nat} {least : Int} {ws : List Int} (hin : InO e ws) {p : P2} (h : p ∈ caF 1 0 e least ws) : least ≤ p.1 ∧ p.1 < least + 2 ^ e ∧ 0 < p.2 ∧ p.2 = (ws.count (p.1 - least) : Nat) := by
  obtain ⟨h1, h2⟩ := (st_mem e least ws hin p.1 p.2).mp h
  have r := hin _ (List.count_pos_iff.mp (show 0 < ws.count (p.1 - least) by omega))
  exact ⟨by omega, by omega, h2, h1⟩
theorem st_rise : ∀ (e : Nat) (least : Int) (ws : List Int), InO e ws → (caF 1 0 e least ws).Pairwise fun p q => p.1 < q.1
  | 0, least, ws, _ => by
    unfold caF
    by_cases c : (ws.length : Int) * 1 ≤ 0
    · rw [if_pos c]; exact .nil
    · rw [if_neg c]; simp
  | e + 1, least, ws, hin => by
    unfold caF
    by_cases c : (ws.length : Int) * 1 ≤ 0
    · rw [if_pos c]; exact .nil
    · rw [if_neg c, List.pairwise_append]
      refine ⟨st_rise e _ _ halfO_in, st_rise e _ _ halfO_in, fun p hp q hq => ?_⟩
      have := st_rng halfO_in hp
      have := st_rng halfO_in hq
      omega
theorem half_sum {e : Nat} (ws : List Int) : (halfO e 0 ws).length + (halfO e 1 ws).length = ws.length := by
  have := cnt01 (e := e) ws ws.length
  rw [Nat.min_self, List.take_of_length_le (by simp), cnt_half_len, cnt_half_len] at this
  exact this
def sumM (ps : List P2) : Int := (ps.map fun p => p.2).sum
theorem st_sum : ∀ (e : Nat) (least : Int) (ws : List Int), sumM (caF 1 0 e least ws) = (ws.length : Int)
  | 0, least, ws => by
    unfold caF
    by_cases c : (ws.length : Int) * 1 ≤ 0
    · rw [if_pos c]; show (0 : Int) = _; omega
    · rw [if_neg c]; show (ws.length : Int) + 0 = _; omega
  | e + 1, least, ws => by
    unfold caF
    by_cases c : (ws.length : Int) * 1 ≤ 0
    · rw [if_pos c]; show (0 : Int) = _; omega
    · rw [if_neg c]
      have h1 := st_sum e least (halfO e 0 ws)
      have h2 := st_sum e (least + 2 ^ e) (halfO e 1 ws)
      have h3 := half_sum (e := e) ws
      unfold sumM at h1 h2 ⊢
      rw [List.map_append, List.sum_append, h1, h2]
      omega
theorem st_twice : ∀ (e : Nat) (least : Int) (ws : List Int), caF 1 0 e least (ws ++ ws) = (caF 1 0 e least ws).map fun p => (p.1, 2 * p.2)
  | 0, least, ws => by
    unfold caF
    by_cases c : (ws.length : Int) * 1 ≤ 0
    · rw [if_pos c, if_pos (by rw [List.length_append]; omega)]; rfl
    · rw [if_neg c, if_neg (by rw [List.length_append]; omega), List.length_append]
      have : ((ws.length + ws.length : Nat) : Int) = 2 * (ws.length : Int) := by omega
      rw [this]; rfl
  | e + 1, least, ws => by
    unfold caF
    by_cases c : (ws.length : Int) * 1 ≤ 0
    · rw [if_pos c, if_pos (by rw [List.length_append]; omega)]; rfl
    · rw [if_neg c, if_neg (by rw [List.length_append]; omega), halfO_app, halfO_app, st_twice e, st_twice e, List.map_append]
/-- what comes most -/
def bstep (b : Option P2) (p : P2) : Option P2 := match b with
  | none => some p
  | some q => if p.2 > q.2 then some p else some q
def bst (ps : List P2) : Option P2 := ps.foldl bstep none
/-- few come often -/
theorem few {part W : Int} (hp : 1 ≤ part) (hW : 0 ≤ W) : ∀ (ps : List P2), (∀ p ∈ ps, W < p.2 * part) → ((ps.length : Int) * (W + 1) ≤ sumM ps * part)
  | [], _ => by simp [sumM]
  | p :: ps, h => by
    have ih := few hp hW ps fun q hq => h q (List.mem_cons_of_mem _ hq)
    have h0 := h p List.mem_cons_self
    unfold sumM at ih ⊢
    rw [List.map_cons, List.sum_cons, List.length_cons, Int.add_mul]
    have : ((ps.length + 1 : Nat) : Int) * (W + 1) = (ps.length : Int) * (W + 1) + (W + 1) := by
      rw [Int.natCast_add, Int.add_mul]; simp
    rw [this]
    omega
/-! ### spans -/
def stS (p : Int × Int) (t : Int) : Int × Int := (if t = 1 then p.1 + p.2 / 2 else p.1, p.2 / 2)
def spanS (low : Int) (L : Nat) (ws : List Int) : Int × Int := ws.foldl stS (low, 2 ^ L)
theorem pow_half (e : Nat) : (2 : Int) ^ (e + 1) / 2 = 2 ^ e := by rw [Int.pow_succ]; omega
theorem take_snoc {α : Type} {l : List α} {i : Nat} {x : α} (h : l[i]? = some x) : l.take (i + 1) = l.take i ++ [x] := by rw [List.take_add_one, h]; rfl
theorem ints_get {ws : List Int} {i : Nat} {x : V} (h : (ws.map V.int)[i]? = some x) : ∃ t, ws[i]? = some t ∧ x = .int t := by
  rw [List.getElem?_map] at h
  cases e : ws[i]? with
  | none => rw [e] at h; cases h
  | some t => rw [e] at h; exact ⟨t, rfl, (Option.some.inj h).symm⟩
theorem fold_snoc {α β : Type} {f : β → α → β} {b : β} {l : List α} {i : Nat} {x : α} (h : l[i]? = some x) : (l.take (i + 1)).foldl f b = f ((l.take i).foldl f b) x := by
  rw [take_snoc h, List.foldl_append]; rfl
abbrev k_span_of : Nat := 2
def sp_span_of (K : PySem.W.Frag) : Sp := fun vs H Q _ => ∃ (b wy : Addr) (low : Int) (L : Nat) (ws : List Int), vs = [.ref b, .ref wy] ∧ SqT K H b [.int low, .int (L : Int)] ∧ L ≤ 40 ∧ SqT K H wy (ws.map V.int) ∧
  ∀ p, H p = none → Q (.ref p) (upd H p (.tup [.int (spanS low L ws).1, .int ((spanS low L ws).1 + (spanS low L ws).2 - 1)]))
section
variable {P : Program} {w : World} {K : PySem.W.Frag} {mg : Str → Option Value} {base : Heap}
theorem ok_span_of (d : Def K mg "span_of" s_span_of ["bounds", "way"]) (z : Bz mg) (c_many_worths : Cal P w K mg base k_many_worths "many_worths" ["levels"] (sp_many_worths K)) : Cal P w K mg base k_span_of "span_of" ["bounds", "way"] (sp_span_of K) := by
  have sc := sc_span_of
  refine d.cal fun f fd F => F.ok sc (fun vs H Q E h => ?_) (fun cdv A outer s H vs Q E hr h => ?_)
  · obtain ⟨b, wy, low, L, ws, rfl, _⟩ := h
    rfl
  obtain ⟨b, wy, low, L, ws, rfl, hb, hL, hw, q⟩ := h
  refine ⟨_, (pss_cons (ps_set (i := 2) sc.nd rfl (Or.inl rfl) (pe_ix ix_tup (pv 0) pe_int (fun _ _ => rfl)))
 (pss_cons (ps_set (i := 3) sc.nd rfl (Or.inl rfl) (pe_fn c_many_worths (hr.mono (by decide)) (by rfl) (pa_cons (pe_ix ix_tup (pv 0) pe_int (fun _ _ => rfl)) pa_nil)))
 (pss_cons (ps_for PassesOwn.never rfl (pi_tup (pv 1)) (pg_name (i := 4) sc.nd rfl (Or.inl rfl))
  (pss_cons (ps_set (i := 3) sc.nd rfl (Or.inl rfl) (pe_op op_fdivB (pv 3) pe_int))
 (pss_one (ps_if (pt_cmpR op_eq (pv 4) pe_int (nomark _))
  (pss_one (ps_set (i := 2) sc.nd rfl (Or.inl rfl) (pe_op op_add (pv 2) (pv 3))))
  pss_nil))))
 (pss_one (ps_ret (pe_tup (pa_cons (pv 2) (pa_cons (pe_op op_sub (pe_op op_add (pv 2) (pv 3)) pe_int) pa_nil)))))))), ?_⟩
  refine ⟨_, rfl, b, _, _, _, rfl, rfl, hb, rfl, _, rfl, b, _, _, _, rfl, rfl, hb, rfl, L, rfl, hL, ?_⟩
  refine ⟨_, rfl, wy, rfl, ⟨_, hw⟩, for_tup (K := K) (a := wy) (xs := ws.map V.int) (fun i σ H2 => ∃ v : Option V, σ = [some (.ref b), some (.ref wy), some (.int ((ws.take i).foldl stS (low, 2 ^ L)).1), some (.int ((ws.take i).foldl stS (low, 2 ^ L)).2), v] ∧ H2 = H)
    ⟨none, rfl, rfl⟩ (fun i σ H2 _ ⟨_, _, e⟩ => by rw [e]; exact hw) ?_ ?_⟩
  · rintro i x σ H2 hi ⟨v, rfl, rfl⟩
    obtain ⟨t, ht, rfl⟩ := ints_get hi
    refine ⟨_, rfl, _, _, rfl, rfl, ⟨by decide, by decide⟩, ?_⟩
    refine ⟨_, rfl, rfl, _, rfl, ?_⟩
    refine ite2 (fun c => ?_) (fun c => ?_)
    · have c' : t = 1 := V.int.inj (of_decide_eq_true c)
      refine ⟨_, rfl, _, rfl, _, _, rfl, rfl, some (.int t), ?_, rfl⟩
      rw [fold_snoc ht]
      unfold stS
      rw [if_pos c']
      rfl
    · have c' : ¬ t = 1 := fun z => c (by rw [z]; exact decide_eq_true rfl)
      refine ⟨some (.int t), ?_, rfl⟩
      rw [fold_snoc ht]
      unfold stS
      rw [if_neg c']
      rfl
  · rintro σ H2 ⟨v, rfl, rfl⟩
    refine ⟨_, rfl, _, rfl, _, rfl, _, _, rfl, rfl, _, _, rfl, rfl, szb rfl, fun p hp => ?_⟩
    have e : ws.take (ws.map V.int).length = ws := by rw [List.length_map]; exact List.take_length
    have q' := q p hp
    unfold spanS at q'
    rw [← e] at q'
    exact q'
end

theorem same_put2 {H H1 : Hp} {D : Addr} (s : Same H H1) (hD : H D = none) (o : HO) : Same H (upd H1 D o) := fun b u q => by rw [upd_ne (ne_of_none q hD)]; exact s b u q
def btw (least lo hi : Int) : Int → Bool := fun o => decide (lo ≤ least + o ∧ least + o ≤ hi)
def AllAt {α : Type} (R : Hp → V → α → Prop) (H : Hp) (xs : List V) (ps : List α) : Prop := xs.length = ps.length ∧ ∀ (j : Nat) (x : V) (p : α), xs[j]? = some x → ps[j]? = some p → R H x p
section
variable {α : Type} {R : Hp → V → α → Prop} {H H' : Hp} {xs ys : List V} {ps qs : List α}
theorem AllAt.imp (h : AllAt R H xs ps) (f : ∀ x p, R H x p → R H' x p) : AllAt R H' xs ps := ⟨h.1, fun j x p h1 h2 => f x p (h.2 j x p h1 h2)⟩
theorem AllAt.nil : AllAt R H [] [] := ⟨rfl, fun j x p h1 _ => by simp at h1⟩
theorem AllAt.snoc {x : V} {p : α} (h : AllAt R H xs ps) (hx : R H x p) : AllAt R H (xs ++ [x]) (ps ++ [p]) := by
  refine ⟨by rw [List.length_append, List.length_append, h.1] <;> rfl, fun j y k h1 h2 => ?_⟩
  have hl := h.1
  rcases snoc_get h1 with ⟨a1, a2⟩ | ⟨a1, a2⟩
  · rcases snoc_get h2 with ⟨b1, b2⟩ | ⟨b1, b2⟩
    · exact h.2 j y k a2 b2
    · omega
  · rcases snoc_get h2 with ⟨b1, b2⟩ | ⟨b1, b2⟩
    · omega
    · rw [a2, b2]; exact hx
theorem AllAt.get (h : AllAt R H xs ps) {j : Nat} {x : V} (hx : xs[j]? = some x) : ∃ p, ps[j]? = some p ∧ R H x p := by
  have hj : j < ps.length := by rw [← h.1]; exact (List.getElem?_eq_some_iff.mp hx).1
  exact ⟨ps[j], List.getElem?_eq_getElem hj, h.2 j x ps[j] hx (List.getElem?_eq_getElem hj)⟩
theorem AllAt.app (h : AllAt R H xs ps) (k : AllAt R H ys qs) : AllAt R H (xs ++ ys) (ps ++ qs) := by
  refine ⟨by rw [List.length_append, List.length_append, h.1, k.1], fun j y p h1 h2 => ?_⟩
  by_cases c : j < xs.length
  · rw [List.getElem?_append_left c] at h1
    rw [List.getElem?_append_left (by rw [← h.1]; exact c)] at h2
    exact h.2 j y p h1 h2
  · rw [List.getElem?_append_right (by omega)] at h1
    rw [List.getElem?_append_right (by rw [← h.1]; omega), ← h.1] at h2
    exact k.2 _ y p h1 h2
end
def PsR (H : Hp) (v : V) (p : P2) : Prop := ∃ a, v = .ref a ∧ H a = some (.tup [.int p.1, .int p.2])
theorem PsR.tk {H H' : Hp} (k : TKeep H H') {v : V} {p : P2} (h : PsR H v p) : PsR H' v p := by
  obtain ⟨a, e, h1⟩ := h
  exact ⟨a, e, (k _ _).1 h1⟩
theorem ps_tk {H H' : Hp} {xs : List V} {ps : List P2} (h : AllAt PsR H xs ps) (k : TKeep H H') : AllAt PsR H' xs ps := h.imp fun _ _ z => z.tk k
theorem ps_same {H H' : Hp} {xs : List V} {ps : List P2} (h : AllAt PsR H xs ps) (s : Same H H') : AllAt PsR H' xs ps := ps_tk h (.same s)
abbrev k_filled : Nat := 1
def sp_filled (K : PySem.W.Frag) : Sp := fun vs H Q _ => ∃ (ga : Addr) (xs : List V) (L : Nat) (gs : List G3), vs = [.ref ga] ∧ SqL K H ga xs ∧ GatAt H L xs gs ∧ gs.length ≤ 1000 ∧
  ∀ (H' : Hp) (D : Addr) (ys : List V), Same H H' → H' D = some (.lst ys) → H D = none → GatAt H' L ys (fillG gs) → Q (.ref D) H'
section
variable {P : Program} {w : World} {K : PySem.W.Frag} {mg : Str → Option Value} {base : Heap}
theorem ok_filled (d : Def K mg "filled" s_filled ["gathering"]) (z : Bz mg)  : Cal P w K mg base k_filled "filled" ["gathering"] (sp_filled K) := by
  have sc := sc_filled
  refine d.cal fun f fd F => F.ok sc (fun vs H Q E h => ?_) (fun cdv A outer s H vs Q E hr h => ?_)
  · obtain ⟨ga, xs, L, gs, rfl, _⟩ := h
    rfl
  obtain ⟨ga, xs, L, gs, rfl, hga, hg, hl, q⟩ := h
  refine ⟨_, (pss_one (ps_ret (pe_compIf (cl := []) (cn := []) (N := []) (fr := []) (sc0 := defScope s_filled) rfl (pi_list (pv 0)) (fun C s₂ H₂ fp => (pv 0)) (fun C s₂ H₂ fp => (pt_cmpR op_lt (pe_ix (ix_tupK (K := K) rfl) (pv 0) pe_int (fun _ _ => rfl)) (pe_ix (ix_tupK (K := K) rfl) (pv 0) pe_int (fun _ _ => rfl)) (nomark _))) (by with_unfolding_all rfl) trivial rfl rfl rfl ⟨by decide +kernel, by decide +kernel, by decide +kernel, by decide +kernel, by decide +kernel, by decide +kernel, by decide +kernel⟩ rfl))), ?_⟩
  have hxl := hg.1
  refine ⟨_, rfl, ga, rfl, ⟨_, hga⟩, fun D hD => ?_⟩
  refine compIf_listP (K := K) (xs := xs) (sz (by omega)) (fun i ys H2 => H2 = upd H D (.lst ys) ∧ ys.length ≤ i ∧ GatAt H L ys (fillG (gs.take i))) ⟨rfl, Nat.le_refl _, GatAt.nil _ _⟩ (fun i ys H2 ⟨e, _⟩ => by rw [e]; exact (same_new hD _).seq hga)
    (fun i ys H2 ⟨e, e2, _⟩ => ⟨by rw [e]; exact upd_same, e2⟩) ?_ ?_
  · rintro i x ys H2 hx ⟨rfl, e2, e3⟩
    have hi : i < gs.length := by rw [← hxl]; exact (List.getElem?_eq_some_iff.mp hx).1
    have gi : gs[i]? = some gs[i] := List.getElem?_eq_getElem hi
    generalize gs[i] = g at gi
    have hsx := hg.2 i x g hx gi
    obtain ⟨t, u, rfl, ht, hu⟩ := hsx
    have ht' : SqT K (upd H D (.lst ys)) t [u, .int (g.2.1 : Int), .int (g.2.2 : Int)] := SqT.of (same_new hD _ _ _ ht)
    refine ⟨_, rfl, t, _, _, _, rfl, rfl, ht', rfl, _, rfl, t, _, _, _, rfl, rfl, ht', rfl, _, _, rfl, rfl, _, rfl, ?_⟩
    have et : fillG (gs.take (i + 1)) = fillG (gs.take i) ++ fillG [g] := by
      unfold fillG
      rw [List.take_add_one, gi, List.filter_append]
      rfl
    refine ite2 (fun c => ?_) (fun c => ?_)
    · have c' := of_decide_eq_true c
      have ef : fillG [g] = [g] := by
        unfold fillG
        rw [List.filter_cons, if_pos (decide_eq_true (by omega))]
        rfl
      refine ⟨_, rfl, upd_same, by rw [upd_upd], by rw [List.length_append]; simp; omega, ?_⟩
      rw [et, ef]
      exact e3.snoc ⟨t, u, rfl, ht, hu⟩
    · have c' : ¬ (g.2.1 : Int) < g.2.2 := fun z => c (decide_eq_true z)
      have ef : fillG [g] = [] := by
        unfold fillG
        rw [List.filter_cons, if_neg (by simp; omega)]
        rfl
      refine ⟨_, by omega, rfl, by omega, rfl, by omega, ?_⟩
      rw [et, ef, List.append_nil]
      exact e3
  · rintro ys H2 ⟨rfl, e2, e3⟩
    rw [hxl, List.take_length] at e3
    exact q _ D ys (same_new hD _) upd_same hD (e3.same (same_new hD _))
end
def wayW : Nat → Int → List Int
  | 0, _ => []
  | e + 1, o => if o < 2 ^ e then 0 :: wayW e o else 1 :: wayW e (o - 2 ^ e)
theorem wayW_lt {e : Nat} {o : Int} (h : o < 2 ^ e) : wayW (e + 1) o = 0 :: wayW e o := by
  show (if o < 2 ^ e then _ else _) = _
  rw [if_pos h]
theorem wayW_ge {e : Nat} {o : Int} (h : ¬ o < 2 ^ e) : wayW (e + 1) o = 1 :: wayW e (o - 2 ^ e) := by
  show (if o < 2 ^ e then _ else _) = _
  rw [if_neg h]
theorem pow2 (e : Nat) : (2 : Int) ^ (e + 1) = 2 ^ e + 2 ^ e := by rw [Int.pow_succ]; omega
theorem wayW_len : ∀ (e : Nat) (o : Int), (wayW e o).length = e
  | 0, _ => rfl
  | e + 1, o => by
    by_cases h : o < 2 ^ e
    · rw [wayW_lt h, List.length_cons, wayW_len e]
    · rw [wayW_ge h, List.length_cons, wayW_len e]
theorem wayW_01 : ∀ (e : Nat) (o : Int), ∀ m ∈ wayW e o, m = 0 ∨ m = 1
  | 0, _, m, hm => by cases hm
  | e + 1, o, m, hm => by
    by_cases h : o < 2 ^ e
    · rw [wayW_lt h] at hm
      rcases List.mem_cons.mp hm with z | z
      · exact .inl z
      · exact wayW_01 e _ m z
    · rw [wayW_ge h] at hm
      rcases List.mem_cons.mp hm with z | z
      · exact .inr z
      · exact wayW_01 e _ m z
theorem where_in {low n : Int} {L : Nat} : whereS low L n = "within" ↔ (low ≤ n ∧ n ≤ low + 2 ^ L - 1) := by
  unfold whereS
  by_cases h : n < low
  · rw [if_pos h]
    exact ⟨fun z => absurd z (by decide), fun z => by omega⟩
  · rw [if_neg h]
    by_cases h2 : low + 2 ^ L - 1 < n
    · rw [if_pos h2]
      exact ⟨fun z => absurd z (by decide), fun z => by omega⟩
    · rw [if_neg h2]
      exact ⟨fun _ => by omega, fun _ => rfl⟩

/-- how many lie ahead of what a way leads to -/
def mlF : Nat → List Int → List Int → Int
  | _, [], _ => 0
  | 0, _ :: _, _ => 0
  | e + 1, w :: ws, us => (if w = 1 then ((halfO e 0 us).length : Int) else 0) + mlF e ws (halfO e w us)
theorem ml_way : ∀ (e : Nat) (o : Int) (us : List Int), 0 ≤ o → o < 2 ^ e → InO e us → mlF e (wayW e o) us = (us.countP fun x => decide (x < o) : Nat)
  | 0, o, us, h0, h1, hin => by
    have : us.countP (fun x => decide (x < o)) = 0 := List.countP_eq_zero.mpr fun x hx => by
      have := hin x hx
      simp at *
      omega
    rw [this]
    rfl
  | e + 1, o, us, h0, h1, hin => by
    have p := pow2 e
    have hp := p2pos e
    by_cases c : o < 2 ^ e
    · rw [wayW_lt c, mlF, if_neg (by decide), ml_way e o _ h0 c halfO_in, count_half, Int.zero_add]
      congr 1
      refine List.countP_congr fun x hx => ?_
      have hx' := hin x hx
      rw [Bool.and_eq_true, beq_iff_eq, decide_eq_true_eq, decide_eq_true_eq]
      constructor
      · rintro ⟨a, b⟩
        have := mod_mk hx'.1 hx'.2 a
        omega
      · intro a
        have hm : mk0 e x = 0 := by unfold mk0; rw [if_pos (by omega)]
        have := mod_mk hx'.1 hx'.2 hm
        exact ⟨hm, by omega⟩
    · rw [wayW_ge c, mlF, if_pos rfl, ml_way e (o - 2 ^ e) _ (by omega) (by omega) halfO_in, count_half]
      have l0 : (halfO e 0 us).length = us.countP fun x => mk0 e x == 0 := by
        unfold halfO
        rw [List.length_map, List.countP_eq_length_filter]
      rw [l0]
      have key : ∀ us : List Int, (∀ x ∈ us, 0 ≤ x ∧ x < (2 : Int) ^ (e + 1)) → (us.countP fun x => mk0 e x == 0) + (us.countP fun x => (mk0 e x == 1) && decide (x % 2 ^ e < o - 2 ^ e)) = us.countP fun x => decide (x < o) := by
        intro us
        induction us with
        | nil => intro _; rfl
        | cons x us ih =>
          intro h
          have ih' := ih fun y hy => h y (List.mem_cons_of_mem _ hy)
          have hx' := h x List.mem_cons_self
          rw [List.countP_cons, List.countP_cons, List.countP_cons, ← ih']
          rcases mk01 e x with m | m
          · have hxl : x < 2 ^ e := by
              unfold mk0 at m
              by_cases z : x < 2 ^ e
              · exact z
              · rw [if_neg z] at m; omega
            rw [m]
            simp [show x < o by omega]
            omega
          · have := mod_mk hx'.1 hx'.2 m
            have hxg : ¬ x < 2 ^ e := by
              unfold mk0 at m
              intro z
              rw [if_pos z] at m; omega
            rw [m]
            by_cases z : x < o
            · have z2 : x % 2 ^ e < o - 2 ^ e := by omega
              simp [z, z2]
              omega
            · have z2 : ¬ x % 2 ^ e < o - 2 ^ e := by omega
              simp [z, z2]
      have := key us hin
      omega
abbrev k_way_of : Nat := 4
def sp_way_of (K : PySem.W.Frag) : Sp := fun vs H Q _ => ∃ (b : Addr) (low num : Int) (L : Nat), vs = [.ref b, .int num] ∧ SqT K H b [.int low, .int (L : Int)] ∧ L ≤ 40 ∧
  (low ≤ num ∧ num ≤ low + 2 ^ L - 1) ∧ ∀ t H', Same H H' → TupF H' t ((wayW L (num - low)).map V.int) → Q (.ref t) H'
abbrev k_many_lesser : Nat := 4
def sp_many_lesser (K : PySem.W.Frag) : Sp := fun vs H Q _ => ∃ (ga wy : Addr) (xs : List V) (L : Nat) (o : Int) (gs : List G3), vs = [.ref ga, .ref wy] ∧ SqL K H ga xs ∧ GatAt H L xs gs ∧ (∀ g ∈ gs, GoodS L g) ∧ gs.length ≤ 100 ∧ SqT K H wy ((wayW L o).map V.int) ∧ 0 ≤ o ∧ o < 2 ^ L ∧
  ∀ H', Same H H' → Q (.int ((Wh gs).countP fun x => decide (x < o) : Nat)) H'
abbrev k_below : Nat := 5
def sp_below (K : PySem.W.Frag) : Sp := fun vs H Q _ => ∃ (b ga : Addr) (xs : List V) (low num : Int) (L : Nat) (gs : List G3), vs = [.ref b, .ref ga, .int num] ∧ SqT K H b [.int low, .int (L : Int)] ∧ L ≤ 40 ∧ SqL K H ga xs ∧ GatAt H L xs gs ∧ (∀ g ∈ gs, GoodS L g) ∧ gs.length ≤ 100 ∧
  ∀ H', Same H H' → Q (.int ((Wh gs).countP fun x => decide (x < num - low) : Nat)) H'
abbrev k_between : Nat := 6
def sp_between (K : PySem.W.Frag) : Sp := fun vs H Q _ => ∃ (b ga : Addr) (xs : List V) (low lo hi : Int) (L : Nat) (gs : List G3), vs = [.ref b, .ref ga, .int lo, .int hi] ∧ SqT K H b [.int low, .int (L : Int)] ∧ L ≤ 40 ∧ SqL K H ga xs ∧ GatAt H L xs gs ∧ (∀ g ∈ gs, GoodS L g) ∧ gs.length ≤ 100 ∧
  ∀ H', Same H H' → Q (.int ((Wh gs).countP (btw low lo hi) : Nat)) H'
theorem cnt_between {low lo hi : Int} (h : lo ≤ hi) : ∀ us : List Int, (us.countP fun x => decide (x < hi + 1 - low)) = (us.countP fun x => decide (x < lo - low)) + us.countP (btw low lo hi)
  | [] => rfl
  | x :: us => by
    rw [List.countP_cons, List.countP_cons, List.countP_cons, cnt_between h us]
    unfold btw
    by_cases c1 : x < lo - low
    · have c2 : x < hi + 1 - low := by omega
      have c3 : ¬ (lo ≤ low + x ∧ low + x ≤ hi) := by omega
      simp [c1, c2, c3]
      omega
    · by_cases c2 : x < hi + 1 - low
      · have c3 : lo ≤ low + x ∧ low + x ≤ hi := by omega
        simp [c1, c2, c3]
        omega
      · have c3 : ¬ (lo ≤ low + x ∧ low + x ≤ hi) := by omega
        simp [c1, c2, c3]
section
variable {P : Program} {w : World} {K : PySem.W.Frag} {mg : Str → Option Value} {base : Heap}
theorem ok_way_of (d : Def K mg "way_of" s_way_of ["bounds", "number"]) (z : Bz mg) (c_many_worths : Cal P w K mg base k_many_worths "many_worths" ["levels"] (sp_many_worths K)) (c_where : Cal P w K mg base k_where "where" ["bounds", "number"] (sp_where K)) : Cal P w K mg base k_way_of "way_of" ["bounds", "number"] (sp_way_of K) := by
  have sc := sc_way_of
  refine d.cal fun f fd F => F.ok sc (fun vs H Q E h => ?_) (fun cdv A outer s H vs Q E hr h => ?_)
  · obtain ⟨b, low, num, L, rfl, _⟩ := h
    rfl
  obtain ⟨b, low, num, L, rfl, hb, hL, c', q⟩ := h
  refine ⟨_, (pss_cons (ps_if (pt_cmpR op_ne (pe_fn c_where (hr.mono (by decide)) (by rfl) (pa_cons (pv 0) (pa_cons (pv 1) pa_nil))) pe_str (nomark _))
  (pss_one ps_never)
  pss_nil)
 (pss_cons (ps_set (i := 2) sc.nd rfl (Or.inl rfl) (pe_ix ix_tup (pv 0) pe_int (fun _ _ => rfl)))
 (pss_cons (ps_set (i := 3) sc.nd rfl (Or.inl rfl) (pe_fn c_many_worths (hr.mono (by decide)) (by rfl) (pa_cons (pe_ix ix_tup (pv 0) pe_int (fun _ _ => rfl)) pa_nil)))
 (pss_cons (ps_set (i := 4) sc.nd rfl (Or.inl rfl) (pe_lst pa_nil))
 (pss_cons (ps_for PassesOwn.never rfl (pi_range1 rfl z.range_ (pa_cons (pe_ix ix_tup (pv 0) pe_int (fun _ _ => rfl)) pa_nil)) (pg_name (i := 5) sc.nd rfl (Or.inl rfl))
  (pss_cons (ps_set (i := 3) sc.nd rfl (Or.inl rfl) (pe_op op_fdivB (pv 3) pe_int))
 (pss_one (ps_if (pt_cmpR op_lt (pv 1) (pe_op op_add (pv 2) (pv 3)) (nomark _))
  (pss_one (ps_expr (pe_bm PySem.F.plainAttrs_list PySem.F.slot_list_append PySem.F.type_list_append mt_append (pv 4) (pa_cons pe_int pa_nil))))
  (pss_cons (ps_expr (pe_bm PySem.F.plainAttrs_list PySem.F.slot_list_append PySem.F.type_list_append mt_append (pv 4) (pa_cons pe_int pa_nil)))
 (pss_one (ps_set (i := 2) sc.nd rfl (Or.inl rfl) (pe_op op_add (pv 2) (pv 3)))))))))
 (pss_one (ps_ret (pe_callTy call_tupleF (by rfl) z.tuple_ bt_tuple (pa_cons (pv 4) pa_nil))))))))), ?_⟩
  refine ⟨_, rfl, _, rfl, b, low, num, L, rfl, hb, hL, rfl, _, rfl, ?_⟩
  refine ite2 (fun c => ?_) (fun c => ?_)
  · rw [where_in.mpr c', decide_eq_true rfl] at c
    cases c
  · skip
    refine ⟨_, rfl, b, _, _, _, rfl, rfl, hb, rfl, _, rfl, b, _, _, _, rfl, rfl, hb, rfl, L, rfl, hL, szb rfl, fun wy hwy => ?_⟩
    have hb2 : ∀ o, SqT K (upd H wy o) b [.int low, .int (L : Int)] := fun o => (same_new hwy o).seqT hb
    refine ⟨_, rfl, b, _, _, _, rfl, rfl, hb2 _, rfl, (L : Int), rfl, by omega, by omega, for_range (n := L) (fun i σ H2 => ∃ (le : Int) (ws : List Int) (v : Option V), σ = [some (.ref b), some (.int num), some (.int le), some (.int (2 ^ (L - i))), some (.ref wy), v] ∧
      H2 = upd H wy (.lst (ws.map V.int)) ∧ ws.length = i ∧ 0 ≤ num - le ∧ num - le < 2 ^ (L - i) ∧ wayW L (num - low) = ws ++ wayW (L - i) (num - le)) ⟨low, [], none, rfl, rfl, rfl, by omega, by show num - low < 2 ^ L; omega, rfl⟩ ?_ ?_⟩
    · rintro i σ H2 hi ⟨le, ws, v, rfl, rfl, hl, h0, h1, hw⟩
      obtain ⟨e, he⟩ : ∃ e, L - i = e + 1 := ⟨L - i - 1, by omega⟩
      have he2 : L - (i + 1) = e := by omega
      have p := pow2 e
      have ph := pow_half e
      rw [he] at h1 hw ⊢
      refine ⟨_, rfl, _, _, rfl, rfl, ⟨by decide, by decide⟩, ?_⟩
      refine ⟨_, rfl, _, rfl, _, rfl, _, _, rfl, rfl, _, _, rfl, rfl, _, rfl, ?_⟩
      rw [ph, he2]
      refine ite2 (fun c => ?_) (fun c => ?_)
      · have c2 : num < le + 2 ^ e := of_decide_eq_true c
        rw [wayW_lt (show num - le < 2 ^ e by omega)] at hw
        refine ⟨_, rfl, .inl ⟨rfl, _, SqL.of upd_same⟩, wy, _, _, rfl, rfl, upd_same, ?_, ?_⟩
        · rw [List.length_map]; exact Nat.lt_of_le_of_lt (show ws.length ≤ 1000 by omega) (small1000 (Nat.le_refl _))
        · exact ⟨le, ws ++ [0], some (.int (0 + (i : Int))), congrArg (fun q : Int => [some (V.ref b), some (V.int num), some (V.int le), some (V.int q), some (V.ref wy), some (V.int (0 + (i : Int)))]) ph, by rw [upd_upd, List.map_append] <;> rfl, by rw [List.length_append, hl] <;> rfl, h0, by omega, by rw [hw, List.append_assoc] <;> rfl⟩
      · have c2 : ¬ num < le + 2 ^ e := fun z => c (decide_eq_true z)
        rw [wayW_ge (show ¬ num - le < 2 ^ e by omega)] at hw
        refine ⟨_, rfl, .inl ⟨rfl, _, SqL.of upd_same⟩, wy, _, _, rfl, rfl, upd_same, ?_, ?_⟩
        · rw [List.length_map]; exact Nat.lt_of_le_of_lt (show ws.length ≤ 1000 by omega) (small1000 (Nat.le_refl _))
        · refine ⟨_, rfl, _, rfl, _, _, rfl, rfl, le + 2 ^ e, ws ++ [1], some (.int (0 + (i : Int))), congrArg (fun q : Int => [some (V.ref b), some (V.int num), some (V.int (le + q)), some (V.int q), some (V.ref wy), some (V.int (0 + (i : Int)))]) ph, by rw [upd_upd, List.map_append] <;> rfl, by rw [List.length_append, hl] <;> rfl, by omega, by omega, ?_⟩
          have e2 : num - (le + 2 ^ e) = num - le - 2 ^ e := by omega
          rw [hw, e2, List.append_assoc]
          rfl
    · rintro σ H2 ⟨le, ws, v, rfl, rfl, hl, h0, h1, hw⟩
      rw [Nat.sub_self] at hw
      have hw2 : wayW L (num - low) = ws := by rw [hw]; exact List.append_nil ws
      refine ⟨_, rfl, wy, _, rfl, SqL.of upd_same, fun t H' s' ht => ?_⟩
      exact q t _ ((same_new hwy _).trans s') (by rw [hw2]; exact ht)
theorem ok_many_lesser (d : Def K mg "many_lesser" s_many_lesser ["gathering", "way"]) (z : Bz mg) (c_led : Cal P w K mg base k_led "led" ["gathering", "way"] (sp_led K)) (c_many_in : Cal P w K mg base k_many_in "many_in" ["gathering"] (sp_many_in K)) : Cal P w K mg base k_many_lesser "many_lesser" ["gathering", "way"] (sp_many_lesser K) := by
  have sc := sc_many_lesser
  refine d.cal fun f fd F => F.ok sc (fun vs H Q E h => ?_) (fun cdv A outer s H vs Q E hr h => ?_)
  · obtain ⟨ga, wy, xs, L, o, gs, rfl, _⟩ := h
    rfl
  obtain ⟨ga, wy, xs, L, o, gs, rfl, hga, hg, hgd, hl, hwy, h0, h1, q⟩ := h
  refine ⟨_, (pss_cons (ps_set (i := 2) sc.nd rfl (Or.inl rfl) pe_int)
 (pss_cons (ps_set (i := 3) sc.nd rfl (Or.inl rfl) (pv 0))
 (pss_cons (ps_for PassesOwn.never rfl (pi_tup (pv 1)) (pg_name (i := 4) sc.nd rfl (Or.inl rfl))
  (pss_cons (ps_if (pt_cmpR op_eq (pv 4) pe_int (nomark _))
  (pss_one (ps_set (i := 2) sc.nd rfl (Or.inl rfl) (pe_op op_add (pv 2) (pe_fn c_many_in (hr.mono (by decide)) (by rfl) (pa_cons (pe_fn c_led (hr.mono (by decide)) (by rfl) (pa_cons (pv 3) (pa_cons (pe_tup (pa_cons pe_int pa_nil)) pa_nil))) pa_nil)))))
  pss_nil)
 (pss_one (ps_set (i := 3) sc.nd rfl (Or.inl rfl) (pe_fn c_led (hr.mono (by decide)) (by rfl) (pa_cons (pv 3) (pa_cons (pe_tup (pa_cons (pv 4) pa_nil)) pa_nil)))))))
 (pss_one (ps_ret (pv 2)))))), ?_⟩
  rw [← ml_way L o (Wh gs) h0 h1 (W_in hgd)] at q
  have hwl := wayW_len L o
  have hw01 := wayW_01 L o
  generalize wayW L o = ws at *
  refine ⟨_, rfl, ?_⟩
  refine ⟨_, rfl, wy, rfl, ⟨_, hwy⟩, for_tup (K := K) (a := wy) (xs := ws.map V.int) (fun i σ H2 => ∃ (m : Int) (pa : Addr) (zs : List V) (gs' : List G3) (v4 : Option V), σ = [some (.ref ga), some (.ref wy), some (.int m), some (.ref pa), v4] ∧ Same H H2 ∧ SqL K H2 pa zs ∧ GatAt H2 (L - i) zs gs' ∧ (∀ g ∈ gs', GoodS (L - i) g) ∧ gs'.length ≤ 100 ∧ i ≤ ws.length ∧ mlF L ws (Wh gs) = m + mlF (L - i) (ws.drop i) (Wh gs'))
    ⟨0, ga, xs, gs, none, rfl, Same.refl H, hga, hg, hgd, hl, Nat.zero_le _, by rw [List.drop_zero, Int.zero_add]; rfl⟩ (fun i σ H2 _ ⟨_, _, _, _, _, _, s2, _⟩ => s2.seqT hwy) ?_ ?_⟩
  · rintro i x σ H2 hi ⟨m, pa, zs, gs', v4, rfl, s2, hpa, hg', hgd', hl', hil, hm⟩
    obtain ⟨wv, hwv, rfl⟩ : ∃ t, ws[i]? = some t ∧ x = .int t := by
      rw [List.getElem?_map] at hi
      cases e : ws[i]? with
      | none => rw [e] at hi; cases hi
      | some m => rw [e] at hi; exact ⟨m, rfl, (Option.some.inj hi).symm⟩
    have hil2 : i < ws.length := (List.getElem?_eq_some_iff.mp hwv).1
    have hv01 := hw01 wv (List.mem_of_getElem? hwv)
    obtain ⟨e, he⟩ : ∃ e, L - i = e + 1 := ⟨L - i - 1, by omega⟩
    have he2 : L - (i + 1) = e := by omega
    rw [he] at hg' hgd' hm
    rw [drop_cons hwv, mlF] at hm
    have el : ∀ w : Int, gs'.map (ledS (e + 1) [w]) = gs'.map (led1 e w) := fun w => List.map_congr_left fun g _ => by rw [ledS_cons, ledS_empty]
    have good1 : ∀ w, ∀ g ∈ gs'.map (led1 e w), GoodS e g := fun w g hg => by
      obtain ⟨g', hg', rfl⟩ := List.mem_map.mp hg
      exact led1_good (hgd' g' hg')
    have step : ∀ (H3 : Hp), Same H2 H3 → ∀ (m' : Int), mlF L ws (Wh gs) = m' + mlF e (ws.drop (i + 1)) (halfO e wv (Wh gs')) → True := fun _ _ _ _ => trivial
    refine ⟨_, rfl, rfl, _, rfl, ?_⟩
    rcases hv01 with rfl | rfl
    · refine ite2 (fun c => absurd (V.int.inj (of_decide_eq_true c)) (by decide)) (fun _ => ?_)
      rw [if_neg (by decide), Int.zero_add] at hm
      refine ⟨_, rfl, _, rfl, szb rfl, fun w1 hw1 => ?_⟩
      have s3 := same_new hw1 (.tup [V.int 0])
      have hw1' : upd H2 w1 (.tup [V.int 0]) w1 = some (.tup [V.int 0]) := upd_same
      generalize upd H2 w1 (.tup [V.int 0]) = H3 at *
      refine ⟨pa, w1, zs, e + 1, [0], gs', rfl, s3.seq hpa, hg'.same s3, hgd', by omega, SqT.of hw1', by simp, (fun x hx => by rw [List.mem_singleton.mp hx]; exact .inl rfl), fun H4 D4 z4 s4 hD4 hD4n hg4 => ?_⟩
      rw [el] at hg4
      exact ⟨m, D4, z4, _, _, rfl, s2.trans (s3.trans s4), SqL.of hD4, by rw [he2]; exact hg4, by rw [he2]; exact good1 0, by rw [List.length_map]; exact hl', by omega, by rw [he2, W_led hgd']; exact hm⟩
    · refine ite2 (fun _ => ?_) (fun c => absurd (decide_eq_true rfl) c)
      rw [if_pos rfl] at hm
      refine ⟨_, rfl, _, rfl, szb rfl, fun w0 hw0 => ?_⟩
      have s3 := same_new hw0 (.tup [V.int 0])
      have hw0' : upd H2 w0 (.tup [V.int 0]) w0 = some (.tup [V.int 0]) := upd_same
      generalize upd H2 w0 (.tup [V.int 0]) = H3 at *
      refine ⟨pa, w0, zs, e + 1, [0], gs', rfl, s3.seq hpa, hg'.same s3, hgd', by omega, SqT.of hw0', by simp, (fun x hx => by rw [List.mem_singleton.mp hx]; exact .inl rfl), fun H4 D4 z4 s4 hD4 hD4n hg4 => ?_⟩
      rw [el] at hg4
      refine ⟨D4, z4, e, _, rfl, SqL.of hD4, hg4, by rw [List.length_map]; omega, fun H5 s5 => ⟨_, _, rfl, rfl, ?_⟩⟩
      have s25 := (s3.trans s4).trans s5
      refine ⟨_, rfl, _, rfl, szb rfl, fun w1 hw1 => ?_⟩
      have s6 := same_new hw1 (.tup [V.int 1])
      have hw1' : upd H5 w1 (.tup [V.int 1]) w1 = some (.tup [V.int 1]) := upd_same
      generalize upd H5 w1 (.tup [V.int 1]) = H6 at *
      have s26 := s25.trans s6
      refine ⟨pa, w1, zs, e + 1, [1], gs', rfl, s26.seq hpa, hg'.same s26, hgd', by omega, SqT.of hw1', by simp, (fun x hx => by rw [List.mem_singleton.mp hx]; exact .inr rfl), fun H7 D7 z7 s7 hD7 hD7n hg7 => ?_⟩
      rw [el] at hg7
      refine ⟨_, D7, z7, _, _, rfl, s2.trans (s26.trans s7), SqL.of hD7, by rw [he2]; exact hg7, by rw [he2]; exact good1 1, by rw [List.length_map]; exact hl', by omega, ?_⟩
      rw [he2, W_led hgd', manyG_W (good1 0), W_led hgd', hm]
      omega
  · rintro σ H2 ⟨m, pa, zs, gs', v4, rfl, s2, hpa, hg', hgd', hl', hil, hm⟩
    rw [List.length_map, List.drop_length] at hm
    have e0 : mlF (L - ws.length) [] (Wh gs') = 0 := by cases L - ws.length <;> rfl
    rw [e0, Int.add_zero] at hm
    rw [hm] at q
    exact ⟨_, rfl, q H2 s2⟩
theorem ok_below (d : Def K mg "below" s_below ["bounds", "gathering", "number"]) (z : Bz mg) (c_many_in : Cal P w K mg base k_many_in "many_in" ["gathering"] (sp_many_in K)) (c_many_lesser : Cal P w K mg base k_many_lesser "many_lesser" ["gathering", "way"] (sp_many_lesser K)) (c_way_of : Cal P w K mg base k_way_of "way_of" ["bounds", "number"] (sp_way_of K)) (c_where : Cal P w K mg base k_where "where" ["bounds", "number"] (sp_where K)) : Cal P w K mg base k_below "below" ["bounds", "gathering", "number"] (sp_below K) := by
  have sc := sc_below
  refine d.cal fun f fd F => F.ok sc (fun vs H Q E h => ?_) (fun cdv A outer s H vs Q E hr h => ?_)
  · obtain ⟨b, ga, xs, low, num, L, gs, rfl, _⟩ := h
    rfl
  obtain ⟨b, ga, xs, low, num, L, gs, rfl, hb, hL, hga, hg, hgd, hl, q⟩ := h
  refine ⟨_, (pss_cons (ps_set (i := 3) sc.nd rfl (Or.inl rfl) (pe_fn c_where (hr.mono (by decide)) (by rfl) (pa_cons (pv 0) (pa_cons (pv 2) pa_nil))))
 (pss_cons (ps_if (pt_cmpR op_eq (pv 3) pe_str (nomark _))
  (pss_one (ps_ret pe_int))
  pss_nil)
 (pss_cons (ps_if (pt_cmpR op_eq (pv 3) pe_str (nomark _))
  (pss_one (ps_ret (pe_fn c_many_in (hr.mono (by decide)) (by rfl) (pa_cons (pv 1) pa_nil))))
  pss_nil)
 (pss_one (ps_ret (pe_fn c_many_lesser (hr.mono (by decide)) (by rfl) (pa_cons (pv 1) (pa_cons (pe_fn c_way_of (hr.mono (by decide)) (by rfl) (pa_cons (pv 0) (pa_cons (pv 2) pa_nil))) pa_nil)))))))), ?_⟩
  have hin := W_in hgd
  have hp := p2pos L
  refine ⟨_, rfl, _, rfl, b, low, num, L, rfl, hb, hL, ?_⟩
  unfold whereS
  by_cases c1 : num < low
  · rw [if_pos c1]
    refine ⟨_, rfl, rfl, _, rfl, ite2 (fun _ => ?_) (fun c => absurd (decide_eq_true rfl) c)⟩
    have e0 : (Wh gs).countP (fun x => decide (x < num - low)) = 0 := List.countP_eq_zero.mpr fun x hx => by
      have := hin x hx
      simp
      omega
    rw [e0] at q
    exact q H (Same.refl H)
  rw [if_neg c1]
  by_cases c2 : low + 2 ^ L - 1 < num
  · rw [if_pos c2]
    refine ⟨_, rfl, rfl, _, rfl, ite2 (fun c => absurd (of_decide_eq_true c) (by decide)) (fun _ => ?_)⟩
    refine ⟨_, rfl, rfl, _, rfl, ite2 (fun _ => ?_) (fun c => absurd (decide_eq_true rfl) c)⟩
    have e0 : (Wh gs).countP (fun x => decide (x < num - low)) = (Wh gs).length := List.countP_eq_length.mpr fun x hx => by
      have := hin x hx
      exact decide_eq_true (by omega)
    rw [e0] at q
    refine ⟨_, rfl, ga, xs, L, gs, rfl, hga, hg, by omega, fun H1 s1 => ?_⟩
    rw [manyG_W hgd]
    exact q H1 s1
  rw [if_neg c2]
  refine ⟨_, rfl, rfl, _, rfl, ite2 (fun c => absurd (of_decide_eq_true c) (by decide)) (fun _ => ?_)⟩
  refine ⟨_, rfl, rfl, _, rfl, ite2 (fun c => absurd (of_decide_eq_true c) (by decide)) (fun _ => ?_)⟩
  refine ⟨_, rfl, _, rfl, _, rfl, b, low, num, L, rfl, hb, hL, ⟨by omega, by omega⟩, fun t H1 s1 ht => ?_⟩
  exact ⟨ga, t, xs, L, num - low, gs, rfl, s1.seq hga, hg.same s1, hgd, hl, ht.sq, by omega, by omega, fun H2 s2 => q H2 (s1.trans s2)⟩
theorem ok_between (d : Def K mg "between" s_between ["bounds", "gathering", "low", "high"]) (z : Bz mg) (c_below : Cal P w K mg base k_below "below" ["bounds", "gathering", "number"] (sp_below K)) : Cal P w K mg base k_between "between" ["bounds", "gathering", "low", "high"] (sp_between K) := by
  have sc := sc_between
  refine d.cal fun f fd F => F.ok sc (fun vs H Q E h => ?_) (fun cdv A outer s H vs Q E hr h => ?_)
  · obtain ⟨b, ga, xs, low, lo, hi, L, gs, rfl, _⟩ := h
    rfl
  obtain ⟨b, ga, xs, low, lo, hi, L, gs, rfl, hb, hL, hga, hg, hgd, hl, q⟩ := h
  refine ⟨_, (pss_cons (ps_if (pt_cmpR op_gt (pv 2) (pv 3) (nomark _))
  (pss_one (ps_ret pe_int))
  pss_nil)
 (pss_one (ps_ret (pe_op op_sub (pe_fn c_below (hr.mono (by decide)) (by rfl) (pa_cons (pv 0) (pa_cons (pv 1) (pa_cons (pe_op op_add (pv 3) pe_int) pa_nil)))) (pe_fn c_below (hr.mono (by decide)) (by rfl) (pa_cons (pv 0) (pa_cons (pv 1) (pa_cons (pv 2) pa_nil)))))))), ?_⟩
  refine ⟨_, rfl, _, rfl, _, _, rfl, rfl, _, rfl, ?_⟩
  refine ite2 (fun c => ?_) (fun c => ?_)
  · have c' := of_decide_eq_true c
    have e0 : (Wh gs).countP (btw low lo hi) = 0 := List.countP_eq_zero.mpr fun x hx => by
      unfold btw
      simp
      omega
    rw [e0] at q
    exact q H (Same.refl H)
  · have c' : ¬ hi < lo := fun z => c (decide_eq_true z)
    refine ⟨_, rfl, _, rfl, _, rfl, _, _, rfl, rfl, b, ga, xs, low, hi + 1, L, gs, rfl, hb, hL, hga, hg, hgd, hl, fun H1 s1 => ?_⟩
    refine ⟨_, rfl, _, rfl, _, rfl, b, ga, xs, low, lo, L, gs, rfl, s1.seqT hb, hL, s1.seq hga, hg.same s1, hgd, hl, fun H2 s2 => ⟨_, _, rfl, rfl, ?_⟩⟩
    have q' := q H2 (s1.trans s2)
    have e0 := cnt_between (low := low) (show lo ≤ hi by omega) (Wh gs)
    have e1 : (((Wh gs).countP (fun x => decide (x < hi + 1 - low)) : Nat) : Int) - (((Wh gs).countP (fun x => decide (x < lo - low)) : Nat) : Int) = (((Wh gs).countP (btw low lo hi) : Nat) : Int) := by omega
    rw [← e1] at q'
    exact q'
end
theorem span_way : ∀ (e : Nat) (l o : Int), 0 ≤ o → o < 2 ^ e → (wayW e o).foldl stS (l, 2 ^ e) = (l + o, 1)
  | 0, l, o, h0, h1 => by
    have e1 : o = 0 := by
      have z : (2 : Int) ^ 0 = 1 := rfl
      omega
    rw [e1, Int.add_zero]
    rfl
  | e + 1, l, o, h0, h1 => by
    have p := pow2 e
    have q := pow_half e
    by_cases h : o < 2 ^ e
    · rw [wayW_lt h, List.foldl_cons]
      have z : stS (l, 2 ^ (e + 1)) 0 = (l, 2 ^ e) := by unfold stS; rw [if_neg (by decide)]; simp only [q]
      rw [z]
      exact span_way e l o h0 h
    · rw [wayW_ge h, List.foldl_cons]
      have z : stS (l, 2 ^ (e + 1)) 1 = (l + 2 ^ e, 2 ^ e) := by unfold stS; rw [if_pos rfl]; simp only [q]
      rw [z, span_way e (l + 2 ^ e) (o - 2 ^ e) (by omega) (by omega)]
      congr 1
      omega
abbrev k__law_some_number : Nat := 2
def sp__law_some_number (_ : PySem.W.Frag) : Sp := fun vs H Q _ => ∃ (pen b ra : Addr) (low : Int) (L : Nat) (xs : List V) (nss : List (List Int)), vs = [.ref pen, .ref b, .ref ra] ∧ PenN H pen ∧ H b = some (.tup [.int low, .int (L : Int)]) ∧ L ≤ 40 ∧ H ra = some (.lst xs) ∧ ra ≠ pen ∧ RowsAt H [pen] low L xs nss ∧ 0 < nss.length ∧ nss.length ≤ 3 ∧
  ∀ (i : Int) (H' : Hp), Keep pen H H' → PenN H' pen → Q (.int i) H'
section
variable {P : Program} {w : World} {K : PySem.W.Frag} {mg : Str → Option Value} {base : Heap}
theorem ok__law_some_number (d : Def K mg "_law_some_number" s__law_some_number ["_law_pen_here", "_law_bounds_here", "_law_rows"]) (z : Bz mg) (c__law_take : Cal P w K mg base k__law_take "_law_take" ["_law_pen_here", "_law_size"] (sp__law_take K)) : Cal P w K mg base k__law_some_number "_law_some_number" ["_law_pen_here", "_law_bounds_here", "_law_rows"] (sp__law_some_number K) := by
  have sc := sc__law_some_number
  refine d.cal fun f fd F => F.ok sc (fun vs H Q E h => ?_) (fun cdv A outer s H vs Q E hr h => ?_)
  · obtain ⟨pen, b, ra, low, L, xs, nss, rfl, _⟩ := h
    rfl
  obtain ⟨pen, b, ra, low, L, xs, nss, rfl, P0, hb, hL, hra, hrap, hR, hn0, hn3, q⟩ := h
  refine ⟨_, (pss_cons (ps_set (i := 3) sc.nd rfl (Or.inl rfl) (pe_fn c__law_take (hr.mono (by decide)) (by rfl) (pa_cons (pv 0) (pa_cons pe_int pa_nil))))
 (pss_cons (ps_set (i := 4) sc.nd rfl (Or.inl rfl) (pe_ix ix_list (pv 2) (pe_fn c__law_take (hr.mono (by decide)) (by rfl) (pa_cons (pv 0) (pa_cons (pe_callB call_len_seq (by rfl) z.len_ bt_len (pa_cons (pv 2) pa_nil)) pa_nil))) (fun _ _ => rfl)))
 (pss_cons (ps_set (i := 5) sc.nd rfl (Or.inl rfl) (pe_op op_add (pe_ix ix_tup (pv 1) pe_int (fun _ _ => rfl)) (pe_fn c__law_take (hr.mono (by decide)) (by rfl) (pa_cons (pv 0) (pa_cons (pe_op op_shl pe_int (pe_ix ix_tup (pv 1) pe_int (fun _ _ => rfl))) pa_nil)))))
 (pss_cons (ps_if (PW.pt (pw_and (pt_cmpR op_lt (pv 3) pe_int (nomark _)) (pw_and1 (pt_cmpR (op_neL hr.units) (pv 4) (pe_lst pa_nil) (nomark _)))))
  (pss_one (ps_ret (pe_op op_add (pe_ix ix_list (pv 4) (pe_fn c__law_take (hr.mono (by decide)) (by rfl) (pa_cons (pv 0) (pa_cons (pe_callB call_len_seq (by rfl) z.len_ bt_len (pa_cons (pv 4) pa_nil)) pa_nil))) (fun _ _ => rfl)) (pe_ix ix_list (pe_lst (pa_cons pe_int (pa_cons pe_int (pa_cons (pe_un un_neg pe_int) (pa_cons pe_int pa_nil))))) (pv 3) (fun _ _ => rfl)))))
  pss_nil)
 (pss_cons (ps_if (pt_cmpR op_eq (pv 3) pe_int (nomark _))
  (pss_one (ps_ret (pe_op op_add (pe_ix ix_tup (pv 1) pe_int (fun _ _ => rfl)) (pe_ix ix_list (pe_lst (pa_cons (pe_un un_neg pe_int) (pa_cons pe_int (pa_cons pe_int pa_nil)))) (pe_fn c__law_take (hr.mono (by decide)) (by rfl) (pa_cons (pv 0) (pa_cons pe_int pa_nil))) (fun _ _ => rfl)))))
  pss_nil)
 (pss_cons (ps_if (pt_cmpR op_eq (pv 3) pe_int (nomark _))
  (pss_one (ps_ret (pe_op op_add (pe_op op_add (pe_ix ix_tup (pv 1) pe_int (fun _ _ => rfl)) (pe_op op_shl pe_int (pe_ix ix_tup (pv 1) pe_int (fun _ _ => rfl)))) (pe_ix ix_list (pe_lst (pa_cons (pe_un un_neg pe_int) (pa_cons pe_int (pa_cons (pe_un un_neg pe_int) pa_nil)))) (pe_fn c__law_take (hr.mono (by decide)) (by rfl) (pa_cons (pv 0) (pa_cons pe_int pa_nil))) (fun _ _ => rfl)))))
  pss_nil)
 (pss_cons (ps_if (pt_cmpR op_eq (pv 3) pe_int (nomark _))
  (pss_one (ps_ret (pe_op op_mul (pe_ix ix_list (pe_lst (pa_cons (pe_un un_neg pe_int) (pa_cons pe_int pa_nil))) (pe_fn c__law_take (hr.mono (by decide)) (by rfl) (pa_cons (pv 0) (pa_cons pe_int pa_nil))) (fun _ _ => rfl)) (pe_op op_add (pe_op op_pow pe_int pe_int) (pe_fn c__law_take (hr.mono (by decide)) (by rfl) (pa_cons (pv 0) (pa_cons (pe_op op_pow pe_int pe_int) pa_nil)))))))
  pss_nil)
 (pss_one (ps_ret (pv 5)))))))))), ?_⟩
  have hp := p2pos L
  have hq := p2le hL
  have hxl := hR.1
  refine ⟨_, rfl, pen, 8, rfl, P0, by omega, by omega, fun wv H1 k1 P1 w0 w1 => ?_⟩
  have hra1 := k1 _ _ hrap hra
  refine ⟨_, rfl, _, rfl, _, rfl, ra, _, rfl, .inl (SqL.of hra1), pen, _, rfl, P1, by omega, by omega, fun j H2 k2 P2 j0 j1 => ?_⟩
  have hb2 := k2 _ _ (P1.ne (k1 _ _ (P0.ne hb) hb)) (k1 _ _ (P0.ne hb) hb)
  have hra2 := k2 _ _ hrap hra1
  have hR2 : RowsAt H2 [pen] low L xs nss := (hR.map fun x ns h => h.keep k1 (by simp)).map fun x ns h => h.keep k2 (by simp)
  have hjx : j.toNat < xs.length := by omega
  have gx : xs[j.toNat]? = some xs[j.toNat] := List.getElem?_eq_getElem hjx
  have gn : nss[j.toNat]? = some (nss[j.toNat]'(by omega)) := List.getElem?_eq_getElem _
  generalize (nss[j.toNat]'(by omega)) = ns at gn
  obtain ⟨r, hxr, hrav, hr2, hwr, hrl⟩ := hR2.2 _ _ ns gx gn
  have hrp : r ≠ pen := fun z => hrav (by rw [z]; simp)
  rw [hxr] at gx
  have hat : atI xs j = some (.ref r) := by
    have := atI_nat gx
    rwa [Int.toNat_of_nonneg j0] at this
  refine ⟨ra, _, _, _, rfl, rfl, SqL.of hra2, hat, ?_⟩
  refine ⟨_, rfl, b, _, _, _, rfl, rfl, SqT.of hb2, rfl, _, rfl, _, rfl, b, _, _, _, rfl, rfl, SqT.of hb2, rfl, _, _, rfl, rfl, ⟨by omega, by omega, by decide⟩, ?_⟩
  dsimp only; rw [shlOne]
  refine ⟨pen, _, rfl, P2, hp, by omega, fun nv H3 k3 P3 n0 n1 => ⟨_, _, rfl, rfl, ?_⟩⟩
  have hb3 := k3 _ _ (P2.ne hb2) hb2
  have hr3 := k3 _ _ hrp hr2
  have k03 := (k1.trans k2).trans k3
  refine ⟨_, rfl, _, _, rfl, rfl, _, rfl, ?_⟩
  have rest : True := trivial
  by_cases hrow : wv < 4 ∧ ns ≠ []
  · refine ite2 (fun _ => ?_) (fun c => absurd (decide_eq_true hrow.1) c)
    refine ⟨_, rfl, szb rfl, fun e0 he0 => ?_⟩
    have s4 := same_new he0 (.lst [])
    refine ⟨r, e0, ns, [], rfl, rfl, s4.seq (SqL.of hr3), SqL.of upd_same, _, rfl, ?_⟩
    have P4 := P3.same s4
    have hr4 := s4 _ _ hr3
    have k04 : Keep pen H (upd H3 e0 (.lst [])) := k03.trans (Keep.same s4)
    generalize upd H3 e0 (.lst []) = H4 at *
    refine ite2 (fun _ => ?_) (fun c => absurd (by rw [decide_eq_false hrow.2]; rfl) c)
    have hnp : 0 < ns.length := List.length_pos_iff.mpr hrow.2
    refine ⟨_, rfl, _, rfl, _, rfl, r, _, rfl, .inl (SqL.of hr4), pen, _, rfl, P4, by rw [List.length_map]; omega, by rw [List.length_map]; omega, fun u6 H6 k6 P6 a6 b6 => ?_⟩
    rw [List.length_map] at b6
    obtain ⟨y, hy, hv⟩ := atI_ints (l := ns) a6 b6
    refine ⟨r, _, _, _, rfl, rfl, SqL.of (k6 _ _ hrp hr4), hv, _, rfl, szb rfl, fun l4 hl4 => ?_⟩
    have s7 := same_new hl4 (.lst [V.int 0, .int 1, .int (-1), .int 0])
    obtain ⟨y2, _, hv2⟩ := atI_ints (l := [0, 1, -1, 0]) w0 (by simpa using hrow.1)
    refine ⟨_, rfl, l4, _, _, _, rfl, rfl, SqL.of upd_same, hv2, _, _, rfl, rfl, q _ _ ((k04.trans k6).trans (.same s7)) (P6.same s7)⟩
  refine ite2 (fun c => ⟨_, rfl, szb rfl, fun e0 he0 => ⟨r, e0, ns, [], rfl, rfl, (same_new he0 (.lst [])).seq (SqL.of hr3), SqL.of upd_same, _, rfl, ite2 (fun c5 => absurd ⟨of_decide_eq_true c, fun z => by rw [z] at c5; exact absurd c5 (by decide)⟩ hrow) (fun _ => ?_)⟩⟩) (fun _ => ?_)
  · have s4 := same_new he0 (.lst [])
    have P3' := P3.same s4
    have hb3' := s4 _ _ hb3
    have k03' : Keep pen H (upd H3 e0 (.lst [])) := k03.trans (Keep.same s4)
    generalize upd H3 e0 (.lst []) = H4 at *
    have P3 := P3'
    have hb3 := hb3'
    have k03 := k03'
    refine ⟨_, rfl, rfl, _, rfl, ?_⟩
    refine ite2 (fun _ => ?_) (fun _ => ?_)
    · refine ⟨_, rfl, b, _, _, _, rfl, rfl, SqT.of hb3, rfl, _, rfl, szb rfl, fun l4 hl4 => ?_⟩
      have s5 := same_new hl4 (.lst [V.int (-1), .int 0, .int 1])
      refine ⟨_, rfl, pen, 3, rfl, P3.same s5, by omega, by omega, fun u6 H6 k6 P6 a6 b6 => ?_⟩
      obtain ⟨y2, _, hv2⟩ := atI_ints (l := [-1, 0, 1]) a6 (by simpa using b6)
      exact ⟨l4, _, _, _, rfl, rfl, SqL.of (k6 _ _ (P3.fresh hl4) upd_same), hv2, _, _, rfl, rfl, q _ _ ((k03.trans (.same s5)).trans k6) P6⟩
    refine ⟨_, rfl, rfl, _, rfl, ?_⟩
    refine ite2 (fun _ => ?_) (fun _ => ?_)
    · refine ⟨_, rfl, b, _, _, _, rfl, rfl, SqT.of hb3, rfl, _, rfl, b, _, _, _, rfl, rfl, SqT.of hb3, rfl, _, _, rfl, rfl, ⟨by omega, by omega, by decide⟩, _, _, rfl, rfl, _, rfl, _, rfl, szb rfl, fun l4 hl4 => ?_⟩
      have s5 := same_new hl4 (.lst [V.int (-1), .int 0, .int (-2)])
      refine ⟨_, rfl, pen, 3, rfl, P3.same s5, by omega, by omega, fun u6 H6 k6 P6 a6 b6 => ?_⟩
      obtain ⟨y2, _, hv2⟩ := atI_ints (l := [-1, 0, -2]) a6 (by simpa using b6)
      exact ⟨l4, _, _, _, rfl, rfl, SqL.of (k6 _ _ (P3.fresh hl4) upd_same), hv2, _, _, rfl, rfl, q _ _ ((k03.trans (.same s5)).trans k6) P6⟩
    refine ⟨_, rfl, rfl, _, rfl, ?_⟩
    refine ite2 (fun _ => ?_) (fun _ => ?_)
    · refine ⟨_, rfl, szb rfl, fun l4 hl4 => ?_⟩
      have s5 := same_new hl4 (.lst [V.int (-1), .int 1])
      refine ⟨_, rfl, pen, 2, rfl, P3.same s5, by omega, by omega, fun u6 H6 k6 P6 a6 b6 => ?_⟩
      obtain ⟨y2, hy2, hv2⟩ := atI_ints (l := [-1, 1]) a6 (by simpa using b6)
      have hy : y2 = -1 ∨ y2 = 1 := by simpa using hy2
      refine ⟨l4, _, _, _, rfl, rfl, SqL.of (k6 _ _ (P3.fresh hl4) upd_same), hv2, _, _, rfl, rfl, ⟨by decide, by decide, by decide⟩, _, rfl, _, _, rfl, rfl, ⟨by decide, by decide, by decide⟩, pen, _, rfl, P6, by decide, by decide, fun u7 H7 k7 P7 a7 b7 => ?_⟩
      exact ⟨_, _, rfl, rfl, _, _, rfl, rfl, .inl ⟨by omega, by omega⟩, q _ _ (((k03.trans (.same s5)).trans k6).trans k7) P7⟩
    exact ⟨_, rfl, q _ _ k03 P3⟩
  · skip
    refine ⟨_, rfl, rfl, _, rfl, ?_⟩
    refine ite2 (fun _ => ?_) (fun _ => ?_)
    · refine ⟨_, rfl, b, _, _, _, rfl, rfl, SqT.of hb3, rfl, _, rfl, szb rfl, fun l4 hl4 => ?_⟩
      have s5 := same_new hl4 (.lst [V.int (-1), .int 0, .int 1])
      refine ⟨_, rfl, pen, 3, rfl, P3.same s5, by omega, by omega, fun u6 H6 k6 P6 a6 b6 => ?_⟩
      obtain ⟨y2, _, hv2⟩ := atI_ints (l := [-1, 0, 1]) a6 (by simpa using b6)
      exact ⟨l4, _, _, _, rfl, rfl, SqL.of (k6 _ _ (P3.fresh hl4) upd_same), hv2, _, _, rfl, rfl, q _ _ ((k03.trans (.same s5)).trans k6) P6⟩
    refine ⟨_, rfl, rfl, _, rfl, ?_⟩
    refine ite2 (fun _ => ?_) (fun _ => ?_)
    · refine ⟨_, rfl, b, _, _, _, rfl, rfl, SqT.of hb3, rfl, _, rfl, b, _, _, _, rfl, rfl, SqT.of hb3, rfl, _, _, rfl, rfl, ⟨by omega, by omega, by decide⟩, _, _, rfl, rfl, _, rfl, _, rfl, szb rfl, fun l4 hl4 => ?_⟩
      have s5 := same_new hl4 (.lst [V.int (-1), .int 0, .int (-2)])
      refine ⟨_, rfl, pen, 3, rfl, P3.same s5, by omega, by omega, fun u6 H6 k6 P6 a6 b6 => ?_⟩
      obtain ⟨y2, _, hv2⟩ := atI_ints (l := [-1, 0, -2]) a6 (by simpa using b6)
      exact ⟨l4, _, _, _, rfl, rfl, SqL.of (k6 _ _ (P3.fresh hl4) upd_same), hv2, _, _, rfl, rfl, q _ _ ((k03.trans (.same s5)).trans k6) P6⟩
    refine ⟨_, rfl, rfl, _, rfl, ?_⟩
    refine ite2 (fun _ => ?_) (fun _ => ?_)
    · refine ⟨_, rfl, szb rfl, fun l4 hl4 => ?_⟩
      have s5 := same_new hl4 (.lst [V.int (-1), .int 1])
      refine ⟨_, rfl, pen, 2, rfl, P3.same s5, by omega, by omega, fun u6 H6 k6 P6 a6 b6 => ?_⟩
      obtain ⟨y2, hy2, hv2⟩ := atI_ints (l := [-1, 1]) a6 (by simpa using b6)
      have hy : y2 = -1 ∨ y2 = 1 := by simpa using hy2
      refine ⟨l4, _, _, _, rfl, rfl, SqL.of (k6 _ _ (P3.fresh hl4) upd_same), hv2, _, _, rfl, rfl, ⟨by decide, by decide, by decide⟩, _, rfl, _, _, rfl, rfl, ⟨by decide, by decide, by decide⟩, pen, _, rfl, P6, by decide, by decide, fun u7 H7 k7 P7 a7 b7 => ?_⟩
      exact ⟨_, _, rfl, rfl, _, _, rfl, rfl, .inl ⟨by omega, by omega⟩, q _ _ (((k03.trans (.same s5)).trans k6).trans k7) P7⟩
    exact ⟨_, rfl, q _ _ k03 P3⟩
end
/-! ### the so-many-th least, and sums -/
def kth : Nat → List Int → Nat → Int
  | 0, _, _ => 0
  | e + 1, us, k => if k < (halfO e 0 us).length then kth e (halfO e 0 us) k else 2 ^ e + kth e (halfO e 1 us) (k - (halfO e 0 us).length)
theorem kth_lo {e : Nat} {us : List Int} {k : Nat} (h : k < (halfO e 0 us).length) : kth (e + 1) us k = kth e (halfO e 0 us) k := by rw [kth, if_pos h]
theorem kth_hi {e : Nat} {us : List Int} {k : Nat} (h : ¬ k < (halfO e 0 us).length) : kth (e + 1) us k = 2 ^ e + kth e (halfO e 1 us) (k - (halfO e 0 us).length) := by rw [kth, if_neg h]
theorem kth_rng : ∀ (e : Nat) (us : List Int) (k : Nat), 0 ≤ kth e us k ∧ kth e us k < 2 ^ e
  | 0, us, k => ⟨Int.le_refl _, (by decide : (0 : Int) < 2 ^ 0)⟩
  | e + 1, us, k => by
    have hp := pow2 e
    have h2 := p2pos e
    by_cases c : k < (halfO e 0 us).length
    · rw [kth_lo c]
      have := kth_rng e (halfO e 0 us) k
      omega
    · rw [kth_hi c]
      have := kth_rng e (halfO e 1 us) (k - (halfO e 0 us).length)
      omega
theorem wayW_lo {e : Nat} {us : List Int} {k : Nat} (h : k < (halfO e 0 us).length) : wayW (e + 1) (kth (e + 1) us k) = 0 :: wayW e (kth e (halfO e 0 us) k) := by
  rw [kth_lo h]
  exact wayW_lt (kth_rng e _ k).2
theorem wayW_hi {e : Nat} {us : List Int} {k : Nat} (h : ¬ k < (halfO e 0 us).length) : wayW (e + 1) (kth (e + 1) us k) = 1 :: wayW e (kth e (halfO e 1 us) (k - (halfO e 0 us).length)) := by
  rw [kth_hi h, wayW_ge (by have := (kth_rng e (halfO e 1 us) (k - (halfO e 0 us).length)).1; omega)]
  have : 2 ^ e + kth e (halfO e 1 us) (k - (halfO e 0 us).length) - 2 ^ e = kth e (halfO e 1 us) (k - (halfO e 0 us).length) := by omega
  rw [this]
/-- how many lie below, by halves -/
theorem cntlt_half {e : Nat} {us : List Int} (hin : InO (e + 1) us) (o : Int) : (o ≤ 2 ^ e → us.countP (fun x => decide (x < o)) = (halfO e 0 us).countP (fun x => decide (x < o))) ∧
    (2 ^ e ≤ o → us.countP (fun x => decide (x < o)) = (halfO e 0 us).length + (halfO e 1 us).countP (fun x => decide (x < o - 2 ^ e))) := by
  have l0 : (halfO e 0 us).length = us.countP fun x => mk0 e x == 0 := by
    unfold halfO
    rw [List.length_map, List.countP_eq_length_filter]
  rw [l0, count_half, count_half]
  clear l0
  induction us with
  | nil => exact ⟨fun _ => rfl, fun _ => rfl⟩
  | cons x us ih =>
    obtain ⟨i1, i2⟩ := ih fun y hy => hin y (List.mem_cons_of_mem _ hy)
    have hx := hin x List.mem_cons_self
    rw [List.countP_cons, List.countP_cons, List.countP_cons, List.countP_cons]
    rcases mk01 e x with m | m
    · have hm := mod_mk hx.1 hx.2 m
      have hxl : x < 2 ^ e := by
        unfold mk0 at m
        by_cases z : x < 2 ^ e
        · exact z
        · rw [if_neg z] at m; omega
      have e1 : x % 2 ^ e = x := by omega
      rw [m, e1]
      refine ⟨fun h => ?_, fun h => ?_⟩
      · rw [i1 h]; simp
      · rw [i2 h]
        have : x < o := by omega
        simp [this]
        omega
    · have hm := mod_mk hx.1 hx.2 m
      have hxg : ¬ x < 2 ^ e := by
        unfold mk0 at m
        intro z
        rw [if_pos z] at m; omega
      rw [m]
      refine ⟨fun h => ?_, fun h => ?_⟩
      · rw [i1 h]
        have : ¬ x < o := by omega
        simp [this]
      · rw [i2 h]
        by_cases z : x < o
        · have z2 : x % 2 ^ e < o - 2 ^ e := by omega
          simp [z, z2]
          omega
        · have z2 : ¬ x % 2 ^ e < o - 2 ^ e := by omega
          simp [z, z2]
abbrev ltC (us : List Int) (o : Int) : Nat := us.countP fun x => decide (x < o)
theorem kth_cnt : ∀ (e : Nat) (us : List Int) (k : Nat), InO e us → k < us.length → ltC us (kth e us k) ≤ k ∧ k < ltC us (kth e us k + 1)
  | 0, us, k, hin, hk => by
    have h0 : us.countP (fun x => decide (x < (0 : Int))) = 0 := List.countP_eq_zero.mpr fun x hx => by have := hin x hx; simp; omega
    have h1 : us.countP (fun x => decide (x < (0 : Int) + 1)) = us.length := List.countP_eq_length.mpr fun x hx => by have := hin x hx; simp at this; exact decide_eq_true (by omega)
    show us.countP (fun x => decide (x < (0 : Int))) ≤ k ∧ k < us.countP (fun x => decide (x < (0 : Int) + 1))
    omega
  | e + 1, us, k, hin, hk => by
    have hs := half_sum (e := e) us
    by_cases c : k < (halfO e 0 us).length
    · rw [kth_lo c]
      have r := kth_rng e (halfO e 0 us) k
      obtain ⟨i1, i2⟩ := kth_cnt e (halfO e 0 us) k halfO_in c
      have e1 := (cntlt_half hin (kth e (halfO e 0 us) k)).1 (by omega)
      have e2 := (cntlt_half hin (kth e (halfO e 0 us) k + 1)).1 (by omega)
      unfold ltC at *
      rw [e1, e2]
      exact ⟨i1, i2⟩
    · rw [kth_hi c]
      have r := kth_rng e (halfO e 1 us) (k - (halfO e 0 us).length)
      obtain ⟨i1, i2⟩ := kth_cnt e (halfO e 1 us) (k - (halfO e 0 us).length) halfO_in (by omega)
      have e1 := (cntlt_half hin (2 ^ e + kth e (halfO e 1 us) (k - (halfO e 0 us).length))).2 (by omega)
      have e2 := (cntlt_half hin (2 ^ e + kth e (halfO e 1 us) (k - (halfO e 0 us).length) + 1)).2 (by omega)
      unfold ltC at *
      rw [e1, e2]
      have a1 : 2 ^ e + kth e (halfO e 1 us) (k - (halfO e 0 us).length) - 2 ^ e = kth e (halfO e 1 us) (k - (halfO e 0 us).length) := by omega
      have a2 : 2 ^ e + kth e (halfO e 1 us) (k - (halfO e 0 us).length) + 1 - 2 ^ e = kth e (halfO e 1 us) (k - (halfO e 0 us).length) + 1 := by omega
      rw [a1, a2]
      omega
theorem ltC_mono {us : List Int} {a b : Int} (h : a ≤ b) : ltC us a ≤ ltC us b := List.countP_mono_left fun x _ hx => decide_eq_true (by have := of_decide_eq_true hx; omega)
theorem ltC_succ (us : List Int) (o : Int) : ltC us (o + 1) = ltC us o + us.count o := by
  unfold ltC
  rw [List.count_eq_countP]
  induction us with
  | nil => rfl
  | cons x us ih =>
    rw [List.countP_cons, List.countP_cons, List.countP_cons, ih]
    by_cases c1 : x < o
    · have c2 : x < o + 1 := by omega
      have c3 : ¬ x = o := by omega
      simp only [decide_eq_true c1, decide_eq_true c2, if_true, show (x == o) = false from beq_eq_false_iff_ne.mpr c3]
      simp
      omega
    · by_cases c3 : x = o
      · have c2 : x < o + 1 := by omega
        simp only [decide_eq_false c1, decide_eq_true c2, show (x == o) = true from beq_iff_eq.mpr c3]
        simp
        omega
      · have c2 : ¬ x < o + 1 := by omega
        simp [c1, c2, c3]
/-- sums of the least -/
def sumF : Nat → Int → List Int → Nat → Int
  | 0, least, _, k => least * (k : Int)
  | e + 1, least, us, k => sumF e least (halfO e 0 us) (min k (halfO e 0 us).length) + sumF e (least + 2 ^ e) (halfO e 1 us) (k - min k (halfO e 0 us).length)
theorem sumF_step : ∀ (e : Nat) (least : Int) (us : List Int) (k : Nat), sumF e least us (k + 1) - sumF e least us k = least + kth e us k
  | 0, least, us, k => by
    show least * ((k + 1 : Nat) : Int) - least * (k : Int) = least + 0
    rw [Int.natCast_add, Int.mul_add]
    simp
    omega
  | e + 1, least, us, k => by
    show (sumF e least (halfO e 0 us) (min (k + 1) _) + sumF e (least + 2 ^ e) (halfO e 1 us) (k + 1 - min (k + 1) _)) - (sumF e least (halfO e 0 us) (min k _) + sumF e (least + 2 ^ e) (halfO e 1 us) (k - min k _)) = _
    by_cases c : k < (halfO e 0 us).length
    · rw [kth_lo c, Nat.min_eq_left (by omega), Nat.min_eq_left (by omega), Nat.sub_self, Nat.sub_self]
      have := sumF_step e least (halfO e 0 us) k
      omega
    · rw [kth_hi c, Nat.min_eq_right (by omega), Nat.min_eq_right (by omega)]
      have e1 : k + 1 - (halfO e 0 us).length = (k - (halfO e 0 us).length) + 1 := by omega
      rw [e1]
      have := sumF_step e (least + 2 ^ e) (halfO e 1 us) (k - (halfO e 0 us).length)
      omega
theorem sumF_zero : ∀ (e : Nat) (least : Int) (us : List Int), sumF e least us 0 = 0
  | 0, least, us => by show least * 0 = 0; omega
  | e + 1, least, us => by
    show sumF e least (halfO e 0 us) (min 0 _) + sumF e (least + 2 ^ e) (halfO e 1 us) (0 - min 0 _) = 0
    rw [Nat.zero_min, Nat.sub_zero, sumF_zero e, sumF_zero e]
    rfl
/-- led by a full way: how many -/
theorem led_full : ∀ (L : Nat) (o : Int) (gs : List G3), 0 ≤ o → o < 2 ^ L → (∀ g ∈ gs, GoodS L g) → manyG (gs.map (ledS L (wayW L o))) = ((Wh gs).count o : Nat)
  | 0, o, gs, h0, h1, hg => by
    have e0 : gs.map (ledS 0 (wayW 0 o)) = gs := by
      have : ∀ g ∈ gs, ledS 0 (wayW 0 o) g = id g := fun g _ => ledS_empty 0 g
      rw [List.map_congr_left this, List.map_id]
    rw [e0, manyG_W hg]
    have ho : o = 0 := by have : (2 : Int) ^ 0 = 1 := rfl; omega
    have hin := W_in hg
    rw [ho, List.count_eq_length.mpr fun b hb => by have := hin b hb; simp at this; omega]
  | e + 1, o, gs, h0, h1, hg => by
    have hp := pow2 e
    have good1 : ∀ w, ∀ g ∈ gs.map (led1 e w), GoodS e g := fun w g hg' => by
      obtain ⟨g', hg2, rfl⟩ := List.mem_map.mp hg'
      exact led1_good (hg g' hg2)
    have em : ∀ (w : Int) (ws : List Int), gs.map (ledS (e + 1) (w :: ws)) = (gs.map (led1 e w)).map (ledS e ws) := fun w ws => by
      rw [List.map_map]
      exact List.map_congr_left fun g _ => ledS_cons e w ws g
    by_cases c : o < 2 ^ e
    · rw [wayW_lt c, em, led_full e o _ h0 c (good1 0), W_led hg, half_count (W_in hg) (.inl rfl) h0 c]
      have : o + 0 * 2 ^ e = o := by omega
      rw [this]
    · rw [wayW_ge c, em, led_full e (o - 2 ^ e) _ (by omega) (by omega) (good1 1), W_led hg, half_count (W_in hg) (.inr rfl) (by omega) (by omega)]
      have : o - 2 ^ e + 1 * 2 ^ e = o := by omega
      rw [this]
/-- next up and down, out of the steps -/
def stp (L : Nat) (low : Int) (us : List Int) : List P2 := caF 1 0 L low us
theorem find_least {ss : List P2} {f : P2 → Bool} (hs : ss.Pairwise fun p q => p.1 < q.1) {p : P2} (hp : p ∈ ss) (hf : f p = true) (hl : ∀ q ∈ ss, f q = true → p.1 ≤ q.1) : ss.find? f = some p := by
  induction ss with
  | nil => cases hp
  | cons x ss ih =>
    rw [List.find?_cons]
    cases hx : f x with
    | true =>
      rcases List.mem_cons.mp hp with rfl | hp'
      · rfl
      · have h1 := (List.pairwise_cons.mp hs).1 p hp'
        have h2 := hl x List.mem_cons_self hx
        omega
    | false =>
      rcases List.mem_cons.mp hp with rfl | hp'
      · rw [hf] at hx; cases hx
      · exact ih (List.pairwise_cons.mp hs).2 hp' fun q hq => hl q (List.mem_cons_of_mem _ hq)
theorem find_next {ss : List P2} (hs : ss.Pairwise fun p q => p.1 < q.1) {i : Nat} {p : P2} (hp : ss[i]? = some p) : ss.find? (fun q => decide (p.1 < q.1)) = ss[i + 1]? := by
  induction ss generalizing i with
  | nil => simp at hp
  | cons x ss ih =>
    obtain ⟨h1, h2⟩ := List.pairwise_cons.mp hs
    cases i with
    | zero =>
      have : x = p := by simpa using hp
      subst this
      rw [List.find?_cons, decide_eq_false (by omega)]
      show ss.find? _ = ss[0]?
      cases ss with
      | nil => rfl
      | cons y ss =>
        rw [List.find?_cons, decide_eq_true (h1 y List.mem_cons_self)]
        rfl
    | succ i =>
      have hp' : ss[i]? = some p := by simpa using hp
      have := h1 p (List.mem_of_getElem? hp')
      rw [List.find?_cons, decide_eq_false (by omega)]
      simpa using ih h2 hp'
theorem ltC_le (us : List Int) (o : Int) : ltC us o ≤ us.length := List.countP_le_length
theorem up_find {L : Nat} {low num : Int} {us : List Int} (hin : InO L us) :
    (ltC us (num + 1 - low) = us.length → (stp L low us).find? (fun q => decide (num < q.1)) = none) ∧
    (ltC us (num + 1 - low) ≠ us.length → (stp L low us).find? (fun q => decide (num < q.1)) = some ((low + kth L us (ltC us (num + 1 - low)), ((us.count (kth L us (ltC us (num + 1 - low))) : Nat) : Int)) : P2)) := by
  have hle := ltC_le us (num + 1 - low)
  constructor
  · intro h
    rw [List.find?_eq_none]
    intro q hq hf
    have r := st_rng hin hq
    have hm : q.1 - low ∈ us := List.count_pos_iff.mp (by omega)
    have := List.countP_eq_length.mp h _ hm
    have := of_decide_eq_true this
    have := of_decide_eq_true hf
    omega
  · intro h
    have hk : ltC us (num + 1 - low) < us.length := by omega
    obtain ⟨c1, c2⟩ := kth_cnt L us _ hin hk
    have r := kth_rng L us (ltC us (num + 1 - low))
    generalize hko : kth L us (ltC us (num + 1 - low)) = o at *
    have hge : num + 1 - low ≤ o := by
      apply Classical.byContradiction
      intro c
      have := ltC_mono (us := us) (show o + 1 ≤ num + 1 - low by omega)
      omega
    rw [ltC_succ] at c2
    have hcnt : 0 < us.count o := by
      have := ltC_mono (us := us) hge
      omega
    refine find_least (f := fun q => decide (num < q.1)) (st_rise L low us hin) ((st_mem L low us hin _ _).mpr ⟨by rw [show low + o - low = o by omega], by omega⟩) (decide_eq_true (by show num < low + o; omega)) (fun q hq hf => ?_)
    show low + o ≤ q.1
    have rq := st_rng hin hq
    have hf' := of_decide_eq_true hf
    apply Classical.byContradiction
    intro c
    -- q.1 - low in us, between
    have h1 := ltC_mono (us := us) (show num + 1 - low ≤ q.1 - low by omega)
    have h2 := ltC_mono (us := us) (show q.1 - low + 1 ≤ o by omega)
    rw [ltC_succ] at h2
    have : 0 < us.count (q.1 - low) := by omega
    omega
theorem down_find {L : Nat} {low num : Int} {us : List Int} (hin : InO L us) :
    (ltC us (num - low) = 0 → (stp L low us).reverse.find? (fun q => decide (q.1 < num)) = none) ∧
    (ltC us (num - low) ≠ 0 → (stp L low us).reverse.find? (fun q => decide (q.1 < num)) = some ((low + kth L us (ltC us (num - low) - 1), ((us.count (kth L us (ltC us (num - low) - 1)) : Nat) : Int)) : P2)) := by
  have hle := ltC_le us (num - low)
  constructor
  · intro h
    rw [List.find?_eq_none]
    intro q hq hf
    have r := st_rng hin (List.mem_reverse.mp hq)
    have hm : q.1 - low ∈ us := List.count_pos_iff.mp (by omega)
    have := List.countP_eq_zero.mp h _ hm
    have h2 := of_decide_eq_true hf
    exact this (decide_eq_true (by omega))
  · intro h
    have hk : ltC us (num - low) - 1 < us.length := by omega
    obtain ⟨c1, c2⟩ := kth_cnt L us _ hin hk
    have r := kth_rng L us (ltC us (num - low) - 1)
    generalize hko : kth L us (ltC us (num - low) - 1) = o at *
    have hlt : o < num - low := by
      apply Classical.byContradiction
      intro c
      have := ltC_mono (us := us) (show num - low ≤ o by omega)
      omega
    rw [ltC_succ] at c2
    have hcnt : 0 < us.count o := by omega
    have hmem : ((low + o, ((us.count o : Nat) : Int)) : P2) ∈ stp L low us := (st_mem L low us hin _ _).mpr ⟨by rw [show low + o - low = o by omega], by omega⟩
    have key : ∀ {ss : List P2}, ss.Pairwise (fun p q => p.1 > q.1) → ∀ {p : P2} {f : P2 → Bool}, p ∈ ss → f p = true → (∀ q ∈ ss, f q = true → q.1 ≤ p.1) → ss.find? f = some p := by
      intro ss
      induction ss with
      | nil => intro _ p f hp; cases hp
      | cons x ss ih =>
        intro hs p f hp hf hl
        rw [List.find?_cons]
        cases hx : f x with
        | true =>
          rcases List.mem_cons.mp hp with rfl | hp'
          · rfl
          · have h1 := (List.pairwise_cons.mp hs).1 p hp'
            have h2 := hl x List.mem_cons_self hx
            omega
        | false =>
          rcases List.mem_cons.mp hp with rfl | hp'
          · rw [hf] at hx; cases hx
          · exact ih (List.pairwise_cons.mp hs).2 hp' hf fun q hq => hl q (List.mem_cons_of_mem _ hq)
    refine key (f := fun q => decide (q.1 < num)) (List.pairwise_reverse.mpr (st_rise L low us hin)) (List.mem_reverse.mpr hmem) (decide_eq_true (by show low + o < num; omega)) (fun q hq hf => ?_)
    show q.1 ≤ low + o
    have rq := st_rng hin (List.mem_reverse.mp hq)
    have hf' := of_decide_eq_true hf
    apply Classical.byContradiction
    intro c
    have h1 := ltC_mono (us := us) (show o + 1 ≤ q.1 - low by omega)
    have h2 := ltC_mono (us := us) (show q.1 - low + 1 ≤ num - low by omega)
    rw [ltC_succ] at h2
    rw [ltC_succ] at h1
    have : 0 < us.count (q.1 - low) := by omega
    omega
theorem find_prev {ss : List P2} (hs : ss.Pairwise fun p q => p.1 < q.1) {i : Nat} {p : P2} (hp : ss.reverse[i]? = some p) : ss.reverse.find? (fun q => decide (q.1 < p.1)) = ss.reverse[i + 1]? := by
  have hs' : ss.reverse.Pairwise fun p q => p.1 > q.1 := List.pairwise_reverse.mpr hs
  generalize ss.reverse = rr at *
  clear hs
  induction rr generalizing i with
  | nil => simp at hp
  | cons x rr ih =>
    obtain ⟨h1, h2⟩ := List.pairwise_cons.mp hs'
    cases i with
    | zero =>
      have : x = p := by simpa using hp
      subst this
      rw [List.find?_cons, decide_eq_false (by omega)]
      show rr.find? _ = rr[0]?
      cases rr with
      | nil => rfl
      | cons y rr =>
        rw [List.find?_cons, decide_eq_true (h1 y List.mem_cons_self)]
        rfl
    | succ i =>
      have hp' : rr[i]? = some p := by simpa using hp
      have := h1 p (List.mem_of_getElem? hp')
      rw [List.find?_cons, decide_eq_false (by omega)]
      simpa using ih hp' h2
abbrev kb_lifted : Nat := 1
abbrev kn_lifted : Nat := 40
abbrev k_lifted : Nat := 42
def spe_lifted (_ : PySem.W.Frag) (e : Nat) : Sp := fun vs H Q _ => ∃ (v : V) (wy : Addr) (k i : Nat) (L : Nat) (os ws : List Int), vs = [v, .ref wy, .int (k : Int)] ∧ TreeAt H v (growO L os) ∧ TupF H wy (ws.map V.int) ∧ ws.length = e ∧ e ≤ L ∧ B01 ws ∧ InO L os ∧ (spots L os ws)[k]? = some i ∧ ∀ H', Same H H' → Q (.int (i : Int)) H'
def sp_lifted (K : PySem.W.Frag) : Sp := fun vs H Q E => ∃ e, e ≤ kn_lifted ∧ spe_lifted K e vs H Q E
theorem cut_tail (w : Int) (ws : List Int) : cutV ((w :: ws).map V.int) (some 1) none = ws.map V.int := by
  unfold cutV
  have e1 : HT.sIx ((w :: ws).map V.int).length 0 (some 1) = 1 := by
    rw [List.length_map, List.length_cons]
    simp [HT.sIx]
    try omega
  rw [e1, HT.sIx_none, List.map_cons, List.drop_succ_cons, List.drop_zero, List.length_cons, Nat.add_sub_cancel]
  exact List.take_length
abbrev k_number_at : Nat := 3
def sp_number_at (K : PySem.W.Frag) : Sp := fun vs H Q _ => ∃ (b : Addr) (v : V) (i : Nat) (o low : Int) (L : Nat) (os : List Int), vs = [.ref b, v, .int (i : Int)] ∧ SqT K H b [.int low, .int (L : Int)] ∧ L ≤ 40 ∧ TreeAt H v (growO L os) ∧ InO L os ∧ os[i]? = some o ∧ ∀ H', Same H H' → Q (.int (low + o)) H'
def muN : St → Nat := fun σ => match σ[4]? with
  | some (some (V.int m)) => m.toNat
  | _ => 0
abbrev k_way_of_nth : Nat := 4
def sp_way_of_nth (K : PySem.W.Frag) : Sp := fun vs H Q _ => ∃ (ga : Addr) (xs : List V) (L k : Nat) (gs : List G3), vs = [.int (L : Int), .ref ga, .int (k : Int)] ∧ L ≤ 40 ∧ H ga = some (.lst xs) ∧ GatAt H L xs gs ∧ (∀ g ∈ gs, GoodS L g) ∧ gs.length ≤ 100 ∧ (Wh gs).length ≤ 900 ∧ k < (Wh gs).length ∧
  ∀ t H', Same H H' → TupF H' t ((wayW L (kth L (Wh gs) k)).map V.int) → Q (.ref t) H'
abbrev k_counted_nth : Nat := 5
def sp_counted_nth (K : PySem.W.Frag) : Sp := fun vs H Q _ => ∃ (b ga : Addr) (xs : List V) (low : Int) (L k : Nat) (gs : List G3), vs = [.ref b, .ref ga, .int (k : Int)] ∧ SqT K H b [.int low, .int (L : Int)] ∧ L ≤ 40 ∧ H ga = some (.lst xs) ∧ GatAt H L xs gs ∧ (∀ g ∈ gs, GoodS L g) ∧ gs.length ≤ 100 ∧ (Wh gs).length ≤ 900 ∧ k < (Wh gs).length ∧
  ∀ v H', Same H H' → PsR H' v (low + kth L (Wh gs) k, (((Wh gs).count (kth L (Wh gs) k) : Nat) : Int)) → Q v H'
def NxV (H : Hp) (v : V) : Option P2 → Prop
  | none => v = .non
  | some p => PsR H v p
abbrev k_next_up : Nat := 6
def sp_next_up (K : PySem.W.Frag) : Sp := fun vs H Q _ => ∃ (b ga : Addr) (xs : List V) (low num : Int) (L : Nat) (gs : List G3), vs = [.ref b, .ref ga, .int num] ∧ SqT K H b [.int low, .int (L : Int)] ∧ L ≤ 40 ∧ H ga = some (.lst xs) ∧ GatAt H L xs gs ∧ (∀ g ∈ gs, GoodS L g) ∧ gs.length ≤ 100 ∧ (Wh gs).length ≤ 900 ∧
  ∀ v H', Same H H' → NxV H' v ((stp L low (Wh gs)).find? fun q => decide (num < q.1)) → Q v H'
abbrev k_next_down : Nat := 6
def sp_next_down (K : PySem.W.Frag) : Sp := fun vs H Q _ => ∃ (b ga : Addr) (xs : List V) (low num : Int) (L : Nat) (gs : List G3), vs = [.ref b, .ref ga, .int num] ∧ SqT K H b [.int low, .int (L : Int)] ∧ L ≤ 40 ∧ H ga = some (.lst xs) ∧ GatAt H L xs gs ∧ (∀ g ∈ gs, GoodS L g) ∧ gs.length ≤ 100 ∧ (Wh gs).length ≤ 900 ∧
  ∀ v H', Same H H' → NxV H' v ((stp L low (Wh gs)).reverse.find? fun q => decide (q.1 < num)) → Q v H'
abbrev kb_sum_from : Nat := 3
abbrev kn_sum_from : Nat := 40
abbrev k_sum_from : Nat := 44
def spe_sum_from (K : PySem.W.Frag) (e : Nat) : Sp := fun vs H Q _ => ∃ (least : Int) (pa : Addr) (xs : List V) (k : Nat) (gs : List G3), vs = [.int least, .int (2 ^ e), .ref pa, .int (k : Int)] ∧ SqL K H pa xs ∧ GatAt H e xs gs ∧ (∀ g ∈ gs, GoodS e g) ∧ gs.length ≤ 100 ∧ k ≤ 900 ∧
  ∀ H', Same H H' → Q (.int (sumF e least (Wh gs) k)) H'
def sp_sum_from (K : PySem.W.Frag) : Sp := fun vs H Q E => ∃ e, e ≤ kn_sum_from ∧ spe_sum_from K e vs H Q E
abbrev k_sum_of_least : Nat := 45
def sp_sum_of_least (K : PySem.W.Frag) : Sp := fun vs H Q _ => ∃ (b ga : Addr) (xs : List V) (low : Int) (L k : Nat) (gs : List G3), vs = [.ref b, .ref ga, .int (k : Int)] ∧ SqT K H b [.int low, .int (L : Int)] ∧ L ≤ 40 ∧ SqL K H ga xs ∧ GatAt H L xs gs ∧ (∀ g ∈ gs, GoodS L g) ∧ gs.length ≤ 100 ∧ (Wh gs).length ≤ 900 ∧ k ≤ (Wh gs).length ∧
  ∀ H', Same H H' → Q (.int (sumF L low (Wh gs) k)) H'
section
variable {P : Program} {w : World} {K : PySem.W.Frag} {mg : Str → Option Value} {base : Heap}
theorem ok_lifted (d : Def K mg "lifted" s_lifted ["tree", "way", "place"]) (z : Bz mg) (c_half_of : Cal P w K mg base k_half_of "half_of" ["tree", "mark"] (sp_half_of K)) (c_place_of : Cal P w K mg base k_place_of "place_of" ["marks", "mark", "number"] (sp_place_of K)) (c_size_of : Cal P w K mg base k_size_of "size_of" ["tree"] (sp_size_of K)) : Cal P w K mg base k_lifted "lifted" ["tree", "way", "place"] (sp_lifted K) := by
  have sc := sc_lifted
  refine d.recur (k := kb_lifted) (sp := spe_lifted K) kn_lifted fun e hen c_lifted f fd F => F.ok sc (fun vs H Q E h => ?_) (fun cdv A outer s H vs Q E hr h => ?_)
  · obtain ⟨v, wy, k, i, L, os, ws, rfl, _⟩ := h
    rfl
  obtain ⟨v, wy, k, i, L, os, ws, rfl, ht, hw, hwl, heL, h01, hin, hi, q⟩ := h
  refine ⟨_, (pss_cons (ps_if (pt_cmpR op_eq (pe_callB call_len_seq (by rfl) z.len_ bt_len (pa_cons (pv 1) pa_nil)) pe_int (nomark _))
  (pss_cons (ps_if (PW.pt (pw_or (pt_cmpR op_lt (pv 2) pe_int (nomark _)) (pw_or1 (pt_cmpR op_ge (pv 2) (pe_fn c_size_of (hr.mono (Nat.le_trans (by decide : k_size_of ≤ kb_lifted) (Nat.le_add_left _ _))) (by rfl) (pa_cons (pv 0) pa_nil)) (nomark _)))))
  (pss_one ps_never)
  pss_nil)
 (pss_one (ps_ret (pv 2))))
  pss_nil)
 (pss_cons (ps_set (i := 3) sc.nd rfl (Or.inl rfl) (pe_fn c_lifted (hr.mono (Nat.le_refl _)) (by rfl) (pa_cons (pe_fn c_half_of (hr.mono (Nat.le_trans (by decide : k_half_of ≤ kb_lifted) (Nat.le_add_left _ _))) (by rfl) (pa_cons (pv 0) (pa_cons (pe_ix ix_tup (pv 1) pe_int (fun _ _ => rfl)) pa_nil))) (pa_cons (pe_slice sl_tupF (pv 1) (po_some pe_int) po_none) (pa_cons (pv 2) pa_nil)))))
 (pss_one (ps_ret (pe_fn c_place_of (hr.mono (Nat.le_trans (by decide : k_place_of ≤ kb_lifted) (Nat.le_add_left _ _))) (by rfl) (pa_cons (pe_ix ix_tup (pv 0) pe_int (fun _ _ => rfl)) (pa_cons (pe_ix ix_tup (pv 1) pe_int (fun _ _ => rfl)) (pa_cons (pv 3) pa_nil)))))))), ?_⟩
  refine ⟨_, rfl, wy, _, rfl, .inr hw.sq, rfl, _, rfl, ?_⟩
  cases ws with
  | nil =>
    refine ite2 (fun _ => ?_) (fun c => absurd (decide_eq_true rfl) c)
    rw [spots_empty] at hi
    have hk : k < os.length := by
      have := (List.getElem?_eq_some_iff.mp hi).1
      rwa [List.length_range] at this
    rw [List.getElem?_range hk] at hi
    cases hi
    refine ⟨_, rfl, _, _, rfl, rfl, _, rfl, ?_⟩
    refine ite2 (fun c => absurd (of_decide_eq_true c) (by omega)) (fun _ => ?_)
    refine ⟨_, rfl, _, rfl, v, _, rfl, ht, _, _, rfl, rfl, _, rfl, ?_⟩
    rw [growO_size]
    refine ite2 (fun c => absurd (of_decide_eq_true c) (by omega)) (fun _ => ?_)
    exact ⟨_, rfl, q H (Same.refl H)⟩
  | cons w0 ws =>
    refine ite2 (fun c => ?_) (fun _ => ?_)
    · exfalso
      have := V.int.inj (of_decide_eq_true c)
      rw [List.length_map, List.length_cons] at this
      omega
    obtain ⟨e', rfl⟩ : ∃ e', e = e' + 1 := ⟨ws.length, by rw [← hwl]; rfl⟩
    obtain ⟨L', rfl⟩ : ∃ L', L = L' + 1 := ⟨L - 1, by omega⟩
    have hw0 : w0 = 0 ∨ w0 = 1 := h01 w0 (List.mem_cons_self ..)
    have h01' : B01 ws := fun m hm => h01 m (List.mem_cons_of_mem _ hm)
    have hwl' : ws.length = e' := by rw [List.length_cons] at hwl; omega
    have h0at : atI ((w0 :: ws).map V.int) 0 = some (.int w0) := by
      show atI _ ((0 : Nat) : Int) = _
      exact atI_nat rfl
    have hdn := spots_down (w := w0) (ws := ws) hin k
    rw [hi] at hdn
    cases hi2 : (spots L' (halfO L' w0 os) ws)[k]? with
    | none => rw [hi2, Option.bind_none] at hdn; cases hdn
    | some i2 =>
      rw [hi2, Option.bind_some] at hdn
      refine ⟨_, rfl, _, rfl, wy, _, _, _, rfl, rfl, hw.sq, h0at, v, _, w0, rfl, ht, hw0, fun u hu => ?_⟩
      rw [growO_half hin hw0] at hu
      refine ⟨_, rfl, 1, rfl, wy, _, rfl, hw, fun w2 H1 s1 hw2 => ⟨_, rfl, ?_⟩⟩
      rw [cut_tail] at hw2
      refine ⟨u, w2, k, i2, L', halfO L' w0 os, ws, rfl, hu.same s1, hw2, hwl', by omega, h01', halfO_in, hi2, fun H2 s2 => ?_⟩
      have s02 := s1.trans s2
      have hne : os ≠ [] := fun z => by
        rw [z] at hi2
        have e0 : halfO L' w0 [] = [] := rfl
        rw [e0, spots_nil] at hi2
        simp at hi2
      have ht2 := ht.same s02
      rw [growO_succ hne] at ht2
      obtain ⟨a, m, x, y, rfl, ha, hm, _, _⟩ := ht2
      exact ⟨_, rfl, a, _, _, _, rfl, rfl, SqT.of ha, rfl, _, rfl, wy, _, _, _, rfl, rfl, (hw.same s02).sq, h0at, _, rfl, m, os.map (mk0 L'), w0, (i2 : Int), i, rfl, hm.sq, hdn.symm, fun H3 s3 => q H3 (s02.trans s3)⟩
theorem ok_number_at (d : Def K mg "number_at" s_number_at ["bounds", "tree", "place"]) (z : Bz mg) (c_ahead : Cal P w K mg base k_ahead "ahead" ["marks", "mark", "place"] (sp_ahead K)) (c_half_of : Cal P w K mg base k_half_of "half_of" ["tree", "mark"] (sp_half_of K)) (c_many_worths : Cal P w K mg base k_many_worths "many_worths" ["levels"] (sp_many_worths K)) (c_size_of : Cal P w K mg base k_size_of "size_of" ["tree"] (sp_size_of K)) : Cal P w K mg base k_number_at "number_at" ["bounds", "tree", "place"] (sp_number_at K) := by
  have sc := sc_number_at
  refine d.cal fun f fd F => F.ok sc (fun vs H Q E h => ?_) (fun cdv A outer s H vs Q E hr h => ?_)
  · obtain ⟨b, v, i, o, low, L, os, rfl, _⟩ := h
    rfl
  obtain ⟨b, v, i, o, low, L, os, rfl, hb, hL, ht, hin, gi, q⟩ := h
  refine ⟨_, (pss_cons (ps_if (PW.pt (pw_or (pt_cmpR op_lt (pv 2) pe_int (nomark _)) (pw_or1 (pt_cmpR op_ge (pv 2) (pe_fn c_size_of (hr.mono (by decide)) (by rfl) (pa_cons (pv 1) pa_nil)) (nomark _)))))
  (pss_one ps_never)
  pss_nil)
 (pss_cons (ps_set (i := 3) sc.nd rfl (Or.inl rfl) (pe_ix ix_tup (pv 0) pe_int (fun _ _ => rfl)))
 (pss_cons (ps_set (i := 4) sc.nd rfl (Or.inl rfl) (pe_fn c_many_worths (hr.mono (by decide)) (by rfl) (pa_cons (pe_ix ix_tup (pv 0) pe_int (fun _ _ => rfl)) pa_nil)))
 (pss_cons (ps_set (i := 5) sc.nd rfl (Or.inl rfl) (pv 1))
 (pss_cons (ps_set (i := 6) sc.nd rfl (Or.inl rfl) (pv 2))
 (pss_cons (ps_while PassesOwn.never (pt_cmpR op_eq (pe_ix ix_tup (pv 5) pe_int (fun _ _ => rfl)) pe_str (nomark _))
  (pss_cons (ps_set (i := 4) sc.nd rfl (Or.inl rfl) (pe_op op_fdivB (pv 4) pe_int))
 (pss_cons (ps_set (i := 7) sc.nd rfl (Or.inl rfl) (pe_ix ix_tup (pe_ix ix_tup (pv 5) pe_int (fun _ _ => rfl)) (pv 6) (fun _ _ => rfl)))
 (pss_cons (ps_set (i := 6) sc.nd rfl (Or.inl rfl) (pe_fn c_ahead (hr.mono (by decide)) (by rfl) (pa_cons (pe_ix ix_tup (pv 5) pe_int (fun _ _ => rfl)) (pa_cons (pv 7) (pa_cons (pv 6) pa_nil)))))
 (pss_cons (ps_set (i := 3) sc.nd rfl (Or.inl rfl) (pe_op op_add (pv 3) (pe_op op_mul (pv 7) (pv 4))))
 (pss_one (ps_set (i := 5) sc.nd rfl (Or.inl rfl) (pe_fn c_half_of (hr.mono (by decide)) (by rfl) (pa_cons (pv 5) (pa_cons (pv 7) pa_nil))))))))))
 (pss_one (ps_ret (pv 3))))))))), ?_⟩
  have hi : i < os.length := (List.getElem?_eq_some_iff.mp gi).1
  refine ⟨_, rfl, _, _, rfl, rfl, _, rfl, ?_⟩
  refine ite2 (fun c => absurd (of_decide_eq_true c) (by omega)) (fun _ => ?_)
  refine ⟨_, rfl, _, rfl, v, _, rfl, ht, _, _, rfl, rfl, _, rfl, ?_⟩
  rw [growO_size]
  refine ite2 (fun c => absurd (of_decide_eq_true c) (by omega)) (fun _ => ?_)
  refine ⟨_, rfl, b, _, _, _, rfl, rfl, hb, rfl, _, rfl, b, _, _, _, rfl, rfl, hb, rfl, L, rfl, hL, _, rfl, _, rfl, ?_⟩
  refine while_by (fun σ H2 => ∃ (e : Nat) (ls : Int) (u : V) (j : Nat) (ms : List Int) (o' : Int) (mv : Option V), σ = [some (.ref b), some v, some (.int (i : Int)), some (.int ls), some (.int (2 ^ e)), some u, some (.int (j : Int)), mv] ∧ e ≤ 40 ∧ Same H H2 ∧ TreeAt H2 u (growO e ms) ∧ InO e ms ∧ ms[j]? = some o' ∧ ls + o' = low + o) (fun σ _ => muN σ)
    ⟨L, low, v, i, os, o, none, rfl, hL, Same.refl H, ht, hin, gi, rfl⟩ ?_ ?_
  · rintro σ H2 ⟨e, ls, u, j, ms, o', mv, rfl, he, s2, ht2, hin2, gj, hlo⟩
    have hne : ms ≠ [] := fun z => by rw [z] at gj; simp at gj
    have ho' := hin2 o' (List.mem_of_getElem? gj)
    cases e with
    | zero =>
      rw [growO_zero hne] at ht2
      obtain ⟨a, rfl, ha⟩ := ht2
      refine ⟨_, rfl, a, _, _, _, rfl, rfl, SqT.of ha, rfl, rfl, _, rfl, ?_⟩
      refine ite2 (fun c => absurd (of_decide_eq_true c) (by decide)) (fun c => ?_)
      have e1 : ls = low + o := by
        have : (2 : Int) ^ 0 = 1 := rfl
        omega
      refine ⟨_, rfl, ?_⟩
      rw [e1]
      exact q H2 s2
    | succ e =>
      have ht2' := ht2
      rw [growO_succ hne] at ht2
      obtain ⟨a, m, x, y, rfl, ha, hm, hx, hy⟩ := id ht2
      refine ⟨_, rfl, a, _, _, _, rfl, rfl, SqT.of ha, rfl, rfl, _, rfl, ?_⟩
      refine ite2 (fun c => ?_) (fun c => absurd (decide_eq_true rfl) c)
      refine ⟨_, rfl, _, _, rfl, rfl, ⟨by decide, by decide⟩, ?_⟩
      dsimp only
      rw [pow_half]
      have gk : ((ms.map (mk0 e)).map V.int)[j]? = some (.int (mk0 e o')) := by rw [List.getElem?_map, List.getElem?_map, gj]; rfl
      have hk := mk01 e o'
      refine ⟨_, rfl, a, _, _, _, rfl, rfl, SqT.of ha, rfl, _, rfl, m, _, _, _, rfl, rfl, hm.sq, atI_nat gk, ?_⟩
      refine ⟨_, rfl, a, _, _, _, rfl, rfl, SqT.of ha, rfl, _, rfl, _, rfl, m, ms.map (mk0 e), _, j, rfl, hm, fun H3 s3 => ?_⟩
      refine ⟨_, rfl, _, rfl, _, rfl, _, _, rfl, rfl, .inl ⟨by omega, by omega⟩, _, _, rfl, rfl, ?_⟩
      refine ⟨_, rfl, _, rfl, _, _, _, rfl, ht2'.same s3, hk, fun u' hu' => ?_⟩
      rw [growO_half hin2 hk] at hu'
      have hh := half_at gj (rfl : mk0 e o' = mk0 e o')
      rw [← cnt_take] at hh
      have mm := mod_mk ho'.1 ho'.2 (rfl : mk0 e o' = mk0 e o')
      refine ⟨⟨e, ls + mk0 e o' * 2 ^ e, u', _, _, _, _, rfl, by omega, s2.trans s3, hu', halfO_in, hh, by omega⟩, ?_⟩
      show ((2 : Int) ^ e).toNat < ((2 : Int) ^ (e + 1)).toNat
      have := p2pos e
      have := pow2 e
      omega
  · rintro σ H2 Q1 Q2 hq ⟨_, e0, p, xs, i, v, e1, e2, e3, e4, e5, k, e6, h⟩
    exact ⟨_, e0, p, xs, i, v, e1, e2, e3, e4, e5, k, e6, hq _ _ h⟩
theorem ok_way_of_nth (d : Def K mg "way_of_nth" s_way_of_nth ["levels", "gathering", "k"]) (z : Bz mg) (c_led : Cal P w K mg base k_led "led" ["gathering", "way"] (sp_led K)) (c_many_in : Cal P w K mg base k_many_in "many_in" ["gathering"] (sp_many_in K)) : Cal P w K mg base k_way_of_nth "way_of_nth" ["levels", "gathering", "k"] (sp_way_of_nth K) := by
  have sc := sc_way_of_nth
  refine d.cal fun f fd F => F.ok sc (fun vs H Q E h => ?_) (fun cdv A outer s H vs Q E hr h => ?_)
  · obtain ⟨ga, xs, L, k, gs, rfl, _⟩ := h
    rfl
  obtain ⟨ga, xs, L, k, gs, rfl, hL, hga, hg, hgd, hl, hw9, hk, q⟩ := h
  refine ⟨_, (pss_cons (ps_set (i := 3) sc.nd rfl (Or.inl rfl) (pe_lst pa_nil))
 (pss_cons (ps_set (i := 4) sc.nd rfl (Or.inl rfl) (pv 1))
 (pss_cons (ps_set (i := 5) sc.nd rfl (Or.inl rfl) (pv 2))
 (pss_cons (ps_for PassesOwn.never rfl (pi_range1 rfl z.range_ (pa_cons (pv 0) pa_nil)) (pg_name (i := 6) sc.nd rfl (Or.inl rfl))
  (pss_cons (ps_set (i := 7) sc.nd rfl (Or.inl rfl) (pe_fn c_many_in (hr.mono (by decide)) (by rfl) (pa_cons (pe_fn c_led (hr.mono (by decide)) (by rfl) (pa_cons (pv 4) (pa_cons (pe_tup (pa_cons pe_int pa_nil)) pa_nil))) pa_nil)))
 (pss_cons (ps_set (i := 8) sc.nd rfl (Or.inl rfl) (pe_ifExp (pt_cmpR op_lt (pv 5) (pv 7) (nomark _)) pe_int pe_int))
 (pss_cons (ps_set (i := 5) sc.nd rfl (Or.inl rfl) (pe_op op_sub (pv 5) (pe_op op_mul (pv 8) (pv 7))))
 (pss_cons (ps_set (i := 4) sc.nd rfl (Or.inl rfl) (pe_fn c_led (hr.mono (by decide)) (by rfl) (pa_cons (pv 4) (pa_cons (pe_tup (pa_cons (pv 8) pa_nil)) pa_nil))))
 (pss_one (ps_expr (pe_bm PySem.F.plainAttrs_list PySem.F.slot_list_append PySem.F.type_list_append mt_append (pv 3) (pa_cons (pv 8) pa_nil)))))))))
 (pss_one (ps_ret (pe_callTy call_tupleF (by rfl) z.tuple_ bt_tuple (pa_cons (pv 3) pa_nil)))))))), ?_⟩
  refine ⟨szb rfl, fun wl hwl => ?_⟩
  have s1 := same_new hwl (.lst [])
  have hwl1 : upd H wl (.lst []) wl = some (.lst []) := upd_same
  generalize upd H wl (.lst []) = H1 at *
  have hgw : ga ≠ wl := fun z => by rw [z, hwl] at hga; cases hga
  refine ⟨_, rfl, _, rfl, _, rfl, (L : Int), rfl, by omega, by omega, for_range (n := L) (fun i σ H2 => ∃ (pa : Addr) (zs : List V) (gs' : List G3) (k' : Nat) (ws : List Int) (v6 v7 v8 : Option V), σ = [some (.int (L : Int)), some (.ref ga), some (.int (k : Int)), some (.ref wl), some (.ref pa), some (.int (k' : Int)), v6, v7, v8] ∧ Same H H2 ∧ H2 wl = some (.lst (ws.map V.int)) ∧ ws.length = i ∧ H2 pa = some (.lst zs) ∧ GatAt H2 (L - i) zs gs' ∧ (∀ g ∈ gs', GoodS (L - i) g) ∧ gs'.length ≤ 100 ∧ (Wh gs').length ≤ 900 ∧ k' < (Wh gs').length ∧ pa ≠ wl ∧
      wayW L (kth L (Wh gs) k) = ws ++ wayW (L - i) (kth (L - i) (Wh gs') k')) ⟨ga, xs, gs, k, [], none, none, none, rfl, s1, hwl1, rfl, s1 _ _ hga, hg.same s1, hgd, hl, hw9, hk, hgw, rfl⟩ ?_ ?_⟩
  · rintro i σ H2 hi ⟨pa, zs, gs', k', ws, v6, v7, v8, rfl, s2, hwl2, hwsl, hpa, hg', hgd', hl', hw9', hk', hpw, hway⟩
    obtain ⟨e, he⟩ : ∃ e, L - i = e + 1 := ⟨L - i - 1, by omega⟩
    have he2 : L - (i + 1) = e := by omega
    rw [he] at hg' hgd' hway
    have el : ∀ w : Int, gs'.map (ledS (e + 1) [w]) = gs'.map (led1 e w) := fun w => List.map_congr_left fun g _ => by rw [ledS_cons, ledS_empty]
    have good1 : ∀ w, ∀ g ∈ gs'.map (led1 e w), GoodS e g := fun w g hg => by
      obtain ⟨g', hg', rfl⟩ := List.mem_map.mp hg
      exact led1_good (hgd' g' hg')
    have hsum := half_sum (e := e) (Wh gs')
    have lenH : ∀ w : Int, (halfO e w (Wh gs')).length ≤ 900 := fun w => Nat.le_trans halfO_len hw9'
    refine ⟨_, rfl, szb rfl, fun w0 hw0 => ?_⟩
    have s3 := same_new hw0 (.tup [V.int 0])
    have hw0' : upd H2 w0 (.tup [V.int 0]) w0 = some (.tup [V.int 0]) := upd_same
    generalize upd H2 w0 (.tup [V.int 0]) = H3 at *
    refine ⟨pa, w0, zs, e + 1, [0], gs', rfl, SqL.of (s3 _ _ hpa), hg'.same s3, hgd', by omega, SqT.of hw0', by simp, (fun x hx => by rw [List.mem_singleton.mp hx]; exact .inl rfl), fun H4 D4 z4 s4 hD4 hD4n hg4 => ?_⟩
    rw [el] at hg4
    refine ⟨D4, z4, e, _, rfl, SqL.of hD4, hg4, by rw [List.length_map]; omega, fun H5 s5 => ?_⟩
    rw [manyG_W (good1 0), W_led hgd']
    have s25 := (s3.trans s4).trans s5
    refine ⟨_, rfl, _, rfl, _, _, rfl, rfl, _, rfl, ?_⟩
    refine ite2 (fun c => ?_) (fun c => ?_)
    · have c' : k' < (halfO e 0 (Wh gs')).length := by have := of_decide_eq_true c; omega
      rw [wayW_lo c'] at hway
      refine ⟨_, rfl, _, rfl, _, rfl, _, _, rfl, rfl, .inl ⟨by decide, by decide⟩, _, _, rfl, rfl, ?_⟩
      refine ⟨_, rfl, _, rfl, szb rfl, fun w1 hw1 => ?_⟩
      have s6 := same_new hw1 (.tup [V.int 0])
      have hw1' : upd H5 w1 (.tup [V.int 0]) w1 = some (.tup [V.int 0]) := upd_same
      generalize upd H5 w1 (.tup [V.int 0]) = H6 at *
      have s26 := s25.trans s6
      refine ⟨pa, w1, zs, e + 1, [0], gs', rfl, SqL.of (s26 _ _ hpa), hg'.same s26, hgd', by omega, SqT.of hw1', by simp, (fun x hx => by rw [List.mem_singleton.mp hx]; exact .inl rfl), fun H7 D7 z7 s7 hD7 hD7n hg7 => ?_⟩
      rw [el] at hg7
      have s27 := s26.trans s7
      have hwl7 := s27 _ _ hwl2
      have hD7w : D7 ≠ wl := fun z => by rw [z, s26 _ _ hwl2] at hD7n; cases hD7n
      refine ⟨_, rfl, .inl ⟨rfl, _, SqL.of hwl7⟩, _, rfl, wl, _, _, rfl, rfl, hwl7, by rw [List.length_map]; exact small1000 (by omega), ?_⟩
      have tk : TKeep H7 (upd H7 wl (.lst (ws.map V.int ++ [V.int 0]))) := .set hwl7
      refine ⟨D7, z7, gs'.map (led1 e 0), k', ws ++ [0], some (V.int (0 + (i : Int))), some (V.int ((halfO e 0 (Wh gs')).length : Nat)), some (V.int 0), ?_, same_put2 (s2.trans s27) hwl _, by rw [upd_same, List.map_append]; rfl, by rw [List.length_append, hwsl]; rfl, by rw [upd_ne hD7w]; exact hD7, by rw [he2]; exact hg7.tk tk, by rw [he2]; exact good1 0, by rw [List.length_map]; exact hl', by rw [W_led hgd']; exact lenH 0, by rw [W_led hgd']; exact c', hD7w, ?_⟩
      · have : (k' : Int) - 0 * ((halfO e 0 (Wh gs')).length : Nat) = (k' : Int) := by omega
        exact congrArg (fun q : Int => [some (V.int (L : Int)), some (V.ref ga), some (V.int (k : Int)), some (V.ref wl), some (V.ref D7), some (V.int q), some (V.int (0 + (i : Int))), some (V.int ((halfO e 0 (Wh gs')).length : Nat)), some (V.int 0)]) this
      · rw [hway, he2, W_led hgd', List.append_assoc]; rfl
    · have c' : ¬ k' < (halfO e 0 (Wh gs')).length := fun z => c (decide_eq_true (by omega))
      rw [wayW_hi c'] at hway
      refine ⟨_, rfl, _, rfl, _, rfl, _, _, rfl, rfl, .inl ⟨by decide, by decide⟩, _, _, rfl, rfl, ?_⟩
      refine ⟨_, rfl, _, rfl, szb rfl, fun w1 hw1 => ?_⟩
      have s6 := same_new hw1 (.tup [V.int 1])
      have hw1' : upd H5 w1 (.tup [V.int 1]) w1 = some (.tup [V.int 1]) := upd_same
      generalize upd H5 w1 (.tup [V.int 1]) = H6 at *
      have s26 := s25.trans s6
      refine ⟨pa, w1, zs, e + 1, [1], gs', rfl, SqL.of (s26 _ _ hpa), hg'.same s26, hgd', by omega, SqT.of hw1', by simp, (fun x hx => by rw [List.mem_singleton.mp hx]; exact .inr rfl), fun H7 D7 z7 s7 hD7 hD7n hg7 => ?_⟩
      rw [el] at hg7
      have s27 := s26.trans s7
      have hwl7 := s27 _ _ hwl2
      have hD7w : D7 ≠ wl := fun z => by rw [z, s26 _ _ hwl2] at hD7n; cases hD7n
      refine ⟨_, rfl, .inl ⟨rfl, _, SqL.of hwl7⟩, _, rfl, wl, _, _, rfl, rfl, hwl7, by rw [List.length_map]; exact small1000 (by omega), ?_⟩
      have tk : TKeep H7 (upd H7 wl (.lst (ws.map V.int ++ [V.int 1]))) := .set hwl7
      refine ⟨D7, z7, gs'.map (led1 e 1), k' - (halfO e 0 (Wh gs')).length, ws ++ [1], some (V.int (0 + (i : Int))), some (V.int ((halfO e 0 (Wh gs')).length : Nat)), some (V.int 1), ?_, same_put2 (s2.trans s27) hwl _, by rw [upd_same, List.map_append]; rfl, by rw [List.length_append, hwsl]; rfl, by rw [upd_ne hD7w]; exact hD7, by rw [he2]; exact hg7.tk tk, by rw [he2]; exact good1 1, by rw [List.length_map]; exact hl', by rw [W_led hgd']; exact lenH 1, by rw [W_led hgd']; omega, hD7w, ?_⟩
      · have : (k' : Int) - 1 * ((halfO e 0 (Wh gs')).length : Nat) = ((k' - (halfO e 0 (Wh gs')).length : Nat) : Int) := by omega
        exact congrArg (fun q : Int => [some (V.int (L : Int)), some (V.ref ga), some (V.int (k : Int)), some (V.ref wl), some (V.ref D7), some (V.int q), some (V.int (0 + (i : Int))), some (V.int ((halfO e 0 (Wh gs')).length : Nat)), some (V.int 1)]) this
      · rw [hway, he2, W_led hgd', List.append_assoc]; rfl
  · rintro σ H2 ⟨pa, zs, gs', k', ws, v6, v7, v8, rfl, s2, hwl2, hwsl, hpa, hg', hgd', hl', hw9', hk', hpw, hway⟩
    rw [Nat.sub_self] at hway
    have hw2 : wayW L (kth L (Wh gs) k) = ws := by rw [hway]; exact List.append_nil ws
    rw [hw2] at q
    exact ⟨_, rfl, wl, _, rfl, SqL.of hwl2, fun t H' s' ht => q t H' (s2.trans s') ht⟩
theorem ok_counted_nth (d : Def K mg "counted_nth" s_counted_nth ["bounds", "gathering", "k"]) (z : Bz mg) (c_led : Cal P w K mg base k_led "led" ["gathering", "way"] (sp_led K)) (c_many_in : Cal P w K mg base k_many_in "many_in" ["gathering"] (sp_many_in K)) (c_span_of : Cal P w K mg base k_span_of "span_of" ["bounds", "way"] (sp_span_of K)) (c_way_of_nth : Cal P w K mg base k_way_of_nth "way_of_nth" ["levels", "gathering", "k"] (sp_way_of_nth K)) : Cal P w K mg base k_counted_nth "counted_nth" ["bounds", "gathering", "k"] (sp_counted_nth K) := by
  have sc := sc_counted_nth
  refine d.cal fun f fd F => F.ok sc (fun vs H Q E h => ?_) (fun cdv A outer s H vs Q E hr h => ?_)
  · obtain ⟨b, ga, xs, low, L, k, gs, rfl, _⟩ := h
    rfl
  obtain ⟨b, ga, xs, low, L, k, gs, rfl, hb, hL, hga, hg, hgd, hl, hw9, hk, q⟩ := h
  refine ⟨_, (pss_cons (ps_set (i := 3) sc.nd rfl (Or.inl rfl) (pe_fn c_way_of_nth (hr.mono (by decide)) (by rfl) (pa_cons (pe_ix ix_tup (pv 0) pe_int (fun _ _ => rfl)) (pa_cons (pv 1) (pa_cons (pv 2) pa_nil)))))
 (pss_one (ps_ret (pe_tup (pa_cons (pe_ix ix_tup (pe_fn c_span_of (hr.mono (by decide)) (by rfl) (pa_cons (pv 0) (pa_cons (pv 3) pa_nil))) pe_int (fun _ _ => rfl)) (pa_cons (pe_fn c_many_in (hr.mono (by decide)) (by rfl) (pa_cons (pe_fn c_led (hr.mono (by decide)) (by rfl) (pa_cons (pv 1) (pa_cons (pv 3) pa_nil))) pa_nil)) pa_nil)))))), ?_⟩
  have r := kth_rng L (Wh gs) k
  refine ⟨_, rfl, b, _, _, _, rfl, rfl, hb, rfl, _, rfl, _, rfl, ga, xs, L, k, gs, rfl, hL, hga, hg, hgd, hl, hw9, hk, fun t H1 s1 ht => ?_⟩
  generalize kth L (Wh gs) k = o at *
  refine ⟨_, rfl, _, rfl, b, t, low, L, wayW L o, rfl, s1.seqT hb, hL, ht.sq, fun p hp => ?_⟩
  have hsp : spanS low L (wayW L o) = (low + o, 1) := span_way L low o r.1 r.2
  rw [hsp]
  have s2 := same_new hp (.tup [V.int (low + o), .int (low + o + 1 - 1)])
  have hp2 : upd H1 p (.tup [V.int (low + o), .int (low + o + 1 - 1)]) p = some (.tup [V.int (low + o), .int (low + o + 1 - 1)]) := upd_same
  dsimp only
  generalize upd H1 p (.tup [V.int (low + o), .int (low + o + 1 - 1)]) = H2 at *
  have s02 := s1.trans s2
  refine ⟨p, _, _, _, rfl, rfl, SqT.of hp2, rfl, ?_⟩
  refine ⟨_, rfl, _, rfl, ga, t, xs, L, wayW L o, gs, rfl, SqL.of (s02 _ _ hga), hg.same s02, hgd, by omega, (ht.same s2).sq, by rw [wayW_len]; exact Nat.le_refl _, wayW_01 L o, fun H3 D3 z3 s3 hD3 _ hg3 => ?_⟩
  refine ⟨D3, z3, _, _, rfl, SqL.of hD3, hg3, by rw [List.length_map]; omega, fun H4 s4 => ?_⟩
  rw [led_full L o gs r.1 r.2 hgd]
  exact ⟨szb rfl, fun v hv => q _ _ (((s02.trans s3).trans s4).trans (same_new hv _)) ⟨v, rfl, upd_same⟩⟩
theorem ok_next_up (d : Def K mg "next_up" s_next_up ["bounds", "gathering", "number"]) (z : Bz mg) (c_below : Cal P w K mg base k_below "below" ["bounds", "gathering", "number"] (sp_below K)) (c_counted_nth : Cal P w K mg base k_counted_nth "counted_nth" ["bounds", "gathering", "k"] (sp_counted_nth K)) (c_many_in : Cal P w K mg base k_many_in "many_in" ["gathering"] (sp_many_in K)) : Cal P w K mg base k_next_up "next_up" ["bounds", "gathering", "number"] (sp_next_up K) := by
  have sc := sc_next_up
  refine d.cal fun f fd F => F.ok sc (fun vs H Q E h => ?_) (fun cdv A outer s H vs Q E hr h => ?_)
  · obtain ⟨b, ga, xs, low, num, L, gs, rfl, _⟩ := h
    rfl
  obtain ⟨b, ga, xs, low, num, L, gs, rfl, hb, hL, hga, hg, hgd, hl, hw9, q⟩ := h
  refine ⟨_, (pss_cons (ps_set (i := 3) sc.nd rfl (Or.inl rfl) (pe_fn c_below (hr.mono (by decide)) (by rfl) (pa_cons (pv 0) (pa_cons (pv 1) (pa_cons (pe_op op_add (pv 2) pe_int) pa_nil)))))
 (pss_cons (ps_if (pt_cmpR op_eq (pv 3) (pe_fn c_many_in (hr.mono (by decide)) (by rfl) (pa_cons (pv 1) pa_nil)) (nomark _))
  (pss_one (ps_ret pe_non))
  pss_nil)
 (pss_one (ps_ret (pe_fn c_counted_nth (hr.mono (by decide)) (by rfl) (pa_cons (pv 0) (pa_cons (pv 1) (pa_cons (pv 3) pa_nil)))))))), ?_⟩
  obtain ⟨u1, u2⟩ := up_find (L := L) (low := low) (num := num) (W_in hgd)
  have hle := ltC_le (Wh gs) (num + 1 - low)
  refine ⟨_, rfl, _, rfl, _, rfl, _, _, rfl, rfl, b, ga, xs, low, num + 1, L, gs, rfl, hb, hL, SqL.of hga, hg, hgd, hl, fun H1 s1 => ?_⟩
  change ∀ v H', Same H H' → NxV H' v _ → Q v H' at q
  refine ⟨_, rfl, _, rfl, ga, xs, L, gs, rfl, SqL.of (s1 _ _ hga), hg.same s1, by omega, fun H2 s2 => ?_⟩
  rw [manyG_W hgd]
  refine ⟨rfl, _, rfl, ?_⟩
  by_cases c : ltC (Wh gs) (num + 1 - low) = (Wh gs).length
  · rw [u1 c] at q
    refine ite2 (fun _ => q .non H2 (s1.trans s2) rfl) (fun c2 => absurd (decide_eq_true (by show V.int ((ltC (Wh gs) (num + 1 - low) : Nat) : Int) = _; rw [c])) c2)
  · rw [u2 c] at q
    refine ite2 (fun c2 => absurd (by have := V.int.inj (of_decide_eq_true c2); unfold ltC; omega) c) (fun _ => ?_)
    have s02 := s1.trans s2
    exact ⟨_, rfl, _, rfl, _, rfl, b, ga, xs, low, L, ltC (Wh gs) (num + 1 - low), gs, rfl, s02.seqT hb, hL, s02 _ _ hga, hg.same s02, hgd, hl, hw9, by omega, fun v H3 s3 hv => q v H3 (s02.trans s3) hv⟩
theorem ok_next_down (d : Def K mg "next_down" s_next_down ["bounds", "gathering", "number"]) (z : Bz mg) (c_below : Cal P w K mg base k_below "below" ["bounds", "gathering", "number"] (sp_below K)) (c_counted_nth : Cal P w K mg base k_counted_nth "counted_nth" ["bounds", "gathering", "k"] (sp_counted_nth K)) : Cal P w K mg base k_next_down "next_down" ["bounds", "gathering", "number"] (sp_next_down K) := by
  have sc := sc_next_down
  refine d.cal fun f fd F => F.ok sc (fun vs H Q E h => ?_) (fun cdv A outer s H vs Q E hr h => ?_)
  · obtain ⟨b, ga, xs, low, num, L, gs, rfl, _⟩ := h
    rfl
  obtain ⟨b, ga, xs, low, num, L, gs, rfl, hb, hL, hga, hg, hgd, hl, hw9, q⟩ := h
  refine ⟨_, (pss_cons (ps_set (i := 3) sc.nd rfl (Or.inl rfl) (pe_op op_sub (pe_fn c_below (hr.mono (by decide)) (by rfl) (pa_cons (pv 0) (pa_cons (pv 1) (pa_cons (pv 2) pa_nil)))) pe_int))
 (pss_cons (ps_if (pt_cmpR op_lt (pv 3) pe_int (nomark _))
  (pss_one (ps_ret pe_non))
  pss_nil)
 (pss_one (ps_ret (pe_fn c_counted_nth (hr.mono (by decide)) (by rfl) (pa_cons (pv 0) (pa_cons (pv 1) (pa_cons (pv 3) pa_nil)))))))), ?_⟩
  obtain ⟨u1, u2⟩ := down_find (L := L) (low := low) (num := num) (W_in hgd)
  have hle := ltC_le (Wh gs) (num - low)
  refine ⟨_, rfl, _, rfl, _, rfl, b, ga, xs, low, num, L, gs, rfl, hb, hL, SqL.of hga, hg, hgd, hl, fun H1 s1 => ⟨_, _, rfl, rfl, ?_⟩⟩
  change ∀ v H', Same H H' → NxV H' v _ → Q v H' at q
  refine ⟨_, rfl, _, _, rfl, rfl, _, rfl, ?_⟩
  by_cases c : ltC (Wh gs) (num - low) = 0
  · rw [u1 c] at q
    exact ite2 (fun _ => q .non H1 s1 rfl) (fun c2 => absurd (decide_eq_true (by show ((ltC (Wh gs) (num - low) : Nat) : Int) - 1 < 0; omega)) c2)
  · rw [u2 c] at q
    refine ite2 (fun c2 => absurd (show ((ltC (Wh gs) (num - low) : Nat) : Int) - 1 < 0 from of_decide_eq_true c2) (by omega)) (fun _ => ?_)
    refine ⟨_, rfl, _, rfl, _, rfl, b, ga, xs, low, L, ltC (Wh gs) (num - low) - 1, gs, ?_, s1.seqT hb, hL, s1 _ _ hga, hg.same s1, hgd, hl, hw9, by omega, fun v H3 s3 hv => q v H3 (s1.trans s3) hv⟩
    exact congrArg (fun q : Int => [V.ref b, V.ref ga, V.int q]) (show ((ltC (Wh gs) (num - low) : Nat) : Int) - 1 = ((ltC (Wh gs) (num - low) - 1 : Nat) : Int) by omega)
end
theorem inW_way : ∀ (L : Nat) (o x : Int), 0 ≤ o → o < 2 ^ L → 0 ≤ x → x < 2 ^ L → inW L x (wayW L o) = decide (x = o)
  | 0, o, x, h0, h1, h2, h3 => by
    have : (2 : Int) ^ 0 = 1 := rfl
    rw [decide_eq_true (by omega)]
    rfl
  | e + 1, o, x, h0, h1, h2, h3 => by
    have p := pow2 e
    have hp := p2pos e
    by_cases c : o < 2 ^ e
    · rw [wayW_lt c, inW_step ⟨h2, h3⟩]
      rcases mk01 e x with m | m
      · have mm := mod_mk h2 h3 m
        have r0 := Int.emod_nonneg x (show (2 : Int) ^ e ≠ 0 by omega)
        have r1 := Int.emod_lt_of_pos x hp
        rw [m, inW_way e o (x % 2 ^ e) h0 c r0 r1]
        have : x % 2 ^ e = x := by omega
        rw [this]
        rfl
      · have mm := mod_mk h2 h3 m
        have r0 := Int.emod_nonneg x (show (2 : Int) ^ e ≠ 0 by omega)
        rw [m, decide_eq_false (by omega)]
        rfl
    · rw [wayW_ge c, inW_step ⟨h2, h3⟩]
      have r0 := Int.emod_nonneg x (show (2 : Int) ^ e ≠ 0 by omega)
      have r1 := Int.emod_lt_of_pos x hp
      rcases mk01 e x with m | m
      · have mm := mod_mk h2 h3 m
        rw [m, decide_eq_false (by omega)]
        rfl
      · have mm := mod_mk h2 h3 m
        rw [m, inW_way e (o - 2 ^ e) (x % 2 ^ e) (by omega) (by omega) r0 r1]
        by_cases z : x = o
        · rw [decide_eq_true z, decide_eq_true (by omega)]
          rfl
        · rw [decide_eq_false z, decide_eq_false (by omega)]
          rfl
theorem C_sel2 {q : Int → Bool} {os : List Int} {s t : Nat} (h : s ≤ t) : (os.take s).countP q + (sel (os, s, t)).countP q = (os.take t).countP q := by
  have e : os.take t = os.take s ++ sel (os, s, t) := by
    unfold sel
    have := (List.take_append_drop s (os.take t)).symm
    rw [List.take_take, Nat.min_eq_left h] at this
    exact this
  rw [e, List.countP_append]
theorem Wh_one (g : G3) : Wh [g] = sel g := by unfold Wh; rw [List.flatMap_cons, List.flatMap_nil, List.append_nil]
theorem cnt_q (us : List Int) (o : Int) : us.count o = us.countP fun x => decide (x = o) := by
  rw [List.count_eq_countP]
  refine List.countP_congr fun x _ => ?_
  rw [beq_iff_eq, decide_eq_true_eq]
/-- the place of the so-many-th like one of a stretch -/
theorem lift_at {L : Nat} {g : G3} {o : Int} {left : Nat} (hg : GoodS L g) (h0 : 0 ≤ o) (h1 : o < 2 ^ L) (hl : left < (sel g).count o) :
    ∃ i, (spots L g.1 (wayW L o))[(ledS L (wayW L o) g).2.1 + left]? = some i ∧ g.2.1 ≤ i ∧ i < g.2.2 ∧ g.1[i]? = some o ∧ (sel (g.1, g.2.1, i)).count o = left := by
  obtain ⟨os, s, t⟩ := g
  obtain ⟨hin, hst, htl, _⟩ := hg
  change s ≤ t at hst
  change t ≤ os.length at htl
  have hq : ∀ x ∈ os, inW L x (wayW L o) = decide (x = o) := fun x hx => inW_way L o x h0 h1 (hin x hx).1 (hin x hx).2
  have hs : spots L os (wayW L o) = idxs (fun x => decide (x = o)) os := idxs_congr hq
  have hcc : ∀ k, (os.take k).countP (fun x => inW L x (wayW L o)) = (os.take k).countP fun x => decide (x = o) := fun k => List.countP_congr fun x hx => by rw [hq x (List.mem_of_mem_take hx)]
  have hled : (ledS L (wayW L o) (os, s, t)).2.1 = (os.take s).countP fun x => decide (x = o) := by
    rcases ledS_sel L (wayW L o) os s t (by rw [wayW_len]; exact Nat.le_refl _) hin with e | e | e
    · rw [e]; exact hcc s
    · omega
    · omega
  rw [cnt_q] at hl
  have c1 := C_sel2 (q := fun x => decide (x = o)) (os := os) hst
  have c2 := cnt_mono (q := fun x => decide (x = o)) os htl
  rw [List.take_of_length_le (Nat.le_refl os.length)] at c2
  have hlen : (idxs (fun x => decide (x = o)) os).length = os.countP fun x => decide (x = o) := by
    have := congrArg List.length (idxs_vals (p := fun x => decide (x = o)) os)
    rw [List.length_map] at this
    rw [this, List.countP_eq_length_filter]
  have hk : (os.take s).countP (fun x => decide (x = o)) + left < (idxs (fun x => decide (x = o)) os).length := by omega
  obtain ⟨i, hi⟩ : ∃ i, (idxs (fun x => decide (x = o)) os)[(os.take s).countP (fun x => decide (x = o)) + left]? = some i := ⟨_, List.getElem?_eq_getElem hk⟩
  obtain ⟨o', k1, k2, k3⟩ := idxs_get os _ i hi
  have eo : o' = o := of_decide_eq_true k2
  subst eo
  have hsi : s ≤ i := by
    apply Classical.byContradiction
    intro c
    have m := cnt_mono (q := fun x => decide (x = o')) os (show i + 1 ≤ s by omega)
    rw [cnt_step k1 k2] at m
    omega
  have hit : i < t := by
    apply Classical.byContradiction
    intro c
    have m := cnt_mono (q := fun x => decide (x = o')) os (show t ≤ i by omega)
    omega
  refine ⟨i, ?_, hsi, hit, k1, ?_⟩
  · show (spots L os (wayW L o'))[(ledS L (wayW L o') (os, s, t)).2.1 + left]? = some i
    rw [hs, hled]
    exact hi
  · show (sel (os, s, i)).count o' = left
    rw [cnt_q]
    have c3 := C_sel2 (q := fun x => decide (x = o')) (os := os) hsi
    omega
def Thing (gs : List G3) (o : Int) (num j pl : Nat) : Prop := ∃ g, gs[j]? = some g ∧ g.2.1 ≤ pl ∧ pl < g.2.2 ∧ g.1[pl]? = some o ∧ num = (Wh (gs.take j ++ [(g.1, g.2.1, pl)])).count o
theorem Wh_take {gs : List G3} {j : Nat} {g : G3} (h : gs[j]? = some g) : Wh (gs.take (j + 1)) = Wh (gs.take j) ++ sel g := by
  rw [List.take_add_one, h]
  show Wh (gs.take j ++ [g]) = _
  rw [W_app, Wh_one]
theorem cutTake {xs : List V} {j : Nat} : cutV xs none (some (j : Int)) = xs.take j := by
  unfold cutV
  rw [HT.sIx_nat, HT.sIx_none, List.drop_zero, Nat.sub_zero]
  by_cases h : j ≤ xs.length
  · rw [Nat.min_eq_left h]
  · rw [Nat.min_eq_right (by omega), List.take_length, List.take_of_length_le (by omega)]
theorem gat_app {H : Hp} {L : Nat} {xs ys : List V} {gs hs : List G3} (h : GatAt H L xs gs) (k : GatAt H L ys hs) : GatAt H L (xs ++ ys) (gs ++ hs) := by
  have h' : AllAt (fun H v g => StrAt H L v g) H xs gs := h
  have k' : AllAt (fun H v g => StrAt H L v g) H ys hs := k
  exact h'.app k'
theorem gat_take {H : Hp} {L : Nat} {xs : List V} {gs : List G3} (h : GatAt H L xs gs) (j : Nat) : GatAt H L (xs.take j) (gs.take j) := by
  refine ⟨by rw [List.length_take, List.length_take, h.1], fun i x g h1 h2 => ?_⟩
  have hi : i < j := by
    have := (List.getElem?_eq_some_iff.mp h1).1
    rw [List.length_take] at this
    omega
  rw [List.getElem?_take_of_lt hi] at h1 h2
  exact h.2 i x g h1 h2
theorem gat_one {H : Hp} {L : Nat} {v : V} {g : G3} (h : StrAt H L v g) : GatAt H L [v] [g] := (GatAt.nil H L).snoc h
abbrev k_nth_alike : Nat := 43
def sp_nth_alike (_ : PySem.W.Frag) : Sp := fun vs H Q _ => ∃ (ga wy : Addr) (xs : List V) (L num : Nat) (o : Int) (gs : List G3), vs = [.ref ga, .ref wy, .int (num : Int)] ∧ L ≤ 40 ∧ H ga = some (.lst xs) ∧ GatAt H L xs gs ∧ (∀ g ∈ gs, GoodS L g) ∧ gs.length ≤ 100 ∧ TupF H wy ((wayW L o).map V.int) ∧ 0 ≤ o ∧ o < 2 ^ L ∧ num < (Wh gs).count o ∧
  ∀ (p : Addr) (j pl : Nat) (H' : Hp), Same H H' → H' p = some (.tup [.int (j : Int), .int (pl : Int)]) → Thing gs o num j pl → Q (.ref p) H'
abbrev k_nth_least : Nat := 44
def sp_nth_least (K : PySem.W.Frag) : Sp := fun vs H Q _ => ∃ (b ga : Addr) (xs : List V) (low : Int) (L k : Nat) (gs : List G3), vs = [.ref b, .ref ga, .int (k : Int)] ∧ SqT K H b [.int low, .int (L : Int)] ∧ L ≤ 40 ∧ H ga = some (.lst xs) ∧ GatAt H L xs gs ∧ (∀ g ∈ gs, GoodS L g) ∧ gs.length ≤ 100 ∧ (Wh gs).length ≤ 900 ∧ k < (Wh gs).length ∧
  ∀ (p : Addr) (j pl : Nat) (H' : Hp), Same H H' → SqT K H' p [.int (low + kth L (Wh gs) k), .int (j : Int), .int (pl : Int)] → Thing gs (kth L (Wh gs) k) (k - ltC (Wh gs) (kth L (Wh gs) k)) j pl → Q (.ref p) H'
abbrev k_rank_of : Nat := 5
def sp_rank_of (K : PySem.W.Frag) : Sp := fun vs H Q _ => ∃ (b ga : Addr) (xs : List V) (low o : Int) (L j pl : Nat) (gs : List G3) (g : G3), vs = [.ref b, .ref ga, .int (j : Int), .int (pl : Int)] ∧ SqT K H b [.int low, .int (L : Int)] ∧ L ≤ 40 ∧ H ga = some (.lst xs) ∧ GatAt H L xs gs ∧ (∀ g ∈ gs, GoodS L g) ∧ gs.length ≤ 90 ∧ gs[j]? = some g ∧ g.2.1 ≤ pl ∧ pl < g.2.2 ∧ g.1[pl]? = some o ∧
  ∀ H', Same H H' → Q (.int (((ltC (Wh gs) o : Nat) : Int) + (((Wh (gs.take j ++ [(g.1, g.2.1, pl)])).count o : Nat) : Int))) H'
def muJ (n : Nat) : St → Nat := fun σ => match σ[5]? with
  | some (some (V.int m)) => n - m.toNat
  | _ => 0
section
variable {P : Program} {w : World} {K : PySem.W.Frag} {mg : Str → Option Value} {base : Heap}
theorem ok_sum_from (d : Def K mg "sum_from" s_sum_from ["least", "many", "parts", "k"]) (z : Bz mg) (c_filled : Cal P w K mg base k_filled "filled" ["gathering"] (sp_filled K)) (c_led : Cal P w K mg base k_led "led" ["gathering", "way"] (sp_led K)) (c_many_in : Cal P w K mg base k_many_in "many_in" ["gathering"] (sp_many_in K)) : Cal P w K mg base k_sum_from "sum_from" ["least", "many", "parts", "k"] (sp_sum_from K) := by
  have sc := sc_sum_from
  refine d.recur (k := kb_sum_from) (sp := spe_sum_from K) kn_sum_from fun e hen c_sum_from f fd F => F.ok sc (fun vs H Q E h => ?_) (fun cdv A outer s H vs Q E hr h => ?_)
  · obtain ⟨least, pa, xs, k, gs, rfl, _⟩ := h
    rfl
  obtain ⟨least, pa, xs, k, gs, rfl, hpa, hg, hgd, hl, hk, q⟩ := h
  refine ⟨_, (pss_cons (ps_if (pt_cmpR op_eq (pv 3) pe_int (nomark _))
  (pss_one (ps_ret pe_int))
  pss_nil)
 (pss_cons (ps_if (pt_cmpR op_eq (pv 1) pe_int (nomark _))
  (pss_one (ps_ret (pe_op op_mul (pv 0) (pv 3))))
  pss_nil)
 (pss_cons (ps_set (i := 4) sc.nd rfl (Or.inl rfl) (pe_op op_fdivB (pv 1) pe_int))
 (pss_cons (ps_set (i := 5) sc.nd rfl (Or.inl rfl) (pe_fn c_filled (hr.mono (Nat.le_trans (by decide : k_filled ≤ kb_sum_from) (Nat.le_add_left _ _))) (by rfl) (pa_cons (pe_fn c_led (hr.mono (Nat.le_trans (by decide : k_led ≤ kb_sum_from) (Nat.le_add_left _ _))) (by rfl) (pa_cons (pv 2) (pa_cons (pe_tup (pa_cons pe_int pa_nil)) pa_nil))) pa_nil)))
 (pss_cons (ps_set (i := 6) sc.nd rfl (Or.inl rfl) (pe_fn c_filled (hr.mono (Nat.le_trans (by decide : k_filled ≤ kb_sum_from) (Nat.le_add_left _ _))) (by rfl) (pa_cons (pe_fn c_led (hr.mono (Nat.le_trans (by decide : k_led ≤ kb_sum_from) (Nat.le_add_left _ _))) (by rfl) (pa_cons (pv 2) (pa_cons (pe_tup (pa_cons pe_int pa_nil)) pa_nil))) pa_nil)))
 (pss_cons (ps_set (i := 7) sc.nd rfl (Or.inl rfl) (pe_callB (call_min2 rfl) (by rfl) z.min_ bt_min (pa_cons (pv 3) (pa_cons (pe_fn c_many_in (hr.mono (Nat.le_trans (by decide : k_many_in ≤ kb_sum_from) (Nat.le_add_left _ _))) (by rfl) (pa_cons (pv 5) pa_nil)) pa_nil))))
 (pss_one (ps_ret (pe_op op_add (pe_fn c_sum_from (hr.mono (Nat.le_refl _)) (by rfl) (pa_cons (pv 0) (pa_cons (pv 4) (pa_cons (pv 5) (pa_cons (pv 7) pa_nil))))) (pe_fn c_sum_from (hr.mono (Nat.le_refl _)) (by rfl) (pa_cons (pe_op op_add (pv 0) (pv 4)) (pa_cons (pv 4) (pa_cons (pv 6) (pa_cons (pe_op op_sub (pv 3) (pv 7)) pa_nil)))))))))))))), ?_⟩
  refine ⟨_, rfl, rfl, _, rfl, ?_⟩
  refine ite2 (fun c => ?_) (fun c => ?_)
  · have k0 : k = 0 := by have := V.int.inj (of_decide_eq_true c); omega
    subst k0
    rw [sumF_zero] at q
    exact q H (Same.refl H)
  refine ⟨_, rfl, rfl, _, rfl, ?_⟩
  cases e with
  | zero =>
    refine ite2 (fun _ => ?_) (fun c => absurd (decide_eq_true rfl) c)
    exact ⟨_, rfl, _, rfl, _, _, rfl, rfl, .inr ⟨by omega, by omega⟩, q H (Same.refl H)⟩
  | succ e =>
    have hp2 := p2pos e
    have e2 := pow2 e
    refine ite2 (fun c => absurd (V.int.inj (of_decide_eq_true c)) (by omega)) (fun _ => ?_)
    refine ⟨_, rfl, _, _, rfl, rfl, ⟨by decide, by decide⟩, ?_⟩
    dsimp only
    rw [pow_half]
    have good1 : ∀ w, ∀ g ∈ gs.map (led1 e w), GoodS e g := fun w g hg => by
      obtain ⟨g', hg', rfl⟩ := List.mem_map.mp hg
      exact led1_good (hgd g' hg')
    have el : ∀ w : Int, gs.map (ledS (e + 1) [w]) = gs.map (led1 e w) := fun w => List.map_congr_left fun g _ => by rw [ledS_cons, ledS_empty]
    have lf : ∀ w, (fillG (gs.map (led1 e w))).length ≤ 100 := fun w => Nat.le_trans (List.length_filter_le _ _) (by rw [List.length_map]; exact hl)
    refine ⟨_, rfl, szb rfl, fun w0 hw0 => ?_⟩
    have s2 := same_new hw0 (.tup [V.int 0])
    have hw0' : upd H w0 (.tup [V.int 0]) w0 = some (.tup [V.int 0]) := upd_same
    generalize upd H w0 (.tup [V.int 0]) = H2 at *
    refine ⟨pa, w0, xs, e + 1, [0], gs, rfl, s2.seq hpa, hg.same s2, hgd, by omega, SqT.of hw0', by simp, (fun x hx => by rw [List.mem_singleton.mp hx]; exact .inl rfl), fun H3 D3 z3 s3 hD3 hD3n hg3 => ?_⟩
    rw [el] at hg3
    refine ⟨D3, z3, e, _, rfl, SqL.of hD3, hg3, by rw [List.length_map]; omega, fun H4 D4 z4 s4 hD4 hD4n hg4 => ?_⟩
    have s04 := (s2.trans s3).trans s4
    refine ⟨_, rfl, szb rfl, fun w1 hw1 => ?_⟩
    have s5 := same_new hw1 (.tup [V.int 1])
    have hw1' : upd H4 w1 (.tup [V.int 1]) w1 = some (.tup [V.int 1]) := upd_same
    generalize upd H4 w1 (.tup [V.int 1]) = H5 at *
    have s05 := s04.trans s5
    refine ⟨pa, w1, xs, e + 1, [1], gs, rfl, s05.seq hpa, hg.same s05, hgd, by omega, SqT.of hw1', by simp, (fun x hx => by rw [List.mem_singleton.mp hx]; exact .inr rfl), fun H6 D6 z6 s6 hD6 hD6n hg6 => ?_⟩
    rw [el] at hg6
    refine ⟨D6, z6, e, _, rfl, SqL.of hD6, hg6, by rw [List.length_map]; omega, fun H7 D7 z7 s7 hD7 hD7n hg7 => ?_⟩
    have s47 := (s5.trans s6).trans s7
    have hD47 := s47 _ _ hD4
    have hg47 := hg4.same s47
    refine ⟨_, rfl, _, rfl, D4, z4, e, _, rfl, SqL.of hD47, hg47, Nat.le_trans (lf 0) (by decide), fun H8 s8 => ?_⟩
    rw [manyG_W (fill_good (good1 0)), W_fill, W_led hgd]
    have em : (if (((halfO e 0 (Wh gs)).length : Nat) : Int) < (k : Int) then (((halfO e 0 (Wh gs)).length : Nat) : Int) else (k : Int)) = ((min k (halfO e 0 (Wh gs)).length : Nat) : Int) := by
      by_cases c : (((halfO e 0 (Wh gs)).length : Nat) : Int) < (k : Int)
      · rw [if_pos c, Nat.min_eq_right (by omega)]
      · rw [if_neg c, Nat.min_eq_left (by omega)]
    refine ⟨_, _, rfl, ?_⟩
    rw [em]
    have hmk : min k (halfO e 0 (Wh gs)).length ≤ k := Nat.min_le_left _ _
    generalize hmm : min k (halfO e 0 (Wh gs)).length = m at *
    refine ⟨_, rfl, _, rfl, _, rfl, _, rfl, least, D4, z4, m, fillG (gs.map (led1 e 0)), rfl, SqL.of (s8 _ _ hD47), hg47.same s8, fill_good (good1 0), lf 0, by omega, fun H9 s9 => ?_⟩
    rw [W_fill, W_led hgd]
    have s89 := s8.trans s9
    refine ⟨_, rfl, _, rfl, _, _, rfl, rfl, _, rfl, _, rfl, _, rfl, _, rfl, _, _, rfl, rfl, ?_⟩
    refine ⟨least + 2 ^ e, D7, z7, k - m, fillG (gs.map (led1 e 1)), ?_, SqL.of (s89 _ _ hD7), hg7.same s89, fill_good (good1 1), lf 1, by omega, fun H10 s10 => ⟨_, _, rfl, rfl, ?_⟩⟩
    · exact congrArg (fun q : Int => [V.int (least + 2 ^ e), V.int (2 ^ e), V.ref D7, V.int q]) (show (k : Int) - (m : Int) = ((k - m : Nat) : Int) by omega)
    rw [W_fill, W_led hgd]
    have q' := q H10 (((s04.trans s47).trans s89).trans s10)
    have ef : sumF (e + 1) least (Wh gs) k = sumF e least (halfO e 0 (Wh gs)) m + sumF e (least + 2 ^ e) (halfO e 1 (Wh gs)) (k - m) := by
      show sumF e least (halfO e 0 (Wh gs)) (min k _) + sumF e (least + 2 ^ e) (halfO e 1 (Wh gs)) (k - min k _) = _
      rw [hmm]
    rw [ef] at q'
    exact q'
theorem ok_sum_of_least (d : Def K mg "sum_of_least" s_sum_of_least ["bounds", "gathering", "k"]) (z : Bz mg) (c_filled : Cal P w K mg base k_filled "filled" ["gathering"] (sp_filled K)) (c_many_in : Cal P w K mg base k_many_in "many_in" ["gathering"] (sp_many_in K)) (c_many_worths : Cal P w K mg base k_many_worths "many_worths" ["levels"] (sp_many_worths K)) (c_sum_from : Cal P w K mg base k_sum_from "sum_from" ["least", "many", "parts", "k"] (sp_sum_from K)) : Cal P w K mg base k_sum_of_least "sum_of_least" ["bounds", "gathering", "k"] (sp_sum_of_least K) := by
  have sc := sc_sum_of_least
  refine d.cal fun f fd F => F.ok sc (fun vs H Q E h => ?_) (fun cdv A outer s H vs Q E hr h => ?_)
  · obtain ⟨b, ga, xs, low, L, k, gs, rfl, _⟩ := h
    rfl
  obtain ⟨b, ga, xs, low, L, k, gs, rfl, hb, hL, hga, hg, hgd, hl, hw9, hk, q⟩ := h
  refine ⟨_, (pss_cons (ps_if (PW.pt (pw_or (pt_cmpR op_lt (pv 2) pe_int (nomark _)) (pw_or1 (pt_cmpR op_gt (pv 2) (pe_fn c_many_in (hr.mono (by decide)) (by rfl) (pa_cons (pv 1) pa_nil)) (nomark _)))))
  (pss_one ps_never)
  pss_nil)
 (pss_one (ps_ret (pe_fn c_sum_from (hr.mono (by decide)) (by rfl) (pa_cons (pe_ix ix_tup (pv 0) pe_int (fun _ _ => rfl)) (pa_cons (pe_fn c_many_worths (hr.mono (by decide)) (by rfl) (pa_cons (pe_ix ix_tup (pv 0) pe_int (fun _ _ => rfl)) pa_nil)) (pa_cons (pe_fn c_filled (hr.mono (by decide)) (by rfl) (pa_cons (pv 1) pa_nil)) (pa_cons (pv 2) pa_nil)))))))), ?_⟩
  refine ⟨_, rfl, _, _, rfl, rfl, _, rfl, ?_⟩
  refine ite2 (fun c => absurd (of_decide_eq_true c) (by omega)) (fun _ => ?_)
  refine ⟨_, rfl, _, rfl, ga, xs, L, gs, rfl, hga, hg, by omega, fun H1 s1 => ?_⟩
  rw [manyG_W hgd]
  refine ⟨_, _, rfl, rfl, _, rfl, ?_⟩
  refine ite2 (fun c => absurd (of_decide_eq_true c) (by omega)) (fun _ => ?_)
  refine ⟨_, rfl, b, _, _, _, rfl, rfl, s1.seqT hb, rfl, _, rfl, b, _, _, _, rfl, rfl, s1.seqT hb, rfl, L, rfl, hL, _, rfl, ga, xs, L, gs, rfl, s1.seq hga, hg.same s1, by omega, fun H2 D2 z2 s2 hD2 _ hg2 => ?_⟩
  refine ⟨_, rfl, L, hL, low, D2, z2, k, fillG gs, rfl, SqL.of hD2, hg2, fill_good hgd, Nat.le_trans (List.length_filter_le _ _) hl, by omega, fun H3 s3 => ?_⟩
  rw [W_fill]
  exact q H3 ((s1.trans s2).trans s3)
end
section
variable {P : Program} {w : World} {K : PySem.W.Frag} {mg : Str → Option Value} {base : Heap}
theorem ok_nth_alike (d : Def K mg "nth_alike" s_nth_alike ["gathering", "way", "number"]) (z : Bz mg) (c_led : Cal P w K mg base k_led "led" ["gathering", "way"] (sp_led K)) (c_lifted : Cal P w K mg base k_lifted "lifted" ["tree", "way", "place"] (sp_lifted K)) (c_many_in : Cal P w K mg base k_many_in "many_in" ["gathering"] (sp_many_in K)) : Cal P w K mg base k_nth_alike "nth_alike" ["gathering", "way", "number"] (sp_nth_alike K) := by
  have sc := sc_nth_alike
  refine d.cal fun f fd F => F.ok sc (fun vs H Q E h => ?_) (fun cdv A outer s H vs Q E hr h => ?_)
  · obtain ⟨ga, wy, xs, L, num, o, gs, rfl, _⟩ := h
    rfl
  obtain ⟨ga, wy, xs, L, num, o, gs, rfl, hL, hga, hg, hgd, hl, hwy, h0, h1, hnum, q⟩ := h
  refine ⟨_, (pss_cons (ps_set (i := 3) sc.nd rfl (Or.inl rfl) (pe_fn c_led (hr.mono (by decide)) (by rfl) (pa_cons (pv 0) (pa_cons (pv 1) pa_nil))))
 (pss_cons (ps_set (i := 4) sc.nd rfl (Or.inl rfl) (pv 2))
 (pss_cons (ps_set (i := 5) sc.nd rfl (Or.inl rfl) pe_int)
 (pss_cons (ps_while PassesOwn.never (pt_cmpR op_ge (pv 4) (pe_fn c_many_in (hr.mono (by decide)) (by rfl) (pa_cons (pe_lst (pa_cons (pe_ix ix_list (pv 3) (pv 5) (fun _ _ => rfl)) pa_nil)) pa_nil)) (nomark _))
  (pss_cons (ps_set (i := 4) sc.nd rfl (Or.inl rfl) (pe_op op_sub (pv 4) (pe_fn c_many_in (hr.mono (by decide)) (by rfl) (pa_cons (pe_lst (pa_cons (pe_ix ix_list (pv 3) (pv 5) (fun _ _ => rfl)) pa_nil)) pa_nil))))
 (pss_one (ps_set (i := 5) sc.nd rfl (Or.inl rfl) (pe_op op_add (pv 5) pe_int)))))
 (pss_one (ps_ret (pe_tup (pa_cons (pv 5) (pa_cons (pe_fn c_lifted (hr.mono (by decide)) (by rfl) (pa_cons (pe_ix ix_tup (pe_ix ix_list (pv 0) (pv 5) (fun _ _ => rfl)) pe_int (fun _ _ => rfl)) (pa_cons (pv 1) (pa_cons (pe_op op_add (pe_ix ix_tup (pe_ix ix_list (pv 3) (pv 5) (fun _ _ => rfl)) pe_int (fun _ _ => rfl)) (pv 4)) pa_nil)))) pa_nil))))))))), ?_⟩
  have hwl := wayW_len L o
  refine ⟨_, rfl, _, rfl, ga, wy, xs, L, wayW L o, gs, rfl, SqL.of hga, hg, hgd, by omega, hwy.sq, by omega, wayW_01 L o, fun H1 D zs s1 hD _ hg1 => ?_⟩
  rw [hwl, Nat.sub_self] at hg1
  have one : ∀ g ∈ gs, manyG [ledS L (wayW L o) g] = ((sel g).count o : Nat) := fun g hgm => by
    have := led_full L o [g] h0 h1 (fun x hx => by rw [List.mem_singleton.mp hx]; exact hgd g hgm)
    rw [Wh_one] at this
    exact this
  have hjlt : ∀ (j left : Nat), left + (Wh (gs.take j)).count o = num → j < gs.length := fun j left e => by
    apply Classical.byContradiction
    intro c
    rw [List.take_of_length_le (by omega)] at e
    omega
  refine ⟨_, rfl, ?_⟩
  have at1 : ∀ j : Nat, j < gs.length → ∃ g z t t' u u', gs[j]? = some g ∧ zs[j]? = some z ∧ z = V.ref t' ∧ H1 t' = some (.tup [u', .int ((ledS L (wayW L o) g).2.1 : Int), .int ((ledS L (wayW L o) g).2.2 : Int)]) ∧ StrAt H1 0 z (ledS L (wayW L o) g) ∧ xs[j]? = some (V.ref t) ∧ H t = some (.tup [u, .int (g.2.1 : Int), .int (g.2.2 : Int)]) ∧ TreeAt H u (growO L g.1) := by
    intro j hj
    have gj : gs[j]? = some gs[j] := List.getElem?_eq_getElem hj
    have hjz : j < zs.length := by rw [hg1.1, List.length_map]; exact hj
    have hjx : j < xs.length := by rw [hg.1]; exact hj
    have gz := List.getElem?_eq_getElem hjz
    have gx := List.getElem?_eq_getElem hjx
    have hstr := hg1.2 j _ _ gz (by rw [List.getElem?_map, gj]; rfl)
    obtain ⟨t', u', e1, e2, e3⟩ := id hstr
    obtain ⟨t, u, f1, f2, f3⟩ := hg.2 j _ _ gx gj
    rw [f1] at gx
    exact ⟨_, _, t, t', u, u', gj, gz, e1, e2, hstr, gx, f2, f3⟩
  refine while_by (fun σ H2 => ∃ (left j : Nat), σ = [some (.ref ga), some (.ref wy), some (.int (num : Int)), some (.ref D), some (.int (left : Int)), some (.int (j : Int))] ∧ Same H1 H2 ∧ left + (Wh (gs.take j)).count o = num) (fun σ _ => muJ gs.length σ)
    ⟨num, 0, rfl, Same.refl _, rfl⟩ ?_ ?_
  · rintro σ H2 ⟨left, j, rfl, s2, hinv⟩
    have hj := hjlt j left hinv
    obtain ⟨g, z, t, t', u, u', gj, gz, e1, e2, hstr, gx, f2, f3⟩ := at1 j hj
    have hgm := List.mem_of_getElem? gj
    have hwt := Wh_take gj
    refine ⟨_, rfl, _, rfl, _, rfl, D, _, _, _, rfl, rfl, SqL.of (s2 _ _ hD), atI_nat gz, szb rfl, fun l1 hl1 => ?_⟩
    have s3 := same_new hl1 (.lst [z])
    have hl1' : upd H2 l1 (.lst [z]) l1 = some (.lst [z]) := upd_same
    generalize upd H2 l1 (.lst [z]) = H3 at *
    have s13 := s2.trans s3
    refine ⟨l1, [z], 0, [ledS L (wayW L o) g], rfl, SqL.of hl1', gat_one (hstr.tk (.same s13)), by simp, fun H4 s4 => ?_⟩
    rw [one g hgm]
    refine ⟨_, _, rfl, rfl, _, rfl, ?_⟩
    have s14 := s13.trans s4
    refine ite2 (fun c => ?_) (fun c => ?_)
    · have c' : (sel g).count o ≤ left := by have := of_decide_eq_true c; omega
      refine ⟨_, rfl, _, rfl, _, rfl, D, _, _, _, rfl, rfl, SqL.of (s14 _ _ hD), atI_nat gz, szb rfl, fun l2 hl2 => ?_⟩
      have s5 := same_new hl2 (.lst [z])
      have hl2' : upd H4 l2 (.lst [z]) l2 = some (.lst [z]) := upd_same
      generalize upd H4 l2 (.lst [z]) = H5 at *
      have s15 := s14.trans s5
      refine ⟨l2, [z], 0, [ledS L (wayW L o) g], rfl, SqL.of hl2', gat_one (hstr.tk (.same s15)), by simp, fun H6 s6 => ?_⟩
      rw [one g hgm]
      refine ⟨_, _, rfl, rfl, _, rfl, _, _, rfl, rfl, ⟨left - (sel g).count o, j + 1, ?_, s15.trans s6, ?_⟩, ?_⟩
      · have a1 : (left : Int) - ((sel g).count o : Nat) = ((left - (sel g).count o : Nat) : Int) := by omega
        have a2 : (j : Int) + 1 = ((j + 1 : Nat) : Int) := by omega
        show [some (V.ref ga), some (V.ref wy), some (V.int (num : Int)), some (V.ref D), some (V.int ((left : Int) - ((sel g).count o : Nat))), some (V.int ((j : Int) + 1))] = _
        rw [a1, a2]
      · rw [hwt, List.count_append]; omega
      · show gs.length - ((j : Int) + 1).toNat < gs.length - ((j : Int)).toNat
        omega
    · have c' : left < (sel g).count o := by
        apply Classical.byContradiction
        intro z2
        exact c (decide_eq_true (by omega))
      obtain ⟨i, k1, k2, k3, k4, k5⟩ := lift_at (hgd g hgm) h0 h1 c'
      have s04 := s1.trans s14
      refine ⟨_, rfl, _, rfl, _, rfl, ga, _, _, _, rfl, rfl, SqL.of (s04 _ _ hga), atI_nat gx, t, _, _, _, rfl, rfl, SqT.of (s04 _ _ f2), rfl, _, rfl, _, rfl, _, rfl, D, _, _, _, rfl, rfl, SqL.of (s14 _ _ hD), atI_nat gz, ?_⟩
      rw [e1]
      refine ⟨t', _, _, _, rfl, rfl, SqT.of (s14 _ _ e2), rfl, _, rfl, _, _, rfl, rfl, ?_⟩
      refine ⟨L, hL, u, wy, (ledS L (wayW L o) g).2.1 + left, i, L, g.1, wayW L o, ?_, f3.same s04, hwy.same s04, hwl, Nat.le_refl _, wayW_01 L o, (hgd g hgm).1, k1, fun H5 s5 => ⟨szb rfl, fun p hp => ?_⟩⟩
      · exact congrArg (fun q : Int => [u, V.ref wy, V.int q]) (show ((ledS L (wayW L o) g).2.1 : Int) + (left : Int) = (((ledS L (wayW L o) g).2.1 + left : Nat) : Int) by omega)
      refine q p j i _ ((s04.trans s5).trans (same_new hp _)) upd_same ⟨g, gj, k2, k3, k4, ?_⟩
      rw [W_app, Wh_one, List.count_append, k5]
      omega
  · rintro σ H2 Q1 Q2 hq ⟨_, e0, _, e1, _, e2, a, us, i, v, f1, f2, f3, f4, g0, g⟩
    refine ⟨_, e0, _, e1, _, e2, a, us, i, v, f1, f2, f3, f4, g0, fun p hp => ?_⟩
    obtain ⟨ga', xs', L', gs', h1, h2, h3, h4, h5⟩ := g p hp
    refine ⟨ga', xs', L', gs', h1, h2, h3, h4, fun H' s' => ?_⟩
    obtain ⟨i', j', w1, w2, k, w3, w4⟩ := h5 H' s'
    exact ⟨i', j', w1, w2, k, w3, hq _ _ w4⟩
theorem ok_nth_least (d : Def K mg "nth_least" s_nth_least ["bounds", "gathering", "k"]) (z : Bz mg) (c_many_in : Cal P w K mg base k_many_in "many_in" ["gathering"] (sp_many_in K)) (c_many_lesser : Cal P w K mg base k_many_lesser "many_lesser" ["gathering", "way"] (sp_many_lesser K)) (c_nth_alike : Cal P w K mg base k_nth_alike "nth_alike" ["gathering", "way", "number"] (sp_nth_alike K)) (c_span_of : Cal P w K mg base k_span_of "span_of" ["bounds", "way"] (sp_span_of K)) (c_way_of_nth : Cal P w K mg base k_way_of_nth "way_of_nth" ["levels", "gathering", "k"] (sp_way_of_nth K)) : Cal P w K mg base k_nth_least "nth_least" ["bounds", "gathering", "k"] (sp_nth_least K) := by
  have sc := sc_nth_least
  refine d.cal fun f fd F => F.ok sc (fun vs H Q E h => ?_) (fun cdv A outer s H vs Q E hr h => ?_)
  · obtain ⟨b, ga, xs, low, L, k, gs, rfl, _⟩ := h
    rfl
  obtain ⟨b, ga, xs, low, L, k, gs, rfl, hb, hL, hga, hg, hgd, hl, hw9, hk, q⟩ := h
  refine ⟨_, (pss_cons (ps_if (PW.pt (pw_or (pt_cmpR op_lt (pv 2) pe_int (nomark _)) (pw_or1 (pt_cmpR op_ge (pv 2) (pe_fn c_many_in (hr.mono (by decide)) (by rfl) (pa_cons (pv 1) pa_nil)) (nomark _)))))
  (pss_one ps_never)
  pss_nil)
 (pss_cons (ps_set (i := 3) sc.nd rfl (Or.inl rfl) (pe_fn c_way_of_nth (hr.mono (by decide)) (by rfl) (pa_cons (pe_ix ix_tup (pv 0) pe_int (fun _ _ => rfl)) (pa_cons (pv 1) (pa_cons (pv 2) pa_nil)))))
 (pss_cons (ps_set (i := 4) sc.nd rfl (Or.inl rfl) (pe_op op_sub (pv 2) (pe_fn c_many_lesser (hr.mono (by decide)) (by rfl) (pa_cons (pv 1) (pa_cons (pv 3) pa_nil)))))
 (pss_one (ps_ret (pe_op op_catU (pe_tup (pa_cons (pe_ix ix_tup (pe_fn c_span_of (hr.mono (by decide)) (by rfl) (pa_cons (pv 0) (pa_cons (pv 3) pa_nil))) pe_int (fun _ _ => rfl)) pa_nil)) (pe_fn c_nth_alike (hr.mono (by decide)) (by rfl) (pa_cons (pv 1) (pa_cons (pv 3) (pa_cons (pv 4) pa_nil)))))))))), ?_⟩
  have r := kth_rng L (Wh gs) k
  obtain ⟨c1, c2⟩ := kth_cnt L (Wh gs) k (W_in hgd) hk
  rw [ltC_succ] at c2
  refine ⟨_, rfl, _, _, rfl, rfl, _, rfl, ?_⟩
  refine ite2 (fun c => absurd (of_decide_eq_true c) (by omega)) (fun _ => ?_)
  refine ⟨_, rfl, _, rfl, ga, xs, L, gs, rfl, SqL.of hga, hg, by omega, fun H1 s1 => ?_⟩
  rw [manyG_W hgd]
  refine ⟨_, _, rfl, rfl, _, rfl, ?_⟩
  refine ite2 (fun c => absurd (of_decide_eq_true c) (by omega)) (fun _ => ?_)
  refine ⟨_, rfl, b, _, _, _, rfl, rfl, s1.seqT hb, rfl, _, rfl, _, rfl, ga, xs, L, k, gs, rfl, hL, s1 _ _ hga, hg.same s1, hgd, hl, hw9, hk, fun t H2 s2 ht => ?_⟩
  have s02 := s1.trans s2
  generalize kth L (Wh gs) k = o at *
  refine ⟨_, rfl, _, rfl, _, rfl, ga, t, xs, L, o, gs, rfl, SqL.of (s02 _ _ hga), hg.same s02, hgd, hl, ht.sq, r.1, r.2, fun H3 s3 => ⟨_, _, rfl, rfl, ?_⟩⟩
  have s03 := s02.trans s3
  refine ⟨_, rfl, _, rfl, b, t, low, L, wayW L o, rfl, s03.seqT hb, hL, (ht.same s3).sq, fun p hp => ?_⟩
  have hsp : spanS low L (wayW L o) = (low + o, 1) := span_way L low o r.1 r.2
  rw [hsp]
  have s4 := same_new hp (.tup [V.int (low + o), .int (low + o + 1 - 1)])
  have hp4 : upd H3 p (.tup [V.int (low + o), .int (low + o + 1 - 1)]) p = some (.tup [V.int (low + o), .int (low + o + 1 - 1)]) := upd_same
  dsimp only
  generalize upd H3 p (.tup [V.int (low + o), .int (low + o + 1 - 1)]) = H4 at *
  refine ⟨p, _, _, _, rfl, rfl, SqT.of hp4, rfl, szb rfl, fun p1 hp1 => ?_⟩
  have s5 := same_new hp1 (.tup [V.int (low + o)])
  have hp5 : upd H4 p1 (.tup [V.int (low + o)]) p1 = some (.tup [V.int (low + o)]) := upd_same
  generalize upd H4 p1 (.tup [V.int (low + o)]) = H5 at *
  have s05 := (s03.trans s4).trans s5
  refine ⟨_, rfl, _, rfl, _, rfl, ga, t, xs, L, k - ltC (Wh gs) o, o, gs, ?_, hL, s05 _ _ hga, hg.same s05, hgd, hl, (((ht.same s3).same s4).same s5), r.1, r.2, by omega, fun p2 j pl H6 s6 hp2 hth => ?_⟩
  · exact congrArg (fun q : Int => [V.ref ga, V.ref t, V.int q]) (show (k : Int) - ((ltC (Wh gs) o : Nat) : Int) = ((k - ltC (Wh gs) o : Nat) : Int) by omega)
  refine ⟨p1, p2, _, _, rfl, rfl, SqT.of (s6 _ _ hp5), SqT.of hp2, szb rfl, fun p3 H7 s7 h3 _ => ?_⟩
  exact q p3 j pl H7 ((s05.trans s6).trans s7) h3 hth
theorem ok_rank_of (d : Def K mg "rank_of" s_rank_of ["bounds", "gathering", "j", "place"]) (z : Bz mg) (c_led : Cal P w K mg base k_led "led" ["gathering", "way"] (sp_led K)) (c_many_in : Cal P w K mg base k_many_in "many_in" ["gathering"] (sp_many_in K)) (c_many_lesser : Cal P w K mg base k_many_lesser "many_lesser" ["gathering", "way"] (sp_many_lesser K)) (c_number_at : Cal P w K mg base k_number_at "number_at" ["bounds", "tree", "place"] (sp_number_at K)) (c_way_of : Cal P w K mg base k_way_of "way_of" ["bounds", "number"] (sp_way_of K)) : Cal P w K mg base k_rank_of "rank_of" ["bounds", "gathering", "j", "place"] (sp_rank_of K) := by
  have sc := sc_rank_of
  refine d.cal fun f fd F => F.ok sc (fun vs H Q E h => ?_) (fun cdv A outer s H vs Q E hr h => ?_)
  · obtain ⟨b, ga, xs, low, o, L, j, pl, gs, g, rfl, _⟩ := h
    rfl
  obtain ⟨b, ga, xs, low, o, L, j, pl, gs, g, rfl, hb, hL, hga, hg, hgd, hl, gj, hs, ht, ho, q⟩ := h
  refine ⟨_, (pss_cons (ps_if (PW.pt (pw_or (pt_cmpR op_lt (pv 2) pe_int (nomark _)) (pw_or1 (pt_cmpR op_ge (pv 2) (pe_callB call_len_seq (by rfl) z.len_ bt_len (pa_cons (pv 1) pa_nil)) (nomark _)))))
  (pss_one ps_never)
  pss_nil)
 (pss_cons (ps_set (i := 4) sc.nd rfl (Or.inl rfl) (pe_ix ix_list (pv 1) (pv 2) (fun _ _ => rfl)))
 (pss_cons (ps_if (PW.pt (pw_or (pt_cmpR op_lt (pv 3) (pe_ix ix_tup (pv 4) pe_int (fun _ _ => rfl)) (nomark _)) (pw_or1 (pt_cmpR op_ge (pv 3) (pe_ix ix_tup (pv 4) pe_int (fun _ _ => rfl)) (nomark _)))))
  (pss_one ps_never)
  pss_nil)
 (pss_cons (ps_set (i := 5) sc.nd rfl (Or.inl rfl) (pe_fn c_way_of (hr.mono (by decide)) (by rfl) (pa_cons (pv 0) (pa_cons (pe_fn c_number_at (hr.mono (by decide)) (by rfl) (pa_cons (pv 0) (pa_cons (pe_ix ix_tup (pv 4) pe_int (fun _ _ => rfl)) (pa_cons (pv 3) pa_nil)))) pa_nil))))
 (pss_cons (ps_set (i := 6) sc.nd rfl (Or.inl rfl) (pe_op op_cat (pe_slice sl_list (pv 1) po_none (po_some (pv 2))) (pe_lst (pa_cons (pe_tup (pa_cons (pe_ix ix_tup (pv 4) pe_int (fun _ _ => rfl)) (pa_cons (pe_ix ix_tup (pv 4) pe_int (fun _ _ => rfl)) (pa_cons (pv 3) pa_nil)))) pa_nil))))
 (pss_one (ps_ret (pe_op op_add (pe_fn c_many_lesser (hr.mono (by decide)) (by rfl) (pa_cons (pv 1) (pa_cons (pv 5) pa_nil))) (pe_fn c_many_in (hr.mono (by decide)) (by rfl) (pa_cons (pe_fn c_led (hr.mono (by decide)) (by rfl) (pa_cons (pv 6) (pa_cons (pv 5) pa_nil))) pa_nil)))))))))), ?_⟩
  have hj : j < gs.length := (List.getElem?_eq_some_iff.mp gj).1
  have hjx : j < xs.length := by rw [hg.1]; exact hj
  have gx := List.getElem?_eq_getElem hjx
  obtain ⟨t, u, e1, e2, e3⟩ := hg.2 j _ _ gx gj
  rw [e1] at gx
  have hgg := hgd g (List.mem_of_getElem? gj)
  have hin := hgg.1 o (List.mem_of_getElem? ho)
  have htt : SqT K H t [u, .int (g.2.1 : Int), .int (g.2.2 : Int)] := SqT.of e2
  refine ⟨_, rfl, _, _, rfl, rfl, _, rfl, ?_⟩
  refine ite2 (fun c => absurd (of_decide_eq_true c) (by omega)) (fun _ => ?_)
  refine ⟨_, rfl, _, rfl, ga, _, rfl, .inl (SqL.of hga), _, _, rfl, rfl, _, rfl, ?_⟩
  refine ite2 (fun c => absurd (of_decide_eq_true c) (by omega)) (fun _ => ?_)
  refine ⟨_, rfl, _, rfl, ga, _, _, _, rfl, rfl, SqL.of hga, atI_nat gx, ?_⟩
  refine ⟨_, rfl, _, rfl, t, _, _, _, rfl, rfl, htt, rfl, _, _, rfl, rfl, _, rfl, ?_⟩
  refine ite2 (fun c => absurd (of_decide_eq_true c) (by omega)) (fun _ => ?_)
  refine ⟨_, rfl, _, rfl, t, _, _, _, rfl, rfl, htt, rfl, _, _, rfl, rfl, _, rfl, ?_⟩
  refine ite2 (fun c => absurd (of_decide_eq_true c) (by omega)) (fun _ => ?_)
  refine ⟨_, rfl, _, rfl, _, rfl, t, _, _, _, rfl, rfl, htt, rfl, _, rfl, b, u, pl, o, low, L, g.1, rfl, hb, hL, e3, hgg.1, ho, fun H1 s1 => ?_⟩
  refine ⟨b, low, low + o, L, rfl, s1.seqT hb, hL, ⟨by omega, by omega⟩, fun wy H2 s2 hwy => ?_⟩
  have ew : low + o - low = o := by omega
  rw [ew] at hwy
  have s02 := s1.trans s2
  have htt2 : SqT K H2 t [u, .int (g.2.1 : Int), .int (g.2.2 : Int)] := SqT.of (s02 _ _ e2)
  refine ⟨_, rfl, _, rfl, _, rfl, ga, _, rfl, SqL.of (s02 _ _ hga), fun S hS => ?_⟩
  rw [cutTake]
  have s3 := same_new hS (.lst (xs.take j))
  have hS3 : upd H2 S (.lst (xs.take j)) S = some (.lst (xs.take j)) := upd_same
  generalize upd H2 S (.lst (xs.take j)) = H3 at *
  have s03 := s02.trans s3
  refine ⟨_, rfl, t, _, _, _, rfl, rfl, s3.seqT htt2, rfl, _, rfl, t, _, _, _, rfl, rfl, s3.seqT htt2, rfl, _, rfl, szb rfl, fun t2 ht2 => ?_⟩
  have s4 := same_new ht2 (.tup [u, .int (g.2.1 : Int), .int (pl : Int)])
  have ht4 : upd H3 t2 (.tup [u, .int (g.2.1 : Int), .int (pl : Int)]) t2 = some (.tup [u, .int (g.2.1 : Int), .int (pl : Int)]) := upd_same
  generalize upd H3 t2 (.tup [u, .int (g.2.1 : Int), .int (pl : Int)]) = H4 at *
  refine ⟨szb rfl, fun l5 hl5 => ?_⟩
  have s5 := same_new hl5 (.lst [V.ref t2])
  have hl5' : upd H4 l5 (.lst [V.ref t2]) l5 = some (.lst [V.ref t2]) := upd_same
  generalize upd H4 l5 (.lst [V.ref t2]) = H5 at *
  have s35 := s4.trans s5
  refine ⟨S, l5, _, _, rfl, rfl, s35 _ _ hS3, hl5', sz (by rw [List.length_take]; simp; omega), fun bf hbf => ?_⟩
  have s6 := same_new hbf (.lst (xs.take j ++ [V.ref t2]))
  have hbf6 : upd H5 bf (.lst (xs.take j ++ [V.ref t2])) bf = some (.lst (xs.take j ++ [V.ref t2])) := upd_same
  generalize upd H5 bf (.lst (xs.take j ++ [V.ref t2])) = H6 at *
  have s06 := (s03.trans s35).trans s6
  have hG6 : GatAt H6 L (xs.take j ++ [V.ref t2]) (gs.take j ++ [(g.1, g.2.1, pl)]) := gat_app ((gat_take hg j).same s06) (gat_one ⟨t2, u, rfl, (s5.trans s6) _ _ ht4, e3.same s06⟩)
  have hgd6 : ∀ x ∈ gs.take j ++ [(g.1, g.2.1, pl)], GoodS L x := fun x hx => by
    rcases List.mem_append.mp hx with hx | hx
    · exact hgd x (List.mem_of_mem_take hx)
    · rw [List.mem_singleton.mp hx]
      exact ⟨hgg.1, hs, by have := hgg.2.2.1; show pl ≤ g.1.length; omega, hgg.2.2.2⟩
  have hlen6 : (gs.take j ++ [(g.1, g.2.1, pl)]).length ≤ 100 := by rw [List.length_append, List.length_take]; simp; omega
  have hwy6 := ((hwy.same s3).same s35).same s6
  refine ⟨_, rfl, _, rfl, ga, wy, xs, L, o, gs, rfl, SqL.of (s06 _ _ hga), hg.same s06, hgd, by omega, hwy6.sq, hin.1, hin.2, fun H7 s7 => ?_⟩
  refine ⟨_, rfl, _, rfl, bf, wy, _, L, wayW L o, _, rfl, SqL.of (s7 _ _ hbf6), hG6.same s7, hgd6, by omega, (hwy6.same s7).sq, by rw [wayW_len]; exact Nat.le_refl _, wayW_01 L o, fun H8 D8 z8 s8 hD8 _ hg8 => ?_⟩
  refine ⟨D8, z8, _, _, rfl, SqL.of hD8, hg8, by rw [List.length_map]; omega, fun H9 s9 => ⟨_, _, rfl, rfl, ?_⟩⟩
  rw [led_full L o _ hin.1 hin.2 hgd6]
  exact q H9 (((s06.trans s7).trans s8).trans s9)
end
theorem not_ne2 {x y : V} (h : x = y) : ¬ (!decide (x = y)) = true := by rw [decide_eq_true h]; decide
theorem cnt_btw {low w : Int} (us : List Int) : us.count (w - low) = us.countP (btw low w w) := by
  rw [List.count_eq_countP]
  refine List.countP_congr fun x _ => ?_
  unfold btw
  rw [beq_iff_eq, decide_eq_true_eq]
  omega
theorem pr_alk {K : PySem.W.Frag} {H : Hp} {a b : Addr} {p : P2} (ha : SqT K H a [.int p.1, .int p.2]) (hb : SqT K H b [.int p.1, .int p.2]) : Alk K H 2 (.ref a) (.ref b) := by
  refine .tup ha hb rfl fun i x y g1 g2 => ?_
  match i, g1, g2 with
  | 0, g1, g2 => cases g1; cases g2; exact .flat rfl
  | 1, g1, g2 => cases g1; cases g2; exact .flat rfl
theorem ps_alk {K : PySem.W.Frag} {H : Hp} {a b : Addr} {xs ys : List V} {ps : List P2} (ha : SqL K H a xs) (hb : SqL K H b ys) (hx : AllAt PsR H xs ps) (hy : AllAt PsR H ys ps) : Alk K H 3 (.ref a) (.ref b) := by
  refine .lst ha hb (hx.1.trans hy.1.symm) fun j x y h1 h2 => ?_
  obtain ⟨p, hp, t, rfl, e1⟩ := hx.get h1
  obtain ⟨t', rfl, f1⟩ := hy.2 j y p h2 hp
  exact pr_alk (SqT.of e1) (SqT.of f1)
abbrev k__law_thing_right : Nat := 46
def sp__law_thing_right (K : PySem.W.Frag) : Sp := fun vs H Q _ => ∃ (b ga : Addr) (xs : List V) (low : Int) (L k : Nat) (gs : List G3), vs = [.ref b, .ref ga, .int (k : Int)] ∧ SqT K H b [.int low, .int (L : Int)] ∧ L ≤ 40 ∧ H ga = some (.lst xs) ∧ GatAt H L xs gs ∧ (∀ g ∈ gs, GoodS L g) ∧ gs.length ≤ 90 ∧ (Wh gs).length ≤ 900 ∧ k < (Wh gs).length ∧
  ∀ H', Same H H' → Q (.bl true) H'
abbrev k__law_gone_up : Nat := 7
def sp__law_gone_up (K : PySem.W.Frag) : Sp := fun vs H Q _ => ∃ (b ga : Addr) (xs : List V) (low : Int) (L : Nat) (gs : List G3), vs = [.ref b, .ref ga] ∧ SqT K H b [.int low, .int (L : Int)] ∧ L ≤ 40 ∧ H ga = some (.lst xs) ∧ GatAt H L xs gs ∧ (∀ g ∈ gs, GoodS L g) ∧ gs.length ≤ 100 ∧ (Wh gs).length ≤ 900 ∧
  ∀ (H' : Hp) (D : Addr) (ys : List V), Same H H' → H' D = some (.lst ys) → H D = none → AllAt PsR H' ys (stp L low (Wh gs)) → Q (.ref D) H'
abbrev k__law_gone_back : Nat := 7
def sp__law_gone_back (K : PySem.W.Frag) : Sp := fun vs H Q _ => ∃ (b ga : Addr) (xs : List V) (low : Int) (L : Nat) (gs : List G3), vs = [.ref b, .ref ga, .int ((Wh gs).length : Nat)] ∧ SqT K H b [.int low, .int (L : Int)] ∧ L ≤ 40 ∧ H ga = some (.lst xs) ∧ GatAt H L xs gs ∧ (∀ g ∈ gs, GoodS L g) ∧ gs.length ≤ 100 ∧ (Wh gs).length ≤ 900 ∧
  ∀ (H' : Hp) (D : Addr) (ys : List V), Same H H' → H' D = some (.lst ys) → H D = none → AllAt PsR H' ys (stp L low (Wh gs)).reverse → Q (.ref D) H'
def muF (fl : Addr) : St → Hp → Nat := fun _ H => match H fl with
  | some (.lst ys) => 2000 - ys.length
  | _ => 0
theorem stp_len {L : Nat} {low : Int} {us : List Int} (hin : InO L us) : (stp L low us).length ≤ us.length := by
  have h := few (part := 1) (W := 0) (by decide) (by decide) (caF 1 0 L low us) (fun p hp => by have := (st_rng hin hp).2.2.1; omega)
  rw [st_sum] at h
  unfold stp
  omega
theorem find_first {ss : List P2} {f : P2 → Bool} (h : ∀ p ∈ ss, f p = true) : ss.find? f = ss[0]? := by
  cases ss with
  | nil => rfl
  | cons x ss => rw [List.find?_cons, h x List.mem_cons_self]; rfl
section
variable {P : Program} {w : World} {K : PySem.W.Frag} {mg : Str → Option Value} {base : Heap}
theorem ok__law_thing_right (d : Def K mg "_law_thing_right" s__law_thing_right ["_law_bounds_here", "_law_gathering_here", "_law_k"]) (z : Bz mg) (c_below : Cal P w K mg base k_below "below" ["bounds", "gathering", "number"] (sp_below K)) (c_between : Cal P w K mg base k_between "between" ["bounds", "gathering", "low", "high"] (sp_between K)) (c_nth_least : Cal P w K mg base k_nth_least "nth_least" ["bounds", "gathering", "k"] (sp_nth_least K)) (c_number_at : Cal P w K mg base k_number_at "number_at" ["bounds", "tree", "place"] (sp_number_at K)) (c_rank_of : Cal P w K mg base k_rank_of "rank_of" ["bounds", "gathering", "j", "place"] (sp_rank_of K)) (c_sum_of_least : Cal P w K mg base k_sum_of_least "sum_of_least" ["bounds", "gathering", "k"] (sp_sum_of_least K)) : Cal P w K mg base k__law_thing_right "_law_thing_right" ["_law_bounds_here", "_law_gathering_here", "_law_k"] (sp__law_thing_right K) := by
  have sc := sc__law_thing_right
  refine d.cal fun f fd F => F.ok sc (fun vs H Q E h => ?_) (fun cdv A outer s H vs Q E hr h => ?_)
  · obtain ⟨b, ga, xs, low, L, k, gs, rfl, _⟩ := h
    rfl
  obtain ⟨b, ga, xs, low, L, k, gs, rfl, hb, hL, hga, hg, hgd, hl, hw9, hk, q⟩ := h
  refine ⟨_, (pss_cons (ps_asg (pe_fn c_nth_least (hr.mono (by decide)) (by rfl) (pa_cons (pv 0) (pa_cons (pv 1) (pa_cons (pv 2) pa_nil)))) (pg_tup rfl (pgs_cons (pg_name (i := 3) sc.nd rfl (Or.inl rfl)) (pgs_cons (pg_name (i := 4) sc.nd rfl (Or.inl rfl)) (pgs_cons (pg_name (i := 5) sc.nd rfl (Or.inl rfl)) pgs_nil)))))
 (pss_cons (ps_if (PW.pt (pw_or (pt_cmpR op_ne (pe_fn c_rank_of (hr.mono (by decide)) (by rfl) (pa_cons (pv 0) (pa_cons (pv 1) (pa_cons (pv 4) (pa_cons (pv 5) pa_nil))))) (pv 2) (nomark _)) (pw_or1 (pt_cmpR op_ne (pe_fn c_number_at (hr.mono (by decide)) (by rfl) (pa_cons (pv 0) (pa_cons (pe_ix ix_tup (pe_ix ix_list (pv 1) (pv 4) (fun _ _ => rfl)) pe_int (fun _ _ => rfl)) (pa_cons (pv 5) pa_nil)))) (pv 3) (nomark _)))))
  (pss_one (ps_ret pe_bl))
  pss_nil)
 (pss_cons (ps_set (i := 6) sc.nd rfl (Or.inl rfl) (pe_fn c_below (hr.mono (by decide)) (by rfl) (pa_cons (pv 0) (pa_cons (pv 1) (pa_cons (pv 3) pa_nil)))))
 (pss_cons (ps_if (pt_not (pt_chain op_le op_lt (pv 6) (pv 2) (pe_op op_add (pv 6) (pe_fn c_between (hr.mono (by decide)) (by rfl) (pa_cons (pv 0) (pa_cons (pv 1) (pa_cons (pv 3) (pa_cons (pv 3) pa_nil))))))))
  (pss_one (ps_ret pe_bl))
  pss_nil)
 (pss_one (ps_ret (pe_cmpR op_eq (pe_op op_sub (pe_fn c_sum_of_least (hr.mono (by decide)) (by rfl) (pa_cons (pv 0) (pa_cons (pv 1) (pa_cons (pe_op op_add (pv 2) pe_int) pa_nil)))) (pe_fn c_sum_of_least (hr.mono (by decide)) (by rfl) (pa_cons (pv 0) (pa_cons (pv 1) (pa_cons (pv 2) pa_nil))))) (pv 3) (nomark _)))))))), ?_⟩
  have hl1 : gs.length ≤ 100 := by omega
  obtain ⟨c1, c2⟩ := kth_cnt L (Wh gs) k (W_in hgd) hk
  rw [ltC_succ] at c2
  have hstep := sumF_step L low (Wh gs) k
  refine ⟨_, rfl, _, rfl, _, rfl, b, ga, xs, low, L, k, gs, rfl, hb, hL, hga, hg, hgd, hl1, hw9, hk, fun p j pl H1 s1 hp hth => ?_⟩
  generalize kth L (Wh gs) k = o at *
  obtain ⟨g, gj, t1, t2, t3, t4⟩ := hth
  have c1' : List.countP (fun x => decide (x < o)) (Wh gs) ≤ k := c1
  have c2' : k < List.countP (fun x => decide (x < o)) (Wh gs) + (Wh gs).count o := c2
  refine ⟨p, _, rfl, hp, rfl, _, _, rfl, _, _, rfl, _, _, rfl, rfl, ?_⟩
  refine ⟨_, rfl, _, rfl, _, rfl, _, rfl, b, ga, xs, low, o, L, j, pl, gs, g, rfl, s1.seqT hb, hL, s1 _ _ hga, hg.same s1, hgd, hl, gj, t1, t2, t3, fun H2 s2 => ?_⟩
  have er : ((ltC (Wh gs) o : Nat) : Int) + (((Wh (gs.take j ++ [(g.1, g.2.1, pl)])).count o : Nat) : Int) = (k : Int) := by omega
  rw [er]
  refine ⟨_, rfl, rfl, _, rfl, ite2 (fun c => absurd c (not_ne2 rfl)) (fun _ => ?_)⟩
  have s02 := s1.trans s2
  have hjx : j < xs.length := by rw [hg.1]; exact (List.getElem?_eq_some_iff.mp gj).1
  have gx := List.getElem?_eq_getElem hjx
  obtain ⟨t, u, e1, e2, e3⟩ := hg.2 j _ _ gx gj
  rw [e1] at gx
  have hgg := hgd g (List.mem_of_getElem? gj)
  refine ⟨_, rfl, _, rfl, _, rfl, ga, _, _, _, rfl, rfl, SqL.of (s02 _ _ hga), atI_nat gx, t, _, _, _, rfl, rfl, SqT.of (s02 _ _ e2), rfl, _, rfl, b, u, pl, o, low, L, g.1, rfl, s02.seqT hb, hL, e3.same s02, hgg.1, t3, fun H3 s3 => ?_⟩
  refine ⟨_, rfl, rfl, _, rfl, ite2 (fun c => absurd c (not_ne2 rfl)) (fun _ => ?_)⟩
  have s03 := s02.trans s3
  refine ⟨_, rfl, _, rfl, _, rfl, b, ga, xs, low, low + o, L, gs, rfl, s03.seqT hb, hL, SqL.of (s03 _ _ hga), hg.same s03, hgd, hl1, fun H4 s4 => ?_⟩
  have ew : low + o - low = o := by omega
  rw [ew]
  have s04 := s03.trans s4
  have hcb := cnt_btw (low := low) (w := low + o) (Wh gs)
  rw [ew] at hcb
  refine ⟨_, rfl, _, rfl, _, _, rfl, rfl, true, congrArg V.bl (decide_eq_true (by omega)), iteT ?_⟩
  refine ⟨_, rfl, _, rfl, _, rfl, _, rfl, _, rfl, b, ga, xs, low, low + o, low + o, L, gs, rfl, s04.seqT hb, hL, SqL.of (s04 _ _ hga), hg.same s04, hgd, hl1, fun H5 s5 => ?_⟩
  rw [← hcb]
  refine ⟨_, _, rfl, rfl, _, _, rfl, rfl, true, congrArg V.bl (decide_eq_true (by omega)), iteF ?_⟩
  have s05 := s04.trans s5
  refine ⟨_, rfl, _, rfl, _, rfl, _, _, rfl, rfl, b, ga, xs, low, L, k + 1, gs, rfl, s05.seqT hb, hL, SqL.of (s05 _ _ hga), hg.same s05, hgd, hl1, hw9, by omega, fun H6 s6 => ?_⟩
  have s06 := s05.trans s6
  refine ⟨_, rfl, _, rfl, _, rfl, b, ga, xs, low, L, k, gs, rfl, s06.seqT hb, hL, SqL.of (s06 _ _ hga), hg.same s06, hgd, hl1, hw9, by omega, fun H7 s7 => ?_⟩
  refine ⟨_, _, rfl, rfl, _, rfl, rfl, ?_⟩
  have q' := q H7 (s06.trans s7)
  have ed : decide (V.int (sumF L low (Wh gs) (k + 1) - sumF L low (Wh gs) k) = V.int (low + o)) = true := decide_eq_true (by rw [hstep])
  rw [← ed] at q'
  exact q'
theorem ok__law_gone_up (d : Def K mg "_law_gone_up" s__law_gone_up ["_law_bounds_here", "_law_gathering_here"]) (z : Bz mg) (c_many_in : Cal P w K mg base k_many_in "many_in" ["gathering"] (sp_many_in K)) (c_next_up : Cal P w K mg base k_next_up "next_up" ["bounds", "gathering", "number"] (sp_next_up K)) : Cal P w K mg base k__law_gone_up "_law_gone_up" ["_law_bounds_here", "_law_gathering_here"] (sp__law_gone_up K) := by
  have sc := sc__law_gone_up
  refine d.cal fun f fd F => F.ok sc (fun vs H Q E h => ?_) (fun cdv A outer s H vs Q E hr h => ?_)
  · obtain ⟨b, ga, xs, low, L, gs, rfl, _⟩ := h
    rfl
  obtain ⟨b, ga, xs, low, L, gs, rfl, hb, hL, hga, hg, hgd, hl, hw9, q⟩ := h
  refine ⟨_, (pss_cons (ps_set (i := 2) sc.nd rfl (Or.inl rfl) (pe_lst pa_nil))
 (pss_cons (ps_set (i := 3) sc.nd rfl (Or.inl rfl) (pe_fn c_next_up (hr.mono (by decide)) (by rfl) (pa_cons (pv 0) (pa_cons (pv 1) (pa_cons (pe_op op_sub (pe_ix ix_tup (pv 0) pe_int (fun _ _ => rfl)) pe_int) pa_nil)))))
 (pss_cons (ps_while PassesOwn.never (PW.pt (pw_and (pt_cmpR op_notN (pv 3) pe_non (nomark _)) (pw_and1 (pt_cmpR op_le (pe_callB call_len_seq (by rfl) z.len_ bt_len (pa_cons (pv 2) pa_nil)) (pe_fn c_many_in (hr.mono (by decide)) (by rfl) (pa_cons (pv 1) pa_nil)) (nomark _)))))
  (pss_cons (ps_expr (pe_bm PySem.F.plainAttrs_list PySem.F.slot_list_append PySem.F.type_list_append mt_append (pv 2) (pa_cons (pv 3) pa_nil)))
 (pss_one (ps_set (i := 3) sc.nd rfl (Or.inl rfl) (pe_fn c_next_up (hr.mono (by decide)) (by rfl) (pa_cons (pv 0) (pa_cons (pv 1) (pa_cons (pe_ix ix_tup (pv 3) pe_int (fun _ _ => rfl)) pa_nil))))))))
 (pss_one (ps_ret (pv 2)))))), ?_⟩
  have hin := W_in hgd
  have hrise := st_rise L low (Wh gs) hin
  have hlen := stp_len (low := low) hin
  have hlow : ∀ p ∈ stp L low (Wh gs), decide (low - 1 < p.1) = true := fun p hp => decide_eq_true (by have := (st_rng hin hp).1; omega)
  refine ⟨szb rfl, fun fl hfl => ?_⟩
  have s1 := same_new hfl (.lst [])
  have hfl1 : upd H fl (.lst []) fl = some (.lst []) := upd_same
  generalize upd H fl (.lst []) = H1 at *
  refine ⟨_, rfl, _, rfl, _, rfl, b, _, _, _, rfl, rfl, s1.seqT hb, rfl, _, _, rfl, rfl, b, ga, xs, low, low - 1, L, gs, rfl, s1.seqT hb, hL, s1 _ _ hga, hg.same s1, hgd, hl, hw9, fun v H2 s2 hv => ?_⟩
  rw [find_first hlow] at hv
  change (stp L low (Wh gs)).Pairwise _ at hrise
  have hnext : ∀ {i : Nat} {p : P2}, (stp L low (Wh gs))[i]? = some p → (stp L low (Wh gs)).find? (fun q => decide (p.1 < q.1)) = (stp L low (Wh gs))[i + 1]? := fun h => find_next hrise h
  have nup : ∀ (num : Int) (H' : Hp) (Q' : V → Hp → Prop), Same H H' → (∀ v H'', Same H' H'' → NxV H'' v ((stp L low (Wh gs)).find? fun q => decide (num < q.1)) → Q' v H'') → ∃ (b' ga' : Addr) (xs' : List V) (low' num' : Int) (L' : Nat) (gs' : List G3), [V.ref b, V.ref ga, V.int num] = [.ref b', .ref ga', .int num'] ∧ SqT K H' b' [.int low', .int (L' : Int)] ∧ L' ≤ 40 ∧ H' ga' = some (.lst xs') ∧ GatAt H' L' xs' gs' ∧ (∀ g ∈ gs', GoodS L' g) ∧ gs'.length ≤ 100 ∧ (Wh gs').length ≤ 900 ∧
      ∀ v H'', Same H' H'' → NxV H'' v ((stp L' low' (Wh gs')).find? fun q => decide (num' < q.1)) → Q' v H'' := fun num H' Q' s' hq => ⟨b, ga, xs, low, num, L, gs, rfl, s'.seqT hb, hL, s' _ _ hga, hg.same s', hgd, hl, hw9, hq⟩
  generalize stp L low (Wh gs) = ss at *
  refine while_by (fun σ H3 => ∃ (i : Nat) (ys : List V) (ov : V), σ = [some (.ref b), some (.ref ga), some (.ref fl), some ov] ∧ Same H H3 ∧ H3 fl = some (.lst ys) ∧ ys.length = i ∧ AllAt PsR H3 ys (ss.take i) ∧ NxV H3 ov ss[i]? ∧ i ≤ ss.length) (muF fl)
    ⟨0, [], v, rfl, s1.trans s2, s2 _ _ hfl1, rfl, AllAt.nil, hv, Nat.zero_le _⟩ ?_ ?_
  · rintro σ H3 ⟨i, ys, ov, rfl, s3, hfl3, hyl, hys, hov, hil⟩
    refine ⟨_, rfl, rfl, _, rfl, ?_⟩
    cases hsi : ss[i]? with
    | none =>
      rw [hsi] at hov
      cases (show ov = .non from hov)
      refine iteF (iteF ?_)
      have hie : i = ss.length := by have := List.getElem?_eq_none_iff.mp hsi; omega
      rw [hie, List.take_length] at hys
      exact ⟨_, rfl, q H3 fl ys s3 hfl3 hfl hys⟩
    | some p =>
      rw [hsi] at hov
      obtain ⟨pa, rfl, hpa⟩ := hov
      refine ite2 (fun _ => ?_) (fun c => absurd rfl c)
      refine ⟨_, rfl, fl, _, rfl, .inl (SqL.of hfl3), _, rfl, ga, xs, L, gs, rfl, SqL.of (s3 _ _ hga), hg.same s3, by omega, fun H4 s4 => ?_⟩
      rw [manyG_W hgd]
      refine ⟨_, _, rfl, rfl, _, rfl, ite2 (fun _ => ?_) (fun c => absurd (decide_eq_true (by omega)) c)⟩
      have hfl4 := s4 _ _ hfl3
      refine ⟨_, rfl, .inl ⟨rfl, _, SqL.of hfl4⟩, _, rfl, fl, _, _, rfl, rfl, hfl4, small1000 (by omega), ?_⟩
      have tk : TKeep H4 (upd H4 fl (.lst (ys ++ [.ref pa]))) := .set hfl4
      have hpa5 := (tk _ _).1 (s4 _ _ hpa)
      have s05 : Same H (upd H4 fl (.lst (ys ++ [.ref pa]))) := same_put2 (s3.trans s4) hfl _
      have hfl5 : upd H4 fl (.lst (ys ++ [.ref pa])) fl = some (.lst (ys ++ [.ref pa])) := upd_same
      have hys5 := (ps_tk (ps_same hys s4) tk).snoc (p := p) ⟨pa, rfl, hpa5⟩
      generalize upd H4 fl (.lst (ys ++ [.ref pa])) = H5 at *
      refine ⟨_, rfl, _, rfl, _, rfl, pa, _, _, _, rfl, rfl, SqT.of hpa5, rfl, nup p.1 H5 _ s05 fun v H6 s6 hv6 => ?_⟩
      rw [hnext hsi] at hv6
      have hii : i < ss.length := (List.getElem?_eq_some_iff.mp hsi).1
      refine ⟨⟨i + 1, ys ++ [.ref pa], v, rfl, s05.trans s6, s6 _ _ hfl5, by rw [List.length_append, hyl]; rfl, ?_, hv6, by omega⟩, ?_⟩
      · rw [List.take_add_one, hsi]
        exact ps_same hys5 s6
      · unfold muF
        rw [s6 _ _ hfl5, hfl3]
        show 2000 - (ys ++ [V.ref pa]).length < 2000 - ys.length
        rw [List.length_append]
        simp
        omega
  · rintro σ H2 Q1 Q2 hq ⟨_, e0, e1, k, e2, h⟩
    refine ⟨_, e0, e1, k, e2, ?_⟩
    cases k with
    | false => exact hq _ _ h
    | true =>
      obtain ⟨_, f0, p, xs', f1, f2, _, f3, ga', xs2, L', gs', g1, g2, g3, g4, g5⟩ := h
      refine ⟨_, f0, p, xs', f1, f2, _, f3, ga', xs2, L', gs', g1, g2, g3, g4, fun H' s' => ?_⟩
      obtain ⟨i', j', w1, w2, k, w3, w4⟩ := g5 H' s'
      exact ⟨i', j', w1, w2, k, w3, hq _ _ w4⟩
theorem ok__law_gone_back (d : Def K mg "_law_gone_back" s__law_gone_back ["_law_bounds_here", "_law_gathering_here", "_law_long"]) (z : Bz mg) (c_next_down : Cal P w K mg base k_next_down "next_down" ["bounds", "gathering", "number"] (sp_next_down K)) : Cal P w K mg base k__law_gone_back "_law_gone_back" ["_law_bounds_here", "_law_gathering_here", "_law_long"] (sp__law_gone_back K) := by
  have sc := sc__law_gone_back
  refine d.cal fun f fd F => F.ok sc (fun vs H Q E h => ?_) (fun cdv A outer s H vs Q E hr h => ?_)
  · obtain ⟨b, ga, xs, low, L, gs, rfl, _⟩ := h
    rfl
  obtain ⟨b, ga, xs, low, L, gs, rfl, hb, hL, hga, hg, hgd, hl, hw9, q⟩ := h
  refine ⟨_, (pss_cons (ps_set (i := 3) sc.nd rfl (Or.inl rfl) (pe_lst pa_nil))
 (pss_cons (ps_set (i := 4) sc.nd rfl (Or.inl rfl) (pe_fn c_next_down (hr.mono (by decide)) (by rfl) (pa_cons (pv 0) (pa_cons (pv 1) (pa_cons (pe_op op_add (pe_ix ix_tup (pv 0) pe_int (fun _ _ => rfl)) (pe_op op_shl pe_int (pe_ix ix_tup (pv 0) pe_int (fun _ _ => rfl)))) pa_nil)))))
 (pss_cons (ps_while PassesOwn.never (PW.pt (pw_and (pt_cmpR op_notN (pv 4) pe_non (nomark _)) (pw_and1 (pt_cmpR op_le (pe_callB call_len_seq (by rfl) z.len_ bt_len (pa_cons (pv 3) pa_nil)) (pv 2) (nomark _)))))
  (pss_cons (ps_expr (pe_bm PySem.F.plainAttrs_list PySem.F.slot_list_append PySem.F.type_list_append mt_append (pv 3) (pa_cons (pv 4) pa_nil)))
 (pss_one (ps_set (i := 4) sc.nd rfl (Or.inl rfl) (pe_fn c_next_down (hr.mono (by decide)) (by rfl) (pa_cons (pv 0) (pa_cons (pv 1) (pa_cons (pe_ix ix_tup (pv 4) pe_int (fun _ _ => rfl)) pa_nil))))))))
 (pss_one (ps_ret (pv 3)))))), ?_⟩
  have hin := W_in hgd
  have hrise := st_rise L low (Wh gs) hin
  have hlen := stp_len (low := low) hin
  have hlow : ∀ p ∈ (stp L low (Wh gs)).reverse, decide (p.1 < low + 2 ^ L) = true := fun p hp => decide_eq_true (by have := (st_rng hin (List.mem_reverse.mp hp)).2.1; omega)
  refine ⟨szb rfl, fun fl hfl => ?_⟩
  have s1 := same_new hfl (.lst [])
  have hfl1 : upd H fl (.lst []) fl = some (.lst []) := upd_same
  generalize upd H fl (.lst []) = H1 at *
  refine ⟨_, rfl, _, rfl, _, rfl, b, _, _, _, rfl, rfl, s1.seqT hb, rfl, _, rfl, b, _, _, _, rfl, rfl, s1.seqT hb, rfl, _, _, rfl, rfl, ⟨by omega, by omega, by decide⟩, _, _, rfl, rfl, ?_⟩
  dsimp only
  rw [shlOne]
  refine ⟨b, ga, xs, low, low + 2 ^ L, L, gs, rfl, s1.seqT hb, hL, s1 _ _ hga, hg.same s1, hgd, hl, hw9, fun v H2 s2 hv => ?_⟩
  rw [find_first hlow] at hv
  change (stp L low (Wh gs)).Pairwise _ at hrise
  have hnext : ∀ {i : Nat} {p : P2}, (stp L low (Wh gs)).reverse[i]? = some p → (stp L low (Wh gs)).reverse.find? (fun q => decide (q.1 < p.1)) = (stp L low (Wh gs)).reverse[i + 1]? := fun h => find_prev hrise h
  have nup : ∀ (num : Int) (H' : Hp) (Q' : V → Hp → Prop), Same H H' → (∀ v H'', Same H' H'' → NxV H'' v ((stp L low (Wh gs)).reverse.find? fun q => decide (q.1 < num)) → Q' v H'') → ∃ (b' ga' : Addr) (xs' : List V) (low' num' : Int) (L' : Nat) (gs' : List G3), [V.ref b, V.ref ga, V.int num] = [.ref b', .ref ga', .int num'] ∧ SqT K H' b' [.int low', .int (L' : Int)] ∧ L' ≤ 40 ∧ H' ga' = some (.lst xs') ∧ GatAt H' L' xs' gs' ∧ (∀ g ∈ gs', GoodS L' g) ∧ gs'.length ≤ 100 ∧ (Wh gs').length ≤ 900 ∧
      ∀ v H'', Same H' H'' → NxV H'' v ((stp L' low' (Wh gs')).reverse.find? fun q => decide (q.1 < num')) → Q' v H'' := fun num H' Q' s' hq => ⟨b, ga, xs, low, num, L, gs, rfl, s'.seqT hb, hL, s' _ _ hga, hg.same s', hgd, hl, hw9, hq⟩
  rw [← List.length_reverse] at hlen
  generalize (stp L low (Wh gs)).reverse = ss at *
  refine while_by (fun σ H3 => ∃ (i : Nat) (ys : List V) (ov : V), σ = [some (.ref b), some (.ref ga), some (.int ((Wh gs).length : Nat)), some (.ref fl), some ov] ∧ Same H H3 ∧ H3 fl = some (.lst ys) ∧ ys.length = i ∧ AllAt PsR H3 ys (ss.take i) ∧ NxV H3 ov ss[i]? ∧ i ≤ ss.length) (muF fl)
    ⟨0, [], v, rfl, s1.trans s2, s2 _ _ hfl1, rfl, AllAt.nil, hv, Nat.zero_le _⟩ ?_ ?_
  · rintro σ H3 ⟨i, ys, ov, rfl, s3, hfl3, hyl, hys, hov, hil⟩
    refine ⟨_, rfl, rfl, _, rfl, ?_⟩
    cases hsi : ss[i]? with
    | none =>
      rw [hsi] at hov
      cases (show ov = .non from hov)
      refine iteF (iteF ?_)
      have hie : i = ss.length := by have := List.getElem?_eq_none_iff.mp hsi; omega
      rw [hie, List.take_length] at hys
      exact ⟨_, rfl, q H3 fl ys s3 hfl3 hfl hys⟩
    | some p =>
      rw [hsi] at hov
      obtain ⟨pa, rfl, hpa⟩ := hov
      refine ite2 (fun _ => ?_) (fun c => absurd rfl c)
      have s4 := Same.refl H3
      refine ⟨_, rfl, fl, _, rfl, .inl (SqL.of hfl3), _, rfl, ?_⟩
      refine ⟨_, _, rfl, rfl, _, rfl, ite2 (fun _ => ?_) (fun c => absurd (decide_eq_true (by omega)) c)⟩
      have hfl4 := s4 _ _ hfl3
      refine ⟨_, rfl, .inl ⟨rfl, _, SqL.of hfl4⟩, _, rfl, fl, _, _, rfl, rfl, hfl4, small1000 (by omega), ?_⟩
      have tk : TKeep H3 (upd H3 fl (.lst (ys ++ [.ref pa]))) := .set hfl4
      have hpa5 := (tk _ _).1 (s4 _ _ hpa)
      have s05 : Same H (upd H3 fl (.lst (ys ++ [.ref pa]))) := same_put2 (s3.trans s4) hfl _
      have hfl5 : upd H3 fl (.lst (ys ++ [.ref pa])) fl = some (.lst (ys ++ [.ref pa])) := upd_same
      have hys5 := (ps_tk (ps_same hys s4) tk).snoc (p := p) ⟨pa, rfl, hpa5⟩
      generalize upd H3 fl (.lst (ys ++ [.ref pa])) = H5 at *
      refine ⟨_, rfl, _, rfl, _, rfl, pa, _, _, _, rfl, rfl, SqT.of hpa5, rfl, nup p.1 H5 _ s05 fun v H6 s6 hv6 => ?_⟩
      rw [hnext hsi] at hv6
      have hii : i < ss.length := (List.getElem?_eq_some_iff.mp hsi).1
      refine ⟨⟨i + 1, ys ++ [.ref pa], v, rfl, s05.trans s6, s6 _ _ hfl5, by rw [List.length_append, hyl]; rfl, ?_, hv6, by omega⟩, ?_⟩
      · rw [List.take_add_one, hsi]
        exact ps_same hys5 s6
      · unfold muF
        rw [s6 _ _ hfl5, hfl3]
        show 2000 - (ys ++ [V.ref pa]).length < 2000 - ys.length
        rw [List.length_append]
        simp
        omega
  · rintro σ H2 Q1 Q2 hq ⟨_, e0, e1, k, e2, h⟩
    refine ⟨_, e0, e1, k, e2, ?_⟩
    cases k with
    | false => exact hq _ _ h
    | true =>
      obtain ⟨_, f0, p, xs', f1, f2, _, f3, i', j', w1, w2, k, w3, w4⟩ := h
      exact ⟨_, f0, p, xs', f1, f2, _, f3, i', j', w1, w2, k, w3, hq _ _ w4⟩
end
theorem cut_get {xs : List V} {hi : Option Int} {j : Nat} {x : V} (h : (cutV xs none hi)[j]? = some x) : xs[j]? = some x := by
  unfold cutV at h
  have e : HT.sIx xs.length 0 none = 0 := rfl
  rw [e, List.drop_zero, List.getElem?_take] at h
  by_cases c : j < HT.sIx xs.length xs.length hi - 0
  · rw [if_pos c] at h; exact h
  · rw [if_neg c] at h; cases h
theorem Wh_le {n : Nat} : ∀ {gs : List G3}, (∀ g ∈ gs, g.1.length ≤ n) → (Wh gs).length ≤ n * gs.length
  | [], _ => Nat.zero_le _
  | g :: gs, h => by
    have ih := Wh_le (gs := gs) fun x hx => h x (List.mem_cons_of_mem _ hx)
    have h0 := h g List.mem_cons_self
    have e1 : (sel g).length ≤ g.1.length := by
      unfold sel
      rw [List.length_drop, List.length_take]
      omega
    unfold Wh at ih ⊢
    rw [List.flatMap_cons, List.length_append, List.length_cons, Nat.mul_succ]
    omega
theorem gOf_len {av : List Addr} {H : Hp} {low : Int} {L : Nat} {xs : List V} {nss : List (List Int)} {ts : List T3} (hR : RowsAt H av low L xs nss) (hok : TsOk nss ts) : ∀ g ∈ ts.map (gOf low nss), g.1.length ≤ 60 := fun g hg => by
  obtain ⟨t, ht, rfl⟩ := List.mem_map.mp hg
  obtain ⟨ns, h1, h2, h3⟩ := hok t ht
  have hj : t.1 < xs.length := by rw [hR.1]; exact (List.getElem?_eq_some_iff.mp h1).1
  obtain ⟨r, _, _, _, hw, hl⟩ := hR.2 t.1 _ ns (List.getElem?_eq_getElem hj) h1
  unfold gOf
  rw [h1, Option.getD_some, List.length_map]
  exact hl
def tw (p : P2) : P2 := (p.1, 2 * p.2)
theorem cnt_split {low a b c : Int} (h1 : a ≤ b) (h2 : b ≤ c) : ∀ us : List Int, us.countP (btw low a (b - 1)) + us.countP (btw low b c) = us.countP (btw low a c)
  | [] => rfl
  | x :: us => by
    rw [List.countP_cons, List.countP_cons, List.countP_cons, ← cnt_split h1 h2 us]
    unfold btw
    by_cases z1 : a ≤ low + x ∧ low + x ≤ b - 1
    · have z2 : ¬ (b ≤ low + x ∧ low + x ≤ c) := by omega
      have z3 : a ≤ low + x ∧ low + x ≤ c := by omega
      rw [decide_eq_true z1, decide_eq_false z2, decide_eq_true z3]
      simp
      omega
    · by_cases z2 : b ≤ low + x ∧ low + x ≤ c
      · have z3 : a ≤ low + x ∧ low + x ≤ c := by omega
        rw [decide_eq_false z1, decide_eq_true z2, decide_eq_true z3]
        simp
        omega
      · have z3 : ¬ (a ≤ low + x ∧ low + x ≤ c) := by omega
        rw [decide_eq_false z1, decide_eq_false z2, decide_eq_false z3]
        simp
theorem AllAt.rev {α : Type} {R : Hp → V → α → Prop} {H : Hp} {xs : List V} {ps : List α} (h : AllAt R H xs ps) : AllAt R H xs.reverse ps.reverse := by
  refine ⟨by rw [List.length_reverse, List.length_reverse, h.1], fun j x p h1 h2 => ?_⟩
  have hj : j < xs.length := by have := (List.getElem?_eq_some_iff.mp h1).1; rwa [List.length_reverse] at this
  rw [List.getElem?_reverse hj] at h1
  rw [List.getElem?_reverse (by rw [← h.1]; exact hj), ← h.1] at h2
  exact h.2 _ x p h1 h2
abbrev k_law : Nat := 48
abbrev sp_law (K : PySem.W.Frag) : Sp := spLaw K
section
variable {P : Program} {w : World} {K : PySem.W.Frag} {mg : Str → Option Value} {base : Heap}
theorem ok_law (z : Bz mg) (c__law_cell : Cal P w K mg base k__law_cell "_law_cell" ["_law_script", "_law_k"] (sp__law_cell K)) (c__law_drawn : Cal P w K mg base k__law_drawn "_law_drawn" ["_law_pen_here", "_law_long"] (sp__law_drawn K)) (c__law_gathering : Cal P w K mg base k__law_gathering "_law_gathering" ["_law_bounds_here", "_law_rows", "_law_some"] (sp__law_gathering K)) (c__law_gone_back : Cal P w K mg base k__law_gone_back "_law_gone_back" ["_law_bounds_here", "_law_gathering_here", "_law_long"] (sp__law_gone_back K)) (c__law_gone_up : Cal P w K mg base k__law_gone_up "_law_gone_up" ["_law_bounds_here", "_law_gathering_here"] (sp__law_gone_up K)) (c__law_pen : Cal P w K mg base k__law_pen "_law_pen" ["_law_cell_here"] (sp__law_pen K)) (c__law_some_number : Cal P w K mg base k__law_some_number "_law_some_number" ["_law_pen_here", "_law_bounds_here", "_law_rows"] (sp__law_some_number K)) (c__law_take : Cal P w K mg base k__law_take "_law_take" ["_law_pen_here", "_law_size"] (sp__law_take K)) (c__law_thing_right : Cal P w K mg base k__law_thing_right "_law_thing_right" ["_law_bounds_here", "_law_gathering_here", "_law_k"] (sp__law_thing_right K)) (c_below : Cal P w K mg base k_below "below" ["bounds", "gathering", "number"] (sp_below K)) (c_between : Cal P w K mg base k_between "between" ["bounds", "gathering", "low", "high"] (sp_between K)) (c_many_in : Cal P w K mg base k_many_in "many_in" ["gathering"] (sp_many_in K)) : ∀ (f : Addr) (fd : FuncData), Fun K "law" "law" s_law f fd → FnOk P w K mg base CX0 k_law f fd ["_law_script"] (sp_law K) := by
  have sc := sc_law
  intro f fd F
  refine F.ok sc (fun vs H Q E h => ?_) (fun cdv A outer s H vs Q E hr h => ?_)
  · obtain ⟨a, ns, rfl, _⟩ := h
    rfl
  obtain ⟨a, ns, rfl, hS, h63, hO, q⟩ := h
  refine ⟨_, (pss_cons (ps_set (i := 1) sc.nd rfl (Or.inr rfl) (pe_fn c__law_pen (hr.mono (by decide)) (by rfl) (pa_cons (pe_fn c__law_cell (hr.mono (by decide)) (by rfl) (pa_cons (pv 0) (pa_cons pe_int pa_nil))) pa_nil)))
 (pss_cons (ps_asg (pe_fn c__law_drawn (hr.mono (by decide)) (by rfl) (pa_cons (pv 1) (pa_cons pe_int pa_nil))) (pg_tup rfl (pgs_cons (pg_name (i := 2) sc.nd rfl (Or.inr rfl)) (pgs_cons (pg_name (i := 3) sc.nd rfl (Or.inr rfl)) (pgs_cons (pg_name (i := 4) sc.nd rfl (Or.inl rfl)) pgs_nil)))))
 (pss_cons (ps_set (i := 5) sc.nd rfl (Or.inl rfl) (pe_fn c__law_gathering (hr.mono (by decide)) (by rfl) (pa_cons (pv 2) (pa_cons (pv 3) (pa_cons (pe_slice sl_list (pv 4) po_none (po_some (pe_ix ix_list (pe_lst (pa_cons pe_int (pa_cons pe_int pa_nil))) (pe_callTy call_int1 (by rfl) z.int_ bt_int (pa_cons (pe_cmpR op_gt (pe_ix ix_tup (pv 2) pe_int (fun _ _ => rfl)) pe_int (nomark _)) pa_nil)) (fun _ _ => rfl)))) pa_nil)))))
 (pss_cons (ps_set (i := 6) sc.nd rfl (Or.inl rfl) (pe_fn c_many_in (hr.mono (by decide)) (by rfl) (pa_cons (pv 5) pa_nil)))
 (pss_cons (ps_for PassesOwn.never rfl (pi_range1 rfl z.range_ (pa_cons (pe_callB (call_min2 rfl) (by rfl) z.min_ bt_min (pa_cons (pv 6) (pa_cons pe_int pa_nil))) pa_nil)) (pg_name (i := 7) sc.nd rfl (Or.inl rfl))
  (pss_one (ps_if (pt_not (pt_val (pe_fn c__law_thing_right (hr.mono (by decide)) (by rfl) (pa_cons (pv 2) (pa_cons (pv 5) (pa_cons (pe_ix ix_list (pe_lst (pa_cons (pv 7) (pa_cons (pe_fn c__law_take (hr.mono (by decide)) (by rfl) (pa_cons (pv 1) (pa_cons (pv 6) pa_nil))) pa_nil))) (pe_op op_mod (pv 7) pe_int) (fun _ _ => rfl)) pa_nil))))))
  (pss_one (ps_ret pe_bl))
  pss_nil)))
 (pss_cons (ps_for PassesOwn.never rfl (pi_range1 rfl z.range_ (pa_cons pe_int pa_nil)) (pg_name (i := 7) sc.nd rfl (Or.inl rfl))
  (pss_cons (ps_set (i := 8) sc.nd rfl (Or.inl rfl) (pe_callB call_sortedI (by rfl) z.sorted_ bt_sorted (pa_cons (pe_comp (cl := [("_law_rows", s.heap.objs.size + 1 + 2), ("_law_pen_here", s.heap.objs.size + 1 + 0), ("_law_bounds_here", s.heap.objs.size + 1 + 1)]) (cn := ["_law_rows", "_law_pen_here", "_law_bounds_here"]) (N := ["_law_bounds_here", "_law_pen_here", "_law_rows"]) (fr := [2, 1, 3]) (sc0 := defScope s_law) rfl (pi_range1 rfl z.range_ (pa_cons pe_int pa_nil)) (fun C s₂ H₂ fp => (pe_fn c__law_some_number (hr.mono (by decide)) (by rfl) (pa_cons (pv 2) (pa_cons (pv 1) (pa_cons (pv 3) pa_nil))))) (by with_unfolding_all rfl) ⟨by with_unfolding_all rfl, by with_unfolding_all rfl, by with_unfolding_all rfl, trivial⟩ rfl rfl rfl ⟨by decide +kernel, by decide +kernel, by decide +kernel, by decide +kernel, by decide +kernel, by decide +kernel, by decide +kernel⟩ rfl) pa_nil)))
 (pss_cons (ps_set (i := 9) sc.nd rfl (Or.inl rfl) (pe_op op_add (pe_fn c_between (hr.mono (by decide)) (by rfl) (pa_cons (pv 2) (pa_cons (pv 5) (pa_cons (pe_ix ix_list (pv 8) pe_int (fun _ _ => rfl)) (pa_cons (pe_op op_sub (pe_ix ix_list (pv 8) pe_int (fun _ _ => rfl)) pe_int) pa_nil))))) (pe_fn c_between (hr.mono (by decide)) (by rfl) (pa_cons (pv 2) (pa_cons (pv 5) (pa_cons (pe_ix ix_list (pv 8) pe_int (fun _ _ => rfl)) (pa_cons (pe_ix ix_list (pv 8) pe_int (fun _ _ => rfl)) pa_nil)))))))
 (pss_cons (ps_if (pt_cmpR op_ne (pv 9) (pe_fn c_between (hr.mono (by decide)) (by rfl) (pa_cons (pv 2) (pa_cons (pv 5) (pa_cons (pe_ix ix_list (pv 8) pe_int (fun _ _ => rfl)) (pa_cons (pe_ix ix_list (pv 8) pe_int (fun _ _ => rfl)) pa_nil))))) (nomark _))
  (pss_one (ps_ret pe_bl))
  pss_nil)
 (pss_one (ps_if (pt_cmpR op_ne (pe_op op_add (pe_fn c_below (hr.mono (by decide)) (by rfl) (pa_cons (pv 2) (pa_cons (pv 5) (pa_cons (pe_ix ix_list (pv 8) pe_int (fun _ _ => rfl)) pa_nil)))) (pv 9)) (pe_fn c_below (hr.mono (by decide)) (by rfl) (pa_cons (pv 2) (pa_cons (pv 5) (pa_cons (pe_op op_add (pe_ix ix_list (pv 8) pe_int (fun _ _ => rfl)) pe_int) pa_nil)))) (nomark _))
  (pss_one (ps_ret pe_bl))
  pss_nil))))))
 (pss_cons (ps_set (i := 10) sc.nd rfl (Or.inr rfl) (pe_fn c__law_gone_up (hr.mono (by decide)) (by rfl) (pa_cons (pv 2) (pa_cons (pv 5) pa_nil))))
 (pss_cons (ps_if (PW.pt (pw_or (pt_cmpR op_ne (pe_callB (call_sumI rfl) (by rfl) z.sum_ bt_sum (pa_cons (pe_comp (cl := []) (cn := []) (N := []) (fr := []) (sc0 := defScope s_law) rfl (pi_list (pv 10)) (fun C s₂ H₂ fp => (pe_ix (ix_tupK (K := K) rfl) (pv 0) pe_int (fun _ _ => rfl))) (by with_unfolding_all rfl) trivial rfl rfl rfl ⟨by decide +kernel, by decide +kernel, by decide +kernel, by decide +kernel, by decide +kernel, by decide +kernel, by decide +kernel⟩ rfl) pa_nil)) (pv 6) (nomark _)) (pw_or1 (pt_cmpR (op_neAlk hr.units) (pe_fn c__law_gone_back (hr.mono (by decide)) (by rfl) (pa_cons (pv 2) (pa_cons (pv 5) (pa_cons (pv 6) pa_nil)))) (pe_rev (pv 10)) (nomark _)))))
  (pss_one (ps_ret pe_bl))
  pss_nil)
 (pss_cons (ps_if (pt_cmpR (op_neNil hr.units) (pe_compIf (cl := [("_law_steps", s.heap.objs.size + 1 + 3)]) (cn := ["_law_steps"]) (N := ["_law_steps"]) (fr := [10]) (sc0 := defScope s_law) rfl (pi_range2 rfl z.range_ (pa_cons pe_int (pa_cons (pe_callB call_len_seq (by rfl) z.len_ bt_len (pa_cons (pv 10) pa_nil)) pa_nil))) (fun C s₂ H₂ fp => (pv 0)) (fun C s₂ H₂ fp => (pt_cmpR op_ge (pe_ix (ix_tupK (K := K) rfl) (pe_ix (ix_listK (K := K) rfl) (pv 1) (pe_op op_sub (pv 0) pe_int) (fun _ _ => rfl)) pe_int (fun _ _ => rfl)) (pe_ix (ix_tupK (K := K) rfl) (pe_ix (ix_listK (K := K) rfl) (pv 1) (pv 0) (fun _ _ => rfl)) pe_int (fun _ _ => rfl)) (nomark _))) (by with_unfolding_all rfl) ⟨by with_unfolding_all rfl, trivial⟩ rfl rfl rfl ⟨by decide +kernel, by decide +kernel, by decide +kernel, by decide +kernel, by decide +kernel, by decide +kernel, by decide +kernel⟩ rfl) (pe_lst pa_nil) (nomark _))
  (pss_one (ps_ret pe_bl))
  pss_nil)
 (pss_cons (ps_set (i := 11) sc.nd rfl (Or.inl rfl) (pe_fn c__law_gone_up (hr.mono (by decide)) (by rfl) (pa_cons (pv 2) (pa_cons (pe_op op_cat (pv 5) (pv 5)) pa_nil))))
 (pss_one (ps_ret (pe_cmpR (op_eqAlk hr.units) (pv 11) (pe_compG (x := "_law_worth") (cl := []) (cn := []) (TN := ["_law_many"]) (N := []) (fr := []) (sc0 := defScope s_law) rfl (pi_list (pv 10)) (fun C s₂ H₂ fp => (pe_tup (pa_cons (pv 0) (pa_cons (pe_op op_mul pe_int (pv 1)) pa_nil)))) (fun C s₂ H₂ fp => pts_nil) (fun C s₂ H₂ fp => (pg_tupK (K := K) (n := 2) rfl rfl (pgs_cons (pg_name (i := 0) (show (["_law_worth", "_law_many"] : List Str).Nodup by decide +kernel) rfl (Or.inl rfl)) (pgs_cons (pg_name (i := 1) (show (["_law_worth", "_law_many"] : List Str).Nodup by decide +kernel) rfl (Or.inl rfl)) pgs_nil)))) (by with_unfolding_all rfl) trivial rfl rfl rfl ⟨by decide +kernel, by decide +kernel, by decide +kernel, by decide +kernel⟩ rfl) (nomark _)))))))))))))), ?_⟩
  refine ⟨_, rfl, a, ns, 0, rfl, hS, h63, by decide, by decide, fun c => ⟨c, rfl, fun pen hpen => ?_⟩⟩
  have P1 : PenN (upd H pen (.lst [.int c, .int 0])) pen := ⟨_, _, upd_same⟩
  generalize upd H pen (.lst [.int c, .int 0]) = H1 at *
  refine ⟨_, rfl, pen, 20, rfl, P1, by decide, by decide, fun t b ra sa low L xs ys nss ts H2 k2 P2 ht hb2 hL hra hrap hR hn0 hn3 hsa hsap hT hok htl => ?_⟩
  refine ⟨t, _, rfl, SqT.of ht, rfl, _, _, rfl, _, _, rfl, _, _, rfl, rfl, ?_⟩
  refine ⟨_, rfl, _, rfl, _, rfl, szb rfl, fun l2 hl2 => ?_⟩
  have s3 := same_new hl2 (.lst [V.int 4, .int 2])
  have hl3 : upd H2 l2 (.lst [V.int 4, .int 2]) l2 = some (.lst [V.int 4, .int 2]) := upd_same
  generalize upd H2 l2 (.lst [V.int 4, .int 2]) = H3 at *
  obtain ⟨nb, hnb⟩ : ∃ nb : Int, atI [V.int 4, .int 2] (if decide (4 < (L : Int)) = true then 1 else 0) = some (.int nb) := by
    by_cases c : 4 < (L : Int)
    · rw [decide_eq_true c]; exact ⟨_, rfl⟩
    · rw [decide_eq_false c]; exact ⟨_, rfl⟩
  refine ⟨_, rfl, b, _, _, _, rfl, rfl, SqT.of (s3 _ _ hb2), rfl, _, _, rfl, rfl, .inr ⟨_, rfl, l2, _, _, _, rfl, rfl, SqL.of hl3, hnb, _, rfl, sa, _, rfl, SqL.of (s3 _ _ hsa), fun S hS4 => ?_⟩⟩
  have s4 := same_new hS4 (.lst (cutV ys none (some nb)))
  have hS5 : upd H3 S (.lst (cutV ys none (some nb))) S = some (.lst (cutV ys none (some nb))) := upd_same
  have cg : ∀ (j : Nat) (x : V), (cutV ys none (some nb))[j]? = some x → ys[j]? = some x := fun j x h => cut_get h
  have hcl : (cutV ys none (some nb)).length ≤ ys.length := cutV_length _ _ _
  generalize cutV ys none (some nb) = cs at *
  have s24 := s3.trans s4
  have hT4 : TsAt (upd H3 S (.lst cs)) cs (ts.take cs.length) := by
    refine ⟨by rw [List.length_take, ← hT.1]; omega, fun j x tt h1 h2 => ?_⟩
    have hj : j < cs.length := (List.getElem?_eq_some_iff.mp h1).1
    rw [List.getElem?_take_of_lt hj] at h2
    exact (hT.2 j x tt (cg j x h1) h2).tk (.same s24)
  generalize upd H3 S (.lst cs) = H4 at *
  have hok4 : TsOk nss (ts.take cs.length) := fun tt htt => hok tt (List.mem_of_mem_take htt)
  have hR4 : RowsAt H4 [pen] low L xs nss := hR.map fun x ns h => h.same s24
  have htl4 : (ts.take cs.length).length ≤ 7 := by rw [List.length_take]; omega
  generalize ts.take cs.length = ts4 at *
  refine ⟨b, ra, S, [pen], low, L, xs, cs, nss, ts4, rfl, SqT.of (s24 _ _ hb2), hL, SqL.of (s24 _ _ hra), hR4, by omega, SqL.of hS5, hT4, hok4, by omega, fun H5 ga zs s5 hga hga0 hG => ?_⟩
  have hgd := gOf_good hR4 hok4
  have hglen := gOf_len hR4 hok4
  have hgl : (ts4.map (gOf low nss)).length ≤ 7 := by rw [List.length_map]; exact htl4
  generalize ts4.map (gOf low nss) = gs at *
  have hwl : (Wh gs).length ≤ 420 := Nat.le_trans (Wh_le hglen) (by omega)
  have hb5 := s5 _ _ (s24 _ _ hb2)
  have hin := W_in hgd
  have P5 : PenN H5 pen := (P2.same s24).same s5
  have hra5 := s5 _ _ (s24 _ _ hra)
  have hR5 : RowsAt H5 [pen] low L xs nss := hR4.map fun x ns h => h.same s5
  have hgap : ga ≠ pen := (P2.same s24).fresh hga0
  refine ⟨_, rfl, ga, zs, L, gs, rfl, SqL.of hga, hG, by omega, fun H6 s6 => ?_⟩
  rw [manyG_W hgd]
  have P6 := P5.same s6
  have hb6 := s6 _ _ hb5
  have hga6 := s6 _ _ hga
  have hG6 := hG.same s6
  have hra6 := s6 _ _ hra5
  have hR6 : RowsAt H6 [pen] low L xs nss := hR5.map fun x ns h => h.same s6
  have em : ∃ m : Nat, (if (6 : Int) < ((Wh gs).length : Nat) then (6 : Int) else ((Wh gs).length : Nat)) = (m : Int) ∧ m ≤ (Wh gs).length := by
    by_cases c : (6 : Int) < ((Wh gs).length : Nat)
    · rw [if_pos c]; exact ⟨6, rfl, by omega⟩
    · rw [if_neg c]; exact ⟨_, rfl, Nat.le_refl _⟩
  obtain ⟨m, em, hmW⟩ := em
  refine ⟨_, rfl, _, _, rfl, ?_⟩
  rw [em]
  refine ⟨(m : Int), rfl, by omega, by omega, for_range (n := m) (fun i σ H7 => ∃ v7 v8 v9 v10 v11 : Option V, σ = [some (.ref a), some (.ref pen), some (.ref b), some (.ref ra), some (.ref sa), some (.ref ga), some (.int ((Wh gs).length : Nat)), v7, v8, v9, v10, v11] ∧ Keep pen H6 H7 ∧ PenN H7 pen) ⟨_, _, _, _, _, rfl, Keep.refl _ _, P6⟩ ?_ ?_⟩
  · rintro i σ H7 hi ⟨v7, v8, v9, v10, v11, rfl, k7, P7⟩
    refine ⟨_, rfl, _, rfl, _, rfl, _, rfl, _, rfl, pen, _, rfl, P7, by omega, by omega, fun tv H8 k8 P8 t0 t1 => ⟨szb rfl, fun l hl => ?_⟩⟩
    have s9 := same_new hl (.lst [V.int (0 + (i : Int)), .int tv])
    obtain ⟨kk, hkk, hkW⟩ : ∃ kk : Nat, atI [V.int (0 + (i : Int)), .int tv] ((0 + (i : Int)) % 2) = some (.int (kk : Int)) ∧ kk < (Wh gs).length := by
      rcases Int.emod_two_eq (0 + (i : Int)) with z | z
      · rw [z]
        exact ⟨i, by rw [Int.zero_add]; rfl, by omega⟩
      · rw [z]
        refine ⟨tv.toNat, ?_, by omega⟩
        rw [Int.toNat_of_nonneg t0]
        rfl
    have k69 : Keep pen H6 (upd H8 l (.lst [V.int (0 + (i : Int)), .int tv])) := (k7.trans k8).trans (.same s9)
    have P9 := P8.same s9
    refine ⟨_, rfl, _, _, rfl, rfl, (by decide : (0 : Int) < 2), l, _, _, _, rfl, rfl, SqL.of upd_same, hkk, b, ga, zs, low, L, kk, gs, rfl, SqT.of (k69 _ _ (P6.ne hb6) hb6), hL, k69 _ _ hgap hga6, hG6.tk (P6.tk k69), hgd, by omega, by omega, hkW, fun H10 s10 => ⟨true, rfl, iteF ?_⟩⟩
    exact ⟨_, _, _, _, _, rfl, k69.trans (.same s10), P9.same s10⟩
  rintro σ H7 ⟨v7, v8, v9, v10, v11, rfl, k7, P7⟩
  refine ⟨4, rfl, by decide, by decide, for_range (n := 4) (fun i σ H8 => ∃ v7 v8 v9 v10 v11 : Option V, σ = [some (.ref a), some (.ref pen), some (.ref b), some (.ref ra), some (.ref sa), some (.ref ga), some (.int ((Wh gs).length : Nat)), v7, v8, v9, v10, v11] ∧ Keep pen H6 H8 ∧ PenN H8 pen) ⟨_, _, _, _, _, rfl, k7, P7⟩ ?_ ?_⟩
  · rintro i σ H8 hi ⟨v7, v8, v9, v10, v11, rfl, k8, P8⟩
    refine ⟨3, rfl, by decide, by decide, fun D hD => ?_⟩
    have hDp : D ≠ pen := P8.fresh hD
    have hD6 : H6 D = none := P8.free k8 hD
    refine comp_range (n := 3) (szb rfl) (fun j ys H9 => ∃ ns : List Int, ys = ns.map V.int ∧ ys.length = j ∧ H9 D = some (.lst ys) ∧ Keep pen H6 H9 ∧ PenN H9 pen) ⟨[], rfl, rfl, upd_same, k8.own hD6, P8.new hD _⟩ (fun j ys H9 ⟨_, _, e1, e2, _⟩ => ⟨e2, e1⟩) ?_ ?_
    · rintro j ys H9 hj ⟨ns9, e1, e2, e3, k9, P9⟩
      refine ⟨_, rfl, _, rfl, _, rfl, pen, b, ra, low, L, xs, nss, rfl, P9, k9 _ _ (P6.ne hb6) hb6, hL, k9 _ _ hrap hra6, hrap, hR6.map (fun x ns h => h.keep k9 (by simp)), hn0, hn3, fun v H10 k10 P10 => ?_⟩
      refine ⟨k10 _ _ hDp e3, ns9 ++ [v], by rw [List.map_append, ← e1]; rfl, by rw [List.length_append, e2]; rfl, upd_same, (k9.trans k10).own hD6, P10.other hDp _⟩
    rintro ys H9 ⟨ns9, e1, e2, e3, k9, P9⟩
    have hl3 : ns9.length = 3 := by rw [e1, List.length_map] at e2; exact e2
    refine ⟨D, ns9, rfl, SqL.of (by rw [e3, e1]), by omega, fun l ms hl hperm hpw => ?_⟩
    obtain ⟨m0, m1, m2, rfl⟩ : ∃ m0 m1 m2, ms = [m0, m1, m2] := by
      have := hperm.length_eq
      rw [hl3] at this
      match ms, this with
      | [m0, m1, m2], _ => exact ⟨m0, m1, m2, rfl⟩
    have h01 : m0 ≤ m1 := (List.pairwise_cons.mp hpw).1 m1 (by simp)
    have h12 : m1 ≤ m2 := (List.pairwise_cons.mp (List.pairwise_cons.mp hpw).2).1 m2 (by simp)
    have s10 := same_new hl (.lst ([m0, m1, m2].map V.int))
    have hl10 : upd H9 l (.lst ([m0, m1, m2].map V.int)) l = some (.lst ([m0, m1, m2].map V.int)) := upd_same
    have k10 : Keep pen H6 (upd H9 l (.lst ([m0, m1, m2].map V.int))) := k9.trans (.same s10)
    have P10 := P9.same s10
    generalize upd H9 l (.lst ([m0, m1, m2].map V.int)) = H10 at *
    have hb10 := k10 _ _ (P6.ne hb6) hb6
    have hga10 := k10 _ _ hgap hga6
    have hG10 := hG6.tk (P6.tk k10)
    have hsp := cnt_split (low := low) h01 h12 (Wh gs)
    have hbt := cnt_between (low := low) (show m0 ≤ m2 by omega) (Wh gs)
    refine ⟨_, rfl, _, rfl, _, rfl, l, _, _, _, rfl, rfl, SqL.of hl10, rfl, _, rfl, l, _, _, _, rfl, rfl, SqL.of hl10, rfl, _, _, rfl, rfl, b, ga, zs, low, m0, m1 - 1, L, gs, rfl, SqT.of hb10, hL, SqL.of hga10, hG10, hgd, by omega, fun H11 s11 => ?_⟩
    refine ⟨_, rfl, _, rfl, _, rfl, l, _, _, _, rfl, rfl, SqL.of (s11 _ _ hl10), rfl, _, rfl, l, _, _, _, rfl, rfl, SqL.of (s11 _ _ hl10), rfl, b, ga, zs, low, m1, m2, L, gs, rfl, SqT.of (s11 _ _ hb10), hL, SqL.of (s11 _ _ hga10), hG10.same s11, hgd, by omega, fun H12 s12 => ⟨_, _, rfl, rfl, ?_⟩⟩
    have s02 := s11.trans s12
    refine ⟨_, rfl, _, rfl, _, rfl, _, rfl, l, _, _, _, rfl, rfl, SqL.of (s02 _ _ hl10), rfl, _, rfl, l, _, _, _, rfl, rfl, SqL.of (s02 _ _ hl10), rfl, b, ga, zs, low, m0, m2, L, gs, rfl, SqT.of (s02 _ _ hb10), hL, SqL.of (s02 _ _ hga10), hG10.same s02, hgd, by omega, fun H13 s13 => ?_⟩
    refine ⟨rfl, _, rfl, ite2 (fun c => absurd c (not_ne2 (by show V.int _ = V.int _; congr 1; omega))) (fun _ => ?_)⟩
    have s03 := s02.trans s13
    refine ⟨_, rfl, _, rfl, _, rfl, l, _, _, _, rfl, rfl, SqL.of (s03 _ _ hl10), rfl, b, ga, zs, low, m0, L, gs, rfl, SqT.of (s03 _ _ hb10), hL, SqL.of (s03 _ _ hga10), hG10.same s03, hgd, by omega, fun H14 s14 => ?_⟩
    have s04 := s03.trans s14
    refine ⟨_, rfl, _, _, rfl, rfl, _, rfl, _, rfl, _, rfl, l, _, _, _, rfl, rfl, SqL.of (s04 _ _ hl10), rfl, _, _, rfl, rfl, b, ga, zs, low, m2 + 1, L, gs, rfl, SqT.of (s04 _ _ hb10), hL, SqL.of (s04 _ _ hga10), hG10.same s04, hgd, by omega, fun H15 s15 => ?_⟩
    refine ⟨rfl, _, rfl, ite2 (fun c => absurd c (not_ne2 (by show V.int _ = V.int _; congr 1; omega))) (fun _ => ?_)⟩
    exact ⟨_, _, _, _, _, rfl, k10.trans (.same (s04.trans s15)), P10.same (s04.trans s15)⟩
  rintro σ H8 ⟨v7, v8, v9, v10, v11, rfl, k8, P8⟩
  have hb8 := k8 _ _ (P6.ne hb6) hb6
  have hga8 := k8 _ _ hgap hga6
  have hG8 := hG6.tk (P6.tk k8)
  have hsum := st_sum L low (Wh gs)
  have hrise := st_rise L low (Wh gs) hin
  have htwice := st_twice L low (Wh gs)
  have hslen := stp_len (low := low) hin
  change sumM (stp L low (Wh gs)) = _ at hsum
  change (stp L low (Wh gs)).Pairwise _ at hrise
  change _ = (stp L low (Wh gs)).map _ at htwice
  refine ⟨_, rfl, _, rfl, b, ga, zs, low, L, gs, rfl, SqT.of hb8, hL, hga8, hG8, hgd, by omega, by omega, fun H9 sd ys s9 hsd _ hps => ?_⟩
  have hb9 := s9 _ _ hb8
  have hga9 := s9 _ _ hga8
  have hG9 := hG8.same s9
  have hyl : ys.length ≤ 1000 := by rw [hps.1]; omega
  -- the sum of the manys
  refine ⟨_, rfl, sd, rfl, ⟨_, SqL.of hsd⟩, fun E1 hE1 => ?_⟩
  refine comp_listP (xs := ys) (sz hyl) (fun i us H10 => us = ((stp L low (Wh gs)).take i).map (fun (p : Int × Int) => V.int p.2) ∧ i ≤ (stp L low (Wh gs)).length ∧ H10 = upd H9 E1 (.lst us)) ⟨by simp, Nat.zero_le _, rfl⟩ (fun i us H10 ⟨_, _, e⟩ => by rw [e]; exact SqL.of (same_new hE1 _ _ _ hsd))
    (fun i us H10 ⟨e1, e2, e3⟩ => ⟨by rw [e3]; exact upd_same, by rw [e1, List.length_map, List.length_take]; omega⟩) ?_ ?_
  · rintro i x us H10 hx ⟨e1, e2, rfl⟩
    obtain ⟨p, gp, px, rfl, hpx⟩ := hps.get hx
    have hi : i < (stp L low (Wh gs)).length := (List.getElem?_eq_some_iff.mp gp).1
    refine ⟨_, rfl, px, _, _, _, rfl, rfl, SqT.of (same_new hE1 _ _ _ hpx), rfl, upd_same, ?_, by omega, by rw [upd_upd]⟩
    rw [List.take_add_one, gp, List.map_append, ← e1]
    rfl
  rintro us H10 ⟨e1, e2, rfl⟩
  rw [hps.1, List.take_length] at e1
  have s10 := same_new hE1 (.lst us)
  refine ⟨E1, (stp L low (Wh gs)).map (fun (p : Int × Int) => p.2), rfl, SqL.of (by rw [upd_same, e1, List.map_map]; rfl), ?_⟩
  change ((stp L low (Wh gs)).map (fun (p : Int × Int) => p.2)).sum = _ at hsum
  rw [hsum]
  refine ⟨_, rfl, rfl, _, rfl, ite2 (fun c => absurd c (not_ne2 rfl)) (fun _ => ?_)⟩
  have hb10 := s10 _ _ hb9
  have hga10 := s10 _ _ hga9
  have hG10 := hG9.same s10
  have hsd10 := s10 _ _ hsd
  have hps10 := ps_same hps s10
  generalize upd H9 E1 (.lst us) = H10 at *
  -- gone back
  refine ⟨_, rfl, _, rfl, _, rfl, b, ga, zs, low, L, gs, rfl, SqT.of hb10, hL, hga10, hG10, hgd, by omega, by omega, fun H11 bd yb s11 hbd _ hpb => ?_⟩
  refine ⟨_, rfl, sd, ys, rfl, SqL.of (s11 _ _ hsd10), fun rv hrv => ?_⟩
  have s12 := same_new hrv (.lst ys.reverse)
  refine ⟨3, bd, rv, rfl, rfl, ps_alk (SqL.of (s12 _ _ hbd)) (SqL.of upd_same) (ps_same hpb s12) (ps_same hps10 (s11.trans s12)).rev, by decide, false, rfl, iteF ?_⟩
  have s02 := s11.trans s12
  generalize upd H11 rv (.lst ys.reverse) = H12 at *
  have hsd12 := s02 _ _ hsd10
  have hps12 := ps_same hps10 s02
  -- rising
  refine ⟨_, rfl, sd, _, rfl, .inl (SqL.of hsd12), 1, _, rfl, ⟨by decide, by decide, by omega, by omega⟩, fun E2 hE2 => ?_⟩
  refine compIf_range (lo := 1) (n := ((ys.length : Int) - 1).toNat) (p := fun _ => false) (g := fun (k : Nat) => V.int (1 + (k : Int))) hE2 (sz (by omega)) (fun i hi H13 Q13 s13 q13 => ?_) (fun i hi H13 Q13 s13 q13 => ⟨_, rfl, q13⟩) ?_
  · have hi1 : i + 1 < ys.length := by omega
    have g0 : ys[i]? = some (ys[i]'(by omega)) := List.getElem?_eq_getElem _
    have g1 : ys[i + 1]? = some ys[i + 1] := List.getElem?_eq_getElem hi1
    obtain ⟨p0, gp0, x0, ex0, hx0⟩ := hps12.get g0
    obtain ⟨p1, gp1, x1, ex1, hx1⟩ := hps12.get g1
    rw [ex0] at g0
    rw [ex1] at g1
    have a0 : atI ys (1 + (i : Int) - 1) = some (.ref x0) := by
      have : 1 + (i : Int) - 1 = (i : Int) := by omega
      rw [this]; exact atI_nat g0
    have a1 : atI ys (1 + (i : Int)) = some (.ref x1) := by
      have : 1 + (i : Int) = ((i + 1 : Nat) : Int) := by omega
      rw [this]; exact atI_nat g1
    have hlt : p0.1 < p1.1 := by
      have h0 := List.getElem?_eq_some_iff.mp gp0
      have h1 := List.getElem?_eq_some_iff.mp gp1
      have := List.pairwise_iff_getElem.mp hrise i (i + 1) h0.1 h1.1 (by omega)
      rw [h0.2, h1.2] at this
      exact this
    refine ⟨_, rfl, _, rfl, _, _, rfl, rfl, sd, _, _, _, rfl, rfl, SqL.of (s13 _ _ hsd12), a0, x0, _, _, _, rfl, rfl, SqT.of (s13 _ _ hx0), rfl, _, rfl, _, rfl, sd, _, _, _, rfl, rfl, SqL.of (s13 _ _ hsd12), a1, x1, _, _, _, rfl, rfl, SqT.of (s13 _ _ hx1), rfl, _, _, rfl, rfl, _, rfl, ?_⟩
    rw [decide_eq_false (by omega)]
    exact q13
  have ef : (((List.range ((ys.length : Int) - 1).toNat).filter fun _ => false).map fun (k : Nat) => V.int (1 + (k : Int))) = [] := by simp
  rw [ef]
  have s13 := same_new hE2 (.lst [])
  have hE13 : upd H12 E2 (.lst []) E2 = some (.lst []) := upd_same
  generalize upd H12 E2 (.lst []) = H13 at *
  refine ⟨szb rfl, fun e0 he0 => ?_⟩
  have s14 := same_new he0 (.lst [])
  refine ⟨E2, e0, [], rfl, rfl, SqL.of (s14 _ _ hE13), SqL.of upd_same, _, rfl, iteF ?_⟩
  generalize upd H13 e0 (.lst []) = H14 at *
  have s04 := (s02.trans s13).trans s14
  have hb14 := s04 _ _ hb10
  have hga14 := s04 _ _ hga10
  have hG14 := hG10.same s04
  have hsd14 := s04 _ _ hsd10
  have hps14 := ps_same hps10 s04
  -- twice
  refine ⟨_, rfl, _, rfl, _, rfl, ga, ga, zs, zs, rfl, rfl, hga14, hga14, sz (by rw [hG.1]; omega), fun dd hdd => ?_⟩
  have s15 := same_new hdd (.lst (zs ++ zs))
  have hdd15 : upd H14 dd (.lst (zs ++ zs)) dd = some (.lst (zs ++ zs)) := upd_same
  generalize upd H14 dd (.lst (zs ++ zs)) = H15 at *
  have hG15 : GatAt H15 L (zs ++ zs) (gs ++ gs) := gat_app (hG14.same s15) (hG14.same s15)
  have hgd2 : ∀ g ∈ gs ++ gs, GoodS L g := fun g hg => (List.mem_append.mp hg).elim (hgd g) (hgd g)
  have hca2 : stp L low (Wh (gs ++ gs)) = (stp L low (Wh gs)).map tw := by
    show caF 1 0 L low (Wh (gs ++ gs)) = _
    rw [W_app, htwice]
    rfl
  refine ⟨b, dd, zs ++ zs, low, L, gs ++ gs, rfl, SqT.of (s15 _ _ hb14), hL, hdd15, hG15, hgd2, by rw [List.length_append]; omega, by rw [W_app, List.length_append]; omega, fun H16 td yt s16 htd _ hpt => ?_⟩
  rw [hca2] at hpt
  have s46 := s15.trans s16
  have hsd16 := s46 _ _ hsd14
  have hps16 := ps_same hps14 s46
  refine ⟨_, rfl, _, rfl, sd, rfl, ⟨_, SqL.of hsd16⟩, fun E3 hE3 => ?_⟩
  refine compG_list (xs := ys) (sz hyl) (fun i us H17 => H17 E3 = some (.lst us) ∧ us.length = i ∧ Same H16 H17 ∧ AllAt PsR H17 us (((stp L low (Wh gs)).take i).map tw)) ⟨upd_same, rfl, same_new hE3 _, AllAt.nil⟩ (fun i us H17 ⟨_, _, e, _⟩ => SqL.of (e _ _ hsd16))
    (fun i us H17 ⟨e1, e2, _⟩ => ⟨e1, Nat.le_of_eq e2⟩) ?_ ?_
  · rintro i x us H17 hx ⟨f1, f2, f3, f4⟩ vs3 hvs3
    obtain ⟨p, gp, px, rfl, hpx⟩ := (ps_same hps16 f3).get hx
    match vs3, hvs3 with
    | [x0, x1], _ =>
      refine ⟨px, _, rfl, SqT.of hpx, rfl, _, _, rfl, _, _, rfl, rfl, ⟨[_, _], rfl, rfl⟩, iteT ?_⟩
      refine ⟨_, rfl, _, rfl, _, _, rfl, rfl, .inl ⟨by decide, by decide⟩, szb rfl, fun p2 hp2 => ?_⟩
      have s18 := same_new hp2 (.tup [V.int p.1, .int (2 * p.2)])
      have hp18 : upd H17 p2 (.tup [V.int p.1, .int (2 * p.2)]) p2 = some (.tup [V.int p.1, .int (2 * p.2)]) := upd_same
      generalize upd H17 p2 (.tup [V.int p.1, .int (2 * p.2)]) = H18 at *
      have f1' := s18 _ _ f1
      have tk : TKeep H18 (upd H18 E3 (.lst (us ++ [.ref p2]))) := TKeep.set f1'
      refine ⟨f1', upd_same, by rw [List.length_append, f2] <;> rfl, Same.own (f3.trans s18) hE3, ?_⟩
      rw [List.take_add_one, gp, List.map_append]
      exact (ps_tk (ps_same f4 s18) tk).snoc (PsR.tk tk ⟨p2, rfl, hp18⟩)
  rintro us3 H17 ⟨f1, f2, f3, f4⟩
  rw [hps.1, List.take_length] at f4
  exact ⟨3, td, E3, rfl, rfl, ps_alk (SqL.of (f3 _ _ htd)) (SqL.of f1) (ps_same hpt f3) f4, by decide, q _⟩
end
theorem all_ok {P : Program} {w : World} {K : PySem.W.Frag} {mg : Str → Option Value} {base : Heap} (z : Bz mg)
    (d__law_cell : Def K mg "_law_cell" s__law_cell ["_law_script", "_law_k"])
    (d__law_pen : Def K mg "_law_pen" s__law_pen ["_law_cell_here"])
    (d__law_take : Def K mg "_law_take" s__law_take ["_law_pen_here", "_law_size"])
    (d_many_worths : Def K mg "many_worths" s_many_worths ["levels"])
    (d_top_of : Def K mg "top_of" s_top_of ["bounds"])
    (d_where : Def K mg "where" s_where ["bounds", "number"])
    (d_span_of : Def K mg "span_of" s_span_of ["bounds", "way"])
    (d_way_of : Def K mg "way_of" s_way_of ["bounds", "number"])
    (d_ahead : Def K mg "ahead" s_ahead ["marks", "mark", "place"])
    (d_place_of : Def K mg "place_of" s_place_of ["marks", "mark", "number"])
    (d_half_of : Def K mg "half_of" s_half_of ["tree", "mark"])
    (d_size_of : Def K mg "size_of" s_size_of ["tree"])
    (d_number_at : Def K mg "number_at" s_number_at ["bounds", "tree", "place"])
    (d_many_in : Def K mg "many_in" s_many_in ["gathering"])
    (d_filled : Def K mg "filled" s_filled ["gathering"])
    (d_led_stretch : Def K mg "led_stretch" s_led_stretch ["stretch", "way"])
    (d_led : Def K mg "led" s_led ["gathering", "way"])
    (d_lifted : Def K mg "lifted" s_lifted ["tree", "way", "place"])
    (d_way_of_nth : Def K mg "way_of_nth" s_way_of_nth ["levels", "gathering", "k"])
    (d_nth_alike : Def K mg "nth_alike" s_nth_alike ["gathering", "way", "number"])
    (d_many_lesser : Def K mg "many_lesser" s_many_lesser ["gathering", "way"])
    (d_nth_least : Def K mg "nth_least" s_nth_least ["bounds", "gathering", "k"])
    (d_rank_of : Def K mg "rank_of" s_rank_of ["bounds", "gathering", "j", "place"])
    (d_below : Def K mg "below" s_below ["bounds", "gathering", "number"])
    (d_between : Def K mg "between" s_between ["bounds", "gathering", "low", "high"])
    (d_counted_nth : Def K mg "counted_nth" s_counted_nth ["bounds", "gathering", "k"])
    (d_next_up : Def K mg "next_up" s_next_up ["bounds", "gathering", "number"])
    (d_next_down : Def K mg "next_down" s_next_down ["bounds", "gathering", "number"])
    (d_sum_from : Def K mg "sum_from" s_sum_from ["least", "many", "parts", "k"])
    (d_sum_of_least : Def K mg "sum_of_least" s_sum_of_least ["bounds", "gathering", "k"])
    (d__law_bounds : Def K mg "_law_bounds" s__law_bounds ["_law_pen_here"])
    (d__law_numbers : Def K mg "_law_numbers" s__law_numbers ["_law_pen_here", "_law_bounds_here", "_law_long"])
    (d__law_grown : Def K mg "_law_grown" s__law_grown ["_law_levels", "_law_offsets"])
    (d__law_tree : Def K mg "_law_tree" s__law_tree ["_law_bounds_here", "_law_row"])
    (d__law_drawn : Def K mg "_law_drawn" s__law_drawn ["_law_pen_here", "_law_long"])
    (d__law_gathering : Def K mg "_law_gathering" s__law_gathering ["_law_bounds_here", "_law_rows", "_law_some"])
    (d__law_some_number : Def K mg "_law_some_number" s__law_some_number ["_law_pen_here", "_law_bounds_here", "_law_rows"])
    (d__law_thing_right : Def K mg "_law_thing_right" s__law_thing_right ["_law_bounds_here", "_law_gathering_here", "_law_k"])
    (d__law_gone_up : Def K mg "_law_gone_up" s__law_gone_up ["_law_bounds_here", "_law_gathering_here"])
    (d__law_gone_back : Def K mg "_law_gone_back" s__law_gone_back ["_law_bounds_here", "_law_gathering_here", "_law_long"])
    : ∀ (f : Addr) (fd : FuncData), Fun K "law" "law" s_law f fd → FnOk P w K mg base CX0 k_law f fd ["_law_script"] (sp_law K) := by
  have c__law_cell : Cal P w K mg base k__law_cell "_law_cell" ["_law_script", "_law_k"] (sp__law_cell K) := ok__law_cell d__law_cell z 
  have c__law_pen : Cal P w K mg base k__law_pen "_law_pen" ["_law_cell_here"] (sp__law_pen K) := ok__law_pen d__law_pen z 
  have c__law_take : Cal P w K mg base k__law_take "_law_take" ["_law_pen_here", "_law_size"] (sp__law_take K) := ok__law_take d__law_take z 
  have c_many_worths : Cal P w K mg base k_many_worths "many_worths" ["levels"] (sp_many_worths K) := ok_many_worths d_many_worths z 
  have c_top_of : Cal P w K mg base k_top_of "top_of" ["bounds"] (sp_top_of K) := ok_top_of d_top_of z c_many_worths
  have c_where : Cal P w K mg base k_where "where" ["bounds", "number"] (sp_where K) := ok_where d_where z c_top_of
  have c_span_of : Cal P w K mg base k_span_of "span_of" ["bounds", "way"] (sp_span_of K) := ok_span_of d_span_of z c_many_worths
  have c_way_of : Cal P w K mg base k_way_of "way_of" ["bounds", "number"] (sp_way_of K) := ok_way_of d_way_of z c_many_worths c_where
  have c_ahead : Cal P w K mg base k_ahead "ahead" ["marks", "mark", "place"] (sp_ahead K) := ok_ahead d_ahead z 
  have c_place_of : Cal P w K mg base k_place_of "place_of" ["marks", "mark", "number"] (sp_place_of K) := ok_place_of d_place_of z 
  have c_half_of : Cal P w K mg base k_half_of "half_of" ["tree", "mark"] (sp_half_of K) := ok_half_of d_half_of z 
  have c_size_of : Cal P w K mg base k_size_of "size_of" ["tree"] (sp_size_of K) := ok_size_of d_size_of z 
  have c_number_at : Cal P w K mg base k_number_at "number_at" ["bounds", "tree", "place"] (sp_number_at K) := ok_number_at d_number_at z c_ahead c_half_of c_many_worths c_size_of
  have c_many_in : Cal P w K mg base k_many_in "many_in" ["gathering"] (sp_many_in K) := ok_many_in d_many_in z 
  have c_filled : Cal P w K mg base k_filled "filled" ["gathering"] (sp_filled K) := ok_filled d_filled z 
  have c_led_stretch : Cal P w K mg base k_led_stretch "led_stretch" ["stretch", "way"] (sp_led_stretch K) := ok_led_stretch d_led_stretch z c_ahead c_half_of
  have c_led : Cal P w K mg base k_led "led" ["gathering", "way"] (sp_led K) := ok_led d_led z c_led_stretch
  have c_lifted : Cal P w K mg base k_lifted "lifted" ["tree", "way", "place"] (sp_lifted K) := ok_lifted d_lifted z c_half_of c_place_of c_size_of
  have c_way_of_nth : Cal P w K mg base k_way_of_nth "way_of_nth" ["levels", "gathering", "k"] (sp_way_of_nth K) := ok_way_of_nth d_way_of_nth z c_led c_many_in
  have c_nth_alike : Cal P w K mg base k_nth_alike "nth_alike" ["gathering", "way", "number"] (sp_nth_alike K) := ok_nth_alike d_nth_alike z c_led c_lifted c_many_in
  have c_many_lesser : Cal P w K mg base k_many_lesser "many_lesser" ["gathering", "way"] (sp_many_lesser K) := ok_many_lesser d_many_lesser z c_led c_many_in
  have c_nth_least : Cal P w K mg base k_nth_least "nth_least" ["bounds", "gathering", "k"] (sp_nth_least K) := ok_nth_least d_nth_least z c_many_in c_many_lesser c_nth_alike c_span_of c_way_of_nth
  have c_rank_of : Cal P w K mg base k_rank_of "rank_of" ["bounds", "gathering", "j", "place"] (sp_rank_of K) := ok_rank_of d_rank_of z c_led c_many_in c_many_lesser c_number_at c_way_of
  have c_below : Cal P w K mg base k_below "below" ["bounds", "gathering", "number"] (sp_below K) := ok_below d_below z c_many_in c_many_lesser c_way_of c_where
  have c_between : Cal P w K mg base k_between "between" ["bounds", "gathering", "low", "high"] (sp_between K) := ok_between d_between z c_below
  have c_counted_nth : Cal P w K mg base k_counted_nth "counted_nth" ["bounds", "gathering", "k"] (sp_counted_nth K) := ok_counted_nth d_counted_nth z c_led c_many_in c_span_of c_way_of_nth
  have c_next_up : Cal P w K mg base k_next_up "next_up" ["bounds", "gathering", "number"] (sp_next_up K) := ok_next_up d_next_up z c_below c_counted_nth c_many_in
  have c_next_down : Cal P w K mg base k_next_down "next_down" ["bounds", "gathering", "number"] (sp_next_down K) := ok_next_down d_next_down z c_below c_counted_nth
  have c_sum_from : Cal P w K mg base k_sum_from "sum_from" ["least", "many", "parts", "k"] (sp_sum_from K) := ok_sum_from d_sum_from z c_filled c_led c_many_in
  have c_sum_of_least : Cal P w K mg base k_sum_of_least "sum_of_least" ["bounds", "gathering", "k"] (sp_sum_of_least K) := ok_sum_of_least d_sum_of_least z c_filled c_many_in c_many_worths c_sum_from
  have c__law_bounds : Cal P w K mg base k__law_bounds "_law_bounds" ["_law_pen_here"] (sp__law_bounds K) := ok__law_bounds d__law_bounds z c__law_take
  have c__law_numbers : Cal P w K mg base k__law_numbers "_law_numbers" ["_law_pen_here", "_law_bounds_here", "_law_long"] (sp__law_numbers K) := ok__law_numbers d__law_numbers z c__law_take
  have c__law_grown : Cal P w K mg base k__law_grown "_law_grown" ["_law_levels", "_law_offsets"] (sp__law_grown K) := ok__law_grown d__law_grown z 
  have c__law_tree : Cal P w K mg base k__law_tree "_law_tree" ["_law_bounds_here", "_law_row"] (sp__law_tree K) := ok__law_tree d__law_tree z c__law_grown
  have c__law_drawn : Cal P w K mg base k__law_drawn "_law_drawn" ["_law_pen_here", "_law_long"] (sp__law_drawn K) := ok__law_drawn d__law_drawn z c__law_bounds c__law_numbers c__law_take
  have c__law_gathering : Cal P w K mg base k__law_gathering "_law_gathering" ["_law_bounds_here", "_law_rows", "_law_some"] (sp__law_gathering K) := ok__law_gathering d__law_gathering z c__law_tree
  have c__law_some_number : Cal P w K mg base k__law_some_number "_law_some_number" ["_law_pen_here", "_law_bounds_here", "_law_rows"] (sp__law_some_number K) := ok__law_some_number d__law_some_number z c__law_take
  have c__law_thing_right : Cal P w K mg base k__law_thing_right "_law_thing_right" ["_law_bounds_here", "_law_gathering_here", "_law_k"] (sp__law_thing_right K) := ok__law_thing_right d__law_thing_right z c_below c_between c_nth_least c_number_at c_rank_of c_sum_of_least
  have c__law_gone_up : Cal P w K mg base k__law_gone_up "_law_gone_up" ["_law_bounds_here", "_law_gathering_here"] (sp__law_gone_up K) := ok__law_gone_up d__law_gone_up z c_many_in c_next_up
  have c__law_gone_back : Cal P w K mg base k__law_gone_back "_law_gone_back" ["_law_bounds_here", "_law_gathering_here", "_law_long"] (sp__law_gone_back K) := ok__law_gone_back d__law_gone_back z c_next_down
  exact ok_law z c__law_cell c__law_drawn c__law_gathering c__law_gone_back c__law_gone_up c__law_pen c__law_some_number c__law_take c__law_thing_right c_below c_between c_many_in
end My
open PySem PySem.W PyProof.Rows
set_option maxRecDepth 100000 in
set_option maxHeartbeats 0 in
theorem PySem.Challenge.cw_manyleast_k25_whole_orders_and_counts_holds : PySem.Challenge.rw_manyleast_k25_whole_orders_and_counts.Holds := by
  refine MyQ.hd ?_
  k_fill
  refine L2.walkL (k := My.k_law) (l := PySem.Challenge.rw_manyleast_k25_whole_orders_and_counts) ⟨rfl, by decide, by decide⟩ rfl rfl (fun w h Y => PySem.W.kIn_of Y) ?F
  case F =>
    intro w mg fa h KX G hmg
    have d__law_cell : L2.Def (L2.KOf KX) mg "_law_cell" My.s__law_cell ["_law_script", "_law_k"] := by
      dsimp only [L2.KOf]
      refine' L2.def_mk KX G ?a ?l ?c ?k ?b
      (case a => k_is); (case l => k_is); (case c => k_is); (case k => k_is)
      (case b => exact fun _ _ _ _ _ _ us hl => match us, hl with | [_, _], _ => rfl)
    have d__law_pen : L2.Def (L2.KOf KX) mg "_law_pen" My.s__law_pen ["_law_cell_here"] := by
      dsimp only [L2.KOf]
      refine' L2.def_mk KX G ?a ?l ?c ?k ?b
      (case a => k_is); (case l => k_is); (case c => k_is); (case k => k_is)
      (case b => exact fun _ _ _ _ _ _ us hl => match us, hl with | [_], _ => rfl)
    have d__law_take : L2.Def (L2.KOf KX) mg "_law_take" My.s__law_take ["_law_pen_here", "_law_size"] := by
      dsimp only [L2.KOf]
      refine' L2.def_mk KX G ?a ?l ?c ?k ?b
      (case a => k_is); (case l => k_is); (case c => k_is); (case k => k_is)
      (case b => exact fun _ _ _ _ _ _ us hl => match us, hl with | [_, _], _ => rfl)
    have d_many_worths : L2.Def (L2.KOf KX) mg "many_worths" My.s_many_worths ["levels"] := by
      dsimp only [L2.KOf]
      refine' L2.def_mk KX G ?a ?l ?c ?k ?b
      (case a => k_is); (case l => k_is); (case c => k_is); (case k => k_is)
      (case b => exact fun _ _ _ _ _ _ us hl => match us, hl with | [_], _ => rfl)
    have d_top_of : L2.Def (L2.KOf KX) mg "top_of" My.s_top_of ["bounds"] := by
      dsimp only [L2.KOf]
      refine' L2.def_mk KX G ?a ?l ?c ?k ?b
      (case a => k_is); (case l => k_is); (case c => k_is); (case k => k_is)
      (case b => exact fun _ _ _ _ _ _ us hl => match us, hl with | [_], _ => rfl)
    have d_where : L2.Def (L2.KOf KX) mg "where" My.s_where ["bounds", "number"] := by
      dsimp only [L2.KOf]
      refine' L2.def_mk KX G ?a ?l ?c ?k ?b
      (case a => k_is); (case l => k_is); (case c => k_is); (case k => k_is)
      (case b => exact fun _ _ _ _ _ _ us hl => match us, hl with | [_, _], _ => rfl)
    have d_span_of : L2.Def (L2.KOf KX) mg "span_of" My.s_span_of ["bounds", "way"] := by
      dsimp only [L2.KOf]
      refine' L2.def_mk KX G ?a ?l ?c ?k ?b
      (case a => k_is); (case l => k_is); (case c => k_is); (case k => k_is)
      (case b => exact fun _ _ _ _ _ _ us hl => match us, hl with | [_, _], _ => rfl)
    have d_way_of : L2.Def (L2.KOf KX) mg "way_of" My.s_way_of ["bounds", "number"] := by
      dsimp only [L2.KOf]
      refine' L2.def_mk KX G ?a ?l ?c ?k ?b
      (case a => k_is); (case l => k_is); (case c => k_is); (case k => k_is)
      (case b => exact fun _ _ _ _ _ _ us hl => match us, hl with | [_, _], _ => rfl)
    have d_ahead : L2.Def (L2.KOf KX) mg "ahead" My.s_ahead ["marks", "mark", "place"] := by
      dsimp only [L2.KOf]
      refine' L2.def_mk KX G ?a ?l ?c ?k ?b
      (case a => k_is); (case l => k_is); (case c => k_is); (case k => k_is)
      (case b => exact fun _ _ _ _ _ _ us hl => match us, hl with | [_, _, _], _ => rfl)
    have d_place_of : L2.Def (L2.KOf KX) mg "place_of" My.s_place_of ["marks", "mark", "number"] := by
      dsimp only [L2.KOf]
      refine' L2.def_mk KX G ?a ?l ?c ?k ?b
      (case a => k_is); (case l => k_is); (case c => k_is); (case k => k_is)
      (case b => exact fun _ _ _ _ _ _ us hl => match us, hl with | [_, _, _], _ => rfl)
    have d_half_of : L2.Def (L2.KOf KX) mg "half_of" My.s_half_of ["tree", "mark"] := by
      dsimp only [L2.KOf]
      refine' L2.def_mk KX G ?a ?l ?c ?k ?b
      (case a => k_is); (case l => k_is); (case c => k_is); (case k => k_is)
      (case b => exact fun _ _ _ _ _ _ us hl => match us, hl with | [_, _], _ => rfl)
    have d_size_of : L2.Def (L2.KOf KX) mg "size_of" My.s_size_of ["tree"] := by
      dsimp only [L2.KOf]
      refine' L2.def_mk KX G ?a ?l ?c ?k ?b
      (case a => k_is); (case l => k_is); (case c => k_is); (case k => k_is)
      (case b => exact fun _ _ _ _ _ _ us hl => match us, hl with | [_], _ => rfl)
    have d_number_at : L2.Def (L2.KOf KX) mg "number_at" My.s_number_at ["bounds", "tree", "place"] := by
      dsimp only [L2.KOf]
      refine' L2.def_mk KX G ?a ?l ?c ?k ?b
      (case a => k_is); (case l => k_is); (case c => k_is); (case k => k_is)
      (case b => exact fun _ _ _ _ _ _ us hl => match us, hl with | [_, _, _], _ => rfl)
    have d_many_in : L2.Def (L2.KOf KX) mg "many_in" My.s_many_in ["gathering"] := by
      dsimp only [L2.KOf]
      refine' L2.def_mk KX G ?a ?l ?c ?k ?b
      (case a => k_is); (case l => k_is); (case c => k_is); (case k => k_is)
      (case b => exact fun _ _ _ _ _ _ us hl => match us, hl with | [_], _ => rfl)
    have d_filled : L2.Def (L2.KOf KX) mg "filled" My.s_filled ["gathering"] := by
      dsimp only [L2.KOf]
      refine' L2.def_mk KX G ?a ?l ?c ?k ?b
      (case a => k_is); (case l => k_is); (case c => k_is); (case k => k_is)
      (case b => exact fun _ _ _ _ _ _ us hl => match us, hl with | [_], _ => rfl)
    have d_led_stretch : L2.Def (L2.KOf KX) mg "led_stretch" My.s_led_stretch ["stretch", "way"] := by
      dsimp only [L2.KOf]
      refine' L2.def_mk KX G ?a ?l ?c ?k ?b
      (case a => k_is); (case l => k_is); (case c => k_is); (case k => k_is)
      (case b => exact fun _ _ _ _ _ _ us hl => match us, hl with | [_, _], _ => rfl)
    have d_led : L2.Def (L2.KOf KX) mg "led" My.s_led ["gathering", "way"] := by
      dsimp only [L2.KOf]
      refine' L2.def_mk KX G ?a ?l ?c ?k ?b
      (case a => k_is); (case l => k_is); (case c => k_is); (case k => k_is)
      (case b => exact fun _ _ _ _ _ _ us hl => match us, hl with | [_, _], _ => rfl)
    have d_lifted : L2.Def (L2.KOf KX) mg "lifted" My.s_lifted ["tree", "way", "place"] := by
      dsimp only [L2.KOf]
      refine' L2.def_mk KX G ?a ?l ?c ?k ?b
      (case a => k_is); (case l => k_is); (case c => k_is); (case k => k_is)
      (case b => exact fun _ _ _ _ _ _ us hl => match us, hl with | [_, _, _], _ => rfl)
    have d_way_of_nth : L2.Def (L2.KOf KX) mg "way_of_nth" My.s_way_of_nth ["levels", "gathering", "k"] := by
      dsimp only [L2.KOf]
      refine' L2.def_mk KX G ?a ?l ?c ?k ?b
      (case a => k_is); (case l => k_is); (case c => k_is); (case k => k_is)
      (case b => exact fun _ _ _ _ _ _ us hl => match us, hl with | [_, _, _], _ => rfl)
    have d_nth_alike : L2.Def (L2.KOf KX) mg "nth_alike" My.s_nth_alike ["gathering", "way", "number"] := by
      dsimp only [L2.KOf]
      refine' L2.def_mk KX G ?a ?l ?c ?k ?b
      (case a => k_is); (case l => k_is); (case c => k_is); (case k => k_is)
      (case b => exact fun _ _ _ _ _ _ us hl => match us, hl with | [_, _, _], _ => rfl)
    have d_many_lesser : L2.Def (L2.KOf KX) mg "many_lesser" My.s_many_lesser ["gathering", "way"] := by
      dsimp only [L2.KOf]
      refine' L2.def_mk KX G ?a ?l ?c ?k ?b
      (case a => k_is); (case l => k_is); (case c => k_is); (case k => k_is)
      (case b => exact fun _ _ _ _ _ _ us hl => match us, hl with | [_, _], _ => rfl)
    have d_nth_least : L2.Def (L2.KOf KX) mg "nth_least" My.s_nth_least ["bounds", "gathering", "k"] := by
      dsimp only [L2.KOf]
      refine' L2.def_mk KX G ?a ?l ?c ?k ?b
      (case a => k_is); (case l => k_is); (case c => k_is); (case k => k_is)
      (case b => exact fun _ _ _ _ _ _ us hl => match us, hl with | [_, _, _], _ => rfl)
    have d_rank_of : L2.Def (L2.KOf KX) mg "rank_of" My.s_rank_of ["bounds", "gathering", "j", "place"] := by
      dsimp only [L2.KOf]
      refine' L2.def_mk KX G ?a ?l ?c ?k ?b
      (case a => k_is); (case l => k_is); (case c => k_is); (case k => k_is)
      (case b => exact fun _ _ _ _ _ _ us hl => match us, hl with | [_, _, _, _], _ => rfl)
    have d_below : L2.Def (L2.KOf KX) mg "below" My.s_below ["bounds", "gathering", "number"] := by
      dsimp only [L2.KOf]
      refine' L2.def_mk KX G ?a ?l ?c ?k ?b
      (case a => k_is); (case l => k_is); (case c => k_is); (case k => k_is)
      (case b => exact fun _ _ _ _ _ _ us hl => match us, hl with | [_, _, _], _ => rfl)
    have d_between : L2.Def (L2.KOf KX) mg "between" My.s_between ["bounds", "gathering", "low", "high"] := by
      dsimp only [L2.KOf]
      refine' L2.def_mk KX G ?a ?l ?c ?k ?b
      (case a => k_is); (case l => k_is); (case c => k_is); (case k => k_is)
      (case b => exact fun _ _ _ _ _ _ us hl => match us, hl with | [_, _, _, _], _ => rfl)
    have d_counted_nth : L2.Def (L2.KOf KX) mg "counted_nth" My.s_counted_nth ["bounds", "gathering", "k"] := by
      dsimp only [L2.KOf]
      refine' L2.def_mk KX G ?a ?l ?c ?k ?b
      (case a => k_is); (case l => k_is); (case c => k_is); (case k => k_is)
      (case b => exact fun _ _ _ _ _ _ us hl => match us, hl with | [_, _, _], _ => rfl)
    have d_next_up : L2.Def (L2.KOf KX) mg "next_up" My.s_next_up ["bounds", "gathering", "number"] := by
      dsimp only [L2.KOf]
      refine' L2.def_mk KX G ?a ?l ?c ?k ?b
      (case a => k_is); (case l => k_is); (case c => k_is); (case k => k_is)
      (case b => exact fun _ _ _ _ _ _ us hl => match us, hl with | [_, _, _], _ => rfl)
    have d_next_down : L2.Def (L2.KOf KX) mg "next_down" My.s_next_down ["bounds", "gathering", "number"] := by
      dsimp only [L2.KOf]
      refine' L2.def_mk KX G ?a ?l ?c ?k ?b
      (case a => k_is); (case l => k_is); (case c => k_is); (case k => k_is)
      (case b => exact fun _ _ _ _ _ _ us hl => match us, hl with | [_, _, _], _ => rfl)
    have d_sum_from : L2.Def (L2.KOf KX) mg "sum_from" My.s_sum_from ["least", "many", "parts", "k"] := by
      dsimp only [L2.KOf]
      refine' L2.def_mk KX G ?a ?l ?c ?k ?b
      (case a => k_is); (case l => k_is); (case c => k_is); (case k => k_is)
      (case b => exact fun _ _ _ _ _ _ us hl => match us, hl with | [_, _, _, _], _ => rfl)
    have d_sum_of_least : L2.Def (L2.KOf KX) mg "sum_of_least" My.s_sum_of_least ["bounds", "gathering", "k"] := by
      dsimp only [L2.KOf]
      refine' L2.def_mk KX G ?a ?l ?c ?k ?b
      (case a => k_is); (case l => k_is); (case c => k_is); (case k => k_is)
      (case b => exact fun _ _ _ _ _ _ us hl => match us, hl with | [_, _, _], _ => rfl)
    have d__law_bounds : L2.Def (L2.KOf KX) mg "_law_bounds" My.s__law_bounds ["_law_pen_here"] := by
      dsimp only [L2.KOf]
      refine' L2.def_mk KX G ?a ?l ?c ?k ?b
      (case a => k_is); (case l => k_is); (case c => k_is); (case k => k_is)
      (case b => exact fun _ _ _ _ _ _ us hl => match us, hl with | [_], _ => rfl)
    have d__law_numbers : L2.Def (L2.KOf KX) mg "_law_numbers" My.s__law_numbers ["_law_pen_here", "_law_bounds_here", "_law_long"] := by
      dsimp only [L2.KOf]
      refine' L2.def_mk KX G ?a ?l ?c ?k ?b
      (case a => k_is); (case l => k_is); (case c => k_is); (case k => k_is)
      (case b => exact fun _ _ _ _ _ _ us hl => match us, hl with | [_, _, _], _ => rfl)
    have d__law_grown : L2.Def (L2.KOf KX) mg "_law_grown" My.s__law_grown ["_law_levels", "_law_offsets"] := by
      dsimp only [L2.KOf]
      refine' L2.def_mk KX G ?a ?l ?c ?k ?b
      (case a => k_is); (case l => k_is); (case c => k_is); (case k => k_is)
      (case b => exact fun _ _ _ _ _ _ us hl => match us, hl with | [_, _], _ => rfl)
    have d__law_tree : L2.Def (L2.KOf KX) mg "_law_tree" My.s__law_tree ["_law_bounds_here", "_law_row"] := by
      dsimp only [L2.KOf]
      refine' L2.def_mk KX G ?a ?l ?c ?k ?b
      (case a => k_is); (case l => k_is); (case c => k_is); (case k => k_is)
      (case b => exact fun _ _ _ _ _ _ us hl => match us, hl with | [_, _], _ => rfl)
    have d__law_drawn : L2.Def (L2.KOf KX) mg "_law_drawn" My.s__law_drawn ["_law_pen_here", "_law_long"] := by
      dsimp only [L2.KOf]
      refine' L2.def_mk KX G ?a ?l ?c ?k ?b
      (case a => k_is); (case l => k_is); (case c => k_is); (case k => k_is)
      (case b => exact fun _ _ _ _ _ _ us hl => match us, hl with | [_, _], _ => rfl)
    have d__law_gathering : L2.Def (L2.KOf KX) mg "_law_gathering" My.s__law_gathering ["_law_bounds_here", "_law_rows", "_law_some"] := by
      dsimp only [L2.KOf]
      refine' L2.def_mk KX G ?a ?l ?c ?k ?b
      (case a => k_is); (case l => k_is); (case c => k_is); (case k => k_is)
      (case b => exact fun _ _ _ _ _ _ us hl => match us, hl with | [_, _, _], _ => rfl)
    have d__law_some_number : L2.Def (L2.KOf KX) mg "_law_some_number" My.s__law_some_number ["_law_pen_here", "_law_bounds_here", "_law_rows"] := by
      dsimp only [L2.KOf]
      refine' L2.def_mk KX G ?a ?l ?c ?k ?b
      (case a => k_is); (case l => k_is); (case c => k_is); (case k => k_is)
      (case b => exact fun _ _ _ _ _ _ us hl => match us, hl with | [_, _, _], _ => rfl)
    have d__law_thing_right : L2.Def (L2.KOf KX) mg "_law_thing_right" My.s__law_thing_right ["_law_bounds_here", "_law_gathering_here", "_law_k"] := by
      dsimp only [L2.KOf]
      refine' L2.def_mk KX G ?a ?l ?c ?k ?b
      (case a => k_is); (case l => k_is); (case c => k_is); (case k => k_is)
      (case b => exact fun _ _ _ _ _ _ us hl => match us, hl with | [_, _, _], _ => rfl)
    have d__law_gone_up : L2.Def (L2.KOf KX) mg "_law_gone_up" My.s__law_gone_up ["_law_bounds_here", "_law_gathering_here"] := by
      dsimp only [L2.KOf]
      refine' L2.def_mk KX G ?a ?l ?c ?k ?b
      (case a => k_is); (case l => k_is); (case c => k_is); (case k => k_is)
      (case b => exact fun _ _ _ _ _ _ us hl => match us, hl with | [_, _], _ => rfl)
    have d__law_gone_back : L2.Def (L2.KOf KX) mg "_law_gone_back" My.s__law_gone_back ["_law_bounds_here", "_law_gathering_here", "_law_long"] := by
      dsimp only [L2.KOf]
      refine' L2.def_mk KX G ?a ?l ?c ?k ?b
      (case a => k_is); (case l => k_is); (case c => k_is); (case k => k_is)
      (case b => exact fun _ _ _ _ _ _ us hl => match us, hl with | [_, _, _], _ => rfl)
    have d_law : L2.Def (L2.KOf KX) mg "law" My.s_law ["_law_script"] := by
      dsimp only [L2.KOf]
      refine' L2.def_mk KX G ?a ?l ?c ?k ?b
      (case a => k_is); (case l => k_is); (case c => k_is); (case k => k_is)
      (case b => exact fun _ _ _ _ _ _ us hl => match us, hl with | [_], _ => rfl)
    have z : My.Bz mg := by
      refine' ⟨PySem.W.mg_none_of KX G ?z0, PySem.W.mg_none_of KX G ?z1, PySem.W.mg_none_of KX G ?z2, PySem.W.mg_none_of KX G ?z3, PySem.W.mg_none_of KX G ?z4, PySem.W.mg_none_of KX G ?z5, PySem.W.mg_none_of KX G ?z6, PySem.W.mg_none_of KX G ?z7, PySem.W.mg_none_of KX G ?z8⟩
      (case z0 => k_is)
      (case z1 => k_is)
      (case z2 => k_is)
      (case z3 => k_is)
      (case z4 => k_is)
      (case z5 => k_is)
      (case z6 => k_is)
      (case z7 => k_is)
      (case z8 => k_is)
    exact L2.law_mk d_law (fun base => My.all_ok (base := base) z d__law_cell d__law_pen d__law_take d_many_worths d_top_of d_where d_span_of d_way_of d_ahead d_place_of d_half_of d_size_of d_number_at d_many_in d_filled d_led_stretch d_led d_lifted d_way_of_nth d_nth_alike d_many_lesser d_nth_least d_rank_of d_below d_between d_counted_nth d_next_up d_next_down d_sum_from d_sum_of_least d__law_bounds d__law_numbers d__law_grown d__law_tree d__law_drawn d__law_gathering d__law_some_number d__law_thing_right d__law_gone_up d__law_gone_back) hmg
#print axioms PySem.Challenge.cw_manyleast_k25_whole_orders_and_counts_holds
