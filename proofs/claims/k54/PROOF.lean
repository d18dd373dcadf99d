import PyProof.Rows.All
import Wide.All
import OpenK.AllK
import Wide.FinOn
import Lean
import PyProof.EqAt
import PyProof.EqKinds
import PyProof.TupleCall
import KE.KTryMore
import KE.KRevSl
import KE.KRevIter
import PyProof.TupleOfGen
import KE.KUnpack
import PySem.Challenge.RW_manyleast_k54_makes_refused
set_option Elab.async false
set_option linter.all false
set_option maxRecDepth 100000
set_option maxHeartbeats 4000000
def PySem.W.Fast.tw7674292497303504648 : Unit := ()
def PySem.W.Fast.tw1600396345302884861 : Unit := ()
def PySem.W.Fast.tw3318930204785009659 : Unit := ()
def PySem.W.Fast.tw16436599242024385848 : Unit := ()
def PySem.W.Fast.tw10319890603644969507 : Unit := ()
def PySem.W.Fast.tw11616619567489218914 : Unit := ()
def PySem.W.Fast.tw7761618985941245095 : Unit := ()
def PySem.W.Fast.tw6719760885574732229 : Unit := ()
def PySem.W.Fast.tw173556329251438201 : Unit := ()
def PySem.W.Fast.tw13743057739057740021 : Unit := ()
def PySem.W.Fast.tw16795867846474498072 : Unit := ()
def PySem.W.Fast.tw2844814893076554119 : Unit := ()
def PySem.W.Fast.tw9437906573616769300 : Unit := ()
def PySem.W.Fast.tw16535524817008103707 : Unit := ()
def PySem.W.Fast.tw7704981422072863698 : Unit := ()
def PySem.W.Fast.tw10674067043680467898 : Unit := ()
def PySem.W.Fast.tw12107386752923080758 : Unit := ()
def PySem.W.Fast.tw15039913972261837099 : Unit := ()
def PySem.W.Fast.tw13259977382368533591 : Unit := ()
def PySem.W.Fast.tw6901974582582345135 : Unit := ()
def PySem.W.Fast.tw1759597028577125593 : Unit := ()
def PySem.W.Fast.tw7555536539538638882 : Unit := ()
def PySem.W.Fast.tw11224663168190757870 : Unit := ()
def PySem.W.Fast.tw9725915765575898696 : Unit := ()
def PySem.W.Fast.tw10940171831107686033 : Unit := ()
def PySem.W.Fast.tw4319477447092131895 : Unit := ()
def PySem.W.Fast.tw17204108299387176123 : Unit := ()
def PySem.W.Fast.tw3010953643146447999 : Unit := ()
def PySem.W.Fast.tw14716994106318107437 : Unit := ()
def PySem.W.Fast.tw8651476451653079170 : Unit := ()
def PySem.W.Fast.tw3717407646597466838 : Unit := ()
namespace MyQ
open PySem PySem.W PyProof.Rows
set_option maxRecDepth 100000 in
set_option maxHeartbeats 0 in
open_top hd for PySem.Challenge.rw_manyleast_k54_makes_refused
end MyQ
/-! THE HAND LAYER, for ints, bools, texts, own classes, LISTS and tuples (index, slices, in, append, pop ..), calls, loops. Paste it whole ahead of your own text; what your proof does not reach may be deleted. -/
namespace L2
open PySem PySem.Spec PyProof.Rows

/-- a key: an int or a str -/
abbrev Key := Sum Int Str
def keyIs : Key → Value → Bool
  | .inl k, v => Value.isInt k v
  | .inr x, v => Value.isStrOf x v
def keyH (w : World) : Key → Int
  | .inl k => hashInt k
  | .inr x => hashStr w x
theorem keyIs_shape : ∀ {k : Key} {v : Value}, keyIs k v = true → (∃ i t, k = Sum.inl i ∧ v = Value.int i t) ∨ (∃ x t, k = Sum.inr x ∧ v = Value.str x t)
  | .inl i, v, h => by
    obtain ⟨t, e⟩ := Value.isInt_shape (k := i) (v := v) h
    exact .inl ⟨i, t, rfl, e⟩
  | .inr x, v, h => by
    obtain ⟨t, e⟩ := Value.isStrOf_shape (x := x) (v := v) h
    exact .inr ⟨x, t, rfl, e⟩
theorem key_ll (a b : Int) : decide ((Sum.inl a : Key) = Sum.inl b) = (a == b) := by
  by_cases e : a = b
  · subst e; simp
  · have h : ¬ (Sum.inl a : Key) = Sum.inl b := fun q => e (Sum.inl.inj q)
    rw [decide_eq_false h]
    exact (beq_eq_false_iff_ne.mpr e).symm
theorem key_rr (a b : Str) : decide ((Sum.inr a : Key) = Sum.inr b) = decide (a = b) := by
  by_cases e : a = b
  · subst e; simp
  · have h : ¬ (Sum.inr a : Key) = Sum.inr b := fun q => e (Sum.inr.inj q)
    rw [decide_eq_false h, decide_eq_false e]
theorem key_lr (a : Int) (b : Str) : decide ((Sum.inl a : Key) = Sum.inr b) = false := decide_eq_false (fun q => nomatch q)
theorem key_rl (a : Str) (b : Int) : decide ((Sum.inr a : Key) = Sum.inl b) = false := decide_eq_false (fun q => nomatch q)

def mixKind (prog : Program) (w : World) : PySem.KeyKind prog w Key where
  is := keyIs
  hash := keyH w
  inj := fun v a b ha hb => by
    rcases keyIs_shape ha with ⟨i, t, rfl, rfl⟩ | ⟨x, t, rfl, rfl⟩
    · rcases keyIs_shape hb with ⟨j, u, rfl, e⟩ | ⟨y, u, rfl, e⟩
      · injection e with e1 _; rw [e1]
      · exact nomatch e
    · rcases keyIs_shape hb with ⟨j, u, rfl, e⟩ | ⟨y, u, rfl, e⟩
      · exact nomatch e
      · injection e with e1 _; rw [e1]
  byValue := fun k v h => by
    rcases keyIs_shape h with ⟨i, t, rfl, rfl⟩ | ⟨x, t, rfl, rfl⟩ <;> rfl
  pyHash := fun hv h => by
    rcases keyIs_shape hv with ⟨i, t, rfl, rfl⟩ | ⟨x, t, rfl, rfl⟩
    · exact wpAny_pyHash_int h
    · exact wpAny_pyHash_str h
  eqBool := fun hu hv h => by
    rcases keyIs_shape hu with ⟨i, t, rfl, rfl⟩ | ⟨x, t, rfl, rfl⟩
    · rcases keyIs_shape hv with ⟨j, u, rfl, rfl⟩ | ⟨y, u, rfl, rfl⟩
      · rw [key_ll] at h; exact wpAny_eqBool_int h
      · rw [key_lr] at h; exact SeqAt.EqAt.int_str i t y u _ _ _ _ h
    · rcases keyIs_shape hv with ⟨j, u, rfl, rfl⟩ | ⟨y, u, rfl, rfl⟩
      · rw [key_rl] at h; exact SeqAt.EqAt.str_int x t j u _ _ _ _ h
      · rw [key_rr] at h; exact wpAny_eqBool_str h
  «strs» := fun k x t v h => by
    rcases keyIs_shape h with ⟨i, u, rfl, e⟩ | ⟨y, u, rfl, e⟩
    · exact nomatch e
    · injection e with e1 _
      subst e1
      cases v <;> rfl

end L2

namespace L2
open PySem PySem.Spec PyProof.Rows

/-- a value, without the heap -/
inductive V where
  | non | bl (b : Bool) | int (i : Int) | str (x : Str) | byt (b : Array UInt8) | flt (b : UInt64) | ref (a : Addr) | ty (n : String)
  deriving DecidableEq

def RelV : V → Value → Prop
  | .non, u => u = Value.none
  | .bl b, u => u = Value.bool b
  | .int i, u => ∃ t, u = Value.int i t
  | .str x, u => ∃ t, u = Value.str x t
  | .byt b, u => ∃ t, u = Value.bytes b t
  | .flt b, u => ∃ t, u = Value.float b t
  | .ref a, u => u = Value.ref a
  | .ty n, u => u = Value.type n

abbrev Vals : List V → List Value → Prop := Paired RelV
theorem Vals.length {xs : List V} {us : List Value} (r : Vals xs us) : xs.length = us.length := Paired.length r
theorem Vals.get : ∀ {xs : List V} {us : List Value} {i : Nat} {x : V}, Vals xs us → xs[i]? = some x → ∃ u, us[i]? = some u ∧ RelV x u
  | _, _, _, _, .nil, e => by simp at e
  | _, _, 0, _, .cons r _, e => by simp at e; subst e; exact ⟨_, rfl, r⟩
  | _, _, i + 1, x, .cons _ t, e => by
    obtain ⟨u, h1, h2⟩ := Vals.get (i := i) (x := x) t (by simpa using e)
    exact ⟨u, by simpa using h1, h2⟩
theorem Vals.set {x : V} {u : Value} (r : RelV x u) : ∀ {xs : List V} {us : List Value} (i : Nat), Vals xs us → Vals (xs.set i x) (us.set i u)
  | _, _, _, .nil => .nil
  | _, _, 0, .cons _ t => .cons r t
  | _, _, i + 1, .cons q t => .cons q (Vals.set r i t)
theorem Vals.append : ∀ {xs ys : List V} {us ws : List Value}, Vals xs us → Vals ys ws → Vals (xs ++ ys) (us ++ ws)
  | _, _, _, _, .nil, s => s
  | _, _, _, _, .cons r t, s => .cons r (Vals.append t s)
theorem Vals.take : ∀ {xs : List V} {us : List Value} (n : Nat), Vals xs us → Vals (xs.take n) (us.take n)
  | _, _, 0, _ => .nil
  | _, _, _ + 1, .nil => .nil
  | _, _, n + 1, .cons r t => .cons r (Vals.take n t)
theorem Vals.drop : ∀ {xs : List V} {us : List Value} (n : Nat), Vals xs us → Vals (xs.drop n) (us.drop n)
  | _, _, 0, r => r
  | _, _, _ + 1, .nil => .nil
  | _, _, n + 1, .cons _ t => Vals.drop n t
def RelO : Option V → Option Value → Prop
  | some v, some u => RelV v u
  | none, none => True
  | _, _ => False
def KV {κ : Type} : List (κ × V) → List (κ × Value) → Prop := Paired fun (p : κ × V) (q : κ × Value) => p.1 = q.1 ∧ RelV p.2 q.2

/-- a key of a dict (00_mix): an int or a text -/
def kV : Key → V
  | .inl i => .int i
  | .inr x => .str x

/-- what stands at a tracked address -/
inductive HO where
  /-- a list -/
  | lst (xs : List V)
  /-- a tuple (never changes) -/
  | tup (xs : List V)
  /-- a dict whose keys are ints and texts; one whose keys are tuples of ints and texts (the empty one is both) -/
  | dK (kvs : List (Key × V)) | dT (kvs : List (List Key × V))
  /-- a set of ints: its members, its size -/
  | set (S : Int → Bool) (n : Nat)
  /-- an instance of the class at C, its dict at dx, its attributes -/
  | ins (C dx : Addr) (fs : List (Str × V))
  /-- the dict of the instance at x -/
  | own (x : Addr)
  /-- the dict of an exception -/
  | xd (fs : List (Str × V))
  /-- a bound method, f of x -/
  | met (f x : Addr)
  /-- a range object lo, lo + 1, .. below hi -/
  | rng (lo hi : Int)
  /-- a thing that is known to the object (the script; a dict while a loop walks it): read, never written while it is so -/
  | frz (o : Obj) (u : HO)
  /-- a code object's table -/
  | tbl (ps : Array Value)
  /-- any other thing, by what is true of its one object (a def of one's own: SetO a S n := HO.ext fun h => ..) -/
  | ext (φ : Heap → Prop)

abbrev Hp := Addr → Option HO
def upd (H : Hp) (a : Addr) (o : HO) : Hp := fun b => if b = a then some o else H b
theorem upd_same {H : Hp} {a : Addr} {o : HO} : upd H a o a = some o := by unfold upd; rw [if_pos rfl]
theorem upd_ne {H : Hp} {a b : Addr} {o : HO} (h : b ≠ a) : upd H a o b = H b := by unfold upd; rw [if_neg h]
theorem upd_upd {H : Hp} {a : Addr} {o u : HO} : upd (upd H a o) a u = upd H a u := by
  funext b; unfold upd; split <;> rfl
/-- two objects of different content stand apart -/
theorem ne_of {H : Hp} {a b : Addr} {o u : HO} (h : H a = some o) (h' : H b = some u) (d : o ≠ u) : a ≠ b := by
  intro e; subst e; rw [h] at h'; exact d (Option.some.inj h')
theorem ne_of_none {H : Hp} {a b : Addr} {o : HO} (h : H a = some o) (h' : H b = none) : a ≠ b := by
  intro e; subst e; rw [h] at h'; cases h'

section
variable (P : Program) (w : World)
def ObjOk (H : Hp) (h : Heap) (a : Addr) : HO → Prop
  | .lst xs => xs.length ≤ sizeLine ∧ ∃ (its : List Value) (n : Nat), Vals xs its ∧ h.get? a = some { cls := .type "list", data := .seq its.toArray n }
  | .tup xs => xs.length ≤ sizeLine ∧ ∃ its : List Value, Vals xs its ∧ IsTup h a its.toArray
  | .dK kvs => kvs.length ≤ sizeLine ∧ (a == sysModules) = false ∧ ∃ vs, KV kvs vs ∧ h.DictOf (mixKind P w) a vs
  | .dT kvs => kvs.length ≤ sizeLine ∧ (a == sysModules) = false ∧ ∃ xs : List (List Key × Addr × Value),
      Paired (fun (p : List Key × V) (q : List Key × Addr × Value) => p.1 = q.1 ∧ H q.2.1 = some (.tup (p.1.map kV)) ∧ RelV p.2 q.2.2) kvs xs ∧
      ∃ o es ep, h.get? a = some o ∧ o.ExactDict ∧ o.data = .dict es ep ∧ es.toList = xs.map (entryOfKey (tupleKind (mixKind P w))) ∧ (xs.map (·.1)).Nodup
  | .set S n => h.SetOf (intKind P w) a S n
  | .ins C dx fs => H dx = some (.own a) ∧ fs.length ≤ 1000 ∧ dx ≠ a ∧ h.get? a = some (PySem.W.instObj C dx) ∧
      ∃ mA, h.Ns1 dx mA ∧ (∀ f, RelO (fs.lookup f) (mA f)) ∧ PySem.Within mA (fs.map (·.1))
  | .own _ => ∃ o, h.get? a = some o
  | .xd fs => ∃ mA, h.Ns1 a mA ∧ ∀ f, RelO (fs.lookup f) (mA f)
  | .rng lo hi => ∃ t u v, h.get? a = some { cls := .type "range", data := .fields #[.int lo t, .int hi u, .int 1 v] }
  | .frz o u => h.get? a = some o ∧ ObjOk H h a u
  | .tbl ps => h.get? a = some { cls := .none, data := .fields ps }
  | .met f x => h.get? a = some (PySem.W.methodObj (.ref f) (.ref x))
  | .ext φ => φ h ∧ (∃ o, h.get? a = some o) ∧ ∀ h1 h2 : Heap, φ h1 → (∀ o, h1.get? a = some o → h2.get? a = some o) → φ h2
/-- the abstract heap is held -/
def HOk (H : Hp) (h : Heap) : Prop := ∀ a o, H a = some o → ObjOk P w H h a o
end

section
variable {P : Program} {w : World} {H H' : Hp} {h h' : Heap} {a : Addr} {o : HO}
theorem ObjOk.lt (x : ObjOk P w H h a o) : a < h.objs.size := by
  cases o with
  | lst xs => obtain ⟨_, _, _, _, e⟩ := x; exact Heap.lt_size e
  | tup xs => obtain ⟨_, _, _, p⟩ := x; exact p.lt
  | dK kvs => obtain ⟨_, _, _, _, o, _, _, e, _⟩ := x; exact Heap.lt_size e
  | dT kvs => obtain ⟨_, _, _, _, o, _, _, e, _⟩ := x; exact Heap.lt_size e
  | set S n => obtain ⟨o, _, _, _, e, _⟩ := x; exact Heap.lt_size e
  | ins C dx fs => obtain ⟨_, _, _, e, _⟩ := x; exact Heap.lt_size e
  | own y => obtain ⟨_, e⟩ := x; exact Heap.lt_size e
  | xd fs => obtain ⟨_, ⟨_, _, _, e, _⟩, _⟩ := x; exact Heap.lt_size e
  | rng lo hi => obtain ⟨_, _, _, e⟩ := x; exact Heap.lt_size e
  | frz ob u => obtain ⟨e, _⟩ := x; exact Heap.lt_size e
  | tbl ps => exact Heap.lt_size (show h.get? a = some _ from x)
  | met f y => exact Heap.lt_size (show h.get? a = some _ from x)
  | ext φ => obtain ⟨_, ⟨_, e⟩, _⟩ := x; exact Heap.lt_size e
theorem Paired.mapP {α β : Type} {F G : α → β → Prop} : ∀ {l₁ : List α} {l₂ : List β}, Paired F l₁ l₂ → (∀ a b, F a b → G a b) → Paired G l₁ l₂
  | _, _, .nil, _ => .nil
  | _, _, .cons r t, f => .cons (f _ _ r) (Paired.mapP t f)
/-- what an object's description leans on: its own object, its own dict, the tuples -/
theorem ObjOk.stay (x : ObjOk P w H h a o) (k : ∀ b u, (b = a ∨ H b = some (.own a)) → h.get? b = some u → h'.get? b = some u)
    (ho : ∀ b, H b = some (.own a) → H' b = some (.own a)) (ht : ∀ b xs, H b = some (.tup xs) → H' b = some (.tup xs)) : ObjOk P w H' h' a o := by
  induction o with
  | lst xs => obtain ⟨z, its, n, r, e⟩ := x; exact ⟨z, its, n, r, k _ _ (.inl rfl) e⟩
  | tup xs => obtain ⟨z, its, r, ob, e, c⟩ := x; exact ⟨z, its, r, ob, k _ _ (.inl rfl) e, c⟩
  | dK kvs => obtain ⟨z, y, vs, r, ob, es, ep, e, c⟩ := x; exact ⟨z, y, vs, r, ob, es, ep, k _ _ (.inl rfl) e, c⟩
  | dT kvs =>
    obtain ⟨z, y, xs, r, ob, es, ep, e, c⟩ := x
    exact ⟨z, y, xs, Paired.mapP r fun p q z => ⟨z.1, ht _ _ z.2.1, z.2.2⟩, ob, es, ep, k _ _ (.inl rfl) e, c⟩
  | set S n => obtain ⟨ob, es, ep, t, e, c⟩ := x; exact ⟨ob, es, ep, t, k _ _ (.inl rfl) e, c⟩
  | ins C dx fs =>
    obtain ⟨d, z, ne, e, mA, ⟨od, es, ep, e2, c⟩, r⟩ := x
    exact ⟨ho _ d, z, ne, k _ _ (.inl rfl) e, mA, ⟨od, es, ep, k _ _ (.inr d) e2, c⟩, r⟩
  | own y => obtain ⟨ob, e⟩ := x; exact ⟨ob, k _ _ (.inl rfl) e⟩
  | xd fs => obtain ⟨mA, ⟨od, es, ep, e, c⟩, r⟩ := x; exact ⟨mA, ⟨od, es, ep, k _ _ (.inl rfl) e, c⟩, r⟩
  | rng lo hi => obtain ⟨t, u, v, e⟩ := x; exact ⟨t, u, v, k _ _ (.inl rfl) e⟩
  | frz ob u ih => obtain ⟨e, q⟩ := x; exact ⟨k _ _ (.inl rfl) e, ih q⟩
  | tbl ps =>
    have e : h.get? a = some { cls := .none, data := .fields ps } := x
    show h'.get? a = some { cls := .none, data := .fields ps }
    exact k a _ (.inl rfl) e
  | met f y =>
    have e : h.get? a = some (PySem.W.methodObj (.ref f) (.ref y)) := x
    show h'.get? a = some (PySem.W.methodObj (.ref f) (.ref y))
    exact k a _ (.inl rfl) e
  | ext φ => obtain ⟨p, ⟨o, e⟩, st⟩ := x; exact ⟨st _ _ p fun o q => k _ _ (.inl rfl) q, ⟨o, k _ _ (.inl rfl) e⟩, st⟩
theorem HOk.lt (x : HOk P w H h) (e : H a = some o) : a < h.objs.size := (x a o e).lt
theorem HOk.fresh (x : HOk P w H h) (e : h.objs.size ≤ a) : H a = none := by
  cases q : H a with
  | none => rfl
  | some u => exact absurd (Nat.lt_of_lt_of_le (x.lt q) e) (Nat.lt_irrefl _)
/-- every object of the heap is kept -/
theorem HOk.kept (x : HOk P w H h) (k : ∀ b u, h.get? b = some u → h'.get? b = some u) : HOk P w H h' := fun a o e =>
  (x a o e).stay (fun b u _ q => k b u q) (fun _ q => q) fun _ _ q => q
/-- a new object is laid and tracked -/
theorem HOk.laid (x : HOk P w H h) (k : ∀ b u, h.get? b = some u → h'.get? b = some u) (hp : h.objs.size ≤ a) (new : ObjOk P w (upd H a o) h' a o) : HOk P w (upd H a o) h' := fun b u e => by
  have hn := x.fresh hp
  by_cases hb : b = a
  · subst hb; rw [upd_same] at e; cases e; exact new
  · rw [upd_ne hb] at e
    exact (x b u e).stay (fun c v _ q => k c v q) (fun c q => by rw [upd_ne (ne_of_none q hn)]; exact q) fun c xs q => by rw [upd_ne (ne_of_none q hn)]; exact q
end

/-- what may be read as u: it is u, or a known u -/
def Rd (H : Hp) (a : Addr) (u : HO) : Prop := H a = some u ∨ ∃ o, H a = some (.frz o u)
theorem Rd.ok {P : Program} {w : World} {H : Hp} {h : Heap} {a : Addr} {u : HO} (r : Rd H a u) (x : HOk P w H h) : ObjOk P w H h a u := by
  rcases r with r | ⟨o, r⟩
  · exact x a u r
  · obtain ⟨_, q⟩ := x a _ r
    exact q
/-- what may be written -/
def Mut : Option HO → Prop
  | some (.lst _) => True
  | some (.dK _) => True
  | some (.dT _) => True
  | some (.set _ _) => True
  | some (.ins _ _ _) => True
  | some (.ext _) => True
  | _ => False
section
variable {P : Program} {w : World} {H : Hp} {h h' : Heap} {x e : Addr} {o' : HO}
/-- the object at e is changed: x itself, or the dict of the instance x -/
theorem HOk.write (ok : HOk P w H h) (mu : Mut (H x)) (he : e = x ∨ H e = some (.own x)) (k : ∀ b u, b ≠ e → h.get? b = some u → h'.get? b = some u) (heo : ∃ u, h'.get? e = some u)
    (new : ObjOk P w (upd H x o') h' x o') : HOk P w (upd H x o') h' := fun b u q => by
  have nown : ∀ c y, H c = some (.own y) → c ≠ x := fun c y r z => by subst z; rw [r] at mu; exact mu
  have ntup : ∀ c xs, H c = some (.tup xs) → c ≠ x := fun c xs r z => by subst z; rw [r] at mu; exact mu
  by_cases hb : b = x
  · subst hb; rw [upd_same] at q; cases q; exact new
  · rw [upd_ne hb] at q
    by_cases hbe : b = e
    · have q' : H b = some (.own x) := by
        rcases he with z | z
        · exact absurd (hbe.trans z) hb
        · rw [hbe]; exact z
      rw [q] at q'; cases q'
      obtain ⟨v, hv⟩ := heo
      exact ⟨v, by rw [hbe]; exact hv⟩
    · refine (ok b u q).stay (fun c v hc r => k c v ?_ r) (fun c r => by rw [upd_ne (nown c b r)]; exact r) fun c xs r => by rw [upd_ne (ntup c xs r)]; exact r
      rcases hc with rfl | hc
      · exact hbe
      · rintro rfl
        rcases he with z | z
        · exact nown c b hc z
        · rw [hc] at z; cases z; exact hb rfl
end

/-! ### kept unless tracked; of the frames at fs (the callers') the slots may change (an exception that passes writes there); of the records at ex (iterators) nothing is said -/
structure Un (fs ex : List Addr) (H H' : Hp) (h h' : Heap) : Prop where
  keep : ∀ b o, h.get? b = some o → H b = none → b ∉ fs → b ∉ ex → h'.get? b = some o
  slot : ∀ b o, h.get? b = some o → H b = none → b ∈ fs → b ∉ ex → ∃ sl, h'.get? b = some { o with slots := sl }
  free : ∀ b o, h.get? b = some o → H b = none → b ∉ ex → H' b = none
  there : ∀ b o, h.get? b = some o → b ∉ ex → ∃ o', h'.get? b = some o'
  tups : ∀ b xs, H b = some (.tup xs) → H' b = some (.tup xs)
  frzs : ∀ b o u, H b = some (.frz o u) → H' b = some (.frz o u)
  tbls : ∀ b ps, H b = some (.tbl ps) → ∃ more, H' b = some (.tbl (ps ++ more))
section
variable {fs fs' ex ex' : List Addr} {H H1 H2 : Hp} {h h1 h2 h' : Heap} {a x e : Addr} {o : HO}
theorem Un.any (u : Un fs ex H H1 h h1) {b : Addr} {ob : Obj} (q : h.get? b = some ob) (n : H b = none) (hx : b ∉ ex) : ∃ sl, h1.get? b = some { ob with slots := sl } := by
  by_cases hb : b ∈ fs
  · exact u.slot b ob q n hb hx
  · exact ⟨ob.slots, u.keep b ob q n hb hx⟩
theorem Un.kept (k : ∀ b u, h.get? b = some u → h'.get? b = some u) : Un fs ex H H h h' :=
  ⟨fun b ob q _ _ _ => k b ob q, fun b ob q _ _ _ => ⟨ob.slots, k b ob q⟩, fun _ _ _ n _ => n, fun b ob q _ => ⟨ob, k b ob q⟩, fun _ _ q => q, fun _ _ _ q => q, fun _ ps q => ⟨#[], by rw [q]; simp⟩⟩
theorem Un.refl : Un fs ex H H h h := Un.kept fun _ _ q => q
theorem Un.laid (k : ∀ b u, h.get? b = some u → h'.get? b = some u) (hp : h.objs.size ≤ a) (hn : H a = none) : Un fs ex H (upd H a o) h h' where
  keep := fun b u q _ _ _ => k b u q
  slot := fun b u q _ _ _ => ⟨u.slots, k b u q⟩
  free := fun b u q n _ => by rw [upd_ne (Nat.ne_of_lt (Nat.lt_of_lt_of_le (Heap.lt_size q) hp))]; exact n
  there := fun b u q _ => ⟨u, k b u q⟩
  tups := fun b xs q => by rw [upd_ne (ne_of_none q hn)]; exact q
  frzs := fun b u xs q => by rw [upd_ne (ne_of_none q hn)]; exact q
  tbls := fun b ps q => ⟨#[], by rw [upd_ne (ne_of_none q hn), q]; simp⟩
theorem Un.write (mu : Mut (H x)) (he : e = x ∨ H e = some (.own x)) (k : ∀ b u, b ≠ e → h.get? b = some u → h'.get? b = some u) (heo : ∃ u, h'.get? e = some u) : Un fs ex H (upd H x o) h h' := by
  have hx : ∀ b, H b = none → b ≠ x := fun b n z => by subst z; rw [n] at mu; exact mu
  have hb : ∀ b, H b = none → b ≠ e := fun b n z => by
    subst z
    rcases he with r | r
    · exact hx b n r
    · rw [n] at r; cases r
  have hm : ∀ b u, H b = some u → ¬ Mut (some u) → b ≠ x := fun b u q nm z => by subst z; rw [q] at mu; exact nm mu
  refine ⟨fun b u q n _ _ => k b u (hb b n) q, fun b u q n _ _ => ⟨u.slots, k b u (hb b n) q⟩, fun b u q n _ => by rw [upd_ne (hx b n)]; exact n, fun b u q _ => ?_,
    fun b xs q => by rw [upd_ne (hm b _ q fun z => z)]; exact q, fun b u xs q => by rw [upd_ne (hm b _ q fun z => z)]; exact q, fun b ps q => ⟨#[], by rw [upd_ne (hm b _ q fun z => z), q]; simp⟩⟩
  by_cases hbe : b = e
  · subst hbe; exact heo
  · exact ⟨u, k b u hbe q⟩
end

/-! ### the heap without what is tracked -/
def trk (h : Heap) (H : Hp) : List Addr := (List.range h.objs.size).filter fun a => (H a).isSome
def hidT (h : Heap) (H : Hp) : Heap := PySem.W.hideAll h (trk h H)
theorem hidT_size (h : Heap) (H : Hp) : (hidT h H).objs.size = h.objs.size := PySem.W.hideAll_size _ _
theorem hidT_get {h : Heap} {H : Hp} {b : Addr} {o : Obj} (e : h.get? b = some o) (n : H b = none) : (hidT h H).get? b = some o :=
  PySem.W.hideAll_get _ e fun hm => by
    have q : (H b).isSome = true := (List.mem_filter.mp hm).2
    rw [n] at q; simp at q
theorem of_hidT {h : Heap} {H : Hp} {b : Addr} {o : Obj} (e : (hidT h H).get? b = some o) : h.get? b = some o ∧ H b = none := by
  have e' : h.get? b = some o := PySem.W.of_hideAll (trk h H) e
  refine ⟨e', ?_⟩
  cases q : H b with
  | none => rfl
  | some x =>
    have hm : b ∈ trk h H := List.mem_filter.mpr ⟨List.mem_range.mpr (Heap.lt_size e'), by simp [q]⟩
    have z : (hidT h H).get? b = none := PySem.W.hideAll_none (trk h H) hm
    rw [z] at e; cases e

/-! ### OpenK's ledger, filled with every new object but one -/
def allNews (g h : Heap) (L : Addr) : List (Addr × Obj) := (List.range h.objs.size).filterMap fun a => if a = L ∨ (g.get? a).isSome = true then none else (h.get? a).map fun o => (a, o)
def rest (g h : Heap) (L d : Addr) : List (Addr × Obj) := (allNews g h L).filter fun p => decide (p.1 ≠ d)
end L2

namespace L2
open PySem PySem.Spec PyProof.Rows

/-- the module's facts, over the base: the heap at the law's entry without what is tracked there -/
structure Mod (K : PySem.W.Frag) (mg : Str → Option Value) (base : Heap) : Prop where
  kin : K.In base
  glob : base.Ns mainGlobals mg
  blt : ∃ mb, base.Ns builtinsNs mb ∧ ∀ x : Str, x ≠ "__name__" → mb x = bootBuiltins x
  nolimit : base.NoLimit

/-- the context: a def's body (or a comprehension's block) running. base: fixed through the whole law; s₀, H₀: the entry; outer: the frames whose slots others may change (a def's callers); stack: all frames that run;
   ex: iterators that were made ahead of the entry and are walked here (a comprehension's); fn: the names whose cells were made at the entry (a def: all; a comprehension's block: its own); calm: not within an except suite; pn: pins that every state bears; xe: what is wanted of an exception that leaves the code -/
structure Cx where
  prog : Program
  w : World
  K : PySem.W.Frag
  mg : Str → Option Value
  base : Heap
  A : Around
  N : List Str
  s₀ : Shared
  H₀ : Hp
  env : Env
  outer : List Env
  stack : List Env
  ex : List Addr
  fn : Str → Bool
  calm : Bool
  pn : List (Addr × Obj)
  xe : Value → Shared → Prop
/-- the callers' frames -/
def frs (l : List Env) : List Addr := l.filterMap (·.frame)
abbrev Cx.fs (X : Cx) : List Addr := frs X.outer

def Vis (sc : Scope) (x : Str) : Prop := sc.names.lookup x = some .local ∨ sc.names.lookup x = some .cell ∨ sc.names.lookup x = some .free
def Loc (sc : Scope) (x : Str) : Prop := sc.names.lookup x = some .local ∨ sc.names.lookup x = some .cell
def Look (env : Env) (h : Heap) (m : Str → Option Value) (x : Str) (u : Value) : Prop :=
  (env.kindOf x = some .local ∧ m x = some u) ∨ ((env.kindOf x = some .cell ∨ env.kindOf x = some .free) ∧ ∃ c, env.cells.lookup x = some c ∧ h.IsCell c (some u))

structure Cx.Ok (X : Cx) : Prop where
  mod : Mod X.K X.mg X.base
  kind : X.env.scope.kind = .function
  glob : X.env.globals = mainGlobals
  blt : X.env.builtins = builtinsNs
  above : X.s₀.heap.objs.size ≤ X.env.locals
  inj : ∀ x y c, X.env.cells.lookup x = some c → X.env.cells.lookup y = some c → x = y
  has : ∀ x, (X.env.kindOf x = some .cell ∨ X.env.kindOf x = some .free) → ∃ c, X.env.cells.lookup x = some c
  cab : ∀ x c, X.fn x = true → X.env.cells.lookup x = some c → X.s₀.heap.objs.size ≤ c
  hd : X.calm = true → X.A.handled = none
  frames : X.A.frames = some X.stack
  stk : X.stack = X.outer ∨ (X.stack = X.env :: X.outer ∧ X.env.frame = some X.env.locals)
  exf : ∀ b ∈ X.ex, b ≠ X.env.locals ∧ ∀ x c, X.env.cells.lookup x = some c → c ≠ b
  bs : ∀ b o, X.base.get? b = some o → X.s₀.heap.get? b = some o ∧ X.H₀ b = none
  bsz : X.base.objs.size ≤ X.s₀.heap.objs.size
  noex : ∀ b o, X.base.get? b = some o → b ∉ X.ex
  exfs : ∀ b ∈ X.ex, b ∉ X.fs
  funs : X.s₀.heap.FunFrames X.base X.outer
  frf : ∀ b ∈ X.fs, X.H₀ b = none

structure Inv (X : Cx) (pins : List (Addr × Obj)) (σ : List (Option V)) (H : Hp) (s : Shared) : Prop where
  ok : X.Ok
  os : s.os = X.s₀.os
  bare : AllBare s.gens
  base : Un X.fs X.ex X.H₀ H X.s₀.heap s.heap
  loc : ∃ m, s.heap.Ns X.env.locals m ∧ ∀ (i : Nat) (x : Str) (v : V), X.N[i]? = some x → σ[i]? = some (some v) → Vis X.env.scope x → ∃ u, RelV v u ∧ Look X.env s.heap m x u
  cell : ∀ x c, X.env.cells.lookup x = some c → ∃ v, s.heap.IsCell c v
  free : H X.env.locals = none
  freeC : ∀ x c, X.env.cells.lookup x = some c → H c = none
  pin : ∀ p ∈ X.pn ++ pins, s.heap.get? p.1 = some p.2 ∧ H p.1 = none ∧ p.1 ≠ X.env.locals ∧ p.1 ∉ X.fs ∧ ∀ v, p.2.data ≠ .cell v
  hok : HOk X.prog X.w H s.heap
  len : σ.length = X.N.length

section
variable {X : Cx} {pins : List (Addr × Obj)} {σ : List (Option V)} {H H' : Hp} {s : Shared} {h' : Heap}

theorem Cx.Ok.nofr (ok : X.Ok) {b : Addr} {o : Obj} (e : X.base.get? b = some o) : b ∉ X.fs := fun hb => by
  have := (ok.funs.mem hb).1
  rw [e] at this; cases this
theorem Inv.bs (I : Inv X pins σ H s) : ∀ b o, X.base.get? b = some o → s.heap.get? b = some o ∧ H b = none := fun b o e =>
  ⟨I.base.keep b o (I.ok.bs b o e).1 (I.ok.bs b o e).2 (I.ok.nofr e) (I.ok.noex b o e), I.base.free b o (I.ok.bs b o e).1 (I.ok.bs b o e).2 (I.ok.noex b o e)⟩
theorem Inv.bk (I : Inv X pins σ H s) : ∀ b o, X.base.get? b = some o → s.heap.get? b = some o := fun b o e => (I.bs b o e).1
theorem Inv.mod (I : Inv X pins σ H s) : Mod X.K X.mg X.base := I.ok.mod
theorem Inv.kIn (I : Inv X pins σ H s) : X.K.In s.heap := I.ok.mod.kin.keeps I.bk
theorem Inv.lt (I : Inv X pins σ H s) : X.env.locals < s.heap.objs.size := let ⟨_, hn, _⟩ := I.loc; hn.lt
theorem Inv.sz (I : Inv X pins σ H s) : X.s₀.heap.objs.size ≤ s.heap.objs.size := Nat.le_trans I.ok.above (Nat.le_of_lt I.lt)
theorem Inv.nofs (I : Inv X pins σ H s) {a : Addr} (h : s.heap.objs.size ≤ a) : a ∉ X.fs := fun hb => by
  obtain ⟨_, o, ho, _⟩ := I.ok.funs.mem hb
  exact absurd (Nat.lt_of_lt_of_le (Heap.lt_size ho) (Nat.le_trans I.sz h)) (Nat.lt_irrefl _)
theorem Inv.cne (I : Inv X pins σ H s) : ∀ x c, X.env.cells.lookup x = some c → c ≠ X.env.locals := fun x c e z => by
  obtain ⟨v, o, ho, hd⟩ := I.cell x c e
  obtain ⟨m, ⟨o', es, ep, ho', hd', _⟩, _⟩ := I.loc
  rw [z, ho'] at ho; cases ho; rw [hd'] at hd; cases hd
theorem Inv.funs (I : Inv X pins σ H s) : s.heap.FunFrames X.base X.outer := by
  have all : ∀ (l : List Env), (∀ b ∈ frs l, b ∈ X.fs) → X.s₀.heap.FunFrames X.base l → s.heap.FunFrames X.base l := by
    intro l
    induction l with
    | nil => intro _ _; trivial
    | cons env r ih =>
      intro hs hl
      obtain ⟨hk, ⟨L, o, hf, hn, ho, hd⟩, hr⟩ := hl
      have hL : L ∈ X.fs := hs L (by unfold frs; rw [List.filterMap_cons, hf]; exact List.mem_cons_self)
      obtain ⟨sl, e⟩ := I.base.slot L o ho (I.ok.frf L hL) hL fun z => I.ok.exfs L z hL
      exact ⟨hk, ⟨L, _, hf, hn, e, hd⟩, ih (fun b hb => hs b (by unfold frs; rw [List.filterMap_cons, hf]; exact List.mem_cons_of_mem _ hb)) hr⟩
  exact all X.outer (fun _ hb => hb) I.ok.funs

/-- the frames that run, for a call -/
theorem Inv.stack (I : Inv X pins σ H s) : s.heap.FunFrames X.base X.stack := by
  rcases I.ok.stk with e | ⟨e, hf⟩
  · rw [e]; exact I.funs
  · rw [e]
    obtain ⟨m, hn, _⟩ := I.loc
    refine .cons (by rw [I.ok.kind]; decide) hf hn ?_ I.funs
    exact Heap.get?_none_of_le (Nat.le_trans I.ok.bsz I.ok.above)
theorem Inv.stkSub (I : Inv X pins σ H s) : ∀ b ∈ frs X.stack, b ∈ X.env.locals :: X.fs := fun b hb => by
  rcases I.ok.stk with e | ⟨e, hf⟩
  · rw [e] at hb; exact List.mem_cons_of_mem _ hb
  · rw [e] at hb
    unfold frs at hb
    rw [List.filterMap_cons, hf] at hb
    exact hb
theorem Inv.stkFree (I : Inv X pins σ H s) : ∀ b ∈ frs X.stack, H b = none := fun b hb => by
  rcases List.mem_cons.mp (I.stkSub b hb) with e | hb
  · rw [e]; exact I.free
  · obtain ⟨_, o, ho, _⟩ := I.ok.funs.mem hb
    exact I.base.free b o ho (I.ok.frf b hb) fun z => I.ok.exfs b z hb

/-- THE STEP: the untracked objects but the frame and the records at ch are kept (the callers' frames up to slots), the frame's map is kept, the new abstract heap is held -/
theorem Inv.step {g' : Array GenState} {t' : Nat} {d' : Drawn} {ch : List Addr} (I : Inv X pins σ H s)
    (hch : ∀ b ∈ ch, (b ∈ X.ex ∨ X.s₀.heap.objs.size ≤ b) ∧ b ≠ X.env.locals ∧ (∀ x c, X.env.cells.lookup x = some c → c ≠ b) ∧ ∀ p ∈ X.pn ++ pins, p.1 ≠ b)
    (keep : ∀ b o, b ≠ X.env.locals → b ∉ X.fs → b ∉ ch → s.heap.get? b = some o → H b = none → h'.get? b = some o)
    (slot : ∀ b o, b ≠ X.env.locals → b ∈ X.fs → b ∉ ch → s.heap.get? b = some o → H b = none → ∃ sl, h'.get? b = some { o with slots := sl }) (free : ∀ b o, b ∉ ch → s.heap.get? b = some o → H b = none → H' b = none)
    (there : ∀ b o, b ∉ ch → s.heap.get? b = some o → ∃ o', h'.get? b = some o')
    (tups : ∀ b xs, H b = some (.tup xs) → H' b = some (.tup xs)) (frzs : ∀ b o u, H b = some (.frz o u) → H' b = some (.frz o u)) (tbls : ∀ b ps, H b = some (.tbl ps) → ∃ more, H' b = some (.tbl (ps ++ more)))
    (ns : ∀ m, s.heap.Ns X.env.locals m → h'.Ns X.env.locals m) (hok : HOk X.prog X.w H' h') (hg : AllBare g') :
    Inv X pins σ H' { s with heap := h', gens := g', drawn := d', toks := t' } := by
  have neL : ∀ b o, X.s₀.heap.get? b = some o → b ≠ X.env.locals := fun b o e => Nat.ne_of_lt (Nat.lt_of_lt_of_le (Heap.lt_size e) I.ok.above)
  have neC : ∀ b o, X.s₀.heap.get? b = some o → b ∉ X.ex → b ∉ ch := fun b o e hx hb => by
    rcases (hch b hb).1 with z | z
    · exact hx z
    · exact absurd (Nat.lt_of_lt_of_le (Heap.lt_size e) z) (Nat.lt_irrefl _)
  have cellK : ∀ x c, X.env.cells.lookup x = some c → ∀ v, s.heap.IsCell c v → h'.IsCell c v := fun x c e v ⟨o, ho, hd⟩ => by
    have nch : c ∉ ch := fun z => (hch c z).2.2.1 x c e rfl
    by_cases hc : c ∈ X.fs
    · obtain ⟨sl, q⟩ := slot c o (I.cne x c e) hc nch ho (I.freeC x c e)
      exact ⟨_, q, hd⟩
    · exact ⟨o, keep c o (I.cne x c e) hc nch ho (I.freeC x c e), hd⟩
  refine ⟨I.ok, I.os, hg, ⟨fun b o e n hb hx => ?_, fun b o e n hb hx => ?_, fun b o e n hx => ?_, fun b o e hx => ?_, fun b xs e => tups b xs (I.base.tups b xs e), fun b o xs e => frzs b o xs (I.base.frzs b o xs e), fun b ps e => ?_⟩, ?_, fun x c e => ?_, ?_, fun x c e => ?_, fun p hp => ?_, hok, I.len⟩
  · exact keep b o (neL b o e) hb (neC b o e hx) (I.base.keep b o e n hb hx) (I.base.free b o e n hx)
  · obtain ⟨sl, e1⟩ := I.base.slot b o e n hb hx
    obtain ⟨sl', e2⟩ := slot b _ (neL b o e) hb (neC b o e hx) e1 (I.base.free b o e n hx)
    exact ⟨sl', e2⟩
  · obtain ⟨o', e1⟩ := I.base.there b o e hx
    exact free b o' (neC b o e hx) e1 (I.base.free b o e n hx)
  · obtain ⟨o', e1⟩ := I.base.there b o e hx
    exact there b o' (neC b o e hx) e1
  · obtain ⟨m1, e1⟩ := I.base.tbls b ps e
    obtain ⟨m2, e2⟩ := tbls b _ e1
    exact ⟨m1 ++ m2, by rw [e2, Array.append_assoc]⟩
  · obtain ⟨m, hn, hl⟩ := I.loc
    refine ⟨m, ns m hn, fun i x v e1 e2 e3 => ?_⟩
    obtain ⟨u, r, l⟩ := hl i x v e1 e2 e3
    refine ⟨u, r, ?_⟩
    rcases l with l | ⟨k, c, e, z⟩
    · exact .inl l
    · exact .inr ⟨k, c, e, cellK x c e _ z⟩
  · obtain ⟨v, z⟩ := I.cell x c e
    exact ⟨v, cellK x c e v z⟩
  · obtain ⟨m, ⟨o, _, _, ho, _⟩, _⟩ := I.loc
    exact free _ o (fun z => (hch _ z).2.1 rfl) ho I.free
  · obtain ⟨v, o, ho, hd⟩ := I.cell x c e
    exact free c o (fun z => (hch c z).2.2.1 x c e rfl) ho (I.freeC x c e)
  · obtain ⟨e, n, ne, nf, d⟩ := I.pin p hp
    have nch : p.1 ∉ ch := fun z => (hch p.1 z).2.2.2 p hp rfl
    exact ⟨keep p.1 p.2 ne nf nch e n, free p.1 p.2 nch e n, ne, nf, d⟩
/-- .. where the frame's own object is kept too -/
theorem Inv.un {t' : Nat} (I : Inv X pins σ H s) (u : Un X.fs [] H H' s.heap h') (hok : HOk X.prog X.w H' h') : Inv X pins σ H' { s with heap := h', toks := t' } := by
  obtain ⟨m, ⟨o, es, ep, ho, r⟩, _⟩ := id I.loc
  obtain ⟨sl, hL⟩ := u.any ho I.free (by simp)
  exact I.step (g' := s.gens) (d' := s.drawn) (ch := []) (fun _ z => nomatch z) (fun b o _ hb _ e n => u.keep b o e n hb (by simp)) (fun b o _ hb _ e n => u.slot b o e n hb (by simp)) (fun b o _ e n => u.free b o e n (by simp)) (fun b o _ e => u.there b o e (by simp)) u.tups u.frzs u.tbls (fun m' hm => by
    obtain ⟨o', es', ep', ho', r'⟩ := hm
    rw [ho] at ho'; cases ho'
    exact ⟨_, es', ep', hL, r'⟩) hok I.bare
/-- behind a call (or a comprehension's block): the slots of this frame may have changed too, the records at ch may have turned -/
theorem Inv.call {g' : Array GenState} {t' : Nat} {d' : Drawn} {ch : List Addr} (I : Inv X pins σ H s) (u : Un (frs X.stack) ch H H' s.heap h') (hok : HOk X.prog X.w H' h') (hg : AllBare g')
    (hch : ∀ b ∈ ch, (b ∈ X.ex ∨ X.s₀.heap.objs.size ≤ b) ∧ b ≠ X.env.locals ∧ (∀ x c, X.env.cells.lookup x = some c → c ≠ b) ∧ ∀ p ∈ X.pn ++ pins, p.1 ≠ b) :
    Inv X pins σ H' { s with heap := h', gens := g', drawn := d', toks := t' } := by
  obtain ⟨m, ⟨o, es, ep, ho, r⟩, _⟩ := id I.loc
  obtain ⟨sl, hL⟩ := u.any ho I.free fun z => (hch _ z).2.1 rfl
  exact I.step (ch := ch) hch (fun b o hL hb hc e n => u.keep b o e n (fun z => (List.mem_cons.mp (I.stkSub b z)).elim hL hb) hc) (fun b o _ _ hc e n => u.any e n hc) (fun b o hc e n => u.free b o e n hc) (fun b o hc e => u.there b o e hc) u.tups u.frzs u.tbls (fun m' hm => by
    obtain ⟨o', es', ep', ho', r'⟩ := hm
    rw [ho] at ho'; cases ho'
    exact ⟨_, es', ep', hL, r'⟩) hok hg
/-- an untracked record of ours (an iterator) has turned -/
theorem Inv.turned {t' : Nat} {it : Addr} (I : Inv X pins σ H s) (k : ∀ b o, b ≠ it → s.heap.get? b = some o → h'.get? b = some o) (hn : H it = none) (hL : it ≠ X.env.locals)
    (h1 : it ∈ X.ex ∨ X.s₀.heap.objs.size ≤ it) (h2 : ∀ x c, X.env.cells.lookup x = some c → c ≠ it) (h3 : ∀ p ∈ X.pn ++ pins, p.1 ≠ it) : Inv X pins σ H { s with heap := h', toks := t' } := by
  have nit : ∀ b u, H b = some u → b ≠ it := fun b u e z => by rw [z, hn] at e; cases e
  refine I.step (g' := s.gens) (d' := s.drawn) (ch := [it]) (fun b hb => ?_) (fun b o _ _ hc e _ => k b o (fun z => hc (by simp [z])) e) (fun b o _ _ hc e _ => ⟨o.slots, k b o (fun z => hc (by simp [z])) e⟩) (fun _ _ _ _ n => n)
    (fun b o hc e => ⟨o, k b o (fun z => hc (by simp [z])) e⟩) (fun _ _ e => e) (fun _ _ _ e => e) (fun b ps e => ⟨#[], by rw [e]; simp⟩) (fun m hm => ?_) (fun b u e => ?_) I.bare
  · have e : b = it := by simpa using hb
    subst e
    exact ⟨h1, hL, h2, h3⟩
  · obtain ⟨o, es, ep, ho, r⟩ := hm
    exact ⟨o, es, ep, k _ o (Ne.symm hL) ho, r⟩
  · refine (I.hok b u e).stay (fun c v hc q => k c v ?_ q) (fun _ q => q) fun _ _ q => q
    rcases hc with z | z
    · rw [z]; exact nit b u e
    · exact nit c _ z
theorem Inv.tok (I : Inv X pins σ H s) (t : Nat) : Inv X pins σ H { s with toks := t } := I.un (h' := s.heap) (t' := t) Un.refl I.hok
/-- all objects kept -/
theorem Inv.kept {t' : Nat} (I : Inv X pins σ H s) (k : ∀ b u, s.heap.get? b = some u → h'.get? b = some u) : Inv X pins σ H { s with heap := h', toks := t' } := I.un (Un.kept k) (I.hok.kept k)
/-- a new object laid and tracked -/
theorem Inv.laid {a : Addr} {o : HO} {t' : Nat} (I : Inv X pins σ H s) (k : ∀ b u, s.heap.get? b = some u → h'.get? b = some u) (hp : s.heap.objs.size ≤ a) (new : ObjOk X.prog X.w (upd H a o) h' a o) :
    Inv X pins σ (upd H a o) { s with heap := h', toks := t' } := I.un (Un.laid k hp (I.hok.fresh hp)) (I.hok.laid k hp new)
/-- an object written -/
theorem Inv.write {x e : Addr} {o : HO} {t' : Nat} (I : Inv X pins σ H s) (mu : Mut (H x)) (he : e = x ∨ H e = some (.own x)) (k : ∀ b u, b ≠ e → s.heap.get? b = some u → h'.get? b = some u) (heo : ∃ u, h'.get? e = some u)
    (new : ObjOk X.prog X.w (upd H x o) h' x o) : Inv X pins σ (upd H x o) { s with heap := h', toks := t' } := I.un (Un.write mu he k heo) (I.hok.write mu he k heo new)
theorem Inv.pins_of {pins' : List (Addr × Obj)} (I : Inv X pins σ H s) (h : ∀ p ∈ pins', s.heap.get? p.1 = some p.2 ∧ H p.1 = none ∧ p.1 ≠ X.env.locals ∧ p.1 ∉ X.fs ∧ ∀ v, p.2.data ≠ .cell v) : Inv X pins' σ H s :=
  ⟨I.ok, I.os, I.bare, I.base, I.loc, I.cell, I.free, I.freeC, fun p hp => (List.mem_append.mp hp).elim (fun z => I.pin p (List.mem_append_left _ z)) (h p), I.hok, I.len⟩

theorem nodup_ix {N : List Str} (hN : N.Nodup) {i j : Nat} {x : Str} (a : N[i]? = some x) (b : N[j]? = some x) : i = j := by
  obtain ⟨h1, e1⟩ := List.getElem?_eq_some_iff.mp a
  obtain ⟨h2, e2⟩ := List.getElem?_eq_some_iff.mp b
  exact (List.getElem_inj hN).mp (e1.trans e2.symm)

/-- a name is stored; what changed -/
theorem store_ok2 {M : Model} {A : Around} {E : Value → Shared → Prop} {i : Nat} {x : Str} {v : V} {u : Value} {Q : Unit → Shared → Prop} (I : Inv X pins σ H s) (hN : X.N.Nodup) (hi : X.N[i]? = some x) (hx : Loc X.env.scope x) (r : RelV v u)
    (h : ∀ s', Inv X pins (σ.set i (some v)) H s' → (∃ a, Heap.SameBut a s.heap s'.heap ∧ (a = X.env.locals ∨ X.env.cells.lookup x = some a)) → Q () s') (hf : X.fn x = true ∨ X.env.scope.names.lookup x = some .local := by first | exact .inl rfl | exact .inr rfl | assumption) : wpAny M A (storeName X.env x u) Q E s := by
  obtain ⟨m, hn, hl⟩ := id I.loc
  have hcls : (X.env.scope.kind == .class || (X.env.scope.kind == .module && X.env.locals != X.env.globals)) = false := by rw [I.ok.kind]; rfl
  have hiσ : i < σ.length := by rw [I.len]; exact (List.getElem?_eq_some_iff.mp hi).1
  have cne := I.cne
  have tracked : ∀ {a : Addr} {h' : Heap}, (∃ o, s.heap.get? a = some o ∧ H a = none) → Heap.SameBut a s.heap h' → HOk X.prog X.w H h' := fun {a h'} ha hs b ob e => by
    obtain ⟨_, _, hfree⟩ := ha
    refine (I.hok b ob e).stay (fun c w' hc q => (hs.2 c ?_).trans q) (fun _ q => q) fun _ _ q => q
    rintro rfl
    rcases hc with rfl | hc
    · rw [hfree] at e; cases e
    · rw [hfree] at hc; cases hc
  rcases hx with hk | hk
  · refine wpAny_storeName_local hk hn (fun h' hn' hs => ?_) hcls
    obtain ⟨oL, _, _, hoL, _⟩ := id hn
    refine h _ ⟨I.ok, I.os, I.bare, ⟨fun b o e n hb hx => ?_, fun b o e n hb hx => ?_, I.base.free, fun b o e hx => ?_, I.base.tups, I.base.frzs, I.base.tbls⟩, ⟨_, hn', fun j y v' e1 e2 e3 => ?_⟩, fun y c e => ?_, I.free, I.freeC, fun p hp => ?_, tracked ⟨oL, hoL, I.free⟩ hs, by simpa using I.len⟩ ⟨_, hs, .inl rfl⟩
    · exact (hs.2 b (Nat.ne_of_lt (Nat.lt_of_lt_of_le (Heap.lt_size e) I.ok.above))).trans (I.base.keep b o e n hb hx)
    · obtain ⟨sl, e1⟩ := I.base.slot b o e n hb hx
      exact ⟨sl, (hs.2 b (Nat.ne_of_lt (Nat.lt_of_lt_of_le (Heap.lt_size e) I.ok.above))).trans e1⟩
    · obtain ⟨o', e1⟩ := I.base.there b o e hx
      exact ⟨o', (hs.2 b (Nat.ne_of_lt (Nat.lt_of_lt_of_le (Heap.lt_size e) I.ok.above))).trans e1⟩
    · by_cases hj : j = i
      · subst hj
        rw [hi] at e1; cases e1
        rw [List.getElem?_set_self hiσ] at e2
        cases e2
        exact ⟨u, r, .inl ⟨hk, by simp⟩⟩
      · rw [List.getElem?_set_ne (Ne.symm hj)] at e2
        obtain ⟨u', r', q⟩ := hl j y v' e1 e2 e3
        refine ⟨u', r', ?_⟩
        rcases q with ⟨k, e⟩ | ⟨k, c, e, z⟩
        · refine .inl ⟨k, ?_⟩
          have : y ≠ x := fun e => hj (nodup_ix hN e1 (e ▸ hi))
          simp [this, e]
        · exact .inr ⟨k, c, e, z.sameBut hs (cne y c e)⟩
    · obtain ⟨w', z⟩ := I.cell y c e
      exact ⟨w', z.sameBut hs (cne y c e)⟩
    · obtain ⟨e, n, ne, nf, d⟩ := I.pin p hp
      exact ⟨(hs.2 p.1 ne).trans e, n, ne, nf, d⟩
  · have hfn : X.fn x = true := by
      rcases hf with z | z
      · exact z
      · rw [z] at hk; cases hk
    obtain ⟨c, hc⟩ := I.ok.has x (.inl hk)
    obtain ⟨w', z⟩ := I.cell x c hc
    refine wpAny_storeName_cell I.ok.kind hk hc z (fun h' hc' hs => ?_)
    obtain ⟨oc, hoc, hocd⟩ := id z
    refine h { s with heap := h' } ⟨I.ok, I.os, I.bare, ⟨fun b o e n hb hx => ?_, fun b o e n hb hx => ?_, I.base.free, fun b o e hx => ?_, I.base.tups, I.base.frzs, I.base.tbls⟩, ⟨m, hn.sameBut hs (Ne.symm (cne x c hc)), fun j y v' e1 e2 e3 => ?_⟩, fun y c' e => ?_, I.free, I.freeC, fun p hp => ?_, tracked ⟨oc, hoc, I.freeC x c hc⟩ hs, by simpa using I.len⟩ ⟨c, hs, .inr hc⟩
    · exact (hs.2 b (Nat.ne_of_lt (Nat.lt_of_lt_of_le (Heap.lt_size e) (I.ok.cab x c hfn hc)))).trans (I.base.keep b o e n hb hx)
    · obtain ⟨sl, e1⟩ := I.base.slot b o e n hb hx
      exact ⟨sl, (hs.2 b (Nat.ne_of_lt (Nat.lt_of_lt_of_le (Heap.lt_size e) (I.ok.cab x c hfn hc)))).trans e1⟩
    · obtain ⟨o', e1⟩ := I.base.there b o e hx
      exact ⟨o', (hs.2 b (Nat.ne_of_lt (Nat.lt_of_lt_of_le (Heap.lt_size e) (I.ok.cab x c hfn hc)))).trans e1⟩
    · by_cases hj : j = i
      · subst hj
        rw [hi] at e1; cases e1
        rw [List.getElem?_set_self hiσ] at e2
        cases e2
        exact ⟨u, r, .inr ⟨.inl hk, c, hc, hc'⟩⟩
      · rw [List.getElem?_set_ne (Ne.symm hj)] at e2
        obtain ⟨u', r', q⟩ := hl j y v' e1 e2 e3
        refine ⟨u', r', ?_⟩
        rcases q with q | ⟨k, c', e, z'⟩
        · exact .inl q
        · refine .inr ⟨k, c', e, z'.sameBut hs ?_⟩
          rintro rfl
          exact hj (nodup_ix hN e1 (I.ok.inj _ _ _ e hc ▸ hi))
    · by_cases hcc : c' = c
      · subst hcc; exact ⟨_, hc'⟩
      · obtain ⟨w2, z2⟩ := I.cell y c' e
        exact ⟨w2, z2.sameBut hs hcc⟩
    · obtain ⟨e, n, ne, nf, d⟩ := I.pin p hp
      refine ⟨(hs.2 p.1 ?_).trans e, n, ne, nf, d⟩
      intro q
      rw [q, hoc] at e
      have q' : oc = p.2 := Option.some.inj e
      exact d w' (by rw [← q']; exact hocd)
theorem store_ok {M : Model} {A : Around} {E : Value → Shared → Prop} {i : Nat} {x : Str} {v : V} {u : Value} {Q : Unit → Shared → Prop} (I : Inv X pins σ H s) (hN : X.N.Nodup) (hi : X.N[i]? = some x) (hx : Loc X.env.scope x) (r : RelV v u)
    (h : ∀ s', Inv X pins (σ.set i (some v)) H s' → Q () s') (hf : X.fn x = true ∨ X.env.scope.names.lookup x = some .local := by first | exact .inl rfl | exact .inr rfl | assumption) : wpAny M A (storeName X.env x u) Q E s :=
  store_ok2 I hN hi hx r (fun s' I' _ => h s' I') hf
/-- behind a call or a block, the state as it is -/
theorem Inv.call' {s' : Shared} {ch : List Addr} (I : Inv X pins σ H s) (ho : s'.os = s.os) (u : Un (frs X.stack) ch H H' s.heap s'.heap) (hok : HOk X.prog X.w H' s'.heap) (hg : AllBare s'.gens)
    (hch : ∀ b ∈ ch, (b ∈ X.ex ∨ X.s₀.heap.objs.size ≤ b) ∧ b ≠ X.env.locals ∧ (∀ x c, X.env.cells.lookup x = some c → c ≠ b) ∧ ∀ p ∈ X.pn ++ pins, p.1 ≠ b) : Inv X pins σ H' s' := by
  obtain ⟨h', g', d', t', o'⟩ := s'
  have e : o' = s.os := ho
  subst e
  exact I.call (g' := g') (t' := t') (d' := d') u hok hg hch
end

/-! ### the judgements -/
/-- an exception: its class, its own dict's address (where it has one), the abstract heap behind it -/
abbrev XK := Value → Option Addr → Hp → Prop
abbrev St := List (Option V)
abbrev VK := V → Hp → Prop
/-- an expression's reading; a test's; an argument list's -/
abbrev TE := St → Hp → VK → Prop
abbrev TT := St → Hp → (Bool → Hp → Prop) → Prop
abbrev TA := St → Hp → (List V → Hp → Prop) → Prop
/-- what is wanted behind a statement -/
structure Ends where
  nx : St → Hp → Prop
  rt : VK
  bk : St → Hp → Prop := fun _ _ => False
  ct : St → Hp → Prop := fun _ _ => False
abbrev TS := Ends → St → Hp → Prop

def EP (X : Cx) (pins : List (Addr × Obj)) (σ : St) (Q : VK) (u : Value) (s' : Shared) : Prop := ∃ v H', Inv X pins σ H' s' ∧ RelV v u ∧ Q v H'
def TP (X : Cx) (pins : List (Addr × Obj)) (σ : St) (Q : Bool → Hp → Prop) (b : Bool) (s' : Shared) : Prop := ∃ H', Inv X pins σ H' s' ∧ Q b H'
def AP (X : Cx) (pins : List (Addr × Obj)) (σ : St) (Q : List V → Hp → Prop) (us : List Value) (s' : Shared) : Prop := ∃ vs H', Inv X pins σ H' s' ∧ Vals vs us ∧ Q vs H'
def SP (X : Cx) (pins : List (Addr × Obj)) (D : Ends) (f : Flow) (s' : Shared) : Prop :=
  match f with
  | .next => ∃ σ' H', Inv X pins σ' H' s' ∧ D.nx σ' H'
  | .brk => ∃ σ' H', Inv X pins σ' H' s' ∧ D.bk σ' H'
  | .cont => ∃ σ' H', Inv X pins σ' H' s' ∧ D.ct σ' H'
  | .ret u => ∃ v σ' H', Inv X pins σ' H' s' ∧ RelV v u ∧ D.rt v H'

def PE (X : Cx) (e : Expr) (t : TE) : Prop :=
  ∀ (pins : List (Addr × Obj)) (s : Shared) (σ : St) (H : Hp) (Q : VK), Inv X pins σ H s → t σ H Q → wpAny (model X.prog X.w) X.A (eval e X.env) (EP X pins σ Q) X.xe s
def PT (X : Cx) (e : Expr) (t : TT) : Prop :=
  ∀ (pins : List (Addr × Obj)) (s : Shared) (σ : St) (H : Hp) (Q : Bool → Hp → Prop), Inv X pins σ H s → t σ H Q → wpAny (model X.prog X.w) X.A (isTrue e X.env (eval e X.env)) (TP X pins σ Q) X.xe s
/-- a test whatever its 'whole' is (and, or) -/
def PW (X : Cx) (e : Expr) (t : TT) : Prop :=
  ∀ (whole : Sem Value) (pins : List (Addr × Obj)) (s : Shared) (σ : St) (H : Hp) (Q : Bool → Hp → Prop), Inv X pins σ H s → t σ H Q → wpAny (model X.prog X.w) X.A (isTrue e X.env whole) (TP X pins σ Q) X.xe s
theorem PW.pt {X : Cx} {e : Expr} {t : TT} (h : PW X e t) : PT X e t := h _
/-- an argument list (no star), from the left -/
def PA (X : Cx) (es : List Expr) (t : TA) : Prop :=
  ∀ (pos : Pos) (pins : List (Addr × Obj)) (s : Shared) (σ : St) (H : Hp) (Q : List V → Hp → Prop), Inv X pins σ H s → t σ H Q → wpAny (model X.prog X.w) X.A (spliced (backTo pos (starEach es X.env))) (AP X pins σ Q) X.xe s
def PS (X : Cx) (st : Stmt) (t : TS) : Prop :=
  ∀ (pins : List (Addr × Obj)) (s : Shared) (σ : St) (H : Hp) (D : Ends), Inv X pins σ H s → t D σ H → wpAny (model X.prog X.w) X.A (exec st X.env) (SP X pins D) X.xe s
def PSs (X : Cx) (st : List Stmt) (t : TS) : Prop :=
  ∀ (pins : List (Addr × Obj)) (s : Shared) (σ : St) (H : Hp) (D : Ends), Inv X pins σ H s → t D σ H → wpAny (model X.prog X.w) X.A (execs st X.env) (SP X pins D) X.xe s
/-- weaken the end -/
theorem thn {α : Type} {t : Sem α} {Q Q' : α → Shared → Prop} {M : Model} {A : Around} {E : Value → Shared → Prop} {s : Shared} (h : wpAny M A t Q E s) (hQ : ∀ a s, Q a s → Q' a s) : wpAny M A t Q' E s := wpAny_mono h hQ fun _ _ x => x
end L2

namespace L2
open PySem PySem.Spec PyProof.Rows
section
variable {X : Cx}

/-! ### names and constants -/
def tVar (i : Nat) : TE := fun σ H Q => ∃ v, σ[i]? = some (some v) ∧ Q v H
def tC (v : V) : TE := fun _ H Q => Q v H
theorem pe_var {i : Nat} {x : Str} {pos : Pos} (hN : X.N[i]? = some x) (hv : Vis X.env.scope x) (hd : (x == ("__debug__" : Str)) = false := by decide) (hcd : (x == ("__classdict__" : Str)) = false := by decide) : PE X (.Name x pos) (tVar i) := by
  intro pins s σ H Q I h
  obtain ⟨v, e, h⟩ := h
  obtain ⟨m, hn, hl⟩ := I.loc
  obtain ⟨u, r, l⟩ := hl i x v hN e hv
  have fin : EP X pins σ Q u s := ⟨v, H, I, r, h⟩
  rcases l with ⟨hk, hm⟩ | ⟨hk, c, hc, hcell⟩
  · exact wpAny_Name (wpAny_loadName_local I.ok.kind hk hn hm fin) hd
  · rcases hk with hk | hk
    · exact wpAny_Name (wpAny_loadName_cell I.ok.kind hk hc hcell fin) hd
    · exact wpAny_Name (wpAny_loadName_free I.ok.kind hk hc hcell fin hcd) hd
theorem pe_int {i j pos} : PE X (.Constant (.int i) j pos) (tC (.int i)) := fun _ _ _ H _ I h => wpAny_Constant_int ⟨.int i, H, I.tok _, ⟨_, rfl⟩, h⟩
theorem pe_bl {b j pos} : PE X (.Constant (.bool b) j pos) (tC (.bl b)) := fun _ _ _ H _ I h => Constant_bool ⟨.bl b, H, I, rfl, h⟩
theorem pe_non {j pos} : PE X (.Constant .none j pos) (tC .non) := fun _ _ _ H _ I h => Constant_none ⟨.non, H, I, rfl, h⟩
theorem pe_str {x j pos} : PE X (.Constant (.str x) j pos) (tC (.str x)) := fun _ _ _ H _ I h => Calls.Constant_str ⟨.str x, H, I.tok _, ⟨_, rfl⟩, h⟩

/-- a global name of the def -/
def Gl (X : Cx) (x : Str) : Prop := X.env.kindOf x = some .globalImplicit
theorem ld_glob {E : Value → Shared → Prop} {pins : List (Addr × Obj)} {s : Shared} {σ : St} {H : Hp} {x : Str} {u : Value} {pos : Pos} {Q : Value → Shared → Prop} (I : Inv X pins σ H s) (hg : Gl X x) (hm : X.mg x = some u) (h : Q u s)
    (hd : (x == ("__debug__" : Str)) = false := by decide) : wpAny (model X.prog X.w) X.A (eval (.Name x pos) X.env) Q E s :=
  Calls.Name_function_global I.ok.kind hg (Calls.loadGlobal_global (by rw [I.ok.glob]; exact I.mod.glob.keeps I.bk) hm h) hd
theorem ld_blt {E : Value → Shared → Prop} {pins : List (Addr × Obj)} {s : Shared} {σ : St} {H : Hp} {x : Str} {u : Value} {pos : Pos} {Q : Value → Shared → Prop} (I : Inv X pins σ H s) (hg : Gl X x) (hm : X.mg x = none) (hv : bootBuiltins x = some u) (h : Q u s)
    (hn : x ≠ "__name__" := by decide) (hd : (x == ("__debug__" : Str)) = false := by decide) : wpAny (model X.prog X.w) X.A (eval (.Name x pos) X.env) Q E s := by
  obtain ⟨mb, h1, h2⟩ := I.mod.blt
  exact Calls.Name_function_global I.ok.kind hg (Calls.loadGlobal_builtin (by rw [I.ok.glob]; exact I.mod.glob.keeps I.bk) hm (by rw [I.ok.blt]; exact h1.keeps I.bk) ((h2 x hn).trans hv) h) hd
/-- a module's constant, a class, a function, as a value -/
theorem pe_glob {x : Str} {v : V} {u : Value} {pos : Pos} (hg : Gl X x) (hm : X.mg x = some u) (r : RelV v u) (hd : (x == ("__debug__" : Str)) = false := by decide) : PE X (.Name x pos) (tC v) :=
  fun _ _ _ H _ I h => ld_glob I hg hm ⟨v, H, I, r, h⟩ hd
theorem pe_bltn {x : Str} {v : V} {u : Value} {pos : Pos} (hg : Gl X x) (hm : X.mg x = none) (hv : bootBuiltins x = some u) (r : RelV v u) (hn : x ≠ "__name__" := by decide) (hd : (x == ("__debug__" : Str)) = false := by decide) : PE X (.Name x pos) (tC v) :=
  fun _ _ _ H _ I h => ld_blt I hg hm hv ⟨v, H, I, r, h⟩ hn hd

/-! ### arithmetic -/
/-- two ints -/
def t2I (ta tb : TE) (k : Int → Int → Hp → Prop) : St → Hp → Prop := fun σ H => ta σ H fun x H1 => tb σ H1 fun y H2 => ∃ i j, x = .int i ∧ y = .int j ∧ k i j H2
def tAdd (ta tb : TE) : TE := fun σ H Q => t2I ta tb (fun i j H2 => Q (.int (i + j)) H2) σ H
def tSub (ta tb : TE) : TE := fun σ H Q => t2I ta tb (fun i j H2 => Q (.int (i - j)) H2) σ H
/-- the left factor below 2^64 -/
def tMul (ta tb : TE) : TE := fun σ H Q => t2I ta tb (fun i j H2 => (-(2 ^ 64) < i ∧ i < 2 ^ 64) ∧ Q (.int (i * j)) H2) σ H
variable {a b : Expr} {ta tb : TE} {pos : Pos}
/-! ### comparisons -/
def PC (X : Cx) (op : CmpOp) (a b : Expr) (t : TE) : Prop :=
  ∀ (pins : List (Addr × Obj)) (s : Shared) (σ : St) (H : Hp) (Q : VK), Inv X pins σ H s → t σ H Q →
    wpAny (model X.prog X.w) X.A (eval a X.env) (fun v s₁ => wpAny (model X.prog X.w) X.A (eval b X.env) (fun u s₂ => wpAny (model X.prog X.w) X.A (compareOp op v u) (EP X pins σ Q) X.xe s₂) X.xe s₁) X.xe s
def tCmp (p : Int → Int → Bool) (ta tb : TE) : TE := fun σ H Q => t2I ta tb (fun i j H2 => Q (.bl (p i j)) H2) σ H
abbrev tLt : TE → TE → TE := tCmp fun i j => decide (i < j)
abbrev tLe : TE → TE → TE := tCmp fun i j => decide (i ≤ j)
abbrev tGt : TE → TE → TE := tCmp fun i j => decide (j < i)
abbrev tGe : TE → TE → TE := tCmp fun i j => decide (j ≤ i)
abbrev tEqI : TE → TE → TE := tCmp fun i j => decide (i = j)
abbrev tNeI : TE → TE → TE := tCmp fun i j => !decide (i = j)
/-- is None -/
def tIsN (ta : TE) : TE := fun σ H Q => ta σ H fun x H1 => Q (.bl (decide (x = .non))) H1
def tNotN (ta : TE) : TE := fun σ H Q => ta σ H fun x H1 => Q (.bl (!decide (x = .non))) H1
/-- a comparison as a value, as a test -/
def tB (t : TE) : TT := fun σ H Q => t σ H fun x H1 => ∃ c, x = .bl c ∧ Q c H1
/-- an expression whose value is a bool, as a test -/
theorem pt_val {e : Expr} {t : TE} (h : PE X e t) (he : ∀ whole, isTrue e X.env whole = (do let v ← whole; standAt e.pos; holding [v] (truthy v)) := by intro _; rfl) : PT X e (tB t) := by
  intro pins s σ H Q I hw
  refine isTrue_plain (thn (h pins s σ H _ I hw) fun v s1 ⟨x, H1, I1, r1, q1⟩ => ?_) (he _)
  obtain ⟨d, rfl, q⟩ := q1
  cases r1
  exact wpAny_truthy_bool ⟨H1, I1, q⟩

/-! ### and, or, not -/
variable {tA tB' : TT} {rest : List Expr}
def tAnd (t u : TT) : TT := fun σ H Q => t σ H fun c H1 => if c = true then u σ H1 Q else Q false H1
def tOr (t u : TT) : TT := fun σ H Q => t σ H fun c H1 => if c = true then Q true H1 else u σ H1 Q
def tNot (t : TT) : TT := fun σ H Q => t σ H fun c H1 => Q (!c) H1
theorem pw_and1 (ha : PT X a tA) : PW X (.BoolOp .And [a] pos) tA := by
  intro wh pins s σ H Q I h
  refine isTrue_and (thn (ha pins s σ H Q I h) fun c s1 e => ?_)
  cases c with
  | true => exact isTrue_and_nil e
  | false => exact e
theorem pw_or1 (ha : PT X a tA) : PW X (.BoolOp .Or [a] pos) tA := by
  intro wh pins s σ H Q I h
  refine isTrue_or (thn (ha pins s σ H Q I h) fun c s1 e => ?_)
  cases c with
  | false => exact isTrue_or_nil e
  | true => exact e
theorem pw_and (ha : PT X a tA) (hb : PW X (.BoolOp .And (b :: rest) pos) tB') : PW X (.BoolOp .And (a :: b :: rest) pos) (tAnd tA tB') := by
  intro wh pins s σ H Q I h
  refine isTrue_and (thn (ha pins s σ H _ I h) fun c s1 ⟨H1, I1, q1⟩ => ?_)
  cases c with
  | true => exact hb wh pins s1 σ H1 Q I1 q1
  | false => exact ⟨H1, I1, q1⟩
theorem pw_or (ha : PT X a tA) (hb : PW X (.BoolOp .Or (b :: rest) pos) tB') : PW X (.BoolOp .Or (a :: b :: rest) pos) (tOr tA tB') := by
  intro wh pins s σ H Q I h
  refine isTrue_or (thn (ha pins s σ H _ I h) fun c s1 ⟨H1, I1, q1⟩ => ?_)
  cases c with
  | true => exact ⟨H1, I1, q1⟩
  | false => exact hb wh pins s1 σ H1 Q I1 q1
theorem pt_not (ha : PT X a tA) : PT X (.UnaryOp .Not a pos) (tNot tA) := by
  intro pins s σ H Q I h
  exact isTrue_not (ha pins s σ H (fun c H1 => Q (!c) H1) I h)
/-- .. as values (bools) -/
def tAndV (ta tb : TE) : TE := fun σ H Q => ta σ H fun x H1 => ∃ c, x = .bl c ∧ if c = true then tb σ H1 Q else Q (.bl false) H1
def tOrV (ta tb : TE) : TE := fun σ H Q => ta σ H fun x H1 => ∃ c, x = .bl c ∧ if c = true then Q (.bl true) H1 else tb σ H1 Q
def tNotV (ta : TE) : TE := fun σ H Q => ta σ H fun x H1 => ∃ c, x = .bl c ∧ Q (.bl (!c)) H1
theorem pe_one {op} {t : TE} (h : PE X a t) : PE X (.BoolOp op [a] pos) t := fun pins s σ H Q I hw => BoolOp_one (h pins s σ H Q I hw)
theorem pe_and (ha : PE X a ta) (hb : PE X (.BoolOp .And (b :: rest) pos) tb) : PE X (.BoolOp .And (a :: b :: rest) pos) (tAndV ta tb) := by
  intro pins s σ H Q I h
  refine BoolOp_and (thn (ha pins s σ H _ I h) fun v s1 ⟨x, H1, I1, r1, q1⟩ => ?_)
  obtain ⟨c, rfl, q1⟩ := q1
  cases r1
  refine wpAny_truthy_bool ?_
  cases c with
  | true => exact hb pins s1 σ H1 Q I1 q1
  | false => exact ⟨.bl false, H1, I1, rfl, q1⟩
/-- a if t else b -/
def tIf (t : TT) (ta tb : TE) : TE := fun σ H Q => t σ H fun c H1 => if c = true then ta σ H1 Q else tb σ H1 Q
theorem pe_ifExp {c : Expr} (hc : PT X c tA) (ha : PE X a ta) (hb : PE X b tb) : PE X (.IfExp c a b pos) (tIf tA ta tb) := by
  intro pins s σ H Q I h
  refine wpAny_IfExp (thn (hc pins s σ H _ I h) fun d s1 ⟨H1, I1, q1⟩ => ?_)
  cases d with
  | true => exact ha pins s1 σ H1 Q I1 q1
  | false => exact hb pins s1 σ H1 Q I1 q1
end
end L2

namespace L2
open PySem PySem.Spec PyProof.Rows

/-! ### a list, a tuple that is read: tracked, frozen, or an object of the module -/
def SqL (K : PySem.W.Frag) (H : Hp) (a : Addr) (xs : List V) : Prop :=
  Rd H a (.lst xs) ∨
    ∃ (o : Obj) (its : Array Value) (n : Nat), K.lookup a = some o ∧ o.cls = .type "list" ∧ o.dict = none ∧ o.data = .seq its n ∧ its.size ≤ sizeLine ∧ Vals xs its.toList
def SqT (K : PySem.W.Frag) (H : Hp) (a : Addr) (xs : List V) : Prop :=
  Rd H a (.tup xs) ∨
    ∃ (o : Obj) (its : Array Value) (n : Nat), K.lookup a = some o ∧ o.cls = .type "tuple" ∧ o.data = .seq its n ∧ its.size ≤ sizeLine ∧ Vals xs its.toList
def absV : Value → Option V
  | .none => some .non
  | .bool b => some (.bl b)
  | .int i _ => some (.int i)
  | .str x _ => some (.str x)
  | .bytes b _ => some (.byt b)
  | .float b _ => some (.flt b)
  | .ref a => some (.ref a)
  | .type n => some (.ty n)
  | _ => none
theorem RelV.abs {x : V} {u : Value} (r : RelV x u) : absV u = some x := by
  cases x with
  | non => cases r; rfl
  | bl _ => cases r; rfl
  | int _ => obtain ⟨t, rfl⟩ := r; rfl
  | str _ => obtain ⟨t, rfl⟩ := r; rfl
  | byt _ => obtain ⟨t, rfl⟩ := r; rfl
  | flt _ => obtain ⟨t, rfl⟩ := r; rfl
  | ref _ => cases r; rfl
  | ty _ => cases r; rfl
theorem RelV.inj {x y : V} {u : Value} (r : RelV x u) (q : RelV y u) : x = y := Option.some.inj (r.abs.symm.trans q.abs)
theorem Vals.inj : ∀ {xs ys : List V} {us : List Value}, Vals xs us → Vals ys us → xs = ys
  | _, _, _, .nil, .nil => rfl
  | _, _, _, .cons r t, .cons r' t' => by rw [r.inj r', Vals.inj t t']
section
variable {X : Cx} {pins : List (Addr × Obj)} {σ : St} {H : Hp} {s : Shared} {a : Addr} {xs ys : List V}
theorem SqL.of {K : PySem.W.Frag} (h : H a = some (.lst xs)) : SqL K H a xs := .inl (.inl h)
theorem SqT.of {K : PySem.W.Frag} (h : H a = some (.tup xs)) : SqT K H a xs := .inl (.inl h)
theorem Inv.list (I : Inv X pins σ H s) (h : SqL X.K H a xs) : ∃ its : List Value, Vals xs its ∧ PlainL s.heap a its.toArray ∧ xs.length ≤ sizeLine := by
  rcases h with h | ⟨o, its, n, hk, hc, hd, hs, hz, r⟩
  · obtain ⟨z, its, n, r, e⟩ := h.ok I.hok
    exact ⟨its, r, ⟨_, n, e, rfl, rfl, rfl⟩, z⟩
  · refine ⟨its.toList, r, ⟨o, n, I.kIn a o hk, hc, hd, by simpa using hs⟩, ?_⟩
    have e := r.length
    simp only [Array.length_toList] at e
    omega
theorem Inv.tuple (I : Inv X pins σ H s) (h : SqT X.K H a xs) : ∃ its : List Value, Vals xs its ∧ IsTup s.heap a its.toArray ∧ xs.length ≤ sizeLine := by
  rcases h with h | ⟨o, its, n, hk, hc, hs, hz, r⟩
  · obtain ⟨z, its, r, p⟩ := h.ok I.hok
    exact ⟨its, r, p, z⟩
  · refine ⟨its.toList, r, ⟨o, I.kIn a o hk, hc, n, by simpa using hs⟩, ?_⟩
    have e := r.length
    simp only [Array.length_toList] at e
    omega
theorem Inv.list_inj (I : Inv X pins σ H s) (h : SqL X.K H a xs) (h' : SqL X.K H a ys) : xs = ys := by
  obtain ⟨its, r, ⟨o, n, e, _, _, d⟩, _⟩ := I.list h
  obtain ⟨its', r', ⟨o', n', e', _, _, d'⟩, _⟩ := I.list h'
  rw [e] at e'; cases e'
  rw [d] at d'
  injection d' with d1 _
  have : its = its' := by simpa using congrArg Array.toList d1
  subst this
  exact r.inj r'
theorem Inv.tuple_inj (I : Inv X pins σ H s) (h : SqT X.K H a xs) (h' : SqT X.K H a ys) : xs = ys := by
  obtain ⟨its, r, ⟨o, e, _, n, d⟩, _⟩ := I.tuple h
  obtain ⟨its', r', ⟨o', e', _, n', d'⟩, _⟩ := I.tuple h'
  rw [e] at e'; cases e'
  rw [d] at d'
  injection d' with d1 _
  have : its = its' := by simpa using congrArg Array.toList d1
  subst this
  exact r.inj r'
end

/-! ### another wish about exceptions -/
abbrev Cx.wish (X : Cx) (E : Value → Shared → Prop) : Cx := { X with xe := E }
/-- no exception leaves -/
abbrev Cx.nox (X : Cx) : Cx := X.wish fun _ _ => False
theorem Cx.Ok.wish {X : Cx} (ok : X.Ok) (E : Value → Shared → Prop) : (X.wish E).Ok :=
  ⟨ok.mod, ok.kind, ok.glob, ok.blt, ok.above, ok.inj, ok.has, ok.cab, ok.hd, ok.frames, ok.stk, ok.exf, ok.bs, ok.bsz, ok.noex, ok.exfs, ok.funs, ok.frf⟩
theorem Cx.Ok.unwish {X : Cx} {E : Value → Shared → Prop} (ok : (X.wish E).Ok) : X.Ok :=
  ⟨ok.mod, ok.kind, ok.glob, ok.blt, ok.above, ok.inj, ok.has, ok.cab, ok.hd, ok.frames, ok.stk, ok.exf, ok.bs, ok.bsz, ok.noex, ok.exfs, ok.funs, ok.frf⟩
section
variable {X : Cx} {pins : List (Addr × Obj)} {σ : St} {H : Hp} {s : Shared} {E : Value → Shared → Prop}
theorem Inv.wish (I : Inv X pins σ H s) (E : Value → Shared → Prop) : Inv (X.wish E) pins σ H s := ⟨I.ok.wish E, I.os, I.bare, I.base, I.loc, I.cell, I.free, I.freeC, I.pin, I.hok, I.len⟩
theorem Inv.unwish (I : Inv (X.wish E) pins σ H s) : Inv X pins σ H s := ⟨I.ok.unwish, I.os, I.bare, I.base, I.loc, I.cell, I.free, I.freeC, I.pin, I.hok, I.len⟩
theorem SP.unwish {D : Ends} {f : Flow} {s' : Shared} (h : SP (X.wish E) pins D f s') : SP X pins D f s' := by
  cases f with
  | next => obtain ⟨σ', H', I, q⟩ := h; exact ⟨σ', H', I.unwish, q⟩
  | brk => obtain ⟨σ', H', I, q⟩ := h; exact ⟨σ', H', I.unwish, q⟩
  | cont => obtain ⟨σ', H', I, q⟩ := h; exact ⟨σ', H', I.unwish, q⟩
  | ret u => obtain ⟨v, σ', H', I, r, q⟩ := h; exact ⟨v, σ', H', I.unwish, r, q⟩
theorem PSs.nox {st : List Stmt} {t : TS} (h : PSs X.nox st t) : PSs X st t := fun pins s σ H D I hw =>
  wpAny_mono (h pins s σ H D (I.wish _) hw) (fun _ _ q => q.unwish) fun _ _ z => False.elim z
end

/-! ### blocks and small statements -/
section
variable {X : Cx} {st : Stmt} {rest : List Stmt} {t u : TS} {e : Expr} {te : TE} {pos : Pos}
def tNext : TS := fun D σ H => D.nx σ H
def tSeq (t u : TS) : TS := fun D σ H => t { D with nx := u D } σ H
theorem pss_nil : PSs X [] tNext := fun _ _ σ H _ I h => wpAny_execs_nil ⟨σ, H, I, h⟩
theorem pss_cons (h1 : PS X st t) (h2 : PSs X rest u) : PSs X (st :: rest) (tSeq t u) := by
  intro pins s σ H D I h
  refine wpAny_execs_cons (thn (h1 pins s σ H { D with nx := u D } I h) fun f s1 q => ?_)
  cases f with
  | next =>
    obtain ⟨σ', H', I', q⟩ := q
    exact h2 pins s1 σ' H' D I' q
  | ret v => exact q
  | brk => exact q
  | cont => exact q
theorem pss_one (h1 : PS X st t) : PSs X [st] t := by
  intro pins s σ H D I h
  refine wpAny_execs_cons (thn (h1 pins s σ H D I h) fun f s1 q => ?_)
  cases f with
  | next => exact wpAny_execs_nil q
  | ret v => exact q
  | brk => exact q
  | cont => exact q
def tBreak : TS := fun D σ H => D.bk σ H
def tCont : TS := fun D σ H => D.ct σ H
/-- in a def's body nothing is shown -/
theorem Inv.quiet {pins : List (Addr × Obj)} {σ : St} {H : Hp} {s : Shared} (I : Inv X pins σ H s) : interactive X.env = false := by simp [interactive, I.ok.kind]
/-- an expression whose value is dropped -/
def tDrop (te : TE) : TS := fun D σ H => te σ H fun _ H1 => D.nx σ H1
theorem ps_expr (he : PE X e te) (hs : swapsWith e none pos.line X.env = pure false := by rfl) : PS X (.Expr e pos) (tDrop te) := by
  intro pins s σ H D I h
  exact wpAny_Expr_any (thn (he pins s σ H _ I h) fun v s1 ⟨x, H1, I1, r1, q1⟩ => ⟨σ, H1, I1, q1⟩) I.quiet hs
def tRet (te : TE) : TS := fun D σ H => te σ H D.rt
theorem ps_ret (he : PE X e te) : PS X (.Return (some e) pos) (tRet te) := by
  intro pins s σ H D I h
  exact wpAny_Return_some (thn (he pins s σ H _ I h) fun v s1 ⟨x, H1, I1, r1, q1⟩ => ⟨x, σ, H1, I1, r1, q1⟩)
def tRetN : TS := fun D _ H => D.rt .non H
def tIfS (c : TT) (t u : TS) : TS := fun D σ H => c σ H fun b H1 => if b = true then t D σ H1 else u D σ H1
theorem ps_if {c : Expr} {a b : List Stmt} {tc : TT} (hc : PT X c tc) (ha : PSs X a t) (hb : PSs X b u) : PS X (.If c a b pos) (tIfS tc t u) := by
  intro pins s σ H D I h
  refine wpAny_If (thn (hc pins s σ H _ I h) fun d s1 ⟨H1, I1, q1⟩ => ?_)
  cases d with
  | true => exact ha pins s1 σ H1 D I1 q1
  | false => exact hb pins s1 σ H1 D I1 q1
/-- code that the proof never comes to -/
def tNever : TS := fun _ _ _ => False
end

/-! ### targets -/
abbrev TG := V → St → Hp → (St → Hp → Prop) → Prop
abbrev TGs := List V → St → Hp → (St → Hp → Prop) → Prop
def PG (X : Cx) (target : Expr) (t : TG) : Prop :=
  ∀ (pins : List (Addr × Obj)) (s : Shared) (σ : St) (H : Hp) (v : V) (u : Value) (Q : St → Hp → Prop), Inv X pins σ H s → RelV v u → t v σ H Q →
    wpAny (model X.prog X.w) X.A (assign target X.env u) (fun _ s' => ∃ σ' H', Inv X pins σ' H' s' ∧ Q σ' H') X.xe s
/-- several targets, one after another -/
def PGs (X : Cx) (ts : List Expr) (t : TGs) : Prop :=
  ∀ (pins : List (Addr × Obj)) (s : Shared) (σ : St) (H : Hp) (vs : List V) (us : List Value) (Q : St → Hp → Prop), Inv X pins σ H s → Vals vs us → t vs σ H Q →
    wpAny (model X.prog X.w) X.A (assignInOrder ((assignEach ts X.env).map (·.2)) us) (fun _ s' => ∃ σ' H', Inv X pins σ' H' s' ∧ Q σ' H') X.xe s
/-- o[i] = v, by values -/
abbrev TSet := V → V → V → Hp → (Hp → Prop) → Prop
def PSet (X : Cx) (t : TSet) : Prop :=
  ∀ (pins : List (Addr × Obj)) (s : Shared) (σ : St) (H : Hp) (o i v : V) (ov iv u : Value) (Q : Hp → Prop), Inv X pins σ H s → RelV o ov → RelV i iv → RelV v u → t o i v H Q →
    wpAny (model X.prog X.w) X.A (setItem ov iv u) (fun _ s' => ∃ H', Inv X pins σ H' s' ∧ Q H') X.xe s
/-- a op= b, by values -/
abbrev TIp := V → V → Hp → VK → Prop
def PIp (X : Cx) (op : Operator) (t : TIp) : Prop :=
  ∀ (pins : List (Addr × Obj)) (s : Shared) (σ : St) (H : Hp) (x y : V) (v u : Value) (Q : VK), Inv X pins σ H s → RelV x v → RelV y u → t x y H Q →
    wpAny (model X.prog X.w) X.A (inplaceOp op v u) (EP X pins σ Q) X.xe s
section
variable {X : Cx} {pos : Pos}
def gName (i : Nat) : TG := fun v σ H Q => Q (σ.set i (some v)) H
theorem pg_name {i : Nat} {x : Str} (hN : X.N.Nodup) (hi : X.N[i]? = some x) (hx : Loc X.env.scope x) (hf : X.fn x = true ∨ X.env.scope.names.lookup x = some .local := by first | exact .inl rfl | exact .inr rfl | assumption) : PG X (.Name x pos) (gName i) := by
  intro pins s σ H v u Q I r h
  exact wpAny_assign_Name (store_ok I hN hi hx r (fun s' I' => ⟨_, H, I', h⟩) hf)
def gNil : TGs := fun vs σ H Q => vs = [] ∧ Q σ H
def gCons (t : TG) (u : TGs) : TGs := fun vs σ H Q => ∃ v r, vs = v :: r ∧ t v σ H fun σ' H' => u r σ' H' Q
theorem pgs_nil : PGs X [] gNil := by
  intro pins s σ H vs us Q I r h
  obtain ⟨e, h⟩ := h
  subst e
  cases r
  exact assignInOrder_nil ⟨σ, H, I, h⟩
theorem pgs_cons {e : Expr} {es : List Expr} {t : TG} {u : TGs} (h1 : PG X e t) (h2 : PGs X es u)
    (hs : (assignEach (e :: es) X.env).map (·.2) = assign e X.env :: (assignEach es X.env).map (·.2) := by rfl) : PGs X (e :: es) (gCons t u) := by
  intro pins s σ H vs us Q I r h
  obtain ⟨v, vr, e1, h⟩ := h
  subst e1
  cases r with
  | cons r rr =>
    rw [hs]
    refine assignInOrder_cons (thn (h1 pins s σ H _ _ _ I r h) fun _ s1 ⟨σ1, H1, I1, q1⟩ => ?_)
    exact h2 pins s1 σ1 H1 _ _ Q I1 rr q1
/-- (a, b, ..) = a tuple of that length -/
def gTup (K : PySem.W.Frag) (n : Nat) (t : TGs) : TG := fun v σ H Q => ∃ a xs, v = .ref a ∧ SqT K H a xs ∧ xs.length = n ∧ t xs σ H Q
theorem pg_tup {es : List Expr} {k : Nat} {t : TGs} {n : Nat} (hc : X.calm = true) (h : PGs X es t)
    (hn : (assignEach es X.env).length = n := by rfl) (hst : (assignEach es X.env).findIdx? (·.1) = none := by rfl) : PG X (.Tuple es k pos) (gTup X.K n t) := by
  intro pins s σ H v u Q I r hw
  obtain ⟨a, xs, e1, hq, hl, hw⟩ := hw
  subst e1
  cases r
  obtain ⟨its, rv, ht, hz⟩ := I.tuple hq
  refine assign_Tuple_tuple (I.ok.hd hc) ht (by simp [hn, ← hl, rv.length]) hst fun h' hx => ?_
  have I1 : Inv X pins σ H { s with heap := h' } := I.kept (t' := s.toks) fun b o e => hx b o (Nat.ne_of_lt (Heap.lt_size e)) e
  exact h pins _ σ H xs _ Q I1 (by simpa using rv) hw
/-- o[i] = .. -/
def gSub (to ti : TE) (t : TSet) : TG := fun v σ H Q => to σ H fun o H1 => ti σ H1 fun i H2 => t o i v H2 fun H3 => Q σ H3
theorem pg_sub {o i : Expr} {to ti : TE} {t : TSet} (ho : PE X o to) (hi : PE X i ti) (hs : PSet X t)
    (ha : ∀ v, assign (.Subscript o i pos) X.env v = (do
      let ov ← holding [v] (eval o X.env)
      let iv ← holding [v, ov] (eval i X.env)
      standAt pos
      holding [v, ov, iv] (setItem ov iv v)
      release [v, ov, iv] []) := by intro _; rfl) : PG X (.Subscript o i pos) (gSub to ti t) := by
  intro pins s σ H v u Q I r h
  rw [ha]
  refine wpAny_bind (wpAny_holding (thn (ho pins s σ H _ I h) fun ov s1 ⟨x, H1, I1, r1, q1⟩ => ?_))
  refine wpAny_bind (wpAny_holding (thn (hi pins s1 σ H1 _ I1 q1) fun iv s2 ⟨y, H2, I2, r2, q2⟩ => ?_))
  refine wpAny_bind (wpAny_standAt (wpAny_bind (wpAny_holding (thn (hs pins s2 σ H2 x y v ov iv u _ I2 r1 r2 r q2) fun _ s3 ⟨H3, I3, q3⟩ => ?_))))
  exact wpAny_release ⟨σ, H3, I3, q3⟩
/-- target = value -/
def tAsg (te : TE) (g : TG) : TS := fun D σ H => te σ H fun x H1 => g x σ H1 D.nx
theorem ps_asg {tg e : Expr} {te : TE} {g : TG} (he : PE X e te) (hg : PG X tg g) (hs : swapsWithSole [tg] e pos.line X.env = pure false := by rfl) (hw : swappedStores [tg] e X.env = pure none := by rfl)
    (h1 : (assignEach [tg] X.env).map (·.2) = [assign tg X.env] := by rfl) : PS X (.Assign [tg] e pos) (tAsg te g) := by
  intro pins s σ H D I h
  refine wpAny_Assign_stores (thn (he pins s σ H _ I h) fun v s1 ⟨x, H1, I1, r1, q1⟩ => ?_) hs hw
  rw [h1]
  exact thn (hg pins s1 σ H1 x v _ I1 r1 q1) fun _ s2 q => q
/-- name = value -/
theorem ps_set {i : Nat} {x : Str} {e : Expr} {te : TE} {pos' : Pos} (hN : X.N.Nodup) (hi : X.N[i]? = some x) (hx : Loc X.env.scope x) (he : PE X e te) (hs : swapsWith e (some (.Name x pos')) pos.line X.env = pure false := by rfl) (hf : X.fn x = true ∨ X.env.scope.names.lookup x = some .local := by first | exact .inl rfl | exact .inr rfl | assumption) :
    PS X (.Assign [.Name x pos'] e pos) (tAsg te (gName i)) := by
  intro pins s σ H D I h
  refine wpAny_Assign_Name (thn (he pins s σ H _ I h) fun v s1 ⟨y, H1, I1, r1, q1⟩ => ?_) hs
  exact store_ok I1 hN hi hx r1 (fun s2 I2 => ⟨_, H1, I2, q1⟩) hf
/-- a, b = x, y with plain local names: stored from the right; the pair itself is not tracked (the opening rows as in PyProof/Rows/TupAssign.lean:23) -/
def tPar (i j : Nat) (ta : TA) : TS := fun D σ H => ta σ H fun vs H1 => ∃ v w, vs = [v, w] ∧ D.nx ((σ.set i (some v)).set j (some w)) H1
/-- name op= e -/
def tAug (i : Nat) (te : TE) (ti : TIp) : TS := fun D σ H => ∃ x, σ[i]? = some (some x) ∧ te σ H fun y H1 => ti x y H1 fun z H2 => D.nx (σ.set i (some z)) H2
/-- o[i] op= e -/
def tAugS (to ti te : TE) (tget : V → V → Hp → VK → Prop) (tip : TIp) (tset : TSet) : TS := fun D σ H => to σ H fun o H1 => ti σ H1 fun i H2 => tget o i H2 fun x H3 => te σ H3 fun y H4 => tip x y H4 fun z H5 => tset o i z H5 fun H6 => D.nx σ H6
/-- o[i], by values -/
def PGet (X : Cx) (t : V → V → Hp → VK → Prop) : Prop :=
  ∀ (pins : List (Addr × Obj)) (s : Shared) (σ : St) (H : Hp) (o i : V) (ov iv : Value) (Q : VK), Inv X pins σ H s → RelV o ov → RelV i iv → t o i H Q →
    wpAny (model X.prog X.w) X.A (getItem ov iv) (EP X pins σ Q) X.xe s
/-- ints -/
def ipI (f : Int → Int → Int) : TIp := fun x y H Q => ∃ i j, x = .int i ∧ y = .int j ∧ Q (.int (f i j)) H
end

/-! ### while -/
section
variable {X : Cx} {pos : Pos}
/-- the invariant W with its measure -/
def tWhile (c : TT) (tb : TS) : TS := fun D σ H => ∃ W : Nat → St → Hp → Prop, (∃ m, W m σ H) ∧ ∀ m σ H, W m σ H →
  c σ H fun b H1 => if b = true then ∃ N : St → Hp → Prop, (∀ σ' H', N σ' H' → ∃ m', m' < m ∧ W m' σ' H') ∧ tb { D with nx := N, ct := N, bk := D.nx } σ H1 else D.nx σ H1
theorem ps_while {c : Expr} {body : List Stmt} {tc : TT} {tb : TS} (hp : PassesOwn (model X.prog X.w) X.A X.env X.xe) (hc : PT X c tc) (hb : PSs X body tb) : PS X (.While c body [] pos) (tWhile tc tb) := by
  intro pins s σ H D I h
  obtain ⟨W, ⟨m0, w0⟩, turn⟩ := h
  refine wpAny_While (codeAny_whileLoop (fun n s' => ∃ σ' H', Inv X pins σ' H' s' ∧ W n σ' H') ?_ m0 ⟨σ, H, I, w0⟩)
  rintro n s1 ⟨σ1, H1, I1, w1⟩
  refine wpAny_passesOwn hp (thn (hc pins s1 σ1 H1 _ I1 (turn n σ1 H1 w1)) fun b s2 ⟨H2, I2, q2⟩ => ?_)
  cases b with
  | true =>
    obtain ⟨N, hN, q2⟩ := q2
    rw [if_pos rfl]
    refine wpAny_passesOwn hp (thn (hb pins s2 σ1 H2 _ I2 q2) fun f s3 q3 => ?_)
    cases f with
    | next =>
      obtain ⟨σ3, H3, I3, n3⟩ := q3
      obtain ⟨m', hm, w3⟩ := hN σ3 H3 n3
      exact ⟨m', hm, σ3, H3, I3, w3⟩
    | cont =>
      obtain ⟨σ3, H3, I3, n3⟩ := q3
      obtain ⟨m', hm, w3⟩ := hN σ3 H3 n3
      exact ⟨m', hm, σ3, H3, I3, w3⟩
    | brk => exact q3
    | ret v => exact q3
  | false =>
    rw [if_neg Bool.false_ne_true]
    exact wpAny_execs_nil ⟨σ1, H2, I2, q2⟩
end

/-! ### what a loop or a comprehension walks -/
/-- at turn i: it yields x (the heap may grow), or it stops -/
structure It where
  go : Nat → Hp → Prop
  yld : Nat → Hp → V → Hp → Prop
  stop : Nat → Hp → Prop
/-- the iterator's own objects may turn: they are not the frame's, not pinned, younger than the entry (or a comprehension's own) -/
def FpOk (X : Cx) (pins : List (Addr × Obj)) (H : Hp) (b : Addr) : Prop :=
  H b = none ∧ b ≠ X.env.locals ∧ b ∉ X.fs ∧ (b ∈ X.ex ∨ X.s₀.heap.objs.size ≤ b) ∧ (∀ x c, X.env.cells.lookup x = some c → c ≠ b) ∧ ∀ p ∈ X.pn ++ pins, p.1 ≠ b
theorem Inv.fpOk {X : Cx} {pins : List (Addr × Obj)} {σ : St} {H H' : Hp} {s : Shared} {b : Addr} (I : Inv X pins σ H s) (hb : s.heap.objs.size ≤ b) (hn : H' b = none) : FpOk X pins H' b := by
  refine ⟨hn, Nat.ne_of_gt (Nat.lt_of_lt_of_le I.lt hb), I.nofs hb, .inr (Nat.le_trans I.sz hb), fun x c e z => ?_, fun p hp z => ?_⟩
  · obtain ⟨v, q⟩ := I.cell x c e
    exact absurd (Nat.lt_of_lt_of_le q.lt (by rw [z]; exact hb)) (Nat.lt_irrefl _)
  · exact absurd (Nat.lt_of_lt_of_le (Heap.lt_size (I.pin p hp).1) (by rw [z]; exact hb)) (Nat.lt_irrefl _)
structure Turn (P : Program) (w : World) (K : PySem.W.Frag) (tg : Expr) (J : It) (fp : List Addr) (it : Addr) (tn : Nat → Heap → Prop) : Prop where
  mem : it ∈ fp
  obj : ∀ i h, tn i h → ∀ b ∈ fp, ∃ o, h.get? b = some o ∧ ∀ v, o.data ≠ .cell v
  keep : ∀ i h h', tn i h → (∀ b ∈ fp, ∀ o, h.get? b = some o → h'.get? b = some o) → tn i h'
  item : ∀ (X : Cx), X.prog = P → X.w = w → X.K = K → X.calm = true → ∀ (i : Nat) (pins : List (Addr × Obj)) (s : Shared) (σ : St) (H : Hp) (E : Value → Shared → Prop), Inv X pins σ H s → (∀ b ∈ fp, FpOk X pins H b) → tn i s.heap → J.go i H →
    wpAny (model P w) X.A (pyNext (.ref it)) (fun r s1 => ∃ u, r = some u ∧
      wpAny (model P w) X.A (letOwnedTupleGo tg (.ref it) u) (fun _ s2 => ∃ x H', Inv X pins σ H' s2 ∧ RelV x u ∧ J.yld i H x H' ∧ tn (i + 1) s2.heap ∧ ∀ b ∈ fp, H' b = none) E s1) E s
  done : ∀ (X : Cx), X.prog = P → X.w = w → X.K = K → X.calm = true → ∀ (i : Nat) (pins : List (Addr × Obj)) (s : Shared) (σ : St) (H : Hp) (E : Value → Shared → Prop), Inv X pins σ H s → (∀ b ∈ fp, FpOk X pins H b) → tn i s.heap → J.stop i H →
    wpAny (model P w) X.A (pyNext (.ref it)) (fun r s1 => r = none ∧ Inv X pins σ H s1) E s
  self : ∀ (A : Around) (i : Nat) (s : Shared) (Q : Value → Shared → Prop) (E : Value → Shared → Prop), tn i s.heap → Q (.ref it) s → wpAny (model P w) A (pyIter (.ref it)) Q E s
abbrev TI := St → Hp → (It → Hp → Prop) → Prop
/-- an iterator has come -/
def PIE (X : Cx) (pins : List (Addr × Obj)) (σ : St) (tg : Expr) (R : It → Hp → Prop) (itv : Value) (s2 : Shared) : Prop :=
  ∃ (it : Addr) (fp : List Addr) (tn : Nat → Heap → Prop) (J : It) (H' : Hp), itv = .ref it ∧ Inv X pins σ H' s2 ∧ Turn X.prog X.w X.K tg J fp it tn ∧ tn 0 s2.heap ∧ (∀ b ∈ fp, FpOk X pins H' b) ∧ R J H'
def PI (X : Cx) (tg iter : Expr) (wi : TI) : Prop :=
  ∀ (pins : List (Addr × Obj)) (s : Shared) (σ : St) (H : Hp) (R : It → Hp → Prop), Inv X pins σ H s → wi σ H R →
    wpAny (model X.prog X.w) X.A (eval iter X.env) (fun v s1 => wpAny (model X.prog X.w) X.A (pyIter v) (PIE X pins σ tg R) X.xe s1) X.xe s

/-- the step ahead of the store is nothing for an iterator that keeps no tuple -/
theorem go_of {M : Model} {A : Around} {E : Value → Shared → Prop} {s : Shared} {tg : Expr} {it : Addr} {u : Value} {o : Obj} {n : String} {vs : Array Value} {Q : Unit → Shared → Prop} (ho : s.heap.get? it = some o) (hc : o.cls = .type n) (hd : o.data = .fields vs)
    (hn : ["enumerate", "zip", "dict_itemiterator", "dict_reverseitemiterator", "odict_iterator", "itertools.zip_longest", "itertools.pairwise"].contains n = false) (hQ : Q () s) : wpAny M A (letOwnedTupleGo tg (.ref it) u) Q E s := by
  unfold letOwnedTupleGo
  cases tg <;> first
    | exact wpAny_pure hQ
    | (cases u <;> first
        | exact wpAny_pure hQ
        | (refine wpAny_bind (wpAny_load ho ?_)
           rw [hc, hd]
           show wpAny M A (if (["enumerate", "zip", "dict_itemiterator", "dict_reverseitemiterator", "odict_iterator", "itertools.zip_longest", "itertools.pairwise"].contains n && vs[0]? == some (rawInt _)) = true then _ else _) Q E s
           rw [if_neg (by intro h; rw [hn, Bool.false_and] at h; cases h)]
           exact wpAny_pure hQ))

/-- the list at a, as it stands at each turn (a loop may append to it) -/
def Itl (K : PySem.W.Frag) (a : Addr) : It :=
  ⟨fun i H => ∃ xs x, SqL K H a xs ∧ xs[i]? = some x, fun i H x H' => H' = H ∧ ∀ xs, SqL K H a xs → xs[i]? = some x, fun i H => ∃ xs, SqL K H a xs ∧ xs.length ≤ i⟩
def Itt (K : PySem.W.Frag) (a : Addr) : It :=
  ⟨fun i H => ∃ xs x, SqT K H a xs ∧ xs[i]? = some x, fun i H x H' => H' = H ∧ ∀ xs, SqT K H a xs → xs[i]? = some x, fun i H => ∃ xs, SqT K H a xs ∧ xs.length ≤ i⟩
/-- lo, lo + 1, .. (n of them) -/
def Itr (lo : Int) (n : Nat) : It := ⟨fun i _ => i < n, fun i H x H' => H' = H ∧ x = .int (lo + i), fun i _ => n ≤ i⟩
theorem turn_list {P : Program} {w : World} {K : PySem.W.Frag} {tg : Expr} (a it : Addr) : Turn P w K tg (Itl K a) [it] it (fun i h => h.IsListIter it a i) where
  mem := by simp
  obj := fun i h st b hb => by
    have e : b = it := by simpa using hb
    subst e
    obtain ⟨o, e, c, d⟩ := st
    exact ⟨o, e, fun v z => by rw [d] at z; cases z⟩
  keep := fun i h h' st k => st.at fun o e => k it (by simp) o e
  item := by
    intro X hP hw hK hc i pins s σ H E I hf st hg
    subst hP hw hK
    obtain ⟨xs, x, hq, hx⟩ := hg
    obtain ⟨its, rv, p, hz⟩ := I.list hq
    obtain ⟨u, hu, ru⟩ := rv.get hx
    obtain ⟨f0, f1, f2, f3, f4, f5⟩ := hf it (by simp)
    refine wpAny_pyNext_list_item st p.isList (x := u) (by simpa using hu) fun h' st' sb => ?_
    have I1 : Inv X pins σ H { s with heap := h' } := I.turned (t' := s.toks) (fun b o hb e => (sb.2 b hb).trans e) f0 f1 f3 f4 f5
    obtain ⟨o, e, c, d⟩ := id st'
    exact ⟨u, rfl, go_of (s := { s with heap := h' }) e c d (by decide) ⟨x, H, I1, ru, ⟨rfl, fun ys hy => by rw [I.list_inj hy hq]; exact hx⟩, st', fun b hb => (hf b hb).1⟩⟩
  done := by
    intro X hP hw hK hc i pins s σ H E I hf st hg
    subst hP hw hK
    obtain ⟨xs, hq, hx⟩ := hg
    obtain ⟨its, rv, p, hz⟩ := I.list hq
    obtain ⟨f0, f1, f2, f3, f4, f5⟩ := hf it (by simp)
    have hl := rv.length
    exact wpAny_pyNext_list_end (I.ok.hd hc) st p.isList (by simp; omega) fun h' eb => ⟨rfl, I.turned (t' := s.toks) (fun b o hb e => eb b o hb e) f0 f1 f3 f4 f5⟩
  self := fun _ _ _ _ _ st h => wpAny_pyIter_listiter st h
theorem turn_range {P : Program} {w : World} {K : PySem.W.Frag} {tg : Expr} (it : Addr) (lo : Int) (n : Nat) : Turn P w K tg (Itr lo n) [it] it (fun i h => IsRangeIter h it (lo + (i : Nat) * 1) ((n : Int) - (i : Nat)) 1) where
  mem := by simp
  obj := fun i h st b hb => by
    have e : b = it := by simpa using hb
    subst e
    exact ⟨_, st, fun v z => by
      have z' : Data.fields _ = Data.cell v := z
      cases z'⟩
  keep := fun i h h' st k => k it (by simp) _ st
  item := by
    intro X hP hw hK hc i pins s σ H E I hf st hg
    subst hP hw hK
    obtain ⟨f0, f1, f2, f3, f4, f5⟩ := hf it (by simp)
    have W := Walks.range (prog := X.prog) (w := X.w) (I.ok.hd hc) it lo 1 n
    refine W.item i s _ _ hg st fun v h' tk hv st' kk => ?_
    obtain ⟨t, rfl⟩ := hv
    have I1 : Inv X pins σ H { s with heap := h', toks := tk } := I.turned (fun b o hb e => kk b o (by simpa using hb) e) f0 f1 f3 f4 f5
    refine ⟨_, rfl, go_of (s := { s with heap := h', toks := tk }) (n := "range_iterator") st' rfl rfl (by decide) ⟨.int (lo + i), H, I1, ⟨t, ?_⟩, ⟨rfl, rfl⟩, st', fun b hb => (hf b hb).1⟩⟩
    rw [Int.mul_one]
  done := by
    intro X hP hw hK hc i pins s σ H E I hf st hg
    subst hP hw hK
    obtain ⟨f0, f1, f2, f3, f4, f5⟩ := hf it (by simp)
    exact wpAny_pyNext_range_end (I.ok.hd hc) st (by have : n ≤ i := hg; omega) fun h' eb => ⟨rfl, I.turned (t' := s.toks) (fun b o hb e => eb b o hb e) f0 f1 f3 f4 f5⟩
  self := fun _ _ _ _ _ st h => wpAny_pyIter_rangeiter st h
end L2

namespace L2
open PySem PySem.Spec PyProof.Rows
section
variable {X : Cx} {tg : Expr}
def iList (K : PySem.W.Frag) (tl : TE) : TI := fun σ H R => tl σ H fun x H1 => ∃ a, x = .ref a ∧ (∃ xs, SqL K H1 a xs) ∧ R (Itl K a) H1
def iTup (K : PySem.W.Frag) (tl : TE) : TI := fun σ H R => tl σ H fun x H1 => ∃ a, x = .ref a ∧ (∃ xs, SqT K H1 a xs) ∧ R (Itt K a) H1
theorem pi_list {l : Expr} {tl : TE} (hl : PE X l tl) : PI X tg l (iList X.K tl) := by
  intro pins s σ H R I h
  refine thn (hl pins s σ H _ I h) fun v s1 ⟨x, H1, I1, r1, q1⟩ => ?_
  obtain ⟨a, e, ⟨xs, hq⟩, q⟩ := q1
  subst e
  cases r1
  obtain ⟨its, rv, p, hz⟩ := I1.list hq
  refine wpAny_pyIter_list p.isList ?_
  refine ⟨s1.heap.objs.size, [s1.heap.objs.size], _, _, H1, rfl, I1.kept (t' := s1.toks) fun b o e => Heap.get?_push_of_some _ e, turn_list a _, ⟨_, Heap.get?_push_size _ rfl, rfl, rfl⟩, fun b hb => ?_, q⟩
  have e : b = s1.heap.objs.size := by simpa using hb
  subst e
  exact I1.fpOk (Nat.le_refl _) (I1.hok.fresh (Nat.le_refl _))
/-- a range object just made, walked -/
theorem range_it {pins : List (Addr × Obj)} {σ : St} {H : Hp} {s : Shared} {R : It → Hp → Prop} {E : Value → Shared → Prop} {lo hi : Int} {t u v : Tok} {tk : Nat} (I : Inv X pins σ H s) (h1 : -(2 ^ 62) ≤ lo) (h2 : lo < 2 ^ 62) (h3 : -(2 ^ 62) ≤ hi) (h4 : hi < 2 ^ 62)
    (q : R (Itr lo (hi - lo).toNat) H) : wpAny (model X.prog X.w) X.A (pyIter (.ref s.heap.objs.size)) (PIE X pins σ tg R) E { s with heap := s.heap.push { cls := .type "range", data := .fields #[.int lo t, .int hi u, .int 1 v] }, toks := tk } := by
  refine wpAny_pyIter_range (IsRange.new ..) (small_one h1 h2 h3 h4) ?_
  have I1 : Inv X pins σ H { s with heap := s.heap.push { cls := .type "range", data := .fields #[.int lo t, .int hi u, .int 1 v] }, toks := tk } := I.kept fun b o e => Heap.get?_push_of_some _ e
  refine ⟨(s.heap.push { cls := .type "range", data := .fields #[.int lo t, .int hi u, .int 1 v] }).objs.size, [(s.heap.push { cls := .type "range", data := .fields #[.int lo t, .int hi u, .int 1 v] }).objs.size], _, _, H, rfl,
    I1.kept (t' := tk) fun b o e => Heap.get?_push_of_some _ e, turn_range _ lo (hi - lo).toNat, ?_, fun b hb => ?_, q⟩
  · have e1 : lo + ((0 : Nat) : Int) * 1 = lo := by simp
    have e2 : (((hi - lo).toNat : Nat) : Int) - ((0 : Nat) : Int) = Builtin.Range.rangeSize lo hi 1 := by rw [rangeSize_one]; split <;> omega
    show IsRangeIter _ _ (lo + ((0 : Nat) : Int) * 1) ((((hi - lo).toNat : Nat) : Int) - ((0 : Nat) : Int)) 1
    rw [e1, e2]
    exact Heap.get?_push_size _ rfl
  · have e : b = (s.heap.push { cls := .type "range", data := .fields #[.int lo t, .int hi u, .int 1 v] }).objs.size := by simpa using hb
    subst e
    exact I1.fpOk (Nat.le_refl _) (I1.hok.fresh (Nat.le_refl _))
def iRng1 (ta : TA) : TI := fun σ H R => ta σ H fun vs H1 => ∃ j : Int, vs = [.int j] ∧ -(2 ^ 62) ≤ j ∧ j < 2 ^ 62 ∧ R (Itr 0 j.toNat) H1
def iRng2 (ta : TA) : TI := fun σ H R => ta σ H fun vs H1 => ∃ i j : Int, vs = [.int i, .int j] ∧ (-(2 ^ 62) ≤ i ∧ i < 2 ^ 62 ∧ -(2 ^ 62) ≤ j ∧ j < 2 ^ 62) ∧ R (Itr i (j - i).toNat) H1
theorem pi_range1 {a : Expr} {ta : TA} {p pos : Pos} (hg : Gl X "range") (hm : X.mg "range" = none) (ha : PA X [a] ta) (hs : starEach [a] X.env = [(false, eval a X.env)] := by rfl) : PI X tg (.Call (.Name "range" p) [a] [] pos) (iRng1 ta) := by
  intro pins s σ H R I h
  refine Call_ (ld_blt I hg hm boot_range (PyProof.Rows.callWith_type1 (thn (ha pos pins s σ H _ I h) fun us s1 ⟨vs, H1, I1, r1, q1⟩ => ?_) hs rfl))
  obtain ⟨j, e, q1, q2, q⟩ := q1
  subst e
  cases r1 with
  | cons r rr =>
    cases rr
    obtain ⟨t, rfl⟩ := r
    exact call_range_1 (range_it I1 (by omega) (by omega) q1 q2 (by simpa using q))
/-! ### for -/
/-- W: the invariant by the turn and a measure; N: what the body is to reach -/
def tFor (wi : TI) (g : TG) (tb : TS) : TS := fun D σ H => wi σ H fun J H1 => ∃ W : Nat → Nat → St → Hp → Prop, (∃ m, W 0 m σ H1) ∧ ∀ i m σ H, W i m σ H →
  (J.stop i H ∧ D.nx σ H) ∨ (J.go i H ∧ ∃ N : St → Hp → Prop, (∀ σ' H', N σ' H' → ∃ m', m' < m ∧ W (i + 1) m' σ' H') ∧ ∀ x H', J.yld i H x H' → g x σ H' fun σ2 H2 => tb { D with nx := N, ct := N, bk := D.nx } σ2 H2)
/-- the records at fp as they stand -/
def pinsAt (fp : List Addr) (h : Heap) : List (Addr × Obj) := fp.filterMap fun b => (h.get? b).map fun o => (b, o)
theorem mem_pinsAt {fp : List Addr} {h : Heap} {b : Addr} {o : Obj} (hb : b ∈ fp) (e : h.get? b = some o) : (b, o) ∈ pinsAt fp h := List.mem_filterMap.mpr ⟨b, hb, by rw [e]; rfl⟩
theorem of_pinsAt {fp : List Addr} {h : Heap} {p : Addr × Obj} (hp : p ∈ pinsAt fp h) : p.1 ∈ fp ∧ h.get? p.1 = some p.2 := by
  obtain ⟨b, hb, e⟩ := List.mem_filterMap.mp hp
  cases q : h.get? b with
  | none => rw [q] at e; cases e
  | some o =>
    rw [q] at e
    have e' : (b, o) = p := Option.some.inj e
    subst e'
    exact ⟨hb, q⟩
theorem Inv.pinned {pins : List (Addr × Obj)} {σ : St} {H : Hp} {s : Shared} {fp : List Addr} (I : Inv X pins σ H s) (hf : ∀ b ∈ fp, FpOk X pins H b) (ho : ∀ b ∈ fp, ∃ o, s.heap.get? b = some o ∧ ∀ v, o.data ≠ .cell v) : Inv X (pins ++ pinsAt fp s.heap) σ H s :=
  I.pins_of fun p hp => (List.mem_append.mp hp).elim (fun z => I.pin p (List.mem_append_right _ z)) fun z => by
    obtain ⟨hb, e⟩ := of_pinsAt z
    obtain ⟨f0, f1, f2, _⟩ := hf p.1 hb
    obtain ⟨o, e', d⟩ := ho p.1 hb
    rw [e] at e'; cases e'
    exact ⟨e, f0, f1, f2, d⟩
theorem Inv.unpinned {pins pl : List (Addr × Obj)} {σ : St} {H : Hp} {s : Shared} (I : Inv X (pins ++ pl) σ H s) : Inv X pins σ H s := I.pins_of fun p hp => I.pin p (List.mem_append_right _ (List.mem_append_left _ hp))
theorem ps_for {iter : Expr} {body : List Stmt} {wi : TI} {g : TG} {tb : TS} {pos : Pos} (hp : PassesOwn (model X.prog X.w) X.A X.env X.xe) (hc : X.calm = true) (hi : PI X tg iter wi) (hg : PG X tg g) (hb : PSs X body tb)
    (hs : ∀ x, foldedSetIterable iter X.env x = pure x := by intro _; rfl) : PS X (.For tg iter body [] pos) (tFor wi g tb) := by
  intro pins s σ H D I h
  refine wpAny_For (thn (hi pins s σ H _ I h) fun v s1 h1 => thn h1 fun itv s2 h2 => ?_) hs
  obtain ⟨it, fp, tn, J, H2, e, I2, T, st2, f2, W, ⟨m0, w0⟩, turn⟩ := h2
  subst e
  -- what stays true of the iterator's objects through the loop
  have stat : ∀ {H' : Hp}, (∀ b ∈ fp, H' b = none) → ∀ b ∈ fp, FpOk X pins H' b := fun hn b hb => ⟨hn b hb, (f2 b hb).2⟩
  refine codeAny_forLoop_any (fun n s' => ∃ i σ' H', Inv X pins σ' H' s' ∧ tn i s'.heap ∧ (∀ b ∈ fp, H' b = none) ∧ W i n σ' H') ?_ m0 ⟨0, σ, H2, I2, st2, fun b hb => (f2 b hb).1, w0⟩
  rintro n s3 ⟨i, σ3, H3, I3, st3, fr3, w3⟩
  rcases turn i n σ3 H3 w3 with ⟨stop, qn⟩ | ⟨go, N, hN, step⟩
  · refine wpAny_passesOwn hp (thn (T.done X rfl rfl rfl hc i pins s3 σ3 H3 X.xe I3 (stat fr3) st3 stop) fun r s4 ⟨hr, I4⟩ => ?_)
    subst hr
    exact wpAny_execs_nil ⟨σ3, H3, I4, qn⟩
  · refine wpAny_passesOwn hp (thn (T.item X rfl rfl rfl hc i pins s3 σ3 H3 X.xe I3 (stat fr3) st3 go) fun r s4 ⟨u, hr, h4⟩ => ?_)
    subst hr
    refine wpAny_passesOwn hp (thn h4 fun _ s5 ⟨x, H5, I5, r5, y5, st5, fr5⟩ => ?_)
    have I5' := I5.pinned (stat fr5) (T.obj _ _ st5)
    refine wpAny_passesOwn hp (thn (hg _ s5 σ3 H5 x u _ I5' r5 (step x H5 y5)) fun _ s6 ⟨σ6, H6, I6, q6⟩ => ?_)
    refine wpAny_passesOwn hp (thn (hb _ s6 σ6 H6 _ I6 q6) fun f s7 q7 => ?_)
    have again : ∀ {σ7 : St} {H7 : Hp}, Inv X (pins ++ pinsAt fp s5.heap) σ7 H7 s7 → N σ7 H7 → ∃ m, m < n ∧ ∃ i σ' H', Inv X pins σ' H' s7 ∧ tn i s7.heap ∧ (∀ b ∈ fp, H' b = none) ∧ W i m σ' H' := fun {σ7 H7} I7 n7 => by
      obtain ⟨m', hm, w7⟩ := hN σ7 H7 n7
      refine ⟨m', hm, i + 1, σ7, H7, I7.unpinned, T.keep _ _ _ st5 fun b hb o e => (I7.pin (b, o) (List.mem_append_right _ (List.mem_append_right _ (mem_pinsAt hb e)))).1, fun b hb => ?_, w7⟩
      obtain ⟨o, e, d⟩ := T.obj _ _ st5 b hb
      exact (I7.pin (b, o) (List.mem_append_right _ (List.mem_append_right _ (mem_pinsAt hb e)))).2.1
    cases f with
    | next => obtain ⟨σ7, H7, I7, n7⟩ := q7; exact again I7 n7
    | cont => obtain ⟨σ7, H7, I7, n7⟩ := q7; exact again I7 n7
    | brk => obtain ⟨σ7, H7, I7, q7⟩ := q7; exact ⟨σ7, H7, I7.unpinned, q7⟩
    | ret v => obtain ⟨x7, σ7, H7, I7, r7, q7⟩ := q7; exact ⟨x7, σ7, H7, I7.unpinned, r7, q7⟩
end

/-! ### the forms one uses -/
/-- over a list that the body leaves as it is -/
theorem for_list {K : PySem.W.Frag} {a : Addr} {xs : List V} {g : TG} {tb : TS} {D : Ends} {σ : St} {H : Hp} (Pv : Nat → St → Hp → Prop) (h0 : Pv 0 σ H) (hl : ∀ i σ H, i ≤ xs.length → Pv i σ H → SqL K H a xs)
    (hs : ∀ i x σ H, xs[i]? = some x → Pv i σ H → g x σ H fun σ2 H2 => tb { D with nx := Pv (i + 1), ct := Pv (i + 1), bk := D.nx } σ2 H2) (hd : ∀ σ H, Pv xs.length σ H → D.nx σ H) :
    ∃ W : Nat → Nat → St → Hp → Prop, (∃ m, W 0 m σ H) ∧ ∀ i m σ H, W i m σ H →
      ((Itl K a).stop i H ∧ D.nx σ H) ∨ ((Itl K a).go i H ∧ ∃ N : St → Hp → Prop, (∀ σ' H', N σ' H' → ∃ m', m' < m ∧ W (i + 1) m' σ' H') ∧ ∀ x H', (Itl K a).yld i H x H' → g x σ H' fun σ2 H2 => tb { D with nx := N, ct := N, bk := D.nx } σ2 H2) := by
  refine ⟨fun i m σ H => m = xs.length - i ∧ i ≤ xs.length ∧ Pv i σ H, ⟨xs.length, by simp, Nat.zero_le _, h0⟩, ?_⟩
  rintro i m σ H ⟨rfl, hi, p⟩
  have q := hl i σ H hi p
  by_cases hlt : i < xs.length
  · refine .inr ⟨⟨xs, xs[i], q, by simp [hlt]⟩, Pv (i + 1), fun σ' H' p' => ⟨xs.length - (i + 1), by omega, rfl, hlt, p'⟩, fun x H' y => ?_⟩
    obtain ⟨e, y⟩ := y
    subst e
    exact hs i x σ _ (y xs q) p
  · have e : i = xs.length := by omega
    subst e
    exact .inl ⟨⟨xs, q, Nat.le_refl _⟩, hd σ H p⟩
theorem for_range {lo : Int} {n : Nat} {g : TG} {tb : TS} {D : Ends} {σ : St} {H : Hp} (Pv : Nat → St → Hp → Prop) (h0 : Pv 0 σ H)
    (hs : ∀ i σ H, i < n → Pv i σ H → g (.int (lo + i)) σ H fun σ2 H2 => tb { D with nx := Pv (i + 1), ct := Pv (i + 1), bk := D.nx } σ2 H2) (hd : ∀ σ H, Pv n σ H → D.nx σ H) :
    ∃ W : Nat → Nat → St → Hp → Prop, (∃ m, W 0 m σ H) ∧ ∀ i m σ H, W i m σ H →
      ((Itr lo n).stop i H ∧ D.nx σ H) ∨ ((Itr lo n).go i H ∧ ∃ N : St → Hp → Prop, (∀ σ' H', N σ' H' → ∃ m', m' < m ∧ W (i + 1) m' σ' H') ∧ ∀ x H', (Itr lo n).yld i H x H' → g x σ H' fun σ2 H2 => tb { D with nx := N, ct := N, bk := D.nx } σ2 H2) := by
  refine ⟨fun i m σ H => m = n - i ∧ i ≤ n ∧ Pv i σ H, ⟨n, by simp, Nat.zero_le _, h0⟩, ?_⟩
  rintro i m σ H ⟨rfl, hi, p⟩
  by_cases hlt : i < n
  · refine .inr ⟨hlt, Pv (i + 1), fun σ' H' p' => ⟨n - (i + 1), by omega, rfl, hlt, p'⟩, fun x H' y => ?_⟩
    obtain ⟨e, y⟩ := y
    subst e y
    exact hs i σ _ hlt p
  · have e : i = n := by omega
    subst e
    exact .inl ⟨Nat.le_refl _, hd σ H p⟩
/-- while, by a word and a measure of the state -/
theorem while_by {c : TT} {tb : TS} {D : Ends} {σ : St} {H : Hp} (Pv : St → Hp → Prop) (μ : St → Hp → Nat) (h0 : Pv σ H)
    (hs : ∀ σ H, Pv σ H → c σ H fun b H1 => if b = true then tb { D with nx := fun σ' H' => Pv σ' H' ∧ μ σ' H' < μ σ H, ct := fun σ' H' => Pv σ' H' ∧ μ σ' H' < μ σ H, bk := D.nx } σ H1 else D.nx σ H1)
    (mono : ∀ σ H Q Q', (∀ b H1, Q b H1 → Q' b H1) → c σ H Q → c σ H Q') : tWhile c tb D σ H := by
  refine ⟨fun m σ H => m = μ σ H ∧ Pv σ H, ⟨_, rfl, h0⟩, ?_⟩
  rintro m σ H ⟨rfl, p⟩
  refine mono σ H _ _ (fun b H1 q => ?_) (hs σ H p)
  cases b with
  | true => exact ⟨_, fun σ' H' ⟨p', l⟩ => ⟨_, l, rfl, p'⟩, q⟩
  | false => exact q
end L2

namespace L2
open PySem PySem.Spec PyProof.Rows

abbrev R2 := V → V → Hp → VK → Prop
/-- a two-place operation on values: f is binaryOp op, inplaceOp op or compareOp op -/
def OpR (X : Cx) (f : Value → Value → Sem Value) (r : R2) : Prop :=
  ∀ (pins : List (Addr × Obj)) (s : Shared) (σ : St) (H : Hp) (x y : V) (v u : Value) (Q : VK), Inv X pins σ H s → RelV x v → RelV y u → r x y H Q →
    wpAny (model X.prog X.w) X.A (f v u) (EP X pins σ Q) X.xe s
/-- a one-place operation -/
def UnR (X : Cx) (f : Value → Sem Value) (r : V → Hp → VK → Prop) : Prop :=
  ∀ (pins : List (Addr × Obj)) (s : Shared) (σ : St) (H : Hp) (x : V) (v : Value) (Q : VK), Inv X pins σ H s → RelV x v → r x H Q →
    wpAny (model X.prog X.w) X.A (f v) (EP X pins σ Q) X.xe s
/-- a call of a value that is known (a builtin, a type) with values -/
def CallR (X : Cx) (f : Value) (r : List V → Hp → VK → Prop) : Prop :=
  ∀ (pins : List (Addr × Obj)) (s : Shared) (σ : St) (H : Hp) (xs : List V) (us : List Value) (Q : VK), Inv X pins σ H s → Vals xs us → r xs H Q →
    wpAny (model X.prog X.w) X.A (call f us) (EP X pins σ Q) X.xe s
/-- a value's truth -/
def TruR (X : Cx) (r : V → Hp → (Bool → Hp → Prop) → Prop) : Prop :=
  ∀ (pins : List (Addr × Obj)) (s : Shared) (σ : St) (H : Hp) (x : V) (v : Value) (Q : Bool → Hp → Prop), Inv X pins σ H s → RelV x v → r x H Q →
    wpAny (model X.prog X.w) X.A (truthy v) (TP X pins σ Q) X.xe s

def tOp (r : R2) (ta tb : TE) : TE := fun σ H Q => ta σ H fun x H1 => tb σ H1 fun y H2 => r x y H2 Q
def tUn (r : V → Hp → VK → Prop) (ta : TE) : TE := fun σ H Q => ta σ H fun x H1 => r x H1 Q
/-- ints in, under C, and a value out -/
def rI (C : Int → Int → Prop) (g : Int → Int → V) : R2 := fun x y H Q => ∃ i j, x = .int i ∧ y = .int j ∧ C i j ∧ Q (g i j) H
def rI0 (g : Int → Int → V) : R2 := fun x y H Q => ∃ i j, x = .int i ∧ y = .int j ∧ Q (g i j) H
def rU (g : Int → V) : V → Hp → VK → Prop := fun x H Q => ∃ i, x = .int i ∧ Q (g i) H

section
variable {X : Cx} {a b c : Expr} {ta tb tc : TE} {pos : Pos}

theorem binT (ha : PE X a ta) (hb : PE X b tb) {pins : List (Addr × Obj)} {s : Shared} {σ : St} {H : Hp} {R : V → V → Hp → Prop} (I : Inv X pins σ H s)
    (h : ta σ H fun x H1 => tb σ H1 fun y H2 => R x y H2) {Q : Value → Shared → Prop} {f : Value → Value → Sem Value}
    (hf : ∀ v u s2 x y H2, Inv X pins σ H2 s2 → RelV x v → RelV y u → R x y H2 → wpAny (model X.prog X.w) X.A (f v u) Q X.xe s2) :
    wpAny (model X.prog X.w) X.A (eval a X.env) (fun v s₁ => wpAny (model X.prog X.w) X.A (eval b X.env) (fun u s₂ => wpAny (model X.prog X.w) X.A (f v u) Q X.xe s₂) X.xe s₁) X.xe s := by
  refine thn (ha pins s σ H _ I h) fun v s1 ⟨x, H1, I1, r1, q1⟩ => ?_
  refine thn (hb pins s1 σ H1 _ I1 q1) fun u s2 ⟨y, H2, I2, r2, q2⟩ => ?_
  exact hf v u s2 x y H2 I2 r1 r2 q2

theorem pe_op {op : Operator} {r : R2} (ho : OpR X (binaryOp op) r) (ha : PE X a ta) (hb : PE X b tb) : PE X (.BinOp a op b pos) (tOp r ta tb) := by
  intro pins s σ H Q I h
  exact wpAny_BinOp (binT ha hb I h fun v u s2 x y H2 I2 rx ry q => ho pins s2 σ H2 x y v u Q I2 rx ry q)
/-! ### ints -/
theorem opI {f : Value → Value → Sem Value} {C : Int → Int → Prop} {g : Int → Int → Int}
    (rule : ∀ (i j : Int) (t u : Tok) (s : Shared) (Q : Value → Shared → Prop) (E : Value → Shared → Prop), C i j → Q (.int (g i j) s.toks) { s with toks := s.toks + 1 } → wpAny (model X.prog X.w) X.A (f (.int i t) (.int j u)) Q E s) :
    OpR X f (rI C fun i j => .int (g i j)) := by
  intro pins s σ H x y v u Q I rx ry h
  obtain ⟨i, j, rfl, rfl, hc, q⟩ := h
  obtain ⟨t, rfl⟩ := rx
  obtain ⟨t', rfl⟩ := ry
  exact rule i j t t' s _ _ hc ⟨.int (g i j), H, I.tok _, ⟨_, rfl⟩, q⟩
theorem opI0 {f : Value → Value → Sem Value} {g : Int → Int → Int}
    (rule : ∀ (i j : Int) (t u : Tok) (s : Shared) (Q : Value → Shared → Prop) (E : Value → Shared → Prop), Q (.int (g i j) s.toks) { s with toks := s.toks + 1 } → wpAny (model X.prog X.w) X.A (f (.int i t) (.int j u)) Q E s) :
    OpR X f (rI0 fun i j => .int (g i j)) := by
  intro pins s σ H x y v u Q I rx ry h
  obtain ⟨i, j, rfl, rfl, q⟩ := h
  obtain ⟨t, rfl⟩ := rx
  obtain ⟨t', rfl⟩ := ry
  exact rule i j t t' s _ _ ⟨.int (g i j), H, I.tok _, ⟨_, rfl⟩, q⟩
theorem opB0 {f : Value → Value → Sem Value} {g : Int → Int → Bool}
    (rule : ∀ (i j : Int) (t u : Tok) (s : Shared) (Q : Value → Shared → Prop) (E : Value → Shared → Prop), Q (.bool (g i j)) s → wpAny (model X.prog X.w) X.A (f (.int i t) (.int j u)) Q E s) :
    OpR X f (rI0 fun i j => .bl (g i j)) := by
  intro pins s σ H x y v u Q I rx ry h
  obtain ⟨i, j, rfl, rfl, q⟩ := h
  obtain ⟨t, rfl⟩ := rx
  obtain ⟨t', rfl⟩ := ry
  exact rule i j t t' s _ _ ⟨.bl (g i j), H, I, rfl, q⟩

def CDiv (i j : Int) : Prop := 0 < j ∧ j < 1073741824
def CDivN (i j : Int) : Prop := j ≠ 0 ∧ j.natAbs < 1073741824
def CPow (i j : Int) : Prop := 0 ≤ j ∧ j ≤ 1000000 ∧ i.natAbs < 2 ^ 64
def CMul (i j : Int) : Prop := (-(2 ^ 64) < i ∧ i < 2 ^ 64) ∨ (-(2 ^ 64) < j ∧ j < 2 ^ 64)
theorem CMul.ok {i j : Int} (h : CMul i j) : IntMulOk i j := by
  rcases h with ⟨h1, h2⟩ | ⟨h1, h2⟩
  · exact .of_left (intBits_le_64 h1 h2)
  · exact .of_right (intBits_le_64 h1 h2)
theorem op_add : OpR X (binaryOp .Add) (rI0 fun i j => .int (i + j)) := opI0 fun _ _ _ _ _ _ _ q => add_int q
theorem op_sub : OpR X (binaryOp .Sub) (rI0 fun i j => .int (i - j)) := opI0 fun _ _ _ _ _ _ _ q => sub_int q
theorem op_mul : OpR X (binaryOp .Mult) (rI CMul fun i j => .int (i * j)) := opI fun _ _ _ _ _ _ _ hc q => mul_int q hc.ok
/-- % by a positive divisor of any size -/
theorem op_mod : OpR X (binaryOp .Mod) (rI (fun _ j => 0 < j) fun i j => .int (i % j)) := opI fun i j _ _ _ _ _ hc q => by
  have h1 : (0 : Int) < j := hc
  exact mod_int' (by omega) (by rw [Int.fmod_eq_emod_of_nonneg i (by omega)]; exact q)
theorem op_pow : OpR X (binaryOp .Pow) (rI CPow fun i j => .int (i ^ j.toNat)) := opI fun _ _ _ _ _ _ _ hc q => pow_int_small hc.1 hc.2.1 hc.2.2 q
theorem op_shl : OpR X (binaryOp .LShift) (rI CPow fun i j => .int (i * 2 ^ j.toNat)) := opI fun _ _ _ _ _ _ _ hc q => lshift_int_small hc.1 hc.2.1 hc.2.2 q
/-! ### bools among ints: n += (a < b) -/
end

/-! ### comparisons -/
/-- the scalars that == tells apart as data does -/
def scal : V → V → Bool
  | .non, .non => true | .non, .int _ => true | .int _, .non => true | .non, .bl _ => true | .bl _, .non => true | .non, .str _ => true | .str _, .non => true
  | .int _, .int _ => true | .bl _, .bl _ => true | .str _, .str _ => true | .byt _, .byt _ => true
  | .int _, .str _ => true | .str _, .int _ => true | .bl _, .str _ => true | .str _, .bl _ => true
  | _, _ => false
def rEq : R2 := fun x y H Q => scal x y = true ∧ Q (.bl (decide (x = y))) H
def rNe : R2 := fun x y H Q => scal x y = true ∧ Q (.bl (!decide (x = y))) H

theorem dec_int {i j : Int} : decide (V.int i = V.int j) = (i == j) := by
  rw [Bool.eq_iff_iff]
  simp
theorem dec_bl {i j : Bool} : decide (V.bl i = V.bl j) = (i == j) := by
  rw [Bool.eq_iff_iff]
  simp
theorem dec_str {i j : Str} : decide (V.str i = V.str j) = (i == j) := by
  rw [Bool.eq_iff_iff]
  simp
theorem dec_byt {i j : Array UInt8} : decide (V.byt i = V.byt j) = (i.toList == j.toList) := by
  rw [Bool.eq_iff_iff]
  cases i
  cases j
  simp

section
variable {X : Cx} {a b c : Expr} {ta tb tc : TE} {pos : Pos}
theorem fin_bl {pins : List (Addr × Obj)} {σ : St} {H : Hp} {s : Shared} {Q : VK} {k k' : Bool} (I : Inv X pins σ H s) (q : Q (.bl k) H) (e : k = k') : EP X pins σ Q (.bool k') s := by
  subst e
  exact ⟨.bl k, H, I, rfl, q⟩
theorem op_eq : OpR X (compareOp .Eq) rEq := by
  intro pins s σ H x y v u Q I rx ry h
  obtain ⟨hs, q⟩ := h
  cases x with
  | non =>
    cases rx
    cases y with
    | non => cases ry; exact PySem.EqNone.eq_none_none (fin_bl I q (by simp))
    | bl j => cases ry; exact PySem.EqNone.eq_none_bool (fin_bl I q (by simp))
    | int j => obtain ⟨t', rfl⟩ := ry; exact PySem.EqNone.eq_none_int (fin_bl I q (by simp))
    | str j => obtain ⟨t', rfl⟩ := ry; exact PySem.EqNone.eq_none_str (fin_bl I q (by simp))
    | _ => exact absurd (show false = true from hs) Bool.false_ne_true
  | bl i =>
    cases rx
    cases y with
    | non => cases ry; exact PySem.EqNone.eq_bool_none (fin_bl I q (by simp))
    | bl j => cases ry; exact eq_bool (fin_bl I q dec_bl)
    | str j => obtain ⟨t', rfl⟩ := ry; exact PySem.EqMixed.eq_bool_str (fin_bl I q (by simp))
    | _ => exact absurd (show false = true from hs) Bool.false_ne_true
  | int i =>
    obtain ⟨t, rfl⟩ := rx
    cases y with
    | non => cases ry; exact PySem.EqNone.eq_int_none (fin_bl I q (by simp))
    | int j => obtain ⟨t', rfl⟩ := ry; exact eq_int (fin_bl I q dec_int)
    | str j => obtain ⟨t', rfl⟩ := ry; exact PySem.EqMixed.eq_int_str (fin_bl I q (by simp))
    | _ => exact absurd (show false = true from hs) Bool.false_ne_true
  | str i =>
    obtain ⟨t, rfl⟩ := rx
    cases y with
    | non => cases ry; exact PySem.EqNone.eq_str_none (fin_bl I q (by simp))
    | bl j => cases ry; exact PySem.EqMixed.eq_str_bool (fin_bl I q (by simp))
    | int j => obtain ⟨t', rfl⟩ := ry; exact PySem.EqMixed.eq_str_int (fin_bl I q (by simp))
    | str j => obtain ⟨t', rfl⟩ := ry; exact eq_str (fin_bl I q dec_str)
    | _ => exact absurd (show false = true from hs) Bool.false_ne_true
  | byt i =>
    obtain ⟨t, rfl⟩ := rx
    cases y with
    | byt j => obtain ⟨t', rfl⟩ := ry; exact PySem.W.eq_bytes (fin_bl I q dec_byt)
    | _ => exact absurd (show false = true from hs) Bool.false_ne_true
  | _ => cases y <;> exact absurd (show false = true from hs) Bool.false_ne_true
theorem op_ne : OpR X (compareOp .NotEq) rNe := by
  intro pins s σ H x y v u Q I rx ry h
  obtain ⟨hs, q⟩ := h
  cases x with
  | non =>
    cases rx
    cases y with
    | non => cases ry; exact PySem.EqNone.ne_none_none (fin_bl I q (by simp))
    | bl j => cases ry; exact PySem.EqNone.ne_none_bool (fin_bl I q (by simp))
    | int j => obtain ⟨t', rfl⟩ := ry; exact PySem.EqNone.ne_none_int (fin_bl I q (by simp))
    | str j => obtain ⟨t', rfl⟩ := ry; exact PySem.EqNone.ne_none_str (fin_bl I q (by simp))
    | _ => exact absurd (show false = true from hs) Bool.false_ne_true
  | bl i =>
    cases rx
    cases y with
    | non => cases ry; exact PySem.EqNone.ne_bool_none (fin_bl I q (by simp))
    | bl j => cases ry; exact ne_bool (fin_bl I q (congrArg not dec_bl))
    | str j => obtain ⟨t', rfl⟩ := ry; exact PySem.EqMixed.ne_bool_str (fin_bl I q (by simp))
    | _ => exact absurd (show false = true from hs) Bool.false_ne_true
  | int i =>
    obtain ⟨t, rfl⟩ := rx
    cases y with
    | non => cases ry; exact PySem.EqNone.ne_int_none (fin_bl I q (by simp))
    | int j => obtain ⟨t', rfl⟩ := ry; exact ne_int (fin_bl I q (congrArg not dec_int))
    | str j => obtain ⟨t', rfl⟩ := ry; exact PySem.EqMixed.ne_int_str (fin_bl I q (by simp))
    | _ => exact absurd (show false = true from hs) Bool.false_ne_true
  | str i =>
    obtain ⟨t, rfl⟩ := rx
    cases y with
    | non => cases ry; exact PySem.EqNone.ne_str_none (fin_bl I q (by simp))
    | bl j => cases ry; exact PySem.EqMixed.ne_str_bool (fin_bl I q (by simp))
    | int j => obtain ⟨t', rfl⟩ := ry; exact PySem.EqMixed.ne_str_int (fin_bl I q (by simp))
    | str j => obtain ⟨t', rfl⟩ := ry; exact ne_str (fin_bl I q (congrArg not dec_str))
    | _ => exact absurd (show false = true from hs) Bool.false_ne_true
  | byt i =>
    obtain ⟨t, rfl⟩ := rx
    cases y with
    | byt j => obtain ⟨t', rfl⟩ := ry; exact PySem.W.ne_bytes (fin_bl I q (congrArg not dec_byt))
    | _ => exact absurd (show false = true from hs) Bool.false_ne_true
  | _ => cases y <;> exact absurd (show false = true from hs) Bool.false_ne_true

theorem op_lt : OpR X (compareOp .Lt) (rI0 fun i j => .bl (decide (i < j))) := opB0 fun _ _ _ _ _ _ _ q => lt_int q
theorem op_le : OpR X (compareOp .LtE) (rI0 fun i j => .bl (decide (i ≤ j))) := opB0 fun _ _ _ _ _ _ _ q => le_int q
theorem op_gt : OpR X (compareOp .Gt) (rI0 fun i j => .bl (decide (j < i))) := opB0 fun _ _ _ _ _ _ _ q => gt_int q
theorem op_ge : OpR X (compareOp .GtE) (rI0 fun i j => .bl (decide (j ≤ i))) := opB0 fun _ _ _ _ _ _ _ q => ge_int q
/-- is None, is not None: the right side a value none -/
theorem op_isN : OpR X (compareOp .Is) (fun x y H Q => y = .non ∧ Q (.bl (decide (x = .non))) H) := by
  intro pins s σ H x y v u Q I rx ry h
  obtain ⟨rfl, q⟩ := h
  cases ry
  refine is_none_gen (fin_bl I q ?_)
  cases x <;> first
    | (cases rx; rfl)
    | (obtain ⟨t, rfl⟩ := rx; rfl)
/-- is, is not of two objects that are tracked lists or instances -/
def isObj : HO → Bool
  | .lst _ => true
  | .ins _ _ _ => true
  | _ => false
theorem nomark (b : Expr) {op : CmpOp} (h : op ≠ .In := by decide) (h2 : op ≠ .NotIn := by decide) : behindInMarks op b = false := by
  have e1 : (op == CmpOp.In) = false := by cases op <;> first | rfl | exact absurd rfl h
  have e2 : (op == CmpOp.NotIn) = false := by cases op <;> first | rfl | exact absurd rfl h2
  cases b <;> simp [behindInMarks, e1, e2]
/-- a comparison as a value; hm: nomark b, or (for in, not in) by with_unfolding_all rfl -/
theorem pe_cmpR {op : CmpOp} {r : R2} (ho : OpR X (compareOp op) r) (ha : PE X a ta) (hb : PE X b tb) (hm : behindInMarks op b = false) : PE X (.Compare a [op] [b] pos) (tOp r ta tb) := by
  intro pins s σ H Q I h
  exact wpAny_Compare1 (binT ha hb I h fun v u s2 x y H2 I2 rx ry q => ho pins s2 σ H2 x y v u Q I2 rx ry q) hm
/-- a reading of a value as a test -/
def tTest (t : TE) : TT := fun σ H Q => t σ H fun x H' => ∃ k, x = .bl k ∧ Q k H'
theorem pt_cmpR {op : CmpOp} {r : R2} (ho : OpR X (compareOp op) r) (ha : PE X a ta) (hb : PE X b tb) (hm : behindInMarks op b = false) : PT X (.Compare a [op] [b] pos) (tTest (tOp r ta tb)) := by
  intro pins s σ H Q I h
  refine wpAny_isTrue_Compare1 (thn (ha pins s σ H _ I h) fun v s1 ⟨x, H1, I1, r1, q1⟩ => thn (hb pins s1 σ H1 _ I1 q1) fun u s2 ⟨y, H2, I2, r2, q2⟩ =>
    thn (ho pins s2 σ H2 x y v u _ I2 r1 r2 q2) fun c s3 ⟨z, H3, I3, r3, k, e, q3⟩ => ?_) hm
  subst e
  cases r3
  exact wpAny_truthy_bool ⟨H3, I3, q3⟩
/-- a op1 b op2 c -/
def tChain (r r' : R2) (ta tb tc : TE) : TE := fun σ H Q => ta σ H fun x H1 => tb σ H1 fun y H2 => r x y H2 fun z H3 => ∃ k, z = .bl k ∧
  (if k = true then tc σ H3 fun w' H4 => r' y w' H4 Q else Q (.bl false) H3)
/-! ### truth -/
/-- a value's truth by the abstract heap -/
def TruV (K : PySem.W.Frag) (x : V) (H : Hp) (k : Bool) : Prop :=
  match x with
  | .non => k = false
  | .bl b => k = b
  | .int i => k = (i != 0)
  | .str y => y.length ≤ sizeLine ∧ k = ((y.length : Int) != 0)
  | .byt y => y.size ≤ sizeLine ∧ k = ((y.size : Int) != 0)
  | .ref p => (∃ xs, SqL K H p xs ∧ k = !xs.isEmpty) ∨ (∃ xs, SqT K H p xs ∧ k = !xs.isEmpty) ∨ ∃ kvs, H p = some (.dK kvs) ∧ k = !kvs.isEmpty
  | _ => False
theorem line63 : (sizeLine : Nat) < 2 ^ 63 := by rw [sizeLine_eq]; decide
/-! ### strs and bytes -/
def PlainIxT (b : Expr) : Prop := ∀ o i, subscripted b false o i = operate [o, i] (getItem o i)
/-! ### scalar builtins, by CallR -/
theorem vals1 {x : V} {us : List Value} (r : Vals [x] us) : ∃ u, us = [u] ∧ RelV x u := by
  cases r with
  | cons r1 r2 => cases r2; exact ⟨_, rfl, r1⟩
theorem vals2 {x y : V} {us : List Value} (r : Vals [x, y] us) : ∃ u w', us = [u, w'] ∧ RelV x u ∧ RelV y w' := by
  cases r with
  | cons r1 r2 =>
    cases r2 with
    | cons r3 r4 => cases r4; exact ⟨_, _, rfl, r1, r3⟩
theorem call_max2 (hc : X.calm = true) : CallR X (.builtin "max") (fun xs H Q => ∃ i j, xs = [.int i, .int j] ∧ Q (.int (if j > i then j else i)) H) := by
  intro pins s σ H xs us Q I r h
  obtain ⟨i, j, rfl, q⟩ := h
  obtain ⟨u, w', rfl, ⟨t, rfl⟩, ⟨t', rfl⟩⟩ := vals2 r
  refine max_two_ints (I.ok.hd hc) fun h' tk k => ⟨_, H, I.kept k, ?_, q⟩
  by_cases hj : j > i
  · rw [if_pos hj, if_pos hj]; exact ⟨_, rfl⟩
  · rw [if_neg hj, if_neg hj]; exact ⟨_, rfl⟩
theorem call_min2 (hc : X.calm = true) : CallR X (.builtin "min") (fun xs H Q => ∃ i j, xs = [.int i, .int j] ∧ Q (.int (if j < i then j else i)) H) := by
  intro pins s σ H xs us Q I r h
  obtain ⟨i, j, rfl, q⟩ := h
  obtain ⟨u, w', rfl, ⟨t, rfl⟩, ⟨t', rfl⟩⟩ := vals2 r
  refine min_two_ints (I.ok.hd hc) fun h' tk k => ⟨_, H, I.kept k, ?_, q⟩
  by_cases hj : j < i
  · rw [if_pos hj, if_pos hj]; exact ⟨_, rfl⟩
  · rw [if_neg hj, if_neg hj]; exact ⟨_, rfl⟩
theorem call_int1 : CallR X (.type "int") (fun xs H Q => (∃ i, xs = [.int i] ∧ Q (.int i) H) ∨ ∃ k, xs = [.bl k] ∧ Q (.int (if k then 1 else 0)) H) := by
  intro pins s σ H xs us Q I r h
  rcases h with ⟨i, rfl, q⟩ | ⟨k, rfl, q⟩
  · obtain ⟨u, rfl, t, rfl⟩ := vals1 r
    exact call_int_int ⟨.int i, H, I, ⟨_, rfl⟩, q⟩
  · obtain ⟨u, rfl, r1⟩ := vals1 r
    cases r1
    exact call_int_bool ⟨.int (if k then 1 else 0), H, I.tok _, ⟨_, rfl⟩, q⟩
/-- len of a str, a bytes, a list, a tuple -/
def LenV (K : PySem.W.Frag) (x : V) (H : Hp) (n : Nat) : Prop :=
  match x with
  | .str y => y.length ≤ sizeLine ∧ n = y.length
  | .byt y => y.size ≤ sizeLine ∧ n = y.size
  | .ref p => (∃ xs, SqL K H p xs ∧ n = xs.length) ∨ ∃ xs, SqT K H p xs ∧ n = xs.length
  | _ => False
end
end L2

namespace L2
open PySem PySem.Spec PyProof.Rows

/-! ### an instance, its attributes a map -/
structure ObjM (h : Heap) (x dx C : Addr) (mA : Str → Option Value) : Prop where
  obj : h.get? x = some (PySem.W.instObj C dx)
  ns : h.Ns1 dx mA
  ne : dx ≠ x

theorem lookIn_ns {h : Heap} {dx : Addr} {mA : Str → Option Value} (n : h.Ns1 dx mA) : ∃ od, h.get? dx = some od ∧ ∀ name, PySem.W.lookIn name od = some (mA name) := by
  obtain ⟨o, es, ep, ho, hd, hk, _, hm⟩ := n
  refine ⟨o, ho, fun name => ?_⟩
  have e := hm name
  unfold nsFind findBy at e
  rw [← Array.find?_toList] at e
  unfold PySem.W.lookIn
  rw [hd]
  dsimp only
  split
  · rename_i y q
    rw [q] at e
    exact congrArg some e
  · rename_i q
    rw [q] at e
    have a : es.toList.any (·.refKey) = false := by
      rw [List.any_eq_false]
      intro y hy
      obtain ⟨z, t, hkey⟩ := hk y (Array.mem_toList_iff.mp hy)
      simp [DictEntry.refKey, hkey]
    have a' : ¬ es.toList.any (·.refKey) = true := by rw [a]; exact Bool.false_ne_true
    rw [if_neg a']
    exact congrArg some e

theorem ObjM.look {h : Heap} {x dx C : Addr} {mA : Str → Option Value} (I : ObjM h x dx C mA) : ∃ od, PySem.W.InstAt h x (PySem.W.instObj C dx) C (some od) ∧ ∀ name, PySem.W.lookIn name od = some (mA name) :=
  let ⟨od, ho, hl⟩ := lookIn_ns I.ns
  ⟨od, ⟨I.obj, rfl, rfl, ho⟩, hl⟩

section
variable {prog : Program} {w : World} {A : Around} {E : Value → Shared → Prop} {s : Shared} {K : PySem.W.Frag} {x dx C f : Addr} {mA : Str → Option Value} {name : Str} {v : Value}

theorem get_map {expr : Bool} {Q : Value → Shared → Prop} (X : K.In s.heap) (I : ObjM s.heap x dx C mA) (hg : PySem.W.plainGet K C name = true) (hh : PySem.W.hasDictIn K C = true)
    (ha : PySem.W.findIn K (.ref C) name = some none) (hv : mA name = some v) (hv' : PySem.W.handedIn v = true) (h : Q v { s with toks := s.toks + 1 }) :
    wpAny (model prog w) A (getAttr (.ref x) name expr) Q E s := by
  obtain ⟨od, J, hl⟩ := I.look
  exact PySem.W.get_value X J (PySem.W.plainGet_of hg).1 (PySem.W.findObj_own hh ha rfl (by rw [hl, hv])) hv' h

theorem get_meth {pl : Sem Bool} {Q : Value × List Value → Shared → Prop} (X : K.In s.heap) (I : ObjM s.heap x dx C mA) (hg : PySem.W.plainGet K C name = true)
    (hf : PySem.W.findIn K (.ref C) name = some (some (.ref f))) (ht : PySem.W.isFn K (.ref f) = true) (hv : mA name = none) (h : Q (.ref f, [.ref x]) s) :
    wpAny (model prog w) A (getMethod (.ref x) name pl) Q E s := by
  obtain ⟨od, J, hl⟩ := I.look
  exact PySem.W.method_fn X J (PySem.W.plainGet_of hg).1 (PySem.W.plainGet_of hg).2 hf (beq_iff_eq.mp ht) (by show (PySem.W.lookIn name od).map (·.isSome) = some false; rw [hl, hv]; rfl) h

theorem set_map {ns : List Str} {Q : Unit → Shared → Prop} (X : K.In s.heap) (I : ObjM s.heap x dx C mA)
    (hs : PySem.W.findIn K (.ref C) "__setattr__" = some (some (.builtin "object.__setattr__"))) (hp : PySem.W.plainOver K C = true) (ht : PySem.W.takerIn K C name = some none) (hh : PySem.W.hasDictIn K C = true)
    (hw : PySem.Within mA ns) (hsz : ns.length ≤ sizeLine)
    (h : ∀ h', ObjM h' x dx C (fun y => if y = name then some v else mA y) → Heap.SameBut dx s.heap h' → Q () { s with heap := h', toks := s.toks + 2 }) :
    wpAny (model prog w) A (setAttr (.ref x) name v) Q E s := by
  obtain ⟨od, J, hl⟩ := I.look
  refine PySem.W.set_plain X J hs (PySem.W.osa_open (s := { s with toks := s.toks + 1 }) (r := none) X J hp ht fun b => ?_)
  obtain ⟨cd, hc, hd'⟩ := PySem.W.any_some hh
  have hx : s.heap.get? x = some ⟨.ref C, some dx, .plain, #[]⟩ := I.obj
  refine wpAny_bind (wpAny_pure (wpAny_bind (wpAny_bind (wpAny_loadPart hx (wpAny_bind (PySem.W.Looks.here (s := { s with toks := s.toks + 1 }) (PySem.W.looks_clsIn X hc) ?_))))))
  rw [hd']
  refine wpAny_pure (a := some dx) (wpAny_bind (wpAny_pure (wpAny_bind ?_)))
  refine wpAny_nsSet1 (s := { s with toks := s.toks + 1 }) I.ns fun h' hn2 hs2 => ?_
  obtain ⟨oD, esD, epD, hoD, hdD, hcD⟩ := hn2.count (PySem.Within.cons name v hw)
  refine wpAny_bind (wpAny_lookBehind hoD (by rw [hdD]; exact pastItsLine_dict (Nat.le_trans hcD (by rw [List.length_cons]; omega))) ?_)
  exact wpAny_pure (h _ ⟨(hs2.2 _ (Ne.symm I.ne)).trans I.obj, hn2, I.ne⟩ hs2)

/-- C(..): the dict at the heap's end, the instance behind it; then its __init__ -/
theorem make_map {R : Result → Shared → Prop} {vs : List Value} {kw : List (Str × Value)} (X : K.In s.heap) (hm : PySem.W.makesIn K C = true)
    (hi : PySem.W.findIn K (.ref C) "__init__" = some (some (.ref f))) (hf : PySem.W.typeIn K (.ref f) = some (.type "function"))
    (h : codeAny (model prog w) (A.under (.builtin "type.__call__" ⟨.ref C :: vs, kw⟩)) (.call (.ref f) ⟨.ref (s.heap.objs.size + 1) :: vs, kw⟩) (PySem.W.InitBack (s.heap.objs.size + 1) R)
      { s with heap := (s.heap.push PySem.W.emptyDict).push (PySem.W.instObj C s.heap.objs.size) }) :
    codeAny (model prog w) A (.call (.ref C) ⟨vs, kw⟩) R s := by
  obtain ⟨hh, g, d, t, os⟩ := s
  exact PySem.W.make_core (PySem.W.makes_of X hm) (PySem.W.looks_findIn X hi) (fun self => PySem.W.bind_fn X self hf) (.inl rfl) h
end

/-! ### the attributes as a list of pairs -/
def putF (f : Str) (v : V) : List (Str × V) → List (Str × V)
  | [] => [(f, v)]
  | (g, x) :: r => if g = f then (g, v) :: r else (g, x) :: putF f v r
theorem lookup_putF (f g : Str) (v : V) : ∀ fs : List (Str × V), (putF f v fs).lookup g = if g = f then some v else fs.lookup g
  | [] => by
    show List.lookup g [(f, v)] = _
    by_cases h : g = f
    · have hb : (g == f) = true := beq_iff_eq.mpr h
      simp only [List.lookup, hb, if_pos h]
    · have hb : (g == f) = false := beq_eq_false_iff_ne.mpr h
      simp only [List.lookup, hb, if_neg h]
  | (k, x) :: r => by
    have ih := lookup_putF f g v r
    rw [show putF f v ((k, x) :: r) = (if k = f then (k, v) :: r else (k, x) :: putF f v r) from rfl]
    by_cases hk : k = f
    · rw [if_pos hk]
      by_cases h : g = k
      · have hb : (g == k) = true := beq_iff_eq.mpr h
        simp only [List.lookup, hb, if_pos (h.trans hk)]
      · have hb : (g == k) = false := beq_eq_false_iff_ne.mpr h
        simp only [List.lookup, hb, if_neg (fun e : g = f => h (e.trans hk.symm))]
    · rw [if_neg hk]
      by_cases h : g = k
      · have hb : (g == k) = true := beq_iff_eq.mpr h
        simp only [List.lookup, hb, if_neg (fun e : g = f => hk (h.symm.trans e))]
      · have hb : (g == k) = false := beq_eq_false_iff_ne.mpr h
        simp only [List.lookup, hb]
        exact ih
theorem keys_putF (f : Str) (v : V) : ∀ fs : List (Str × V), f ∈ (putF f v fs).map (·.1) ∧ ∀ g, g ∈ fs.map (·.1) → g ∈ (putF f v fs).map (·.1)
  | [] => ⟨by simp [putF], fun g h => by simp at h⟩
  | (k, x) :: r => by
    obtain ⟨i1, i2⟩ := keys_putF f v r
    rw [show putF f v ((k, x) :: r) = (if k = f then (k, v) :: r else (k, x) :: putF f v r) from rfl]
    by_cases hk : k = f
    · rw [if_pos hk]
      subst hk
      exact ⟨by simp, fun g h => by simpa using h⟩
    · rw [if_neg hk]
      refine ⟨?_, fun g h => ?_⟩
      · rw [List.map_cons]
        exact List.mem_cons_of_mem _ i1
      · rw [List.map_cons] at h ⊢
        rcases List.mem_cons.mp h with e | e
        · exact List.mem_cons.mpr (.inl e)
        · exact List.mem_cons_of_mem _ (i2 g e)
theorem length_putF (f : Str) (v : V) : ∀ fs : List (Str × V), (putF f v fs).length ≤ fs.length + 1
  | [] => by simp [putF]
  | (k, x) :: r => by
    have ih := length_putF f v r
    rw [show putF f v ((k, x) :: r) = (if k = f then (k, v) :: r else (k, x) :: putF f v r) from rfl]
    by_cases hk : k = f
    · rw [if_pos hk, List.length_cons, List.length_cons]; omega
    · rw [if_neg hk, List.length_cons, List.length_cons]; omega

theorem RelO.some_of {v : V} {o : Option Value} (r : RelO (some v) o) : ∃ u, o = some u ∧ RelV v u := by
  cases o with
  | none => exact (show False from r).elim
  | some u => exact ⟨u, rfl, r⟩
theorem RelO.none_of {o : Option Value} (r : RelO none o) : o = none := by
  cases o with
  | none => rfl
  | some u => exact (show False from r).elim
theorem handed_of {v : V} {u : Value} (r : RelV v u) : PySem.W.handedIn u = true := by
  cases v with
  | non => cases (show u = Value.none from r); rfl
  | bl b => cases (show u = Value.bool b from r); rfl
  | int i => obtain ⟨t, e⟩ := (show ∃ t, u = Value.int i t from r); cases e; rfl
  | str x => obtain ⟨t, e⟩ := (show ∃ t, u = Value.str x t from r); cases e; rfl
  | byt b => obtain ⟨t, e⟩ := (show ∃ t, u = Value.bytes b t from r); cases e; rfl
  | flt b => obtain ⟨t, e⟩ := (show ∃ t, u = Value.float b t from r); cases e; rfl
  | ref a => cases (show u = Value.ref a from r); rfl
  | ty n => cases (show u = Value.type n from r); rfl

section
variable {P : Program} {w : World} {H H' : Hp} {h h' : Heap} {a C dx : Addr} {fs fs' : List (Str × V)}
theorem ins_get (hok : HOk P w H h) (e : H a = some (.ins C dx fs)) : ∃ mA, ObjM h a dx C mA ∧ (∀ f, RelO (fs.lookup f) (mA f)) ∧ PySem.Within mA (fs.map (·.1)) ∧ fs.length ≤ 1000 ∧ H dx = some (.own a) := by
  obtain ⟨d, z, ne, ob, mA, n, r, q⟩ := (show ObjOk P w H h a (.ins C dx fs) from hok a _ e)
  exact ⟨mA, ⟨ob, n, ne⟩, r, q, z, d⟩
end

/-! ### what of the text a class must have -/
structure Cls (K : PySem.W.Frag) (C : Addr) : Prop where
  pg : PySem.W.plainGet K C Str.empty = true
  hd : PySem.W.hasDictIn K C = true
  po : PySem.W.plainOver K C = true
  sa : PySem.W.findIn K (.ref C) "__setattr__" = some (some (.builtin "object.__setattr__"))
theorem Cls.get {K : PySem.W.Frag} {C : Addr} (c : Cls K C) (f : Str) : PySem.W.plainGet K C f = true := c.pg
/-- no class of it has the name -/
def NoAttr (K : PySem.W.Frag) (C : Addr) (f : Str) : Prop := PySem.W.findIn K (.ref C) f = some none
theorem NoAttr.taker {K : PySem.W.Frag} {C : Addr} {f : Str} (n : NoAttr K C f) : PySem.W.takerIn K C f = some none := by
  unfold PySem.W.takerIn
  rw [show PySem.W.findIn K (.ref C) f = some none from n]
  rfl
/-- a constant of the class -/
structure Con (K : PySem.W.Frag) (C : Addr) (f : Str) (v : V) (u : Value) : Prop where
  at_ : PySem.W.findIn K (.ref C) f = some (some u)
  rel : RelV v u
  get : PySem.W.specialIn K u "__get__" = some none
  cp : PySem.W.copiedNames.contains f = false
/-- a method: a plain def of the class or of one above it -/
structure Meth (K : PySem.W.Frag) (C : Addr) (m : Str) (f : Addr) : Prop where
  at_ : PySem.W.findIn K (.ref C) m = some (some (.ref f))
  fn : PySem.W.isFn K (.ref f) = true
  kp : PySem.W.keepIn K (.ref f) = true

section
variable {X : Cx} {pins : List (Addr × Obj)} {σ : St} {H : Hp} {s : Shared} {a C dx : Addr} {fs : List (Str × V)} {f : Str} {v : V} {A : Around} {E : Value → Shared → Prop}

theorem getattr_ok {b : Bool} {Q : Value → Shared → Prop} (I : Inv X pins σ H s) (e : H a = some (.ins C dx fs)) (c : Cls X.K C) (n : NoAttr X.K C f) (l : fs.lookup f = some v)
    (h : ∀ u s', Inv X pins σ H s' → RelV v u → Q u s') : wpAny (model X.prog X.w) A (getAttr (.ref a) f b) Q E s := by
  obtain ⟨mA, O, r, _, _, _⟩ := ins_get I.hok e
  obtain ⟨u, hu, ru⟩ := RelO.some_of (v := v) (o := mA f) (by rw [← l]; exact r f)
  exact get_map I.kIn O (c.get f) c.hd n hu (handed_of ru) (h u _ (I.tok _) ru)

theorem getmeth_ok {m : Str} {g : Addr} {pl : Sem Bool} {Q : Value × List Value → Shared → Prop} (I : Inv X pins σ H s) (e : H a = some (.ins C dx fs)) (c : Cls X.K C) (k : Meth X.K C m g) (l : fs.lookup m = none)
    (h : Q (.ref g, [.ref a]) s) : wpAny (model X.prog X.w) A (getMethod (.ref a) m pl) Q E s := by
  obtain ⟨mA, O, r, _, _, _⟩ := ins_get I.hok e
  have hn : mA m = none := RelO.none_of (by rw [← l]; exact r m)
  exact get_meth I.kIn O (c.get m) k.at_ k.fn hn h

theorem setattr_ok {y : V} {u : Value} {Q : Unit → Shared → Prop} (I : Inv X pins σ H s) (e : H a = some (.ins C dx fs)) (c : Cls X.K C) (n : NoAttr X.K C f) (hl : fs.length < 1000) (ry : RelV y u)
    (h : ∀ s', Inv X pins σ (upd H a (.ins C dx (putF f y fs))) s' → Q () s') : wpAny (model X.prog X.w) A (setAttr (.ref a) f u) Q E s := by
  obtain ⟨mA, O, r, wi, _, ho⟩ := ins_get I.hok e
  have hz : (fs.map (·.1)).length ≤ sizeLine := by rw [List.length_map, sizeLine_eq]; omega
  refine set_map I.kIn O c.sa c.po n.taker c.hd wi hz fun h' O' sb => h _ ?_
  have hd : ∃ o, h'.get? dx = some o := let ⟨o, _, _, e', _⟩ := O'.ns; ⟨o, e'⟩
  refine I.write (x := a) (e := dx) (by rw [e]; exact True.intro) (.inr ho) (fun b q hb z => (sb.2 b hb).trans z) hd ?_
  refine ⟨by rw [upd_ne O.ne]; exact ho, ?_, O.ne, O'.obj, _, O'.ns, fun g => ?_, fun g hg => ?_⟩
  · have := length_putF f y fs; omega
  · show RelO ((putF f y fs).lookup g) (if g = f then some u else mA g)
    rw [lookup_putF]
    by_cases q : g = f
    · rw [if_pos q, if_pos q]; exact ry
    · rw [if_neg q, if_neg q]; exact r g
  · by_cases q : g = f
    · rw [q]; exact (keys_putF f y fs).1
    · refine (keys_putF f y fs).2 g (wi g fun z => hg ?_)
      show (if g = f then some u else mA g) = none
      rw [if_neg q]; exact z

/-- a new instance, tracked, without attributes -/
theorem Inv.made (I : Inv X pins σ H s) : Inv X pins σ (upd (upd H s.heap.objs.size (.own (s.heap.objs.size + 1))) (s.heap.objs.size + 1) (.ins C s.heap.objs.size []))
    { s with heap := (s.heap.push PySem.W.emptyDict).push (PySem.W.instObj C s.heap.objs.size) } := by
  have e1 : (s.heap.push PySem.W.emptyDict).get? s.heap.objs.size = some PySem.W.emptyDict := Heap.get?_push_size s.heap rfl
  have e2 : ((s.heap.push PySem.W.emptyDict).push (PySem.W.instObj C s.heap.objs.size)).get? (s.heap.objs.size + 1) = some (PySem.W.instObj C s.heap.objs.size) := by
    have := Heap.get?_push_size (s.heap.push PySem.W.emptyDict) (o := PySem.W.instObj C s.heap.objs.size) rfl
    rwa [Heap.size_push] at this
  have e3 : (s.heap.push PySem.W.emptyDict).Ns s.heap.objs.size (fun _ => none) := ⟨PySem.W.emptyDict, #[], _, e1, rfl, (fun e he => absurd he (by simp)), fun _ => rfl⟩
  have I1 := I.laid (a := s.heap.objs.size) (o := .own (s.heap.objs.size + 1)) (h' := s.heap.push PySem.W.emptyDict) (t' := s.toks) (fun b u q => Heap.get?_push_of_some _ q) (Nat.le_refl _) ⟨_, e1⟩
  refine I1.laid (a := s.heap.objs.size + 1) (o := .ins C s.heap.objs.size []) (t' := s.toks) (fun b u q => Heap.get?_push_of_some _ q) (Nat.le_of_eq (Heap.size_push _ _)) ?_
  have ne : s.heap.objs.size ≠ s.heap.objs.size + 1 := Nat.ne_of_lt (Nat.lt_succ_self _)
  refine ⟨by rw [upd_ne ne, upd_same], Nat.zero_le _, ne, e2, fun _ => none, (Heap.Ns1.of_empty e3).at fun o q => Heap.get?_push_of_some _ q, fun _ => True.intro, fun y hy => absurd rfl hy⟩

/-- e.f where nothing but the object is asked: through attributeBase (super) and the last hold -/
theorem attr_of {prog : Program} {w : World} {env : Env} {e : Expr} {f : Str} {pos : Pos} {s : Shared} {Q : Value → Shared → Prop} (hb : attributeBase e f env (eval e env) = eval e env)
    (h : wpAny (model prog w) A (eval e env) (fun o s₁ => wpAny (model prog w) A (getAttr o f true) Q E s₁) E s) : wpAny (model prog w) A (eval (.Attribute e f pos) env) Q E s :=
  Attribute_any_ h (by rw [arm_eval_Attribute, hb])
end

/-! ### readings and rules -/
/-- e.f, an attribute of the instance -/
def tFld (K : PySem.W.Frag) (ta : TE) (f : Str) : TE := fun σ H Q => ta σ H fun x H1 => ∃ a C dx fs v, x = .ref a ∧ H1 a = some (.ins C dx fs) ∧ Cls K C ∧ NoAttr K C f ∧ fs.lookup f = some v ∧ Q v H1
/-- e.f, a constant of the class -/
def tCon (K : PySem.W.Frag) (ta : TE) (f : Str) : TE := fun σ H Q => ta σ H fun x H1 => ∃ a C dx fs v u, x = .ref a ∧ H1 a = some (.ins C dx fs) ∧ Cls K C ∧ Con K C f v u ∧ fs.lookup f = none ∧ Q v H1
/-- e.f = value -/
def sFld (K : PySem.W.Frag) (ta tv : TE) (f : Str) : TS := fun D σ H => tv σ H fun y H1 => ta σ H1 fun x H2 => ∃ a C dx fs, x = .ref a ∧ H2 a = some (.ins C dx fs) ∧ Cls K C ∧ NoAttr K C f ∧ fs.length < 1000 ∧
  D.nx σ (upd H2 a (.ins C dx (putF f y fs)))
/-- an augmented operator on two values -/
def InOp (X : Cx) (op : Operator) (rd : V → V → Hp → VK → Prop) : Prop :=
  ∀ (pins : List (Addr × Obj)) (s : Shared) (σ : St) (H : Hp) (x y : V) (u v : Value) (Q : VK), Inv X pins σ H s → RelV x u → RelV y v → rd x y H Q → wpAny (model X.prog X.w) X.A (inplaceOp op u v) (EP X pins σ Q) X.xe s
/-- e.f op= value -/
def sFldAug (K : PySem.W.Frag) (ta tv : TE) (rd : V → V → Hp → VK → Prop) (f : Str) : TS := fun D σ H => ta σ H fun x H1 => ∃ a C dx fs v, x = .ref a ∧ H1 a = some (.ins C dx fs) ∧ Cls K C ∧ NoAttr K C f ∧ fs.lookup f = some v ∧
  tv σ H1 fun y H2 => rd v y H2 fun z H3 => ∃ dx' fs', H3 a = some (.ins C dx' fs') ∧ fs'.length < 1000 ∧ D.nx σ (upd H3 a (.ins C dx' (putF f z fs')))

section
variable {X : Cx} {o e value : Expr} {f : Str} {pos pos' tpos : Pos} {ta tv : TE}
theorem pe_fld (he : PE X e ta) (hb : attributeBase e f X.env (eval e X.env) = eval e X.env) : PE X (.Attribute e f pos) (tFld X.K ta f) := by
  intro pins s σ H Q I h
  refine attr_of hb (thn (he pins s σ H _ I h) fun u s1 ⟨x, H1, I1, rx, a, C, dx, fs, v, ex, ea, c, n, l, q⟩ => ?_)
  subst ex
  obtain rfl : u = Value.ref a := rx
  exact getattr_ok I1 ea c n l fun u' s2 I2 ru => ⟨v, H1, I2, ru, q⟩
theorem ps_fld (ha : PE X o ta) (hv : PE X value tv) (hs : swapsWith value (some (.Attribute o f pos')) pos.line X.env = pure false) : PS X (.Assign [.Attribute o f pos'] value pos) (sFld X.K ta tv f) := by
  intro pins s σ H D I h
  refine plainObj_wpAny_Assign_Attribute (thn (hv pins s σ H _ I h) fun u s1 ⟨y, H1, I1, ry, q⟩ => thn (ha pins s1 σ H1 _ I1 q) fun ov s2 ⟨x, H2, I2, rx, a, C, dx, fs, ex, ea, c, n, l, q2⟩ => ?_) hs
  subst ex
  obtain rfl : ov = Value.ref a := rx
  exact setattr_ok I2 ea c n l ry fun s3 I3 => ⟨σ, _, I3, q2⟩
def rAdd : V → V → Hp → VK → Prop := fun x y H Q => ∃ i j, x = .int i ∧ y = .int j ∧ Q (.int (i + j)) H
def rSub : V → V → Hp → VK → Prop := fun x y H Q => ∃ i j, x = .int i ∧ y = .int j ∧ Q (.int (i - j)) H
end

/-! ### isinstance -/
section
variable {X : Cx} {pins : List (Addr × Obj)} {σ : St} {H : Hp} {s : Shared} {A : Around} {E : Value → Shared → Prop} {Q : Value → Shared → Prop} {c : Value} {b : Bool}
/-- the type of a value, as the fragment's deciders take it; for an instance its class -/
inductive TyOf (K : PySem.W.Frag) (H : Hp) : V → Value → Prop where
  | non : TyOf K H .non (.type "NoneType")
  | bl (x : Bool) : TyOf K H (.bl x) (.type "bool")
  | int (i : Int) : TyOf K H (.int i) (.type "int")
  | str (x : Str) : TyOf K H (.str x) (.type "str")
  | flt (x : UInt64) : TyOf K H (.flt x) (.type "float")
  | lst {a : Addr} {xs : List V} (e : H a = some (.lst xs)) : TyOf K H (.ref a) (.type "list")
  | frz {a : Addr} {o : Obj} {xs : List V} (e : H a = some (.frz o (.lst xs))) : TyOf K H (.ref a) (.type "list")
  | tup {a : Addr} {xs : List V} (e : H a = some (.tup xs)) : TyOf K H (.ref a) (.type "tuple")
  | dK {a : Addr} {kvs : List (Key × V)} (e : H a = some (.dK kvs)) : TyOf K H (.ref a) (.type "dict")
  | dT {a : Addr} {kvs : List (List Key × V)} (e : H a = some (.dT kvs)) : TyOf K H (.ref a) (.type "dict")
  | ins {a C dx : Addr} {fs : List (Str × V)} (e : H a = some (.ins C dx fs)) (cl : Cls K C) (ha : PySem.W.findIn K (.ref C) "__class__" = some (some (.builtin "object.__class__")))
      (hn : PySem.W.specialIn K (.builtin "object.__class__") "__get__" = some (some (.builtin "getset_descriptor.__get__"))) (htk : PySem.W.takesIn K (.builtin "object.__class__") = some true)
      (hm : PySem.W.mroIn K C (.type "object") = some true) : TyOf K H (.ref a) (.ref C)
end
end L2

namespace L2
open PySem PySem.Spec PyProof.Rows

/-! ### room -/
structure Room (k : Nat) (A : Around) : Prop where
  hd : A.handled = none
  dp : A.depth + 3 * k + 5 < recursionLimit
  un : A.units + 16 * k + 200 < cLine
theorem Room.mono {j k : Nat} {A : Around} (r : Room k A) (h : j ≤ k) : Room j A := ⟨r.hd, by have := r.dp; omega, by have := r.un; omega⟩
theorem Room.deeper {k : Nat} {A : Around} (r : Room (k + 1) A) (env : Env) : Room k (A.deeper env) :=
  ⟨r.hd, by have := r.dp; show A.depth + 1 + 3 * k + 5 < _; omega, by have := r.un; show A.units + 3 + 16 * k + 200 < _; omega⟩
theorem make_depth {A : Around} {C : Addr} {us : List Value} {kw : List (Str × Value)} : (A.under (.builtin "type.__call__" ⟨.ref C :: us, kw⟩)).depth = A.depth + 1 := by
  first | rfl | simp [Around.under, Code.weight, Code.isCreation, Code.isGuard, Code.isCaller, Code.frames, Code.isFrame, guardIds]
theorem make_units {A : Around} {C : Addr} {us : List Value} {kw : List (Str × Value)} : (A.under (.builtin "type.__call__" ⟨.ref C :: us, kw⟩)).units = A.units + 1 := by
  first | rfl | simp [Around.under, Code.cUnits, Code.frames, Code.isFrame]
theorem Room.make {k : Nat} {A : Around} (r : Room (k + 1) A) (C : Addr) (us : List Value) (kw : List (Str × Value)) : Room k (A.under (.builtin "type.__call__" ⟨.ref C :: us, kw⟩)) :=
  ⟨r.hd, by have := r.dp; rw [make_depth]; omega, by have := r.un; rw [make_units]; omega⟩
theorem Room.depth {k : Nat} {A : Around} (r : Room k A) : A.depth < recursionLimit := by have := r.dp; omega
theorem Room.units {k : Nat} {A : Around} (r : Room k A) : A.units + 64 < cLine := by have := r.un; omega
/-! ### argument lists and displays -/
def tNil : TA := fun _ H Q => Q [] H
def tCons (ta : TE) (tr : TA) : TA := fun σ H Q => ta σ H fun x H1 => tr σ H1 fun xs H2 => Q (x :: xs) H2
section
variable {X : Cx} {e : Expr} {es : List Expr} {te : TE} {t : TA} {pos : Pos}
theorem pa_nil : PA X [] tNil := fun _ _ _ _ H Q I h => Calls.spliced_nil ⟨[], H, I, .nil, h⟩
theorem pa_cons (ha : PE X e te) (hr : PA X es t) (hs : starEach (e :: es) X.env = (false, eval e X.env) :: starEach es X.env := by rfl) : PA X (e :: es) (tCons te t) := by
  intro pos pins s σ H Q I h
  rw [hs]
  show wpAny _ _ (spliced ((false, eval e X.env) :: backTo pos (starEach es X.env))) _ _ s
  refine Calls.spliced_cons (thn (ha pins s σ H _ I h) fun u s1 ⟨x, H1, I1, r1, q1⟩ => ?_)
  exact thn (hr pos pins s1 σ H1 _ I1 q1) fun us s2 ⟨xs, H2, I2, r2, q2⟩ => ⟨x :: xs, H2, I2, .cons r1 r2, q2⟩

/-- a tuple, a list of written items -/
def tTup (t : TA) : TE := fun σ H Q => t σ H fun xs H1 => xs.length ≤ sizeLine ∧ ∀ p, H1 p = none → Q (.ref p) (upd H1 p (.tup xs))
def tLst (t : TA) : TE := fun σ H Q => t σ H fun xs H1 => xs.length ≤ sizeLine ∧ ∀ p, H1 p = none → Q (.ref p) (upd H1 p (.lst xs))
theorem pe_tup {x1} (h : PA X es t) : PE X (.Tuple es x1 pos) (tTup t) := by
  intro pins s σ H Q I hq
  refine wpAny_Tuple_spliced (thn (h pos pins s σ H _ I hq) fun us s1 ⟨xs, H1, I1, r, z, q⟩ => ⟨by rw [← r.length]; exact z, ?_⟩)
  have hf : H1 s1.heap.objs.size = none := I1.hok.fresh (Nat.le_refl _)
  refine ⟨.ref s1.heap.objs.size, upd H1 s1.heap.objs.size (.tup xs), I1.laid (t' := s1.toks) (fun b u e => Heap.get?_push_of_some _ e) (Nat.le_refl _) ?_, rfl, q _ hf⟩
  exact ⟨z, us, r, ⟨_, Heap.get?_push_size _ rfl, rfl, _, rfl⟩⟩
theorem pe_lst (h : PA X es t) : PE X (.List es pos) (tLst t) := by
  intro pins s σ H Q I hq
  refine wpAny_List_spliced (thn (h pos pins s σ H _ I hq) fun us s1 ⟨xs, H1, I1, r, z, q⟩ => ⟨by rw [← r.length]; exact z, ?_⟩)
  have hf : H1 s1.heap.objs.size = none := I1.hok.fresh (Nat.le_refl _)
  refine ⟨.ref s1.heap.objs.size, upd H1 s1.heap.objs.size (.lst xs), I1.laid (t' := s1.toks) (fun b u e => Heap.get?_push_of_some _ e) (Nat.le_refl _) ?_, rfl, q _ hf⟩
  exact ⟨z, us, 0, r, Heap.get?_push_size _ rfl⟩
end

/-! ### what a def promises -/
/-- a def's promise: the bound arguments in the parameters' order, the heap, the wanted end, the wanted exception -/
abbrev Sp := List V → Hp → VK → XK → Prop
/-- how an exception lies behind a call (file 08 gives it): the callers' frames, abstract heap and state ahead of the call, the wish, the exception, the state -/
abbrev CXT := List Env → Hp → Shared → XK → Value → Shared → Prop

/-- the state at a call -/
structure Env0 (P : Program) (w : World) (K : PySem.W.Frag) (mg : Str → Option Value) (base : Heap) (A : Around) (outer : List Env) (s : Shared) (H : Hp) : Prop where
  frames : A.frames = some outer
  mod : Mod K mg base
  bs : ∀ b o, base.get? b = some o → s.heap.get? b = some o ∧ H b = none
  bsz : base.objs.size ≤ s.heap.objs.size
  funs : s.heap.FunFrames base outer
  frf : ∀ b ∈ frs outer, H b = none
  hok : HOk P w H s.heap
  bare : AllBare s.gens
/-- a call's end -/
def CE (outer : List Env) (P : Program) (w : World) (H : Hp) (s : Shared) (Q : VK) (u : Value) (s' : Shared) : Prop :=
  ∃ v H', s'.os = s.os ∧ AllBare s'.gens ∧ Un (frs outer) [] H H' s.heap s'.heap ∧ HOk P w H' s'.heap ∧ RelV v u ∧ Q v H'
def CR (CX : CXT) (outer : List Env) (P : Program) (w : World) (H : Hp) (s : Shared) (Q : VK) (E : XK) (r : Result) (s' : Shared) : Prop :=
  match r with
  | .ok (.ret u) => CE outer P w H s Q u s'
  | .ok _ => False
  | .error e => CX outer H s E e s'
structure FnOk (P : Program) (w : World) (K : PySem.W.Frag) (mg : Str → Option Value) (base : Heap) (CX : CXT) (k : Nat) (f : Addr) (fd : FuncData) (ps : List Str) (sp : Sp) : Prop where
  len : ∀ vs H Q E, sp vs H Q E → vs.length = ps.length
  run : ∀ (A : Around) (outer : List Env) (s : Shared) (H : Hp) (args : Args) (us : List Value) (vs : List V) (Q : VK) (E : XK), Room k A → Env0 P w K mg base A outer s H → BindsTo s fd args (ps.zip us) → Vals vs us → sp vs H Q E →
    codeAny (model P w) A (.call (.ref f) args) (CR CX outer P w H s Q E) s
theorem FnOk.mono {P : Program} {w : World} {K : PySem.W.Frag} {mg : Str → Option Value} {base : Heap} {CX : CXT} {j k : Nat} {f : Addr} {fd : FuncData} {ps : List Str} {sp : Sp} (F : FnOk P w K mg base CX j f fd ps sp) (h : j ≤ k) :
    FnOk P w K mg base CX k f fd ps sp := ⟨F.len, fun A outer s H args us vs Q E hr => F.run A outer s H args us vs Q E (hr.mono h)⟩
theorem Env0.make {P : Program} {w : World} {K : PySem.W.Frag} {mg : Str → Option Value} {base : Heap} {A : Around} {outer : List Env} {s : Shared} {H : Hp} (e : Env0 P w K mg base A outer s H) (C : Addr) (us : List Value) (kw : List (Str × Value)) :
    Env0 P w K mg base (A.under (.builtin "type.__call__" ⟨.ref C :: us, kw⟩)) outer s H := ⟨by first | exact e.frames | (simpa [Around.under, Code.envs, Code.isFrame, pushEnvs] using e.frames), e.mod, e.bs, e.bsz, e.funs, e.frf, e.hok, e.bare⟩
section
variable {X : Cx} {pins : List (Addr × Obj)} {σ : St} {H : Hp} {s s' : Shared}
/-- from a body: what a callee wants -/
theorem Inv.env0 (I : Inv X pins σ H s) : Env0 X.prog X.w X.K X.mg X.base X.A X.stack s H :=
  ⟨I.ok.frames, I.ok.mod, I.bs, Nat.le_trans I.ok.bsz I.sz, I.stack, I.stkFree, I.hok, I.bare⟩
/-- behind a call -/
theorem Inv.after {Q : VK} {u : Value} (I : Inv X pins σ H s) (h : CE X.stack X.prog X.w H s Q u s') : EP X pins σ Q u s' := by
  obtain ⟨v, H', os, bare, un, hok, r, q⟩ := h
  obtain ⟨hh, g, d, t, os'⟩ := s'
  obtain rfl : os' = s.os := os
  exact ⟨v, H', I.call (h' := hh) (g' := g) (d' := d) (t' := t) (ch := []) un hok bare (fun b z => absurd z (by simp)), r, q⟩
end

/-! ### calls -/
/-- f(..): the written arguments, then the defaults dvs; E: what is wanted of an exception -/
def tCall (sp : Sp) (dvs : List V) (E : XK) (t : TA) : TE := fun σ H Q => t σ H fun vs H1 => sp (vs ++ dvs) H1 Q E
/-- o.m(..) of an instance of the class at C -/
def tMeth (C : Addr) (m : Str) (sp : Sp) (dvs : List V) (E : XK) (ta : TE) (t : TA) : TE := fun σ H Q => ta σ H fun x H1 => ∃ a dx fs, x = .ref a ∧ H1 a = some (.ins C dx fs) ∧ fs.lookup m = none ∧
  t σ H1 fun vs H2 => sp (x :: (vs ++ dvs)) H2 Q E
/-- C(..): a new instance and its dict, then __init__ -/
def tMake (C : Addr) (sp : Sp) (dvs : List V) (E : XK) (t : TA) : TE := fun σ H Q => t σ H fun vs H1 => ∀ x dx, H1 x = none → H1 dx = none → dx ≠ x →
  sp (.ref x :: (vs ++ dvs)) (upd (upd H1 dx (.own x)) x (.ins C dx [])) (fun v H2 => v = .non ∧ Q (.ref x) H2) E

/-- how the parameters are bound: us the positional arguments, kw the keywords' values by name, ds the defaults that fill up -/
def Binds (K : PySem.W.Frag) (fd : FuncData) (ps : List Str) (ds : List Value) : Prop :=
  ∀ (s : Shared) (us : List Value), K.In s.heap → (us ++ ds).length = ps.length → BindsTo s fd ⟨us, []⟩ (ps.zip (us ++ ds))
/-- every parameter is given -/
theorem Binds.all {K : PySem.W.Frag} {fd : FuncData} {ps : List Str} (h : ∀ us : List Value, us.length = ps.length → bindArgs fd ⟨us, []⟩ = pure (ps.zip us)) : Binds K fd ps [] := fun s us _ hl => by
  rw [List.append_nil] at hl ⊢
  exact .of_eq (h us hl)

/-- an exception of a callee reaches what this body wants of exceptions -/
def Passes (CX : CXT) (X : Cx) (E : XK) : Prop := ∀ (pins : List (Addr × Obj)) (σ : St) (H : Hp) (s : Shared) (e : Value) (s' : Shared), Inv X pins σ H s → CX X.stack H s E e s' → X.xe e s'

section
variable {X : Cx} {CX : CXT} {k : Nat} {f C : Addr} {fd : FuncData} {ps : List Str} {sp : Sp} {dvs : List V} {ds : List Value} {E : XK} {x m : Str} {p pos apos : Pos} {e o : Expr} {es : List Expr} {ta : TE} {t : TA}

/-- the callee runs -/
theorem run_fn {pins : List (Addr × Obj)} {σ : St} {H : Hp} {s : Shared} {Q : VK} {us : List Value} {vs : List V} (F : FnOk X.prog X.w X.K X.mg X.base CX k f fd ps sp) (hr : Room k X.A) (hb : Binds X.K fd ps ds) (hd : Vals dvs ds) (hx : Passes CX X E)
    (I : Inv X pins σ H s) (r : Vals vs us) (h : sp (vs ++ dvs) H Q E) : wpAny (model X.prog X.w) X.A (call (.ref f) us) (EP X pins σ Q) X.xe s := by
  have r2 : Vals (vs ++ dvs) (us ++ ds) := r.append hd
  have hl : (us ++ ds).length = ps.length := by rw [← r2.length]; exact F.len _ _ _ _ h
  refine wpAny_call (codeAny_mono (F.run X.A X.stack s H ⟨us, []⟩ (us ++ ds) (vs ++ dvs) Q E hr I.env0 (hb s us I.kIn hl) r2 h) fun r s' hq => ?_)
  cases r with
  | error e => exact hx pins σ H s e s' I hq
  | ok fl =>
    cases fl with
    | ret u => exact I.after hq
    | next => exact False.elim hq
    | brk => exact False.elim hq
    | cont => exact False.elim hq

theorem pe_call (F : FnOk X.prog X.w X.K X.mg X.base CX k f fd ps sp) (hr : Room k X.A) (hg : Gl X x) (hm : X.mg x = some (.ref f)) (hk : PySem.W.keepIn X.K (.ref f) = true) (hb : Binds X.K fd ps ds) (hd : Vals dvs ds) (hx : Passes CX X E)
    (ha : PA X (e :: es) t) (hdb : (x == ("__debug__" : Str)) = false := by decide) (he : starEach (e :: es) X.env = (false, eval e X.env) :: starEach es X.env := by rfl) (hpl : (backTo pos (starEach es X.env)).any (·.1) = false := by rfl) :
    PE X (.Call (.Name x p) (e :: es) [] pos) (tCall sp dvs E t) := by
  intro pins s σ H Q I h
  refine wpAny_Call_Name_kw (ld_glob I hg hm ?_ hdb)
  refine PySem.W.callWith_K (h₀ := X.base) I.ok.mod.kin hk (thn (ha pos pins s σ H _ I h) fun us s1 ⟨vs, H1, I1, r, q⟩ => ⟨I1.kIn, ?_⟩) he hpl
  exact run_fn F hr hb hd hx I1 r q
/-- o.m(e, ..) -/
theorem pe_meth {pl : Sem Bool} (he : PE X o ta) (c : Cls X.K C) (hm : Meth X.K C m f) (F : FnOk X.prog X.w X.K X.mg X.base CX k f fd ps sp) (hr : Room k X.A) (hb : Binds X.K fd ps ds) (hd : Vals dvs ds) (hx : Passes CX X E) (ha : PA X (e :: es) t)
    (hst : starEach (e :: es) X.env = (false, eval e X.env) :: starEach es X.env := by rfl) (hpl : (backTo pos (starEach es X.env)).any (·.1) = false := by rfl)
    (ht : eval (.Call (.Attribute o m apos) (e :: es) [] pos) X.env = (do
      let ov ← eval o X.env
      standAt apos.atName
      let (f, first) ← holding [ov] (getMethod ov m pl)
      callWith pos f first (backTo pos (starEach (e :: es) X.env)) (backToKw pos (keywordEach [] X.env))) := by rfl) :
    PE X (.Call (.Attribute o m apos) (e :: es) [] pos) (tMeth C m sp dvs E ta t) := by
  intro pins s σ H Q I h
  refine PySem.W.methodCall_KW (pl := pl) (thn (he pins s σ H _ I h) fun u s1 ⟨x, H1, I1, rx, a, dx, fs, ex, ea, l, q⟩ => ?_) ht
  subst ex
  obtain rfl : u = Value.ref a := rx
  refine getmeth_ok I1 ea c hm l ?_
  refine PySem.W.callWith_K (first := [.ref a]) (h₀ := X.base) I.ok.mod.kin hm.kp (thn (ha pos pins s1 σ H1 _ I1 q) fun us s2 ⟨vs, H2, I2, r, q2⟩ => ⟨I2.kIn, ?_⟩) hst hpl
  exact run_fn (us := .ref a :: us) (vs := .ref a :: vs) F hr hb hd hx I2 (.cons rfl r) q2
/-- o.m() -/
theorem pe_meth0 {pl : Sem Bool} (he : PE X o ta) (c : Cls X.K C) (hm : Meth X.K C m f) (F : FnOk X.prog X.w X.K X.mg X.base CX k f fd ps sp) (hr : Room k X.A) (hb : Binds X.K fd ps ds) (hd : Vals dvs ds) (hx : Passes CX X E)
    (ht : eval (.Call (.Attribute o m apos) [] [] pos) X.env = (do
      let ov ← eval o X.env
      standAt apos.atName
      let (f, first) ← holding [ov] (getMethod ov m pl)
      callWith pos f first (backTo pos (starEach [] X.env)) (backToKw pos (keywordEach [] X.env))) := by rfl) :
    PE X (.Call (.Attribute o m apos) [] [] pos) (tMeth C m sp dvs E ta tNil) := by
  intro pins s σ H Q I h
  refine PySem.W.methodCall_KW (pl := pl) (thn (he pins s σ H _ I h) fun u s1 ⟨x, H1, I1, rx, a, dx, fs, ex, ea, l, q⟩ => ?_) ht
  subst ex
  obtain rfl : u = Value.ref a := rx
  refine getmeth_ok I1 ea c hm l ?_
  exact PySem.W.callWith_K0 (first := [.ref a]) I1.kIn hm.kp (run_fn (us := [.ref a]) (vs := [.ref a]) F hr hb hd hx I1 (.cons rfl .nil) q)

/-- what a class must have to be made -/
structure Mk (K : PySem.W.Frag) (C f : Addr) : Prop where
  makes : PySem.W.makesIn K C = true
  init : PySem.W.findIn K (.ref C) "__init__" = some (some (.ref f))
  fn : PySem.W.isFn K (.ref f) = true
  kp : PySem.W.keepIn K (.ref C) = true

theorem run_make {pins : List (Addr × Obj)} {σ : St} {H : Hp} {s : Shared} {Q : VK} {us : List Value} {vs : List V} (M : Mk X.K C f) (F : FnOk X.prog X.w X.K X.mg X.base CX k f fd ps sp) (hr : Room (k + 1) X.A) (hb : Binds X.K fd ps ds) (hd : Vals dvs ds)
    (hx : Passes CX X E) (I : Inv X pins σ H s) (r : Vals vs us)
    (h : ∀ x dx, H x = none → H dx = none → dx ≠ x → sp (.ref x :: (vs ++ dvs)) (upd (upd H dx (.own x)) x (.ins C dx [])) (fun v H2 => v = .non ∧ Q (.ref x) H2) E) :
    wpAny (model X.prog X.w) X.A (call (.ref C) us) (EP X pins σ Q) X.xe s := by
  have hq := h (s.heap.objs.size + 1) s.heap.objs.size (I.hok.fresh (Nat.le_succ _)) (I.hok.fresh (Nat.le_refl _)) (Nat.ne_of_lt (Nat.lt_succ_self _))
  have I2 := Inv.made (C := C) I
  have r2 : Vals (V.ref (s.heap.objs.size + 1) :: (vs ++ dvs)) (Value.ref (s.heap.objs.size + 1) :: (us ++ ds)) := .cons rfl (r.append hd)
  have hl : (Value.ref (s.heap.objs.size + 1) :: us ++ ds).length = ps.length := by
    have e := r2.length
    rw [F.len _ _ _ _ hq] at e
    exact e.symm
  refine wpAny_call (make_map (f := f) I.kIn M.makes M.init (beq_iff_eq.mp M.fn) (codeAny_mono (F.run _ X.stack _ _ ⟨Value.ref (s.heap.objs.size + 1) :: us, []⟩ (Value.ref (s.heap.objs.size + 1) :: (us ++ ds)) _ _ E (hr.make C us [])
    (I2.env0.make C us []) (hb _ (Value.ref (s.heap.objs.size + 1) :: us) I2.kIn hl) r2 hq) fun r s' hq' => ?_))
  cases r with
  | error e => exact hx pins σ _ _ e s' I2 hq'
  | ok fl =>
    cases fl with
    | ret u =>
      obtain ⟨v, H', I3, rv, ev, q3⟩ := I2.after hq'
      subst ev
      exact ⟨rv, ⟨V.ref (s.heap.objs.size + 1), H', I3, rfl, q3⟩⟩
    | next => exact False.elim hq'
    | brk => exact False.elim hq'
    | cont => exact False.elim hq'
theorem pe_make (M : Mk X.K C f) (F : FnOk X.prog X.w X.K X.mg X.base CX k f fd ps sp) (hr : Room (k + 1) X.A) (hg : Gl X x) (hm : X.mg x = some (.ref C)) (hb : Binds X.K fd ps ds) (hd : Vals dvs ds) (hx : Passes CX X E)
    (ha : PA X (e :: es) t) (hdb : (x == ("__debug__" : Str)) = false := by decide) (he : starEach (e :: es) X.env = (false, eval e X.env) :: starEach es X.env := by rfl) (hpl : (backTo pos (starEach es X.env)).any (·.1) = false := by rfl) :
    PE X (.Call (.Name x p) (e :: es) [] pos) (tMake C sp dvs E t) := by
  intro pins s σ H Q I h
  refine wpAny_Call_Name_kw (ld_glob I hg hm ?_ hdb)
  refine PySem.W.callWith_K (h₀ := X.base) I.ok.mod.kin M.kp (thn (ha pos pins s σ H _ I h) fun us s1 ⟨vs, H1, I1, r, q⟩ => ⟨I1.kIn, ?_⟩) he hpl
  exact run_make M F hr hb hd hx I1 r q
end

/-! ### keywords -/
/-- the values of the keywords, from the left -/
def PK (X : Cx) (kws : List Keyword) (t : TA) : Prop :=
  ∀ (pos : Pos) (pins : List (Addr × Obj)) (s : Shared) (σ : St) (H : Hp) (Q : List V → Hp → Prop), Inv X pins σ H s → t σ H Q → wpAny (model X.prog X.w) X.A (evalAll ((backToKw pos (keywordEach kws X.env)).map (·.2))) (AP X pins σ Q) X.xe s
section
variable {X : Cx} {CX : CXT} {k : Nat} {f C : Addr} {fd : FuncData} {ps ks : List Str} {sp : Sp} {E : XK} {x m : Str} {p pos apos kpos : Pos} {e o : Expr} {es : List Expr} {kws : List Keyword} {te ta : TE} {t tk : TA} {nm : Option Str}
/-- how a call with keywords binds: g puts the positional values us and the keywords' values ws (names ks) in the parameters' order, defaults among them -/
structure KBinds (K : PySem.W.Frag) (fd : FuncData) (ps ks : List Str) (g : List Value → List Value → List Value) (gV : List V → List V → List V) : Prop where
  to : ∀ (s : Shared) (us ws : List Value), K.In s.heap → (g us ws).length = ps.length → BindsTo s fd ⟨us, ks.zip ws⟩ (ps.zip (g us ws))
  rel : ∀ {vs : List V} {us : List Value} {zs : List V} {ws : List Value}, Vals vs us → Vals zs ws → Vals (gV vs zs) (g us ws)
def tCallK (sp : Sp) (gV : List V → List V → List V) (E : XK) (t tk : TA) : TE := fun σ H Q => t σ H fun vs H1 => tk σ H1 fun zs H2 => sp (gV vs zs) H2 Q E
variable {g : List Value → List Value → List Value} {gV : List V → List V → List V}
end

/-! ### a def's body keeps its promise -/
/-- names: the parameters first -/
structure FnScope (N P : List Str) (sc : Scope) : Prop where
  kind : sc.kind = .function
  co : sc.isCoroutine = false
  gen : sc.isGenerator = false
  nd : N.Nodup
  pre : N.take P.length = P
  par : ∀ x ∈ P, sc.names.lookup x = some .local ∨ sc.names.lookup x = some .cell
  nofree : ∀ y ∈ sc.names, y.2 ≠ .free

theorem bindL_out {kindOf : Str → Option NameKind} {x : Str} : ∀ {binds : List (Str × Value)} {m : Str → Option Value}, (∀ v, (x, v) ∉ binds) → bindL kindOf binds m x = m x
  | [], _, _ => rfl
  | (n, v) :: r, m, h => by
    unfold bindL
    rw [bindL_out fun w hw => h w (List.mem_cons_of_mem _ hw)]
    split
    · have : x ≠ n := by rintro rfl; exact h v List.mem_cons_self
      simp [this]
    · rfl
theorem bindC_out {kindOf : Str → Option NameKind} {x : Str} : ∀ {binds : List (Str × Value)} {m : Str → Option Value}, (∀ v, (x, v) ∉ binds) → bindC kindOf binds m x = m x
  | [], _, _ => rfl
  | (n, v) :: r, m, h => by
    unfold bindC
    rw [bindC_out fun w hw => h w (List.mem_cons_of_mem _ hw)]
    split
    · rfl
    · have : x ≠ n := by rintro rfl; exact h v List.mem_cons_self
      simp [this]
theorem bindL_get {kindOf : Str → Option NameKind} {x : Str} {v : Value} : ∀ {P : List Str} {vs : List Value} {i : Nat} {m : Str → Option Value}, P.Nodup → P[i]? = some x → vs[i]? = some v → kindOf x = some .local →
    bindL kindOf (P.zip vs) m x = some v
  | [], _, _, _, _, h, _, _ => by simp at h
  | _ :: _, [], _, _, _, _, h, _ => by simp at h
  | p :: P, w :: vs, 0, m, nd, h1, h2, hk => by
    simp at h1 h2; subst h1; subst h2
    show bindL kindOf ((p, w) :: P.zip vs) m p = _
    unfold bindL
    rw [bindL_out fun v hv => (List.nodup_cons.mp nd).1 (List.of_mem_zip hv).1, if_pos hk]
    simp
  | p :: P, w :: vs, i + 1, m, nd, h1, h2, hk => by
    show bindL kindOf ((p, w) :: P.zip vs) m x = _
    unfold bindL
    exact bindL_get (i := i) (List.nodup_cons.mp nd).2 (by simpa using h1) (by simpa using h2) hk
theorem bindC_get {kindOf : Str → Option NameKind} {x : Str} {v : Value} : ∀ {P : List Str} {vs : List Value} {i : Nat} {m : Str → Option Value}, P.Nodup → P[i]? = some x → vs[i]? = some v → kindOf x ≠ some .local →
    bindC kindOf (P.zip vs) m x = some v
  | [], _, _, _, _, h, _, _ => by simp at h
  | _ :: _, [], _, _, _, _, h, _ => by simp at h
  | p :: P, w :: vs, 0, m, nd, h1, h2, hk => by
    simp at h1 h2; subst h1; subst h2
    show bindC kindOf ((p, w) :: P.zip vs) m p = _
    unfold bindC
    rw [bindC_out fun v hv => (List.nodup_cons.mp nd).1 (List.of_mem_zip hv).1, if_neg hk]
    simp
  | p :: P, w :: vs, i + 1, m, nd, h1, h2, hk => by
    show bindC kindOf ((p, w) :: P.zip vs) m x = _
    unfold bindC
    exact bindC_get (i := i) (List.nodup_cons.mp nd).2 (by simpa using h1) (by simpa using h2) hk

/-- the names' values at the entry -/
def start (N : List Str) (vs : List V) : St := vs.map some ++ List.replicate (N.length - vs.length) none

/-- the context of a def's body, at its entry; an exception leaves the frame, then lies as CX says -/
def cxOf (CX : CXT) (P : Program) (w : World) (K : PySem.W.Frag) (mg : Str → Option Value) (base : Heap) (N : List Str) (qual : Str) (scope : Scope) (f : Addr) (cd : Value) (A : Around) (outer : List Env) (s : Shared) (H : Hp) (E : XK) : Cx where
  prog := P
  w := w
  K := K
  mg := mg
  base := base
  A := A.deeper (envOfC qual scope s.heap.objs.size f cd)
  N := N
  s₀ := s
  H₀ := H
  env := envOfC qual scope s.heap.objs.size f cd
  outer := outer
  stack := envOfC qual scope s.heap.objs.size f cd :: outer
  ex := []
  calm := true
  fn := fun _ => true
  pn := []
  xe := fun e s' => wpAny (model P w) (A.deeper (envOfC qual scope s.heap.objs.size f cd)) (leaving (envOfC qual scope s.heap.objs.size f cd) e) (fun _ s'' => CX outer H s E e s'') (fun e' s'' => CX outer H s E e' s'') s'

theorem cell_has {sc : Scope} {n : Nat} {x : Str} (h : sc.names.lookup x = some .cell) : ∃ c, (cellsFrom n sc.names []).lookup x = some c := by
  have q := PySem.W.cellsFrom_some sc.names n [] (.inl h)
  exact Option.isSome_iff_exists.mp q

theorem inv_start {CX : CXT} {P : Program} {w : World} {K : PySem.W.Frag} {mg : Str → Option Value} {base : Heap} {N ps : List Str} {qual : Str} {scope : Scope} {f : Addr} {cd : Value} {A : Around} {outer : List Env} {s s1 : Shared} {H : Hp} {E : XK} {us : List Value} {vs : List V}
    (S : FnScope N ps scope) (hd : A.handled = none) (e0 : Env0 P w K mg base A outer s H) (hl : vs.length = ps.length) (r : Vals vs us)
    (x : InCallC s s.heap.objs.size (bindL (envOfC qual scope s.heap.objs.size f cd).kindOf (ps.zip us) fun _ => none) (cellsFrom (s.heap.objs.size + 1) scope.names []) (bindC (envOfC qual scope s.heap.objs.size f cd).kindOf (ps.zip us) fun _ => none) s1) :
    Inv (cxOf CX P w K mg base N qual scope f cd A outer s H E) [] (start N vs) H s1 := by
  have hpl : ps.length ≤ N.length := by have := congrArg List.length S.pre; rw [List.length_take] at this; omega
  obtain ⟨h1, tk, rfl, hk⟩ := x.done
  have noA : ∀ b : Addr, b ∉ (cxOf CX P w K mg base N qual scope f cd A outer s H E).ex := fun b z => absurd (show b ∈ ([] : List Addr) from z) (by simp)
  refine ⟨⟨e0.mod, S.kind, rfl, rfl, Nat.le_refl _, fun y z c h1 h2 => ?_, fun y hy => ?_, fun y c _ h => ?_, fun _ => hd, Around.frames_deeper e0.frames, .inr ⟨rfl, rfl⟩, fun b z => absurd z (noA b), e0.bs, e0.bsz, fun b _ _ => noA b, fun b z => absurd z (noA b), e0.funs, e0.frf⟩,
    rfl, e0.bare, Un.kept hk, ⟨_, x.toInCall.ns, fun i y v h1 h2 h3 => ?_⟩, fun y c h => ⟨_, x.cell y c h⟩, e0.hok.fresh (Nat.le_refl _), fun y c h => ?_, fun p hp => absurd (show p ∈ ([] : List (Addr × Obj)) from hp) (by simp), e0.hok.kept hk, ?_⟩
  · exact name_of_addr x.apart (PySem.mem_of_lookup h1) (PySem.mem_of_lookup h2)
  · have hy : scope.names.lookup y = some .cell ∨ scope.names.lookup y = some .free := hy
    rcases hy with hy | hy
    · exact cell_has hy
    · exact absurd rfl (S.nofree _ (PySem.mem_of_lookup hy))
  · exact Nat.le_of_lt (x.above y c (PySem.mem_of_lookup h))
  · have hi : i < vs.length := by
      unfold start at h2
      by_cases hi : i < vs.length
      · exact hi
      · rw [List.getElem?_append_right (by simpa using hi)] at h2
        rw [List.getElem?_replicate] at h2
        split at h2 <;> cases h2
    have ha : vs[i]? = some v := by
      unfold start at h2
      rw [List.getElem?_append_left (by simpa using hi), List.getElem?_map] at h2
      cases e : vs[i]? with
      | none => rw [e] at h2; cases h2
      | some a => rw [e] at h2; cases h2; rfl
    obtain ⟨u, hu, rv⟩ := r.get ha
    have hp : ps[i]? = some y := by
      rw [← S.pre, List.getElem?_take_of_lt (by omega)]; exact h1
    have ndP : ps.Nodup := by rw [← S.pre]; exact S.nd.sublist (List.take_sublist _ _)
    refine ⟨u, rv, ?_⟩
    rcases S.par y (List.mem_of_getElem? hp) with k | k
    · exact .inl ⟨k, bindL_get ndP hp hu k⟩
    · obtain ⟨c, e⟩ := cell_has (n := s.heap.objs.size + 1) k
      refine .inr ⟨.inl k, c, e, ?_⟩
      have q := x.cell y c e
      rw [bindC_get ndP hp hu (by show scope.names.lookup y ≠ _; rw [k]; decide)] at q
      exact q
  · exact e0.hok.fresh (Nat.le_of_lt (x.above y c (PySem.mem_of_lookup h)))
  · unfold start
    show _ = N.length
    rw [List.length_append, List.length_map, List.length_replicate]
    omega

/-- THE RULE: a def (or a method) of the text, by its body. The body's reading t is chosen for each entry; it is run at the parameters' values -/
theorem fn_of {CX : CXT} {P : Program} {w : World} {K : PySem.W.Frag} {mg : Str → Option Value} {base : Heap} {k : Nat} {f : Addr} {name qual : Str} {params : Arguments} {body : List Stmt} {scope : Scope} {dV kV doc pm cdv ct oc : Value} {an od : Option Addr}
    {osl : Array (Option Value)} {N ps : List Str} {sp : Sp} (lk : K.lookup f = some ⟨oc, od, .func (PySem.W.fnOf name qual params body scope dV kV doc pm an cdv ct), osl⟩) (hcd : PySem.W.codeIn K cdv qual = true) (S : FnScope N ps scope)
    (len : ∀ vs H Q E, sp vs H Q E → vs.length = ps.length)
    (hbody : ∀ (A : Around) (outer : List Env) (s : Shared) (H : Hp) (vs : List V) (Q : VK) (E : XK), Room k (A.deeper (envOfC qual scope s.heap.objs.size f cdv)) → sp vs H Q E →
      ∃ t, PSs (cxOf CX P w K mg base N qual scope f cdv A outer s H E) body t ∧ t { nx := fun _ H' => Q .non H', rt := Q } (start N vs) H) :
    FnOk P w K mg base CX (k + 1) f (PySem.W.fnOf name qual params body scope dV kV doc pm an cdv ct) ps sp := by
  refine ⟨len, fun A outer s H args us vs Q E hr e0 hb r hsp => ?_⟩
  have hl := len _ _ _ _ hsp
  have KX : K.In s.heap := e0.mod.kin.keeps fun b o e => (e0.bs b o e).1
  have lim : s.heap.NoLimit := e0.mod.nolimit.keeps fun b o e => (e0.bs b o e).1
  have hkind : ∀ y ∈ ps.zip us, scope.names.lookup y.1 = some .local ∨ (scope.names.lookup y.1 = some .cell ∧ ((cellsFrom (s.heap.objs.size + 1) scope.names []).lookup y.1).isSome = true) := fun ⟨n, v⟩ hy => by
    rcases S.par n (List.of_mem_zip hy).1 with q | q
    · exact .inl q
    · exact .inr ⟨q, PySem.W.cellsFrom_some _ _ _ (.inl q)⟩
  refine codeAny_call_function hr.depth (KX _ _ lk) rfl S.co S.gen rfl (PySem.W.codeRec_of KX hcd) (hb _ _ _ _ ?_)
  refine wpAny_newFunctionEnv_cells S.kind hkind fun env he s1 x => ?_
  subst he
  refine ⟨lim.keeps x.toInCall.keep, codeAny_func ?_⟩
  obtain ⟨t, ht, hq⟩ := hbody A outer s H vs Q E (hr.deeper _) hsp
  have I : Inv (cxOf CX P w K mg base N qual scope f cdv A outer s H E) [] (start N vs) H s1 := inv_start S hr.hd e0 hl r x
  refine wpAny_mono (ht [] s1 (start N vs) H _ I hq) (fun fl s' hs => ?_) fun e s' hs => hs
  have fin : ∀ {σ' : St} {H' : Hp} {v : V} {u : Value}, Inv (cxOf CX P w K mg base N qual scope f cdv A outer s H E) [] σ' H' s' → RelV v u → Q v H' → CE outer P w H s Q u s' :=
    fun {σ' H' v u} J rv q => ⟨v, H', J.os, J.bare, J.base, J.hok, rv, q⟩
  cases fl with
  | ret u =>
    obtain ⟨v, σ', H', J, rv, q⟩ := hs
    exact fin J rv q
  | next =>
    obtain ⟨σ', H', J, q⟩ := hs
    exact fin (v := V.non) (u := Value.none) J rfl q
  | brk =>
    obtain ⟨_, _, _, q⟩ := hs
    exact False.elim q
  | cont =>
    obtain ⟨_, _, _, q⟩ := hs
    exact False.elim q
end L2

namespace L2
open PySem PySem.Spec PyProof.Rows
section
variable {X : Cx} {x : Str} {p pos : Pos} {e : Expr} {es : List Expr} {t : TA} {id T : String} {r : List V → Hp → VK → Prop}

def tCB (r : List V → Hp → VK → Prop) (t : TA) : TE := fun σ H Q => t σ H fun vs H1 => r vs H1 Q
/-- f(e, ..), f a built-in function -/
theorem pe_callB (hc : CallR X (.builtin id) r) (hg : Gl X x) (hm : X.mg x = none) (hv : bootBuiltins x = some (.builtin id)) (ha : PA X (e :: es) t) (hn : x ≠ "__name__" := by decide) (hdb : (x == ("__debug__" : Str)) = false := by decide)
    (he : starEach (e :: es) X.env = (false, eval e X.env) :: starEach es X.env := by rfl) (hpl : (backTo pos (starEach es X.env)).any (·.1) = false := by rfl) : PE X (.Call (.Name x p) (e :: es) [] pos) (tCB r t) := by
  intro pins s σ H Q I h
  refine wpAny_Call_Name_kw (ld_blt I hg hm hv ?_ hn hdb)
  exact PyProof.Rows.callWith_builtin1 (thn (ha pos pins s σ H _ I h) fun us s1 ⟨vs, H1, I1, r1, q1⟩ => hc pins s1 σ H1 vs us Q I1 r1 q1) he hpl
/-- T(e, ..), T a built-in type -/
theorem pe_callTy (hc : CallR X (.type T) r) (hg : Gl X x) (hm : X.mg x = none) (hv : bootBuiltins x = some (.type T)) (ha : PA X (e :: es) t) (hn : x ≠ "__name__" := by decide) (hdb : (x == ("__debug__" : Str)) = false := by decide)
    (he : starEach (e :: es) X.env = (false, eval e X.env) :: starEach es X.env := by rfl) (hpl : (backTo pos (starEach es X.env)).any (·.1) = false := by rfl) : PE X (.Call (.Name x p) (e :: es) [] pos) (tCB r t) := by
  intro pins s σ H Q I h
  refine wpAny_Call_Name_kw (ld_blt I hg hm hv ?_ hn hdb)
  exact PyProof.Rows.callWith_type1 (thn (ha pos pins s σ H _ I h) fun us s1 ⟨vs, H1, I1, r1, q1⟩ => hc pins s1 σ H1 vs us Q I1 r1 q1) he hpl
end
end L2

namespace HT
open PySem PyProof.Rows

/-- t < u of tuples of ints -/
def lexLt : List Int → List Int → Bool
  | [], [] => false
  | [], _ :: _ => true
  | _ :: _, [] => false
  | x :: xs, y :: ys => if x = y then lexLt xs ys else decide (x < y)
section
open PySem.SeqAt
open PySem.AutoSeq1 (wpAny_loadPart')
open PySem.MeetsSeq PySem.MeetsSeq2 PySem.MeetsSeq3

end

section
variable {prog : Program} {w : World} {A : Around} {E : Value → Shared → Prop} {s : Shared}

/-! ### t[a:b], not the whole -/
/-- a slice's bound as a place among n (d where it is left out) -/
def sIx (n d : Nat) : Option Int → Nat
  | none => d
  | some v => if v < 0 then (v + (n : Int)).toNat else min v.toNat n
theorem sIx_none (n d : Nat) : sIx n d none = d := rfl
theorem sIx_nat (n d k : Nat) : sIx n d (some (k : Int)) = min k n := by
  show (if (k : Int) < 0 then ((k : Int) + (n : Int)).toNat else min (k : Int).toNat n) = min k n
  rw [if_neg (by omega), Int.toNat_natCast]
theorem sIx_le (n d : Nat) (hd : d ≤ n) (o : Option Int) : sIx n d o ≤ n := by
  cases o with
  | none => exact hd
  | some v =>
    show (if v < 0 then (v + (n : Int)).toNat else min v.toNat n) ≤ n
    by_cases hv : v < 0
    · rw [if_pos hv]; omega
    · rw [if_neg hv]; exact Nat.min_le_right _ _
theorem clip_eq (v : Int) (n d : Nat) : (if v < 0 then max (v + (n : Int)) 0 else min v (n : Int)) = ((sIx n d (some v) : Nat) : Int) := by
  show (if v < 0 then max (v + (n : Int)) 0 else min v (n : Int)) = (((if v < 0 then (v + (n : Int)).toNat else min v.toNat n) : Nat) : Int)
  by_cases hv : v < 0
  · simp only [if_pos hv]; omega
  · simp only [if_neg hv]; omega
theorem adjust_gen (lo hi : Option Int) (n : Nat) : Builtin.Slice.sliceAdjust lo hi 1 (n : Int) = (((sIx n 0 lo : Nat) : Int), ((sIx n n hi : Nat) : Int)) := by
  have h1 : ¬ ((1 : Int) < 0) := by omega
  unfold Builtin.Slice.sliceAdjust
  simp only [h1, if_false]
  refine Prod.ext ?_ ?_
  · cases lo with
    | none => rfl
    | some v => exact clip_eq v n 0
  · cases hi with
    | none => rfl
    | some v => exact clip_eq v n n
theorem places_gen (i j : Nat) : Builtin.Slice.slicePlaces (i : Int) (j : Int) 1 = j - i := by
  unfold Builtin.Slice.slicePlaces
  have h1 : (1 : Int) > 0 := by omega
  simp only [h1, if_true, Int.ediv_one]
  split <;> omega
theorem slicePart_ {v : Value} {o : Option Int} {Q : Option Int → Shared → Prop} (p : IsPart v o) (h : Q o s) : wpAny (model prog w) A (Builtin.Slice.slicePartIndex v) Q E s := by
  cases p with
  | none => exact slicePart_none h
  | int i t => exact slicePart_int h
theorem sliceApplied_gen {sl : Addr} {vl vu : Value} {lo hi : Option Int} {n : Nat} {Q : Int × Int × Nat → Shared → Prop} (hs : s.heap.IsSliceOf sl vl vu .none) (pl : IsPart vl lo) (pu : IsPart vu hi)
    (h : Q (((sIx n 0 lo : Nat) : Int), 1, sIx n n hi - sIx n 0 lo) s) : wpAny (model prog w) A (Builtin.Slice.sliceApplied (.ref sl) (pure (n : Int))) Q E s := by
  obtain ⟨os, hos, hcs, hds⟩ := id hs
  unfold Builtin.Slice.sliceApplied Builtin.Slice.sliceFields
  refine wpAny_bind (wpAny_bind (wpAny_field hos hds (x := vl) rfl (wpAny_bind (wpAny_field hos hds (x := vu) rfl (wpAny_bind (wpAny_field hos hds (x := .none) rfl (wpAny_pure ?_)))))))
  refine wpAny_bind (slicePart_none ?_)
  show wpAny _ _ (if ((1 : Int) == 0) = true then _ else _) _ _ s
  rw [if_neg (by decide)]
  refine wpAny_bind (slicePart_ pl (wpAny_bind (slicePart_ pu (wpAny_bind (wpAny_pure ?_)))))
  show wpAny _ _ (match Builtin.Slice.sliceAdjust lo hi 1 (n : Int) with | (lo, hi) => pure (lo, (1 : Int), Builtin.Slice.slicePlaces lo hi 1)) _ _ s
  rw [adjust_gen lo hi n]
  show wpAny _ _ (pure (((sIx n 0 lo : Nat) : Int), (1 : Int), Builtin.Slice.slicePlaces ((sIx n 0 lo : Nat) : Int) ((sIx n n hi : Nat) : Int) 1)) _ _ s
  rw [places_gen]
  exact wpAny_pure h
theorem pick_gen (xs : Array Value) (i k : Nat) : ((List.range k).filterMap fun (m : Nat) => xs[((i : Int) + (m : Int) * 1).toNat]?).toArray = ((xs.toList.drop i).take k).toArray := by
  have e : (fun (m : Nat) => xs[((i : Int) + (m : Int) * 1).toNat]?) = fun m => xs[i + m]? := by
    funext m
    have : ((i : Int) + (m : Int) * 1).toNat = i + m := by omega
    rw [this]
  rw [e]
  have := pick_run xs i k
  rw [List.filterMap_map] at this
  have e2 : ((fun x => xs[x]?) ∘ fun x => i + x) = fun m => xs[i + m]? := rfl
  rw [e2] at this
  rw [this]

theorem getItem_tuple_cut {t sl : Addr} {items : Array Value} {vl vu : Value} {lo hi : Option Int} {Q : Value → Shared → Prop} (ht : IsTup s.heap t items) (hs : s.heap.IsSliceOf sl vl vu .none) (pl : IsPart vl lo) (pu : IsPart vu hi)
    (hw : ¬ (sIx items.size 0 lo = 0 ∧ sIx items.size items.size hi = items.size))
    (h : Q (.ref s.heap.objs.size) { s with heap := s.heap.push { cls := .type "tuple", data := .seq ((items.toList.drop (sIx items.size 0 lo)).take (sIx items.size items.size hi - sIx items.size 0 lo)).toArray } })
    (hsz : items.size ≤ sizeLine) : wpAny (model prog w) A (getItem (.ref t) (.ref sl)) Q E s := by
  have htake : sizeOk (.seq ((items.toList.drop (sIx items.size 0 lo)).take (sIx items.size items.size hi - sIx items.size 0 lo)).toArray) := by
    show ((items.toList.drop (sIx items.size 0 lo)).take (sIx items.size items.size hi - sIx items.size 0 lo)).toArray.size ≤ sizeLine
    rw [List.size_toArray, List.length_take, List.length_drop, Array.length_toList]
    omega
  have hj : sIx items.size items.size hi ≤ items.size := sIx_le _ _ (Nat.le_refl _) hi
  obtain ⟨os, hos, hcs, hds⟩ := id hs
  have hTs : s.TypeIs (.ref sl) "slice" := ⟨os, hos, hcs⟩
  unfold getItem
  try with_reducible refine wpAny_holding ?_
  first | refine wpAny_bind (wpAny_pure ?_) | skip
  refine wpAny_bind (wpAny_sequenceKey ht.typeIs (by decide) ?_)
  refine wpAny_bind (wpAny_callSpecial?_slot (name := Str.ofString "__getitem__") ht.typeIs PyProof.Rows.slot_tuple_getitem
    (wpAny_call_entry PyProof.Rows.slot_tuple_getitem ht.typeIs entry_tuple_getitem ?_ (args_tuple_getitem _ _)))
  show wpAny _ _ (Builtin.Tuple.tupleItemsOf (.ref t) >>= _) _ _ s
  refine wpAny_bind (tupleItemsOf_ ht ?_)
  refine wpAny_bind (wpAny_typeOf hTs ?_)
  rw [if_pos (by decide)]
  refine wpAny_bind (sliceApplied_gen hs pl pu ?_)
  have hno : ¬ ((((sIx items.size 0 lo : Nat) : Int) == 0 && (1 : Int) == 1 && (sIx items.size items.size hi - sIx items.size 0 lo) == items.size) = true) := by
    intro q
    rw [Bool.and_eq_true, Bool.and_eq_true] at q
    have q1 : ((sIx items.size 0 lo : Nat) : Int) = 0 := eq_of_beq q.1.1
    have q2 : sIx items.size items.size hi - sIx items.size 0 lo = items.size := eq_of_beq q.2
    exact hw ⟨by omega, by omega⟩
  show wpAny _ _ (if (((sIx items.size 0 lo : Nat) : Int) == 0 && (1 : Int) == 1 && (sIx items.size items.size hi - sIx items.size 0 lo) == items.size) = true then _ else _) _ _ s
  rw [if_neg hno, pick_gen]
  first
    | exact wpAny_bind (m := Builtin.Tuple.tupleExact _) (wpAny_newObj_type (wpAny_pure ⟨_, rfl, wpAny_pure h⟩) htake)
    | exact wpAny_bind (m := Builtin.Tuple.tupleExact _) (wpAny_newObj_type (wpAny_bind (wpAny_pure (wpAny_pure ⟨_, rfl, wpAny_pure h⟩))) htake)
    | exact wpAny_bind (wpAny_bind (m := Builtin.Tuple.tupleExact _) (wpAny_newObj_type (wpAny_pure (wpAny_pure ⟨_, rfl, wpAny_pure h⟩)) htake))
    | exact wpAny_bind (wpAny_bind (m := Builtin.Tuple.tupleExact _) (wpAny_newObj_type (wpAny_pure ⟨_, rfl, wpAny_pure h⟩) htake))
end
end HT

namespace L2
open PySem PySem.Spec PyProof.Rows

/-! ### the parts of a slice -/
abbrev TO := St → Hp → (Option Int → Hp → Prop) → Prop
/-- a slice's part (left out, or an int) -/
def PO (X : Cx) (e : Option Expr) (t : TO) : Prop :=
  ∀ (pins : List (Addr × Obj)) (s : Shared) (σ : St) (H : Hp) (Q : Option Int → Hp → Prop), Inv X pins σ H s → t σ H Q →
    wpAny (model X.prog X.w) X.A (evalPart e X.env) (fun u s' => ∃ o H', Inv X pins σ H' s' ∧ IsPart u o ∧ Q o H') X.xe s
def tNoPart : TO := fun _ H Q => Q none H
def tPart (t : TE) : TO := fun σ H Q => t σ H fun x H1 => ∃ i, x = .int i ∧ Q (some i) H1

theorem intsAre_of {ns : List Int} : ∀ {us : List Value}, Vals (ns.map V.int) us → IntsAre us ns := by
  induction ns with
  | nil => intro us r; rw [List.map_nil] at r; cases r; exact .nil
  | cons n ns ih =>
    intro us r
    rw [List.map_cons] at r
    cases r with
    | cons r1 r2 =>
      obtain ⟨t, e⟩ := r1
      subst e
      exact .cons n t (ih r2)

section
variable {X : Cx} {e : Expr} {te : TE} {lo hi : Option Expr} {tl th : TO} {pos p2 : Pos}

theorem po_none : PO X none tNoPart := by
  intro pins s σ H Q I h
  rw [evalPart_none]
  exact wpAny_pure ⟨none, H, I, .none, h⟩
theorem po_some (h : PE X e te) : PO X (some e) (tPart te) := by
  intro pins s σ H Q I hw
  rw [evalPart_some]
  refine thn (h pins s σ H _ I hw) fun u s1 ⟨x, H1, I1, r1, q1⟩ => ?_
  obtain ⟨i, rfl, q⟩ := q1
  obtain ⟨t, rfl⟩ := r1
  exact ⟨some i, H1, I1, .int i t, q⟩

/-- what a slice of a value is, by values: the slice object stands at sl -/
def SlR (X : Cx) (r : V → Option Int → Option Int → Hp → VK → Prop) : Prop :=
  ∀ (pins : List (Addr × Obj)) (s : Shared) (σ : St) (H : Hp) (x : V) (v vl vu : Value) (lo hi : Option Int) (sl : Addr) (Q : VK), Inv X pins σ H s → RelV x v → s.heap.IsSliceOf sl vl vu .none → IsPart vl lo → IsPart vu hi → r x lo hi H Q →
    ∃ T id, typeLookup (.type T) "__getitem__" = pure (some (.builtin id)) ∧ s.TypeIs v T ∧ wpAny (model X.prog X.w) X.A (getItem v (.ref sl)) (EP X pins σ Q) X.xe s
def tSl (r : V → Option Int → Option Int → Hp → VK → Prop) (te : TE) (tl th : TO) : TE := fun σ H Q => te σ H fun x H1 => tl σ H1 fun l H2 => th σ H2 fun u H3 => r x l u H3 Q
/-- a[lo:hi], any a -/
theorem pe_slice {r : V → Option Int → Option Int → Hp → VK → Prop} (hr : SlR X r) (he : PE X e te) (hl : PO X lo tl) (hu : PO X hi th) : PE X (.Subscript e (.Slice lo hi none p2) pos) (tSl r te tl th) := by
  intro pins s σ H Q I h
  refine Subscript_ (thn (he pins s σ H _ I h) fun v s1 ⟨x, H1, I1, r1, q1⟩ => ?_)
  refine wpAny_Slice (thn (hl pins s1 σ H1 _ I1 q1) fun vl s2 ⟨l, H2, I2, pl, q2⟩ => thn (hu pins s2 σ H2 _ I2 q2) fun vu s3 ⟨u, H3, I3, pu, q3⟩ => ?_)
  rw [evalPart_none]
  refine wpAny_pure ?_
  have I4 : Inv X pins σ H3 { s3 with heap := s3.heap.push { cls := .type "slice", data := .fields #[vl, vu, .none] } } := I3.kept (t' := s3.toks) fun b ob q => Heap.get?_push_of_some _ q
  obtain ⟨T, id, hT, ht, hg⟩ := hr pins { s3 with heap := s3.heap.push { cls := .type "slice", data := .fields #[vl, vu, .none] } } σ H3 x v vl vu l u s3.heap.objs.size Q I4 r1 (Heap.IsSliceOf.new ..) pl pu q3
  show wpAny (model X.prog X.w) X.A (subscriptTail e (.Slice lo hi none p2) v (.ref s3.heap.objs.size)) (EP X pins σ Q) X.xe { s3 with heap := s3.heap.push { cls := .type "slice", data := .fields #[vl, vu, .none] } }
  exact tail_any (ops := [.ref s3.heap.objs.size, v]) ht hT hg (by with_unfolding_all rfl)

/-- the items of xs[lo:hi] -/
def cutV (xs : List V) (lo hi : Option Int) : List V := (xs.drop (HT.sIx xs.length 0 lo)).take (HT.sIx xs.length xs.length hi - HT.sIx xs.length 0 lo)
theorem cutV_length (xs : List V) (lo hi : Option Int) : (cutV xs lo hi).length ≤ xs.length := by
  unfold cutV
  rw [List.length_take, List.length_drop]
  omega
/-- t[lo:hi], not the whole of it (the whole would be t itself) -/
def rSlT (K : PySem.W.Frag) : V → Option Int → Option Int → Hp → VK → Prop := fun x lo hi H Q => ∃ a xs, x = .ref a ∧ SqT K H a xs ∧
  ¬ (HT.sIx xs.length 0 lo = 0 ∧ HT.sIx xs.length xs.length hi = xs.length) ∧ ∀ p, H p = none → Q (.ref p) (upd H p (.tup (cutV xs lo hi)))
/-! ### t < u, t + u -/
def rLtT (K : PySem.W.Frag) : R2 := fun x y H Q => ∃ a b ns ms, x = .ref a ∧ y = .ref b ∧ SqT K H a (ns.map V.int) ∧ SqT K H b (ms.map V.int) ∧ Q (.bl (HT.lexLt ns ms)) H
/-- t + u, t not empty: u empty gives t itself -/
def rCatT (K : PySem.W.Frag) : R2 := fun x y H Q => ∃ a b xs ys, x = .ref a ∧ y = .ref b ∧ SqT K H a xs ∧ SqT K H b ys ∧ xs ≠ [] ∧ xs.length + ys.length ≤ sizeLine ∧
  (ys = [] → Q (.ref a) H) ∧ (ys ≠ [] → ∀ p, H p = none → Q (.ref p) (upd H p (.tup (xs ++ ys))))
theorem Vals.nil_iff {xs : List V} {us : List Value} (r : Vals xs us) : us = [] ↔ xs = [] := by
  cases r with
  | nil => simp
  | cons _ _ => simp
end
end L2

namespace L2
open PySem PySem.Spec PyProof.Rows

/-! ### places -/
/-- the place that an index of any sign means -/
def ixN (n : Nat) (i : Int) : Option Nat := if 0 ≤ i then (if i < n then some i.toNat else none) else if -(n : Int) ≤ i then some (i + n).toNat else none
def atI {α : Type} (xs : List α) (i : Int) : Option α := (ixN xs.length i).bind fun j => xs[j]?
theorem ixN_seq {n : Nat} {i : Int} {j : Nat} (h : ixN n i = some j) : seqIndex? i n = some j ∧ j < n ∧ -(n : Int) ≤ i ∧ i < n := by
  unfold ixN at h
  by_cases h0 : 0 ≤ i
  · rw [if_pos h0] at h
    by_cases h1 : i < n
    · rw [if_pos h1] at h
      have e : i.toNat = j := Option.some.inj h
      exact ⟨by rw [seqIndex_of h0 h1, e], by omega, by omega, h1⟩
    · rw [if_neg h1] at h; cases h
  · rw [if_neg h0] at h
    by_cases h1 : -(n : Int) ≤ i
    · rw [if_pos h1] at h
      have e : (i + n).toNat = j := Option.some.inj h
      exact ⟨by rw [seqIndex_neg (by omega) h1, e], by omega, h1, by omega⟩
    · rw [if_neg h1] at h; cases h
theorem atI_get {α : Type} {xs : List α} {i : Int} {v : α} (h : atI xs i = some v) : ∃ j, seqIndex? i xs.length = some j ∧ xs[j]? = some v ∧ j < xs.length ∧ -(xs.length : Int) ≤ i ∧ i < xs.length := by
  unfold atI at h
  cases e : ixN xs.length i with
  | none => rw [e] at h; cases h
  | some j =>
    rw [e] at h
    obtain ⟨h1, h2, h3, h4⟩ := ixN_seq e
    exact ⟨j, h1, h, h2, h3, h4⟩
theorem atI_nat {α : Type} {xs : List α} {j : Nat} {v : α} (h : xs[j]? = some v) : atI xs (j : Int) = some v := by
  have hj : j < xs.length := (List.getElem?_eq_some_iff.mp h).1
  have e : ixN xs.length (j : Int) = some j := by
    unfold ixN
    rw [if_pos (by omega), if_pos (by omega)]; simp
  unfold atI; rw [e]; exact h
/-! ### what may be subscripted -/
/-- what stands as an index of a plain subscript -/
def PlainIx (b : Expr) : Prop := ∀ o i, subscripted b false o i = operate [o, i] (getItem o i)
/-- a subscript by values -/
def IxR (X : Cx) (r : R2) : Prop :=
  ∀ (value slice : Expr) (pins : List (Addr × Obj)) (s : Shared) (σ : St) (H : Hp) (x y : V) (v u : Value) (Q : VK), Inv X pins σ H s → RelV x v → RelV y u → r x y H Q →
    subscripted slice false v u = operate [v, u] (getItem v u) → wpAny (model X.prog X.w) X.A (subscriptTail value slice v u) (EP X pins σ Q) X.xe s
/-- a call of a builtin's method by values: the receiver, the arguments -/
def MtR (X : Cx) (id : String) (r : V → List V → Hp → VK → Prop) : Prop :=
  ∀ (pins : List (Addr × Obj)) (s : Shared) (σ : St) (H : Hp) (x : V) (xs : List V) (v : Value) (us : List Value) (Q : VK), Inv X pins σ H s → RelV x v → Vals xs us → r x xs H Q →
    wpAny (model X.prog X.w) X.A (call (.builtin id) (v :: us)) (EP X pins σ Q) X.xe s
section
variable {X : Cx} {a b : Expr} {ta tb : TE} {pos : Pos}
/-- a[b] -/
theorem pe_ix {r : R2} (hr : IxR X r) (ha : PE X a ta) (hb : PE X b tb) (hs : PlainIx b) : PE X (.Subscript a b pos) (tOp r ta tb) := by
  intro pins s σ H Q I h
  exact Subscript_ (binT ha hb I h fun v u s2 x y H2 I2 rx ry q => hr a b pins s2 σ H2 x y v u Q I2 rx ry q (hs _ _))

def rIxL (K : PySem.W.Frag) : R2 := fun x y H Q => ∃ p xs i v, x = .ref p ∧ y = .int i ∧ SqL K H p xs ∧ atI xs i = some v ∧ Q v H
def rIxT (K : PySem.W.Frag) : R2 := fun x y H Q => ∃ p xs i v, x = .ref p ∧ y = .int i ∧ SqT K H p xs ∧ atI xs i = some v ∧ Q v H
def rIxS : R2 := fun x y H Q => ∃ z i c, x = .str z ∧ y = .int i ∧ z.length ≤ sizeLine ∧ atI z.cps.toList i = some c ∧ Q (.str ⟨#[c]⟩) H
theorem ix_list : IxR X (rIxL X.K) := by
  intro value slice pins s σ H x y v u Q I rx ry h hs
  obtain ⟨p, xs, i, z, rfl, rfl, hq, he, q⟩ := h
  cases rx
  obtain ⟨t, rfl⟩ := ry
  obtain ⟨its, r, pl, hz⟩ := I.list hq
  obtain ⟨j, h1, h2, h3, h4, h5⟩ := atI_get he
  obtain ⟨w, ew, rw'⟩ := r.get h2
  have hl := r.length
  have hn := line63
  have fin : EP X pins σ Q w s := ⟨z, H, I, rw', q⟩
  by_cases h0 : 0 ≤ i
  · have hj : i.toNat = j := by
      rw [seqIndex_of h0 h5] at h1
      exact Option.some.inj h1
    exact item_listR pl.isList h0 (by omega) (by rw [hj]; simpa using ew) fin hs
  · have hj : (i + (its.toArray.size : Int)).toNat = j := by
      rw [seqIndex_neg (by omega) h4] at h1
      rw [List.size_toArray, ← hl]
      exact Option.some.inj h1
    exact subscriptTail_builtinR (x := w) pl.isList.typeIs slot_list_getitem.lookup
      (wpAny_getItem_list_neg (Q := fun r s' => r = w ∧ EP X pins σ Q r s') pl.isList (by omega) (by rw [List.size_toArray] <;> omega) (by omega) (by rw [hj]; simpa using ew) ⟨rfl, fin⟩) hs
theorem ix_tup : IxR X (rIxT X.K) := by
  intro value slice pins s σ H x y v u Q I rx ry h hs
  obtain ⟨p, xs, i, z, rfl, rfl, hq, he, q⟩ := h
  cases rx
  obtain ⟨t, rfl⟩ := ry
  obtain ⟨its, r, pl, hz⟩ := I.tuple hq
  obtain ⟨j, h1, h2, h3, h4, h5⟩ := atI_get he
  obtain ⟨w, ew, rw'⟩ := r.get h2
  have hl := r.length
  have hn := line63
  have fin : EP X pins σ Q w s := ⟨z, H, I, rw', q⟩
  exact subscriptTail_builtinR (x := w) pl.typeIs slot_tuple_getitem.lookup
    (getItem_tuple (j := j) (Q := fun r s' => r = w ∧ EP X pins σ Q r s') pl (by omega) (by omega) (by rw [List.size_toArray, ← hl]; exact h1) (by simpa using ew) ⟨rfl, fin⟩) hs
/-- list, tuple or str -/
def rIx (K : PySem.W.Frag) : R2 := fun x y H Q => rIxL K x y H Q ∨ rIxT K x y H Q ∨ rIxS x y H Q
/-! ### xs[i] = v, any sign -/
/-- the list's object behind a store -/
theorem mapSeq_set (its : List Value) (n j : Nat) (u : Value) : Obj.mapSeq (·.setIfInBounds j u) { cls := .type "list", data := .seq its.toArray n } = { cls := .type "list", data := .seq (its.set j u).toArray n } := by
  simp [Obj.mapSeq]
theorem Inv.lst {pins : List (Addr × Obj)} {σ : St} {H : Hp} {s : Shared} {p : Addr} {xs : List V} (I : Inv X pins σ H s) (h : H p = some (.lst xs)) :
    ∃ (its : List Value) (n : Nat), Vals xs its ∧ s.heap.get? p = some { cls := .type "list", data := .seq its.toArray n } ∧ xs.length ≤ sizeLine := by
  obtain ⟨z, its, n, r, e⟩ := I.hok p _ h
  exact ⟨its, n, r, e, z⟩
/-- the list at p is written by an update of its object -/
theorem Inv.lstUpd {pins : List (Addr × Obj)} {σ : St} {H : Hp} {s : Shared} {p : Addr} {xs ys : List V} {its its' : List Value} {n n' : Nat} {f : Obj → Obj} (I : Inv X pins σ H s) (h : H p = some (.lst xs))
    (ho : s.heap.get? p = some { cls := .type "list", data := .seq its.toArray n }) (hf : f { cls := .type "list", data := .seq its.toArray n } = { cls := .type "list", data := .seq its'.toArray n' }) (r : Vals ys its') (hz : ys.length ≤ sizeLine) (t : Nat) :
    Inv X pins σ (upd H p (.lst ys)) { s with heap := s.heap.update p f, toks := t } := by
  have e : (s.heap.update p f).get? p = some { cls := .type "list", data := .seq its'.toArray n' } := by
    rw [Heap.get?_update_self f ho (by rw [hf] <;> rfl), hf]
  refine I.write (x := p) (e := p) (by rw [h]; trivial) (.inl rfl) (fun b u hb q => (Heap.get?_update_other _ _ (Ne.symm hb)).trans q) ⟨_, e⟩ ?_
  exact ⟨hz, its', n', r, e⟩
def rSetL : V → V → V → Hp → (Hp → Prop) → Prop := fun o i v H Q => ∃ p xs k j, o = .ref p ∧ i = .int k ∧ H p = some (.lst xs) ∧ ixN xs.length k = some j ∧ Q (upd H p (.lst (xs.set j v)))
theorem set_list : PSet X rSetL := by
  intro pins s σ H o i v ov iv u Q I ro ri rv h
  obtain ⟨p, xs, k, j, rfl, rfl, hp, hj, q⟩ := h
  cases ro
  obtain ⟨t, rfl⟩ := ri
  obtain ⟨its, n, r, ho, hz⟩ := I.lst hp
  obtain ⟨h1, h2, h3, h4⟩ := ixN_seq hj
  have hl := r.length
  have hn := line63
  have I' : Inv X pins σ (upd H p (.lst (xs.set j v))) { s with heap := s.heap.update p (Obj.mapSeq (·.setIfInBounds j u)) } :=
    I.lstUpd hp ho (mapSeq_set its n j u) (r.set rv j) (by rw [List.length_set]; exact hz) s.toks
  by_cases h0 : 0 ≤ k
  · have hk : k.toNat = j := by
      rw [seqIndex_of h0 h4] at h1
      exact Option.some.inj h1
    exact PySem.W.ki_setAt ho h0 (by omega) (by rw [List.size_toArray, ← hl]; exact h4) (by rw [hk]; exact ⟨_, I', q⟩)
  · have hk : (k + (its.toArray.size : Int)).toNat = j := by
      rw [seqIndex_neg (by omega) h3] at h1
      rw [List.size_toArray, ← hl]
      exact Option.some.inj h1
    exact PySem.W.ki_setBack ho (by omega) (by rw [List.size_toArray, ← hl]; exact h3) (by omega) (by rw [hk]; exact ⟨_, I', q⟩)

/-! ### slices -/
theorem slice_bounds (lo hi : Option Int) (n : Nat) : (sliceBounds lo hi none n).1 = ((HT.sIx n 0 lo : Nat) : Int) ∧ (sliceBounds lo hi none n).2.1 = ((HT.sIx n n hi : Nat) : Int) ∧ (sliceBounds lo hi none n).2.2 = 1 := by
  refine ⟨?_, ?_, rfl⟩
  · cases lo with
    | none => simp [sliceBounds, HT.sIx]
    | some i =>
      simp only [sliceBounds, HT.sIx, Option.getD_none, show (1 : Int) > 0 by decide, if_true]
      by_cases h : i < 0
      · simp only [h, if_true] <;> omega
      · simp only [h, if_false] <;> omega
  · cases hi with
    | none => simp [sliceBounds, HT.sIx]
    | some i =>
      simp only [sliceBounds, HT.sIx, Option.getD_none, show (1 : Int) > 0 by decide, if_true]
      by_cases h : i < 0
      · simp only [h, if_true] <;> omega
      · simp only [h, if_false] <;> omega
theorem slicePick_cut (its : List Value) (lo hi : Option Int) : slicePick its.toArray lo hi none = ((its.drop (HT.sIx its.length 0 lo)).take (HT.sIx its.length its.length hi - HT.sIx its.length 0 lo)).toArray := by
  obtain ⟨h1, h2, h3⟩ := slice_bounds lo hi its.toArray.size
  unfold slicePick
  rw [h1, h2, h3]
  simp only [sliceRange_one, pick_run, List.size_toArray] <;> rfl
/-- xs[lo:hi] of a list: a new list -/
def rSlL (K : PySem.W.Frag) : V → Option Int → Option Int → Hp → VK → Prop := fun x lo hi H Q => ∃ a xs, x = .ref a ∧ SqL K H a xs ∧ ∀ p, H p = none → Q (.ref p) (upd H p (.lst (cutV xs lo hi)))
theorem sl_list : SlR X (rSlL X.K) := by
  intro pins s σ H x v vl vu lo hi sl Q I rx hs pl pu h
  obtain ⟨a, xs, rfl, hx, q⟩ := h
  cases rx
  obtain ⟨its, r, ht, hz⟩ := I.list hx
  have hlen := r.length
  refine ⟨"list", _, slot_list_getitem.lookup, ht.isList.typeIs, ?_⟩
  refine wpAny_getItem_list_slice ht.isList hs pl pu .none (by simp) ?_ (by rw [List.size_toArray] <;> omega)
  rw [slicePick_cut, ← hlen]
  refine ⟨.ref s.heap.objs.size, _, I.laid (t' := s.toks) (o := .lst (cutV xs lo hi)) (fun b ob q => Heap.get?_push_of_some _ q) (Nat.le_refl _) ?_, rfl, q _ (I.hok.fresh (Nat.le_refl _))⟩
  exact ⟨Nat.le_trans (cutV_length xs lo hi) hz, _, 0, (r.drop (HT.sIx xs.length 0 lo)).take (HT.sIx xs.length xs.length hi - HT.sIx xs.length 0 lo), Heap.get?_push_size _ rfl⟩

/-! ### in, not in: flat items -/
def flatV : V → Bool
  | .non => true
  | .bl _ => true
  | .int _ => true
  | .str _ => true
  | _ => false
/-- == of flat values -/
def eqV : V → V → Bool
  | .non, .non => true
  | .bl a, .bl b => a == b
  | .bl a, .int b => (if a then 1 else 0) == b
  | .int a, .bl b => a == (if b then 1 else 0)
  | .int a, .int b => a == b
  | .str a, .str b => a == b
  | _, _ => false
theorem eqAt_V {A : Around} {s : Shared} {y x : V} {u v : Value} (ry : RelV y u) (rx : RelV x v) (fy : flatV y = true) (fx : flatV x = true) : SeqAt.EqAt A s u v (eqV y x) := by
  cases y with
  | non =>
    cases ry
    cases x with
    | non => cases rx; exact SeqAt.EqAt.same _
    | bl b => cases rx; exact SeqAt.EqAt.none_bool b
    | int b => obtain ⟨t, rfl⟩ := rx; exact SeqAt.EqAt.none_int b t
    | str b => obtain ⟨t, rfl⟩ := rx; exact SeqAt.EqAt.none_str b t
    | _ => exact absurd (show false = true from fx) Bool.false_ne_true
  | bl a =>
    cases ry
    cases x with
    | non => cases rx; exact SeqAt.EqAt.bool_none a
    | bl b => cases rx; exact SeqAt.EqAt.bool_bool a b
    | int b => obtain ⟨t, rfl⟩ := rx; exact SeqAt.EqAt.bool_int a b t
    | str b => obtain ⟨t, rfl⟩ := rx; exact SeqAt.EqAt.bool_str a b t
    | _ => exact absurd (show false = true from fx) Bool.false_ne_true
  | int a =>
    obtain ⟨t', rfl⟩ := ry
    cases x with
    | non => cases rx; exact SeqAt.EqAt.int_none a t'
    | bl b => cases rx; exact SeqAt.EqAt.int_bool a t' b
    | int b => obtain ⟨t, rfl⟩ := rx; exact SeqAt.EqAt.int_int a t' b t
    | str b => obtain ⟨t, rfl⟩ := rx; exact SeqAt.EqAt.int_str a t' b t
    | _ => exact absurd (show false = true from fx) Bool.false_ne_true
  | str a =>
    obtain ⟨t', rfl⟩ := ry
    cases x with
    | non => cases rx; exact SeqAt.EqAt.str_none a t'
    | bl b => cases rx; exact SeqAt.EqAt.str_bool a t' b
    | int b => obtain ⟨t, rfl⟩ := rx; exact SeqAt.EqAt.str_int a t' b t
    | str b => obtain ⟨t, rfl⟩ := rx; exact SeqAt.EqAt.str_str a t' b t
    | _ => exact absurd (show false = true from fx) Bool.false_ne_true
  | _ => exact absurd (show false = true from fy) Bool.false_ne_true
/-- the items' answers, read off the values (a value's own answer does not lean on its token) -/
def eqU (x : V) (u : Value) : Bool := match u with
  | .none => eqV .non x
  | .bool b => eqV (.bl b) x
  | .int i _ => eqV (.int i) x
  | .str z _ => eqV (.str z) x
  | _ => false
theorem eqU_of {x y : V} {u : Value} (r : RelV y u) (f : flatV y = true) : eqU x u = eqV y x := by
  cases y with
  | non => cases r; rfl
  | bl b => cases r; rfl
  | int i => obtain ⟨t, rfl⟩ := r; rfl
  | str z => obtain ⟨t, rfl⟩ := r; rfl
  | _ => exact absurd (show false = true from f) Bool.false_ne_true
theorem mem_eqAt {A : Around} {s : Shared} {x : V} {v : Value} (rx : RelV x v) (fx : flatV x = true) : ∀ {xs : List V} {us : List Value}, Vals xs us → xs.all flatV = true → ∀ u ∈ us, SeqAt.EqAt A s u v (eqU x u)
  | _, _, .nil, _ => fun u hu => by cases hu
  | y :: xs, u :: us, .cons r t, f => fun u' hu => by
    rw [List.all_cons, Bool.and_eq_true] at f
    rcases List.mem_cons.mp hu with rfl | hu
    · rw [eqU_of r f.1]; exact eqAt_V r rx f.1 fx
    · exact mem_eqAt rx fx t f.2 u' hu
def inV (x : V) (xs : List V) : Bool := xs.any fun y => eqV y x
/-- x in a list or tuple of flat items -/
def rIn (K : PySem.W.Frag) (neg : Bool) : R2 := fun x y H Q => ∃ p xs, y = .ref p ∧ (SqL K H p xs ∨ SqT K H p xs) ∧ flatV x = true ∧ xs.all flatV = true ∧ Q (.bl (if neg then !inV x xs else inV x xs)) H
/-! ### len, list(x), tuple(x) of any list or tuple that is read -/
theorem call_len_seq : CallR X (.builtin "len") (fun xs H Q => ∃ p ys, xs = [.ref p] ∧ (SqL X.K H p ys ∨ SqT X.K H p ys) ∧ Q (.int ys.length) H) := by
  intro pins s σ H xs us Q I r h
  obtain ⟨p, ys, rfl, hq, q⟩ := h
  obtain ⟨u, rfl, rx⟩ := vals1 r
  cases rx
  have hn := line63
  rcases hq with hq | hq
  · obtain ⟨its, r', pl, hz⟩ := I.list hq
    have hlen := r'.length
    exact Calls.call_len_list pl.isList (by simp only [List.size_toArray] <;> omega) ⟨.int ys.length, H, I.tok _, ⟨s.toks + 1, by rw [List.size_toArray, hlen]⟩, q⟩
  · obtain ⟨its, r', pl, hz⟩ := I.tuple hq
    have hlen := r'.length
    exact len_tuple pl (by simp only [List.size_toArray] <;> omega) ⟨.int ys.length, H, I.tok _, ⟨s.toks + 1, by rw [List.size_toArray, hlen]⟩, q⟩
theorem call_list_of : CallR X (.type "list") (fun xs H Q => ∃ p ys, xs = [.ref p] ∧ (SqL X.K H p ys ∨ SqT X.K H p ys) ∧ ∀ l, H l = none → Q (.ref l) (upd H l (.lst ys))) := by
  intro pins s σ H xs us Q I r h
  obtain ⟨p, ys, rfl, hq, q⟩ := h
  obtain ⟨u, rfl, rx⟩ := vals1 r
  cases rx
  have fin : ∀ (its : List Value), Vals ys its → ys.length ≤ sizeLine → ∀ (h' : Heap) (c' : Nat), (∀ b o', s.heap.get? b = some o' → h'.get? b = some o') →
      h'.get? s.heap.objs.size = some { cls := .type "list", dict := none, data := .seq its.toArray c', slots := #[] } → EP X pins σ Q (.ref s.heap.objs.size) { s with heap := h' } := fun its r' hz h' c' kp e =>
    ⟨.ref s.heap.objs.size, _, I.laid (t' := s.toks) kp (Nat.le_refl _) (show ObjOk X.prog X.w _ h' _ (.lst ys) from ⟨hz, its, c', r', e⟩), rfl, q _ (I.hok.fresh (Nat.le_refl _))⟩
  rcases hq with hq | hq
  · obtain ⟨its, r', pl, hz⟩ := I.list hq
    have hlen := r'.length
    obtain ⟨o, ho, hc, n, hd⟩ := pl.isList
    exact call_list_seq p (.inl rfl) ho hc hd (fun h' c' kp e => fin its r' hz h' c' kp e) (by simp only [List.size_toArray] <;> omega)
  · obtain ⟨its, r', pl, hz⟩ := I.tuple hq
    have hlen := r'.length
    obtain ⟨o, ho, hc, n, hd⟩ := pl
    exact call_list_seq p (.inr rfl) ho hc hd (fun h' c' kp e => fin its r' hz h' c' kp e) (by simp only [List.size_toArray] <;> omega)
/-! ### the call of a builtin's method: o.m(..) -/
/-- the value is of that builtin type -/
def tyV (K : PySem.W.Frag) (T : String) (x : V) (H : Hp) : Prop := match x with
  | .str _ => T = "str"
  | .int _ => T = "int"
  | .ref p => (T = "list" ∧ ∃ xs, SqL K H p xs) ∨ (T = "tuple" ∧ ∃ o, K.lookup p = some o ∧ o.cls = .type "tuple" ∧ o.dict = none) ∨
      (T = "dict" ∧ ((∃ kvs, H p = some (.dK kvs)) ∨ ∃ kvs, H p = some (.dT kvs))) ∨ (T = "set" ∧ ∃ S n, H p = some (.set S n))
  | _ => False
theorem tyV_is {pins : List (Addr × Obj)} {σ : St} {H : Hp} {s : Shared} {T : String} {x : V} {v : Value} (I : Inv X pins σ H s) (r : RelV x v) (ty : tyV X.K T x H) :
    s.TypeIs v T ∧ ∀ a, v = .ref a → ∃ ob, s.heap.get? a = some ob ∧ ob.dict = none := by
  cases x with
  | str z =>
    obtain ⟨t, rfl⟩ := r
    cases (show T = "str" from ty)
    exact ⟨typeIs_str s z t, fun _ e => nomatch e⟩
  | int i =>
    obtain ⟨t, rfl⟩ := r
    cases (show T = "int" from ty)
    exact ⟨typeIs_int s i t, fun _ e => nomatch e⟩
  | ref p =>
    cases r
    rcases ty with ⟨rfl, xs, hq⟩ | ⟨rfl, o, hk, hc, hd⟩ | ⟨rfl, hk⟩ | ⟨rfl, S, n, hk⟩
    · obtain ⟨its, _, pl, _⟩ := I.list hq
      refine ⟨pl.isList.typeIs, fun a e => ?_⟩
      cases e
      obtain ⟨o, n, e, c, hd, _⟩ := pl
      exact ⟨o, e, hd⟩
    · refine ⟨⟨o, I.kIn p o hk, hc⟩, fun a e => ?_⟩
      cases e
      exact ⟨o, I.kIn _ o hk, hd⟩
    · have z : ∃ o, s.heap.get? p = some o ∧ o.ExactDict := by
        rcases hk with ⟨kvs, hk⟩ | ⟨kvs, hk⟩
        · obtain ⟨_, _, _, _, o, _, _, e, ex, _⟩ := I.hok p _ hk
          exact ⟨o, e, ex⟩
        · obtain ⟨_, _, _, _, o, _, _, e, ex, _⟩ := I.hok p _ hk
          exact ⟨o, e, ex⟩
      obtain ⟨o, e, ex⟩ := z
      refine ⟨⟨o, e, ex.1⟩, fun a e2 => ?_⟩
      cases e2
      exact ⟨o, e, ex.2.1⟩
    · obtain ⟨o, _, _, _, e, ex, _⟩ := I.hok p _ hk
      refine ⟨⟨o, e, ex.1⟩, fun a e2 => ?_⟩
      cases e2
      exact ⟨o, e, ex.2.1⟩
  | _ => exact False.elim ty
def tBM0 (K : PySem.W.Frag) (T : String) (r : V → List V → Hp → VK → Prop) (to : TE) : TE := fun σ H Q => to σ H fun x H1 => tyV K T x H1 ∧ r x [] H1 Q
def tBM (K : PySem.W.Frag) (T : String) (r : V → List V → Hp → VK → Prop) (to : TE) (t : TA) : TE := fun σ H Q => to σ H fun x H1 => tyV K T x H1 ∧ t σ H1 fun xs H2 => r x xs H2 Q
variable {o e : Expr} {es : List Expr} {to : TE} {t : TA} {name : Str} {apos cpos : Pos} {T id : String} {r : V → List V → Hp → VK → Prop}
theorem pe_bm (pa : PlainAttrs T) (slot : Slot T name id) (hty : typeOf (.builtin id) = pure (.type "method_descriptor")) (hm : MtR X id r) (ho : PE X o to) (ha : PA X (e :: es) t)
    (hbase : attributeBase o name X.env (eval o X.env) = eval o X.env := by rfl)
    (hfew : ((backTo cpos (starEach (e :: es) X.env)).all (fun x => !x.1) && (backToKw cpos (keywordEach [] X.env)).all (fun x => x.1.isSome)
      && decide ((e :: es).length + ([] : List Keyword).length + (if ([] : List Keyword).isEmpty then 0 else 1) < 30)) = true := by rfl)
    (hline : (apos.endLine == cpos.line) = true := by rfl) (hs : starEach (e :: es) X.env = (false, eval e X.env) :: starEach es X.env := by rfl) (hplain : (backTo cpos (starEach es X.env)).any (·.1) = false := by rfl) :
    PE X (.Call (.Attribute o name apos) (e :: es) [] cpos) (tBM X.K T r to t) := by
  intro pins s σ H Q I h
  refine wpAny_Call_method_late hbase hfew hline rfl (thn (ho pins s σ H _ I h) fun v s1 ⟨x, H1, I1, r1, ty, q1⟩ => ?_)
  obtain ⟨h1, h2⟩ := tyV_is I1 r1 ty
  refine ⟨T, id, pa, slot, hty, h1, h2, ?_⟩
  have hA := ha cpos pins s1 σ H1 _ I1 q1
  rw [hs] at hA ⊢
  refine Calls.callWith_builtin (by show (false || (backTo cpos (starEach es X.env)).any (·.1)) = false; rw [hplain] <;> rfl) (Calls.evalArgs_plain ?_)
  exact thn hA fun us s2 ⟨vs, H2, I2, r2, q2⟩ => hm pins s2 σ H2 x vs v us Q I2 r1 r2 q2
/- xs.append(e), list.index on a module's tuple .. are MtR facts of 06m -/
end
end L2

namespace L2
open PySem PySem.Spec PyProof.Rows

def MtM (X : Cx) (id : String) (r : V → List V → Hp → VK → Prop) : Prop :=
  ∀ (pins : List (Addr × Obj)) (s : Shared) (σ : St) (H : Hp) (x : V) (xs : List V) (v : Value) (us : List Value) (Q : VK), Inv X pins σ H s → RelV x v → Vals xs us → r x xs H Q →
    wpAny (model X.prog X.w) X.A (call (.builtin id) (v :: us)) (EP X pins σ Q) X.xe s

/-! ### lists of values -/
theorem Vals.one : ∀ {x : V} {us : List Value}, Vals [x] us → ∃ u, us = [u] ∧ RelV x u
  | _, _, .cons r .nil => ⟨_, rfl, r⟩
theorem Vals.rep {xs : List V} {us : List Value} (h : Vals xs us) : ∀ k : Nat, Vals (List.replicate k xs).flatten (List.replicate k us).flatten
  | 0 => .nil
  | k + 1 => by
    rw [List.replicate_succ, List.replicate_succ, List.flatten_cons, List.flatten_cons]
    exact Vals.append h (Vals.rep h k)
theorem foldl_rep (its : List Value) : ∀ (k : Nat) (acc : List Value),
    List.foldl (fun x1 x2 => x1 ++ x2) acc.toArray (List.replicate k its.toArray) = (acc ++ (List.replicate k its).flatten).toArray
  | 0, acc => by simp
  | k + 1, acc => by
    have e : acc.toArray ++ its.toArray = (acc ++ its).toArray := by simp
    have e2 : (acc ++ its) ++ (List.replicate k its).flatten = acc ++ (List.replicate (k + 1) its).flatten := by
      rw [List.replicate_succ, List.flatten_cons, List.append_assoc]
    rw [← e2, ← foldl_rep its k (acc ++ its), ← e, List.replicate_succ, List.foldl_cons]

section
variable {X : Cx} {pins : List (Addr × Obj)} {σ : St} {H : Hp} {s : Shared} {l b : Addr} {xs ys zs : List V}

/-! ### the two steps: a tracked list is rewritten, a new list is laid -/
theorem Inv.lset {its its' : List Value} {n : Nat} {f : Array Value → Array Value} {t' : Nat} (I : Inv X pins σ H s) (hH : H l = some (.lst xs))
    (e : s.heap.get? l = some { cls := .type "list", data := .seq its.toArray n }) (hf : f its.toArray = its'.toArray) (hv : Vals ys its') (hz : ys.length ≤ sizeLine) :
    Inv X pins σ (upd H l (.lst ys)) { s with heap := s.heap.update l (Obj.mapSeq f), toks := t' } := by
  have q := PySem.IsL.update e f
  rw [hf] at q
  refine I.write (x := l) (e := l) (by rw [hH]; exact trivial) (.inl rfl) (fun b' u hb hu => (Heap.get?_update_other s.heap (Obj.mapSeq f) (Ne.symm hb)).trans hu) ⟨_, q⟩ ?_
  exact ⟨hz, its', _, hv, q⟩
theorem Inv.lnew {its : List Value} {t' : Nat} (I : Inv X pins σ H s) (hv : Vals ys its) (hz : ys.length ≤ sizeLine) :
    Inv X pins σ (upd H s.heap.objs.size (.lst ys)) { s with heap := s.heap.push { cls := .type "list", data := .seq its.toArray }, toks := t' } :=
  I.laid (fun _ _ q => Heap.get?_push_of_some _ q) (Nat.le_refl _) ⟨hz, its, 0, hv, Heap.get?_push_size _ rfl⟩
theorem Inv.fresh (I : Inv X pins σ H s) : H s.heap.objs.size = none := I.hok.fresh (Nat.le_refl _)
theorem Inv.lstM (I : Inv X pins σ H s) (hH : H l = some (.lst xs)) : xs.length ≤ sizeLine ∧ ∃ (its : List Value) (n : Nat), Vals xs its ∧ xs.length = its.length ∧ s.heap.get? l = some { cls := .type "list", data := .seq its.toArray n } := by
  obtain ⟨z, its, n, r, e⟩ := I.hok l _ hH
  exact ⟨z, its, n, r, r.length, e⟩

theorem notLongL {n : Nat} (h : n ≤ sizeLine) : Builtin.List.listTooLong n = false := by
  unfold Builtin.List.listTooLong
  exact decide_eq_false (by omega)
end

section
variable {X : Cx}

/-! ### methods -/
def rAppend : V → List V → Hp → VK → Prop := fun x vs H Q => ∃ l xs y, x = .ref l ∧ vs = [y] ∧ H l = some (.lst xs) ∧ xs.length < sizeLine ∧ Q .non (upd H l (.lst (xs ++ [y])))
theorem mt_append : MtM X "list.append" rAppend := by
  intro pins s σ H x vs v us Q I rx rv h
  obtain ⟨l, xs, y, rfl, rfl, hH, hz, q⟩ := h
  cases rx
  obtain ⟨u, rfl, ru⟩ := rv.one
  obtain ⟨z, its, n, r, hl, e⟩ := I.lstM hH
  refine call_meets F.slot_list_append ⟨_, e, rfl⟩ F.entry_list_append (F.args_list_append_2 _ _) (PySem.list_append l its.toArray n u (by rw [List.size_toArray]; omega)) ⟨e, ?_⟩
  refine ⟨.non, _, I.lset (its' := its ++ [u]) hH e (by simp) (r.append (.cons ru .nil)) ?_, rfl, q⟩
  rw [List.length_append, List.length_singleton]
  omega

def rExtend : V → List V → Hp → VK → Prop := fun x vs H Q => ∃ l b xs zs, x = .ref l ∧ vs = [.ref b] ∧ H l = some (.lst xs) ∧ H b = some (.lst zs) ∧ xs.length + zs.length ≤ sizeLine ∧ Q .non (upd H l (.lst (xs ++ zs)))
def rPop : V → List V → Hp → VK → Prop := fun x vs H Q => ∃ l xs y, x = .ref l ∧ vs = [] ∧ H l = some (.lst xs) ∧ xs[xs.length - 1]? = some y ∧ Q y (upd H l (.lst xs.dropLast))
def rPopAt : V → List V → Hp → VK → Prop := fun x vs H Q => ∃ l xs i k y, x = .ref l ∧ vs = [.int i] ∧ H l = some (.lst xs) ∧ -(2 ^ 63) ≤ i ∧ i < 2 ^ 63 ∧ seqIndex? i xs.length = some k ∧ xs[k]? = some y ∧ Q y (upd H l (.lst (xs.eraseIdx k)))
def rReverse : V → List V → Hp → VK → Prop := fun x vs H Q => ∃ l xs, x = .ref l ∧ vs = [] ∧ H l = some (.lst xs) ∧ Q .non (upd H l (.lst xs.reverse))
def rClear : V → List V → Hp → VK → Prop := fun x vs H Q => ∃ l xs, x = .ref l ∧ vs = [] ∧ H l = some (.lst xs) ∧ Q .non (upd H l (.lst []))
/-! ### list + list, list += list, list * int -/
def rCat : R2 := fun x y H Q => ∃ l b xs zs, x = .ref l ∧ y = .ref b ∧ H l = some (.lst xs) ∧ H b = some (.lst zs) ∧ xs.length + zs.length ≤ sizeLine ∧ ∀ p, H p = none → Q (.ref p) (upd H p (.lst (xs ++ zs)))
theorem op_cat : OpR X (binaryOp .Add) rCat := by
  intro pins s σ H x y v u Q I rx ry h
  obtain ⟨l, b, xs, zs, rfl, rfl, hH, hB, hz, q⟩ := h
  cases rx
  cases ry
  obtain ⟨z, its, n, r, hl, e⟩ := I.lstM hH
  obtain ⟨z2, its2, n2, r2, hl2, e2⟩ := I.lstM hB
  refine PySem.P.add_list e e2 ?_ (by rw [List.size_toArray, List.size_toArray]; omega)
  have ea : its.toArray ++ its2.toArray = (its ++ its2).toArray := by simp
  rw [ea]
  exact ⟨.ref _, _, I.lnew (t' := s.toks) (r.append r2) (by rw [List.length_append]; omega), rfl, q _ I.fresh⟩
/-- a list times an int (a negative one is nothing) -/
def rRep : R2 := fun x y H Q => ∃ l k xs, x = .ref l ∧ y = .int k ∧ H l = some (.lst xs) ∧ -(2 ^ 63) ≤ k ∧ k < 2 ^ 63 ∧ xs.length * k.toNat ≤ sizeLine ∧
  ∀ p, H p = none → Q (.ref p) (upd H p (.lst (List.replicate k.toNat xs).flatten))
theorem len_rep {α : Type} (xs : List α) (k : Nat) : (List.replicate k xs).flatten.length = k * xs.length := by
  induction k with
  | zero => simp
  | succ k ih => rw [List.replicate_succ, List.flatten_cons, List.length_append, ih, Nat.succ_mul, Nat.add_comm]
theorem op_rep : OpR X (binaryOp .Mult) rRep := by
  intro pins s σ H x y v u Q I rx ry h
  obtain ⟨l, k, xs, rfl, rfl, hH, h1, h2, hz, q⟩ := h
  cases rx
  obtain ⟨t, rfl⟩ := ry
  obtain ⟨z, its, n, r, hl, e⟩ := I.lstM hH
  have hlen : its.toArray.size * k.toNat ≤ sizeLine := by rw [List.size_toArray, ← hl]; exact hz
  have hcap : ¬ its.toArray.size * k.toNat > (2 ^ 63 - 1) / 8 := by
    have : (sizeLine : Nat) ≤ (2 ^ 63 - 1) / 8 := by decide
    omega
  have hfit : ¬ (!Builtin.List.listFitsIndex k) = true := by
    rw [fitsIndex_both h1 h2]
    exact Bool.false_ne_true
  have hlong : ¬ Builtin.List.listTooLong (its.toArray.size * k.toNat) = true := by
    rw [notLongL hlen]
    exact Bool.false_ne_true
  have hnew : List.foldl (fun x1 x2 => x1 ++ x2) #[] (List.replicate (if its.toArray.isEmpty = true then 0 else k.toNat) its.toArray) = (List.replicate k.toNat its).flatten.toArray := by
    have f0 : ∀ m : Nat, List.foldl (fun x1 x2 => x1 ++ x2) #[] (List.replicate m its.toArray) = (List.replicate m its).flatten.toArray := fun m => by
      have := foldl_rep its m []
      rw [List.nil_append] at this
      exact this
    rw [f0]
    cases its with
    | nil => simp
    | cons a r' => rw [if_neg (by simp)]
  refine wpAny_binaryOp_repeat_ref (T := "list") (U := "int") (by decide) ⟨_, e, rfl⟩ (fun s' => typeIs_int s' k t) noFill_list_mul F.fills_int_mul F.slot_int_rmul repeat_list F.slot_int_index.lookup
    (call_meets F.slot_int_rmul (typeIs_int s k t) F.entry_int_rmul (F.args_int_rmul_2 _ _) (int___rmul___int_list k t l its.toArray n)
      ⟨e, rfl, ⟨_, e, rfl⟩, call_meets F.slot_list_mul ⟨_, e, rfl⟩ F.entry_list_mul (F.args_list_mul_2 _ _) (AutoListH.list___mul___list_int_3 l its.toArray n k t hfit hcap hlong) ⟨e, ?_⟩⟩)
  rw [hnew]
  exact ⟨.ref _, _, I.lnew (t' := s.toks) (r.rep k.toNat) (by rw [len_rep, Nat.mul_comm]; exact hz), rfl, q _ I.fresh⟩

/-! ### del xs[i] -/
end

/-! ### xs[a:b] = ys -/
section
variable {prog : Program} {w : World} {A : Around} {E : Value → Shared → Prop} {s : Shared}
set_option maxRecDepth 100000 in
end

section
variable {X : Cx}
end
end L2

namespace Att
open PySem PySem.W PySem.Calls PyProof.Rows

/-! ### the script -/
theorem ints_of_wellAll {P : Params} {h : Heap} : ∀ (ns : List Int) (vs : List Value), WellAll P h vs (ns.map WData.int) → IntsAre vs ns := by
  intro ns
  induction ns with
  | nil =>
    intro vs w
    rw [List.map_nil] at w
    cases w
    exact .nil
  | cons n ns ih =>
    intro vs w
    rw [List.map_cons] at w
    cases w with
    | cons a b =>
      cases a
      exact .cons _ _ (ih _ b)

theorem script_of {l : OpenLaw} {n : Nat} (hn : l.most = some n) {P : Params} {h : Heap} {args : List WData} {vals : List Value}
    (hpre : l.row.toRowW.claim.pre args = true) (hwl : WellAll P h vals args) :
    ∃ a vs ns, vals = [Value.ref a] ∧ args = [WData.list (ns.map WData.int)] ∧ h.get? a = some { cls := .type "list", data := .seq vs.toArray } ∧ IntsAre vs ns ∧ ns.length ≤ n := by
  have hsh : WShape.hasAll [] args [.list .int] = true := (pre_splitW hpre).1
  have hc : l.pre.holds [] { args := args } = true := (pre_splitW hpre).2
  obtain ⟨d, r, rfl, h1, h2⟩ := hasAllW_cons hsh
  obtain rfl := hasAllW_nil h2
  obtain ⟨xs, rfl, h3⟩ := hasW_list h1
  obtain ⟨ns, rfl⟩ := items_int h3
  have hlen : ns.length ≤ n := by
    unfold OpenLaw.pre at hc
    have h4 : (WTm.not (.lt (.lit (.int (n : Int))) (.len (.arg 0)))).holds [] { args := [.list (ns.map .int)] } = true := by
      have h4 := (holds_andW hc).1
      rw [hn] at h4
      exact h4
    have h5 := condW_of h4 (w_not (w_lt w_lit (w_len_list (w_arg rfl))))
    rw [List.length_map] at h5
    refine Nat.le_of_not_lt fun q => ?_
    have q' : (n : Int) < ((ns.length : Nat) : Int) := by omega
    first
      | (rw [decide_eq_true q'] at h5; exact absurd h5 (by decide))
      | (simp at h5; omega)
  cases hwl with
  | cons w1 w2 =>
    cases w2
    cases w1 with
    | list ho hall => exact ⟨_, _, ns, rfl, rfl, ho, ints_of_wellAll ns _ hall, hlen⟩

theorem post_true (l : OpenLaw) (args : List WData) : l.row.toRowW.claim.post args (.bool true) args = true :=
  postW_of (r := l.row.toRowW) (X := (true == true))
    (show WShape.has [] (.bool true) .bool = true by first | rfl | decide | simp [WShape.has, WShape.arms, WShape.armsAll])
    (show (WTm.eq .res (.lit (.bool true))).value [] { args := args, res := some (.bool true), after := args } = some (.bool (true == true)) from w_eq_bool (w_res rfl) w_lit) rfl

/-! ### the attachment: holds_open's last premise (the goal 'hc' behind k_head) from a wpAny of the law's body -/
/-- the same from a codeAny of the CALL (for a layer whose function contracts speak of calls) -/
theorem attach_call {l : OpenLaw} {n : Nat} {q : Program} {loose : List Str} {XP : (Str → Option Value) → Heap → Prop} {YP : World → Heap → Prop} {d : DefRec}
    (hn : l.most = some n) (hdf : d.params.defaults = [])
    (call : ∀ (w : World) (s₀ s₁ : Shared) (mg mb : Str → Option Value) (fa : Addr) (o : Obj) (pm cd doc : Value) (a : Addr) (vs : List Value) (ns : List Int),
      Ground q loose [] XP w s₀ mg mb s₁.heap → YP w s₁.heap →
      s₁.heap.get? fa = some o → o.data = .func (docDef d.name d.params d.body d.scope pm cd doc) → s₁.heap.CodeRec cd d.name → mg d.name = some (.ref fa) →
      s₁.heap.get? a = some { cls := .type "list", data := .seq vs.toArray } → IntsAre vs ns → ns.length ≤ n → s₁.gens = #[] →
      codeAny (model l.prog w) callerA (.call (.ref fa) ⟨[.ref a], []⟩) (fun r s' => r = .ok (.ret (.bool true)) ∧ OldK s₁.heap s'.heap ∧ s'.os = s₁.os ∧ AllBare s'.gens) s₁) :
    WalkO q loose XP YP l.row.toRowW d [] (fun f vs => PySem.call f vs) := by
  intro w s₀ s₁ mg mb G Y fa o pm cd doc dV kV ho hd hcd hD hmg hg args vals as hpre hlay hrd hwl hlo
  obtain rfl : dV = .none := Dflts.none hD hdf
  obtain rfl : kV = .none := Dflts.noKw hD
  obtain ⟨a, vs, ns, rfl, rfl, hobj, hints, hlen⟩ := script_of hn hpre hwl
  refine enter_call (codeAny_mono (call w s₀ s₁ mg mb fa o pm cd doc a vs ns G Y ho (fd_plain hd) hcd hmg hobj hints hlen hg) fun r s' hq => ?_)
  obtain ⟨rfl, h2, h3, h4⟩ := hq
  exact ⟨.inl ⟨.bool true, .bool true, [], rfl, fun _ => rfl, .bool true, post_true l _, fun _ => ⟨List.Pairwise.nil, fun _ hm => (nomatch hm)⟩⟩, h2, h3, h4⟩

/-! ### rules over ANY heap (no ledger) from facts about the written part K: the library's own take a ledger (News) for what they write -/
section
variable {prog : Program} {w : World} {A : Around} {E : Value → Shared → Prop} {s : Shared} {K : Frag}

/-! the whole heap as the ledger: makes every rule that writes through a ledger a rule over any heap -/
def noObjs (h : Heap) : Heap := { h with objs := #[] }
def ledger (h : Heap) (L d : Addr) : List (Addr × Obj) := (List.range h.objs.size).filterMap fun a => if a = L ∨ a = d then none else (h.get? a).map fun o => (a, o)
end
end Att

namespace L2
open PySem PySem.Spec PyProof.Rows

theorem vals_ints : ∀ {vs : List Value} {ns : List Int}, IntsAre vs ns → Vals (ns.map V.int) vs
  | _, _, .nil => .nil
  | _, _, .cons n t h => .cons ⟨t, rfl⟩ (vals_ints h)

/-- nothing is tracked but the script, known to the object (or it is an object of the module) -/
def Only (H : Hp) : Prop := ∀ b, H b = none ∨ ∃ o xs, H b = some (.frz o (.lst xs))

/-- THE HEAD: the law's promise, at the heap behind the top. F, the promise of the law's def, may use that base is part of the heap (so K.In base, base.Ns mainGlobals mg stand in Mod) -/
theorem law_call {P : Program} {w : World} {K : PySem.W.Frag} {mg mb : Str → Option Value} {CX : CXT} {k : Nat} {fa a : Addr} {fd : FuncData} {x : Str} {sp : Sp} {s₁ : Shared} {vs : List Value} {ns : List Int}
    (KX : K.In s₁.heap) (hns : s₁.heap.Ns mainGlobals mg) (hb : s₁.heap.Ns builtinsNs mb) (hbb : ∀ x : Str, x ≠ "__name__" → mb x = bootBuiltins x) (hlim : s₁.heap.NoLimit) (hg : s₁.gens = #[])
    (ha : s₁.heap.get? a = some { cls := .type "list", data := .seq vs.toArray }) (hi : IntsAre vs ns) (hl : ns.length ≤ sizeLine) (hr : Room k callerA)
    (F : ∀ base : Heap, K.In base → base.Ns mainGlobals mg → FnOk P w K mg base CX k fa fd [x] sp) (hbind : ∀ (s : Shared) (u : Value), BindsTo s fd ⟨[u], []⟩ [(x, u)])
    (hsp : ∀ H : Hp, Only H → SqL K H a (ns.map V.int) → sp [.ref a] H (fun v _ => v = .bl true) fun _ _ _ => False)
    (hCX : ∀ H e s', CX [] H s₁ (fun _ _ _ => False) e s' → False) :
    codeAny (model P w) callerA (.call (.ref fa) ⟨[.ref a], []⟩) (fun r s' => r = .ok (.ret (.bool true)) ∧ OldK s₁.heap s'.heap ∧ s'.os = s₁.os ∧ AllBare s'.gens) s₁ := by
  have rv := vals_ints hi
  have lenV := hi.length
  -- from an abstract heap in which nothing but the script may be tracked
  have core : ∀ H : Hp, Only H → SqL K H a (ns.map V.int) → HOk P w H s₁.heap → (∀ b, H b ≠ none → b = a) → (H a ≠ none → K.lookup a = none) →
      codeAny (model P w) callerA (.call (.ref fa) ⟨[.ref a], []⟩) (fun r s' => r = .ok (.ret (.bool true)) ∧ OldK s₁.heap s'.heap ∧ s'.os = s₁.os ∧ AllBare s'.gens) s₁ := by
    intro H hO hS hok hA hK
    have base_of : ∀ {b : Addr} {o : Obj}, s₁.heap.get? b = some o → H b = none → (hidT s₁.heap H).get? b = some o := fun e n => hidT_get e n
    have noA : ∀ {b : Addr} {o : Obj} {es : Array DictEntry} {ep : Nat}, s₁.heap.get? b = some o → o.data = .dict es ep → H b = none := fun {b o es ep} e d => by
      cases q : H b with
      | none => rfl
      | some u =>
        have e' : b = a := hA b (by rw [q]; simp)
        subst e'
        rw [ha] at e; cases e
        have d' : Data.seq vs.toArray _ = Data.dict es ep := d
        cases d'
    have nsK : ∀ {b : Addr} {m : Str → Option Value}, s₁.heap.Ns b m → (hidT s₁.heap H).Ns b m := fun {b m} ⟨o, es, ep, e, d, r⟩ => ⟨o, es, ep, base_of e (noA e d), d, r⟩
    have hKb : K.In (hidT s₁.heap H) := fun b o e => base_of (KX b o e) (by
      cases q : H b with
      | none => rfl
      | some u =>
        have e' : b = a := hA b (by rw [q]; simp)
        subst e'
        rw [hK (by rw [q]; simp)] at e; cases e)
    have hM : Mod K mg (hidT s₁.heap H) := ⟨hKb, nsK hns, ⟨mb, nsK hb, hbb⟩, let ⟨mc, h1, h2⟩ := hlim; ⟨mc, nsK h1, h2⟩⟩
    have e0 : Env0 P w K mg (hidT s₁.heap H) callerA [] s₁ H := ⟨rfl, hM, fun b o e => of_hidT e, Nat.le_of_eq (hidT_size _ _), trivial, fun b hb => absurd (show b ∈ ([] : List Addr) from hb) (by simp), hok, .of_eq hg⟩
    refine codeAny_mono ((F _ hKb (nsK hns)).run callerA [] s₁ H ⟨[.ref a], []⟩ [.ref a] [.ref a] _ _ hr e0 (hbind s₁ (.ref a)) (.cons rfl .nil) (hsp H hO hS)) fun r s' h => ?_
    cases r with
    | error e => exact (hCX H e s' h).elim
    | ok fl =>
      cases fl with
      | next => exact False.elim h
      | brk => exact False.elim h
      | cont => exact False.elim h
      | ret u =>
        obtain ⟨v, H', os, bare, un, hok', r', q⟩ := h
        have q' : v = .bl true := q
        subst q'
        obtain rfl : u = Value.bool true := r'
        refine ⟨rfl, OldK.of_keep fun b o e => ?_, os, bare⟩
        cases q : H b with
        | none => exact un.keep b o e q (by intro z; exact absurd (show b ∈ ([] : List Addr) from z) (by simp)) (by simp)
        | some u =>
          rcases hO b with z | ⟨ob, xs, z⟩
          · rw [q] at z; cases z
          · have z2 := un.frzs b ob _ z
            obtain ⟨e1, _⟩ := hok b _ z
            obtain ⟨e2, _⟩ := hok' b _ z2
            rw [e] at e1; cases e1
            exact e2
  cases hk : K.lookup a with
  | some o =>
    -- the script is one of the module's own objects
    have e := KX a o hk
    rw [ha] at e
    cases e
    refine core (fun _ => none) (fun _ => .inl rfl) (.inr ⟨_, vs.toArray, _, hk, rfl, rfl, rfl, by rw [List.size_toArray, lenV]; exact hl, by simpa using rv⟩) (fun b u z => by have z' : (none : Option HO) = some u := z; cases z') (fun b z => absurd rfl z) fun z => absurd rfl z
  | none =>
    refine core (fun b => if b = a then some (.frz { cls := .type "list", data := .seq vs.toArray } (.lst (ns.map V.int))) else none) (fun b => ?_) (.inl (.inr ⟨{ cls := .type "list", data := .seq vs.toArray }, if_pos rfl⟩)) (fun b u z => ?_) (fun b z => ?_) fun _ => hk
    · by_cases hb : b = a
      · exact .inr ⟨_, _, if_pos hb⟩
      · exact .inl (if_neg hb)
    · by_cases hb : b = a
      · have z' := (if_pos hb).symm.trans z
        cases z'
        subst hb
        exact ⟨ha, by rw [List.length_map]; exact hl, vs, _, rv, ha⟩
      · have z' := (if_neg hb).symm.trans z
        cases z'
    · by_cases hb : b = a
      · exact hb
      · exact absurd (if_neg hb) z
end L2

namespace L2
open PySem PySem.Spec PyProof.Rows

abbrev KOf {K : PySem.W.Frag} {h : Heap} (_ : K.In h) : PySem.W.Frag := K

/-- the goal that k_head leaves (case hc), from the law's promise. F gives the function object fd (K's own) once, then the promise over every base -/
theorem walk_of {l : PySem.W.OpenLaw} {n k : Nat} {q : Program} {loose : List Str} {XP : (Str → Option Value) → Heap → Prop} {YP : World → Heap → Prop} {d : DefRec} {K : Params → PySem.W.Frag} {CX : World → CXT} {sp : World → Sp} {x : Str}
    (hn : l.most = some n) (hn2 : n ≤ sizeLine) (hdf : d.params.defaults = []) (hr : Room k callerA)
    (hY : ∀ (w : World) (h : Heap), YP w h → (K w.params).In h)
    (F : ∀ (w : World) (mg : Str → Option Value) (fa : Addr) (h : Heap), (K w.params).In h → h.Ns mainGlobals mg → mg d.name = some (.ref fa) →
      ∃ fd : FuncData, (∀ (s : Shared) (u : Value), BindsTo s fd ⟨[u], []⟩ [(x, u)]) ∧
        ∀ base : Heap, (K w.params).In base → base.Ns mainGlobals mg → FnOk l.prog w (K w.params) mg base (CX w) k fa fd [x] (sp w))
    (hsp : ∀ (w : World) (H : Hp) (a : Addr) (ns : List Int), ns.length ≤ n → Only H → SqL (K w.params) H a (ns.map V.int) → sp w [.ref a] H (fun v _ => v = .bl true) fun _ _ _ => False)
    (hCX : ∀ (w : World) (H : Hp) (s : Shared) (e : Value) (s' : Shared), CX w [] H s (fun _ _ _ => False) e s' → False) :
    PySem.W.WalkO q loose XP YP l.row.toRowW d [] (fun f vs => PySem.call f vs) := by
  refine Att.attach_call hn hdf fun w s₀ s₁ mg mb fa o pm cd doc a vs ns G Y ho hd hcd hmg hobj hints hlen hg => ?_
  have KX := hY w _ Y
  obtain ⟨fd, hb, hF⟩ := F w mg fa _ KX G.T.g hmg
  exact law_call KX G.T.g G.T.b G.T.builtins G.T.nolimit hg hobj hints (Nat.le_trans hlen hn2) hr hF hb (fun H hO hS => hsp w H a ns hlen hO hS) fun H e s' => hCX w H s₁ e s'
end L2

/- THE LAST THEOREM (shape; LID, My.* are yours):
   My.Adr: a structure of the addresses that your layer names (classes, functions); My.Txt K t: a structure (Prop) of the equations over K;
   My.txt_mk : {K} {implicit addresses ..} (e1 : nsIn K mainGlobals "law" = some (some (.ref f))) (e2 : K.lookup f = some ⟨oc, od, .func (fnOf "law" "law" params body scope dV kV doc pm an cdv ct), sl⟩) (e3 : codeIn K cdv "law" = true) .. : ∃ t, My.Txt K t

set_option maxRecDepth 100000 in
set_option maxHeartbeats 0 in
theorem PySem.Challenge.cw_LID_holds : PySem.Challenge.rw_LID.Holds := by
  w_on; o_law; k_head; (case hw => w_witness2)
  k_fill
  refine L2.walk_of (l := PySem.Challenge.rw_LID) (n := 63) (k := 40) (x := "script") (CX := fun w => ..) (sp := fun _ => My.sp_law) rfl (by decide) rfl ⟨rfl, by decide, by decide⟩ (fun w h Y => PySem.W.kIn_of Y) ?F ?S ?C
  case F =>
    intro w mg fa h KX G hmg
    have T : ∃ t, My.Txt (L2.KOf KX) t := by
      dsimp only [L2.KOf]                          -- K must stand as «<heap const> w.params» for k_is
      refine' My.txt_mk ?e1 ?e2 ?e3 ..
      (case e1 => PySem.W.k_is)                    -- in the order: a name -> its address -> its object -> its parts
      (case e2 => PySem.W.k_is)
      ..
    obtain ⟨t, T⟩ := T
    have e0 := hmg.symm.trans (PySem.W.mg_of KX G T.law)
    cases e0                                       -- fa is the law's own address
    exact ⟨_, fun s u => .of_eq rfl, fun base kb nb => My.law_fn T kb nb⟩     -- if «.of_eq rfl» comes too early: refine' ⟨_, ?b, fun base kb nb => My.law_fn T kb nb⟩; exact fun s u => .of_eq rfl
  case S => exact fun w H a ns hl hO hS => ..
  case C => exact ..
(the tactic k_is has no namespace: write k_is) -/

/-! SHORT WORDS over the layer: a def of the text, its body, what a loop and a test want. -/
namespace L2
open PySem PySem.Spec PyProof.Rows

/-! ### the text by places -/
/-- the j-th statement of a class's body -/
def inClass (s : Stmt) (j : Nat) : Stmt := match s with
  | .ClassDef _ _ _ body _ _ _ _ _ _ _ => body.getD j (.Pass ⟨0, 0, 0, 0⟩)
  | _ => .Pass ⟨0, 0, 0, 0⟩
def defArgs (s : Stmt) : Arguments := match s with
  | .FunctionDef _ a _ _ _ _ _ _ _ _ => a
  | _ => { posonlyargs := [], args := [], vararg := none, kwonlyargs := [], kw_defaults := [], kwarg := none, defaults := [] }
def defBody (s : Stmt) : List Stmt := match s with
  | .FunctionDef _ _ b _ _ _ _ _ _ _ => b
  | _ => []
def defScope (s : Stmt) : Scope := match s with
  | .FunctionDef _ _ _ _ _ _ sc _ _ _ => sc
  | _ => { kind := .function, names := [], isGenerator := false, isCoroutine := false }

/-! ### no exception leaves a def -/
abbrev CX0 : CXT := fun _ _ _ _ _ _ => False
abbrev E0 : XK := fun _ _ _ => False
theorem pass0 {X : Cx} : Passes CX0 X E0 := fun _ _ _ _ _ _ _ h => h.elim

/-! ### a def (or method) of the text as it stands behind the top -/
structure Fun (K : PySem.W.Frag) (x qual : Str) (st : Stmt) (f : Addr) (fd : FuncData) : Prop where
  ex : ∃ (oc : Value) (od : Option Addr) (kV doc pm : Value) (an : Option Addr) (cdv ct : Value) (osl : Array (Option Value)),
    fd = PySem.W.fnOf x qual (defArgs st) (defBody st) (defScope st) .none kV doc pm an cdv ct ∧ K.lookup f = some ⟨oc, od, .func fd, osl⟩ ∧ PySem.W.codeIn K cdv qual = true
  kp : PySem.W.keepIn K (.ref f) = true
section
variable {P : Program} {w : World} {K : PySem.W.Frag} {mg : Str → Option Value} {base : Heap}
/-- THE RULE for a def: its body as a term of rules, and the reading of that term -/
theorem Fun.ok {x qual : Str} {st : Stmt} {f : Addr} {fd : FuncData} {N ps : List Str} {k : Nat} {sp : Sp} (F : Fun K x qual st f fd) (S : FnScope N ps (defScope st)) (len : ∀ vs H Q E, sp vs H Q E → vs.length = ps.length)
    (hbody : ∀ (cdv : Value) (A : Around) (outer : List Env) (s : Shared) (H : Hp) (vs : List V) (Q : VK) (E : XK), Room k (A.deeper (envOfC qual (defScope st) s.heap.objs.size f cdv)) → sp vs H Q E →
      ∃ t, PSs (cxOf CX0 P w K mg base N qual (defScope st) f cdv A outer s H E).nox (defBody st) t ∧ t { nx := fun _ H' => Q .non H', rt := Q } (start N vs) H) : FnOk P w K mg base CX0 (k + 1) f fd ps sp := by
  obtain ⟨oc, od, kV, doc, pm, an, cdv, ct, osl, rfl, lk, hcd⟩ := F.ex
  refine fn_of lk hcd S len fun A outer s H vs Q E hr hsp => ?_
  obtain ⟨t, h, q⟩ := hbody cdv A outer s H vs Q E hr hsp
  exact ⟨t, h.nox, q⟩
theorem fun_mk {x qual : Str} {st : Stmt} {f : Addr} {oc : Value} {od an : Option Addr} {osl : Array (Option Value)} {kV doc pm cdv ct : Value} (l : K.lookup f = some ⟨oc, od, .func (PySem.W.fnOf x qual (defArgs st) (defBody st) (defScope st) .none kV doc pm an cdv ct), osl⟩)
    (c : PySem.W.codeIn K cdv qual = true) (k : PySem.W.keepIn K (.ref f) = true) : Fun K x qual st f (PySem.W.fnOf x qual (defArgs st) (defBody st) (defScope st) .none kV doc pm an cdv ct) := ⟨⟨oc, od, kV, doc, pm, an, cdv, ct, osl, rfl, l, c⟩, k⟩
end
theorem small1000 {n : Nat} (h : n ≤ 1000) : n < sizeLine := Nat.lt_of_le_of_lt h (by decide)

/-! ### expressions in short: the name that stands in the i-th slot -/
section
variable {X : Cx}
theorem pv (i : Nat) {x : Str} {pos : Pos} (hN : X.N[i]? = some x := by rfl) (hv : Vis X.env.scope x := by first | exact Or.inl rfl | exact Or.inr (Or.inl rfl) | exact Or.inr (Or.inr rfl)) (hd : (x == ("__debug__" : Str)) = false := by decide)
    (hcd : (x == ("__classdict__" : Str)) = false := by decide) : PE X (.Name x pos) (tVar i) := pe_var hN hv hd hcd
end

/-! ### tests -/
theorem iteF {A B : Prop} (h : B) : if false = true then A else B := by
  rw [if_neg Bool.false_ne_true]
  exact h
theorem iteT {A B : Prop} (h : A) : if true = true then A else B := by
  rw [if_pos rfl]
  exact h
theorem ite2 {c A B : Prop} [Decidable c] (h1 : c → A) (h2 : ¬ c → B) : if c then A else B := by
  by_cases h : c
  · rw [if_pos h]
    exact h1 h
  · rw [if_neg h]
    exact h2 h
theorem iteNS {c A B : Prop} [Decidable c] (hc : c) (h : B) : if (!decide c) = true then A else B := by
  rw [decide_eq_true hc]
  exact iteF h

/-! ### heaps -/
/-- all that was tracked is as it was -/
def Same (H H' : Hp) : Prop := ∀ b o, H b = some o → H' b = some o
theorem Same.refl (H : Hp) : Same H H := fun _ _ h => h
theorem Same.trans {H H1 H2 : Hp} (a : Same H H1) (b : Same H1 H2) : Same H H2 := fun c o h => b c o (a c o h)
theorem Same.free {H H' : Hp} (e : Same H H') {l : Addr} (h : H' l = Option.none) : H l = Option.none := by
  cases q : H l with
  | none => rfl
  | some o =>
    rw [e l o q] at h
    cases h
theorem Same.seq {K : PySem.W.Frag} {H H' : Hp} {a : Addr} {xs : List V} (e : Same H H') (h : SqL K H a xs) : SqL K H' a xs := by
  rcases h with (h | ⟨o, h⟩) | h
  · exact .inl (.inl (e _ _ h))
  · exact .inl (.inr ⟨o, e _ _ h⟩)
  · exact .inr h

end L2

namespace L2
open PySem PySem.Spec PyProof.Rows

/-! ### lists of pairs as tables -/
section
variable {κ : Type} [DecidableEq κ]
def valV (kvs : List (κ × V)) (k : κ) : Option V := (kvs.find? fun kv => decide (kv.1 = k)).map (·.2)
/-- in its place, or at the end -/
def putK (kvs : List (κ × V)) (k : κ) (v : V) : List (κ × V) :=
  if (kvs.any fun kv => decide (kv.1 = k)) = true then kvs.map (fun kv => if kv.1 = k then (kv.1, v) else kv) else kvs ++ [(k, v)]
def dropK (kvs : List (κ × V)) (k : κ) : List (κ × V) := kvs.filter fun kv => decide (kv.1 ≠ k)

end


/-! ### a tracked dict, its keys ints and texts or tuples of these -/
/-- raw entries of a dict with tuple keys -/
abbrev KT (H : Hp) : List (List Key × V) → List (List Key × Addr × Value) → Prop := Paired fun p q => p.1 = q.1 ∧ H q.2.1 = some (.tup (p.1.map kV)) ∧ RelV p.2 q.2.2
section
variable {P : Program} {w : World} {H : Hp} {h : Heap} {a : Addr}
end

/-- what the dict at a holds at the key y -/
def DGet (H : Hp) (a : Addr) (y : V) (r : Option V) : Prop :=
  (∃ kvs k, Rd H a (.dK kvs) ∧ y = kV k ∧ r = valV kvs k) ∨ ∃ kvs k b, Rd H a (.dT kvs) ∧ y = .ref b ∧ H b = some (.tup (k.map kV)) ∧ r = valV kvs k
/-- the heap behind a[y] = v -/
def DPut (H : Hp) (a : Addr) (y v : V) (H' : Hp) : Prop :=
  (∃ kvs k, H a = some (.dK kvs) ∧ y = kV k ∧ kvs.length < sizeLine ∧ H' = upd H a (.dK (putK kvs k v))) ∨
  ∃ kvs k b, H a = some (.dT kvs) ∧ y = .ref b ∧ H b = some (.tup (k.map kV)) ∧ kvs.length < sizeLine ∧ H' = upd H a (.dT (putK kvs k v))
section
variable {X : Cx} {pins : List (Addr × Obj)} {σ : St} {H : Hp} {s : Shared} {a : Addr} {y v : V} {u r : Value} {o : Option V} {A : Around} {E : Value → Shared → Prop}

end

section
variable {X : Cx} {pins : List (Addr × Obj)} {σ : St} {H : Hp} {s : Shared} {a : Addr} {kvs : List (Key × V)} {k : Key} {u : Value} {A : Around} {E : Value → Shared → Prop}
end


/-! ### readings and rules -/
/-- the element of a subscription, not a slice -/
def NoSl (i : Expr) : Prop := ∀ ov iv, subscripted i false ov iv = operate [ov, iv] (getItem ov iv)
/-- d[y] -/
def tDGet (td ty : TE) : TE := fun σ H Q => td σ H fun x H1 => ty σ H1 fun y H2 => ∃ a v, x = .ref a ∧ DGet H2 a y (some v) ∧ Q v H2
/-- y in d, y not in d -/
def tDIn (ty td : TE) : TE := fun σ H Q => ty σ H fun y H1 => td σ H1 fun x H2 => ∃ a o, x = .ref a ∧ DGet H2 a y o ∧ Q (.bl o.isSome) H2
def tDNotIn (ty td : TE) : TE := fun σ H Q => ty σ H fun y H1 => td σ H1 fun x H2 => ∃ a o, x = .ref a ∧ DGet H2 a y o ∧ Q (.bl (!o.isSome)) H2
/-- d[y] = v -/
def sDPut (td ty tv : TE) : TS := fun D σ H => tv σ H fun v H1 => td σ H1 fun x H2 => ty σ H2 fun y H3 => ∃ a H4, x = .ref a ∧ DPut H3 a y v H4 ∧ D.nx σ H4
/-- d[y] op= v -/
def sDAug (td ty tv : TE) (rd : V → V → Hp → VK → Prop) : TS := fun D σ H => td σ H fun x H1 => ty σ H1 fun y H2 => ∃ a v, x = .ref a ∧ DGet H2 a y (some v) ∧
  tv σ H2 fun y2 H3 => rd v y2 H3 fun z H4 => ∃ H5, DPut H4 a y z H5 ∧ D.nx σ H5
/-- del d[y] -/
def sDDel (td ty : TE) : TS := fun D σ H => td σ H fun x H1 => ty σ H1 fun y H2 => ∃ a kvs k, x = .ref a ∧ H2 a = some (.dK kvs) ∧ y = kV k ∧ (valV kvs k).isSome = true ∧ D.nx σ (upd H2 a (.dK (dropK kvs k)))

section
variable {X : Cx} {o i e value : Expr} {pos pos' tpos : Pos} {td ty tv : TE}
end


/-! ### displays -/
/-- {}, to be a dict of the kind that is wanted -/
def tDNewK : TE := fun _ H Q => ∀ p, H p = none → Q (.ref p) (upd H p (.dK []))
def tDNewT : TE := fun _ H Q => ∀ p, H p = none → Q (.ref p) (upd H p (.dT []))
section
variable {X : Cx} {pos : Pos}
end

/-- the pairs of a display, from the left -/
def tPairs : List (TE × TE) → St → Hp → (List (V × V) → Hp → Prop) → Prop
  | [], _, H, Q => Q [] H
  | (tk, tv) :: r, σ, H, Q => tk σ H fun x H1 => tv σ H1 fun y H2 => tPairs r σ H2 fun ps H3 => Q ((x, y) :: ps) H3
abbrev VV : List (V × V) → List (Value × Value) → Prop := Paired fun p q => RelV p.1 q.1 ∧ RelV p.2 q.2
def PPs (X : Cx) (pos : Pos) (keys : List (Option Expr)) (values : List Expr) (trs : List (TE × TE)) : Prop :=
  ∀ (pins : List (Addr × Obj)) (s : Shared) (σ : St) (H : Hp) (Q : List (V × V) → Hp → Prop), Inv X pins σ H s → tPairs trs σ H Q →
    wpAny (model X.prog X.w) X.A (evalPairs (pairTrees keys values X.env pos)) (fun vs s' => ∃ ps H', Inv X pins σ H' s' ∧ VV ps vs ∧ Q ps H') X.xe s
def mergeK (kvs more : List (Key × V)) : List (Key × V) := more.foldl (fun acc kv => putK acc kv.1 kv.2) kvs
/-- {k: v, ..} with keys ints and texts; the new dict stands empty while the pairs are made -/
def tDisp (trs : List (TE × TE)) : TE := fun σ H Q => ∀ p, H p = none → tPairs trs σ (upd H p (.dK [])) fun ps H2 => H2 p = some (.dK []) ∧ ∃ kvs : List (Key × V), ps = kvs.map (fun kv => (kV kv.1, kv.2)) ∧ kvs.length ≤ 15 ∧ Q (.ref p) (upd H2 p (.dK (mergeK [] kvs)))
end L2
/-! my own rules over the layer: the glue of defs, floor division by great numbers, isinstance, is, tuples -/
namespace L2
open PySem PySem.Spec PyProof.Rows

theorem same_new {H : Hp} {p : Addr} (h : H p = none) (o : HO) : Same H (upd H p o) := fun b u q => by rw [upd_ne (ne_of_none q h)]; exact q
/-- a def of the top, by its name -/
structure Def (K : PySem.W.Frag) (mg : Str → Option Value) (x : Str) (st : Stmt) (ps : List Str) : Prop where
  ex : ∃ (f : Addr) (fd : FuncData), Fun K x x st f fd ∧ (∀ us : List Value, us.length = ps.length → bindArgs fd ⟨us, []⟩ = pure (ps.zip us)) ∧ mg x = some (.ref f)
theorem def_mk {K : PySem.W.Frag} {h : Heap} {mg : Str → Option Value} {x : Str} {st : Stmt} {ps : List Str} {f : Addr} {oc : Value} {od an : Option Addr} {osl : Array (Option Value)} {kV doc pm cdv ct : Value}
    (KX : K.In h) (G : h.Ns mainGlobals mg) (a : PySem.W.nsIn K mainGlobals x = some (some (.ref f)))
    (l : K.lookup f = some ⟨oc, od, .func (PySem.W.fnOf x x (defArgs st) (defBody st) (defScope st) .none kV doc pm an cdv ct), osl⟩)
    (c : PySem.W.codeIn K cdv x = true) (k : PySem.W.keepIn K (.ref f) = true)
    (b : ∀ (kV doc pm : Value) (an : Option Addr) (cdv ct : Value) (us : List Value), us.length = ps.length → bindArgs (PySem.W.fnOf x x (defArgs st) (defBody st) (defScope st) .none kV doc pm an cdv ct) ⟨us, []⟩ = pure (ps.zip us)) :
    Def K mg x st ps := ⟨f, _, fun_mk l c k, b kV doc pm an cdv ct, PySem.W.mg_of KX G a⟩

/-- what a caller knows of a def -/
structure Cal (P : Program) (w : World) (K : PySem.W.Frag) (mg : Str → Option Value) (base : Heap) (k : Nat) (x : Str) (ps : List Str) (sp : Sp) : Prop where
  ex : ∃ (f : Addr) (fd : FuncData), FnOk P w K mg base CX0 k f fd ps sp ∧ Binds K fd ps [] ∧ PySem.W.keepIn K (.ref f) = true ∧ mg x = some (.ref f)
theorem Def.cal {P : Program} {w : World} {K : PySem.W.Frag} {mg : Str → Option Value} {base : Heap} {k : Nat} {x : Str} {st : Stmt} {ps : List Str} {sp : Sp} (d : Def K mg x st ps)
    (F : ∀ (f : Addr) (fd : FuncData), Fun K x x st f fd → FnOk P w K mg base CX0 k f fd ps sp) : Cal P w K mg base k x ps sp := by
  obtain ⟨f, fd, h1, h2, h3⟩ := d.ex
  exact ⟨f, fd, F f fd h1, .all h2, h1.kp, h3⟩
section
variable {X : Cx} {k : Nat} {x : Str} {ps : List Str} {sp : Sp} {p pos : Pos} {e : Expr} {es : List Expr} {t : TA}
/-- f(..), f a def of the top -/
theorem pe_fn (c : Cal X.prog X.w X.K X.mg X.base k x ps sp) (hr : Room k X.A) (hg : Gl X x) (ha : PA X (e :: es) t) (hdb : (x == ("__debug__" : Str)) = false := by decide)
    (he : starEach (e :: es) X.env = (false, eval e X.env) :: starEach es X.env := by rfl) (hpl : (backTo pos (starEach es X.env)).any (·.1) = false := by rfl) :
    PE X (.Call (.Name x p) (e :: es) [] pos) (tCall sp [] E0 t) := by
  obtain ⟨f, fd, F, B, kp, m⟩ := c.ex
  exact pe_call F hr hg m kp B .nil pass0 ha hdb he hpl
end

/-- the law's own promise -/
def spLaw (K : PySem.W.Frag) : Sp := fun vs H Q _ => ∃ (a : Addr) (ns : List Int), vs = [.ref a] ∧ SqL K H a (ns.map V.int) ∧ ns.length ≤ 63 ∧ Only H ∧ ∀ H', Q (.bl true) H'
theorem law_mk {P : Program} {w : World} {K : PySem.W.Frag} {mg : Str → Option Value} {k : Nat} {st : Stmt} {fa : Addr} (d : Def K mg "law" st ["_law_script"])
    (F : ∀ (base : Heap) (f : Addr) (fd : FuncData), Fun K "law" "law" st f fd → FnOk P w K mg base CX0 k f fd ["_law_script"] (spLaw K)) (hmg : mg "law" = some (.ref fa)) :
    ∃ fd : FuncData, (∀ (s : Shared) (u : Value), BindsTo s fd ⟨[u], []⟩ [("_law_script", u)]) ∧ ∀ base : Heap, K.In base → base.Ns mainGlobals mg → FnOk P w K mg base CX0 k fa fd ["_law_script"] (spLaw K) := by
  obtain ⟨f, fd, h1, h2, h3⟩ := d.ex
  have e := hmg.symm.trans h3
  cases e
  exact ⟨fd, fun s u => .of_eq (h2 [u] rfl), fun base _ _ => F base _ _ h1⟩
theorem walkL {l : PySem.W.OpenLaw} {k : Nat} {q : Program} {loose : List Str} {XP : (Str → Option Value) → Heap → Prop} {YP : World → Heap → Prop} {d : DefRec} {K : Params → PySem.W.Frag} (hr : Room k callerA) (hn : l.most = some 63) (hdf : d.params.defaults = [])
    (hY : ∀ (w : World) (h : Heap), YP w h → (K w.params).In h)
    (F : ∀ (w : World) (mg : Str → Option Value) (fa : Addr) (h : Heap), (K w.params).In h → h.Ns mainGlobals mg → mg d.name = some (.ref fa) →
      ∃ fd : FuncData, (∀ (s : Shared) (u : Value), BindsTo s fd ⟨[u], []⟩ [("_law_script", u)]) ∧ ∀ base : Heap, (K w.params).In base → base.Ns mainGlobals mg → FnOk l.prog w (K w.params) mg base CX0 k fa fd ["_law_script"] (spLaw (K w.params))) :
    PySem.W.WalkO q loose XP YP l.row.toRowW d [] (fun f vs => PySem.call f vs) :=
  walk_of (n := 63) (k := k) (x := "_law_script") (CX := fun _ => CX0) (sp := fun w => spLaw (K w.params)) hn (by decide) hdf hr hY F (fun _ _ a ns hl hO hS => ⟨a, ns, rfl, hS, hl, hO, fun _ => rfl⟩) fun _ _ _ _ _ z => z

section
variable {X : Cx}
theorem log2_small {n : Nat} (h : n < 10 ^ 60) : n.log2 < 9000 := by
  by_cases h0 : n = 0
  · subst h0; decide
  · have h1 : n.log2 < 200 := (Nat.log2_lt h0).mpr (Nat.lt_of_lt_of_le h (by decide))
    omega
/-- // by a positive number of at most sixty digits -/
theorem op_fdivB : OpR X (binaryOp .FloorDiv) (rI (fun _ j => 0 < j ∧ j < 10 ^ 60) fun i j => .int (i / j)) := opI fun i j _ _ _ _ _ hc q => by
  have h1 : (0 : Int) < j := hc.1
  have h2 : j < 10 ^ 60 := hc.2
  exact floordiv_int (by omega) (by rw [Int.fdiv_eq_ediv_of_nonneg i (by omega)]; exact q) (.inl (PyProof.noPylong_of_log2 (log2_small (by omega))))
end
section
theorem bt_int : bootBuiltins "int" = some (.type "int") := by decide +kernel
theorem bt_list : bootBuiltins "list" = some (.type "list") := by decide +kernel
theorem bt_tuple : bootBuiltins "tuple" = some (.type "tuple") := by decide +kernel
theorem bt_len : bootBuiltins "len" = some (.builtin "len") := by decide +kernel
theorem bt_isinstance : bootBuiltins "isinstance" = some (.builtin "isinstance") := by decide +kernel
theorem bt_max : bootBuiltins "max" = some (.builtin "max") := by decide +kernel
theorem bt_min : bootBuiltins "min" = some (.builtin "min") := by decide +kernel
end
section
variable {K : PySem.W.Frag}
end

/-! ### heaps: all kept but one -/
def Keep (p : Addr) (H H' : Hp) : Prop := ∀ b o, b ≠ p → H b = some o → H' b = some o
theorem Keep.trans {p : Addr} {H H1 H2 : Hp} (a : Keep p H H1) (b : Keep p H1 H2) : Keep p H H2 := fun c o n h => b c o n (a c o n h)
theorem Keep.same {p : Addr} {H H' : Hp} (s : Same H H') : Keep p H H' := fun b o _ h => s b o h
theorem Keep.set (p : Addr) (H : Hp) (o : HO) : Keep p H (upd H p o) := fun b u n h => by rw [upd_ne n]; exact h
theorem Keep.new {p q : Addr} {H : Hp} (h : H q = none) (o : HO) : Keep p H (upd H q o) := .same (same_new h o)
theorem Same.seqT {K : PySem.W.Frag} {H H' : Hp} {a : Addr} {xs : List V} (e : Same H H') (h : SqT K H a xs) : SqT K H' a xs := by
  rcases h with (h | ⟨o, h⟩) | h
  · exact .inl (.inl (e _ _ h))
  · exact .inl (.inr ⟨o, e _ _ h⟩)
  · exact .inr h
theorem sz {n : Nat} (h : n ≤ 1000) : n ≤ sizeLine := Nat.le_of_lt (small1000 h)
theorem szb {n : Nat} (h : Nat.ble n 1000 = true) : n ≤ sizeLine := sz (Nat.le_of_ble_eq_true h)
theorem atI_ints {l : List Int} {i : Int} (h0 : 0 ≤ i) (h1 : i < (l.length : Int)) : ∃ v, v ∈ l ∧ atI (l.map V.int) i = some (.int v) := by
  have hk : i.toNat < l.length := by omega
  have ek : i = ((i.toNat : Nat) : Int) := by omega
  have q : atI (l.map V.int) ((i.toNat : Nat) : Int) = some (.int l[i.toNat]) := atI_nat (by rw [List.getElem?_map, List.getElem?_eq_getElem hk] <;> rfl)
  rw [← ek] at q
  exact ⟨l[i.toNat], List.getElem_mem hk, q⟩
end L2
/-! my own rules over the layer: a list comprehension whose element may change things -/
namespace L2
open PySem PySem.Spec PyProof.Rows

/-- the kinds of the names of a comprehension's block within a def of that scope -/
def relN (scope sc0 : Scope) : List (Str × NameKind) := scope.names.map fun (n, k) => if (k == .free && sc0.kind == .function && sc0.names.lookup n == some .cell) then (n, .cell) else (n, k)
def CellsIn (env : Env) : List (Str × Addr) → Prop
  | [] => True
  | (n, c) :: r => env.cells.lookup n = some c ∧ CellsIn env r
theorem CellsIn.look {env : Env} : ∀ {cl : List (Str × Addr)} {n : Str} {c : Addr}, CellsIn env cl → cl.lookup n = some c → env.cells.lookup n = some c
  | [], _, _, _, h => by cases h
  | (m, d) :: r, n, c, hc, h => by
    rw [List.lookup_cons] at h
    cases hx : n == m with
    | true =>
      rw [hx] at h
      cases h
      rw [eq_of_beq hx]
      exact hc.1
    | false =>
      rw [hx] at h
      exact CellsIn.look hc.2 h
theorem look_of_mem {cl : List (Str × Addr)} {n : Str} (h : n ∈ cl.map (·.1)) : ∃ c, cl.lookup n = some c := by
  induction cl with
  | nil => cases h
  | cons p r ih =>
    obtain ⟨m, d⟩ := p
    rw [List.lookup_cons]
    cases hx : n == m with
    | true => exact ⟨d, rfl⟩
    | false =>
      rcases List.mem_cons.mp h with e | e
      · have e' : n = m := e
        rw [e', beq_self_eq_true] at hx
        cases hx
      · exact ih e
structure CompOk (scope sc0 : Scope) (x : Str) (N cn : List Str) : Prop where
  has : ∀ p ∈ relN scope sc0, (p.2 = .cell ∨ p.2 = .free) → p.1 ∈ cn
  nc : ∀ p ∈ scope.names, p.2 ≠ .cell
  names : ∀ p ∈ scope.names, p.2 = .local → scope.names.lookup p.1 = some .local
  hx : scope.names.lookup x = some .local
  hx' : (relN scope sc0).lookup x = some .local
  nd : (x :: N).Nodup
  frs : ∀ y ∈ N, (relN scope sc0).lookup y = some .cell ∧ sc0.names.lookup y = some .cell ∧ y ∈ cn

/-- the context of a comprehension's block -/
def compCx (X : Cx) (scope : Scope) (cl : List (Str × Addr)) (C : Addr) (x : Str) (N : List Str) (s₂ : Shared) (H₂ : Hp) (fp : List Addr) : Cx where
  prog := X.prog
  w := X.w
  K := X.K
  mg := X.mg
  base := X.base
  A := X.A
  N := x :: N
  s₀ := s₂
  H₀ := H₂
  env := compEnvC scope cl C X.env
  outer := X.stack
  stack := X.stack
  ex := fp
  fn := fun _ => false
  calm := X.calm
  pn := []
  xe := fun _ _ => False

/-- the reading: W the invariant by the turn, a measure, the items so far -/
def tComp (wi : TI) (te : TE) (fr : List Nat) : TE := fun σ H Q => wi σ H fun J H1 => ∀ D, H1 D = none → ∃ W : Nat → Nat → List V → Hp → Prop, (∃ m, W 0 m [] (upd H1 D (.lst []))) ∧
  ∀ i m ys H2, W i m ys H2 → H2 D = some (.lst ys) ∧ ((J.stop i H2 ∧ Q (.ref D) H2) ∨ (J.go i H2 ∧ ys.length < sizeLine ∧ ∃ N : V → Hp → Prop, (∀ y H3, N y H3 → H3 D = some (.lst ys) ∧ ∃ m', m' < m ∧ W (i + 1) m' (ys ++ [y]) (upd H3 D (.lst (ys ++ [y])))) ∧
    ∀ x H', J.yld i H2 x H' → te (some x :: fr.map fun j => (σ[j]?).getD none) H' N))

section
variable {prog : Program} {w : World} {A : Around} {R : Result → Shared → Prop} {s : Shared}
theorem compLoop_any {elt target iter : Expr} {scope : Scope} {pos : Pos} {it acc : Value} {env : Env} (I : Nat → Shared → Prop)
    (turn : ∀ n s, I n s → wpAny (model prog w) A (pyNext it) (fun r s₁ => match r with
      | none => R (.ok .next) s₁
      | some v => wpAny (model prog w) A (letOwnedTupleGo target it v) (fun _ s₁' => wpAny (model prog w) A (assign target env v) (fun _ s₂ => wpAny (model prog w) A (eval elt env) (fun x s₃ =>
          wpAny (model prog w) A (call (.builtin "list.append") [acc, x]) (fun _ s₄ => ∃ m, m < n ∧ I m s₄) (notedBy (model prog w) A env fun e s' => R (.error e) s') s₃)
          (notedBy (model prog w) A env fun e s' => R (.error e) s') s₂) (notedBy (model prog w) A env fun e s' => R (.error e) s') s₁') (notedBy (model prog w) A env fun e s' => R (.error e) s') s₁) (notedBy (model prog w) A env fun e s' => R (.error e) s') s)
    (n : Nat) (h : I n s) :
    codeAny (model prog w) A (.compLoop (.ListComp elt [⟨target, iter, [], 0⟩] scope pos) 0 it acc env) R s := by
  refine codeAny_loop rfl I (fun n s hI => ?_) n h
  show wpAny _ _ ((compTurn (.ListComp elt [⟨target, iter, [], 0⟩] scope pos) 0 it acc env).onRaise (fun x => do noteFrame x env; theTreesLotGoes x)) _ _ s
  refine wpAny_noted ?_
  rw [compTurn_list1]
  refine wpAny_bind (wpAny_standAt (wpAny_bind (wpAny_mono (turn n s hI) (fun r s₁ h₁ => ?_) fun _ _ h' => h')))
  cases r with
  | none => exact wpAny_pure h₁
  | some v =>
    exact wpAny_bind (wpAny_mono h₁ (fun _ s₁' h₁' => wpAny_bind (wpAny_mono h₁' (fun _ s₂ h₂ => wpAny_bind (wpAny_bind (wpAny_mono h₂ (fun x s₃ h₃ => wpAny_bind (wpAny_mono h₃
      (fun _ s₄ h₄ => wpAny_pure (wpAny_pure ⟨rfl, h₄⟩)) fun _ _ h' => h')) fun _ _ h' => h'))) fun _ _ h' => h')) fun _ _ h' => h')
end

theorem lookup_mem {α : Type} : ∀ {l : List (Str × α)} {x : Str} {a : α}, l.lookup x = some a → (x, a) ∈ l := fun h => PySem.mem_of_lookup h

theorem comp_core {X : Cx} {elt iter : Expr} {x : Str} {px pos : Pos} {scope sc0 : Scope} {cl : List (Str × Addr)} {cn N : List Str} {fr : List Nat} {te : TE} {pins : List (Addr × Obj)} {σ : St} {H2 : Hp} {s2 : Shared} {it : Addr} {fp : List Addr}
    {tn : Nat → Heap → Prop} {J : It} {RR : Value → Addr → Result → Shared → Prop} {R : Hp → Prop} {E : Value → Shared → Prop} {W : Nat → Nat → List V → Hp → Prop} {m0 : Nat}
    (hc : X.calm = true) (he : ∀ (C : Addr) (s₂ : Shared) (H₂ : Hp) (fp : List Addr), PE (compCx X scope cl C x N s₂ H₂ fp) elt te)
    (hcl : CellsIn X.env cl) (hcn : cl.map (·.1) = cn) (hsc : X.env.scope = sc0) (hk : scope.kind = .function) (hok : CompOk scope sc0 x N cn) (hfr : fr.map (fun j => X.N[j]?) = N.map some)
    (I2 : Inv X pins σ H2 s2) (T : Turn X.prog X.w X.K (.Name x px) J fp it tn) (st2 : tn 0 s2.heap) (f2 : ∀ b ∈ fp, FpOk X pins H2 b)
    (w0 : W 0 m0 [] (upd H2 s2.heap.objs.size (.lst [])))
    (turn : ∀ i m ys H, W i m ys H → H s2.heap.objs.size = some (.lst ys) ∧ ((J.stop i H ∧ R H) ∨ (J.go i H ∧ ys.length < sizeLine ∧ ∃ N : V → Hp → Prop,
      (∀ y H3, N y H3 → H3 s2.heap.objs.size = some (.lst ys) ∧ ∃ m', m' < m ∧ W (i + 1) m' (ys ++ [y]) (upd H3 s2.heap.objs.size (.lst (ys ++ [y])))) ∧
      ∀ x H', J.yld i H x H' → te (some x :: fr.map fun j => (σ[j]?).getD none) H' N)))
    (hRR : ∀ (C : Addr) (H6 : Hp) (s6 : Shared) (m6 : Str → Option Value), s6.heap.Ns C m6 → Inv X pins σ H6 s6 → FpOk X pins H6 C → R H6 → RR (.ref s2.heap.objs.size) C (.ok .next) s6) :
    wpAny (model X.prog X.w) X.A (newList []) (fun acc s₃ => wpAny (model X.prog X.w) X.A (newFunctionEnv scope X.env.globals cl [] X.env.qual none .none (some X.env)) (fun cenv s₄ =>
      codeAny (model X.prog X.w) X.A (.compStart (.ListComp elt [⟨.Name x px, iter, [], 0⟩] scope pos) 0 (.ref it) acc { cenv with scope := relabel scope X.env }) (RR acc cenv.locals) s₄) E s₃) E s2 := by
  refine wpAny_newObj_type (wpAny_newFunctionEnv hok.nc (by intro y hy; simp at hy) (fun h4 hns hsb => ?_) hk)
  dsimp only at hns hsb ⊢
  have rel : ∀ y, (compEnvC scope cl 0 X.env).scope.names.lookup y = (relN scope sc0).lookup y := fun y => by
    show (relabel scope X.env).names.lookup y = _
    unfold relabel relN Env.kindOf
    rw [hsc]
  generalize hD : s2.heap.objs.size = D at *
  have I3 : Inv X pins σ (upd H2 D (.lst [])) { s2 with heap := s2.heap.push { cls := .type "list", dict := none, data := .seq ([] : List Value).toArray } } :=
    I2.laid (t' := s2.toks) (fun b u e => Heap.get?_push_of_some _ e) (Nat.le_of_eq hD) ⟨Nat.zero_le _, [], 0, .nil, by rw [← hD]; exact Heap.get?_push_size _ rfl⟩
  have k23 : ∀ b u, s2.heap.get? b = some u → (s2.heap.push { cls := .type "list", dict := none, data := .seq ([] : List Value).toArray }).get? b = some u := fun b u e => Heap.get?_push_of_some _ e
  have hsz : s2.heap.objs.size ≤ (s2.heap.push { cls := .type "list", dict := none, data := .seq ([] : List Value).toArray }).objs.size := by rw [Heap.size_push]; exact Nat.le_succ _
  generalize hh3 : s2.heap.push { cls := .type "list", dict := none, data := .seq ([] : List Value).toArray } = h3 at *
  have k34 : ∀ b u, h3.get? b = some u → h4.get? b = some u := fun b u e => (hsb.2 b (Nat.ne_of_lt (Heap.lt_size e))).trans (Heap.get?_push_of_some _ e)
  generalize hC : h3.objs.size = C at *
  have I4 : Inv X pins σ (upd H2 D (.lst [])) { s2 with heap := h4, toks := s2.toks + ([] : List (Str × Value)).length } := I3.kept (t' := s2.toks + 0) k34
  generalize hH3 : upd H2 D (.lst []) = H3 at *
  have ltC : ∀ b o, s2.heap.get? b = some o → b < C := fun b o e => Nat.lt_of_lt_of_le (Heap.lt_size e) hsz
  have lenF : fr.length = N.length := by simpa using congrArg List.length hfr
  have fpo : ∀ b ∈ fp, b ≠ C ∧ b ∉ frs X.stack := fun b hb => by
    obtain ⟨o, e, _⟩ := T.obj 0 s2.heap st2 b hb
    refine ⟨Nat.ne_of_lt (ltC b o e), fun z => ?_⟩
    obtain ⟨_, n1, n2, _⟩ := f2 b hb
    rcases List.mem_cons.mp (I2.stkSub b z) with q | q
    · exact n1 q
    · exact n2 q
  have H3C : H3 C = none := I3.hok.fresh (Nat.le_of_eq hC)
  have okX : (compCx X scope cl C x N { s2 with heap := h3 } H3 fp).Ok := by
    refine ⟨I2.ok.mod, hk, I2.ok.glob, I2.ok.blt, Nat.le_of_eq hC, fun y z c e1 e2 => I2.ok.inj y z c (hcl.look e1) (hcl.look e2), fun y hy => ?_, fun y c z => (Bool.false_ne_true z).elim, fun z => I2.ok.hd z, I2.ok.frames, .inl rfl,
      fun b hb => ⟨(fpo b hb).1, fun y c e => (f2 b hb).2.2.2.2.1 y c (hcl.look e)⟩, fun b o e => I3.bs b o e, Nat.le_trans I2.ok.bsz I3.sz, fun b o e hb => ?_, fun b hb => (fpo b hb).2, I3.stack, I3.stkFree⟩
    · have hy' : (relN scope sc0).lookup y = some .cell ∨ (relN scope sc0).lookup y = some .free := by
        rcases hy with hy | hy
        · exact .inl ((rel y).symm.trans hy)
        · exact .inr ((rel y).symm.trans hy)
      have hm : y ∈ cn := by
        rcases hy' with q | q
        · exact hok.has (y, .cell) (lookup_mem q) (.inl rfl)
        · exact hok.has (y, .free) (lookup_mem q) (.inr rfl)
      exact look_of_mem (cl := cl) (n := y) (by rw [hcn]; exact hm)
    · rcases (f2 b hb).2.2.2.1 with z | z
      · exact I2.ok.noex b o e z
      · exact absurd (Nat.lt_of_lt_of_le (Heap.lt_size e) (Nat.le_trans I2.ok.bsz z)) (Nat.lt_irrefl _)
  have I5 : Inv (compCx X scope cl C x N { s2 with heap := h3 } H3 fp) [] (none :: fr.map fun j => (σ[j]?).getD none) H3 { s2 with heap := h4, toks := s2.toks + ([] : List (Str × Value)).length } := by
    refine ⟨okX, rfl, I4.bare, Un.kept k34, ⟨_, hns, fun i y v e1 e2 e3 => ?_⟩, fun y c e => I4.cell y c (hcl.look e), H3C, fun y c e => I4.freeC y c (hcl.look e), fun p hp => absurd (show p ∈ ([] : List (Addr × Obj)) from hp) (by simp), I4.hok, by simp [compCx, lenF]⟩
    cases i with
    | zero => cases e2
    | succ j =>
      have e1' : N[j]? = some y := e1
      have e2' : (fr.map fun j => (σ[j]?).getD none)[j]? = some (some v) := e2
      obtain ⟨k, ek⟩ : ∃ k, fr[j]? = some k := by
        have : j < fr.length := by rw [lenF]; exact (List.getElem?_eq_some_iff.mp e1').1
        exact ⟨fr[j], List.getElem?_eq_getElem this⟩
      rw [List.getElem?_map, ek] at e2'
      have e2'' : (σ[k]?).getD none = some v := Option.some.inj e2'
      have eσ : σ[k]? = some (some v) := by
        cases q : σ[k]? with
        | none => rw [q] at e2''; cases e2''
        | some o => rw [q] at e2''; exact congrArg some e2''
      have eN : X.N[k]? = some y := by
        have z := congrArg (fun l => l[j]?) hfr
        simp only [List.getElem?_map, ek, e1', Option.map_some] at z
        exact Option.some.inj z
      obtain ⟨r1, r2, r3⟩ := hok.frs y (List.mem_of_getElem? e1')
      obtain ⟨m, _, hl⟩ := I4.loc
      obtain ⟨u, ru, look⟩ := hl k y v eN eσ (.inr (.inl (by rw [hsc]; exact r2)))
      refine ⟨u, ru, .inr ⟨.inl ((rel y).trans r1), ?_⟩⟩
      rcases look with ⟨l1, _⟩ | ⟨_, c, l1, l2⟩
      · exfalso
        have l1' : X.env.scope.names.lookup y = some .local := l1
        rw [hsc, r2] at l1'
        cases l1'
      · obtain ⟨c', l3⟩ := look_of_mem (cl := cl) (n := y) (by rw [hcn]; exact r3)
        have l4 := hcl.look l3
        rw [l1] at l4
        cases l4
        exact ⟨c, l3, l2⟩
  have st4 : tn 0 h4 := T.keep 0 s2.heap h4 st2 fun b hb o e => k34 b o (k23 b o e)
  have fp5 : ∀ {H' : Hp}, (∀ b ∈ fp, H' b = none) → ∀ b ∈ fp, FpOk (compCx X scope cl C x N { s2 with heap := h3 } H3 fp) [] H' b := fun hn b hb =>
    ⟨hn b hb, (fpo b hb).1, (fpo b hb).2, .inl hb, fun y c e => (f2 b hb).2.2.2.2.1 y c (hcl.look e), fun p hp => absurd (show p ∈ ([] : List (Addr × Obj)) from hp) (by simp)⟩
  have fr3 : ∀ b ∈ fp, H3 b = none := fun b hb => by
    obtain ⟨o, e, _⟩ := T.obj 0 s2.heap st2 b hb
    have : b ≠ D := Nat.ne_of_lt (hD ▸ Heap.lt_size e)
    rw [← hH3, upd_ne this]
    exact (f2 b hb).1
  have hx' : Loc (compCx X scope cl C x N { s2 with heap := h3 } H3 fp).env.scope x := .inl ((rel x).trans hok.hx')
  have fin : ∀ (H6 : Hp) (s6 : Shared) (σ6 : St), Inv (compCx X scope cl C x N { s2 with heap := h3 } H3 fp) [] σ6 H6 s6 → Inv X pins σ H6 s6 ∧ FpOk X pins H6 C := by
    intro H6 s6 σ6 I6
    refine ⟨I3.call' (s' := s6) (ch := fp) I6.os ⟨I6.base.keep, I6.base.slot, I6.base.free, I6.base.there, I6.base.tups, I6.base.frzs, I6.base.tbls⟩ I6.hok I6.bare (fun b hb => ?_), I3.fpOk (Nat.le_of_eq hC) I6.free⟩
    obtain ⟨_, n1, _, n3, n4, n5⟩ := f2 b hb
    exact ⟨n3, n1, n4, n5⟩
  have loop : codeAny (model X.prog X.w) X.A (.compLoop (.ListComp elt [⟨.Name x px, iter, [], 0⟩] scope pos) 0 (.ref it) (.ref D) (compEnvC scope cl C X.env))
      (RR (.ref D) C) { s2 with heap := h4, toks := s2.toks + ([] : List (Str × Value)).length } := by
    refine compLoop_any (fun n s' => ∃ i v0 ys H', Inv (compCx X scope cl C x N { s2 with heap := h3 } H3 fp) [] (v0 :: fr.map fun j => (σ[j]?).getD none) H' s' ∧ tn i s'.heap ∧ (∀ b ∈ fp, H' b = none) ∧ W i n ys H') ?_ m0
      ⟨0, none, [], H3, I5, st4, fr3, w0⟩
    rintro n s6 ⟨i, v0, ys, H6, I6, st6, fr6, w6⟩
    obtain ⟨hDl, hw⟩ := turn i n ys H6 w6
    rcases hw with ⟨stop, qn⟩ | ⟨go, hlen, N', hN', step⟩
    · refine thn (T.done (compCx X scope cl C x N { s2 with heap := h3 } H3 fp) rfl rfl rfl hc i [] s6 _ H6 _ I6 (fp5 fr6) st6 stop) fun r s7 ⟨hr, I7⟩ => ?_
      subst hr
      obtain ⟨m7, hn7, _⟩ := I7.loc
      obtain ⟨J7, F7⟩ := fin H6 s7 _ I7
      exact hRR C H6 s7 m7 hn7 J7 F7 qn
    · refine thn (T.item (compCx X scope cl C x N { s2 with heap := h3 } H3 fp) rfl rfl rfl hc i [] s6 _ H6 _ I6 (fp5 fr6) st6 go) fun r s7 ⟨u, hr, h7⟩ => ?_
      subst hr
      refine thn h7 fun _ s8 ⟨x8, H8, I8, r8, y8, st8, fr8⟩ => ?_
      have I8' := I8.pinned (fp5 fr8) (T.obj _ _ st8)
      refine wpAny_assign_Name (store_ok (i := 0) I8' hok.nd rfl hx' r8 (fun s9 I9 => ?_) (.inr ((rel x).trans hok.hx')))
      have I9' : Inv (compCx X scope cl C x N { s2 with heap := h3 } H3 fp) ([] ++ pinsAt fp s8.heap) (some x8 :: fr.map fun j => (σ[j]?).getD none) H8 s9 := I9
      refine wpAny_mono (he C { s2 with heap := h3 } H3 fp _ s9 _ H8 _ I9' (step x8 H8 y8)) (fun y s10 h10 => ?_) fun _ _ z => False.elim z
      obtain ⟨y10, H10, I10, r10, n10⟩ := h10
      obtain ⟨hD10, m', hm, w10⟩ := hN' y10 H10 n10
      refine wpAny_mono (mt_append (X := compCx X scope cl C x N { s2 with heap := h3 } H3 fp) _ s10 _ H10 (.ref D) [y10] (.ref D) [y] (fun _ H' => H' = upd H10 D (.lst (ys ++ [y10]))) I10 rfl (.cons r10 .nil) ⟨D, ys, y10, rfl, rfl, hD10, hlen, rfl⟩) (fun _ s11 h11 => ?_) fun _ _ z => False.elim z
      obtain ⟨_, H11, I11, _, e11⟩ := h11
      subst e11
      refine ⟨m', hm, i + 1, some x8, ys ++ [y10], _, I11.unpinned, T.keep _ _ _ st8 fun b hb o e => (I11.pin (b, o) (List.mem_append_right _ (List.mem_append_right _ (mem_pinsAt hb e)))).1, fun b hb => ?_, w10⟩
      obtain ⟨o, e, d⟩ := T.obj _ _ st8 b hb
      exact (I11.pin (b, o) (List.mem_append_right _ (List.mem_append_right _ (mem_pinsAt hb e)))).2.1
  exact codeAny_compStart_list loop (T.self _ 0 _ _ _ st4 loop)

theorem Inv.let_go {X : Cx} {pins : List (Addr × Obj)} {σ : St} {H : Hp} {s : Shared} {C : Addr} {h' : Heap} (I : Inv X pins σ H s) (F : FpOk X pins H C) (sb : Heap.SameBut C s.heap h') : Inv X pins σ H { s with heap := h' } := by
  obtain ⟨f0, f1, _, f3, f4, f5⟩ := F
  exact I.turned (t' := s.toks) (fun b o hb e => (sb.2 b hb).trans e) f0 f1 f3 f4 f5
theorem pe_comp {X : Cx} {elt iter : Expr} {x : Str} {px pos : Pos} {scope sc0 : Scope} {cl : List (Str × Addr)} {cn N : List Str} {fr : List Nat} {wi : TI} {te : TE}
    (hc : X.calm = true) (hi : PI X (.Name x px) iter wi) (he : ∀ (C : Addr) (s₂ : Shared) (H₂ : Hp) (fp : List Addr), PE (compCx X scope cl C x N s₂ H₂ fp) elt te)
    (hclos : closureFor scope X.env = pure cl) (hcl : CellsIn X.env cl) (hcn : cl.map (·.1) = cn) (hsc : X.env.scope = sc0) (hk : scope.kind = .function) (hok : CompOk scope sc0 x N cn)
    (hfr : fr.map (fun j => X.N[j]?) = N.map some) (hs : ∀ v, foldedSetIterable iter X.env v = pure v := by intro _; rfl) :
    PE X (.ListComp elt [⟨.Name x px, iter, [], 0⟩] scope pos) (tComp wi te fr) := by
  intro pins s σ H Q I h
  rw [eval_ListComp]
  refine wpAny_comprehension_free (use := none) rfl hs hclos hk hok.names (thn (hi pins s σ H _ I h) fun v s1 h1 => thn h1 fun itv s2 h2 => ?_)
  obtain ⟨it, fp, tn, J, H2, e, I2, T, st2, f2, hq⟩ := h2
  subst e
  obtain ⟨W, ⟨m0, w0⟩, turn⟩ := hq s2.heap.objs.size (I2.hok.fresh (Nat.le_refl _))
  exact comp_core (RR := fun acc C => compPost (model X.prog X.w) X.A X.xe none (EP X pins σ Q) acc C) (R := fun H6 => Q (.ref s2.heap.objs.size) H6) hc he hcl hcn hsc hk hok hfr I2 T st2 f2 w0 turn
    fun C H6 s6 m6 hn I6 F6 q => ⟨m6, hn, fun h' sb => ⟨.ref s2.heap.objs.size, H6, I6.let_go F6 sb, rfl, q⟩⟩
/-- y = [.. for x in ..], straight to a local name -/
def tSetComp (i : Nat) (wi : TI) (te : TE) (fr : List Nat) : TS := fun D σ H => tComp wi te fr σ H fun v H1 => D.nx (σ.set i (some v)) H1
theorem ps_setComp {X : Cx} {i : Nat} {y : Str} {py spos : Pos} {elt iter : Expr} {x : Str} {px pos : Pos} {scope sc0 : Scope} {cl : List (Str × Addr)} {cn N : List Str} {fr : List Nat} {wi : TI} {te : TE}
    (hN : X.N.Nodup) (hiN : X.N[i]? = some y) (hy : Loc X.env.scope y)
    (hc : X.calm = true) (hi : PI X (.Name x px) iter wi) (he : ∀ (C : Addr) (s₂ : Shared) (H₂ : Hp) (fp : List Addr), PE (compCx X scope cl C x N s₂ H₂ fp) elt te)
    (hclos : closureFor scope X.env = pure cl) (hcl : CellsIn X.env cl) (hcn : cl.map (·.1) = cn) (hsc : X.env.scope = sc0) (hk : scope.kind = .function) (hok : CompOk scope sc0 x N cn)
    (hfr : fr.map (fun j => X.N[j]?) = N.map some) (hsw : swapsWith (.ListComp elt [⟨.Name x px, iter, [], 0⟩] scope pos) (some (.Name y py)) spos.line X.env = pure true)
    (hf : X.fn y = true ∨ X.env.scope.names.lookup y = some .local) (hs : ∀ v, foldedSetIterable iter X.env v = pure v := by intro _; rfl) :
    PS X (.Assign [.Name y py] (.ListComp elt [⟨.Name x px, iter, [], 0⟩] scope pos) spos) (tSetComp i wi te fr) := by
  intro pins s σ H D I h
  rw [exec_Assign_Name_used _ _ _ _ hsw]
  refine wpAny_bind (wpAny_standAt (wpAny_bind ?_))
  show wpAny _ X.A (do let _ ← comprehension (.ListComp elt [⟨.Name x px, iter, [], 0⟩] scope pos) scope X.env _ (newList []) false (eval iter X.env) (some (assign (.Name y py) X.env))) _ _ s
  refine wpAny_bind (wpAny_mono (wpAny_comprehension_free (use := some (assign (.Name y py) X.env)) (Q := fun _ s' => SP X pins D .next s') rfl hs hclos hk hok.names
    (thn (hi pins s σ H _ I h) fun v s1 h1 => thn h1 fun itv s2 h2 => ?_)) (fun _ s' hq => wpAny_pure (wpAny_pure hq)) fun _ _ e => e)
  obtain ⟨it, fp, tn, J, H2, e, I2, T, st2, f2, hq⟩ := h2
  subst e
  obtain ⟨W, ⟨m0, w0⟩, turn⟩ := hq s2.heap.objs.size (I2.hok.fresh (Nat.le_refl _))
  refine comp_core (RR := fun acc C => compPost (model X.prog X.w) X.A X.xe (some (assign (.Name y py) X.env)) (fun _ s' => SP X pins D .next s') acc C) (R := fun H6 => D.nx (σ.set i (some (.ref s2.heap.objs.size))) H6) hc he hcl hcn hsc hk hok hfr I2 T st2 f2 w0 turn
    fun C H6 s6 m6 hn I6 F6 q => ?_
  show wpAny _ X.A (assign (.Name y py) X.env (.ref s2.heap.objs.size)) _ _ _
  refine wpAny_assign_Name (store_ok2 (v := .ref s2.heap.objs.size) I6 hN hiN hy rfl (fun s7 I7 ⟨a, sb, ha⟩ => ?_) hf)
  have neC : C ≠ a := by
    rcases ha with ha | ha
    · rw [ha]; exact F6.2.1
    · exact Ne.symm (F6.2.2.2.2.1 y a ha)
  exact ⟨m6, hn.sameBut sb neC, fun h' sb' => ⟨_, H6, I7.let_go F6 sb', q⟩⟩

/-- [.. for x in range(n)] -/
theorem comp_range {lo : Int} {n : Nat} {T : V → Hp → (V → Hp → Prop) → Prop} {D : Addr} {H1 : Hp} {R : Hp → Prop} (hn : n ≤ sizeLine) (Pv : Nat → List V → Hp → Prop) (h0 : Pv 0 [] (upd H1 D (.lst [])))
    (hD : ∀ i ys H, Pv i ys H → H D = some (.lst ys) ∧ ys.length = i)
    (hs : ∀ i ys H, i < n → Pv i ys H → T (.int (lo + i)) H fun y H3 => H3 D = some (.lst ys) ∧ Pv (i + 1) (ys ++ [y]) (upd H3 D (.lst (ys ++ [y]))))
    (hd : ∀ ys H, Pv n ys H → R H) :
    ∃ W : Nat → Nat → List V → Hp → Prop, (∃ m, W 0 m [] (upd H1 D (.lst []))) ∧
      ∀ i m ys H2, W i m ys H2 → H2 D = some (.lst ys) ∧ (((Itr lo n).stop i H2 ∧ R H2) ∨ ((Itr lo n).go i H2 ∧ ys.length < sizeLine ∧ ∃ N : V → Hp → Prop, (∀ y H3, N y H3 → H3 D = some (.lst ys) ∧ ∃ m', m' < m ∧ W (i + 1) m' (ys ++ [y]) (upd H3 D (.lst (ys ++ [y])))) ∧
        ∀ x H', (Itr lo n).yld i H2 x H' → T x H' N)) := by
  refine ⟨fun i m ys H => m = n - i ∧ i ≤ n ∧ Pv i ys H, ⟨n, by simp, Nat.zero_le _, h0⟩, ?_⟩
  rintro i m ys H2 ⟨rfl, hi, p⟩
  obtain ⟨d1, d2⟩ := hD i ys H2 p
  refine ⟨d1, ?_⟩
  by_cases hlt : i < n
  · refine .inr ⟨hlt, by omega, fun y H3 => H3 D = some (.lst ys) ∧ Pv (i + 1) (ys ++ [y]) (upd H3 D (.lst (ys ++ [y]))), fun y H3 ⟨z1, z2⟩ => ⟨z1, n - (i + 1), by omega, rfl, hlt, z2⟩, fun x H' y => ?_⟩
    obtain ⟨e, y⟩ := y
    subst e y
    exact hs i ys _ hlt p
  · have e : i = n := by omega
    subst e
    exact .inl ⟨Nat.le_refl _, hd ys H2 p⟩
end L2
/-! my own rules over the layer: tuples known to the object: slices, the whole among them, and count -/
namespace HT
open PySem PySem.Spec PyProof.Rows
section
variable {prog : Program} {w : World} {A : Around} {E : Value → Shared → Prop} {s : Shared}
theorem getItem_tuple_all {t sl : Addr} {items : Array Value} {vl vu : Value} {lo hi : Option Int} {Q : Value → Shared → Prop} (ht : IsTup s.heap t items) (hs : s.heap.IsSliceOf sl vl vu .none) (pl : IsPart vl lo) (pu : IsPart vu hi)
    (h0 : sIx items.size 0 lo = 0) (h1 : sIx items.size items.size hi = items.size) (h : Q (.ref t) s) : wpAny (model prog w) A (getItem (.ref t) (.ref sl)) Q E s := by
  obtain ⟨os, hos, hcs, hds⟩ := id hs
  have hTs : s.TypeIs (.ref sl) "slice" := ⟨os, hos, hcs⟩
  have hT : s.TypeIs (.ref t) "tuple" := ht.typeIs
  unfold getItem
  try with_reducible refine wpAny_holding ?_
  first | refine wpAny_bind (wpAny_pure ?_) | skip
  refine wpAny_bind (wpAny_sequenceKey ht.typeIs (by decide) ?_)
  refine wpAny_bind (wpAny_callSpecial?_slot (name := Str.ofString "__getitem__") ht.typeIs PyProof.Rows.slot_tuple_getitem
    (wpAny_call_entry PyProof.Rows.slot_tuple_getitem ht.typeIs entry_tuple_getitem ?_ (args_tuple_getitem _ _)))
  show wpAny _ _ (Builtin.Tuple.tupleItemsOf (.ref t) >>= _) _ _ s
  refine wpAny_bind (tupleItemsOf_ ht ?_)
  refine wpAny_bind (wpAny_typeOf hTs ?_)
  rw [if_pos (by decide)]
  refine wpAny_bind (sliceApplied_gen hs pl pu ?_)
  have hyes : ((((sIx items.size 0 lo : Nat) : Int) == 0 && (1 : Int) == 1 && (sIx items.size items.size hi - sIx items.size 0 lo) == items.size) = true) := by
    rw [h0, h1]; simp
  show wpAny _ _ (if (((sIx items.size 0 lo : Nat) : Int) == 0 && (1 : Int) == 1 && (sIx items.size items.size hi - sIx items.size 0 lo) == items.size) = true then _ else _) _ _ s
  rw [if_pos hyes]
  first
    | exact wpAny_bind (wpAny_typeOf hT (wpAny_pure ⟨_, rfl, wpAny_pure h⟩))
    | exact wpAny_pure ⟨_, rfl, wpAny_pure h⟩
    | exact wpAny_bind (wpAny_pure ⟨_, rfl, wpAny_pure h⟩)
    | (wp_walk; exact ⟨_, rfl, wpAny_pure h⟩)
    | (wp_walk; exact ⟨_, rfl, h⟩)
end
end HT
namespace L2
open PySem PySem.Spec PyProof.Rows
/-- a tuple known to the object -/
def TupF (H : Hp) (a : Addr) (xs : List V) : Prop := ∃ o : Obj, H a = some (.frz o (.tup xs)) ∧ o.cls = .type "tuple" ∧ o.dict = none
theorem TupF.sq {K : PySem.W.Frag} {H : Hp} {a : Addr} {xs : List V} (h : TupF H a xs) : SqT K H a xs := by
  obtain ⟨o, h, _⟩ := h
  exact .inl (.inr ⟨o, h⟩)
theorem TupF.same {H H' : Hp} {a : Addr} {xs : List V} (h : TupF H a xs) (s : Same H H') : TupF H' a xs := by
  obtain ⟨o, h, c⟩ := h
  exact ⟨o, s _ _ h, c⟩
section
variable {X : Cx}
/-- tuple(xs) of a list -/
theorem call_tupleF : CallR X (.type "tuple") (fun xs H Q => ∃ p ys, xs = [.ref p] ∧ SqL X.K H p ys ∧ ∀ l H', Same H H' → TupF H' l ys → Q (.ref l) H') := by
  intro pins s σ H xs us Q I r h
  obtain ⟨p, ys, rfl, hq, q⟩ := h
  obtain ⟨u, rfl, rx⟩ := vals1 r
  cases rx
  obtain ⟨its, r', pl, hz⟩ := I.list hq
  have hlen := r'.length
  refine call_tuple_list pl.isList (fun h' kp => ?_) (by simp only [List.size_toArray] <;> omega)
  have I1 : Inv X pins σ H { s with heap := h' } := I.kept (t' := s.toks) kp
  have I2 : Inv X pins σ (upd H h'.objs.size (.frz { cls := .type "tuple", data := .seq its.toArray } (.tup ys))) { s with heap := h'.push { cls := .type "tuple", data := .seq its.toArray } } :=
    I1.laid (t' := s.toks) (fun b o e => Heap.get?_push_of_some _ e) (Nat.le_refl _) (show ObjOk X.prog X.w _ _ _ (.frz _ (.tup ys)) from ⟨Heap.get?_push_size _ rfl, hz, its, r', IsTup.new _ _⟩)
  exact ⟨.ref h'.objs.size, _, I2, rfl, q _ _ (same_new (I1.hok.fresh (Nat.le_refl _)) _) ⟨_, upd_same, rfl, rfl⟩⟩
theorem cutV_all {xs : List V} {lo hi : Option Int} (h0 : HT.sIx xs.length 0 lo = 0) (h1 : HT.sIx xs.length xs.length hi = xs.length) : cutV xs lo hi = xs := by
  unfold cutV
  rw [h0, h1, List.drop_zero, Nat.sub_zero, List.take_length]
/-- t[lo:hi], the whole too -/
theorem sl_tupF : SlR X (fun x lo hi H Q => ∃ a xs, x = .ref a ∧ TupF H a xs ∧ ∀ p H', Same H H' → TupF H' p (cutV xs lo hi) → Q (.ref p) H') := by
  intro pins s σ H x v vl vu lo hi sl Q I rx hs pl pu h
  obtain ⟨a, xs, rfl, hx, q⟩ := h
  cases rx
  obtain ⟨its, r, ht, hz⟩ := I.tuple (hx.sq (K := X.K))
  have hlen : its.toArray.size = xs.length := by rw [List.size_toArray]; exact r.length.symm
  refine ⟨"tuple", _, PyProof.Rows.slot_tuple_getitem.lookup, ht.typeIs, ?_⟩
  by_cases hw : HT.sIx xs.length 0 lo = 0 ∧ HT.sIx xs.length xs.length hi = xs.length
  · refine HT.getItem_tuple_all ht hs pl pu (by rw [hlen]; exact hw.1) (by rw [hlen]; exact hw.2) ⟨.ref a, H, I, rfl, q a H (Same.refl H) ?_⟩
    rw [cutV_all hw.1 hw.2]
    exact hx
  · refine HT.getItem_tuple_cut ht hs pl pu (by rw [hlen]; exact hw) ?_ (by rw [hlen]; exact hz)
    rw [hlen]
    refine ⟨.ref s.heap.objs.size, _, I.laid (t' := s.toks) (o := .frz { cls := .type "tuple", data := .seq ((its.toArray.toList.drop (HT.sIx xs.length 0 lo)).take (HT.sIx xs.length xs.length hi - HT.sIx xs.length 0 lo)).toArray } (.tup (cutV xs lo hi))) (fun b ob q => Heap.get?_push_of_some _ q) (Nat.le_refl _) ?_, rfl,
      q _ _ (same_new (I.hok.fresh (Nat.le_refl _)) _) ⟨_, upd_same, rfl, rfl⟩⟩
    exact ⟨Heap.get?_push_size _ rfl, Nat.le_trans (cutV_length xs lo hi) hz, _, (r.drop (HT.sIx xs.length 0 lo)).take (HT.sIx xs.length xs.length hi - HT.sIx xs.length 0 lo), IsTup.new _ _⟩
theorem countP_eqU {x : V} : ∀ {xs : List V} {us : List Value}, Vals xs us → xs.all flatV = true → us.countP (eqU x) = xs.countP fun y => eqV y x
  | _, _, .nil, _ => rfl
  | y :: xs, u :: us, .cons r t, f => by
    rw [List.all_cons, Bool.and_eq_true] at f
    rw [List.countP_cons, List.countP_cons, eqU_of r f.1, countP_eqU t f.2]
/-- t.count(x), flat things -/
theorem mt_countT : MtR X "tuple.count" (fun x xs H Q => ∃ a ys v, x = .ref a ∧ xs = [v] ∧ SqT X.K H a ys ∧ flatV v = true ∧ ys.all flatV = true ∧ Q (.int (ys.countP fun y => eqV y v : Nat)) H) := by
  intro pins s σ H x xs v us Q I rx rv h
  obtain ⟨a, ys, y, rfl, rfl, ha, f1, f2, q⟩ := h
  cases rx
  obtain ⟨u, rfl, ru⟩ := rv.one
  obtain ⟨its, r, p, hz⟩ := I.tuple ha
  obtain ⟨⟨cls, dd, data, sl⟩, ho, hc, n, hd⟩ := id p
  simp only at hc hd
  subst hc hd
  refine call_meets F.slot_tuple_count ⟨_, ho, rfl⟩ F.entry_tuple_count (F.args_tuple_count_2 _ _) (SeqAt.tuple_countAt a its.toArray n dd sl u (eqU y)) ⟨ho, fun z hz => mem_eqAt ru f1 r f2 z (by simpa using hz), ?_⟩
  refine ⟨.int (ys.countP fun y' => eqV y' y : Nat), H, I.tok _, ?_, q⟩
  rw [← countP_eqU r f2]
  exact ⟨_, rfl⟩
def tBMF (T : String) (r : V → List V → Hp → VK → Prop) (to : TE) (t : TA) : TE := fun σ H Q => to σ H fun x H1 => (∃ a o u, x = .ref a ∧ H1 a = some (.frz o u) ∧ o.cls = .type T ∧ o.dict = none) ∧ t σ H1 fun xs H2 => r x xs H2 Q
variable {o e : Expr} {es : List Expr} {to : TE} {t : TA} {name : Str} {apos cpos : Pos} {T id : String} {r : V → List V → Hp → VK → Prop}
/-- a method of a thing known to the object -/
theorem pe_bmF (pa : PlainAttrs T) (slot : Slot T name id) (hty : typeOf (.builtin id) = pure (.type "method_descriptor")) (hm : MtR X id r) (ho : PE X o to) (ha : PA X (e :: es) t)
    (hbase : attributeBase o name X.env (eval o X.env) = eval o X.env := by rfl)
    (hfew : ((backTo cpos (starEach (e :: es) X.env)).all (fun x => !x.1) && (backToKw cpos (keywordEach [] X.env)).all (fun x => x.1.isSome)
      && decide ((e :: es).length + ([] : List Keyword).length + (if ([] : List Keyword).isEmpty then 0 else 1) < 30)) = true := by rfl)
    (hline : (apos.endLine == cpos.line) = true := by rfl) (hs : starEach (e :: es) X.env = (false, eval e X.env) :: starEach es X.env := by rfl) (hplain : (backTo cpos (starEach es X.env)).any (·.1) = false := by rfl) :
    PE X (.Call (.Attribute o name apos) (e :: es) [] cpos) (tBMF T r to t) := by
  intro pins s σ H Q I h
  refine wpAny_Call_method_late hbase hfew hline rfl (thn (ho pins s σ H _ I h) fun v s1 ⟨x, H1, I1, r1, ty, q1⟩ => ?_)
  obtain ⟨a, ob, u, rfl, hH, hc, hd⟩ := ty
  cases r1
  obtain ⟨hg, _⟩ := I1.hok a _ hH
  refine ⟨T, id, pa, slot, hty, ⟨ob, hg, hc⟩, fun b eb => ?_, ?_⟩
  · cases eb
    exact ⟨ob, hg, hd⟩
  have hA := ha cpos pins s1 σ H1 _ I1 q1
  rw [hs] at hA ⊢
  refine Calls.callWith_builtin (by show (false || (backTo cpos (starEach es X.env)).any (·.1)) = false; rw [hplain] <;> rfl) (Calls.evalArgs_plain ?_)
  exact thn hA fun us s2 ⟨vs, H2, I2, r2, q2⟩ => hm pins s2 σ H2 (.ref a) vs (.ref a) us Q I2 rfl r2 q2
end
end L2
/-! my own rules over the layer: all(..) of a list of truths, xs != ys of lists of ints -/
namespace L2
open PySem PySem.Spec PyProof.Rows
section
variable {X : Cx}
/-- xs != ys of two lists of ints -/
theorem op_neL (hu : X.A.units + 64 < cLine) : OpR X (compareOp .NotEq) (fun x y H Q => ∃ (a b : Addr) (ns ms : List Int), x = .ref a ∧ y = .ref b ∧ SqL X.K H a (ns.map V.int) ∧ SqL X.K H b (ms.map V.int) ∧ Q (.bl (!decide (ns = ms))) H) := by
  intro pins s σ H x y v u Q I rx ry h
  obtain ⟨a, b, ns, ms, rfl, rfl, ha, hb, q⟩ := h
  cases rx
  cases ry
  obtain ⟨its, r1, p1, _⟩ := I.list ha
  obtain ⟨its2, r2, p2, _⟩ := I.list hb
  exact PySem.W.ke_ne_ints p1.isList p2.isList (intsAre_of r1) (intsAre_of r2) hu ⟨.bl _, H, I, rfl, q⟩
end
end L2
/-! exceptions: how one is noted, leaves a frame, lands -/
namespace L2
open PySem PySem.Spec PyProof.Rows

theorem dict_mapF (o : Obj) (f : Array Value → Array Value) : (o.mapFields f).dict = o.dict := by
  rcases o with ⟨c, d, dt, sl⟩
  cases dt <;> rfl
/-- an exception under way at x: its class, its own dict, its newest note at or above n, whose mark is fl -/
def Exc (n : Nat) (h : Heap) (x : Addr) (cls : Value) (dd : Option Addr) (fl : Value) : Prop :=
  ∃ (oe : Obj) (vs : Array Value) (T : Addr) (oT : Obj) (ts : Array Value), (h.get? x = some oe ∧ oe.cls = cls ∧ oe.dict = dd ∧ oe.data = .fields vs ∧ vs[1]? = some (.ref T)) ∧
    (n ≤ T ∧ T ≠ x) ∧ h.get? T = some oT ∧ oT.data = .fields ts ∧ ts[3]? = some fl
/-- what a note leaves as it was -/
structure Fly (n : Nat) (fs : List Addr) (x : Addr) (h h' : Heap) : Prop where
  keep : ∀ b o, h.get? b = some o → b < n → b ≠ x → b ∉ fs → h'.get? b = some o
  slot : ∀ b o, h.get? b = some o → b ∈ fs → ∃ sl, h'.get? b = some { o with slots := sl }
  there : ∀ b o, h.get? b = some o → ∃ o', h'.get? b = some o'
section
variable {n : Nat} {fs : List Addr} {x y : Addr} {h h1 h' : Heap}
theorem Fly.trans (a : Fly n fs x h h1) (b : Fly n fs x h1 h') : Fly n fs x h h' := by
  refine ⟨fun c o q l m k => b.keep c o (a.keep c o q l m k) l m k, fun c o q k => ?_, fun c o q => ?_⟩
  · obtain ⟨sl, e⟩ := a.slot c o q k
    obtain ⟨sl', e'⟩ := b.slot c _ e k
    exact ⟨sl', e'⟩
  · obtain ⟨o', e⟩ := a.there c o q
    exact b.there c o' e
theorem Fly.push (o : Obj) : Fly n fs x h (h.push o) :=
  ⟨fun _ _ q _ _ _ => Heap.get?_push_of_some _ q, fun _ ob q _ => ⟨ob.slots, Heap.get?_push_of_some _ q⟩, fun _ ob q => ⟨ob, Heap.get?_push_of_some _ q⟩⟩
theorem Fly.upd {o : Obj} {vs : Array Value} (f : Array Value → Array Value) (ho : h.get? y = some o) (hd : o.data = .fields vs) (hy : y = x ∨ n ≤ y) (hf : y ∉ fs) : Fly n fs x h (h.update y (Obj.mapFields f)) := by
  have oth : ∀ b ob, b ≠ y → h.get? b = some ob → (h.update y (Obj.mapFields f)).get? b = some ob := fun b ob m q => (Heap.get?_update_other _ _ (Ne.symm m)).trans q
  refine ⟨fun b ob q l m _ => oth b ob (fun z => ?_) q, fun b ob q k => ⟨ob.slots, oth b ob (fun z => hf (z ▸ k)) q⟩, fun b ob q => ?_⟩
  · rcases hy with e | e
    · exact m (z.trans e)
    · exact absurd (Nat.lt_of_lt_of_le l e) (by rw [z]; exact Nat.lt_irrefl _)
  · by_cases z : b = y
    · subst z
      exact ⟨_, Heap.get?_update_self _ ho (Obj.isFreed_of_fields (Obj.data_mapFields hd f))⟩
    · exact ⟨ob, oth b ob z q⟩
theorem Fly.slots (a : Heap.SlotsOnly fs h h') : Fly n fs x h h' := by
  refine ⟨fun b o q _ _ k => (a.2.1 b k).trans q, fun b o q _ => a.2.2 b o q, fun b o q => ?_⟩
  obtain ⟨sl, e⟩ := a.2.2 b o q
  exact ⟨_, e⟩
end

section
variable {M : Model} {A : Around} {E : Value → Shared → Prop} {s : Shared} {base : Heap} {env : Env} {outer : List Env} {L x : Addr} {n : Nat} {Q : Unit → Shared → Prop}
theorem frame_no {oe : Obj} {vs : Array Value} {h : Heap} {l : List Env} (hl : h.FunFrames base l) (he : h.get? x = some oe) (hd : oe.data = .fields vs) : x ∉ frs l := fun z => by
  obtain ⟨_, o, ho, nf⟩ := hl.mem z
  rw [he] at ho
  cases ho
  exact nf vs hd
theorem note_core {oe : Obj} {vs : Array Value} {head : Value} {b : Bool} (hfr : A.frames = some (env :: outer)) (hl : s.heap.FunFrames base (env :: outer)) (hf : env.frame = some L)
    (he : s.heap.get? x = some oe) (hd : oe.data = .fields vs) (hz : 1 < vs.size) (hn : n ≤ s.heap.objs.size)
    (h : ∀ h', Fly n (frs (env :: outer)) x s.heap h' → Exc n h' x oe.cls oe.dict (rawInt L) → Q () { s with heap := h' }) :
    wpAny M A (frameOf env >>= fun a => entryPlaceOf L b >>= fun pl => EntryCells.newEntry head a .none (rawInt L) .none pl >>= fun t => setField (.ref x) 1 t) Q E s := by
  have nx := frame_no hl he hd
  refine wpAny_bind (wpAny_frameOf_fun hfr hl hf fun h₁ a1 => wpAny_bind (wpAny_entryPlaceOf fun pl hp => ?_))
  unfold EntryCells.newEntry newFields
  refine wpAny_bind (wpAny_newObj_type ?_ (hp.sizeOk5 _ _ _ _ _))
  have e1 : h₁.get? x = some oe := (a1.2.1 x nx).trans he
  have hs : h₁.objs.size = s.heap.objs.size := a1.1
  generalize hto : ({ cls := .type "traceback", dict := none, data := .fields ([head, .ref L, .none, rawInt L, .none] ++ (if pl.isEmpty then List.replicate 6 Value.none else pl)).toArray } : Obj) = tb
  have e2 := Heap.get?_push_of_some (h := h₁) tb e1
  refine wpAny_setField e2 hd hz ?_
  have ne : h₁.objs.size ≠ x := Nat.ne_of_gt (Heap.lt_size e1)
  have hd3 := Obj.data_mapFields hd (·.setIfInBounds 1 (Value.ref h₁.objs.size))
  have e3 := Heap.get?_update_self (Obj.mapFields (·.setIfInBounds 1 (Value.ref h₁.objs.size))) e2 (Obj.isFreed_of_fields hd3)
  refine h _ ((Fly.slots a1).trans ((Fly.push tb).trans (.upd _ e2 hd (.inl rfl) nx))) ⟨_, _, h₁.objs.size, tb, _, ⟨e3, Obj.cls_mapFields _ _, dict_mapF _ _, hd3, by simp [hz]⟩, ⟨by rw [hs]; exact hn, ne⟩, ?_, by rw [← hto], ?_⟩
  · refine (Heap.get?_update_other _ _ (Ne.symm ne)).trans (Heap.get?_push_size h₁ ?_)
    rw [← hto]
    rfl
  · first | (simp; done) | (rcases hp with rfl | ⟨_, _, _, _, _, _, _, rfl⟩ <;> simp)
/-- the first note -/
theorem note_first {oe : Obj} {vs : Array Value} (hfr : A.frames = some (env :: outer)) (hl : s.heap.FunFrames base (env :: outer)) (hf : env.frame = some L)
    (he : s.heap.get? x = some oe) (hd : oe.data = .fields vs) (h1 : vs[1]? = some .none) (hn : n ≤ s.heap.objs.size)
    (h : ∀ h', Fly n (frs (env :: outer)) x s.heap h' → Exc n h' x oe.cls oe.dict (rawInt L) → Q () { s with heap := h' }) : wpAny M A (noteFrame (.ref x) env) Q E s := by
  unfold noteFrame
  simp only [hf]
  refine wpAny_bind (wpAny_field he hd h1 ?_)
  rw [if_neg (by decide)]
  exact note_core hfr hl hf he hd (Array.getElem?_eq_some_iff.mp h1).1 hn h
/-- a further one -/
theorem note_next {cls : Value} {dd : Option Addr} (hfr : A.frames = some (env :: outer)) (hl : s.heap.FunFrames base (env :: outer)) (hf : env.frame = some L) (ex : Exc n s.heap x cls dd .none)
    (h : ∀ h', Fly n (frs (env :: outer)) x s.heap h' → Exc n h' x cls dd (rawInt L) → Q () { s with heap := h' }) : wpAny M A (noteFrame (.ref x) env) Q E s := by
  obtain ⟨oe, vs, T, oT, ts, ⟨he, rfl, rfl, hd, h1⟩, ⟨nT, Tx⟩, hT, hdT, h3⟩ := ex
  unfold noteFrame
  simp only [hf]
  refine wpAny_bind (wpAny_field he hd h1 ?_)
  rw [if_pos (show (Value.ref T != Value.none) = true from by simp)]
  refine wpAny_bind (wpAny_field hT hdT h3 ?_)
  rw [if_neg (show ¬ ((Value.none == rawInt L) = true) from by simp [rawInt])]
  refine wpAny_bind (wpAny_setField hT hdT (Array.getElem?_eq_some_iff.mp h3).1 ?_)
  have tf := frame_no hl hT hdT
  have fl : Fly n (frs (env :: outer)) x s.heap (s.heap.update T (Obj.mapFields (·.setIfInBounds 3 Value.none))) := .upd _ hT hdT (.inr nT) tf
  have oth : ∀ c, c ≠ T → (s.heap.update T (Obj.mapFields (·.setIfInBounds 3 Value.none))).get? c = s.heap.get? c := fun c m => Heap.get?_update_other _ _ (Ne.symm m)
  refine note_core hfr (hl.of_keeps fun c o q nf => ⟨o, (oth c fun z => ?_).trans q, rfl⟩) hf ((oth x (Ne.symm Tx)).trans he) hd (Array.getElem?_eq_some_iff.mp h1).1 ?_ fun h' f e => h h' (fl.trans f) e
  · rw [z, hT] at q
    cases q
    exact nf ts hdT
  · have l1 := Heap.lt_size hT
    rw [Heap.size_update]
    exact Nat.le_trans nT (Nat.le_of_lt l1)
/-- its mark is set -/
theorem flight {cls fl : Value} {dd : Option Addr} {fs : List Addr} (to : Option Addr) (hl : ∀ T oT ts, s.heap.get? T = some oT → oT.data = .fields ts → T ∉ fs) (ex : Exc n s.heap x cls dd fl)
    (h : ∀ h', Fly n fs x s.heap h' → Exc n h' x cls dd (to.elim .none fun f => rawInt f) → Q () { s with heap := h' }) : wpAny M A (setFlight (.ref x) to) Q E s := by
  obtain ⟨oe, vs, T, oT, ts, ⟨he, rfl, rfl, hd, h1⟩, ⟨nT, Tx⟩, hT, hdT, h3⟩ := ex
  have h3' := (Array.getElem?_eq_some_iff.mp h3).1
  unfold setFlight
  refine wpAny_bind (wpAny_field he hd h1 ?_)
  rw [if_pos (show (Value.ref T != Value.none) = true from by simp)]
  refine wpAny_setField hT hdT h3' (h _ (.upd _ hT hdT (.inr nT) (hl T oT ts hT hdT)) ⟨oe, vs, T, _, _, ⟨(Heap.get?_update_other _ _ Tx).trans he, rfl, rfl, hd, h1⟩, ⟨nT, Tx⟩, Heap.get?_update_self _ hT (Obj.isFreed_of_fields (Obj.data_mapFields hdT _)), Obj.data_mapFields hdT _, by simp [h3']⟩)
end
end L2
/-! exceptions: what a caller knows of one that comes out of a call; raise -/
namespace L2
open PySem PySem.Spec PyProof.Rows
section
variable {P : Program} {w : World} {fs fs' : List Addr} {H₀ H : Hp} {h₀ h h' : Heap} {x : Addr} {n : Nat}
theorem Un.fly (u : Un fs [] H₀ H h₀ h) (f : Fly n fs' x h h') (hs : ∀ b ∈ fs', b ∈ fs ∨ h₀.get? b = none) (hx : h₀.get? x = none) (hn : h₀.objs.size ≤ n) : Un fs [] H₀ H h₀ h' := by
  have lt : ∀ b o, h₀.get? b = some o → b < n := fun b o q => Nat.lt_of_lt_of_le (Heap.lt_size q) hn
  have nx : ∀ b o, h₀.get? b = some o → b ≠ x := fun b o q z => by rw [z, hx] at q; cases q
  refine ⟨fun b o q m k z => f.keep b o (u.keep b o q m k z) (lt b o q) (nx b o q) (fun y => (hs b y).elim k fun y' => by rw [y'] at q; cases q), fun b o q m k z => ?_, u.free, fun b o q k => ?_, u.tups, u.frzs, u.tbls⟩
  · obtain ⟨sl, e⟩ := u.slot b o q m k z
    by_cases y : b ∈ fs'
    · obtain ⟨sl', e'⟩ := f.slot b _ e y
      exact ⟨sl', e'⟩
    · exact ⟨sl, f.keep b _ e (lt b o q) (nx b o q) y⟩
  · obtain ⟨o', e⟩ := u.there b o q k
    exact f.there b o' e
theorem HOk.fly (k : HOk P w H h) (f : Fly n fs' x h h') (hn : ∀ b u, H b = some u → b < n) (hx : H x = none) (hf : ∀ b ∈ fs', H b = none) : HOk P w H h' := fun a o e => by
  have kp : ∀ b u, H b = some u → ∀ ob, h.get? b = some ob → h'.get? b = some ob := fun b u q ob hb => f.keep b ob hb (hn b u q) (ne_of_none q hx) fun z => by rw [hf b z] at q; cases q
  refine (k a o e).stay (fun b u z q => ?_) (fun _ q => q) fun _ _ q => q
  rcases z with rfl | z
  · exact kp _ _ e u q
  · exact kp _ _ z u q
end

/-- an exception out of a call -/
structure Out (P : Program) (w : World) (outer : List Env) (H : Hp) (s : Shared) (x : Addr) (cls : Value) (dd : Option Addr) (n : Nat) (H' : Hp) (fl : Value) (s' : Shared) : Prop where
  os : s'.os = s.os
  bare : AllBare s'.gens
  un : Un (frs outer) [] H H' s.heap s'.heap
  hok : HOk P w H' s'.heap
  exc : Exc n s'.heap x cls dd fl
  free : H' x = none
  new : s.heap.get? x = none
  old : s.heap.objs.size ≤ n
  low : ∀ b u, H' b = some u → b < n
def CX1 (P : Program) (w : World) : CXT := fun outer H s E e s' => ∃ (x : Addr) (cls : Value) (dd : Option Addr) (n : Nat) (H' : Hp), e = .ref x ∧ Out P w outer H s x cls dd n H' .none s' ∧ E cls dd H'

section
variable {X : Cx} {pins : List (Addr × Obj)} {σ : St} {H H' : Hp} {s s' : Shared} {x : Addr} {cls fl : Value} {dd : Option Addr} {n : Nat}
/-- from inside the body: an exception under way, the invariant as it is -/
structure Away (X : Cx) (pins : List (Addr × Obj)) (σ : St) (H : Hp) (s : Shared) (x : Addr) (cls : Value) (dd : Option Addr) (n : Nat) (fl : Value) : Prop where
  inv : Inv X pins σ H s
  exc : Exc n s.heap x cls dd fl
  free : H x = none
  new : X.s₀.heap.get? x = none
  old : X.s₀.heap.objs.size ≤ n
  low : ∀ b u, H b = some u → b < n
  loc : X.env.locals < n
end
/-- a body leaves by an exception: the frame is noted, the mark taken away -/
theorem leaves {X : Cx} {pins : List (Addr × Obj)} {σ : St} {H : Hp} {s : Shared} {x : Addr} {E : XK} {M : Model} (I : Inv X pins σ H s) (hex : X.ex = []) (hst : X.stack = X.env :: X.outer) (hfm : X.env.frame = some X.env.locals)
    (note : ∀ Q : Unit → Shared → Prop, (∀ cls dd n h', Fly n (frs X.stack) x s.heap h' → Exc n h' x cls dd (rawInt X.env.locals) → X.s₀.heap.objs.size ≤ n → (∀ b u, H b = some u → b < n) → E cls dd H → Q () { s with heap := h' }) →
      wpAny M X.A (noteFrame (.ref x) X.env) Q (fun _ _ => False) s)
    (hx : H x = none) (nx : X.s₀.heap.get? x = none) :
    wpAny M X.A (leaving X.env (.ref x)) (fun _ s'' => CX1 X.prog X.w X.outer X.H₀ X.s₀ E (.ref x) s'') (fun e s'' => CX1 X.prog X.w X.outer X.H₀ X.s₀ E e s'') s := by
  unfold leaving
  refine wpAny_bind (wpAny_mono (note _ fun cls dd n h' f e ho hl q => ?_) (fun _ _ z => z) fun _ _ z => z.elim)
  have fsm : ∀ b ∈ frs X.stack, H b = none := I.stkFree
  have hun : ∀ h'', Fly n (frs X.stack) x s.heap h'' → Un (frs X.outer) [] X.H₀ H X.s₀.heap h'' := fun h'' f2 => by
    have u := I.base
    rw [hex] at u
    refine u.fly f2 (fun b hb => ?_) nx ho
    rcases List.mem_cons.mp (I.stkSub b hb) with z | z
    · right
      rw [z]
      exact Heap.get?_none_of_le I.ok.above
    · exact .inl z
  have nr : ∀ T oT ts, h'.get? T = some oT → oT.data = .fields ts → T ∉ frs X.stack := fun T oT ts h1 h2 hb => by
    obtain ⟨_, o, h3, h4⟩ := I.stack.mem hb
    obtain ⟨sl, h5⟩ := f.slot T o h3 hb
    rw [h5] at h1
    cases h1
    exact h4 ts h2
  refine flight none nr e fun h'' f2 e2 => ?_
  have f3 := f.trans f2
  exact ⟨x, cls, dd, n, H, rfl, ⟨I.os, I.bare, hun h'' f3, I.hok.fly f3 hl hx fsm, e2, hx, nx, ho, hl⟩, q⟩
end L2
/-! exceptions: raise, and how one passes through a body -/
namespace L2
open PySem PySem.Spec PyProof.Rows
theorem ObjOk.some {P : Program} {w : World} {H : Hp} {h : Heap} {a : Addr} {o : HO} (x : ObjOk P w H h a o) : ∃ ob, h.get? a = some ob := by
  cases o with
  | lst xs => obtain ⟨_, _, _, _, e⟩ := x; exact ⟨_, e⟩
  | tup xs => obtain ⟨_, _, _, ob, e, _⟩ := x; exact ⟨ob, e⟩
  | dK kvs => obtain ⟨_, _, _, _, ob, _, _, e, _⟩ := x; exact ⟨ob, e⟩
  | dT kvs => obtain ⟨_, _, _, _, ob, _, _, e, _⟩ := x; exact ⟨ob, e⟩
  | set S n => obtain ⟨ob, _, _, _, e, _⟩ := x; exact ⟨ob, e⟩
  | ins C dx fs => obtain ⟨_, _, _, e, _⟩ := x; exact ⟨_, e⟩
  | own y => obtain ⟨ob, e⟩ := x; exact ⟨ob, e⟩
  | xd fs => obtain ⟨_, ⟨ob, _, _, e, _⟩, _⟩ := x; exact ⟨ob, e⟩
  | rng lo hi => obtain ⟨_, _, _, e⟩ := x; exact ⟨_, e⟩
  | frz ob u => obtain ⟨e, _⟩ := x; exact ⟨ob, e⟩
  | tbl ps => exact ⟨_, x⟩
  | met f y => exact ⟨_, x⟩
  | ext φ => obtain ⟨_, e, _⟩ := x; exact e
theorem Inv.newFree {X : Cx} {pins : List (Addr × Obj)} {σ : St} {H : Hp} {s : Shared} {a : Addr} (I : Inv X pins σ H s) (h : s.heap.get? a = none) : H a = none := by
  cases q : H a with
  | none => rfl
  | some o =>
    obtain ⟨ob, e⟩ := (I.hok a o q).some
    rw [h] at e
    cases e
theorem Inv.newOld {X : Cx} {pins : List (Addr × Obj)} {σ : St} {H : Hp} {s : Shared} {a : Addr} (I : Inv X pins σ H s) (hex : X.ex = []) (h : s.heap.get? a = none) : X.s₀.heap.get? a = none := by
  cases q : X.s₀.heap.get? a with
  | none => rfl
  | some o =>
    obtain ⟨ob, e⟩ := I.base.there a o q (by rw [hex]; simp)
    rw [h] at e
    cases e

/-- an own class of errors, without an __init__ of its own, as the top left it -/
theorem own_exc {K : PySem.W.Frag} {h : Heap} {mg : Str → Option Value} {x : Str} {C : Addr} {tl : List Value} {nw : String} (KX : K.In h) (m : mg x = some (.ref C)) (q : PySem.W.excIn K C tl nw = true) : OwnCls x C tl nw mg h := by
  refine ⟨m, ?_⟩
  unfold PySem.W.excIn at q
  split at q
  case h_2 => cases q
  rename_i dd cd sl lk
  split at q
  case h_2 => cases q
  rename_i c2 bm k0 k1 k2 k3 nm k5 hm hs
  simp only [Bool.and_eq_true, beq_iff_eq, Bool.not_eq_true'] at q
  obtain ⟨⟨⟨⟨⟨q1, q2⟩, q3⟩, q4⟩, q5⟩, q6⟩ := q
  subst q1 q2
  obtain ⟨a1, a2, a3, a4, a5, a6, a7, a8, a9, a10, a11⟩ := cd
  simp only at hm q3 q5 q6
  subst hm q3
  have z : sl = #[k0, k1, k2, k3, some (.builtin nm), k5] := Array.ext' hs
  subst z
  exact ⟨_, a4, _, _, _, _, _, _, _, _, _, _, _, _, _, _, _, KX _ _ lk, .of_isNs (PySem.W.isNs_of_in KX q5), PySem.W.nsMap_none_of_in KX q5 q6, PySem.W.tail_of_in KX q4⟩

/-- a body whose exceptions leave by CX1 -/
structure Lv (X : Cx) (E : XK) : Prop where
  xe : X.xe = fun e s' => wpAny (model X.prog X.w) X.A (leaving X.env e) (fun _ s'' => CX1 X.prog X.w X.outer X.H₀ X.s₀ E e s'') (fun e' s'' => CX1 X.prog X.w X.outer X.H₀ X.s₀ E e' s'') s'
  ex : X.ex = []
  stack : X.stack = X.env :: X.outer
  frame : X.env.frame = some X.env.locals
  calm : X.calm = true
theorem Lv.loops {X : Cx} {E : XK} (l : Lv X E) : PassesOwn (model X.prog X.w) X.A X.env X.xe := by
  rw [l.xe]
  exact .leaving
section
variable {X : Cx} {E : XK} {x : Str} {C : Addr} {e : Expr} {es : List Expr} {t : TA} {np cpos pos : Pos} {B nw it : String} {tl : List Value}
/-- what a body wants of its own exception -/
def tRaise (C : Addr) (E : XK) (t : TA) : TS := fun _ σ H => t σ H fun vs H1 => vs.length ≤ sizeLine ∧ E (.ref C) none H1
theorem ps_raise (l : Lv X E) (F : ExcBaseFacts B nw it tl) (O : OwnCls x C tl nw X.mg X.base) (hg : Gl X x) (ha : PA X (e :: es) t) (hdb : (x == ("__debug__" : Str)) = false := by decide)
    (he : starEach (e :: es) X.env = (false, eval e X.env) :: starEach es X.env := by rfl) (hpl : (backTo cpos (starEach es X.env)).any (·.1) = false := by rfl) :
    PS X (.Raise (some (.Call (.Name x np) (e :: es) [] cpos)) none pos) (tRaise C E t) := by
  intro pins s σ H D I h
  obtain ⟨bm, N, nm, q, bs, hdct, sn, sub, ab, col, dd, k0, k1, k2, k3, k5, mN, hC, hN, hni, T⟩ := O.obj
  have hp2 : (backTo cpos (starEach (e :: es) X.env)).any (·.1) = false := by
    rw [he]
    show (false || (backTo cpos (starEach es X.env)).any (·.1)) = false
    rw [hpl]
    rfl
  refine wpAny_Raise_call_subT F (C := C) (nm := nm) (q := q) (N := N) (bs := bs) (bm := bm) (hdct := hdct) (sn := sn) (sub := sub) (ab := ab) (col := col) (dd := dd) (k0 := k0) (k1 := k1) (k2 := k2) (k3 := k3) (k5 := k5) (mN := mN)
    (T.hasType F.hasBase) (I.ok.hd l.calm) hp2 hni (ld_glob I hg O.bound ⟨rfl, ?_⟩ hdb)
  have h0 := ha cpos pins s σ H _ I h
  rw [he] at h0 ⊢
  refine Calls.evalArgs_plain (thn h0 fun us s2 ⟨vs, H1, I1, r, q1, q2⟩ => ⟨rfl, ?_, I1.bk _ _ hC, hN.keeps I1.bk, T.keeps I1.bk, fun h' ex hm => ?_⟩)
  · show us.length ≤ sizeLine
    rw [← r.length]
    exact q1
  · have J : Inv X pins σ H1 { s2 with heap := h' } := I1.kept (t' := s2.toks) hm.keeps
    obtain ⟨tp, hx, _, _⟩ := hm.there
    rw [l.xe]
    have st := J.stack
    rw [l.stack] at st
    have hfr := J.ok.frames
    rw [l.stack] at hfr
    refine leaves J l.ex l.stack l.frame (fun Q hQ => ?_) (I1.newFree hm.new) (I1.newOld l.ex hm.new)
    rw [l.stack] at hQ
    exact note_first (n := h'.objs.size) hfr st l.frame hx rfl rfl (Nat.le_refl _) fun h'' f ec => hQ _ _ _ h'' f ec J.sz (fun b u z => J.hok.lt z) q2
/-- an exception of a callee passes through -/
theorem pass1 (l : Lv X E) : Passes (CX1 X.prog X.w) X E := by
  intro pins σ H s ev s' I h
  obtain ⟨ex, cls, dd, n, H', rfl, O, q⟩ := h
  have J : Inv X pins σ H' s' := I.call' (ch := []) O.os O.un O.hok O.bare fun b z => absurd z (by simp)
  rw [l.xe]
  have st := J.stack
  rw [l.stack] at st
  have hfr := J.ok.frames
  rw [l.stack] at hfr
  refine leaves J l.ex l.stack l.frame (fun Q hQ => ?_) O.free (I.newOld l.ex O.new)
  rw [l.stack] at hQ
  exact note_next hfr st l.frame O.exc fun h'' f ec => hQ _ _ _ h'' f ec (Nat.le_trans I.sz O.old) O.low q
end
end L2
/-! exceptions: try f(..) except C as n; isinstance of what was caught -/
namespace L2
open PySem PySem.Spec PyProof.Rows

/-- what is known of a caught exception -/
def ExcO (x : Addr) (cls : Value) (dd : Option Addr) : HO := .ext fun h => ∃ o vs, h.get? x = some o ∧ o.cls = cls ∧ o.dict = dd ∧ o.data = .fields vs
theorem Exc.seen {P : Program} {w : World} {H : Hp} {n : Nat} {h : Heap} {x : Addr} {cls fl : Value} {dd : Option Addr} (e : Exc n h x cls dd fl) : ObjOk P w H h x (ExcO x cls dd) := by
  obtain ⟨oe, vs, T, oT, ts, ⟨he, h1, h2, h3, _⟩, _⟩ := e
  refine ⟨⟨oe, vs, he, h1, h2, h3⟩, ⟨oe, he⟩, fun h1 h2 ⟨o, us, z, r⟩ k => ⟨o, us, k o z, r⟩⟩
section
variable {P : Program} {w : World} {fs : List Addr} {H H' : Hp} {h h' : Heap} {x : Addr} {o : HO}
theorem Un.track (u : Un fs [] H H' h h') (hx : h.get? x = none) (hn : H x = none) : Un fs [] H (upd H' x o) h h' := by
  have nx : ∀ b ob, h.get? b = some ob → b ≠ x := fun b ob q z => by rw [z, hx] at q; cases q
  refine ⟨u.keep, u.slot, fun b ob q m k => ?_, u.there, fun b xs q => ?_, fun b ob v q => ?_, fun b ps q => ?_⟩
  · rw [upd_ne (nx b ob q)]
    exact u.free b ob q m k
  · rw [upd_ne (ne_of_none q hn)]
    exact u.tups b xs q
  · rw [upd_ne (ne_of_none q hn)]
    exact u.frzs b ob v q
  · rw [upd_ne (ne_of_none q hn)]
    exact u.tbls b ps q
theorem HOk.track (k : HOk P w H h) (hn : H x = none) (new : ObjOk P w (upd H x o) h x o) : HOk P w (upd H x o) h := fun b u e => by
  by_cases hb : b = x
  · subst hb
    rw [upd_same] at e
    cases e
    exact new
  · rw [upd_ne hb] at e
    exact (k b u e).stay (fun c v _ q => q) (fun c q => by rw [upd_ne (ne_of_none q hn)]; exact q) fun c xs q => by rw [upd_ne (ne_of_none q hn)]; exact q
end
/-- within an except suite -/
abbrev Cx.hand (X : Cx) (x : Addr) : Cx := { X with A := X.A.mark (some (.ref x)), calm := false, xe := fun _ _ => False }
section
variable {X : Cx} {pins : List (Addr × Obj)} {σ : St} {H : Hp} {s : Shared} {x : Addr}
theorem Cx.Ok.hand (ok : X.Ok) : (X.hand x).Ok :=
  ⟨ok.mod, ok.kind, ok.glob, ok.blt, ok.above, ok.inj, ok.has, ok.cab, (fun z => nomatch z), ok.frames, ok.stk, ok.exf, ok.bs, ok.bsz, ok.noex, ok.exfs, ok.funs, ok.frf⟩
theorem Inv.hand (I : Inv X pins σ H s) : Inv (X.hand x) pins σ H s := ⟨I.ok.hand, I.os, I.bare, I.base, I.loc, I.cell, I.free, I.freeC, I.pin, I.hok, I.len⟩
theorem Inv.unhand (ok : X.Ok) (I : Inv (X.hand x) pins σ H s) : Inv X pins σ H s := ⟨ok, I.os, I.bare, I.base, I.loc, I.cell, I.free, I.freeC, I.pin, I.hok, I.len⟩
/-- the name goes behind the suite -/
theorem gone_ok {M : Model} {A : Around} {E : Value → Shared → Prop} {i : Nat} {n : Str} {pos : Pos} {Q : Unit → Shared → Prop} (I : Inv X pins σ H s) (hN : X.N.Nodup) (hi : X.N[i]? = some n) (hk : X.env.scope.names.lookup n = some .local)
    (h : ∀ s', Inv X pins (σ.set i none) H s' → Q () s') : wpAny M A (bindName X.env n .none >>= fun _ => unbindBehindTheSuite X.env n pos) Q E s := by
  obtain ⟨m, hn, hl⟩ := id I.loc
  have hiσ : i < σ.length := by rw [I.len]; exact (List.getElem?_eq_some_iff.mp hi).1
  have hcls : (X.env.scope.kind == .class || (X.env.scope.kind == .module && X.env.locals != X.env.globals)) = false := by rw [I.ok.kind]; rfl
  have ab : ∀ b o, X.s₀.heap.get? b = some o → b ≠ X.env.locals := fun b o e => Nat.ne_of_lt (Nat.lt_of_lt_of_le (Heap.lt_size e) I.ok.above)
  refine wpAny_nameGoes_keeps hk hn hcls fun h' v hn' hs => h _ ⟨I.ok, I.os, I.bare, ⟨fun b o e n hb hx => ?_, fun b o e n hb hx => ?_, I.base.free, fun b o e hx => ?_, I.base.tups, I.base.frzs, I.base.tbls⟩, ⟨_, hn', fun j y v' e1 e2 e3 => ?_⟩, fun y c e => ?_, I.free, I.freeC, fun p hp => ?_, fun b ob e => ?_, by simpa using I.len⟩
  · exact (hs.2 b (ab b o e)).trans (I.base.keep b o e n hb hx)
  · obtain ⟨sl, e1⟩ := I.base.slot b o e n hb hx
    exact ⟨sl, (hs.2 b (ab b o e)).trans e1⟩
  · obtain ⟨o', e1⟩ := I.base.there b o e hx
    exact ⟨o', (hs.2 b (ab b o e)).trans e1⟩
  · by_cases hj : j = i
    · subst hj
      rw [List.getElem?_set_self hiσ] at e2
      cases e2
    · rw [List.getElem?_set_ne (Ne.symm hj)] at e2
      obtain ⟨u', r', q⟩ := hl j y v' e1 e2 e3
      refine ⟨u', r', ?_⟩
      rcases q with ⟨k, e⟩ | ⟨k, c, e, z⟩
      · refine .inl ⟨k, ?_⟩
        have : y ≠ n := fun e => hj (nodup_ix hN e1 (e ▸ hi))
        simp [this, e]
      · exact .inr ⟨k, c, e, z.sameBut hs (I.cne y c e)⟩
  · obtain ⟨w', z⟩ := I.cell y c e
    exact ⟨w', z.sameBut hs (I.cne y c e)⟩
  · obtain ⟨e, n, ne, nf, d⟩ := I.pin p hp
    exact ⟨(hs.2 p.1 ne).trans e, n, ne, nf, d⟩
  · refine (I.hok b ob e).stay (fun c w' hc q => (hs.2 c ?_).trans q) (fun _ q => q) fun _ _ q => q
    rintro rfl
    rcases hc with hc | hc
    · rw [← hc, I.free] at e
      cases e
    · rw [I.free] at hc
      cases hc
end

section
variable {X : Cx} {k i : Nat} {f C2 : Addr} {fd : FuncData} {ps : List Str} {sp : Sp} {fx cx n : Str} {p p2 pos cpos epos hpos : Pos} {e : Expr} {es : List Expr} {t : TA} {b₀ : Stmt} {suite : List Stmt} {u : TS}
/-- the reading of try f(..) except C as n: suite -/
def tTry (K : PySem.W.Frag) (sp : Sp) (C2 : Addr) (i : Nat) (t : TA) (u : TS) : TS := fun D σ H => t σ H fun vs H1 => sp vs H1 (fun _ H2 => D.nx σ H2) fun cls dd H2 =>
  PySem.W.exmOne K cls (.ref C2) = some true ∧ ∀ x, H2 x = none → u { nx := fun σ' H' => D.nx (σ'.set i none) H', rt := D.rt, bk := fun σ' H' => D.bk (σ'.set i none) H', ct := fun σ' H' => D.ct (σ'.set i none) H' } (σ.set i (some (.ref x))) (upd H2 x (ExcO x cls dd))
end
end L2
/-! isinstance of a caught exception -/
namespace L2
open PySem PySem.Spec PyProof.Rows
/-- an own class of errors, as isinstance reads it -/
structure ECls (K : PySem.W.Frag) (C : Addr) : Prop where
  ga : PySem.W.findIn K (.ref C) "__getattribute__" = some (some (.builtin "BaseException.__getattribute__"))
  gh : PySem.W.findIn K (.ref C) "__getattr__" = some none
  sb : PySem.W.subIn K (.ref C) (.type "BaseException") = some true
  cl : PySem.W.isClsIn K C = true
  fi : PySem.W.findIn K (.ref C) "__class__" = some (some (.builtin "object.__class__"))
  sp : PySem.W.specialIn K (.builtin "object.__class__") "__get__" = some (some (.builtin "getset_descriptor.__get__"))
  tk : PySem.W.takesIn K (.builtin "object.__class__") = some true
  mr : PySem.W.mroIn K C (.type "object") = some true
section
variable {prog : Program} {w : World} {A : Around} {E : Value → Shared → Prop} {s : Shared} {K : PySem.W.Frag} {x C : Addr} {ox : Obj} {od : Option Obj}
theorem exc_found (c : ECls K C) : PySem.W.findObj K C od "__class__" = some (.bind (.builtin "getset_descriptor.__get__") (.builtin "object.__class__")) := by
  obtain ⟨cd, hcd⟩ := Option.isSome_iff_exists.mp (show (PySem.W.clsIn K C).isSome = true from c.cl)
  unfold PySem.W.findObj
  rw [hcd, Option.bind_some, c.fi, Option.bind_some]
  simp [c.sp, c.tk]
theorem exc_check {M : Model} {nv : Value} {Q : Unit → Shared → Prop} (c : ECls K C) (X : K.In s.heap) (I : PySem.W.InstAt s.heap x ox C od) (q : Q () s) : wpAny M A (checkBuiltinCall "BaseException.__getattribute__" ⟨[.ref x, nv], []⟩) Q E s := by
  have k1 : builtinKind "BaseException.__getattribute__" = some .slot := by decide +kernel
  have k2 : splitId "BaseException.__getattribute__" = some ("BaseException", "__getattribute__") := by decide +kernel
  have k3 := F.args_bexc_ga (.ref x) nv
  have L : PySem.W.Looks M s.heap (isInstance (.ref x) (.type "BaseException")) true := (I.type (M := M)).andThen (PySem.W.looks_subIn X c.sb)
  obtain ⟨hh, g, d, t, os⟩ := s
  simp only [checkBuiltinCall, k1, k2]
  refine wpAny_bind (L.at ?_)
  repeat (first | assumption | wp_step)
theorem exc_get {tok : Tok} {Q : Fin → Shared → Prop} (c : ECls K C) (X : K.In s.heap) (I : PySem.W.InstAt s.heap x ox C od) (q : Q (.done (.ret (.ref C))) s) :
    wpAny (model prog w) A (Builtin.«object.__getattribute__» ⟨[.ref x, .str "__class__" tok], []⟩) Q E s := by
  have L0 := I.type (M := model prog w)
  have L1 := PySem.W.looks_find (M := model prog w) X I (exc_found (od := od) c)
  have cg : ∀ (A : Around) (R : Result → Shared → Prop), R (.ok (.ret (.ref C))) s → codeAny (model prog w) A (.call (.builtin "getset_descriptor.__get__") ⟨[.builtin "object.__class__", .ref x, .ref C], []⟩) R s := fun A R r => PySem.W.class_get X I c.mr r
  obtain ⟨hh, g, d, t, os⟩ := s
  repeat (any_goals (first | assumption | with_reducible refine L0.at ?_ | with_reducible refine L1.at ?_ | wp_step))
  refine cg _ _ ?_
  repeat (any_goals (first | assumption | wp_step))
theorem exc_class {Q : Option Value → Shared → Prop} (c : ECls K C) (X : K.In s.heap) (I : PySem.W.InstAt s.heap x ox C od) (q : Q (some (.ref C)) { s with toks := s.toks + 1 }) : wpAny (model prog w) A (getAttr? (.ref x) "__class__") Q E s := by
  have L0 := I.type (M := model prog w)
  have L1 := PySem.W.looks_findIn (M := model prog w) X c.ga
  have L2 := PySem.W.looks_findIn (M := model prog w) X c.gh
  have f3 := F.attr_ValueError.ga.bind (.ref x)
  have f4 : (Value.builtin "BaseException.__getattribute__" == Value.builtin "object.__getattribute__") = false := by decide +kernel
  have f5 : (onTheHeap (Value.ref C) && Value.builtin "BaseException.__getattribute__" == Value.builtin "object.__getattribute__") = false := by rw [f4]; rfl
  have f6 : (false && onTheHeap (Value.builtin "BaseException.__getattribute__")) = false := rfl
  have cg : ∀ (A : Around) (tok : Tok) (R : Result → Shared → Prop), R (.ok (.ret (.ref C))) { s with toks := s.toks + 1 } → codeAny (model prog w) A (.call (.builtin "BaseException.__getattribute__") ⟨[.ref x, .str "__class__" tok], []⟩) R { s with toks := s.toks + 1 } := fun A tok R r =>
    codeAny_call_builtin F.attr_ValueError.ga.plain F.entry_bexc_ga (exc_check (s := { s with toks := s.toks + 1 }) c X I (exc_get (s := { s with toks := s.toks + 1 }) c X I r))
  obtain ⟨hh, g, d, t, os⟩ := s
  unfold getAttr? getAttrBy?
  repeat (any_goals (first | assumption | with_reducible refine L0.at ?_ | with_reducible refine L1.at ?_ | with_reducible refine L2.at ?_ | wp_step))
  refine cg _ _ _ ?_
  repeat (any_goals (first | assumption | wp_step))
end
theorem ECls.kit {K : PySem.W.Frag} {C x : Addr} (c : ECls K C) : PySem.W.KitX K (.ref x) (.ref C) (fun h => ∃ ox od, PySem.W.InstAt h x ox C od) := by
  obtain ⟨cd, hcd⟩ := Option.isSome_iff_exists.mp (show (PySem.W.clsIn K C).isSome = true from c.cl)
  have lk : ∃ c' d' sl', K.lookup C = some ⟨c', d', .cls cd, sl'⟩ := by
    unfold PySem.W.clsIn at hcd
    split at hcd
    · rename_i c' d' cd' sl' ho
      cases hcd
      exact ⟨_, _, _, ho⟩
    · cases hcd
  obtain ⟨c', d', sl', lk⟩ := lk
  refine ⟨fun _ _ _ ⟨_, _, I⟩ => I.type, fun M h X _ A Q E s k q => ?_, fun h tp dd its n sl X htp => ?_, fun {prog w A E Q s} X ⟨ox, od, I⟩ q => ?_⟩
  · unfold isType loadHead
    exact wpAny_bind (wpAny_loadPart (k _ _ (X _ _ lk)) (wpAny_pure q))
  · refine Bool.eq_false_iff.mpr fun q => ?_
    have e : C = tp := Value.ref.inj (beq_iff_eq.mp q)
    subst e
    have z := (X _ _ lk).symm.trans htp
    cases z
  · exact exc_class c X I q
/-- a caught exception of the class at C -/
def EAt (K : PySem.W.Frag) (H : Hp) (x C : Addr) : Prop := ECls K C ∧ ∃ dd, H x = some (ExcO x (.ref C) dd) ∧ ∀ dx, dd = some dx → ∃ o, H dx = some o
theorem Inv.eat {X : Cx} {pins : List (Addr × Obj)} {σ : St} {H : Hp} {s : Shared} {x C : Addr} (I : Inv X pins σ H s) (h : EAt X.K H x C) : ∃ ox od, PySem.W.InstAt s.heap x ox C od := by
  obtain ⟨_, dd, hx, hd⟩ := h
  obtain ⟨⟨o, vs, h1, h2, h3, h4⟩, _⟩ := (show ObjOk X.prog X.w H s.heap x (ExcO x (.ref C) dd) from I.hok x _ hx)
  have no : PySem.W.notCls o = true := by
    obtain ⟨a, b, c, d⟩ := o
    simp only at h4
    subst h4
    rfl
  cases dd with
  | none => exact ⟨o, none, h1, h2, no, by rw [h3]; trivial⟩
  | some dx =>
    obtain ⟨u, hu⟩ := hd dx rfl
    obtain ⟨od, ho⟩ := (I.hok dx u hu).some
    exact ⟨o, some od, h1, h2, no, by rw [h3]; exact ho⟩
/-- a class as a value -/
inductive ClsV : V → Value → Prop where
  | own (D : Addr) : ClsV (.ref D) (.ref D)
  | ty (T : String) : ClsV (.ty T) (.type T)
theorem ClsV.eq {v : V} {c u : Value} (h : ClsV v c) (r : RelV v u) : u = c := by
  cases h with
  | own D => exact r
  | ty T => exact r
theorem ClsV.all : ∀ {vs : List V} {cs us : List Value}, Paired ClsV vs cs → Vals vs us → us = cs := by
  intro vs cs us h r
  induction h generalizing us with
  | nil => cases r; rfl
  | cons h1 _ ih =>
    cases r with
    | cons r1 r2 => rw [h1.eq r1, ih r2]
section
variable {X : Cx}
theorem call_isE {K : PySem.W.Frag} (hK : X.K = K) : CallR X (.builtin "isinstance") (fun xs H Q => ∃ x C v c b, xs = [.ref x, v] ∧ EAt K H x C ∧ ClsV v c ∧ PySem.W.kitOne K (.ref C) c = some b ∧ Q (.bl b) H) := by
  subst hK
  intro pins s σ H xs us Q I r h
  obtain ⟨x, C, v, c, b, rfl, ea, hv, e, q⟩ := h
  obtain ⟨u, w', rfl, ru, rw'⟩ := vals2 r
  cases ru
  cases hv.eq rw'
  exact PySem.W.kia_one ea.1.kit I.kIn (I.eat ea) e (fun z => nomatch z) fun tk => ⟨.bl b, H, I.tok tk, rfl, q⟩
theorem call_isET {K : PySem.W.Frag} (hK : X.K = K) : CallR X (.builtin "isinstance") (fun xs H Q => ∃ x C tp vs cs b, xs = [.ref x, .ref tp] ∧ EAt K H x C ∧ SqT K H tp vs ∧ Paired ClsV vs cs ∧ PySem.W.kitAny K (.ref C) cs = some b ∧ Q (.bl b) H) := by
  subst hK
  intro pins s σ H xs us Q I r h
  obtain ⟨x, C, tp, vs, cs, b, rfl, ea, ht, hv, e, q⟩ := h
  obtain ⟨u, w', rfl, ru, rw'⟩ := vals2 r
  cases ru
  cases rw'
  obtain ⟨its, r1, p1, _⟩ := I.tuple ht
  obtain ⟨⟨cls, dd, data, sl⟩, ho, hc, n, hd⟩ := id p1
  simp only at hc hd
  subst hc hd
  have z := ClsV.all hv r1
  subst z
  exact PySem.W.kia_tup ea.1.kit I.kIn (I.eat ea) ho e (fun z => nomatch z) fun tk => ⟨.bl b, H, I.tok tk, rfl, q⟩
end
end L2
/-! enumerate over a tuple -/
namespace L2
open PySem PySem.Spec PyProof.Rows
section
variable {prog : Program} {w : World} {A : Around} {E : Value → Shared → Prop} {s : Shared}
theorem nextT_item {ia tp : Addr} {i : Nat} {us : Array Value} {u : Value} {Q : Value → Shared → Prop} (a1 : s.heap.IsTupleIter ia tp i) (a2 : s.heap.IsTuple tp us) (a3 : us[i]? = some u)
    (k : ∀ h', h'.IsTupleIter ia tp (i + 1) → Heap.SameBut ia s.heap h' → Q u { s with heap := h' }) : wpAny (model prog w) A (Builtin.SmallTypes.nextOf (.ref ia)) Q E s := by
  obtain ⟨o, b1, b2, b3⟩ := id a1
  obtain ⟨ot, c1, _, nt, c2⟩ := a2
  unfold Builtin.SmallTypes.nextOf
  refine wpAny_bind (wpAny_callSpecial?_slot (name := Str.ofString "__next__") a1.typeIs F.slot_tuple_iterator_next (wpAny_call_entry F.slot_tuple_iterator_next a1.typeIs F.entry_tuple_iterator_next ?_ (F.args_tuple_iterator_next_1 _)))
  show wpAny _ _ (field (.ref ia) 0 >>= _) _ _ s
  refine wpAny_bind (wpAny_field b1 b3 (x := .ref tp) rfl ?_)
  show wpAny _ _ (if (Value.ref tp == Value.none) = true then _ else _) _ _ s
  rw [if_neg (show ¬ ((Value.ref tp == Value.none) = true) from Bool.false_ne_true)]
  show wpAny _ _ (field (.ref ia) 1 >>= _) _ _ s
  refine wpAny_bind (wpAny_field b1 b3 (x := .int i 0) rfl ?_)
  show wpAny _ _ (seqItems? (.ref tp) >>= _) _ _ s
  refine wpAny_bind (wpAny_seqItems c1 c2 ?_)
  simp only [Int.toNat_natCast, a3]
  refine wpAny_bind (wpAny_setField b1 b3 (by simp) (wpAny_pure ⟨u, rfl, wpAny_pure (k _ ?_ (Heap.SameBut.update ..))⟩))
  exact ⟨_, Heap.get?_update_self _ b1 (Obj.isFreed_of_fields (Obj.data_mapFields b3 _)), (Obj.cls_mapFields ..).trans b2, by rw [Obj.data_mapFields b3]; simp [rawInt]⟩
theorem nextT_end {ia tp : Addr} {i : Nat} {us : Array Value} {Q : Value → Shared → Prop} (hh : A.handled = none) (a1 : s.heap.IsTupleIter ia tp i) (a2 : s.heap.IsTuple tp us) (a3 : us[i]? = none)
    (k : ∀ h' x, Heap.ExtBut ia s.heap h' → (∃ o, h'.get? x = some o ∧ o.cls = .type "StopIteration") → E (.ref x) { s with heap := h' }) : wpAny (model prog w) A (Builtin.SmallTypes.nextOf (.ref ia)) Q E s := by
  obtain ⟨o, b1, b2, b3⟩ := id a1
  obtain ⟨ot, c1, _, nt, c2⟩ := a2
  unfold Builtin.SmallTypes.nextOf
  refine wpAny_bind (wpAny_callSpecial?_slot (name := Str.ofString "__next__") a1.typeIs F.slot_tuple_iterator_next (wpAny_call_entry F.slot_tuple_iterator_next a1.typeIs F.entry_tuple_iterator_next ?_ (F.args_tuple_iterator_next_1 _)))
  show wpAny _ _ (field (.ref ia) 0 >>= _) _ _ s
  refine wpAny_bind (wpAny_field b1 b3 (x := .ref tp) rfl ?_)
  show wpAny _ _ (if (Value.ref tp == Value.none) = true then _ else _) _ _ s
  rw [if_neg (show ¬ ((Value.ref tp == Value.none) = true) from Bool.false_ne_true)]
  show wpAny _ _ (field (.ref ia) 1 >>= _) _ _ s
  refine wpAny_bind (wpAny_field b1 b3 (x := .int i 0) rfl ?_)
  show wpAny _ _ (seqItems? (.ref tp) >>= _) _ _ s
  refine wpAny_bind (wpAny_seqItems c1 c2 ?_)
  simp only [Int.toNat_natCast, a3]
  refine wpAny_bind (wpAny_rule (wpAny_bind (wpAny_setField b1 b3 (by simp) ?_)))
  show wpAny _ _ (newExc (.type "StopIteration") [] >>= fun _ => _) _ _ _
  refine wpAny_bind ?_
  simp only [newExc, newTuple]
  refine wpAny_bind (wpAny_newObj_type ?_ (by size_fits))
  refine wpAny_bind (m := firstArgMember _ _) (wpAny_of_eq (a := Value.none) (by first | rfl | simp [firstArgMember]) (wpAny_newObj_type ?_ (by size_fits)))
  simp only [raiseNew]
  refine wpAny_bind (wpAny_handled ?_)
  first | rw [show A.in1.handled = none from hh] | (rw [hh]; skip)
  exact wpAny_bind (wpAny_pure (wpAny_throw (k _ _ (((Heap.SameBut.update ..).extBut.push _).push _) ⟨_, Heap.get?_push_size _ rfl, rfl⟩)))
/-- one turn of an enumerate -/
theorem enumT_item {en ia tp : Addr} {i : Nat} {us : Array Value} {u was : Value} {Q : Option Value → Shared → Prop} (e0 : IsEnum s.heap en ia i was) (a1 : s.heap.IsTupleIter ia tp i) (a2 : s.heap.IsTuple tp us) (a3 : us[i]? = some u) (ne : en ≠ ia)
    (k : ∀ h', IsEnumOut h' en ia ((i : Int) + 1) u s.heap.objs.size → h'.IsTupleIter ia tp (i + 1) → h'.get? s.heap.objs.size = some { cls := .type "tuple", data := .seq #[.int i s.toks, u] } →
      (∀ b o, b ≠ en → b ≠ ia → s.heap.get? b = some o → h'.get? b = some o) → Q (some (.ref s.heap.objs.size)) { s with heap := h', toks := s.toks + 1 }) :
    wpAny (model prog w) A (pyNext (.ref en)) Q E s := by
  have ty : s.TypeIs (.ref en) "enumerate" := ⟨_, e0, rfl⟩
  unfold pyNext
  refine wpAny_bind (wpAny_attempt (wpAny_callSpecial?_slot (name := Str.ofString "__next__") ty F.slot_enumerate_next (wpAny_call_entry F.slot_enumerate_next ty F.entry_enumerate_next ?_ (F.args_enumerate_next_1 _))))
  obtain ⟨h0, g, d, tk, os⟩ := s
  show wpAny _ _ (field (.ref en) 2 >>= _) _ _ _
  refine wpAny_bind (wpAny_field e0 rfl (x := .ref ia) rfl (wpAny_bind (nextT_item a1 a2 a3 fun h1 n1 s1 => ?_)))
  replace s1 : Heap.SameBut ia h0 h1 := s1
  have e1 : IsEnum h1 en ia i was := (s1.2 en ne).trans e0
  show wpAny _ _ (field (.ref en) 3 >>= _) _ _ ⟨h1, g, d, tk, os⟩
  refine wpAny_bind (wpAny_field e1 rfl (x := rawInt i) rfl ?_)
  show wpAny _ _ (field (.ref en) 4 >>= _) _ _ ⟨h1, g, d, tk, os⟩
  refine wpAny_bind (wpAny_field e1 rfl (x := .none) rfl ?_)
  show wpAny _ _ (mkInt i >>= _) _ _ ⟨h1, g, d, tk, os⟩
  refine wpAny_bind (wpAny_mkInt ?_)
  show wpAny _ _ (setField (.ref en) 3 (rawInt ((i : Int) + 1)) >>= _) _ _ ⟨h1, g, d, tk + 1, os⟩
  refine wpAny_bind (wpAny_setField_rec e1 (by simp) fun h2 e2 s2 => ?_)
  replace s2 : Heap.SameBut en h1 h2 := s2
  replace e2 : IsEnum h2 en ia ((i : Int) + 1) was := e2
  show wpAny _ _ (setField (.ref en) 4 .none >>= _) _ _ ⟨h2, g, d, tk + 1, os⟩
  refine wpAny_bind (wpAny_setField_rec e2 (by simp) fun h3 e3 s3 => ?_)
  replace s3 : Heap.SameBut en h2 h3 := s3
  replace e3 : IsEnum h3 en ia ((i : Int) + 1) was := e3
  show wpAny _ _ (newTuple [.int i tk, u] >>= _) _ _ ⟨h3, g, d, tk + 1, os⟩
  refine wpAny_bind (wpAny_newTuple ?_)
  have z3 : h3.objs.size = h0.objs.size := by rw [s3.1, s2.1, s1.1]
  have l0 : en < h0.objs.size := Heap.lt_size e0
  have ni : ia ≠ en := Ne.symm ne
  generalize hh4 : h3.push { cls := .type "tuple", data := .seq #[.int i tk, u] } = h4
  have e4 : IsEnum h4 en ia ((i : Int) + 1) was := by rw [← hh4]; exact Heap.get?_push_of_some _ e3
  have t4 : h4.get? h0.objs.size = some { cls := .type "tuple", data := .seq #[.int i tk, u] } := by rw [← hh4, ← z3]; exact Heap.get?_push_size _ rfl
  have k4 : ∀ b o, b ≠ en → b ≠ ia → h0.get? b = some o → h4.get? b = some o := fun b o m1 m2 q => by
    rw [← hh4]
    exact Heap.get?_push_of_some _ (s3.extBut b o m1 (s2.extBut b o m1 (s1.extBut b o m2 q)))
  have n4 : h4.IsTupleIter ia tp (i + 1) := by
    rw [← hh4]
    obtain ⟨o, q, r⟩ := (n1.extBut s2.extBut ni).extBut s3.extBut ni
    exact ⟨o, Heap.get?_push_of_some _ q, r⟩
  show wpAny _ _ (Builtin.SmallTypes.ownedTupleIsFree (.ref en) >>= _) _ _ ⟨h4, g, d, tk + 1, os⟩
  rw [z3]
  clear hh4
  refine wpAny_bind ?_
  unfold Builtin.SmallTypes.ownedTupleIsFree
  refine wpAny_bind (wpAny_field e4 rfl (x := .none) rfl (wpAny_pure ?_))
  simp only [if_true]
  refine wpAny_bind (wpAny_rule (wpAny_bind (wpAny_field e4 rfl (x := was) rfl (wpAny_bind (wpAny_setField_rec e4 (by simp) fun h5 e5 s5 => ?_)))))
  replace s5 : Heap.SameBut en h4 h5 := s5
  replace e5 : IsEnum h5 en ia ((i : Int) + 1) u := e5
  show wpAny _ _ (Builtin.SmallTypes.ownedTupleHandOut (.ref en) (.ref h0.objs.size) >>= _) _ _ ⟨h5, g, d, tk + 1, os⟩
  refine wpAny_bind ?_
  unfold Builtin.SmallTypes.ownedTupleHandOut
  refine wpAny_bind (wpAny_setField_rec e5 (by simp) fun h6 e6 s6 => ?_)
  replace s6 : Heap.SameBut en h5 h6 := s6
  replace e6 : IsEnumOut h6 en ia ((i : Int) + 1) u h0.objs.size := e6
  refine wpAny_setField_rec e6 (by simp) fun h7 e7 s7 => ?_
  replace s7 : Heap.SameBut en h6 h7 := s7
  replace e7 : IsEnumOut h7 en ia ((i : Int) + 1) u h0.objs.size := e7
  have up : ∀ b o, b ≠ en → h4.get? b = some o → h7.get? b = some o := fun b o m q => s7.extBut b o m (s6.extBut b o m (s5.extBut b o m q))
  refine wpAny_bind (wpAny_letGo (wpAny_pure ⟨_, rfl, wpAny_pure (k h7 e7 ?_ (up _ _ (Nat.ne_of_gt l0) t4) fun b o m1 m2 q => up b o m1 (k4 b o m1 m2 q))⟩))
  obtain ⟨o, q, r⟩ := n4
  exact ⟨o, up _ _ ni q, r⟩
theorem enumT_end {en ia tp : Addr} {i : Nat} {us : Array Value} {was : Value} {Q : Option Value → Shared → Prop} (hh : A.handled = none) (e0 : IsEnum s.heap en ia i was) (a1 : s.heap.IsTupleIter ia tp i) (a2 : s.heap.IsTuple tp us) (a3 : us[i]? = none)
    (k : ∀ h', Heap.ExtBut ia s.heap h' → Q none { s with heap := h' }) : wpAny (model prog w) A (pyNext (.ref en)) Q E s := by
  have ty : s.TypeIs (.ref en) "enumerate" := ⟨_, e0, rfl⟩
  unfold pyNext
  refine wpAny_bind (wpAny_attempt (wpAny_callSpecial?_slot (name := Str.ofString "__next__") ty F.slot_enumerate_next (wpAny_call_entry F.slot_enumerate_next ty F.entry_enumerate_next ?_ (F.args_enumerate_next_1 _))))
  show wpAny _ _ (field (.ref en) 2 >>= _) _ _ _
  refine wpAny_bind (wpAny_field e0 rfl (x := .ref ia) rfl (wpAny_bind (nextT_end hh a1 a2 a3 fun h' x q1 q2 => ?_)))
  obtain ⟨o, o1, o2⟩ := q2
  exact wpAny_bind (wpAny_isInstance (T := "StopIteration") (b := true) ⟨o, o1, o2⟩ isSubtype_stop (wpAny_pure (k _ q1)))
end
end L2
/-! for a, b in enumerate(a tuple) -/
namespace L2
open PySem PySem.Spec PyProof.Rows
/-- the pairs (0, x0), (1, x1), .. of the tuple at a -/
def Ite (K : PySem.W.Frag) (a : Addr) : It :=
  ⟨fun i H => ∃ xs x, SqT K H a xs ∧ xs[i]? = some x, fun i H x H' => ∃ p y, x = .ref p ∧ H p = none ∧ H' = upd H p (.tup [.int i, y]) ∧ ∀ xs, SqT K H a xs → xs[i]? = some y, fun i H => ∃ xs, SqT K H a xs ∧ xs.length ≤ i⟩
theorem two_small : 2 ≤ sizeLine := szb rfl
theorem turn_enumT {P : Program} {w : World} {K : PySem.W.Frag} {es : List Expr} {x1 : Nat} {pos : Pos} (a en ia : Addr) (ne : en ≠ ia) :
    Turn P w K (.Tuple es x1 pos) (Ite K a) [en, ia] en (fun i h => (∃ was, IsEnum h en ia (i : Nat) was) ∧ h.IsTupleIter ia a i) where
  mem := by simp
  obj := fun i h st b hb => by
    obtain ⟨⟨was, q1⟩, o, q2, q3, q4⟩ := st
    rcases List.mem_cons.mp hb with z | z
    · subst z
      exact ⟨_, q1, fun v y => by cases y⟩
    · have z' : b = ia := by simpa using z
      subst z'
      exact ⟨o, q2, fun v y => by rw [q4] at y; cases y⟩
  keep := fun i h h' st k => by
    obtain ⟨⟨was, q1⟩, o, q2, q3⟩ := st
    exact ⟨⟨was, k en (by simp) _ q1⟩, o, k ia (by simp) _ q2, q3⟩
  item := by
    intro X hP hw hK hc i pins s σ H E I hf st hg
    subst hP hw hK
    obtain ⟨⟨was, q1⟩, q2⟩ := st
    obtain ⟨xs, x, hq, hx⟩ := hg
    obtain ⟨its, rv, p, hz⟩ := I.tuple hq
    obtain ⟨u, hu, ru⟩ := rv.get hx
    refine enumT_item q1 q2 (show s.heap.IsTuple a its.toArray from p) (u := u) (by simpa using hu) ne fun h1 e1 n1 t1 k1 => ⟨_, rfl, ?_⟩
    refine wpAny_letOwnedTupleGo_enum e1 fun h2 e2 s2 => ?_
    replace s2 : Heap.SameBut en h1 h2 := s2
    have len : en < s.heap.objs.size := Heap.lt_size q1
    have t2 : h2.get? s.heap.objs.size = some { cls := .type "tuple", data := .seq #[.int i s.toks, u] } := (s2.2 _ (Nat.ne_of_gt len)).trans t1
    have kk : ∀ b o, b ≠ en → b ≠ ia → s.heap.get? b = some o → h2.get? b = some o := fun b o m1 m2 q => (s2.2 b m1).trans (k1 b o m1 m2 q)
    have fr : H s.heap.objs.size = none := I.hok.fresh (Nat.le_refl _)
    have f1 := hf en (by simp)
    have f2 := hf ia (by simp)
    have neq : ∀ b, H b ≠ none → b ≠ en ∧ b ≠ ia := fun b m => ⟨fun z => m (z ▸ f1.1), fun z => m (z ▸ f2.1)⟩
    have un : Un (frs X.stack) [en, ia] H (upd H s.heap.objs.size (.tup [.int i, x])) s.heap h2 := by
      have nn : ∀ b, b ∉ [en, ia] → b ≠ en ∧ b ≠ ia := fun b m => ⟨fun z => m (by simp [z]), fun z => m (by simp [z])⟩
      have np : ∀ b o, s.heap.get? b = some o → b ≠ s.heap.objs.size := fun b o q => Nat.ne_of_lt (Heap.lt_size q)
      exact ⟨fun b o q _ _ m => kk b o (nn b m).1 (nn b m).2 q, fun b o q _ _ m => ⟨o.slots, kk b o (nn b m).1 (nn b m).2 q⟩, fun b o q m _ => by rw [upd_ne (np b o q)]; exact m, fun b o q m => ⟨o, kk b o (nn b m).1 (nn b m).2 q⟩,
        fun b ys q => by rw [upd_ne (ne_of_none q fr)]; exact q, fun b o v q => by rw [upd_ne (ne_of_none q fr)]; exact q, fun b ps q => ⟨#[], by rw [upd_ne (ne_of_none q fr), q]; simp⟩⟩
    have hok : HOk X.prog X.w (upd H s.heap.objs.size (.tup [.int i, x])) h2 := fun b ob e => by
      by_cases hb : b = s.heap.objs.size
      · subst hb
        rw [upd_same] at e
        cases e
        exact ⟨two_small, [.int i s.toks, u], .cons ⟨_, rfl⟩ (.cons ru .nil), ⟨_, t2, rfl, _, rfl⟩⟩
      · rw [upd_ne hb] at e
        refine (I.hok b ob e).stay (fun c v z q => ?_) (fun c q => by rw [upd_ne (ne_of_none q fr)]; exact q) fun c ys q => by rw [upd_ne (ne_of_none q fr)]; exact q
        have m : H c ≠ none := by
          rcases z with rfl | z
          · rw [e]; exact fun y => nomatch y
          · rw [z]; exact fun y => nomatch y
        exact kk c v (neq c m).1 (neq c m).2 q
    have J : Inv X pins σ (upd H s.heap.objs.size (.tup [.int i, x])) { s with heap := h2, toks := s.toks + 1 } := by
      refine I.call' (s' := { s with heap := h2, toks := s.toks + 1 }) (ch := [en, ia]) rfl un hok I.bare fun b hb => ?_
      rcases List.mem_cons.mp hb with z | z
      · subst z
        exact ⟨f1.2.2.2.1, f1.2.1, f1.2.2.2.2.1, f1.2.2.2.2.2⟩
      · have z' : b = ia := by simpa using z
        subst z'
        exact ⟨f2.2.2.2.1, f2.2.1, f2.2.2.2.2.1, f2.2.2.2.2.2⟩
    refine ⟨.ref s.heap.objs.size, _, J, rfl, ⟨s.heap.objs.size, x, rfl, fr, rfl, fun ys hy => by rw [I.tuple_inj hy hq]; exact hx⟩, ⟨⟨u, ?_⟩, ?_⟩, fun b hb => ?_⟩
    · have : ((i + 1 : Nat) : Int) = (i : Int) + 1 := by omega
      rw [this]
      exact e2
    · obtain ⟨o, q, r⟩ := n1
      exact ⟨o, (s2.2 ia (Ne.symm ne)).trans q, r⟩
    · have hb' : b = en ∨ b = ia := by simpa using hb
      have lb : b < s.heap.objs.size := by
        rcases hb' with z | z
        · rw [z]; exact len
        · obtain ⟨o, q, _⟩ := q2
          rw [z]; exact Heap.lt_size q
      rw [upd_ne (Nat.ne_of_lt lb)]
      exact (hf b hb).1
  done := by
    intro X hP hw hK hc i pins s σ H E I hf st hg
    subst hP hw hK
    obtain ⟨⟨was, q1⟩, q2⟩ := st
    obtain ⟨xs, hq, hx⟩ := hg
    obtain ⟨its, rv, p, hz⟩ := I.tuple hq
    obtain ⟨f0, f1, f2, f3, f4, f5⟩ := hf ia (by simp)
    have hl := rv.length
    exact enumT_end (I.ok.hd hc) q1 q2 (show s.heap.IsTuple a its.toArray from p) (by simp; omega) fun h' eb => ⟨rfl, I.turned (t' := s.toks) (fun b o hb e => eb b o hb e) f0 f1 f3 f4 f5⟩
  self := fun _ _ _ _ _ st h => by
    obtain ⟨⟨was, q1⟩, _⟩ := st
    exact wpAny_pyIter_enum q1 h

theorem enum_newT (tp : Addr) (us : Array Value) (n : Nat) (dct : Option Addr) (sl : Array (Option Value)) :
    Meets (Builtin.«enumerate.__new__» ⟨[.type "enumerate", .ref tp], []⟩) (fun _ R s => s.heap.get? tp = some { cls := .type "tuple", dict := dct, data := .seq us n, slots := sl } ∧
      R (.ok (.ret (.ref (s.heap.push { cls := .type "tuple_iterator", data := .fields #[.ref tp, .int 0 0] }).objs.size)))
        { s with heap := (s.heap.push { cls := .type "tuple_iterator", data := .fields #[.ref tp, .int 0 0] }).push { cls := .type "enumerate", data := .fields #[.none, .bool false, .ref s.heap.objs.size, rawInt 0, .none, .none] } }) :=
  .of_wp fun prog w A R s z => by
    obtain ⟨hp, g, d, tk, os⟩ := s
    obtain ⟨z1, z2⟩ := z
    have sb := sub_enumerate
    have T : Heap.IsTuple (Shared.heap ⟨hp, g, d, tk, os⟩) tp us := ⟨_, z1, rfl, n, rfl⟩
    wp_walk using AutoSeq1.wpAny_loadPart' z1
    refine wpAny_stack_any fun st => wpAny_pure ?_
    split
    · rename_i c _ _ _ _ _
      cases (c == Value.type "enumerate")
      all_goals
        wp_walk using AutoSeq1.wpAny_loadPart' z1, wpAny_pyIter_tuple T
        exact ⟨_, rfl, z2⟩
    · wp_walk using AutoSeq1.wpAny_loadPart' z1, wpAny_pyIter_tuple T
      exact ⟨_, rfl, z2⟩
section
variable {prog : Program} {w : World} {A : Around} {E : Value → Shared → Prop} {s : Shared}
theorem call_enumT {tp : Addr} {us : Array Value} {Q : Value → Shared → Prop} (T : s.heap.IsTuple tp us)
    (k : ∀ h', IsEnum h' (s.heap.objs.size + 1) s.heap.objs.size 0 .none → h'.IsTupleIter s.heap.objs.size tp 0 → (∀ b o, s.heap.get? b = some o → h'.get? b = some o) → Q (.ref (s.heap.objs.size + 1)) { s with heap := h' }) :
    wpAny (model prog w) A (call (.type "enumerate") [.ref tp]) Q E s := by
  obtain ⟨⟨c, dct, dt, sl⟩, z1, z2, n, z3⟩ := T
  simp only at z2 z3
  subst z2 z3
  refine callType_new F.called_enumerate (by decide) (F.typeCall_enumerate_1 _) (F.newCall_enumerate_1 _) (fun obj => F.args_object_init_2 obj _) F.entry_enumerate_new (enum_newT tp us n dct sl) ⟨z1, ?_⟩
  generalize ho : ({ cls := .type "tuple_iterator", data := .fields #[.ref tp, .int 0 0] } : Obj) = o1
  have y1 : (s.heap.push o1).objs.size = s.heap.objs.size + 1 := Heap.size_push ..
  have y2 : ∀ o2 : Obj, o2.isFreed = false → ((s.heap.push o1).push o2).get? (s.heap.objs.size + 1) = some o2 := fun o2 f => by
    have := Heap.get?_push_size (s.heap.push o1) (o := o2) f
    rwa [y1] at this
  show _ ∧ _
  rw [y1]
  have y3 := y2 { cls := .type "enumerate", data := .fields #[.none, .bool false, .ref s.heap.objs.size, rawInt 0, .none, .none] } rfl
  refine ⟨⟨_, y3, rfl⟩, k _ y3 ⟨o1, Heap.get?_push_of_some _ (Heap.get?_push_size _ (by rw [← ho]; rfl)), by rw [← ho], by rw [← ho]; rfl⟩ fun b o q => Heap.get?_push_of_some _ (Heap.get?_push_of_some _ q)⟩
end
section
variable {X : Cx} {es : List Expr} {x1 : Nat} {tpos : Pos}
def iEnum (K : PySem.W.Frag) (ta : TA) : TI := fun σ H R => ta σ H fun vs H1 => ∃ a, vs = [.ref a] ∧ (∃ xs, SqT K H1 a xs) ∧ R (Ite K a) H1
theorem pi_enum {l : Expr} {ta : TA} {p pos : Pos} (hg : Gl X "enumerate") (hm : X.mg "enumerate" = none) (ha : PA X [l] ta) (hs : starEach [l] X.env = [(false, eval l X.env)] := by rfl) :
    PI X (.Tuple es x1 tpos) (.Call (.Name "enumerate" p) [l] [] pos) (iEnum X.K ta) := by
  intro pins s σ H R I h
  refine Call_ (ld_blt I hg hm boot_enumerate (PyProof.Rows.callWith_type1 (thn (ha pos pins s σ H _ I h) fun us s1 ⟨vs, H1, I1, r1, q1⟩ => ?_) hs rfl))
  obtain ⟨a, e, ⟨xs, hq⟩, q⟩ := q1
  subst e
  cases r1 with
  | cons r rr =>
    cases rr
    cases r
    obtain ⟨its, rv, p, hz⟩ := I1.tuple hq
    refine call_enumT (show s1.heap.IsTuple a its.toArray from p) fun h' e1 e2 k => wpAny_pyIter_enum e1 ?_
    have I2 : Inv X pins σ H1 { s1 with heap := h' } := I1.kept (t' := s1.toks) k
    refine ⟨s1.heap.objs.size + 1, [s1.heap.objs.size + 1, s1.heap.objs.size], _, _, H1, rfl, I2, turn_enumT a _ _ (Nat.succ_ne_self _), ⟨⟨_, e1⟩, e2⟩, fun b hb => ?_, q⟩
    have hb' : s1.heap.objs.size ≤ b := by
      have z : b = s1.heap.objs.size + 1 ∨ b = s1.heap.objs.size := by simpa using hb
      rcases z with z | z
      · rw [z]; exact Nat.le_succ _
      · rw [z]; exact Nat.le_refl _
    exact I1.fpOk hb' (I1.hok.fresh hb')
theorem for_enum {K : PySem.W.Frag} {a : Addr} {xs : List V} {g : TG} {tb : TS} {D : Ends} {σ : St} {H : Hp} (Pv : Nat → St → Hp → Prop) (h0 : Pv 0 σ H) (hl : ∀ i σ H, i ≤ xs.length → Pv i σ H → SqT K H a xs)
    (hs : ∀ i x σ H p, xs[i]? = some x → Pv i σ H → H p = none → g (.ref p) σ (upd H p (.tup [.int i, x])) fun σ2 H2 => tb { D with nx := Pv (i + 1), ct := Pv (i + 1), bk := D.nx } σ2 H2) (hd : ∀ σ H, Pv xs.length σ H → D.nx σ H) :
    ∃ W : Nat → Nat → St → Hp → Prop, (∃ m, W 0 m σ H) ∧ ∀ i m σ H, W i m σ H →
      ((Ite K a).stop i H ∧ D.nx σ H) ∨ ((Ite K a).go i H ∧ ∃ N : St → Hp → Prop, (∀ σ' H', N σ' H' → ∃ m', m' < m ∧ W (i + 1) m' σ' H') ∧ ∀ x H', (Ite K a).yld i H x H' → g x σ H' fun σ2 H2 => tb { D with nx := N, ct := N, bk := D.nx } σ2 H2) := by
  refine ⟨fun i m σ H => m = xs.length - i ∧ i ≤ xs.length ∧ Pv i σ H, ⟨xs.length, by simp, Nat.zero_le _, h0⟩, ?_⟩
  rintro i m σ H ⟨rfl, hi, p⟩
  have q := hl i σ H hi p
  by_cases hlt : i < xs.length
  · refine .inr ⟨⟨xs, xs[i], q, by simp [hlt]⟩, Pv (i + 1), fun σ' H' p' => ⟨xs.length - (i + 1), by omega, rfl, hlt, p'⟩, fun x H' y => ?_⟩
    obtain ⟨pp, yv, rfl, e2, rfl, y⟩ := y
    exact hs i yv σ _ pp (y xs q) p e2
  · have e : i = xs.length := by omega
    subst e
    exact .inl ⟨⟨xs, q, Nat.le_refl _⟩, hd σ H p⟩
end
end L2
/-! defs that raise, as callers know them -/
namespace L2
open PySem PySem.Spec PyProof.Rows
theorem bt_ValueError : bootBuiltins "ValueError" = some (.type "ValueError") := by decide +kernel
structure CalX (P : Program) (w : World) (K : PySem.W.Frag) (mg : Str → Option Value) (base : Heap) (k : Nat) (x : Str) (ps : List Str) (sp : Sp) : Prop where
  ex : ∃ (f : Addr) (fd : FuncData), FnOk P w K mg base (CX1 P w) k f fd ps sp ∧ Binds K fd ps [] ∧ PySem.W.keepIn K (.ref f) = true ∧ mg x = some (.ref f)
section
variable {P : Program} {w : World} {K : PySem.W.Frag} {mg : Str → Option Value} {base : Heap} {k : Nat} {x : Str} {st : Stmt} {ps : List Str} {sp : Sp}
theorem Def.calx (d : Def K mg x st ps) (F : ∀ (f : Addr) (fd : FuncData), Fun K x x st f fd → FnOk P w K mg base (CX1 P w) k f fd ps sp) : CalX P w K mg base k x ps sp := by
  obtain ⟨f, fd, h1, h2, h3⟩ := d.ex
  exact ⟨f, fd, F f fd h1, .all h2, h1.kp, h3⟩
/-- where it is known that it does not raise -/
theorem CalX.cal {sp' : Sp} (c : CalX P w K mg base k x ps sp) (h : ∀ vs H Q E, sp' vs H Q E → sp vs H Q E0) : Cal P w K mg base k x ps sp' := by
  obtain ⟨f, fd, F, B, kp, m⟩ := c.ex
  refine ⟨f, fd, ⟨fun vs H Q E q => F.len vs H Q E0 (h vs H Q E q), fun A outer s H args us vs Q E hr he hb hv hs => codeAny_mono (F.run A outer s H args us vs Q E0 hr he hb hv (h _ _ _ _ hs)) fun r s' q => ?_⟩, B, kp, m⟩
  cases r with
  | error e =>
    obtain ⟨_, _, _, _, _, _, _, z⟩ := (show CX1 P w outer H s E0 e s' from q)
    exact z.elim
  | ok fl =>
    cases fl with
    | ret u => exact q
    | next => exact q
    | brk => exact q
    | cont => exact q
theorem Fun.okx {qual : Str} {f : Addr} {fd : FuncData} {N : List Str} (F : Fun K x qual st f fd) (S : FnScope N ps (defScope st)) (len : ∀ vs H Q E, sp vs H Q E → vs.length = ps.length)
    (hbody : ∀ (cdv : Value) (A : Around) (outer : List Env) (s : Shared) (H : Hp) (vs : List V) (Q : VK) (E : XK), Room k (A.deeper (envOfC qual (defScope st) s.heap.objs.size f cdv)) → sp vs H Q E →
      ∃ t, PSs (cxOf (CX1 P w) P w K mg base N qual (defScope st) f cdv A outer s H E) (defBody st) t ∧ t { nx := fun _ H' => Q .non H', rt := Q } (start N vs) H) : FnOk P w K mg base (CX1 P w) (k + 1) f fd ps sp := by
  obtain ⟨oc, od, kV, doc, pm, an, cdv, ct, osl, rfl, lk, hcd⟩ := F.ex
  exact fn_of lk hcd S len fun A outer s H vs Q E hr hsp => hbody cdv A outer s H vs Q E hr hsp
theorem lv_of {N : List Str} {qual : Str} {sc : Scope} {f : Addr} {cd : Value} {A : Around} {outer : List Env} {s : Shared} {H : Hp} {E : XK} : Lv (cxOf (CX1 P w) P w K mg base N qual sc f cd A outer s H E) E := ⟨rfl, rfl, rfl, rfl, rfl⟩
end
section
variable {X : Cx} {E : XK} {x : Str} {C : Addr} {e : Expr} {es : List Expr} {t : TA} {np cpos pos : Pos}
abbrev bmVE : List Value := [.type "ValueError", .type "Exception", .type "BaseException", .type "object"]
theorem ps_raiseK (l : Lv X E) (m : X.mg x = some (.ref C)) (q : PySem.W.excIn X.K C bmVE "ValueError.__new__" = true) (hg : Gl X x) (ha : PA X (e :: es) t) (hdb : (x == ("__debug__" : Str)) = false := by decide)
    (he : starEach (e :: es) X.env = (false, eval e X.env) :: starEach es X.env := by rfl) (hpl : (backTo cpos (starEach es X.env)).any (·.1) = false := by rfl) :
    PS X (.Raise (some (.Call (.Name x np) (e :: es) [] cpos)) none pos) (tRaise C E t) := fun pins s σ H D I h =>
  ps_raise l PySem.F.excBase_ValueError (own_exc I.mod.kin m q) hg ha hdb he hpl pins s σ H D I h
variable {k i : Nat} {C2 : Addr} {ps : List Str} {sp : Sp} {fx cx n : Str} {p p2 epos hpos : Pos} {b₀ : Stmt} {suite : List Stmt} {u : TS}
end
end L2
/-! an own class of errors with an __init__ of its own: made, raised -/
namespace L2
open PySem PySem.Spec PyProof.Rows
/-- raise of a made exception that has no note yet -/
theorem raise_made {M : Model} {A : Around} {E : Value → Shared → Prop} {s : Shared} {env : Env} {x : Sem Value} {C : Addr} {Q : Flow → Shared → Prop} (hh : A.handled = none)
    (h : wpAny M A x (fun v s₁ => ∃ (e : Addr) (oe : Obj) (vs : Array Value), v = .ref e ∧ s₁.heap.get? e = some oe ∧ oe.data = .fields vs ∧ vs[1]? = some .none ∧ PySem.W.Looks M s₁.heap (isInstance (.ref e) (.type "BaseException")) true ∧
      PySem.W.Looks M s₁.heap (typeOf (.ref e)) (.ref C) ∧ PySem.W.Looks M s₁.heap (typeOf (.ref C)) (.type "type") ∧ E (.ref e) s₁) E s) :
    wpAny M A (raiseStmt env (some x) none) Q E s := by
  unfold raiseStmt
  refine wpAny_bind (wpAny_mono h (fun v s₁ h₁ => ?_) fun _ _ x => x)
  obtain ⟨e, ⟨oc, odd, odt, osl⟩, vs, rfl, he, hd, h1, L, L1, L2, hE⟩ := h₁
  obtain ⟨hp, g, d, tk, os⟩ := s₁
  simp only at hd
  subst hd
  repeat (first | with_reducible refine L.at ?_ | with_reducible refine L1.at ?_ | with_reducible refine L2.at ?_ | with_reducible refine wpAny_loadPart_at he ?_ | with_reducible refine wpAny_field he rfl h1 ?_ | wp_step)
  exact wpAny_raiseNew_none hh hE
theorem ns_some_of {K : PySem.W.Frag} {h : Heap} {N : Addr} {m : Str → Option Value} {n : Str} {v : Value} (KX : K.In h) (G : h.Ns N m) (e : PySem.W.nsIn K N n = some (some v)) : m n = some v := by
  obtain ⟨o, es, ep, ho, hd, _, hf⟩ := G
  unfold PySem.W.nsIn at e
  split at e
  case h_2 => cases e
  rename_i c d es' n' sl q
  have z := KX _ _ q
  rw [ho] at z
  cases z
  cases hd
  split at e
  · rename_i en he
    cases e
    rw [← hf]
    unfold nsFind findBy
    rw [← Array.find?_toList, he]
    rfl
  · split at e <;> cases e
/-- the class at C over ValueError's line, its __init__ the def at f -/
def excInI (K : PySem.W.Frag) (C : Addr) (tl : List Value) (nw : String) (f : Addr) : Bool := match K.lookup C with
  | some ⟨.type "type", _, .cls cd, sl⟩ => (match cd.mro, sl.toList with
    | .ref C2 :: bm, [_, _, _, _, some (.builtin n), _] => (C2 == C) && (n == nw) && !cd.hasDel && PySem.W.tailIn K tl bm && PySem.W.nsOkIn K cd.ns && (PySem.W.nsIn K cd.ns "__init__" == some (some (.ref f))) && PySem.W.isFn K (.ref f)
    | _, _ => false)
  | _ => false
theorem own_excI {K : PySem.W.Frag} {h : Heap} {C f : Addr} {tl : List Value} {nw : String} (KX : K.In h) (q : excInI K C tl nw f = true) :
    ∃ bm N nm qn bs hdct sn sub ab col dd k0 k1 k2 k3 k5 mN, h.get? C = some (excClassObj nm qn C N bs bm hdct sn sub ab col dd k0 k1 k2 k3 k5 nw) ∧ h.Ns N mN ∧ mN "__init__" = some (.ref f) ∧ OwnTail h tl bm ∧ PySem.W.isFn K (.ref f) = true := by
  unfold excInI at q
  split at q
  case h_2 => cases q
  rename_i dd cd sl lk
  split at q
  case h_2 => cases q
  rename_i c2 bm k0 k1 k2 k3 nm k5 hm hs
  simp only [Bool.and_eq_true, beq_iff_eq, Bool.not_eq_true'] at q
  obtain ⟨⟨⟨⟨⟨⟨q1, q2⟩, q3⟩, q4⟩, q5⟩, q6⟩, q7⟩ := q
  subst q1 q2
  obtain ⟨a1, a2, a3, a4, a5, a6, a7, a8, a9, a10, a11⟩ := cd
  simp only at hm q3 q5 q6
  subst hm q3
  have z : sl = #[k0, k1, k2, k3, some (.builtin nm), k5] := Array.ext' hs
  subst z
  have G : h.Ns a4 _ := .of_isNs (PySem.W.isNs_of_in KX q5)
  exact ⟨_, a4, _, _, _, _, _, _, _, _, _, _, _, _, _, _, _, KX _ _ lk, G, ns_some_of KX G q6, PySem.W.tail_of_in KX q4, q7⟩
section
variable {prog : Program} {w : World} {A : Around} {E : Value → Shared → Prop} {h : Heap} {g : Array GenState} {d : Drawn} {t : Nat} {os : OsState}
variable {nm qn : Str} {C N : Addr} {bs bm tl : List Value} {hdct : Bool} {sn : List Str} {sub : List Value} {ab : Bool} {col : Option Bool} {dd : Option Addr} {k0 k1 k2 k3 k5 : Option Value} {B nw it : String}
theorem type_call_init (F : ExcBaseFacts B nw it tl) (T : OwnTail h tl bm) {mN : Str → Option Value} {us : List Value} {fI : Addr} {oI : Obj} {Q : Fin → Shared → Prop}
    (hC : h.get? C = some (excClassObj nm qn C N bs bm hdct sn sub ab col dd k0 k1 k2 k3 k5 nw)) (hn : h.Ns N mN) (hi : mN "__init__" = some (.ref fI)) (hf : h.get? fI = some oI) (hfc : oI.cls = .type "function")
    (k : ∀ h' e, Heap.MadeExcOf h h' e (.ref C) us → wpAny (model prog w) A (call (.ref fI) (.ref e :: us)) (fun r s' => r = .none ∧ Q (.done (.ret (.ref e))) s') E ⟨h', g, d, t, os⟩) (hz : us.length ≤ sizeLine) :
    wpAny (model prog w) A (Builtin.«type.__call__» ⟨.ref C :: us, []⟩) Q E ⟨h, g, d, t, os⟩ := by
  repeat (first | with_reducible refine wpAny_loadPart_at hC ?_ | with_reducible refine wpAny_madeBy_exc hC ?_ | wp_step)
  refine codeAny_call_builtin_code (Code.quiet_builtin _ F.quiet) (wpAny_check_new_subT F T hC (codeAny_exc_new_subT F T hC ?_ hz))
  show wpAny _ _ _ _ _ _
  generalize ho1 : ({ cls := .type "tuple", data := .seq us.toArray } : Obj) = o1
  generalize ho2 : ({ cls := .ref C, data := .fields #[.ref h.objs.size, .none, .none, .none, .bool false, .none] } : Obj) = o2
  have up : ∀ b o, h.get? b = some o → ((h.push o1).push o2).get? b = some o := fun b o e => Heap.get?_push_of_some _ (Heap.get?_push_of_some _ e)
  have f1 : o1.isFreed = false := by rw [← ho1]; rfl
  have f2 : o2.isFreed = false := by rw [← ho2]; rfl
  have z1 : (h.push o1).objs.size = h.objs.size + 1 := Heap.size_push ..
  have g2 : ((h.push o1).push o2).get? (h.objs.size + 1) = some o2 := by
    have := Heap.get?_push_size (h.push o1) (o := o2) f2
    rwa [z1] at this
  have g1 : ((h.push o1).push o2).get? h.objs.size = some o1 := Heap.get?_push_of_some _ (Heap.get?_push_size _ f1)
  have c2 : o2.cls = .ref C := by rw [← ho2]
  have hC1 := up _ _ hC
  have hn1 : ((h.push o1).push o2).Ns N mN := let ⟨o, es, ep, e, r⟩ := hn; ⟨o, es, ep, up _ _ e, r⟩
  have hcC : (Value.ref C :: bm).contains (.ref C) = true := by simp
  have T1 := T.keeps up
  unfold isInstance
  repeat (first | (with_reducible refine wpAny_loadPart_at g2 ?_; rw [c2]) | (with_reducible refine wpAny_isSubtype_exc hC1 ?_; rw [hcC]) | wp_step)
  show wpAny _ _ (typeLookup (.ref C) _) _ _ _
  refine wpAny_typeLookup_tail hC1 hn1 T1 F.mroIs F.init.lookup ?_
  rw [hi]
  refine wpAny_holding (wpAny_bind ?_)
  unfold bindSpecial
  refine wpAny_bind (wpAny_typeOf (T := "function") ⟨_, up _ _ hf, hfc⟩ ?_)
  rw [if_pos (by decide)]
  refine wpAny_pure (wpAny_bind (wpAny_mono (k _ (h.objs.size + 1) ⟨up, Heap.get?_none_of_le (Nat.le_succ _), h.objs.size, by rw [g2, ← ho2], Heap.get?_none_of_le (Nat.le_refl _), by rw [g1, ← ho1]⟩) (fun r s' hr => ?_) fun _ _ x => x))
  obtain ⟨rfl, hQ⟩ := hr
  wp_walk
  exact hQ
theorem call_init (F : ExcBaseFacts B nw it tl) (T : OwnTail h tl bm) {mN : Str → Option Value} {us : List Value} {fI : Addr} {oI : Obj} {Q : Value → Shared → Prop}
    (hC : h.get? C = some (excClassObj nm qn C N bs bm hdct sn sub ab col dd k0 k1 k2 k3 k5 nw)) (hn : h.Ns N mN) (hi : mN "__init__" = some (.ref fI)) (hf : h.get? fI = some oI) (hfc : oI.cls = .type "function")
    (k : ∀ h' e, Heap.MadeExcOf h h' e (.ref C) us → wpAny (model prog w) (A.under (.builtin "type.__call__" ⟨.ref C :: us, []⟩)) (call (.ref fI) (.ref e :: us)) (fun r s' => r = .none ∧ Q (.ref e) s') E ⟨h', g, d, t, os⟩) (hz : us.length ≤ sizeLine) :
    wpAny (model prog w) A (call (.ref C) us) Q E ⟨h, g, d, t, os⟩ := by
  have y1 := tc_lookup
  have y2 := tc_bind (.ref C)
  have ty : (⟨h, g, d, t, os⟩ : Shared).TypeIs (.ref C) "type" := ⟨_, hC, rfl⟩
  refine wpAny_call (codeAny_of_tree ?_)
  show wpAny _ _ (callAny (.ref C) _) _ _ _
  repeat (any_goals (first | assumption | with_reducible refine wpAny_loadPart_at hC ?_ | wp_step))
  refine ⟨rfl, codeAny_call_builtin_at (Code.quiet_builtin _ (by decide +kernel)) entry_typeCall (wpAny_check_type_call_sub hC (type_call_init F T hC hn hi hf hfc (fun h' e hm => ?_) hz))⟩
  exact k h' e hm
end
end L2
/-! raise C(..), C with an __init__ of its own -/
namespace L2
open PySem PySem.Spec PyProof.Rows
/-- an exception that is being made: no note yet -/
def ExcN (x : Addr) (cls : Value) (dd : Option Addr) : HO := .ext fun h => ∃ o vs, h.get? x = some o ∧ o.cls = cls ∧ o.dict = dd ∧ o.data = .fields vs ∧ vs[1]? = some .none ∧ vs.size = 6
def del (H : Hp) (x : Addr) : Hp := fun b => if b = x then none else H b
theorem del_same {H : Hp} {x : Addr} : del H x x = none := by unfold del; rw [if_pos rfl]
theorem del_ne {H : Hp} {x b : Addr} (h : b ≠ x) : del H x b = H b := by unfold del; rw [if_neg h]
theorem del_some {H : Hp} {x b : Addr} {o : HO} (h : del H x b = some o) : b ≠ x ∧ H b = some o := by
  by_cases z : b = x
  · rw [z, del_same] at h
    cases h
  · rw [del_ne z] at h
    exact ⟨z, h⟩
theorem excN_ok {P : Program} {w : World} {H : Hp} {h : Heap} {x : Addr} {cls : Value} {dd : Option Addr} (e : ∃ o vs, h.get? x = some o ∧ o.cls = cls ∧ o.dict = dd ∧ o.data = .fields vs ∧ vs[1]? = some .none ∧ vs.size = 6) : ObjOk P w H h x (ExcN x cls dd) := by
  refine ⟨e, ?_, fun h1 h2 ⟨o, us, z, r⟩ k => ⟨o, us, k o z, r⟩⟩
  obtain ⟨o, _, z, _⟩ := e
  exact ⟨o, z⟩
section
variable {P : Program} {w : World} {fs : List Addr} {H H' : Hp} {h0 h h' : Heap} {x : Addr} {o : HO}
theorem Un.untrack (u : Un fs [] (upd H x o) H' h h') (k : ∀ b ob, h0.get? b = some ob → h.get? b = some ob) (hx : h0.get? x = none) (hn : H x = none) : Un fs [] H (del H' x) h0 h' := by
  have nx : ∀ b ob, h0.get? b = some ob → b ≠ x := fun b ob q z => by rw [z, hx] at q; cases q
  have fr : ∀ b ob, h0.get? b = some ob → H b = none → upd H x o b = none := fun b ob q m => by rw [upd_ne (nx b ob q)]; exact m
  refine ⟨fun b ob q m a c => u.keep b ob (k b ob q) (fr b ob q m) a c, fun b ob q m a c => u.slot b ob (k b ob q) (fr b ob q m) a c, fun b ob q m c => ?_, fun b ob q c => u.there b ob (k b ob q) c, fun b xs q => ?_, fun b ob v q => ?_, fun b ps q => ?_⟩
  · rw [del_ne (nx b ob q)]
    exact u.free b ob (k b ob q) (fr b ob q m) c
  · rw [del_ne (ne_of_none q hn)]
    exact u.tups b xs (by rw [upd_ne (ne_of_none q hn)]; exact q)
  · rw [del_ne (ne_of_none q hn)]
    exact u.frzs b ob v (by rw [upd_ne (ne_of_none q hn)]; exact q)
  · rw [del_ne (ne_of_none q hn)]
    exact u.tbls b ps (by rw [upd_ne (ne_of_none q hn)]; exact q)
theorem HOk.untrack {φ : Heap → Prop} (k : HOk P w H h) (e : H x = some (.ext φ)) : HOk P w (del H x) h := fun b u q => by
  obtain ⟨z, q'⟩ := del_some q
  refine (k b u q').stay (fun c v _ r => r) (fun c r => ?_) fun c xs r => ?_
  · rw [del_ne (ne_of r e (by intro y; cases y))]
    exact r
  · rw [del_ne (ne_of r e (by intro y; cases y))]
    exact r
end
section
variable {X : Cx} {E : XK} {x : Str} {C f : Addr} {fd : FuncData} {ps : List Str} {sp : Sp} {k : Nat} {e : Expr} {es : List Expr} {t : TA} {np cpos pos : Pos}
def tRaiseI (C : Addr) (sp : Sp) (E : XK) (t : TA) : TS := fun _ σ H => t σ H fun vs H1 => vs.length ≤ sizeLine ∧ ∀ ex, H1 ex = none →
  sp (.ref ex :: vs) (upd H1 ex (ExcN ex (.ref C) none)) (fun v H2 => v = .non ∧ ∃ dd, H2 ex = some (ExcN ex (.ref C) dd) ∧ E (.ref C) dd (del H2 ex)) E0
theorem ps_raiseI (l : Lv X E) (m : X.mg x = some (.ref C)) (q : excInI X.K C bmVE "ValueError.__new__" f = true) (sb : PySem.W.subIn X.K (.ref C) (.type "BaseException") = some true) (F : FnOk X.prog X.w X.K X.mg X.base CX0 k f fd ps sp) (hr : Room (k + 1) X.A) (hb : Binds X.K fd ps [])
    (hg : Gl X x) (ha : PA X (e :: es) t) (hdb : (x == ("__debug__" : Str)) = false := by decide)
    (he : starEach (e :: es) X.env = (false, eval e X.env) :: starEach es X.env := by rfl) (hpl : (backTo cpos (starEach es X.env)).any (·.1) = false := by rfl) :
    PS X (.Raise (some (.Call (.Name x np) (e :: es) [] cpos)) none pos) (tRaiseI C sp E t) := by
  intro pins s σ H D I h
  obtain ⟨bm, N, nm, qn, bs, hdct, sn, sub, ab, col, dd, k0, k1, k2, k3, k5, mN, hC, hN, hni, T, hfn⟩ := own_excI I.mod.kin q
  have hp2 : (backTo cpos (starEach (e :: es) X.env)).any (·.1) = false := by
    rw [he]
    show (false || (backTo cpos (starEach es X.env)).any (·.1)) = false
    rw [hpl]
    rfl
  rw [arm_exec_Raise]
  refine wpAny_bind (wpAny_standAt (raise_made (C := C) (I.ok.hd l.calm) ?_))
  refine wpAny_bind (wpAny_mono (wpAny_Call_ofName (ld_glob I hg m ?_ hdb)) (fun v s₃ h₃ => wpAny_bind (wpAny_standAt (wpAny_pure h₃))) fun _ _ y => y)
  unfold callWith
  have h0 := ha cpos pins s σ H _ I h
  rw [he] at h0
  have h0' : wpAny (model X.prog X.w) X.A (evalArgs (.ref C) true (backTo cpos (starEach (e :: es) X.env)) []) (fun a s2 => ∃ us, a = ⟨us, []⟩ ∧ AP X pins σ (fun vs H1 => vs.length ≤ sizeLine ∧ ∀ ex, H1 ex = none →
      sp (.ref ex :: vs) (upd H1 ex (ExcN ex (.ref C) none)) (fun v H2 => v = .non ∧ ∃ dd, H2 ex = some (ExcN ex (.ref C) dd) ∧ E (.ref C) dd (del H2 ex)) E0) us s2) X.xe s := by
    rw [he]
    exact Calls.evalArgs_plain (thn h0 fun us s2 z => ⟨us, rfl, z⟩)
  refine wpAny_bind (wpAny_holding (wpAny_mono h0' (fun a s2 h2 => wpAny_bind (wpAny_standAt ?_)) fun _ _ y => y))
  obtain ⟨us, rfl, vs, H1, I1, r, q1, q2⟩ := h2
  obtain ⟨hp, g, d, tk, os⟩ := s2
  simp only [hp2]
  have C1 := I1.bk _ _ hC
  refine wpAny_bind (wpAny_keeperOf_exc C1 ?_)
  obtain ⟨oF, lF, cF⟩ : ∃ oF, X.base.get? f = some oF ∧ oF.cls = .type "function" := by
    have z : PySem.W.typeIn X.K (.ref f) = some (.type "function") := beq_iff_eq.mp hfn
    obtain ⟨o, lo, co⟩ := Option.map_eq_some_iff.mp (show (X.K.lookup f).map (·.cls) = some (.type "function") from z)
    exact ⟨o, I.mod.kin _ _ lo, co⟩
  refine wpAny_bind (call_init PySem.F.excBase_ValueError (T.keeps I1.bk) C1 (hN.keeps I1.bk) hni (I1.bk _ _ lF) cF (fun h' ex hm => ?_) (by show us.length ≤ sizeLine; rw [← r.length]; exact q1))
  have nf := I1.newFree hm.new
  obtain ⟨tp, g1, _, _⟩ := hm.there
  have I2 : Inv X pins σ (upd H1 ex (ExcN ex (.ref C) none)) ⟨h', g, d, tk, os⟩ :=
    I1.un (h' := h') (t' := tk) (Un.track (Un.kept hm.keeps) hm.new nf) (HOk.track (I1.hok.kept hm.keeps) nf (excN_ok ⟨_, _, g1, rfl, rfl, rfl, rfl, rfl⟩))
  have hq := q2 ex nf
  have hl : (Value.ref ex :: us).length = ps.length := by
    have z := F.len _ _ _ _ hq
    rw [List.length_cons] at z ⊢
    rw [← r.length]
    exact z
  have hb' : BindsTo ⟨h', g, d, tk, os⟩ fd ⟨.ref ex :: us, []⟩ (ps.zip (.ref ex :: us)) := by
    have z := hb ⟨h', g, d, tk, os⟩ (.ref ex :: us) I2.kIn (by rw [List.append_nil]; exact hl)
    rwa [List.append_nil] at z
  refine wpAny_call (codeAny_mono (F.run _ X.stack _ _ ⟨.ref ex :: us, []⟩ (.ref ex :: us) (.ref ex :: vs) _ E0 (hr.make C us []) (I2.env0.make C us []) hb' (.cons rfl r) hq) fun res s4 hq' => ?_)
  cases res with
  | error ev => exact False.elim hq'
  | ok fl =>
    cases fl with
    | next => exact False.elim hq'
    | brk => exact False.elim hq'
    | cont => exact False.elim hq'
    | ret u =>
      obtain ⟨v, H4, os4, bare4, un4, hok4, rv, rfl, dd4, h4, hE⟩ := (show CE X.stack X.prog X.w _ _ _ u s4 from hq')
      cases (show u = Value.none from rv)
      refine ⟨rfl, wpAny_bind (wpAny_holding (wpAny_point (wpAny_pure ?_)))⟩
      obtain ⟨⟨oe, ws, y1, y2, y3, y4, y5, y6⟩, _⟩ := (show ObjOk X.prog X.w H4 s4.heap ex (ExcN ex (.ref C) dd4) from hok4 ex _ h4)
      have J : Inv X pins σ (del H4 ex) s4 := I1.call' (ch := []) os4 (un4.untrack hm.keeps hm.new nf) (hok4.untrack h4) bare4 fun b z => absurd z (by simp)
      have LT : PySem.W.Looks (model X.prog X.w) s4.heap (typeOf (.ref ex)) (.ref C) := by
        rw [← y2]
        exact (PySem.W.Looks.ld y1).andThen .now
      have LC : PySem.W.Looks (model X.prog X.w) s4.heap (typeOf (.ref C)) (.type "type") := (PySem.W.Looks.ld (J.bk _ _ hC)).andThen .now
      refine ⟨ex, oe, ws, rfl, y1, y4, y5, LT.andThen (PySem.W.looks_subIn J.kIn sb), LT, LC, ?_⟩
      rw [l.xe]
      have st := J.stack
      rw [l.stack] at st
      have hfr := J.ok.frames
      rw [l.stack] at hfr
      refine leaves J l.ex l.stack l.frame (fun Q hQ => ?_) del_same (I1.newOld l.ex hm.new)
      rw [l.stack] at hQ
      refine note_first (n := s4.heap.objs.size) hfr st l.frame y1 y4 y5 (Nat.le_refl _) fun h'' fl ec => hQ _ _ _ h'' fl ec J.sz (fun b u z => J.hok.lt z) ?_
      rw [y2, y3]
      exact hE
end
end L2
/-! Base.__init__(self, ..) within the __init__ of an own class of errors -/
namespace L2
open PySem PySem.Spec PyProof.Rows
section
variable {prog : Program} {w : World} {A : Around} {E : Value → Shared → Prop} {s : Shared} {K : PySem.W.Frag} {L : Addr} {v : Value} {name : Str} {pl : Sem Bool}
theorem method_cls {Q : Value × List Value → Shared → Prop} (KX : K.In s.heap) (hr : PySem.W.readsIn K L (.type "type") = true) (tt : PySem.W.typeIn K (.ref L) = some (.type "type")) (e : PySem.W.findCls K (.ref L) (.type "type") name = some (.val v)) (hh : PySem.W.handedIn v = true)
    (h : Q (v, []) { s with toks := s.toks + 1 }) : wpAny (model prog w) A (getMethod (.ref L) name pl) Q E s := by
  have hg : PySem.W.findIn K (.type "type") "__getattribute__" = some (some (.builtin "type.__getattribute__")) := PySem.W.type_tga
  unfold getMethod specialOf
  refine wpAny_bind (wpAny_bind ((PySem.W.looks_typeIn KX tt).here ((PySem.W.looks_findIn KX hg).here ?_)))
  dsimp only
  rw [if_pos PySem.W.canon_tga]
  exact wpAny_bind (wpAny_mono (Q := fun y => Q (y, [])) (E := E) (PySem.W.cls_value KX hr e hh h) (fun _ _ z => wpAny_pure z) fun _ _ z => z)
end
section
variable {prog : Program} {w : World} {A : Around} {E : Value → Shared → Prop} {h : Heap} {g : Array GenState} {d : Drawn} {t : Nat} {os : OsState}
variable {nm qn : Str} {C N x : Addr} {bs bm tl : List Value} {hdct : Bool} {sn : List Str} {sub : List Value} {ab : Bool} {col : Option Bool} {dd : Option Addr} {k0 k1 k2 k3 k5 : Option Value} {B nw it : String}
theorem base_init (F : ExcBaseFacts B nw it tl) (T : OwnTail h tl bm) {us : List Value} {oe : Obj} {vs : Array Value} {Q : Value → Shared → Prop}
    (hC : h.get? C = some (excClassObj nm qn C N bs bm hdct sn sub ab col dd k0 k1 k2 k3 k5 nw)) (hx : h.get? x = some oe) (hc : oe.cls = .ref C) (hd : oe.data = .fields vs) (hz : vs.size = 6) (hu : us.length ≤ sizeLine)
    (k : ∀ h1, h1 = h.push { cls := .type "tuple", data := .seq us.toArray } → Q .none ⟨h1.update x (Obj.mapFields (·.setIfInBounds 0 (.ref h.objs.size))), g, d, t, os⟩) :
    wpAny (model prog w) A (call (.builtin it) (.ref x :: us)) Q E ⟨h, g, d, t, os⟩ := by
  refine wpAny_call (codeAny_call_builtin F.init.plain F.initEntry (wpAny_check_init_subT F T hC hx hc ?_))
  obtain ⟨oc, od, odt, osl⟩ := oe
  simp only at hc hd
  subst hc hd
  have hx1 := Heap.get?_push_of_some { cls := .type "tuple", data := .seq us.toArray } hx
  have h0 : 0 < vs.size := by omega
  unfold Builtin.«BaseException.__init__»
  simp only [List.isEmpty_nil, Bool.not_true, Bool.false_eq_true, if_false]
  refine wpAny_bind (wpAny_newTuple ?_ hu)
  refine wpAny_bind ?_
  unfold Builtin.BaseException.bexcPut
  obtain ⟨v0, e0⟩ : ∃ v0, vs[0]? = some v0 := ⟨_, Array.getElem?_eq_getElem h0⟩
  refine wpAny_bind (wpAny_field hx1 rfl e0 (wpAny_bind (wpAny_setField hx1 rfl h0 ?_)))
  have z := k _ rfl
  cases v0 <;> first | exact wpAny_letGo (wpAny_pure z) | exact wpAny_pure (wpAny_pure z) | (wp_walk; exact z)
end
section
variable {X : Cx} {cx : Str} {C L f : Addr} {e : Expr} {es : List Expr} {t : TA} {p apos pos : Pos} {pl : Sem Bool}
theorem upd_self {H : Hp} {a : Addr} {o : HO} (h : H a = some o) : upd H a o = H := by
  funext b
  by_cases z : b = a
  · rw [z, upd_same, h]
  · rw [upd_ne z]
def tInitB (C : Addr) (t : TA) : TE := fun σ H Q => t σ H fun vs H1 => ∃ x dd r, vs = .ref x :: r ∧ r.length ≤ 1000 ∧ H1 x = some (ExcN x (.ref C) dd) ∧ Q .non H1
theorem pe_initB (m : X.mg cx = some (.ref L)) (hg : Gl X cx) (hr : PySem.W.readsIn X.K L (.type "type") = true) (tt : PySem.W.typeIn X.K (.ref L) = some (.type "type")) (fc : PySem.W.findCls X.K (.ref L) (.type "type") "__init__" = some (.val (.builtin "ValueError.__init__")))
    (q : excInI X.K C bmVE "ValueError.__new__" f = true) (ha : PA X (e :: es) t) (hdb : (cx == ("__debug__" : Str)) = false := by decide)
    (hst : starEach (e :: es) X.env = (false, eval e X.env) :: starEach es X.env := by rfl) (hpl : (backTo pos (starEach es X.env)).any (·.1) = false := by rfl)
    (ht : eval (.Call (.Attribute (.Name cx p) "__init__" apos) (e :: es) [] pos) X.env = (do
      let ov ← eval (.Name cx p) X.env
      standAt apos.atName
      let (f, first) ← holding [ov] (getMethod ov "__init__" pl)
      callWith pos f first (backTo pos (starEach (e :: es) X.env)) (backToKw pos (keywordEach [] X.env))) := by rfl) :
    PE X (.Call (.Attribute (.Name cx p) "__init__" apos) (e :: es) [] pos) (tInitB C t) := by
  intro pins s σ H Q I h
  obtain ⟨bm, N, nm, qn, bs, hdct, sn, sub, ab, col, dd, k0, k1, k2, k3, k5, mN, hC, hN, hni, T, hfn⟩ := own_excI I.mod.kin q
  refine PySem.W.methodCall_KW (pl := pl) (ld_glob I hg m (method_cls I.kIn hr tt fc rfl ?_) hdb) ht
  have I0 := I.tok (s.toks + 1)
  have hA := ha pos pins _ σ H _ I0 h
  rw [hst] at hA ⊢
  refine Calls.callWith_builtin (by show (false || (backTo pos (starEach es X.env)).any (·.1)) = false; rw [hpl] <;> rfl) (Calls.evalArgs_plain (thn hA fun us s2 z => ?_))
  obtain ⟨vs, H1, I1, r, x, dd1, rr, rfl, hrl, ex, q1⟩ := z
  cases r with
  | cons r1 r2 =>
    cases r1
    rename_i us'
    obtain ⟨hp, g, d, tk, os⟩ := s2
    obtain ⟨⟨oe, ws, y1, y2, y3, y4, y5, y6⟩, _⟩ := (show ObjOk X.prog X.w H1 hp x (ExcN x (.ref C) dd1) from I1.hok x _ ex)
    refine base_init PySem.F.excBase_ValueError (T.keeps I1.bk) (I1.bk _ _ hC) y1 y2 y4 y6 (by rw [← Vals.length r2]; exact sz hrl) fun h1 e1 => ?_
    subst e1
    have J := I1.kept (t' := tk) (h' := hp.push { cls := .type "tuple", data := .seq us'.toArray }) fun b ob z => Heap.get?_push_of_some _ z
    have y1' := Heap.get?_push_of_some { cls := .type "tuple", data := .seq us'.toArray } y1
    have d3 := Obj.data_mapFields y4 (·.setIfInBounds 0 (Value.ref hp.objs.size))
    have g3 := Heap.get?_update_self (Obj.mapFields (·.setIfInBounds 0 (Value.ref hp.objs.size))) y1' (Obj.isFreed_of_fields d3)
    have J2 := J.write (x := x) (e := x) (o := ExcN x (.ref C) dd1) (t' := tk) (h' := (hp.push { cls := .type "tuple", data := .seq us'.toArray }).update x (Obj.mapFields (·.setIfInBounds 0 (Value.ref hp.objs.size)))) (by rw [ex]; exact True.intro) (.inl rfl)
      (fun b u m z => (Heap.get?_update_other _ _ (Ne.symm m)).trans z) ⟨_, g3⟩ (excN_ok ⟨_, _, g3, (Obj.cls_mapFields _ _).trans y2, (dict_mapF _ _).trans y3, d3, by rw [Array.getElem?_setIfInBounds_ne (by decide)]; exact y5, by simp [y6]⟩)
    rw [upd_self ex] at J2
    exact ⟨.non, H1, J2, rfl, q1⟩
end
end L2
/-! x.f = v and x.f of an exception -/
namespace L2
open PySem PySem.Spec PyProof.Rows
open PySem.Builtin.ObjectAttr in
theorem refuse_VE (self : Value) : refuseLoop self "__setattr__" bmVE = pure () := by kernel_rfl
theorem refuse_tail {h : Heap} {bm : List Value} (self : Value) (T : OwnTail h bmVE bm) : refuseLoop self "__setattr__" bm = pure () := by
  induction T with
  | base => exact refuse_VE self
  | own _ _ _ _ ih => rw [refuseLoop_ref]; exact ih
/-- a name that the class at C does not have and its things may have -/
structure XFld (K : PySem.W.Frag) (C : Addr) (f : Str) : Prop where
  sa : PySem.W.findIn K (.ref C) "__setattr__" = some (some (.builtin "object.__setattr__"))
  na : PySem.W.findIn K (.ref C) f = some none
  hd : PySem.W.hasDictIn K C = true
section
variable {prog : Program} {w : World} {A : Around} {E : Value → Shared → Prop} {s : Shared} {K : PySem.W.Frag} {x C fI : Addr} {oe : Obj} {vs : Array Value} {name : Str} {v : Value}
theorem exc_set {Q : Unit → Shared → Prop} (KX : K.In s.heap) (q : excInI K C bmVE "ValueError.__new__" fI = true) (c : ECls K C) (n : XFld K C name) (hx : s.heap.get? x = some oe) (hc : oe.cls = .ref C) (hn : oe.dict = none) (hd : oe.data = .fields vs)
    (k : ∀ h' tk, h'.Ns1 s.heap.objs.size (fun y => if y = name then some v else none) → h'.get? x = some { oe with dict := some s.heap.objs.size } → (∀ b o, b ≠ x → s.heap.get? b = some o → h'.get? b = some o) → Q () { s with heap := h', toks := tk }) :
    wpAny (model prog w) A (setAttr (.ref x) name v) Q E s := by
  obtain ⟨bm, N, nm, qn, bs, hdct, sn, sub, ab, col, dd, k0, k1, k2, k3, k5, mN, hC, hN, hni, T, hfn⟩ := own_excI KX q
  obtain ⟨oc, od, odt, osl⟩ := oe
  simp only at hc hn hd
  subst hc hn hd
  have J : PySem.W.InstAt s.heap x ⟨.ref C, none, .fields vs, osl⟩ C none := ⟨hx, rfl, rfl, True.intro⟩
  have SF := PySem.F.store_object
  have sub : PySem.W.Looks (model prog w) s.heap (isInstance (.ref x) (.type "object")) true := J.type.andThen (PySem.W.looks_mroIn KX c.mr)
  refine PySem.W.set_plain KX J n.sa ?_
  refine codeAny_call_builtin SF.slot.plain SF.entry ?_
  refine @PySem.W.check_slot (model prog w) _ _ { s with toks := s.toks + 1 } "object.__setattr__" "object" "__setattr__" (.ref x) [.str name s.toks, v] [] _ SF.kind SF.split sub (SF.args (.ref x) (.str name s.toks) v) ?_
  rw [PySem.W.osa_eq, refuse_eq]
  have LT := J.type (M := model prog w)
  refine wpAny_bind (wpAny_bind (PySem.W.Looks.here (s := { s with toks := s.toks + 1 }) LT (wpAny_bind (wpAny_mroOf_exc hC ?_))))
  rw [refuseLoop_ref, refuse_tail _ T]
  refine wpAny_pure (wpAny_bind (PySem.W.Looks.here (s := { s with toks := s.toks + 1 }) LT (wpAny_bind (PySem.W.Looks.here (s := { s with toks := s.toks + 1 }) (PySem.W.looks_findIn KX n.na) (wpAny_bind (wpAny_pure ?_))))))
  obtain ⟨cd, hcd, hdd⟩ := PySem.W.any_some n.hd
  show wpAny _ _ (Builtin.ObjectAttr.storeInOwnDict (.ref x) (.ref C) (.str name s.toks) name v false) _ _ _
  refine wpAny_bind (wpAny_pure (wpAny_bind (wpAny_bind (wpAny_loadPart hx (wpAny_bind (PySem.W.Looks.here (s := { s with toks := s.toks + 1 }) (PySem.W.looks_clsIn KX hcd) ?_))))))
  rw [hdd]
  have x1 := Heap.get?_push_of_some { cls := .type "dict", data := .dict #[] } hx
  have xs : x ≠ s.heap.objs.size := Nat.ne_of_lt (Heap.lt_size hx)
  refine wpAny_bind (wpAny_alloc ?_)
  refine wpAny_bind (wpAny_update x1 ?_)
  refine wpAny_pure ?_
  generalize hu : ((s.heap.push { cls := .type "dict", data := .dict #[] }).update x fun o => { o with dict := some s.heap.objs.size }) = h2
  have g2 : h2.get? s.heap.objs.size = some { cls := .type "dict", data := .dict #[] } := by
    rw [← hu]
    exact (Heap.get?_update_other _ _ xs).trans (Heap.get?_push_size _ rfl)
  have gx : h2.get? x = some ⟨.ref C, some s.heap.objs.size, .fields vs, osl⟩ := by
    rw [← hu]
    exact Heap.get?_update_self _ x1 rfl
  have go : ∀ b o, b ≠ x → s.heap.get? b = some o → h2.get? b = some o := fun b o m z => by
    rw [← hu]
    exact (Heap.get?_update_other _ _ (Ne.symm m)).trans (Heap.get?_push_of_some _ z)
  have nd : h2.Ns s.heap.objs.size (fun _ => none) := ⟨_, #[], _, g2, rfl, (fun e he => absurd he (by simp)), fun _ => rfl⟩
  show wpAny _ _ (Builtin.ObjectAttr.storeInDict s.heap.objs.size (.str name s.toks) name v) _ _ _
  unfold Builtin.ObjectAttr.storeInDict Builtin.ObjectAttr.newKeyGuard
  refine wpAny_bind (wpAny_pure (wpAny_bind (wpAny_nsSet1 (Heap.Ns1.of_empty nd) fun h3 n3 s3 => ?_)))
  obtain ⟨o3, e3, p3, y1, y2, y3⟩ := n3.count (Within.cons name v Within.nil)
  refine wpAny_bind (wpAny_lookBehind y1 (by rw [y2]; exact pastItsLine_dict (Nat.le_trans y3 (by rw [List.length_cons, List.length_nil, sizeLine_eq]; omega))) (wpAny_pure ?_))
  exact k h3 _ n3 ((s3.2 x xs).trans gx) fun b o m z => (s3.2 b (Nat.ne_of_lt (Heap.lt_size z))).trans (go b o m z)
/-- the value that x keeps under the name -/
theorem exc_value {tok : Tok} {od : Obj} {ox : Obj} {Q : Fin → Shared → Prop} (KX : K.In s.heap) (n : XFld K C name) (I : PySem.W.InstAt s.heap x ox C (some od)) (hl : PySem.W.lookIn name od = some (some v)) (q : Q (.done (.ret v)) s) :
    wpAny (model prog w) A (Builtin.«object.__getattribute__» ⟨[.ref x, .str name tok], []⟩) Q E s := by
  have L0 := I.type (M := model prog w)
  have L1 := PySem.W.looks_find (M := model prog w) KX I (PySem.W.findObj_own n.hd n.na rfl hl)
  obtain ⟨hh, g, d, t, os⟩ := s
  repeat (any_goals (first | assumption | with_reducible refine L0.at ?_ | with_reducible refine L1.at ?_ | wp_step))
theorem exc_read {ox od : Obj} {ex : Bool} {Q : Value → Shared → Prop} (KX : K.In s.heap) (c : ECls K C) (n : XFld K C name) (I : PySem.W.InstAt s.heap x ox C (some od)) (hl : PySem.W.lookIn name od = some (some v)) (hv : PySem.W.handedIn v = true) (q : Q v { s with toks := s.toks + 1 }) :
    wpAny (model prog w) A (getAttr (.ref x) name ex) Q E s := by
  have L0 := I.type (M := model prog w)
  have L1 := PySem.W.looks_findIn (M := model prog w) KX c.ga
  have L2 := PySem.W.looks_findIn (M := model prog w) KX c.gh
  have f3 := F.attr_ValueError.ga.bind (.ref x)
  have f4 : (Value.builtin "BaseException.__getattribute__" == Value.builtin "object.__getattribute__") = false := by decide +kernel
  have f5 : (onTheHeap (Value.ref C) && Value.builtin "BaseException.__getattribute__" == Value.builtin "object.__getattribute__") = false := by rw [f4]; rfl
  have f6 : (ex && onTheHeap (Value.builtin "BaseException.__getattribute__")) = false := by cases ex <;> rfl
  have f7 : ∀ (A : Around) (R : Value → Shared → Prop) (E : Value → Shared → Prop), R v { s with toks := s.toks + 1 } → wpAny (model prog w) A (handedOut v) R E { s with toks := s.toks + 1 } := fun A R E r => PySem.W.handed_on hv r
  have cg : ∀ (A : Around) (tok : Tok) (R : Result → Shared → Prop), R (.ok (.ret v)) { s with toks := s.toks + 1 } → codeAny (model prog w) A (.call (.builtin "BaseException.__getattribute__") ⟨[.ref x, .str name tok], []⟩) R { s with toks := s.toks + 1 } := fun A tok R r =>
    codeAny_call_builtin F.attr_ValueError.ga.plain F.entry_bexc_ga (exc_check (s := { s with toks := s.toks + 1 }) c KX I (exc_value (s := { s with toks := s.toks + 1 }) KX n I hl r))
  obtain ⟨hh, g, d, t, os⟩ := s
  unfold getAttr
  repeat (any_goals (first | assumption | with_reducible refine L0.at ?_ | with_reducible refine L1.at ?_ | with_reducible refine L2.at ?_ | with_reducible refine f7 _ _ _ ?_ | wp_step))
  refine cg _ _ _ ?_
  repeat (any_goals (first | assumption | with_reducible refine f7 _ _ _ ?_ | wp_step))
end
end L2
/-! self.f = v within the __init__ of an own class of errors; e.f of a caught one -/
namespace L2
open PySem PySem.Spec PyProof.Rows
section
variable {X : Cx} {o e value : Expr} {ta tv : TE} {C fI : Addr} {f : Str} {pos pos' : Pos}
def sFldE (C : Addr) (ta tv : TE) (f : Str) : TS := fun D σ H => tv σ H fun y H1 => ta σ H1 fun xv H2 => ∃ x, xv = .ref x ∧ H2 x = some (ExcN x (.ref C) none) ∧
  ∀ d, H2 d = none → d ≠ x → D.nx σ (upd (upd H2 d (.xd [(f, y)])) x (ExcN x (.ref C) (some d)))
theorem ps_fldE (q : excInI X.K C bmVE "ValueError.__new__" fI = true) (c : ECls X.K C) (n : XFld X.K C f) (ha : PE X o ta) (hv : PE X value tv) (hs : swapsWith value (some (.Attribute o f pos')) pos.line X.env = pure false := by rfl) :
    PS X (.Assign [.Attribute o f pos'] value pos) (sFldE C ta tv f) := by
  intro pins s σ H D I h
  refine plainObj_wpAny_Assign_Attribute (thn (hv pins s σ H _ I h) fun u s1 ⟨y, H1, I1, ry, q1⟩ => thn (ha pins s1 σ H1 _ I1 q1) fun ov s2 ⟨xv, H2, I2, rx, x, ex, hx, k⟩ => ?_) hs
  subst ex
  cases (show ov = Value.ref x from rx)
  obtain ⟨⟨oe, vs, y1, y2, y3, y4, y5, y6⟩, _⟩ := (show ObjOk X.prog X.w H2 s2.heap x (ExcN x (.ref C) none) from I2.hok x _ hx)
  refine exc_set I2.kIn q c n y1 y2 y3 y4 fun h' tk n' gx go => ?_
  have fr : H2 s2.heap.objs.size = none := I2.hok.fresh (Nat.le_refl _)
  have dx : s2.heap.objs.size ≠ x := Nat.ne_of_gt (Heap.lt_size y1)
  have nx : ∀ b, H2 b = none → b ≠ x := fun b z w' => by rw [w', hx] at z; cases z
  have nd : ∀ b ob, s2.heap.get? b = some ob → b ≠ s2.heap.objs.size := fun b ob z => Nat.ne_of_lt (Heap.lt_size z)
  have keepU : ∀ b (u : HO), H2 b = some u → b ≠ x → upd (upd H2 s2.heap.objs.size (.xd [(f, y)])) x (ExcN x (.ref C) (some s2.heap.objs.size)) b = some u := fun b u z m => by
    rw [upd_ne m, upd_ne (ne_of_none z fr)]
    exact z
  have un : Un X.fs [] H2 (upd (upd H2 s2.heap.objs.size (.xd [(f, y)])) x (ExcN x (.ref C) (some s2.heap.objs.size))) s2.heap h' := by
    refine ⟨fun b ob z m _ _ => go b ob (nx b m) z, fun b ob z m _ _ => ⟨ob.slots, go b ob (nx b m) z⟩, fun b ob z m _ => ?_, fun b ob z _ => ?_, fun b xs z => ?_, fun b ob v z => ?_, fun b ps z => ?_⟩
    · rw [upd_ne (nx b m), upd_ne (nd b ob z)]
      exact m
    · by_cases w' : b = x
      · rw [w']; exact ⟨_, gx⟩
      · exact ⟨ob, go b ob w' z⟩
    · exact keepU b _ z (ne_of z hx (by intro w'; cases w'))
    · exact keepU b _ z (ne_of z hx (by intro w'; cases w'))
    · exact ⟨#[], by rw [keepU b _ z (ne_of z hx (by intro w'; cases w'))]; simp⟩
  have hok : HOk X.prog X.w (upd (upd H2 s2.heap.objs.size (.xd [(f, y)])) x (ExcN x (.ref C) (some s2.heap.objs.size))) h' := fun b u z => by
    by_cases bx : b = x
    · subst bx
      rw [upd_same] at z
      cases z
      exact excN_ok ⟨_, vs, gx, y2, rfl, y4, y5, y6⟩
    · rw [upd_ne bx] at z
      by_cases bd : b = s2.heap.objs.size
      · subst bd
        rw [upd_same] at z
        cases z
        refine ⟨_, n', fun g => ?_⟩
        by_cases w' : g = f
        · subst w'
          simp only [List.lookup_cons, beq_self_eq_true, if_true]
          exact ry
        · have e1 : (g == f) = false := by simpa using w'
          simp only [List.lookup_cons, e1, List.lookup_nil, if_neg w']
          exact True.intro
      · rw [upd_ne bd] at z
        refine (I2.hok b u z).stay (fun c' v hc r => go c' v ?_ r) (fun c' r => keepU c' _ r (ne_of r hx (by intro w'; cases w'))) fun c' xs r => keepU c' _ r (ne_of r hx (by intro w'; cases w'))
        rcases hc with rfl | hc
        · exact bx
        · exact ne_of hc hx (by intro w'; cases w')
  exact ⟨σ, _, I2.un (t' := tk) un hok, k _ fr dx⟩
def tFldE (K : PySem.W.Frag) (ta : TE) (f : Str) : TE := fun σ H Q => ta σ H fun xv H1 => ∃ x C dx fs i, xv = .ref x ∧ ECls K C ∧ XFld K C f ∧ H1 x = some (ExcO x (.ref C) (some dx)) ∧ H1 dx = some (.xd fs) ∧ fs.lookup f = some (.int i) ∧ Q (.int i) H1
theorem pe_fldE {K : PySem.W.Frag} (hK : X.K = K) (he : PE X e ta) (hb : attributeBase e f X.env (eval e X.env) = eval e X.env := by rfl) : PE X (.Attribute e f pos) (tFldE K ta f) := by
  subst hK
  intro pins s σ H Q I h
  refine attr_of hb (thn (he pins s σ H _ I h) fun u s1 ⟨xv, H1, I1, rx, x, C, dx, fs, i, ex, c, n, hx, hd, hl, q⟩ => ?_)
  subst ex
  cases (show u = Value.ref x from rx)
  obtain ⟨⟨oe, vs, y1, y2, y3, y4⟩, _⟩ := (show ObjOk X.prog X.w H1 s1.heap x (ExcO x (.ref C) (some dx)) from I1.hok x _ hx)
  obtain ⟨mA, nA, rA⟩ := (show ObjOk X.prog X.w H1 s1.heap dx (.xd fs) from I1.hok dx _ hd)
  obtain ⟨od, ho, hlk⟩ := lookIn_ns nA
  have rf := rA f
  rw [hl] at rf
  cases hm : mA f with
  | none => rw [hm] at rf; exact rf.elim
  | some v =>
    rw [hm] at rf
    obtain ⟨t, rfl⟩ := (show ∃ t, v = Value.int i t from rf)
    have no : PySem.W.notCls oe = true := by
      obtain ⟨a, b, c', d⟩ := oe
      simp only at y4
      subst y4
      rfl
    have J : PySem.W.InstAt s1.heap x oe C (some od) := ⟨y1, y2, no, by rw [y3]; exact ho⟩
    exact exc_read I1.kIn c n J (by rw [hlk, hm]) rfl ⟨.int i, H1, I1.tok _, ⟨t, rfl⟩, q⟩
end
end L2
/-! xs != ys of two lists of three truths -/
namespace L2
open PySem PySem.Spec PyProof.Rows
end L2
/-! my own rules over the layer: a list comprehension with one test -/
namespace L2
open PySem PySem.Spec PyProof.Rows
/-- the reading: as tComp's, and what passes the test alone is kept -/
def tCompIf (wi : TI) (tt : TT) (te : TE) (fr : List Nat) : TE := fun σ H Q => wi σ H fun J H1 => ∀ D, H1 D = none → ∃ W : Nat → Nat → List V → Hp → Prop, (∃ m, W 0 m [] (upd H1 D (.lst []))) ∧
  ∀ i m ys H2, W i m ys H2 → H2 D = some (.lst ys) ∧ ((J.stop i H2 ∧ Q (.ref D) H2) ∨ (J.go i H2 ∧ ys.length < sizeLine ∧ ∃ N : V → Hp → Prop, (∀ y H3, N y H3 → H3 D = some (.lst ys) ∧ ∃ m', m' < m ∧ W (i + 1) m' (ys ++ [y]) (upd H3 D (.lst (ys ++ [y])))) ∧
    ∀ x H', J.yld i H2 x H' → tt (some x :: fr.map fun j => (σ[j]?).getD none) H' fun b H3 => if b = true then te (some x :: fr.map fun j => (σ[j]?).getD none) H3 N else ∃ m', m' < m ∧ W (i + 1) m' ys H3))
section
variable {prog : Program} {w : World} {A : Around} {R : Result → Shared → Prop} {s : Shared}
abbrev nbOf (prog : Program) (w : World) (A : Around) (env : Env) (R : Result → Shared → Prop) : Value → Shared → Prop := notedBy (model prog w) A env fun e s' => R (.error e) s'
theorem compLoop_if {elt target iter cc : Expr} {scope : Scope} {pos : Pos} {it acc : Value} {env : Env} (I : Nat → Shared → Prop)
    (turn : ∀ n s, I n s → wpAny (model prog w) A (pyNext it) (fun r s₁ => match r with
      | none => R (.ok .next) s₁
      | some v => wpAny (model prog w) A (letOwnedTupleGo target it v) (fun _ s₁' => wpAny (model prog w) A (assign target env v) (fun _ s₂ => wpAny (model prog w) A (isTrue cc env (eval cc env)) (fun okb s₂' => if okb = true then
          wpAny (model prog w) A (eval elt env) (fun x s₃ => wpAny (model prog w) A (call (.builtin "list.append") [acc, x]) (fun _ s₄ => ∃ m, m < n ∧ I m s₄) (nbOf prog w A env R) s₃) (nbOf prog w A env R) s₂'
          else ∃ m, m < n ∧ I m s₂') (nbOf prog w A env R) s₂) (nbOf prog w A env R) s₁') (nbOf prog w A env R) s₁) (nbOf prog w A env R) s)
    (n : Nat) (h : I n s) :
    codeAny (model prog w) A (.compLoop (.ListComp elt [⟨target, iter, [cc], 0⟩] scope pos) 0 it acc env) R s := by
  refine codeAny_loop rfl I (fun n s hI => ?_) n h
  show wpAny _ _ ((compTurn (.ListComp elt [⟨target, iter, [cc], 0⟩] scope pos) 0 it acc env).onRaise (fun x => do noteFrame x env; theTreesLotGoes x)) _ _ s
  refine wpAny_noted ?_
  rw [compTurn_list]
  refine wpAny_bind (wpAny_standAt (wpAny_bind (wpAny_mono (turn n s hI) (fun r s₁ h₁ => ?_) fun _ _ h' => h')))
  cases r with
  | none => exact wpAny_pure h₁
  | some v =>
    refine wpAny_bind (wpAny_mono h₁ (fun _ s₁' h₁' => wpAny_bind (wpAny_mono h₁' (fun _ s₂ h₂ => wpAny_bind (wpAny_tests_one (wpAny_mono h₂ (fun okb s₂' h₂' => ?_) fun _ _ h' => h'))) fun _ _ h' => h')) fun _ _ h' => h')
    cases okb with
    | false => exact wpAny_pure ⟨rfl, h₂'⟩
    | true => exact wpAny_bind (wpAny_bind (wpAny_mono h₂' (fun x s₃ h₃ => wpAny_bind (wpAny_mono h₃ (fun _ s₄ h₄ => wpAny_pure (wpAny_pure ⟨rfl, h₄⟩)) fun _ _ h' => h')) fun _ _ h' => h'))
end
theorem comp_coreIf {X : Cx} {elt iter cc : Expr} {x : Str} {px pos : Pos} {scope sc0 : Scope} {cl : List (Str × Addr)} {cn N : List Str} {fr : List Nat} {tt : TT} {te : TE} {pins : List (Addr × Obj)} {σ : St} {H2 : Hp} {s2 : Shared} {it : Addr} {fp : List Addr}
    {tn : Nat → Heap → Prop} {J : It} {RR : Value → Addr → Result → Shared → Prop} {R : Hp → Prop} {E : Value → Shared → Prop} {W : Nat → Nat → List V → Hp → Prop} {m0 : Nat}
    (hc : X.calm = true) (he : ∀ (C : Addr) (s₂ : Shared) (H₂ : Hp) (fp : List Addr), PE (compCx X scope cl C x N s₂ H₂ fp) elt te) (hct : ∀ (C : Addr) (s₂ : Shared) (H₂ : Hp) (fp : List Addr), PT (compCx X scope cl C x N s₂ H₂ fp) cc tt)
    (hcl : CellsIn X.env cl) (hcn : cl.map (·.1) = cn) (hsc : X.env.scope = sc0) (hk : scope.kind = .function) (hok : CompOk scope sc0 x N cn) (hfr : fr.map (fun j => X.N[j]?) = N.map some)
    (I2 : Inv X pins σ H2 s2) (T : Turn X.prog X.w X.K (.Name x px) J fp it tn) (st2 : tn 0 s2.heap) (f2 : ∀ b ∈ fp, FpOk X pins H2 b)
    (w0 : W 0 m0 [] (upd H2 s2.heap.objs.size (.lst [])))
    (turn : ∀ i m ys H, W i m ys H → H s2.heap.objs.size = some (.lst ys) ∧ ((J.stop i H ∧ R H) ∨ (J.go i H ∧ ys.length < sizeLine ∧ ∃ N : V → Hp → Prop,
      (∀ y H3, N y H3 → H3 s2.heap.objs.size = some (.lst ys) ∧ ∃ m', m' < m ∧ W (i + 1) m' (ys ++ [y]) (upd H3 s2.heap.objs.size (.lst (ys ++ [y])))) ∧
      ∀ x H', J.yld i H x H' → tt (some x :: fr.map fun j => (σ[j]?).getD none) H' fun b H3 => if b = true then te (some x :: fr.map fun j => (σ[j]?).getD none) H3 N else ∃ m', m' < m ∧ W (i + 1) m' ys H3)))
    (hRR : ∀ (C : Addr) (H6 : Hp) (s6 : Shared) (m6 : Str → Option Value), s6.heap.Ns C m6 → Inv X pins σ H6 s6 → FpOk X pins H6 C → R H6 → RR (.ref s2.heap.objs.size) C (.ok .next) s6) :
    wpAny (model X.prog X.w) X.A (newList []) (fun acc s₃ => wpAny (model X.prog X.w) X.A (newFunctionEnv scope X.env.globals cl [] X.env.qual none .none (some X.env)) (fun cenv s₄ =>
      codeAny (model X.prog X.w) X.A (.compStart (.ListComp elt [⟨.Name x px, iter, [cc], 0⟩] scope pos) 0 (.ref it) acc { cenv with scope := relabel scope X.env }) (RR acc cenv.locals) s₄) E s₃) E s2 := by
  refine wpAny_newObj_type (wpAny_newFunctionEnv hok.nc (by intro y hy; simp at hy) (fun h4 hns hsb => ?_) hk)
  dsimp only at hns hsb ⊢
  have rel : ∀ y, (compEnvC scope cl 0 X.env).scope.names.lookup y = (relN scope sc0).lookup y := fun y => by
    show (relabel scope X.env).names.lookup y = _
    unfold relabel relN Env.kindOf
    rw [hsc]
  generalize hD : s2.heap.objs.size = D at *
  have I3 : Inv X pins σ (upd H2 D (.lst [])) { s2 with heap := s2.heap.push { cls := .type "list", dict := none, data := .seq ([] : List Value).toArray } } :=
    I2.laid (t' := s2.toks) (fun b u e => Heap.get?_push_of_some _ e) (Nat.le_of_eq hD) ⟨Nat.zero_le _, [], 0, .nil, by rw [← hD]; exact Heap.get?_push_size _ rfl⟩
  have k23 : ∀ b u, s2.heap.get? b = some u → (s2.heap.push { cls := .type "list", dict := none, data := .seq ([] : List Value).toArray }).get? b = some u := fun b u e => Heap.get?_push_of_some _ e
  have hsz : s2.heap.objs.size ≤ (s2.heap.push { cls := .type "list", dict := none, data := .seq ([] : List Value).toArray }).objs.size := by rw [Heap.size_push]; exact Nat.le_succ _
  generalize hh3 : s2.heap.push { cls := .type "list", dict := none, data := .seq ([] : List Value).toArray } = h3 at *
  have k34 : ∀ b u, h3.get? b = some u → h4.get? b = some u := fun b u e => (hsb.2 b (Nat.ne_of_lt (Heap.lt_size e))).trans (Heap.get?_push_of_some _ e)
  generalize hC : h3.objs.size = C at *
  have I4 : Inv X pins σ (upd H2 D (.lst [])) { s2 with heap := h4, toks := s2.toks + ([] : List (Str × Value)).length } := I3.kept (t' := s2.toks + 0) k34
  generalize hH3 : upd H2 D (.lst []) = H3 at *
  have ltC : ∀ b o, s2.heap.get? b = some o → b < C := fun b o e => Nat.lt_of_lt_of_le (Heap.lt_size e) hsz
  have lenF : fr.length = N.length := by simpa using congrArg List.length hfr
  have fpo : ∀ b ∈ fp, b ≠ C ∧ b ∉ frs X.stack := fun b hb => by
    obtain ⟨o, e, _⟩ := T.obj 0 s2.heap st2 b hb
    refine ⟨Nat.ne_of_lt (ltC b o e), fun z => ?_⟩
    obtain ⟨_, n1, n2, _⟩ := f2 b hb
    rcases List.mem_cons.mp (I2.stkSub b z) with q | q
    · exact n1 q
    · exact n2 q
  have H3C : H3 C = none := I3.hok.fresh (Nat.le_of_eq hC)
  have okX : (compCx X scope cl C x N { s2 with heap := h3 } H3 fp).Ok := by
    refine ⟨I2.ok.mod, hk, I2.ok.glob, I2.ok.blt, Nat.le_of_eq hC, fun y z c e1 e2 => I2.ok.inj y z c (hcl.look e1) (hcl.look e2), fun y hy => ?_, fun y c z => (Bool.false_ne_true z).elim, fun z => I2.ok.hd z, I2.ok.frames, .inl rfl,
      fun b hb => ⟨(fpo b hb).1, fun y c e => (f2 b hb).2.2.2.2.1 y c (hcl.look e)⟩, fun b o e => I3.bs b o e, Nat.le_trans I2.ok.bsz I3.sz, fun b o e hb => ?_, fun b hb => (fpo b hb).2, I3.stack, I3.stkFree⟩
    · have hy' : (relN scope sc0).lookup y = some .cell ∨ (relN scope sc0).lookup y = some .free := by
        rcases hy with hy | hy
        · exact .inl ((rel y).symm.trans hy)
        · exact .inr ((rel y).symm.trans hy)
      have hm : y ∈ cn := by
        rcases hy' with q | q
        · exact hok.has (y, .cell) (lookup_mem q) (.inl rfl)
        · exact hok.has (y, .free) (lookup_mem q) (.inr rfl)
      exact look_of_mem (cl := cl) (n := y) (by rw [hcn]; exact hm)
    · rcases (f2 b hb).2.2.2.1 with z | z
      · exact I2.ok.noex b o e z
      · exact absurd (Nat.lt_of_lt_of_le (Heap.lt_size e) (Nat.le_trans I2.ok.bsz z)) (Nat.lt_irrefl _)
  have I5 : Inv (compCx X scope cl C x N { s2 with heap := h3 } H3 fp) [] (none :: fr.map fun j => (σ[j]?).getD none) H3 { s2 with heap := h4, toks := s2.toks + ([] : List (Str × Value)).length } := by
    refine ⟨okX, rfl, I4.bare, Un.kept k34, ⟨_, hns, fun i y v e1 e2 e3 => ?_⟩, fun y c e => I4.cell y c (hcl.look e), H3C, fun y c e => I4.freeC y c (hcl.look e), fun p hp => absurd (show p ∈ ([] : List (Addr × Obj)) from hp) (by simp), I4.hok, by simp [compCx, lenF]⟩
    cases i with
    | zero => cases e2
    | succ j =>
      have e1' : N[j]? = some y := e1
      have e2' : (fr.map fun j => (σ[j]?).getD none)[j]? = some (some v) := e2
      obtain ⟨k, ek⟩ : ∃ k, fr[j]? = some k := by
        have : j < fr.length := by rw [lenF]; exact (List.getElem?_eq_some_iff.mp e1').1
        exact ⟨fr[j], List.getElem?_eq_getElem this⟩
      rw [List.getElem?_map, ek] at e2'
      have e2'' : (σ[k]?).getD none = some v := Option.some.inj e2'
      have eσ : σ[k]? = some (some v) := by
        cases q : σ[k]? with
        | none => rw [q] at e2''; cases e2''
        | some o => rw [q] at e2''; exact congrArg some e2''
      have eN : X.N[k]? = some y := by
        have z := congrArg (fun l => l[j]?) hfr
        simp only [List.getElem?_map, ek, e1', Option.map_some] at z
        exact Option.some.inj z
      obtain ⟨r1, r2, r3⟩ := hok.frs y (List.mem_of_getElem? e1')
      obtain ⟨m, _, hl⟩ := I4.loc
      obtain ⟨u, ru, look⟩ := hl k y v eN eσ (.inr (.inl (by rw [hsc]; exact r2)))
      refine ⟨u, ru, .inr ⟨.inl ((rel y).trans r1), ?_⟩⟩
      rcases look with ⟨l1, _⟩ | ⟨_, c, l1, l2⟩
      · exfalso
        have l1' : X.env.scope.names.lookup y = some .local := l1
        rw [hsc, r2] at l1'
        cases l1'
      · obtain ⟨c', l3⟩ := look_of_mem (cl := cl) (n := y) (by rw [hcn]; exact r3)
        have l4 := hcl.look l3
        rw [l1] at l4
        cases l4
        exact ⟨c, l3, l2⟩
  have st4 : tn 0 h4 := T.keep 0 s2.heap h4 st2 fun b hb o e => k34 b o (k23 b o e)
  have fp5 : ∀ {H' : Hp}, (∀ b ∈ fp, H' b = none) → ∀ b ∈ fp, FpOk (compCx X scope cl C x N { s2 with heap := h3 } H3 fp) [] H' b := fun hn b hb =>
    ⟨hn b hb, (fpo b hb).1, (fpo b hb).2, .inl hb, fun y c e => (f2 b hb).2.2.2.2.1 y c (hcl.look e), fun p hp => absurd (show p ∈ ([] : List (Addr × Obj)) from hp) (by simp)⟩
  have fr3 : ∀ b ∈ fp, H3 b = none := fun b hb => by
    obtain ⟨o, e, _⟩ := T.obj 0 s2.heap st2 b hb
    have : b ≠ D := Nat.ne_of_lt (hD ▸ Heap.lt_size e)
    rw [← hH3, upd_ne this]
    exact (f2 b hb).1
  have hx' : Loc (compCx X scope cl C x N { s2 with heap := h3 } H3 fp).env.scope x := .inl ((rel x).trans hok.hx')
  have fin : ∀ (H6 : Hp) (s6 : Shared) (σ6 : St), Inv (compCx X scope cl C x N { s2 with heap := h3 } H3 fp) [] σ6 H6 s6 → Inv X pins σ H6 s6 ∧ FpOk X pins H6 C := by
    intro H6 s6 σ6 I6
    refine ⟨I3.call' (s' := s6) (ch := fp) I6.os ⟨I6.base.keep, I6.base.slot, I6.base.free, I6.base.there, I6.base.tups, I6.base.frzs, I6.base.tbls⟩ I6.hok I6.bare (fun b hb => ?_), I3.fpOk (Nat.le_of_eq hC) I6.free⟩
    obtain ⟨_, n1, _, n3, n4, n5⟩ := f2 b hb
    exact ⟨n3, n1, n4, n5⟩
  have loop : codeAny (model X.prog X.w) X.A (.compLoop (.ListComp elt [⟨.Name x px, iter, [cc], 0⟩] scope pos) 0 (.ref it) (.ref D) (compEnvC scope cl C X.env))
      (RR (.ref D) C) { s2 with heap := h4, toks := s2.toks + ([] : List (Str × Value)).length } := by
    refine compLoop_if (fun n s' => ∃ i v0 ys H', Inv (compCx X scope cl C x N { s2 with heap := h3 } H3 fp) [] (v0 :: fr.map fun j => (σ[j]?).getD none) H' s' ∧ tn i s'.heap ∧ (∀ b ∈ fp, H' b = none) ∧ W i n ys H') ?_ m0
      ⟨0, none, [], H3, I5, st4, fr3, w0⟩
    rintro n s6 ⟨i, v0, ys, H6, I6, st6, fr6, w6⟩
    obtain ⟨hDl, hw⟩ := turn i n ys H6 w6
    rcases hw with ⟨stop, qn⟩ | ⟨go, hlen, N', hN', step⟩
    · refine thn (T.done (compCx X scope cl C x N { s2 with heap := h3 } H3 fp) rfl rfl rfl hc i [] s6 _ H6 _ I6 (fp5 fr6) st6 stop) fun r s7 ⟨hr, I7⟩ => ?_
      subst hr
      obtain ⟨m7, hn7, _⟩ := I7.loc
      obtain ⟨J7, F7⟩ := fin H6 s7 _ I7
      exact hRR C H6 s7 m7 hn7 J7 F7 qn
    · refine thn (T.item (compCx X scope cl C x N { s2 with heap := h3 } H3 fp) rfl rfl rfl hc i [] s6 _ H6 _ I6 (fp5 fr6) st6 go) fun r s7 ⟨u, hr, h7⟩ => ?_
      subst hr
      refine thn h7 fun _ s8 ⟨x8, H8, I8, r8, y8, st8, fr8⟩ => ?_
      have I8' := I8.pinned (fp5 fr8) (T.obj _ _ st8)
      refine wpAny_assign_Name (store_ok (i := 0) I8' hok.nd rfl hx' r8 (fun s9 I9 => ?_) (.inr ((rel x).trans hok.hx')))
      have I9' : Inv (compCx X scope cl C x N { s2 with heap := h3 } H3 fp) ([] ++ pinsAt fp s8.heap) (some x8 :: fr.map fun j => (σ[j]?).getD none) H8 s9 := I9
      refine wpAny_mono (hct C { s2 with heap := h3 } H3 fp _ s9 _ H8 _ I9' (step x8 H8 y8)) (fun okb s9b h9b => ?_) fun _ _ z => False.elim z
      obtain ⟨H9, I9b, n9⟩ := h9b
      cases okb with
      | false =>
        rw [if_neg Bool.false_ne_true] at n9 ⊢
        obtain ⟨m', hm, w9⟩ := n9
        refine ⟨m', hm, i + 1, some x8, ys, _, I9b.unpinned, T.keep _ _ _ st8 fun b hb o e => (I9b.pin (b, o) (List.mem_append_right _ (List.mem_append_right _ (mem_pinsAt hb e)))).1, fun b hb => ?_, w9⟩
        obtain ⟨o, e, d⟩ := T.obj _ _ st8 b hb
        exact (I9b.pin (b, o) (List.mem_append_right _ (List.mem_append_right _ (mem_pinsAt hb e)))).2.1
      | true =>
        rw [if_pos rfl] at n9 ⊢
        refine wpAny_mono (he C { s2 with heap := h3 } H3 fp _ s9b _ H9 _ I9b n9) (fun y s10 h10 => ?_) fun _ _ z => False.elim z
        obtain ⟨y10, H10, I10, r10, n10⟩ := h10
        obtain ⟨hD10, m', hm, w10⟩ := hN' y10 H10 n10
        refine wpAny_mono (mt_append (X := compCx X scope cl C x N { s2 with heap := h3 } H3 fp) _ s10 _ H10 (.ref D) [y10] (.ref D) [y] (fun _ H' => H' = upd H10 D (.lst (ys ++ [y10]))) I10 rfl (.cons r10 .nil) ⟨D, ys, y10, rfl, rfl, hD10, hlen, rfl⟩) (fun _ s11 h11 => ?_) fun _ _ z => False.elim z
        obtain ⟨_, H11, I11, _, e11⟩ := h11
        subst e11
        refine ⟨m', hm, i + 1, some x8, ys ++ [y10], _, I11.unpinned, T.keep _ _ _ st8 fun b hb o e => (I11.pin (b, o) (List.mem_append_right _ (List.mem_append_right _ (mem_pinsAt hb e)))).1, fun b hb => ?_, w10⟩
        obtain ⟨o, e, d⟩ := T.obj _ _ st8 b hb
        exact (I11.pin (b, o) (List.mem_append_right _ (List.mem_append_right _ (mem_pinsAt hb e)))).2.1
  exact codeAny_compStart_list loop (T.self _ 0 _ _ _ st4 loop)

theorem pe_compIf {X : Cx} {elt iter cc : Expr} {x : Str} {px pos : Pos} {scope sc0 : Scope} {cl : List (Str × Addr)} {cn N : List Str} {fr : List Nat} {wi : TI} {tt : TT} {te : TE}
    (hc : X.calm = true) (hi : PI X (.Name x px) iter wi) (he : ∀ (C : Addr) (s₂ : Shared) (H₂ : Hp) (fp : List Addr), PE (compCx X scope cl C x N s₂ H₂ fp) elt te) (hct : ∀ (C : Addr) (s₂ : Shared) (H₂ : Hp) (fp : List Addr), PT (compCx X scope cl C x N s₂ H₂ fp) cc tt)
    (hclos : closureFor scope X.env = pure cl) (hcl : CellsIn X.env cl) (hcn : cl.map (·.1) = cn) (hsc : X.env.scope = sc0) (hk : scope.kind = .function) (hok : CompOk scope sc0 x N cn)
    (hfr : fr.map (fun j => X.N[j]?) = N.map some) (hs : ∀ v, foldedSetIterable iter X.env v = pure v := by intro _; rfl) :
    PE X (.ListComp elt [⟨.Name x px, iter, [cc], 0⟩] scope pos) (tCompIf wi tt te fr) := by
  intro pins s σ H Q I h
  rw [eval_ListComp]
  refine wpAny_comprehension_free (use := none) rfl hs hclos hk hok.names (thn (hi pins s σ H _ I h) fun v s1 h1 => thn h1 fun itv s2 h2 => ?_)
  obtain ⟨it, fp, tn, J, H2, e, I2, T, st2, f2, hq⟩ := h2
  subst e
  obtain ⟨W, ⟨m0, w0⟩, turn⟩ := hq s2.heap.objs.size (I2.hok.fresh (Nat.le_refl _))
  exact comp_coreIf (RR := fun acc C => compPost (model X.prog X.w) X.A X.xe none (EP X pins σ Q) acc C) (R := fun H6 => Q (.ref s2.heap.objs.size) H6) hc he hct hcl hcn hsc hk hok hfr I2 T st2 f2 w0 turn
    fun C H6 s6 m6 hn I6 F6 q => ⟨m6, hn, fun h' sb => ⟨.ref s2.heap.objs.size, H6, I6.let_go F6 sb, rfl, q⟩⟩
/-- y = [.. for x in ..], straight to a local name -/
def tSetCompIf (i : Nat) (wi : TI) (tt : TT) (te : TE) (fr : List Nat) : TS := fun D σ H => tCompIf wi tt te fr σ H fun v H1 => D.nx (σ.set i (some v)) H1
/-- gone through a list of ints, those kept that pass, each told by g -/
theorem compIf_list {K : PySem.W.Frag} {a : Addr} {xs : List V} {p : V → Bool} {g : V → V} {Tt : V → Hp → (Bool → Hp → Prop) → Prop} {Te : V → Hp → (V → Hp → Prop) → Prop} {D : Addr} {H1 : Hp} {R : Hp → Prop}
    (ha : SqL K H1 a xs) (hD : H1 D = none) (hn : xs.length ≤ sizeLine) (hT : ∀ x ∈ xs, ∀ (H : Hp) (Q : Bool → Hp → Prop), Same H1 H → Q (p x) H → Tt x H Q) (hE : ∀ x ∈ xs, p x = true → ∀ (H : Hp) (Q : V → Hp → Prop), Same H1 H → Q (g x) H → Te x H Q)
    (hR : R (upd H1 D (.lst ((xs.filter p).map g)))) :
    ∃ W : Nat → Nat → List V → Hp → Prop, (∃ m, W 0 m [] (upd H1 D (.lst []))) ∧
      ∀ i m ys H2, W i m ys H2 → H2 D = some (.lst ys) ∧ (((Itl K a).stop i H2 ∧ R H2) ∨ ((Itl K a).go i H2 ∧ ys.length < sizeLine ∧ ∃ N : V → Hp → Prop, (∀ y H3, N y H3 → H3 D = some (.lst ys) ∧ ∃ m', m' < m ∧ W (i + 1) m' (ys ++ [y]) (upd H3 D (.lst (ys ++ [y])))) ∧
        ∀ x H', (Itl K a).yld i H2 x H' → Tt x H' fun b H3 => if b = true then Te x H3 N else ∃ m', m' < m ∧ W (i + 1) m' ys H3)) := by
  refine ⟨fun i m ys H => m = xs.length - i ∧ i ≤ xs.length ∧ ys = ((xs.take i).filter p).map g ∧ H = upd H1 D (.lst ys), ⟨xs.length, by simp, Nat.zero_le _, by simp, rfl⟩, ?_⟩
  rintro i m ys H2 ⟨rfl, hi, hy, rfl⟩
  have sm : Same H1 (upd H1 D (.lst ys)) := same_new hD _
  have q := sm.seq ha
  have hyl : ys.length ≤ i := by
    rw [hy, List.length_map]
    exact Nat.le_trans (List.length_filter_le _ _) (by rw [List.length_take]; exact Nat.min_le_left _ _)
  refine ⟨upd_same, ?_⟩
  by_cases hlt : i < xs.length
  · refine .inr ⟨⟨xs, xs[i], q, by simp [hlt]⟩, by omega, fun y H3 => H3 = upd H1 D (.lst ys) ∧ y = g xs[i] ∧ p xs[i] = true, fun y H3 ⟨z1, z2, z3⟩ => ⟨by rw [z1]; exact upd_same, xs.length - (i + 1), by omega, rfl, hlt, ?eq, by rw [z1, upd_upd]⟩, fun x H' y => ?st⟩
    case eq =>
      rw [List.take_succ_eq_append_getElem hlt, List.filter_append, List.map_append, ← hy, z2]
      simp [z3]
    case st =>
      obtain ⟨e, y⟩ := y
      subst e
      have hx : xs[i]? = some x := y xs q
      have hx' : xs[i] = x := by simpa [hlt] using hx
      have hm : x ∈ xs := by rw [← hx']; exact List.getElem_mem hlt
      refine hT x hm _ _ sm ?_
      by_cases hp : p x = true
      · rw [if_pos hp]
        exact hE x hm hp _ _ sm ⟨rfl, by rw [hx'], by rw [hx']; exact hp⟩
      · rw [if_neg hp]
        refine ⟨xs.length - (i + 1), by omega, rfl, hlt, ?_, rfl⟩
        rw [List.take_succ_eq_append_getElem hlt, List.filter_append, List.map_append, ← hy, hx']
        simp [hp]
  · have e : i = xs.length := by omega
    subst e
    refine .inl ⟨⟨xs, q, Nat.le_refl _⟩, ?_⟩
    rw [hy, List.take_length]
    exact hR
end L2
/-! my own rules over the layer: a def that calls itself; gone through by a map; sorted ints; xs[::-1]; trees of tuples -/
namespace L2
open PySem PySem.Spec PyProof.Rows
section
variable {P : Program} {w : World} {K : PySem.W.Frag} {mg : Str → Option Value} {base : Heap}
/-- what the call below promises: nothing at 0 -/
def prevSp (sp : Nat → Sp) : Nat → Sp
  | 0 => fun _ _ _ _ => False
  | e + 1 => sp e
/-- a def that calls itself, by a measure -/
theorem Def.recur {sp : Nat → Sp} {x : Str} {st : Stmt} {ps : List Str} (d : Def K mg x st ps) {k : Nat} (n : Nat)
    (step : ∀ e, e ≤ n → Cal P w K mg base (e + k) x ps (prevSp sp e) → ∀ (f : Addr) (fd : FuncData), Fun K x x st f fd → FnOk P w K mg base CX0 (e + (k + 1)) f fd ps (sp e)) :
    Cal P w K mg base (n + (k + 1)) x ps (fun vs H Q E => ∃ e, e ≤ n ∧ sp e vs H Q E) := by
  obtain ⟨f, fd, h1, h2, h3⟩ := d.ex
  have all : ∀ e, e ≤ n → FnOk P w K mg base CX0 (e + (k + 1)) f fd ps (sp e) := by
    intro e
    induction e with
    | zero => exact fun he => step 0 he ⟨f, fd, ⟨fun _ _ _ _ h => h.elim, fun _ _ _ _ _ _ _ _ _ _ _ _ _ h => h.elim⟩, .all h2, h1.kp, h3⟩ f fd h1
    | succ e ih => exact fun he => step (e + 1) he ⟨f, fd, (ih (by omega)).mono (by omega), .all h2, h1.kp, h3⟩ f fd h1
  refine ⟨f, fd, ⟨?_, ?_⟩, .all h2, h1.kp, h3⟩
  · rintro vs H Q E ⟨e, he, h⟩
    exact (all e he).len vs H Q E h
  · rintro A outer s H args us vs Q E hr he hb hv ⟨e, hle, h⟩
    exact (all e hle).run A outer s H args us vs Q E (hr.mono (by omega)) he hb hv h
end
/-- gone through a list, each told by g -/
theorem comp_listM {K : PySem.W.Frag} {a : Addr} {xs : List V} {g : V → V} {Te : V → Hp → (V → Hp → Prop) → Prop} {D : Addr} {H1 : Hp} {R : Hp → Prop}
    (ha : SqL K H1 a xs) (hD : H1 D = none) (hn : xs.length ≤ sizeLine) (hE : ∀ x ∈ xs, ∀ (H : Hp) (Q : V → Hp → Prop), Same H1 H → Q (g x) H → Te x H Q) (hR : R (upd H1 D (.lst (xs.map g)))) :
    ∃ W : Nat → Nat → List V → Hp → Prop, (∃ m, W 0 m [] (upd H1 D (.lst []))) ∧
      ∀ i m ys H2, W i m ys H2 → H2 D = some (.lst ys) ∧ (((Itl K a).stop i H2 ∧ R H2) ∨ ((Itl K a).go i H2 ∧ ys.length < sizeLine ∧ ∃ N : V → Hp → Prop, (∀ y H3, N y H3 → H3 D = some (.lst ys) ∧ ∃ m', m' < m ∧ W (i + 1) m' (ys ++ [y]) (upd H3 D (.lst (ys ++ [y])))) ∧
        ∀ x H', (Itl K a).yld i H2 x H' → Te x H' N)) := by
  refine ⟨fun i m ys H => m = xs.length - i ∧ i ≤ xs.length ∧ ys = (xs.take i).map g ∧ H = upd H1 D (.lst ys), ⟨xs.length, by simp, Nat.zero_le _, by simp, rfl⟩, ?_⟩
  rintro i m ys H2 ⟨rfl, hi, hy, rfl⟩
  have sm : Same H1 (upd H1 D (.lst ys)) := same_new hD _
  have q := sm.seq ha
  have hyl : ys.length ≤ i := by
    rw [hy, List.length_map, List.length_take]; exact Nat.min_le_left _ _
  refine ⟨upd_same, ?_⟩
  by_cases hlt : i < xs.length
  · refine .inr ⟨⟨xs, xs[i], q, by simp [hlt]⟩, by omega, fun y H3 => H3 = upd H1 D (.lst ys) ∧ y = g xs[i], fun y H3 ⟨z1, z2⟩ => ⟨by rw [z1]; exact upd_same, xs.length - (i + 1), by omega, rfl, hlt, ?eq, by rw [z1, upd_upd]⟩, fun x H' y => ?st⟩
    case eq =>
      rw [List.take_succ_eq_append_getElem hlt, List.map_append, ← hy, z2]
      rfl
    case st =>
      obtain ⟨e, y⟩ := y
      subst e
      have hx : xs[i]? = some x := y xs q
      have hx' : xs[i] = x := by simpa [hlt] using hx
      have hm : x ∈ xs := by rw [← hx']; exact List.getElem_mem hlt
      exact hE x hm _ _ sm ⟨rfl, by rw [hx']⟩
  · have e : i = xs.length := by omega
    subst e
    refine .inl ⟨⟨xs, q, Nat.le_refl _⟩, ?_⟩
    rw [hy, List.take_length]
    exact hR
section
variable {X : Cx}
/-- xs == ys of two lists of ints -/
theorem op_eqL (hu : X.A.units + 64 < cLine) : OpR X (compareOp .Eq) (fun x y H Q => ∃ (a b : Addr) (ns ms : List Int), x = .ref a ∧ y = .ref b ∧ SqL X.K H a (ns.map V.int) ∧ SqL X.K H b (ms.map V.int) ∧ Q (.bl (decide (ns = ms))) H) := by
  intro pins s σ H x y v u Q I rx ry h
  obtain ⟨a, b, ns, ms, rfl, rfl, ha, hb, q⟩ := h
  cases rx
  cases ry
  obtain ⟨its, r1, p1, _⟩ := I.list ha
  obtain ⟨its2, r2, p2, _⟩ := I.list hb
  exact PySem.W.ke_eq_ints p1.isList p2.isList (intsAre_of r1) (intsAre_of r2) hu ⟨.bl _, H, I, rfl, q⟩
/-- xs[::-1] of a list -/
def tRev (K : PySem.W.Frag) (te : TE) : TE := fun σ H Q => te σ H fun x H1 => ∃ a xs, x = .ref a ∧ SqL K H1 a xs ∧ ∀ p, H1 p = none → Q (.ref p) (upd H1 p (.lst xs.reverse))
end

section
variable {X : Cx} {K : PySem.W.Frag}
end
/-! ### trees -/
inductive Tr where
  | non
  | many (n : Int)
  | part (ms : List Int) (l r : Tr)
def Tr.deep : Tr → Nat
  | .non => 0
  | .many _ => 0
  | .part _ l r => max l.deep r.deep + 1
/-- a value that is this tree -/
def TreeAt (H : Hp) : V → Tr → Prop
  | v, .non => v = .non
  | v, .many n => ∃ a, v = .ref a ∧ H a = some (.tup [.str "many", .int n])
  | v, .part ms l r => ∃ a m x y, v = .ref a ∧ H a = some (.tup [.str "part", .ref m, x, y]) ∧ TupF H m (ms.map V.int) ∧ TreeAt H x l ∧ TreeAt H y r
/-- what tuples there are stays -/
def TKeep (H H' : Hp) : Prop := ∀ b xs, (H b = some (.tup xs) → H' b = some (.tup xs)) ∧ ∀ o, H b = some (.frz o (.tup xs)) → H' b = some (.frz o (.tup xs))
theorem TKeep.same {H H' : Hp} (s : Same H H') : TKeep H H' := fun _ _ => ⟨s _ _, fun _ => s _ _⟩
theorem TKeep.keep {H H' : Hp} {p : Addr} {ys : List V} (s : Keep p H H') (e : H p = some (.lst ys)) : TKeep H H' := fun _ _ => ⟨fun h => s _ _ (ne_of h e (by intro z; cases z)) h, fun _ h => s _ _ (ne_of h e (by intro z; cases z)) h⟩
theorem TKeep.set {H : Hp} {p : Addr} {ys zs : List V} (e : H p = some (.lst ys)) : TKeep H (upd H p (.lst zs)) := .keep (Keep.set p H _) e
theorem TupF.tk {H H' : Hp} {a : Addr} {xs : List V} (h : TupF H a xs) (s : TKeep H H') : TupF H' a xs := by
  obtain ⟨o, h, c⟩ := h
  exact ⟨o, (s _ _).2 o h, c⟩
theorem TreeAt.tk {H H' : Hp} (s : TKeep H H') : ∀ {t : Tr} {v : V}, TreeAt H v t → TreeAt H' v t
  | .non, _, h => h
  | .many _, _, ⟨a, e, h⟩ => ⟨a, e, (s _ _).1 h⟩
  | .part _ _ _, _, ⟨a, m, x, y, e, h, hm, hl, hr⟩ => ⟨a, m, x, y, e, (s _ _).1 h, hm.tk s, TreeAt.tk s hl, TreeAt.tk s hr⟩
theorem TreeAt.same {H H' : Hp} (s : Same H H') {t : Tr} {v : V} (h : TreeAt H v t) : TreeAt H' v t := h.tk (.same s)
section
variable {X : Cx}
theorem eqAt_tup {pins : List (Addr × Obj)} {σ : St} {H : Hp} {s : Shared} {A : Around} {a b : Addr} {xs ys : List V} (I : Inv X pins σ H s) (ha : SqT X.K H a xs) (hb : SqT X.K H b ys) (hl : xs.length = ys.length)
    (he : ∀ (j : Nat) (x y : V), xs[j]? = some x → ys[j]? = some y → ∀ u v, RelV x u → RelV y v → SeqAt.EqAt A.in1 s u v true) (hu : A.units < cLine) :
    SeqAt.RcAt A s (.ref a) (.ref b) true ∧ SeqAt.RcNeAt A s (.ref a) (.ref b) false := by
  obtain ⟨its, r1, p1, _⟩ := I.tuple ha
  obtain ⟨its2, r2, p2, _⟩ := I.tuple hb
  have l1 := r1.length
  have l2 := r2.length
  have hz : its.toArray.size = its2.toArray.size := by rw [List.size_toArray, List.size_toArray]; omega
  have el : ∀ (j : Nat) (h1 : j < its.toArray.size) (h2 : j < its2.toArray.size), SeqAt.EqAt A.in1 s its.toArray[j] its2.toArray[j] ((fun _ => true) j) := by
    intro j h1 h2
    have h1' : j < xs.length := by rw [List.size_toArray] at h1; omega
    have h2' : j < ys.length := by rw [List.size_toArray] at h2; omega
    obtain ⟨v1, e1, r1'⟩ := r1.get (i := j) (x := xs[j]) (List.getElem?_eq_getElem h1')
    obtain ⟨v2, e2, r2'⟩ := r2.get (i := j) (x := ys[j]) (List.getElem?_eq_getElem h2')
    have g1 : its.toArray[j] = v1 := by
      have := List.getElem?_eq_some_iff.mp e1
      simpa using this.2
    have g2 : its2.toArray[j] = v2 := by
      have := List.getElem?_eq_some_iff.mp e2
      simpa using this.2
    rw [g1, g2]
    exact he j _ _ (List.getElem?_eq_getElem h1') (List.getElem?_eq_getElem h2') _ _ r1' r2'
  have t0 : ((List.range (min its.toArray.size its2.toArray.size)).all (fun _ => true) && its.toArray.size == its2.toArray.size) = true := by
    rw [hz]; simp
  constructor
  · rw [← t0]
    exact SeqAt.RcAt.tuples p1 p2 hu el
  · have z := SeqAt.RcNeAt.tuples (e := fun _ => true) p1 p2 hu el
    rw [t0] at z
    exact z
theorem eqAt_ref {A : Around} {s : Shared} {a b : Addr} (h : SeqAt.RcAt A s (.ref a) (.ref b) true) : SeqAt.EqAt A s (.ref a) (.ref b) true := by
  by_cases e : a = b
  · subst e
    exact SeqAt.EqAt.same _
  · exact .of_refs e h
end
end L2
/-! my own rules over the layer: gone through a list or a tuple of ints; heaps kept -/
namespace L2
open PySem PySem.Spec PyProof.Rows
def onI {α : Type} (f : Int → α) (d : α) : V → α
  | .int n => f n
  | _ => d
theorem filt_onI {p : Int → Bool} {g : Int → V} (ns : List Int) : (((ns.map V.int).filter (onI p false)).map (onI g .non)) = (ns.filter p).map g := by
  induction ns with
  | nil => rfl
  | cons n ns ih =>
    rw [List.map_cons, List.filter_cons, List.filter_cons]
    have e : onI p false (.int n) = p n := rfl
    rw [e]
    by_cases h : p n = true
    · rw [if_pos h, if_pos h, List.map_cons, List.map_cons, ih]; rfl
    · rw [if_neg h, if_neg h]; exact ih
section
variable {K : PySem.W.Frag} {a : Addr} {ns : List Int} {p : Int → Bool} {g : Int → V} {Tt : V → Hp → (Bool → Hp → Prop) → Prop} {Te : V → Hp → (V → Hp → Prop) → Prop} {D : Addr} {H1 : Hp} {R : Hp → Prop}
theorem compIf_ints (ha : SqL K H1 a (ns.map V.int)) (hD : H1 D = none) (hn : ns.length ≤ sizeLine) (hT : ∀ n ∈ ns, ∀ (H : Hp) (Q : Bool → Hp → Prop), Same H1 H → Q (p n) H → Tt (.int n) H Q)
    (hE : ∀ n ∈ ns, p n = true → ∀ (H : Hp) (Q : V → Hp → Prop), Same H1 H → Q (g n) H → Te (.int n) H Q) (hR : R (upd H1 D (.lst ((ns.filter p).map g)))) :
    ∃ W : Nat → Nat → List V → Hp → Prop, (∃ m, W 0 m [] (upd H1 D (.lst []))) ∧
      ∀ i m ys H2, W i m ys H2 → H2 D = some (.lst ys) ∧ (((Itl K a).stop i H2 ∧ R H2) ∨ ((Itl K a).go i H2 ∧ ys.length < sizeLine ∧ ∃ N : V → Hp → Prop, (∀ y H3, N y H3 → H3 D = some (.lst ys) ∧ ∃ m', m' < m ∧ W (i + 1) m' (ys ++ [y]) (upd H3 D (.lst (ys ++ [y])))) ∧
        ∀ x H', (Itl K a).yld i H2 x H' → Tt x H' fun b H3 => if b = true then Te x H3 N else ∃ m', m' < m ∧ W (i + 1) m' ys H3)) := by
  refine compIf_list (p := onI p false) (g := onI g .non) ha hD (by rw [List.length_map]; exact hn) (fun x hx H Q s q => ?_) (fun x hx hp H Q s q => ?_) (by rw [filt_onI]; exact hR)
  · obtain ⟨n, hm, rfl⟩ := List.mem_map.mp hx
    exact hT n hm H Q s q
  · obtain ⟨n, hm, rfl⟩ := List.mem_map.mp hx
    exact hE n hm hp H Q s q
theorem comp_ints (ha : SqL K H1 a (ns.map V.int)) (hD : H1 D = none) (hn : ns.length ≤ sizeLine) (hE : ∀ n ∈ ns, ∀ (H : Hp) (Q : V → Hp → Prop), Same H1 H → Q (g n) H → Te (.int n) H Q) (hR : R (upd H1 D (.lst (ns.map g)))) :
    ∃ W : Nat → Nat → List V → Hp → Prop, (∃ m, W 0 m [] (upd H1 D (.lst []))) ∧
      ∀ i m ys H2, W i m ys H2 → H2 D = some (.lst ys) ∧ (((Itl K a).stop i H2 ∧ R H2) ∨ ((Itl K a).go i H2 ∧ ys.length < sizeLine ∧ ∃ N : V → Hp → Prop, (∀ y H3, N y H3 → H3 D = some (.lst ys) ∧ ∃ m', m' < m ∧ W (i + 1) m' (ys ++ [y]) (upd H3 D (.lst (ys ++ [y])))) ∧
        ∀ x H', (Itl K a).yld i H2 x H' → Te x H' N)) := by
  refine comp_listM (g := onI g .non) ha hD (by rw [List.length_map]; exact hn) (fun x hx H Q s q => ?_) (by rw [List.map_map]; exact hR)
  obtain ⟨n, hm, rfl⟩ := List.mem_map.mp hx
  exact hE n hm H Q s q
end
theorem Keep.free {p l : Addr} {H H' : Hp} {o : HO} (k : Keep p H H') (hl : H' l = none) (hp : H' p = some o) : H l = none := by
  cases e : H l with
  | none => rfl
  | some u =>
    have n : l ≠ p := fun z => by rw [z, hp] at hl; cases hl
    rw [k l u n e] at hl
    cases hl
/-- a list of ours that was not there before is written: all else is kept -/
theorem Keep.own {p r : Addr} {H H' : Hp} {o : HO} (k : Keep p H H') (hr : H r = none) : Keep p H (upd H' r o) := fun c u hc z => by
  rw [upd_ne (ne_of_none z hr)]
  exact k c u hc z
theorem p2pos (L : Nat) : (0 : Int) < 2 ^ L := by
  induction L with
  | zero => decide
  | succ L ih => rw [Int.pow_succ]; omega
theorem p2le {L : Nat} (h : L ≤ 40) : (2 : Int) ^ L ≤ 1099511627776 := by
  have e : (2 : Int) ^ L = ((2 ^ L : Nat) : Int) := by simp
  have : 2 ^ L ≤ 2 ^ 40 := Nat.pow_le_pow_right (by decide) h
  rw [e]
  have e2 : (2 : Nat) ^ 40 = 1099511627776 := by decide
  omega
theorem p2half (e : Nat) : (2 : Int) ^ (e + 1) / 2 = 2 ^ e := by rw [Int.pow_succ]; omega
theorem p2succ (e : Nat) : (2 : Int) ^ (e + 1) = 2 ^ e + 2 ^ e := by rw [Int.pow_succ]; omega
theorem p2one {e : Nat} (h : (2 : Int) ^ e = 1) : e = 0 := by
  cases e with
  | zero => rfl
  | succ e => have := p2pos e; rw [p2succ] at h; omega
theorem shlOne (L : Nat) : (1 : Int) * 2 ^ ((L : Int)).toNat = 2 ^ L := by rw [Int.one_mul]; rfl
end L2
/-! my own rules over the layer: things alike, however deep; list.insert -/
namespace L2
open PySem PySem.Spec PyProof.Rows
/-- two values that are alike, so deep at most: flat ones, tuples and lists of such -/
inductive Alk (K : PySem.W.Frag) (H : Hp) : Nat → V → V → Prop where
  | flat {n : Nat} {x : V} (h : flatV x = true) : Alk K H n x x
  | tup {n : Nat} {a b : Addr} {xs ys : List V} (ha : SqT K H a xs) (hb : SqT K H b ys) (hl : xs.length = ys.length) (h : ∀ (j : Nat) (x y : V), xs[j]? = some x → ys[j]? = some y → Alk K H n x y) : Alk K H (n + 1) (.ref a) (.ref b)
  | lst {n : Nat} {a b : Addr} {xs ys : List V} (ha : SqL K H a xs) (hb : SqL K H b ys) (hl : xs.length = ys.length) (h : ∀ (j : Nat) (x y : V), xs[j]? = some x → ys[j]? = some y → Alk K H n x y) : Alk K H (n + 1) (.ref a) (.ref b)
theorem eqV_self : ∀ {x : V}, flatV x = true → eqV x x = true := by
  intro x h
  cases x <;> simp [flatV] at h <;> simp [eqV]
section
variable {X : Cx}
theorem eqAt_lst {pins : List (Addr × Obj)} {σ : St} {H : Hp} {s : Shared} {A : Around} {a b : Addr} {xs ys : List V} (I : Inv X pins σ H s) (ha : SqL X.K H a xs) (hb : SqL X.K H b ys) (hl : xs.length = ys.length)
    (he : ∀ (j : Nat) (x y : V), xs[j]? = some x → ys[j]? = some y → ∀ u v, RelV x u → RelV y v → SeqAt.EqAt A.in1 s u v true) (hu : A.units < cLine) :
    SeqAt.RcAt A s (.ref a) (.ref b) true ∧ SeqAt.RcNeAt A s (.ref a) (.ref b) false := by
  obtain ⟨its, r1, p1, _⟩ := I.list ha
  obtain ⟨its2, r2, p2, _⟩ := I.list hb
  have l1 := r1.length
  have l2 := r2.length
  have hz : its.toArray.size = its2.toArray.size := by rw [List.size_toArray, List.size_toArray]; omega
  have el : ∀ (j : Nat) (h1 : j < its.toArray.size) (h2 : j < its2.toArray.size), SeqAt.EqAt A.in1 s its.toArray[j] its2.toArray[j] ((fun _ => true) j) := by
    intro j h1 h2
    have h1' : j < xs.length := by rw [List.size_toArray] at h1; omega
    have h2' : j < ys.length := by rw [List.size_toArray] at h2; omega
    obtain ⟨v1, e1, r1'⟩ := r1.get (i := j) (x := xs[j]) (List.getElem?_eq_getElem h1')
    obtain ⟨v2, e2, r2'⟩ := r2.get (i := j) (x := ys[j]) (List.getElem?_eq_getElem h2')
    have g1 : its.toArray[j] = v1 := by
      have := List.getElem?_eq_some_iff.mp e1
      simpa using this.2
    have g2 : its2.toArray[j] = v2 := by
      have := List.getElem?_eq_some_iff.mp e2
      simpa using this.2
    rw [g1, g2]
    exact he j _ _ (List.getElem?_eq_getElem h1') (List.getElem?_eq_getElem h2') _ _ r1' r2'
  have t0 : (List.range its.toArray.size).all (fun _ => true) = true := by simp
  constructor
  · rw [← t0]
    exact SeqAt.RcAt.lists p1.isList p2.isList hz hu el
  · have z := SeqAt.RcNeAt.lists (e := fun _ => true) p1.isList p2.isList hz hu el
    rw [t0] at z
    exact z
theorem alk_eqAt {pins : List (Addr × Obj)} {σ : St} {H : Hp} {s : Shared} (I : Inv X pins σ H s) {n : Nat} {x y : V} (h : Alk X.K H n x y) : ∀ (A : Around) (u v : Value), RelV x u → RelV y v → A.units + n + 1 < cLine → SeqAt.EqAt A s u v true := by
  induction h with
  | @flat n x hf =>
    intro A u v ru rv hu
    have z := eqAt_V (A := A) (s := s) ru rv hf hf
    rw [eqV_self hf] at z
    exact z
  | tup ha hb hl _ ih =>
    intro A u v ru rv hu
    cases ru
    cases rv
    exact eqAt_ref (eqAt_tup I ha hb hl (fun j x y h1 h2 u v r1 r2 => ih j x y h1 h2 A.in1 u v r1 r2 (by show A.units + 1 + _ + 1 < cLine; omega)) (by omega)).1
  | lst ha hb hl _ ih =>
    intro A u v ru rv hu
    cases ru
    cases rv
    exact eqAt_ref (eqAt_lst I ha hb hl (fun j x y h1 h2 u v r1 r2 => ih j x y h1 h2 A.in1 u v r1 r2 (by show A.units + 1 + _ + 1 < cLine; omega)) (by omega)).1
theorem alk_refs {pins : List (Addr × Obj)} {σ : St} {H : Hp} {s : Shared} (I : Inv X pins σ H s) {n : Nat} {a b : Addr} (h : Alk X.K H n (.ref a) (.ref b)) (A : Around) (hu : A.units + n + 1 < cLine) : SeqAt.RcAt A s (.ref a) (.ref b) true ∧ SeqAt.RcNeAt A s (.ref a) (.ref b) false := by
  cases h with
  | flat hf => exact absurd hf (by simp [flatV])
  | tup ha hb hl h => exact eqAt_tup I ha hb hl (fun j x y h1 h2 u v r1 r2 => alk_eqAt I (h j x y h1 h2) A.in1 u v r1 r2 (by show A.units + 1 + _ + 1 < cLine; omega)) (by omega)
  | lst ha hb hl h => exact eqAt_lst I ha hb hl (fun j x y h1 h2 u v r1 r2 => alk_eqAt I (h j x y h1 h2) A.in1 u v r1 r2 (by show A.units + 1 + _ + 1 < cLine; omega)) (by omega)
/-- x != y of two tuples or lists that are alike -/
theorem op_neAlk (hu : X.A.units + 64 < cLine) : OpR X (compareOp .NotEq) (fun x y H Q => ∃ (n : Nat) (a b : Addr), x = .ref a ∧ y = .ref b ∧ Alk X.K H n (.ref a) (.ref b) ∧ n ≤ 60 ∧ Q (.bl false) H) := by
  intro pins s σ H x y v u Q I rx ry h
  obtain ⟨n, a, b, rfl, rfl, hk, hn, q⟩ := h
  cases rx
  cases ry
  exact (alk_refs I hk X.A (by omega)).2 _ _ _ _ ⟨.bl false, H, I, rfl, q⟩
/-- x == y of two tuples or lists that are alike -/
theorem op_eqAlk (hu : X.A.units + 64 < cLine) : OpR X (compareOp .Eq) (fun x y H Q => ∃ (n : Nat) (a b : Addr), x = .ref a ∧ y = .ref b ∧ Alk X.K H n (.ref a) (.ref b) ∧ n ≤ 60 ∧ Q (.bl true) H) := by
  intro pins s σ H x y v u Q I rx ry h
  obtain ⟨n, a, b, rfl, rfl, hk, hn, q⟩ := h
  cases rx
  cases ry
  exact (alk_refs I hk X.A (by omega)).1 _ _ _ _ ⟨.bl true, H, I, rfl, q⟩
end
end L2
/-! list.insert -/
namespace L2
open PySem PySem.Spec PyProof.Rows
section
variable {X : Cx}
/-- xs.insert(i, y), i from 0 to how many there are -/
def rInsert : V → List V → Hp → VK → Prop := fun x vs H Q => ∃ (l : Addr) (xs : List V) (k : Int) (i : Nat) (y : V), x = .ref l ∧ vs = [.int k, y] ∧ k = (i : Int) ∧ H l = some (.lst xs) ∧ i ≤ xs.length ∧ xs.length < sizeLine ∧ Q .non (upd H l (.lst (xs.take i ++ y :: xs.drop i)))
end
end L2
/-! my own rules over the layer: a list comprehension of any target, with tests or without -/
namespace L2
open PySem PySem.Spec PyProof.Rows
/-- tests of a comprehension -/
def PTs (X : Cx) (ifs : List Expr) (tt : TT) : Prop :=
  ∀ (pins : List (Addr × Obj)) (s : Shared) (σ : St) (H : Hp) (Q : Bool → Hp → Prop), Inv X pins σ H s → tt σ H Q →
    wpAny (model X.prog X.w) X.A (forIn ifs true fun c r => if r = true then do let ok ← isTrue c X.env (eval c X.env); pure (ForInStep.yield ok) else pure (ForInStep.yield r)) (TP X pins σ Q) X.xe s
structure CompOkG (scope sc0 : Scope) (N cn : List Str) : Prop where
  has : ∀ p ∈ relN scope sc0, (p.2 = .cell ∨ p.2 = .free) → p.1 ∈ cn
  nc : ∀ p ∈ scope.names, p.2 ≠ .cell
  names : ∀ p ∈ scope.names, p.2 = .local → scope.names.lookup p.1 = some .local
  frs : ∀ y ∈ N, (relN scope sc0).lookup y = some .cell ∧ sc0.names.lookup y = some .cell ∧ y ∈ cn
/-- the reading: any target, tests, what passes alone is kept -/
def tCompG (k : Nat) (wi : TI) (gt : TG) (tt : TT) (te : TE) (fr : List Nat) : TE := fun σ H Q => wi σ H fun J H1 => ∀ D, H1 D = none → ∃ W : Nat → Nat → List V → Hp → Prop, (∃ m, W 0 m [] (upd H1 D (.lst []))) ∧
  ∀ i m ys H2, W i m ys H2 → H2 D = some (.lst ys) ∧ ((J.stop i H2 ∧ Q (.ref D) H2) ∨ (J.go i H2 ∧ ys.length < sizeLine ∧ ∃ (N : V → Hp → Prop) (Z : Hp → Prop), (∀ y H3, N y H3 → H3 D = some (.lst ys) ∧ ∃ m', m' < m ∧ W (i + 1) m' (ys ++ [y]) (upd H3 D (.lst (ys ++ [y])))) ∧ (∀ H3, Z H3 → ∃ m', m' < m ∧ W (i + 1) m' ys H3) ∧
    ∀ x H', J.yld i H2 x H' → ∀ vs : St, vs.length = k → gt x (vs ++ fr.map fun j => (σ[j]?).getD none) H' fun σ' H3 => (∃ vs' : St, vs'.length = k ∧ σ' = vs' ++ fr.map fun j => (σ[j]?).getD none) ∧ tt σ' H3 fun b H4 => if b = true then te σ' H4 N else Z H4))
section
variable {prog : Program} {w : World} {A : Around} {R : Result → Shared → Prop} {s : Shared}
end
/-- y = [.. for x in ..], straight to a local name -/
def tSetCompG (i k : Nat) (wi : TI) (gt : TG) (tt : TT) (te : TE) (fr : List Nat) : TS := fun D σ H => tCompG k wi gt tt te fr σ H fun v H1 => D.nx (σ.set i (some v)) H1
end L2
/-! my own rules over the layer: gone through a range, each told by g, those alone that pass -/
namespace L2
open PySem PySem.Spec PyProof.Rows
section
variable {n : Nat} {lo : Int} {p : Nat → Bool} {g : Nat → V} {Tt : V → Hp → (Bool → Hp → Prop) → Prop} {Te : V → Hp → (V → Hp → Prop) → Prop} {D : Addr} {H1 : Hp} {R : Hp → Prop}
end
end L2
/-! my own rules over the layer: sum of ints; gone through a list, things made on the way; a tuple's names in a comprehension; trees alike -/
namespace L2
open PySem PySem.Spec PyProof.Rows
section
variable {X : Cx}
end
end L2
/-! my own rules over the layer: t >= u, t * n of tuples, xs != [] -/
namespace HT
open PySem PySem.Spec PyProof.Rows
section
open PySem.SeqAt
open PySem.AutoSeq1 (wpAny_loadPart')
open PySem.MeetsSeq PySem.MeetsSeq2 PySem.MeetsSeq3
end
section
variable {prog : Program} {w : World} {A : Around} {E : Value → Shared → Prop} {s : Shared}
end
end HT
namespace L2
open PySem PySem.Spec PyProof.Rows
section
variable {X : Cx}
end
end L2
/-! my own rules over the layer: t == () of any tuple; sum of a tuple of ints; tuples written or joined that are known to the object -/
namespace L2
open PySem PySem.Spec PyProof.Rows
section
variable {X : Cx}
/-- a written tuple, known to the object -/
def tTupF (t : TA) : TE := fun σ H Q => t σ H fun xs H1 => xs.length ≤ sizeLine ∧ ∀ p H', Same H1 H' → TupF H' p xs → Q (.ref p) H'
theorem pe_tupF {es : List Expr} {t : TA} {pos : Pos} {x1} (h : PA X es t) : PE X (.Tuple es x1 pos) (tTupF t) := by
  intro pins s σ H Q I hq
  refine wpAny_Tuple_spliced (thn (h pos pins s σ H _ I hq) fun us s1 ⟨xs, H1, I1, r, z, q⟩ => ⟨by rw [← r.length]; exact z, ?_⟩)
  have hf : H1 s1.heap.objs.size = none := I1.hok.fresh (Nat.le_refl _)
  refine ⟨.ref s1.heap.objs.size, upd H1 s1.heap.objs.size (.frz { cls := .type "tuple", data := .seq us.toArray } (.tup xs)), I1.laid (t' := s1.toks) (fun b u e => Heap.get?_push_of_some _ e) (Nat.le_refl _) ?_, rfl, q _ _ (same_new hf _) ⟨_, upd_same, rfl, rfl⟩⟩
  exact ⟨Heap.get?_push_size _ rfl, z, us, r, ⟨_, Heap.get?_push_size _ rfl, rfl, _, rfl⟩⟩
/-- t + u of two tuples known to the object -/
theorem op_catF : OpR X (binaryOp .Add) (fun x y H Q => ∃ a b xs ys, x = .ref a ∧ y = .ref b ∧ TupF H a xs ∧ TupF H b ys ∧ xs.length + ys.length ≤ sizeLine ∧
    ∀ p H', Same H H' → TupF H' p (xs ++ ys) → Q (.ref p) H') := by
  intro pins s σ H x y v u Q I rx ry h
  obtain ⟨a, b, xs, ys, rfl, rfl, ha, hb, hz, q1⟩ := h
  cases rx
  cases ry
  obtain ⟨its, r1, p1, _⟩ := I.tuple (ha.sq (K := X.K))
  obtain ⟨its2, r2, p2, _⟩ := I.tuple (hb.sq (K := X.K))
  have hz' : its.length + its2.length ≤ sizeLine := by rw [← r1.length, ← r2.length]; exact hz
  obtain ⟨⟨cls, dd, data, sl⟩, ho, hc, n, hd⟩ := id p1
  obtain ⟨⟨cls2, dd2, data2, sl2⟩, ho2, hc2, n2, hd2⟩ := id p2
  simp only at hc hd hc2 hd2
  subst hc hd hc2 hd2
  have e : its.toArray ++ its2.toArray = (its ++ its2).toArray := by simp
  by_cases hv : its = []
  · have hx : xs = [] := r1.nil_iff.mp hv
    subst hx
    exact concat_meets ⟨_, ho, rfl⟩ ⟨_, ho2, rfl⟩ noFill_tuple_add seq_tuple_add PySem.F.slot_tuple_add PySem.F.entry_tuple_add (PySem.F.args_tuple_add_2 _ _)
      (tuple_addW0 a b its.toArray its2.toArray n n2 dd dd2 sl sl2 (by simp [hv])) ⟨ho, ho2, ⟨.ref b, H, I, rfl, q1 b H (Same.refl H) (by simpa using hb)⟩⟩
  · by_cases hw : its2 = []
    · have hy : ys = [] := r2.nil_iff.mp hw
      subst hy
      exact concat_meets ⟨_, ho, rfl⟩ ⟨_, ho2, rfl⟩ noFill_tuple_add seq_tuple_add PySem.F.slot_tuple_add PySem.F.entry_tuple_add (PySem.F.args_tuple_add_2 _ _)
        (tuple_addW1 a b its.toArray its2.toArray n n2 dd dd2 sl sl2 (by simpa using hv) (by simp [hw])) ⟨ho, ho2, ⟨.ref a, H, I, rfl, q1 a H (Same.refl H) (by simpa using ha)⟩⟩
    · refine concat_meets ⟨_, ho, rfl⟩ ⟨_, ho2, rfl⟩ noFill_tuple_add seq_tuple_add PySem.F.slot_tuple_add PySem.F.entry_tuple_add (PySem.F.args_tuple_add_2 _ _)
        (tuple_addW2 a b its.toArray its2.toArray n n2 dd dd2 sl sl2 (by simpa using hv) (by simpa using hw) (by rw [List.size_toArray, List.size_toArray]; exact hz')) ⟨ho, ho2, ?_⟩
      rw [e]
      refine ⟨.ref s.heap.objs.size, upd H s.heap.objs.size (.frz { cls := .type "tuple", data := .seq (its ++ its2).toArray } (.tup (xs ++ ys))), I.laid (t' := s.toks) (fun b ob q => Heap.get?_push_of_some _ q) (Nat.le_refl _) ?_, rfl, q1 _ _ (same_new (I.hok.fresh (Nat.le_refl _)) _) ⟨_, upd_same, rfl, rfl⟩⟩
      exact ⟨Heap.get?_push_size _ rfl, by rw [List.length_append]; exact hz, _, r1.append r2, IsTup.new _ _⟩
end
end L2
/-! my own rules over the layer: a pair in a list of pairs; xs == []; a <= b <= c < d -/
namespace L2
open PySem PySem.Spec PyProof.Rows
def pairV (H : Hp) : Value → Option (Int × Int)
  | .ref b => match H b with
    | some (.tup [.int i, .int j]) => some (i, j)
    | _ => none
  | _ => none
section
variable {X : Cx}
def PairsIn (H : Hp) (xs : List V) (ps : List (Int × Int)) : Prop := xs.length = ps.length ∧ ∀ (j : Nat) (x : V) (q : Int × Int), xs[j]? = some x → ps[j]? = some q → ∃ b, x = .ref b ∧ H b = some (.tup [.int q.1, .int q.2])
/-- a op1 b op2 c op3 d, as a test -/
def tChain3 (r r' r'' : R2) (ta tb tc td : TE) : TE := fun σ H Q => ta σ H fun x H1 => tb σ H1 fun y H2 => r x y H2 fun z H3 => ∃ k, z = .bl k ∧
  (if k = true then tc σ H3 fun w' H4 => r' y w' H4 fun z2 H5 => ∃ k2, z2 = .bl k2 ∧ (if k2 = true then td σ H5 fun w'' H6 => r'' w' w'' H6 Q else Q (.bl false) H5) else Q (.bl false) H3)
variable {a b c d : Expr} {ta tb tc td : TE} {pos : Pos}
theorem pt_chain3 {op op' op'' : CmpOp} {r r' r'' : R2} (ho : OpR X (compareOp op) r) (ho' : OpR X (compareOp op') r') (ho'' : OpR X (compareOp op'') r'') (ha : PE X a ta) (hb : PE X b tb) (hc : PE X c tc) (hd : PE X d td)
    (hm : lastMarks [op, op', op''] [b, c, d] = false := by with_unfolding_all rfl) : PT X (.Compare a [op, op', op''] [b, c, d] pos) (tTest (tChain3 r r' r'' ta tb tc td)) := by
  intro pins s σ H Q I h
  refine isTrue_chain (thn (ha pins s σ H _ I h) fun v s1 ⟨x, H1, I1, r1, q1⟩ => test_link (thn (hb pins s1 σ H1 _ I1 q1) fun u s2 ⟨y, H2, I2, r2, q2⟩ =>
    thn (ho pins s2 σ H2 x y v u _ I2 r1 r2 q2) fun d' s3 ⟨z, H3, I3, r3, k, e, q3⟩ => ?_)) hm
  subst e
  cases r3
  refine wpAny_truthy_bool ?_
  cases k with
  | false =>
    obtain ⟨k', e', q'⟩ := q3
    cases e'
    exact ite_ff ⟨H3, I3, q'⟩
  | true =>
    refine ite_tt (test_link (thn (hc pins s3 σ H3 _ I3 q3) fun w' s4 ⟨z', H4, I4, r4, q4⟩ => thn (ho' pins s4 σ H4 y z' u w' _ I4 r2 r4 q4) fun d2 s5 ⟨z2, H5, I5, r5, k2, e2, q5⟩ => ?_))
    subst e2
    cases r5
    refine wpAny_truthy_bool ?_
    cases k2 with
    | false =>
      obtain ⟨k', e', q'⟩ := q5
      cases e'
      exact ite_ff ⟨H5, I5, q'⟩
    | true =>
      refine ite_tt (test_last (thn (hd pins s5 σ H5 _ I5 q5) fun w'' s6 ⟨z'', H6, I6, r6, q6⟩ => thn (ho'' pins s6 σ H6 z' z'' w' w'' _ I6 r4 r6 q6) fun d3 s7 ⟨z3, H7, I7, r7, k3, e3, q7⟩ => ?_))
      subst e3
      cases r7
      exact wpAny_truthy_bool ⟨H7, I7, q7⟩
end
end L2
/-! my own rules over the layer: isinstance of any tuple; isinstance(x, (int, str)) of a number or a text -/
namespace L2
open PySem PySem.Spec PyProof.Rows
section
variable {X : Cx} {K : PySem.W.Frag}
end
end L2
/-! (x,) * n -/
namespace L2
open PySem PySem.Spec PyProof.Rows
section
variable {X : Cx}
end
end L2
/-! exceptions: try, one of three calls by two tests; except C as n -/
namespace L2
open PySem PySem.Spec PyProof.Rows
section
variable {X : Cx} {i : Nat} {C2 : Addr} {cx n : Str} {p2 hpos pos : Pos} {b₀ : Stmt} {suite : List Stmt} {u : TS}
variable {k0 k1 k2 : Nat} {f0 f1 f2 : Str} {ps0 ps1 ps2 : List Str} {sp0 sp1 sp2 : Sp} {e0 e1 e2 : Expr} {es0 es1 es2 : List Expr} {t0 t1 t2 : TA} {np0 np1 np2 cp0 cp1 cp2 ep0 ep1 ep2 ip0 ip1 : Pos} {c0 c1 : Expr} {g0 g1 : TT}
/-- the reading of: try: if a: f(..) elif b: g(..) else: h(..), except C as n: suite -/
def tTryIf (K : PySem.W.Frag) (C2 : Addr) (i : Nat) (g0 : TT) (sp0 : Sp) (t0 : TA) (g1 : TT) (sp1 : Sp) (t1 : TA) (sp2 : Sp) (t2 : TA) (u : TS) : TS := fun D σ H => g0 σ H fun b H0 => if b = true then tTry K sp0 C2 i t0 u D σ H0 else
  g1 σ H0 fun b' H1 => if b' = true then tTry K sp1 C2 i t1 u D σ H1 else tTry K sp2 C2 i t2 u D σ H1
theorem try_exc {pins : List (Addr × Obj)} {σ : St} {H1 : Hp} {s1 s' : Shared} {ev : Value} {D : Ends} (hst : X.stack = X.env :: X.outer) (hfm : X.env.frame = some X.env.locals)
    (hgc : Gl X cx) (hmc : X.mg cx = some (.ref C2)) (hN : X.N.Nodup) (hi : X.N[i]? = some n) (hkn : X.env.scope.names.lookup n = some .local) (hu : ∀ x, PSs (X.hand x) (b₀ :: suite) u) (hdc : (cx == ("__debug__" : Str)) = false) (ok : X.Ok) (I1 : Inv X pins σ H1 s1)
    (hx : CX1 X.prog X.w X.stack H1 s1 (fun cls dd H2 => PySem.W.exmOne X.K cls (.ref C2) = some true ∧ ∀ x, H2 x = none → u { nx := fun σ' H' => D.nx (σ'.set i none) H', rt := D.rt, bk := fun σ' H' => D.bk (σ'.set i none) H', ct := fun σ' H' => D.ct (σ'.set i none) H' } (σ.set i (some (.ref x))) (upd H2 x (ExcO x cls dd))) ev s') :
    wpAny (model X.prog X.w) X.A (noteFrame ev X.env) (fun _ s₂ => wpAny (model X.prog X.w) X.A (setFlight ev none) (fun _ s₃ => wpAny (model X.prog X.w) X.A (handleBy ev X.env [.ExceptHandler (some (.Name cx p2)) (some n) (b₀ :: suite) hpos]) (SP X pins D) X.xe s₃) X.xe s₂) X.xe s' := by
  obtain ⟨x, cls, dd, n1, H2, rfl, O, hm1, hq⟩ := hx
  have J1 : Inv X pins σ H2 s' := I1.call' (ch := []) O.os O.un O.hok O.bare fun b z => absurd z (by simp)
  have st := J1.stack
  rw [hst] at st
  have hfr := J1.ok.frames
  rw [hst] at hfr
  have nr : ∀ h', Fly n1 (frs X.stack) x s'.heap h' → ∀ T oT ts, h'.get? T = some oT → oT.data = .fields ts → T ∉ frs X.stack := fun h' f T oT ts h1 h2 hb => by
    obtain ⟨_, o, h3, h4⟩ := J1.stack.mem hb
    obtain ⟨sl, h5⟩ := f.slot T o h3 hb
    rw [h5] at h1
    cases h1
    exact h4 ts h2
  -- any heap that came of notes
  have later : ∀ (h' : Heap) (tk : Nat), Fly n1 (frs X.stack) x s'.heap h' → Inv X pins σ H2 { s' with heap := h', toks := tk } := fun h' tk f =>
    I1.call' (s' := { s' with heap := h', toks := tk }) (ch := []) O.os (O.un.fly f (fun b hb => .inl hb) O.new O.old) (O.hok.fly f O.low O.free J1.stkFree) O.bare fun b z => absurd z (by simp)
  refine note_next hfr st hfm O.exc fun h1 f1 e1 => ?_
  rw [← hst] at f1
  refine flight none (nr h1 f1) e1 fun h2 f2 e2 => ?_
  have f12 := f1.trans f2
  have J2 := later h2 s'.toks f12
  refine wpAny_handleBy_cons (codeAny_handlers_test ?_) (by intro q; cases q)
  have J2h : Inv (X.hand x) pins σ H2 { s' with heap := h2, toks := s'.toks } := J2.hand
  refine ld_glob J2h hgc hmc ?_ hdc
  have LT : PySem.W.Looks (model X.prog X.w) h2 (typeOf (.ref x)) cls := by
    obtain ⟨oe, vs, T, oT, ts, ⟨z1, z2, _⟩, _⟩ := e2
    rw [← z2]
    exact (PySem.W.Looks.ld z1).andThen .now
  refine (PySem.W.exm_one J2.kIn LT hm1).here ?_
  refine codeAny_handlers_suite_as (flight none (nr h2 f12) e2 fun h3 f3 e3 => ?_)
  have f13 := f12.trans f3
  have J3 : Inv X pins σ (upd H2 x (ExcO x cls dd)) { s' with heap := h3 } :=
    I1.call' (s' := { s' with heap := h3 }) (ch := []) O.os ((O.un.fly f13 (fun b hb => .inl hb) O.new O.old).track O.new (I1.newFree O.new)) ((O.hok.fly f13 O.low O.free J1.stkFree).track O.free e3.seen) O.bare fun b z => absurd z (by simp)
  refine store_ok (X := X.hand x) J3.hand hN hi (.inl hkn) (v := .ref x) rfl (fun s4 J4 => ?_) (.inr hkn)
  refine wpAny_mono (hu x pins s4 _ _ _ J4 (hq x O.free)) (fun fl s5 h5 => ?_) fun _ _ z => z.elim
  cases fl with
  | next =>
    obtain ⟨σ', H', J5, q5⟩ := h5
    exact gone_ok (J5.unhand ok) hN hi hkn fun s6 J6 => ⟨_, H', J6, q5⟩
  | brk =>
    obtain ⟨σ', H', J5, q5⟩ := h5
    exact gone_ok (J5.unhand ok) hN hi hkn fun s6 J6 => ⟨_, H', J6, q5⟩
  | cont =>
    obtain ⟨σ', H', J5, q5⟩ := h5
    exact gone_ok (J5.unhand ok) hN hi hkn fun s6 J6 => ⟨_, H', J6, q5⟩
  | ret v =>
    obtain ⟨xv, σ', H', J5, r5, q5⟩ := h5
    exact gone_ok (J5.unhand ok) hN hi hkn fun s6 J6 => ⟨xv, _, H', J6, r5, q5⟩
end
end L2
/-! exceptions: try y = f(..) except C as n -/
namespace L2
open PySem PySem.Spec PyProof.Rows
section
variable {X : Cx} {k i j : Nat} {C2 : Addr} {ps : List Str} {sp : Sp} {fx cx n y : Str} {p p2 yp cpos epos hpos pos : Pos} {e : Expr} {es : List Expr} {t : TA} {b₀ : Stmt} {suite : List Stmt} {u : TS}
/-- the reading of try: y = f(..) except C as n: suite -/
def tTryS (K : PySem.W.Frag) (sp : Sp) (C2 : Addr) (j i : Nat) (t : TA) (u : TS) : TS := fun D σ H => t σ H fun vs H1 => sp vs H1 (fun v H2 => D.nx (σ.set j (some v)) H2) fun cls dd H2 =>
  PySem.W.exmOne K cls (.ref C2) = some true ∧ ∀ x, H2 x = none → u { nx := fun σ' H' => D.nx (σ'.set i none) H', rt := D.rt, bk := fun σ' H' => D.bk (σ'.set i none) H', ct := fun σ' H' => D.ct (σ'.set i none) H' } (σ.set i (some (.ref x))) (upd H2 x (ExcO x cls dd))
end
end L2
namespace RV
open PySem PyProof.Rows
section
variable {prog : Program} {w : World} {A : Around} {E : Value → Shared → Prop} {s : Shared}
def rvObj (l : Addr) (i : Int) : Obj := { cls := .type "reversed", data := .fields #[.ref l, rawInt i] }
def IsRv (h : Heap) (a l : Addr) (i : Int) : Prop := ∃ o, h.get? a = some o ∧ o.cls = .type "reversed" ∧ o.data = .fields #[.ref l, rawInt i]
end
end RV
/-! my own rules over the layer: tuple(reversed(t)) of a tuple -/
namespace L2
open PySem PySem.Spec PyProof.Rows
section
variable {X : Cx}
/-- tuple(reversed(t)) -/
def tTR (K : PySem.W.Frag) (ta : TA) : TE := fun σ H Q => ta σ H fun vs H1 => ∃ (a : Addr) (xs : List V), vs = [.ref a] ∧ SqT K H1 a xs ∧ xs.length ≤ 1000 ∧ ∀ l H', Same H1 H' → TupF H' l xs.reverse → Q (.ref l) H'
end
end L2
/-! my own rules over the layer: (a, b, ..) = a list of that length -/
namespace L2
open PySem PySem.Spec PyProof.Rows
section
variable {X : Cx}
def gLst (K : PySem.W.Frag) (n : Nat) (t : TGs) : TG := fun v σ H Q => ∃ a xs, v = .ref a ∧ SqL K H a xs ∧ xs.length = n ∧ t xs σ H Q
end
end L2
/-! my own rules over the layer: a def that raises and calls itself; a call whose exception passes through -/
namespace L2
open PySem PySem.Spec PyProof.Rows
section
variable {P : Program} {w : World} {K : PySem.W.Frag} {mg : Str → Option Value} {base : Heap}
end
section
variable {X : Cx} {E : XK} {k : Nat} {x : Str} {ps : List Str} {sp : Sp} {p pos : Pos} {e : Expr} {es : List Expr} {t : TA}
/-- f(..), f a def of the top that may raise: what it raises leaves this body -/
theorem pe_fnX (l : Lv X E) (c : CalX X.prog X.w X.K X.mg X.base k x ps sp) (hr : Room k X.A) (hg : Gl X x) (ha : PA X (e :: es) t) (hdb : (x == ("__debug__" : Str)) = false := by decide)
    (he : starEach (e :: es) X.env = (false, eval e X.env) :: starEach es X.env := by rfl) (hpl : (backTo pos (starEach es X.env)).any (·.1) = false := by rfl) :
    PE X (.Call (.Name x p) (e :: es) [] pos) (tCall sp [] E t) := by
  obtain ⟨f, fd, F, B, kp, m⟩ := c.ex
  exact pe_call F hr hg m kp B .nil (pass1 l) ha hdb he hpl
end
end L2
namespace L2
open PySem PySem.Spec PyProof.Rows
section
variable {X : Cx} {st : Stmt} {t : TS}
/-- a statement, and what is known behind it, said on its own -/
def tJoin (t : TS) : TS := fun D σ H => ∃ R : St → Hp → Prop, t { D with nx := R } σ H ∧ ∀ σ' H', R σ' H' → D.nx σ' H'
end
end L2
namespace L2
open PySem
end L2
namespace L2
open PySem PySem.Spec PyProof.Rows
section
variable {X : Cx}
end
end L2
/-! xs.count(x), xs.index(x) of a list of flat things -/
namespace L2
open PySem PySem.Spec PyProof.Rows
section
variable {X : Cx}
/-- xs.count(x), flat things -/
theorem mt_countL : MtR X "list.count" (fun x xs H Q => ∃ a ys v, x = .ref a ∧ xs = [v] ∧ SqL X.K H a ys ∧ flatV v = true ∧ ys.all flatV = true ∧ Q (.int (ys.countP fun y => eqV y v : Nat)) H) := by
  intro pins s σ H x xs v us Q I rx rv h
  obtain ⟨a, ys, y, rfl, rfl, ha, f1, f2, q⟩ := h
  cases rx
  obtain ⟨u, rfl, ru⟩ := rv.one
  obtain ⟨its, r, p, hz⟩ := I.list ha
  obtain ⟨⟨cls, dd, data, sl⟩, ho, hc, n, hd⟩ := id p.isList
  simp only at hc hd
  subst hc hd
  refine call_meets F.slot_list_count ⟨_, ho, rfl⟩ F.entry_list_count (F.args_list_count_2 _ _) (SeqAt.list_countAt a its.toArray n dd sl u (eqU y)) ⟨ho, fun z hz => mem_eqAt ru f1 r f2 z (by simpa using hz), ?_⟩
  refine ⟨.int (ys.countP fun y' => eqV y' y : Nat), H, I.tok _, ?_, q⟩
  rw [← countP_eqU r f2]
  exact ⟨_, rfl⟩
end
end L2
/-! my own rules over the layer: slices of lists and xs.count(x) of whole numbers, also where the context is another -/
namespace L2
open PySem PySem.Spec PyProof.Rows
section
variable {X : Cx} {K : PySem.W.Frag}
end
end L2
/-! my own rules over the layer: x != y where both are None or both are alike -/
namespace L2
open PySem PySem.Spec PyProof.Rows
section
variable {X : Cx}
end
end L2
/-! my own rules over the layer: defs under another name; methods of an own class, as callers know them -/
namespace L2
open PySem PySem.Spec PyProof.Rows
/-- a def of the top that a second name names, too -/
structure DefA (K : PySem.W.Frag) (mg : Str → Option Value) (al x : Str) (st : Stmt) (ps : List Str) : Prop where
  ex : ∃ (f : Addr) (fd : FuncData), Fun K x x st f fd ∧ (∀ us : List Value, us.length = ps.length → bindArgs fd ⟨us, []⟩ = pure (ps.zip us)) ∧ mg al = some (.ref f)
theorem defA_mk {K : PySem.W.Frag} {h : Heap} {mg : Str → Option Value} {al x : Str} {st : Stmt} {ps : List Str} {f : Addr} {oc : Value} {od an : Option Addr} {osl : Array (Option Value)} {kV doc pm cdv ct : Value}
    (KX : K.In h) (G : h.Ns mainGlobals mg) (a : PySem.W.nsIn K mainGlobals al = some (some (.ref f)))
    (l : K.lookup f = some ⟨oc, od, .func (PySem.W.fnOf x x (defArgs st) (defBody st) (defScope st) .none kV doc pm an cdv ct), osl⟩)
    (c : PySem.W.codeIn K cdv x = true) (k : PySem.W.keepIn K (.ref f) = true)
    (b : ∀ (kV doc pm : Value) (an : Option Addr) (cdv ct : Value) (us : List Value), us.length = ps.length → bindArgs (PySem.W.fnOf x x (defArgs st) (defBody st) (defScope st) .none kV doc pm an cdv ct) ⟨us, []⟩ = pure (ps.zip us)) :
    DefA K mg al x st ps := ⟨f, _, fun_mk l c k, b kV doc pm an cdv ct, PySem.W.mg_of KX G a⟩
/-- a method of an own class -/
structure MDef (K : PySem.W.Frag) (C : Addr) (m qual : Str) (st : Stmt) (ps : List Str) : Prop where
  ex : ∃ (f : Addr) (fd : FuncData), Meth K C m f ∧ Fun K m qual st f fd ∧ ∀ us : List Value, us.length = ps.length → bindArgs fd ⟨us, []⟩ = pure (ps.zip us)
structure MCal (P : Program) (w : World) (K : PySem.W.Frag) (mg : Str → Option Value) (base : Heap) (k : Nat) (C : Addr) (m : Str) (ps : List Str) (sp : Sp) : Prop where
  cl : Cls K C
  ex : ∃ (f : Addr) (fd : FuncData), Meth K C m f ∧ FnOk P w K mg base CX0 k f fd ps sp ∧ Binds K fd ps []
/-- an own class, made by its __init__ -/
structure IDef (K : PySem.W.Frag) (C : Addr) (qual : Str) (st : Stmt) (ps : List Str) : Prop where
  ex : ∃ (f : Addr) (fd : FuncData), Mk K C f ∧ Fun K "__init__" qual st f fd ∧ ∀ us : List Value, us.length = ps.length → bindArgs fd ⟨us, []⟩ = pure (ps.zip us)
structure ICal (P : Program) (w : World) (K : PySem.W.Frag) (mg : Str → Option Value) (base : Heap) (k : Nat) (C : Addr) (ps : List Str) (sp : Sp) : Prop where
  ex : ∃ (f : Addr) (fd : FuncData), Mk K C f ∧ FnOk P w K mg base CX0 k f fd ps sp ∧ Binds K fd ps []
section
variable {P : Program} {w : World} {K : PySem.W.Frag} {mg : Str → Option Value} {base : Heap} {k : Nat} {C : Addr} {al x m qual : Str} {st : Stmt} {ps : List Str} {sp : Sp}
theorem DefA.recur {sp : Nat → Sp} (d : DefA K mg al x st ps) {k : Nat} (n : Nat)
    (step : ∀ e, e ≤ n → Cal P w K mg base (e + k) al ps (prevSp sp e) → ∀ (f : Addr) (fd : FuncData), Fun K x x st f fd → FnOk P w K mg base CX0 (e + (k + 1)) f fd ps (sp e)) :
    Cal P w K mg base (n + (k + 1)) al ps (fun vs H Q E => ∃ e, e ≤ n ∧ sp e vs H Q E) := by
  obtain ⟨f, fd, h1, h2, h3⟩ := d.ex
  have all : ∀ e, e ≤ n → FnOk P w K mg base CX0 (e + (k + 1)) f fd ps (sp e) := by
    intro e
    induction e with
    | zero => exact fun he => step 0 he ⟨f, fd, ⟨fun _ _ _ _ h => h.elim, fun _ _ _ _ _ _ _ _ _ _ _ _ _ h => h.elim⟩, .all h2, h1.kp, h3⟩ f fd h1
    | succ e ih => exact fun he => step (e + 1) he ⟨f, fd, (ih (by omega)).mono (by omega), .all h2, h1.kp, h3⟩ f fd h1
  refine ⟨f, fd, ⟨?_, ?_⟩, .all h2, h1.kp, h3⟩
  · rintro vs H Q E ⟨e, he, h⟩
    exact (all e he).len vs H Q E h
  · rintro A outer s H args us vs Q E hr he hb hv ⟨e, hle, h⟩
    exact (all e hle).run A outer s H args us vs Q E (hr.mono (by omega)) he hb hv h
theorem MDef.cal (d : MDef K C m qual st ps) (c : Cls K C) (F : ∀ (f : Addr) (fd : FuncData), Fun K m qual st f fd → FnOk P w K mg base CX0 k f fd ps sp) : MCal P w K mg base k C m ps sp := by
  obtain ⟨f, fd, h1, h2, h3⟩ := d.ex
  exact ⟨c, f, fd, h1, F f fd h2, .all h3⟩
theorem IDef.cal (d : IDef K C qual st ps) (F : ∀ (f : Addr) (fd : FuncData), Fun K "__init__" qual st f fd → FnOk P w K mg base CX0 k f fd ps sp) : ICal P w K mg base k C ps sp := by
  obtain ⟨f, fd, h1, h2, h3⟩ := d.ex
  exact ⟨f, fd, h1, F f fd h2, .all h3⟩
end
section
variable {X : Cx} {k : Nat} {C : Addr} {m x : Str} {ps : List Str} {sp : Sp} {p apos pos : Pos} {o e : Expr} {es : List Expr} {to : TE} {t : TA}
/-- o.m(..) -/
theorem pe_mth {pl : Sem Bool} (c : MCal X.prog X.w X.K X.mg X.base k C m ps sp) (hr : Room k X.A) (ho : PE X o to) (ha : PA X (e :: es) t)
    (hst : starEach (e :: es) X.env = (false, eval e X.env) :: starEach es X.env := by rfl) (hpl : (backTo pos (starEach es X.env)).any (·.1) = false := by rfl)
    (ht : eval (.Call (.Attribute o m apos) (e :: es) [] pos) X.env = (do
      let ov ← eval o X.env
      standAt apos.atName
      let (f, first) ← holding [ov] (getMethod ov m pl)
      callWith pos f first (backTo pos (starEach (e :: es) X.env)) (backToKw pos (keywordEach [] X.env))) := by rfl) :
    PE X (.Call (.Attribute o m apos) (e :: es) [] pos) (tMeth C m sp [] E0 to t) := by
  obtain ⟨f, fd, hm, F, B⟩ := c.ex
  exact pe_meth ho c.cl hm F hr B .nil pass0 ha hst hpl ht
theorem pe_mth0 {pl : Sem Bool} (c : MCal X.prog X.w X.K X.mg X.base k C m ps sp) (hr : Room k X.A) (ho : PE X o to)
    (ht : eval (.Call (.Attribute o m apos) [] [] pos) X.env = (do
      let ov ← eval o X.env
      standAt apos.atName
      let (f, first) ← holding [ov] (getMethod ov m pl)
      callWith pos f first (backTo pos (starEach [] X.env)) (backToKw pos (keywordEach [] X.env))) := by rfl) :
    PE X (.Call (.Attribute o m apos) [] [] pos) (tMeth C m sp [] E0 to tNil) := by
  obtain ⟨f, fd, hm, F, B⟩ := c.ex
  exact pe_meth0 ho c.cl hm F hr B .nil pass0 ht
/-- C(..) -/
theorem pe_mk (c : ICal X.prog X.w X.K X.mg X.base k C ps sp) (hr : Room (k + 1) X.A) (hg : Gl X x) (hm : X.mg x = some (.ref C)) (ha : PA X (e :: es) t) (hdb : (x == ("__debug__" : Str)) = false := by decide)
    (he : starEach (e :: es) X.env = (false, eval e X.env) :: starEach es X.env := by rfl) (hpl : (backTo pos (starEach es X.env)).any (·.1) = false := by rfl) :
    PE X (.Call (.Name x p) (e :: es) [] pos) (tMake C sp [] E0 t) := by
  obtain ⟨f, fd, M, F, B⟩ := c.ex
  exact pe_make M F hr hg hm B .nil pass0 ha hdb he hpl
end
end L2
/-! methods that raise; try over what is chosen by tests -/
namespace L2
open PySem PySem.Spec PyProof.Rows
structure MCalX (P : Program) (w : World) (K : PySem.W.Frag) (mg : Str → Option Value) (base : Heap) (k : Nat) (C : Addr) (m : Str) (ps : List Str) (sp : Sp) : Prop where
  cl : Cls K C
  ex : ∃ (f : Addr) (fd : FuncData), Meth K C m f ∧ FnOk P w K mg base (CX1 P w) k f fd ps sp ∧ Binds K fd ps []
section
variable {P : Program} {w : World} {K : PySem.W.Frag} {mg : Str → Option Value} {base : Heap} {k : Nat} {C : Addr} {al x m qual : Str} {st : Stmt} {ps : List Str} {sp : Sp}
theorem MDef.calx (d : MDef K C m qual st ps) (c : Cls K C) (F : ∀ (f : Addr) (fd : FuncData), Fun K m qual st f fd → FnOk P w K mg base (CX1 P w) k f fd ps sp) : MCalX P w K mg base k C m ps sp := by
  obtain ⟨f, fd, h1, h2, h3⟩ := d.ex
  exact ⟨c, f, fd, h1, F f fd h2, .all h3⟩
theorem DefA.calx (d : DefA K mg al x st ps) (F : ∀ (f : Addr) (fd : FuncData), Fun K x x st f fd → FnOk P w K mg base (CX1 P w) k f fd ps sp) : CalX P w K mg base k al ps sp := by
  obtain ⟨f, fd, h1, h2, h3⟩ := d.ex
  exact ⟨f, fd, F f fd h1, .all h2, h1.kp, h3⟩
theorem MCalX.cal {sp' : Sp} (c : MCalX P w K mg base k C m ps sp) (h : ∀ vs H Q E, sp' vs H Q E → sp vs H Q E0) : MCal P w K mg base k C m ps sp' := by
  obtain ⟨f, fd, M, F, B⟩ := c.ex
  refine ⟨c.cl, f, fd, M, ⟨fun vs H Q E q => F.len vs H Q E0 (h vs H Q E q), fun A outer s H args us vs Q E hr he hb hv hs => codeAny_mono (F.run A outer s H args us vs Q E0 hr he hb hv (h _ _ _ _ hs)) fun r s' q => ?_⟩, B⟩
  cases r with
  | error e =>
    obtain ⟨_, _, _, _, _, _, _, z⟩ := (show CX1 P w outer H s E0 e s' from q)
    exact z.elim
  | ok fl =>
    cases fl with
    | ret u => exact q
    | next => exact q
    | brk => exact q
    | cont => exact q
end
section
variable {X : Cx} {E : XK} {k : Nat} {C : Addr} {m x : Str} {ps : List Str} {sp : Sp} {p apos pos : Pos} {o e : Expr} {es : List Expr} {to : TE} {t : TA}
/-- o.m(..), a method that may raise: what it raises leaves this body -/
theorem pe_mthX {pl : Sem Bool} (l : Lv X E) (c : MCalX X.prog X.w X.K X.mg X.base k C m ps sp) (hr : Room k X.A) (ho : PE X o to) (ha : PA X (e :: es) t)
    (hst : starEach (e :: es) X.env = (false, eval e X.env) :: starEach es X.env := by rfl) (hpl : (backTo pos (starEach es X.env)).any (·.1) = false := by rfl)
    (ht : eval (.Call (.Attribute o m apos) (e :: es) [] pos) X.env = (do
      let ov ← eval o X.env
      standAt apos.atName
      let (f, first) ← holding [ov] (getMethod ov m pl)
      callWith pos f first (backTo pos (starEach (e :: es) X.env)) (backToKw pos (keywordEach [] X.env))) := by rfl) :
    PE X (.Call (.Attribute o m apos) (e :: es) [] pos) (tMeth C m sp [] E to t) := by
  obtain ⟨f, fd, hm, F, B⟩ := c.ex
  exact pe_meth ho c.cl hm F hr B .nil (pass1 l) ha hst hpl ht
/-- the reading of a body that is tried -/
abbrev TB := St → Hp → (Hp → Prop) → XK → Prop
def PTB (X : Cx) (body : List Stmt) (T : TB) : Prop := ∀ (pins : List (Addr × Obj)) (s : Shared) (σ : St) (H : Hp) (N : Hp → Prop) (E : XK) (Q : Flow → Shared → Prop) (EX : Value → Shared → Prop), Inv X pins σ H s → T σ H N E →
  (∀ H1 s1, Inv X pins σ H1 s1 → N H1 → Q .next s1) → (∀ H1 s1 ev s', Inv X pins σ H1 s1 → CX1 X.prog X.w X.stack H1 s1 E ev s' → EX ev s') → wpAny (model X.prog X.w) X.A (execs body X.env) Q EX s
def tbM (C : Addr) (m : Str) (sp : Sp) (to : TE) (t : TA) : TB := fun σ H N E => to σ H fun x H1 => ∃ a dx fs, x = .ref a ∧ H1 a = some (.ins C dx fs) ∧ fs.lookup m = none ∧ t σ H1 fun vs H2 => sp (x :: vs) H2 (fun _ H3 => N H3) E
def tbIf (g : TT) (T U : TB) : TB := fun σ H N E => g σ H fun b H1 => if b = true then T σ H1 N E else U σ H1 N E
theorem tb_mth {pl : Sem Bool} {ep : Pos} (c : MCalX X.prog X.w X.K X.mg X.base k C m ps sp) (hr : Room k X.A) (ho : PE X.nox o to) (ha : PA X.nox (e :: es) t)
    (hst : starEach (e :: es) X.env = (false, eval e X.env) :: starEach es X.env := by rfl) (hpl : (backTo pos (starEach es X.env)).any (·.1) = false := by rfl)
    (ht : eval (.Call (.Attribute o m apos) (e :: es) [] pos) X.env = (do
      let ov ← eval o X.env
      standAt apos.atName
      let (f, first) ← holding [ov] (getMethod ov m pl)
      callWith pos f first (backTo pos (starEach (e :: es) X.env)) (backToKw pos (keywordEach [] X.env))) := by rfl)
    (hsw : swapsWith (.Call (.Attribute o m apos) (e :: es) [] pos) none ep.line X.env = pure false := by rfl) :
    PTB X [.Expr (.Call (.Attribute o m apos) (e :: es) [] pos) ep] (tbM C m sp to t) := by
  intro pins s σ H N E Q EX I h hn hx
  obtain ⟨f, fd, hm, F, B⟩ := c.ex
  have hc : wpAny (model X.prog X.w) X.A (eval (.Call (.Attribute o m apos) (e :: es) [] pos) X.env) (EP X pins σ fun _ H3 => N H3) EX s := by
    refine PySem.W.methodCall_KW (pl := pl) (wpAny_mono (ho pins s σ H _ (I.wish _) h) (fun u s1 ⟨x, H1, I1, rx, a, dx, fs, ex, ea, l, q⟩ => ?_) fun _ _ z => z.elim) ht
    subst ex
    obtain rfl : u = Value.ref a := rx
    have J1 := I1.unwish
    refine getmeth_ok J1 ea c.cl hm l ?_
    refine PySem.W.callWith_K (first := [.ref a]) (h₀ := X.base) I.ok.mod.kin hm.kp (wpAny_mono (ha pos pins s1 σ H1 _ (J1.wish _) q) (fun us s2 ⟨vs, H2, I2, r, q2⟩ => ⟨I2.unwish.kIn, ?_⟩) fun _ _ z => z.elim) hst hpl
    have J := I2.unwish
    have hl : (Value.ref a :: us).length = ps.length := by
      have z := F.len _ _ _ _ q2
      rw [← z]
      show us.length + 1 = vs.length + 1
      rw [r.length]
    have hb' : BindsTo s2 fd ⟨.ref a :: us, []⟩ (ps.zip (.ref a :: us)) := by
      have z := B s2 (.ref a :: us) J.kIn (by rw [List.append_nil]; exact hl)
      rwa [List.append_nil] at z
    refine wpAny_call (codeAny_mono (F.run X.A X.stack s2 H2 ⟨.ref a :: us, []⟩ (.ref a :: us) (.ref a :: vs) _ E hr J.env0 hb' (.cons rfl r) q2) fun r s' hq => ?_)
    cases r with
    | error ev => exact hx H2 s2 ev s' J hq
    | ok fl =>
      cases fl with
      | ret v => exact J.after hq
      | next => exact False.elim hq
      | brk => exact False.elim hq
      | cont => exact False.elim hq
  exact wpAny_execs_cons (wpAny_Expr_any (wpAny_mono hc (fun v s1 ⟨xv, H1, I1, r1, q1⟩ => wpAny_execs_nil (hn H1 s1 I1 q1)) fun _ _ z => z) I.quiet hsw)
theorem tb_if {c : Expr} {g : TT} {A B : List Stmt} {T U : TB} {ip : Pos} (hg : PT X.nox c g) (hA : PTB X A T) (hB : PTB X B U) : PTB X [.If c A B ip] (tbIf g T U) := by
  intro pins s σ H N E Q EX I h hn hx
  refine wpAny_execs_cons (wpAny_If (wpAny_mono (hg pins s σ H _ (I.wish _) h) (fun b sA ⟨HA, IA, qA⟩ => ?_) fun _ _ z => z.elim))
  have IA := IA.unwish
  cases b with
  | true =>
    rw [if_pos rfl] at qA ⊢
    exact hA pins sA σ HA N E _ EX IA qA (fun H1 s1 I1 q1 => wpAny_execs_nil (hn H1 s1 I1 q1)) hx
  | false =>
    rw [if_neg Bool.false_ne_true] at qA ⊢
    exact hB pins sA σ HA N E _ EX IA qA (fun H1 s1 I1 q1 => wpAny_execs_nil (hn H1 s1 I1 q1)) hx
variable {i : Nat} {C2 : Addr} {cx n : Str} {p2 hpos : Pos} {b₀ : Stmt} {suite : List Stmt} {u : TS} {body : List Stmt} {T : TB}
/-- the reading of: try: body, except C as n: suite -/
def tTryB (K : PySem.W.Frag) (C2 : Addr) (i : Nat) (T : TB) (u : TS) : TS := fun D σ H => T σ H (fun H2 => D.nx σ H2) fun cls dd H2 =>
  PySem.W.exmOne K cls (.ref C2) = some true ∧ ∀ x, H2 x = none → u { nx := fun σ' H' => D.nx (σ'.set i none) H', rt := D.rt, bk := fun σ' H' => D.bk (σ'.set i none) H', ct := fun σ' H' => D.ct (σ'.set i none) H' } (σ.set i (some (.ref x))) (upd H2 x (ExcO x cls dd))
theorem ps_tryB (hst : X.stack = X.env :: X.outer) (hfm : X.env.frame = some X.env.locals) (hb : PTB X body T) (hgc : Gl X cx) (hmc : X.mg cx = some (.ref C2)) (hN : X.N.Nodup) (hi : X.N[i]? = some n) (hkn : X.env.scope.names.lookup n = some .local) (hu : ∀ x, PSs (X.hand x) (b₀ :: suite) u) (hdc : (cx == ("__debug__" : Str)) = false := by decide) :
    PS X (.Try body [.ExceptHandler (some (.Name cx p2)) (some n) (b₀ :: suite) hpos] [] [] pos) (tTryB X.K C2 i T u) := by
  intro pins s σ H D I h
  refine wpAny_Try_except (hb pins s σ H _ _ _ _ I h (fun H1 s1 I1 q1 => ?nrm) fun H1 s1 ev s' I1 hx => ?exc)
  case nrm => exact wpAny_execs_nil ⟨σ, H1, I1, q1⟩
  case exc => exact try_exc hst hfm hgc hmc hN hi hkn hu hdc I.ok I1 hx
end
end L2
namespace My
open PySem L2

def top (i : Nat) : Stmt := PySem.Challenge.pw_manyleast_k54_makes_refused.main.body.getD i (.Pass ⟨0, 0, 0, 0⟩)
def clsBody : Stmt → List Stmt
  | .ClassDef _ _ _ b _ _ _ _ _ _ _ => b
  | _ => []
abbrev s_init : Stmt := (clsBody (top 2)).getD 0 (.Pass ⟨0, 0, 0, 0⟩)
theorem sc_init : FnScope ["self", "number"] ["self", "number"] (defScope s_init) := ⟨rfl, rfl, rfl, by decide +kernel, rfl, by decide +kernel, by decide +kernel⟩

abbrev s_many_worths : Stmt := top 9
abbrev s_top_of : Stmt := top 10
abbrev s_where : Stmt := top 11
abbrev s_way_of : Stmt := top 12
abbrev s_ahead : Stmt := top 14
abbrev s_tree_of : Stmt := top 16
abbrev s_grown : Stmt := top 17
abbrev s_half_of : Stmt := top 18
abbrev s_size_of : Stmt := top 19
abbrev s_row_of : Stmt := top 20
abbrev s_row_from : Stmt := top 21
abbrev s_merged : Stmt := top 22
abbrev s_number_at : Stmt := top 23
abbrev s_put_in : Stmt := top 25
abbrev s_with_way : Stmt := top 27
abbrev s_with_half : Stmt := top 28
abbrev s_taken_out : Stmt := top 29
abbrev s_without : Stmt := top 31
abbrev s_set_at : Stmt := top 32
abbrev s_cut_out : Stmt := top 37
abbrev s_joined : Stmt := top 39
abbrev s_turned : Stmt := top 41
abbrev s_flipped : Stmt := top 43
abbrev s_not_too_many : Stmt := top 47
abbrev s__law_pen : Stmt := top 49
abbrev s__law_mixed : Stmt := top 50
abbrev s__law_take : Stmt := top 51
abbrev s__law_bounds : Stmt := top 52
abbrev s__law_row : Stmt := top 53
abbrev s__law_class : Stmt := top 54
abbrev s__law_off : Stmt := top 55
abbrev s__law_done : Stmt := top 56
abbrev s__law_stretch : Stmt := top 57
abbrev s__law_case : Stmt := top 58
abbrev s__law_row_refused : Stmt := top 59
abbrev s_law : Stmt := top 60
abbrev s_I_Makes : Stmt := (clsBody (top 46)).getD 0 (.Pass ⟨0, 0, 0, 0⟩)
abbrev s_M_of_row : Stmt := (clsBody (top 46)).getD 1 (.Pass ⟨0, 0, 0, 0⟩)
abbrev s_M_put_in : Stmt := (clsBody (top 46)).getD 2 (.Pass ⟨0, 0, 0, 0⟩)
abbrev s_M_taken_out : Stmt := (clsBody (top 46)).getD 3 (.Pass ⟨0, 0, 0, 0⟩)
abbrev s_M_set_at : Stmt := (clsBody (top 46)).getD 4 (.Pass ⟨0, 0, 0, 0⟩)
abbrev s_M_cut_out : Stmt := (clsBody (top 46)).getD 5 (.Pass ⟨0, 0, 0, 0⟩)
abbrev s_M_joined : Stmt := (clsBody (top 46)).getD 6 (.Pass ⟨0, 0, 0, 0⟩)
abbrev s_M_turned : Stmt := (clsBody (top 46)).getD 7 (.Pass ⟨0, 0, 0, 0⟩)
abbrev s_M_flipped : Stmt := (clsBody (top 46)).getD 8 (.Pass ⟨0, 0, 0, 0⟩)
abbrev s_M_many : Stmt := (clsBody (top 46)).getD 9 (.Pass ⟨0, 0, 0, 0⟩)
abbrev s_M_tree : Stmt := (clsBody (top 46)).getD 10 (.Pass ⟨0, 0, 0, 0⟩)
abbrev s_M_row : Stmt := (clsBody (top 46)).getD 11 (.Pass ⟨0, 0, 0, 0⟩)
abbrev s_M_came_of : Stmt := (clsBody (top 46)).getD 12 (.Pass ⟨0, 0, 0, 0⟩)
abbrev s_M_stretch : Stmt := (clsBody (top 46)).getD 13 (.Pass ⟨0, 0, 0, 0⟩)
abbrev s_M_found : Stmt := (clsBody (top 46)).getD 14 (.Pass ⟨0, 0, 0, 0⟩)
abbrev s_M_keep : Stmt := (clsBody (top 46)).getD 15 (.Pass ⟨0, 0, 0, 0⟩)
theorem sc_many_worths : FnScope ["levels", "many", "level"] ["levels"] (defScope s_many_worths) := ⟨rfl, rfl, rfl, by decide +kernel, rfl, by decide +kernel, by decide +kernel⟩
theorem sc_top_of : FnScope ["bounds"] ["bounds"] (defScope s_top_of) := ⟨rfl, rfl, rfl, by decide +kernel, rfl, by decide +kernel, by decide +kernel⟩
theorem sc_where : FnScope ["bounds", "number"] ["bounds", "number"] (defScope s_where) := ⟨rfl, rfl, rfl, by decide +kernel, rfl, by decide +kernel, by decide +kernel⟩
theorem sc_way_of : FnScope ["bounds", "number", "least", "many", "way", "level"] ["bounds", "number"] (defScope s_way_of) := ⟨rfl, rfl, rfl, by decide +kernel, rfl, by decide +kernel, by decide +kernel⟩
theorem sc_ahead : FnScope ["marks", "mark", "place"] ["marks", "mark", "place"] (defScope s_ahead) := ⟨rfl, rfl, rfl, by decide +kernel, rfl, by decide +kernel, by decide +kernel⟩
theorem sc_tree_of : FnScope ["bounds", "row", "number"] ["bounds", "row"] (defScope s_tree_of) := ⟨rfl, rfl, rfl, by decide +kernel, rfl, by decide +kernel, by decide +kernel⟩
theorem sc_grown : FnScope ["least", "many", "row", "half", "middle", "marks", "lower", "upper"] ["least", "many", "row"] (defScope s_grown) := ⟨rfl, rfl, rfl, by decide +kernel, rfl, by decide +kernel, by decide +kernel⟩
theorem sc_half_of : FnScope ["tree", "mark"] ["tree", "mark"] (defScope s_half_of) := ⟨rfl, rfl, rfl, by decide +kernel, rfl, by decide +kernel, by decide +kernel⟩
theorem sc_size_of : FnScope ["tree"] ["tree"] (defScope s_size_of) := ⟨rfl, rfl, rfl, by decide +kernel, rfl, by decide +kernel, by decide +kernel⟩
theorem sc_row_of : FnScope ["bounds", "tree"] ["bounds", "tree"] (defScope s_row_of) := ⟨rfl, rfl, rfl, by decide +kernel, rfl, by decide +kernel, by decide +kernel⟩
theorem sc_row_from : FnScope ["least", "many", "tree", "half", "lower", "upper"] ["least", "many", "tree"] (defScope s_row_from) := ⟨rfl, rfl, rfl, by decide +kernel, rfl, by decide +kernel, by decide +kernel⟩
theorem sc_merged : FnScope ["marks", "lower", "upper", "row", "ones", "place", "mark"] ["marks", "lower", "upper"] (defScope s_merged) := ⟨rfl, rfl, rfl, by decide +kernel, rfl, by decide +kernel, by decide +kernel⟩
theorem sc_number_at : FnScope ["bounds", "tree", "place", "least", "many", "part", "inner", "mark"] ["bounds", "tree", "place"] (defScope s_number_at) := ⟨rfl, rfl, rfl, by decide +kernel, rfl, by decide +kernel, by decide +kernel⟩
theorem sc_put_in : FnScope ["bounds", "tree", "place", "number"] ["bounds", "tree", "place", "number"] (defScope s_put_in) := ⟨rfl, rfl, rfl, by decide +kernel, rfl, by decide +kernel, by decide +kernel⟩
theorem sc_with_way : FnScope ["tree", "way", "place", "turn", "marks", "half"] ["tree", "way", "place"] (defScope s_with_way) := ⟨rfl, rfl, rfl, by decide +kernel, rfl, by decide +kernel, by decide +kernel⟩
theorem sc_with_half : FnScope ["marks", "tree", "turn", "half"] ["marks", "tree", "turn", "half"] (defScope s_with_half) := ⟨rfl, rfl, rfl, by decide +kernel, rfl, by decide +kernel, by decide +kernel⟩
theorem sc_taken_out : FnScope ["bounds", "tree", "place", "number"] ["bounds", "tree", "place"] (defScope s_taken_out) := ⟨rfl, rfl, rfl, by decide +kernel, rfl, by decide +kernel, by decide +kernel⟩
theorem sc_without : FnScope ["tree", "place", "marks", "turn", "half"] ["tree", "place"] (defScope s_without) := ⟨rfl, rfl, rfl, by decide +kernel, rfl, by decide +kernel, by decide +kernel⟩
theorem sc_set_at : FnScope ["bounds", "tree", "place", "number"] ["bounds", "tree", "place", "number"] (defScope s_set_at) := ⟨rfl, rfl, rfl, by decide +kernel, rfl, by decide +kernel, by decide +kernel⟩
theorem sc_cut_out : FnScope ["stretch", "tree", "start", "end", "lower", "upper"] ["stretch"] (defScope s_cut_out) := ⟨rfl, rfl, rfl, by decide +kernel, rfl, by decide +kernel, by decide +kernel⟩
theorem sc_joined : FnScope ["one", "other"] ["one", "other"] (defScope s_joined) := ⟨rfl, rfl, rfl, by decide +kernel, rfl, by decide +kernel, by decide +kernel⟩
theorem sc_turned : FnScope ["tree"] ["tree"] (defScope s_turned) := ⟨rfl, rfl, rfl, by decide +kernel, rfl, by decide +kernel, by decide +kernel⟩
theorem sc_flipped : FnScope ["tree"] ["tree"] (defScope s_flipped) := ⟨rfl, rfl, rfl, by decide +kernel, rfl, by decide +kernel, by decide +kernel⟩
theorem sc_not_too_many : FnScope ["tree"] ["tree"] (defScope s_not_too_many) := ⟨rfl, rfl, rfl, by decide +kernel, rfl, by decide +kernel, by decide +kernel⟩
theorem sc__law_pen : FnScope ["_law_script", "_law_k", "_law_cell"] ["_law_script", "_law_k"] (defScope s__law_pen) := ⟨rfl, rfl, rfl, by decide +kernel, rfl, by decide +kernel, by decide +kernel⟩
theorem sc__law_mixed : FnScope ["_law_pen_here", "_law_number"] ["_law_pen_here"] (defScope s__law_mixed) := ⟨rfl, rfl, rfl, by decide +kernel, rfl, by decide +kernel, by decide +kernel⟩
theorem sc__law_take : FnScope ["_law_pen_here", "_law_size", "_law_found", "_law_wide"] ["_law_pen_here", "_law_size"] (defScope s__law_take) := ⟨rfl, rfl, rfl, by decide +kernel, rfl, by decide +kernel, by decide +kernel⟩
theorem sc__law_bounds : FnScope ["_law_pen_here", "_law_levels", "_law_way", "_law_low"] ["_law_pen_here"] (defScope s__law_bounds) := ⟨rfl, rfl, rfl, by decide +kernel, rfl, by decide +kernel, by decide +kernel⟩
theorem sc__law_row : FnScope ["_law_pen_here", "_law_bounds_here", "_law_longest", "_law_low", "_law_levels", "_law_size", "_law_way", "_law_few", "_law_row_here", "_law_k", "_law_spot"] ["_law_pen_here", "_law_bounds_here", "_law_longest"] (defScope s__law_row) := ⟨rfl, rfl, rfl, by decide +kernel, rfl, by decide +kernel, by decide +kernel⟩
theorem sc__law_class : FnScope ["_law_caught", "_law_kinds"] ["_law_caught"] (defScope s__law_class) := ⟨rfl, rfl, rfl, by decide +kernel, rfl, by decide +kernel, by decide +kernel⟩
theorem sc__law_off : FnScope ["_law_pen_here", "_law_low", "_law_top", "_law_far"] ["_law_pen_here", "_law_low", "_law_top"] (defScope s__law_off) := ⟨rfl, rfl, rfl, by decide +kernel, rfl, by decide +kernel, by decide +kernel⟩
theorem sc__law_done : FnScope ["_law_makes", "_law_way", "_law_make", "_law_first", "_law_second", "_law_caught", "e"] ["_law_makes", "_law_way", "_law_make", "_law_first", "_law_second"] (defScope s__law_done) := ⟨rfl, rfl, rfl, by decide +kernel, rfl, by decide +kernel, by decide +kernel⟩
theorem sc__law_stretch : FnScope ["_law_pen_here", "_law_many", "_law_start", "_law_way"] ["_law_pen_here", "_law_many"] (defScope s__law_stretch) := ⟨rfl, rfl, rfl, by decide +kernel, rfl, by decide +kernel, by decide +kernel⟩
theorem sc__law_case : FnScope ["_law_pen_here", "_law_bounds_here", "_law_many", "_law_row_here", "_law_way", "_law_first", "_law_number", "_law_last", "_law_start", "_law_end"] ["_law_pen_here", "_law_bounds_here", "_law_many", "_law_row_here"] (defScope s__law_case) := ⟨rfl, rfl, rfl, by decide +kernel, rfl, by decide +kernel, by decide +kernel⟩
theorem sc__law_row_refused : FnScope ["_law_makes", "_law_pen_here", "_law_bounds_here", "_law_row_here", "_law_first", "_law_at", "_law_caught", "e"] ["_law_makes", "_law_pen_here", "_law_bounds_here", "_law_row_here"] (defScope s__law_row_refused) := ⟨rfl, rfl, rfl, by decide +kernel, rfl, by decide +kernel, by decide +kernel⟩
theorem sc_law : FnScope ["_law_script", "_law_pen_here", "_law_bounds_here", "_law_row_here", "_law_makes", "_law_k", "_law_way", "_law_make", "_law_first", "_law_second", "_law_due"] ["_law_script"] (defScope s_law) := ⟨rfl, rfl, rfl, by decide +kernel, rfl, by decide +kernel, by decide +kernel⟩
theorem sc_I_Makes : FnScope ["self", "bounds"] ["self", "bounds"] (defScope s_I_Makes) := ⟨rfl, rfl, rfl, by decide +kernel, rfl, by decide +kernel, by decide +kernel⟩
theorem sc_M_of_row : FnScope ["self", "row"] ["self", "row"] (defScope s_M_of_row) := ⟨rfl, rfl, rfl, by decide +kernel, rfl, by decide +kernel, by decide +kernel⟩
theorem sc_M_put_in : FnScope ["self", "make", "place", "number", "tree"] ["self", "make", "place", "number"] (defScope s_M_put_in) := ⟨rfl, rfl, rfl, by decide +kernel, rfl, by decide +kernel, by decide +kernel⟩
theorem sc_M_taken_out : FnScope ["self", "make", "place", "told"] ["self", "make", "place"] (defScope s_M_taken_out) := ⟨rfl, rfl, rfl, by decide +kernel, rfl, by decide +kernel, by decide +kernel⟩
theorem sc_M_set_at : FnScope ["self", "make", "place", "number"] ["self", "make", "place", "number"] (defScope s_M_set_at) := ⟨rfl, rfl, rfl, by decide +kernel, rfl, by decide +kernel, by decide +kernel⟩
theorem sc_M_cut_out : FnScope ["self", "make", "start", "end"] ["self", "make", "start", "end"] (defScope s_M_cut_out) := ⟨rfl, rfl, rfl, by decide +kernel, rfl, by decide +kernel, by decide +kernel⟩
theorem sc_M_joined : FnScope ["self", "one", "other", "tree"] ["self", "one", "other"] (defScope s_M_joined) := ⟨rfl, rfl, rfl, by decide +kernel, rfl, by decide +kernel, by decide +kernel⟩
theorem sc_M_turned : FnScope ["self", "make"] ["self", "make"] (defScope s_M_turned) := ⟨rfl, rfl, rfl, by decide +kernel, rfl, by decide +kernel, by decide +kernel⟩
theorem sc_M_flipped : FnScope ["self", "make"] ["self", "make"] (defScope s_M_flipped) := ⟨rfl, rfl, rfl, by decide +kernel, rfl, by decide +kernel, by decide +kernel⟩
theorem sc_M_many : FnScope ["self"] ["self"] (defScope s_M_many) := ⟨rfl, rfl, rfl, by decide +kernel, rfl, by decide +kernel, by decide +kernel⟩
theorem sc_M_tree : FnScope ["self", "make"] ["self", "make"] (defScope s_M_tree) := ⟨rfl, rfl, rfl, by decide +kernel, rfl, by decide +kernel, by decide +kernel⟩
theorem sc_M_row : FnScope ["self", "make"] ["self", "make"] (defScope s_M_row) := ⟨rfl, rfl, rfl, by decide +kernel, rfl, by decide +kernel, by decide +kernel⟩
theorem sc_M_came_of : FnScope ["self", "make"] ["self", "make"] (defScope s_M_came_of) := ⟨rfl, rfl, rfl, by decide +kernel, rfl, by decide +kernel, by decide +kernel⟩
theorem sc_M_stretch : FnScope ["self", "make", "start", "end", "tree"] ["self", "make", "start", "end"] (defScope s_M_stretch) := ⟨rfl, rfl, rfl, by decide +kernel, rfl, by decide +kernel, by decide +kernel⟩
theorem sc_M_found : FnScope ["self", "make"] ["self", "make"] (defScope s_M_found) := ⟨rfl, rfl, rfl, by decide +kernel, rfl, by decide +kernel, by decide +kernel⟩
theorem sc_M_keep : FnScope ["self", "tree", "sources"] ["self", "tree", "sources"] (defScope s_M_keep) := ⟨rfl, rfl, rfl, by decide +kernel, rfl, by decide +kernel, by decide +kernel⟩
structure Bz (K : PySem.W.Frag) (mg : Str → Option Value) (cLeastError cBeyond cNoBounds cNoRow cNoSuch cNoText cTooMany cMakes cInit : Addr) : Prop where
  ValueError_ : mg "ValueError" = none
  enumerate_ : mg "enumerate" = none
  int_ : mg "int" = none
  isinstance_ : mg "isinstance" = none
  len_ : mg "len" = none
  list_ : mg "list" = none
  max_ : mg "max" = none
  min_ : mg "min" = none
  range_ : mg "range" = none
  tuple_ : mg "tuple" = none
  m_LeastError : mg "LeastError" = some (.ref cLeastError)
  m_Beyond : mg "Beyond" = some (.ref cBeyond)
  m_NoBounds : mg "NoBounds" = some (.ref cNoBounds)
  m_NoRow : mg "NoRow" = some (.ref cNoRow)
  m_NoSuch : mg "NoSuch" = some (.ref cNoSuch)
  m_NoText : mg "NoText" = some (.ref cNoText)
  m_TooMany : mg "TooMany" = some (.ref cTooMany)
  m_Makes : mg "Makes" = some (.ref cMakes)
  fnd : PySem.W.findIn K (.ref cBeyond) "__init__" = some (some (.ref cInit))
  ini : ∃ fd, Fun K "__init__" "Beyond.__init__" s_init cInit fd ∧ ∀ us : List Value, us.length = 2 → bindArgs fd ⟨us, []⟩ = pure ((["self", "number"] : List Str).zip us)
  own_Beyond : excInI K cBeyond bmVE "ValueError.__new__" cInit = true
  ecl : ECls K cBeyond
  fld : XFld K cBeyond "number"
  rdL : PySem.W.readsIn K cLeastError (.type "type") = true
  ttL : PySem.W.typeIn K (.ref cLeastError) = some (.type "type")
  fcL : PySem.W.findCls K (.ref cLeastError) (.type "type") "__init__" = some (.val (.builtin "ValueError.__init__"))
  exL : PySem.W.exmOne K (.ref cBeyond) (.ref cLeastError) = some true
  own_NoSuch : PySem.W.excIn K cNoSuch bmVE "ValueError.__new__" = true
  eclN : ECls K cNoSuch
  exN : PySem.W.exmOne K (.ref cNoSuch) (.ref cLeastError) = some true
  own_TooMany : PySem.W.excIn K cTooMany bmVE "ValueError.__new__" = true
  eclT : ECls K cTooMany
  exT : PySem.W.exmOne K (.ref cTooMany) (.ref cLeastError) = some true
  kBV : PySem.W.kitOne K (.ref cBeyond) (.type "ValueError") = some true
  kNV : PySem.W.kitOne K (.ref cNoSuch) (.type "ValueError") = some true
  kTV : PySem.W.kitOne K (.ref cTooMany) (.type "ValueError") = some true
  kBO : PySem.W.kitAny K (.ref cBeyond) [.ref cNoBounds, .ref cNoRow, .ref cNoText] = some false
  kNO : PySem.W.kitAny K (.ref cNoSuch) [.ref cNoBounds, .ref cNoRow, .ref cNoText] = some false
  kTO : PySem.W.kitAny K (.ref cTooMany) [.ref cNoBounds, .ref cNoRow, .ref cNoText] = some false
  kBB : PySem.W.kitOne K (.ref cBeyond) (.ref cBeyond) = some true
  kBN : PySem.W.kitOne K (.ref cBeyond) (.ref cNoSuch) = some false
  kBT : PySem.W.kitOne K (.ref cBeyond) (.ref cTooMany) = some false
  kNB : PySem.W.kitOne K (.ref cNoSuch) (.ref cBeyond) = some false
  kNN : PySem.W.kitOne K (.ref cNoSuch) (.ref cNoSuch) = some true
  kNT : PySem.W.kitOne K (.ref cNoSuch) (.ref cTooMany) = some false
  kTB : PySem.W.kitOne K (.ref cTooMany) (.ref cBeyond) = some false
  kTN : PySem.W.kitOne K (.ref cTooMany) (.ref cNoSuch) = some false
  kTT : PySem.W.kitOne K (.ref cTooMany) (.ref cTooMany) = some true
  nB : NoAttr K cMakes "bounds"
  nK : NoAttr K cMakes "kept"
  o_Makes : Cls K cMakes
  d_I_Makes : IDef K cMakes "Makes.__init__" s_I_Makes ["self", "bounds"]
  d_M_of_row : MDef K cMakes "of_row" "Makes.of_row" s_M_of_row ["self", "row"]
  d_M_put_in : MDef K cMakes "put_in" "Makes.put_in" s_M_put_in ["self", "make", "place", "number"]
  d_M_taken_out : MDef K cMakes "taken_out" "Makes.taken_out" s_M_taken_out ["self", "make", "place"]
  d_M_set_at : MDef K cMakes "set_at" "Makes.set_at" s_M_set_at ["self", "make", "place", "number"]
  d_M_cut_out : MDef K cMakes "cut_out" "Makes.cut_out" s_M_cut_out ["self", "make", "start", "end"]
  d_M_joined : MDef K cMakes "joined" "Makes.joined" s_M_joined ["self", "one", "other"]
  d_M_turned : MDef K cMakes "turned" "Makes.turned" s_M_turned ["self", "make"]
  d_M_flipped : MDef K cMakes "flipped" "Makes.flipped" s_M_flipped ["self", "make"]
  d_M_many : MDef K cMakes "many" "Makes.many" s_M_many ["self"]
  d_M_tree : MDef K cMakes "tree" "Makes.tree" s_M_tree ["self", "make"]
  d_M_row : MDef K cMakes "row" "Makes.row" s_M_row ["self", "make"]
  d_M_came_of : MDef K cMakes "came_of" "Makes.came_of" s_M_came_of ["self", "make"]
  d_M_stretch : MDef K cMakes "stretch" "Makes.stretch" s_M_stretch ["self", "make", "start", "end"]
  d_M_found : MDef K cMakes "found" "Makes.found" s_M_found ["self", "make"]
  d_M_keep : MDef K cMakes "keep" "Makes.keep" s_M_keep ["self", "tree", "sources"]
variable {cLeastError cBeyond cNoBounds cNoRow cNoSuch cNoText cTooMany cMakes cInit : Addr}
theorem szB {n : Nat} (h : n ≤ 100000) : n ≤ sizeLine := Nat.le_trans h (by decide)
def Wths (low : Int) (L : Nat) (ns : List Int) : Prop := ∀ x ∈ ns, low ≤ x ∧ x < low + 2 ^ L
theorem Wths.snoc {low : Int} {L : Nat} {ns : List Int} {y : Int} (h : Wths low L ns) (h0 : low ≤ y) (h1 : y < low + 2 ^ L) : Wths low L (ns ++ [y]) := fun x hx => by
  rcases List.mem_append.mp hx with h' | h'
  · exact h x h'
  · cases List.mem_singleton.mp h'
    exact ⟨h0, h1⟩

abbrev k_many_worths : Nat := 1
def sp_many_worths (_ : PySem.W.Frag) : Sp := fun vs H Q _ => ∃ L : Nat, vs = [.int (L : Int)] ∧ L ≤ 40 ∧ Q (.int (2 ^ L)) H
abbrev k_top_of : Nat := 2
def sp_top_of (K : PySem.W.Frag) : Sp := fun vs H Q _ => ∃ (b : Addr) (low : Int) (L : Nat), vs = [.ref b] ∧ SqT K H b [.int low, .int (L : Int)] ∧ L ≤ 40 ∧ Q (.int (low + 2 ^ L - 1)) H
section
variable {P : Program} {w : World} {K : PySem.W.Frag} {mg : Str → Option Value} {base : Heap}
theorem ok_many_worths (d : Def K mg "many_worths" s_many_worths ["levels"]) (z : Bz K mg cLeastError cBeyond cNoBounds cNoRow cNoSuch cNoText cTooMany cMakes cInit)  : Cal P w K mg base k_many_worths "many_worths" ["levels"] (sp_many_worths K) := by
  have sc := sc_many_worths
  refine d.cal fun f fd F => F.ok sc (fun vs H Q E h => ?_) (fun cdv A outer s H vs Q E hr h => ?_)
  · obtain ⟨L, rfl, _⟩ := h
    rfl
  obtain ⟨L, rfl, hL, q⟩ := h
  refine ⟨_, (pss_cons (ps_set (i := 1) sc.nd rfl (Or.inl rfl) pe_int)
 (pss_cons (ps_for PassesOwn.never rfl (pi_range1 rfl z.range_ (pa_cons (pv 0) pa_nil)) (pg_name (i := 2) sc.nd rfl (Or.inl rfl))
  (pss_one (ps_set (i := 1) sc.nd rfl (Or.inl rfl) (pe_op op_mul (pv 1) pe_int))))
 (pss_one (ps_ret (pv 1))))), ?_⟩
  refine ⟨_, rfl, (L : Int), rfl, by omega, by omega, for_range (n := L) (fun i σ H2 => ∃ v : Option V, σ = [some (.int (L : Int)), some (.int (2 ^ i)), v] ∧ H2 = H) ⟨none, rfl, rfl⟩ ?_ ?_⟩
  · rintro i σ H2 hi ⟨v, rfl, rfl⟩
    refine ⟨_, rfl, _, _, rfl, rfl, .inr ⟨by decide, by decide⟩, ?_⟩
    exact ⟨_, by rw [Int.pow_succ]; rfl, rfl⟩
  · rintro σ H2 ⟨v, rfl, rfl⟩
    exact ⟨_, rfl, q⟩
theorem ok_top_of (d : Def K mg "top_of" s_top_of ["bounds"]) (z : Bz K mg cLeastError cBeyond cNoBounds cNoRow cNoSuch cNoText cTooMany cMakes cInit) (c_many_worths : Cal P w K mg base k_many_worths "many_worths" ["levels"] (sp_many_worths K)) : Cal P w K mg base k_top_of "top_of" ["bounds"] (sp_top_of K) := by
  have sc := sc_top_of
  refine d.cal fun f fd F => F.ok sc (fun vs H Q E h => ?_) (fun cdv A outer s H vs Q E hr h => ?_)
  · obtain ⟨b, low, L, rfl, _⟩ := h
    rfl
  obtain ⟨b, low, L, rfl, hb, hL, q⟩ := h
  refine ⟨_, (pss_one (ps_ret (pe_op op_sub (pe_op op_add (pe_ix ix_tup (pv 0) pe_int (fun _ _ => rfl)) (pe_fn c_many_worths (hr.mono (by decide)) (by rfl) (pa_cons (pe_ix ix_tup (pv 0) pe_int (fun _ _ => rfl)) pa_nil))) pe_int))), ?_⟩
  exact ⟨_, rfl, b, _, _, _, rfl, rfl, hb, rfl, _, rfl, b, _, _, _, rfl, rfl, hb, rfl, L, rfl, hL, _, _, rfl, rfl, _, _, rfl, rfl, q⟩
end

abbrev k_where : Nat := 3
def whereS (low : Int) (L : Nat) (n : Int) : Str := if n < low then "below" else if low + 2 ^ L - 1 < n then "above" else "within"
theorem whereS_in {low n : Int} {L : Nat} (h : low ≤ n ∧ n < low + 2 ^ L) : whereS low L n = "within" := by
  unfold whereS
  rw [if_neg (by omega), if_neg (by omega)]
def sp_where (K : PySem.W.Frag) : Sp := fun vs H Q _ => ∃ (b : Addr) (low n : Int) (L : Nat), vs = [.ref b, .int n] ∧ SqT K H b [.int low, .int (L : Int)] ∧ L ≤ 40 ∧ Q (.str (whereS low L n)) H
section
variable {P : Program} {w : World} {K : PySem.W.Frag} {mg : Str → Option Value} {base : Heap}
theorem ok_where (d : Def K mg "where" s_where ["bounds", "number"]) (z : Bz K mg cLeastError cBeyond cNoBounds cNoRow cNoSuch cNoText cTooMany cMakes cInit) (c_top_of : Cal P w K mg base k_top_of "top_of" ["bounds"] (sp_top_of K)) : Cal P w K mg base k_where "where" ["bounds", "number"] (sp_where K) := by
  have sc := sc_where
  refine d.cal fun f fd F => F.ok sc (fun vs H Q E h => ?_) (fun cdv A outer s H vs Q E hr h => ?_)
  · obtain ⟨b, low, n, L, rfl, _⟩ := h
    rfl
  obtain ⟨b, low, n, L, rfl, hb, hL, q⟩ := h
  refine ⟨_, (pss_cons (ps_if (pt_cmpR op_lt (pv 1) (pe_ix ix_tup (pv 0) pe_int (fun _ _ => rfl)) (nomark _))
  (pss_one (ps_ret pe_str))
  pss_nil)
 (pss_cons (ps_if (pt_cmpR op_gt (pv 1) (pe_fn c_top_of (hr.mono (by decide)) (by rfl) (pa_cons (pv 0) pa_nil)) (nomark _))
  (pss_one (ps_ret pe_str))
  pss_nil)
 (pss_one (ps_ret pe_str)))), ?_⟩
  unfold whereS at q
  refine ⟨_, rfl, _, rfl, b, _, _, _, rfl, rfl, hb, rfl, _, _, rfl, rfl, _, rfl, ?_⟩
  refine ite2 (fun c => ?_) (fun c => ?_)
  · rw [if_pos (of_decide_eq_true c)] at q
    exact q
  · rw [if_neg (fun z => c (decide_eq_true z))] at q
    refine ⟨_, rfl, _, rfl, b, low, L, rfl, hb, hL, _, _, rfl, rfl, _, rfl, ?_⟩
    refine ite2 (fun c => ?_) (fun c => ?_)
    · rw [if_pos (of_decide_eq_true c)] at q
      exact q
    · rw [if_neg (fun z => c (decide_eq_true z))] at q
      exact q
end

def wayW : Nat → Int → List Int
  | 0, _ => []
  | e + 1, o => if o < 2 ^ e then 0 :: wayW e o else 1 :: wayW e (o - 2 ^ e)
theorem wayW_lt {e : Nat} {o : Int} (h : o < 2 ^ e) : wayW (e + 1) o = 0 :: wayW e o := by
  show (if o < 2 ^ e then _ else _) = _
  rw [if_pos h]
theorem wayW_ge {e : Nat} {o : Int} (h : ¬ o < 2 ^ e) : wayW (e + 1) o = 1 :: wayW e (o - 2 ^ e) := by
  show (if o < 2 ^ e then _ else _) = _
  rw [if_neg h]
theorem pow2 (e : Nat) : (2 : Int) ^ (e + 1) = 2 ^ e + 2 ^ e := by rw [Int.pow_succ]; omega
theorem wayW_len : ∀ (e : Nat) (o : Int), (wayW e o).length = e
  | 0, _ => rfl
  | e + 1, o => by
    by_cases h : o < 2 ^ e
    · rw [wayW_lt h, List.length_cons, wayW_len e]
    · rw [wayW_ge h, List.length_cons, wayW_len e]
theorem pow_half (e : Nat) : (2 : Int) ^ (e + 1) / 2 = 2 ^ e := by rw [Int.pow_succ]; exact Int.mul_ediv_cancel _ (by decide)
theorem where_in {low n : Int} {L : Nat} : whereS low L n = "within" ↔ (low ≤ n ∧ n ≤ low + 2 ^ L - 1) := by
  unfold whereS
  by_cases h : n < low
  · rw [if_pos h]
    exact ⟨fun z => absurd z (by decide), fun z => by omega⟩
  · rw [if_neg h]
    by_cases h2 : low + 2 ^ L - 1 < n
    · rw [if_pos h2]
      exact ⟨fun z => absurd z (by decide), fun z => by omega⟩
    · rw [if_neg h2]
      exact ⟨fun _ => by omega, fun _ => rfl⟩

/-! ### the tree of a row -/
def grow (low : Int) : Nat → List Int → Tr
  | 0, ns => if ns = [] then .non else .many ns.length
  | e + 1, ns => if ns = [] then .non else .part (ns.map fun n => if n < low + 2 ^ e then 0 else 1) (grow low e (ns.filter fun n => decide (n < low + 2 ^ e))) (grow (low + 2 ^ e) e (ns.filter fun n => decide (low + 2 ^ e ≤ n)))
theorem grow_nil (low : Int) (e : Nat) : grow low e [] = .non := by cases e <;> rfl
theorem grow_zero {low : Int} {ns : List Int} (h : ns ≠ []) : grow low 0 ns = .many ns.length := by unfold grow; rw [if_neg h]
theorem grow_succ {low : Int} {e : Nat} {ns : List Int} (h : ns ≠ []) : grow low (e + 1) ns = .part (ns.map fun n => if n < low + 2 ^ e then 0 else 1) (grow low e (ns.filter fun n => decide (n < low + 2 ^ e))) (grow (low + 2 ^ e) e (ns.filter fun n => decide (low + 2 ^ e ≤ n))) := by
  rw [grow, if_neg h]
/-- no marks are long -/
def Tr.fit (b : Nat) : Tr → Prop
  | .non => True
  | .many _ => True
  | .part ms l r => ms.length ≤ b ∧ Tr.fit b l ∧ Tr.fit b r
abbrev kb_grown : Nat := 0
abbrev kn_grown : Nat := 40
abbrev k_grown : Nat := 41
def spe_grown (K : PySem.W.Frag) (e : Nat) : Sp := fun vs H Q _ => ∃ (least : Int) (a : Addr) (ns : List Int), vs = [.int least, .int (2 ^ e), .ref a] ∧ SqL K H a (ns.map V.int) ∧ ns.length ≤ 1000 ∧ ∀ (H' : Hp) (v : V), Same H H' → TreeAt H' v (grow least e ns) → Q v H'
def sp_grown (K : PySem.W.Frag) : Sp := fun vs H Q E => ∃ e, e ≤ kn_grown ∧ spe_grown K e vs H Q E
section
variable {P : Program} {w : World} {K : PySem.W.Frag} {mg : Str → Option Value} {base : Heap}
theorem ok_grown (d : Def K mg "grown" s_grown ["least", "many", "row"]) (z : Bz K mg cLeastError cBeyond cNoBounds cNoRow cNoSuch cNoText cTooMany cMakes cInit)  : Cal P w K mg base k_grown "grown" ["least", "many", "row"] (sp_grown K) := by
  have sc := sc_grown
  refine d.recur (k := kb_grown) (sp := spe_grown K) kn_grown fun e hen c_grown f fd F => F.ok sc (fun vs H Q E h => ?_) (fun cdv A outer s H vs Q E hr h => ?_)
  · obtain ⟨least, a, ns, rfl, _⟩ := h
    rfl
  obtain ⟨least, a, ns, rfl, ha, hl, q⟩ := h
  refine ⟨_, (pss_cons (ps_if (pt_cmpR op_eq (pe_callB call_len_seq (by rfl) z.len_ bt_len (pa_cons (pv 2) pa_nil)) pe_int (nomark _))
  (pss_one (ps_ret pe_non))
  pss_nil)
 (pss_cons (ps_if (pt_cmpR op_eq (pv 1) pe_int (nomark _))
  (pss_one (ps_ret (pe_tup (pa_cons pe_str (pa_cons (pe_callB call_len_seq (by rfl) z.len_ bt_len (pa_cons (pv 2) pa_nil)) pa_nil)))))
  pss_nil)
 (pss_cons (ps_set (i := 3) sc.nd rfl (Or.inl rfl) (pe_op op_fdivB (pv 1) pe_int))
 (pss_cons (ps_set (i := 4) sc.nd rfl (Or.inr rfl) (pe_op op_add (pv 0) (pv 3)))
 (pss_cons (ps_set (i := 5) sc.nd rfl (Or.inl rfl) (pe_callTy call_tupleF (by rfl) z.tuple_ bt_tuple (pa_cons (pe_comp (cl := [("middle", s.heap.objs.size + 1 + 0)]) (cn := ["middle"]) (N := ["middle"]) (fr := [4]) (sc0 := defScope s_grown) rfl (pi_list (pv 2)) (fun C s₂ H₂ fp => (pe_ifExp (pt_cmpR op_lt (pv 0) (pv 1) (nomark _)) pe_int pe_int)) (by with_unfolding_all rfl) ⟨by with_unfolding_all rfl, trivial⟩ rfl rfl rfl ⟨by decide +kernel, by decide +kernel, by decide +kernel, by decide +kernel, by decide +kernel, by decide +kernel, by decide +kernel⟩ rfl) pa_nil)))
 (pss_cons (ps_set (i := 6) sc.nd rfl (Or.inl rfl) (pe_fn c_grown (hr.mono (Nat.le_refl _)) (by rfl) (pa_cons (pv 0) (pa_cons (pv 3) (pa_cons (pe_compIf (cl := [("middle", s.heap.objs.size + 1 + 0)]) (cn := ["middle"]) (N := ["middle"]) (fr := [4]) (sc0 := defScope s_grown) rfl (pi_list (pv 2)) (fun C s₂ H₂ fp => (pv 0)) (fun C s₂ H₂ fp => (pt_cmpR op_lt (pv 0) (pv 1) (nomark _))) (by with_unfolding_all rfl) ⟨by with_unfolding_all rfl, trivial⟩ rfl rfl rfl ⟨by decide +kernel, by decide +kernel, by decide +kernel, by decide +kernel, by decide +kernel, by decide +kernel, by decide +kernel⟩ rfl) pa_nil)))))
 (pss_cons (ps_set (i := 7) sc.nd rfl (Or.inl rfl) (pe_fn c_grown (hr.mono (Nat.le_refl _)) (by rfl) (pa_cons (pv 4) (pa_cons (pv 3) (pa_cons (pe_compIf (cl := [("middle", s.heap.objs.size + 1 + 0)]) (cn := ["middle"]) (N := ["middle"]) (fr := [4]) (sc0 := defScope s_grown) rfl (pi_list (pv 2)) (fun C s₂ H₂ fp => (pv 0)) (fun C s₂ H₂ fp => (pt_cmpR op_ge (pv 0) (pv 1) (nomark _))) (by with_unfolding_all rfl) ⟨by with_unfolding_all rfl, trivial⟩ rfl rfl rfl ⟨by decide +kernel, by decide +kernel, by decide +kernel, by decide +kernel, by decide +kernel, by decide +kernel, by decide +kernel⟩ rfl) pa_nil)))))
 (pss_one (ps_ret (pe_tup (pa_cons pe_str (pa_cons (pv 5) (pa_cons (pv 6) (pa_cons (pv 7) pa_nil)))))))))))))), ?_⟩
  have hz : ns.length ≤ sizeLine := sz hl
  refine ⟨_, rfl, a, _, rfl, .inl ha, rfl, _, rfl, ?_⟩
  refine ite2 (fun c => ?_) (fun c => ?_)
  · have c' : (((ns.map V.int).length : Nat) : Int) = 0 := V.int.inj (of_decide_eq_true c)
    rw [List.length_map] at c'
    have e0 : ns = [] := List.eq_nil_of_length_eq_zero (by omega)
    subst e0
    exact q H .non (Same.refl H) (by rw [grow_nil]; rfl)
  · have hne : ns ≠ [] := fun z => c (by rw [z]; exact decide_eq_true rfl)
    refine ⟨_, rfl, rfl, _, rfl, ?_⟩
    refine ite2 (fun c2 => ?_) (fun c2 => ?_)
    · have e0 : e = 0 := p2one (V.int.inj (of_decide_eq_true c2))
      subst e0
      refine ⟨_, rfl, a, _, rfl, .inl ha, szb rfl, fun p hp => q _ _ (same_new hp _) ?_⟩
      rw [grow_zero hne]
      refine ⟨p, rfl, ?_⟩
      rw [upd_same, List.length_map]
    · cases e with
      | zero => exact absurd (decide_eq_true rfl) c2
      | succ e =>
        refine ⟨_, rfl, _, _, rfl, rfl, ⟨by decide, by decide⟩, ?_⟩
        dsimp only
        rw [p2half]
        refine ⟨_, rfl, _, rfl, _, _, rfl, rfl, ?_⟩
        refine ⟨_, rfl, a, rfl, ⟨_, ha⟩, fun D hD => ?_⟩
        refine comp_ints (g := fun n => .int (if n < least + 2 ^ e then 0 else 1)) ha hD hz (fun n _ H1 Q1 _ q1 => ?_) ?_
        · refine ⟨_, rfl, _, rfl, _, _, rfl, rfl, _, rfl, ?_⟩
          refine ite2 (fun c3 => ?_) (fun c3 => ?_)
          · rw [if_pos (of_decide_eq_true c3)] at q1
            exact q1
          · rw [if_neg (fun z => c3 (decide_eq_true z))] at q1
            exact q1
        have s1 : Same H (upd H D (.lst (ns.map fun n => V.int (if n < least + 2 ^ e then 0 else 1)))) := same_new hD _
        refine ⟨D, _, rfl, SqL.of upd_same, fun m H2 s2 hm => ?_⟩
        have s02 : Same H H2 := s1.trans s2
        have hm' : TupF H2 m ((ns.map fun n => if n < least + 2 ^ e then (0 : Int) else 1).map V.int) := by rw [List.map_map]; exact hm
        refine ⟨_, rfl, _, rfl, _, rfl, a, rfl, ⟨_, s02.seq ha⟩, fun D2 hD2 => ?_⟩
        refine compIf_ints (p := fun n => decide (n < least + 2 ^ e)) (g := V.int) (s02.seq ha) hD2 hz (fun n _ H1 Q1 _ q1 => ⟨_, rfl, _, rfl, _, _, rfl, rfl, _, rfl, q1⟩) (fun n _ _ H1 Q1 _ q1 => ⟨_, rfl, q1⟩) ?_
        refine ⟨least, D2, _, rfl, SqL.of upd_same, Nat.le_trans (List.length_filter_le _ _) hl, fun H3 lo s3 hlo => ?_⟩
        have s03 : Same H H3 := s02.trans ((same_new hD2 _).trans s3)
        refine ⟨_, rfl, _, rfl, _, rfl, a, rfl, ⟨_, s03.seq ha⟩, fun D3 hD3 => ?_⟩
        refine compIf_ints (p := fun n => decide (least + 2 ^ e ≤ n)) (g := V.int) (s03.seq ha) hD3 hz (fun n _ H1 Q1 _ q1 => ⟨_, rfl, _, rfl, _, _, rfl, rfl, _, rfl, q1⟩) (fun n _ _ H1 Q1 _ q1 => ⟨_, rfl, q1⟩) ?_
        refine ⟨least + 2 ^ e, D3, _, rfl, SqL.of upd_same, Nat.le_trans (List.length_filter_le _ _) hl, fun H4 hi s4 hhi => ?_⟩
        have s34 : Same H3 H4 := (same_new hD3 _).trans s4
        refine ⟨_, rfl, _, rfl, _, rfl, szb rfl, fun p hp => q _ _ (s03.trans (s34.trans (same_new hp _))) ?_⟩
        rw [grow_succ hne]
        have sp : Same H4 (upd H4 p (.tup [.str "part", .ref m, lo, hi])) := same_new hp _
        have s24 : Same H2 H4 := (same_new hD2 _).trans (s3.trans s34)
        exact ⟨p, m, lo, hi, rfl, upd_same, (hm'.same s24).same sp, (hlo.same s34).same sp, hhi.same sp⟩
end
/-! ### sizes, halves, places -/
def trSize : Tr → Int
  | .non => 0
  | .many n => n
  | .part ms _ _ => ms.length
def trHalf : Tr → Int → Tr
  | .part _ l r, mk => if mk = 0 then l else r
  | _, _ => .non
theorem grow_size (low : Int) (e : Nat) (ns : List Int) : trSize (grow low e ns) = ns.length := by
  by_cases h : ns = []
  · rw [h, grow_nil]; rfl
  · cases e with
    | zero => rw [grow_zero h]; rfl
    | succ e =>
      rw [grow_succ h]
      show ((List.map _ ns).length : Int) = _
      rw [List.length_map]
abbrev k_size_of : Nat := 1
def sp_size_of (_ : PySem.W.Frag) : Sp := fun vs H Q _ => ∃ (v : V) (t : Tr), vs = [v] ∧ TreeAt H v t ∧ Q (.int (trSize t)) H
section
variable {P : Program} {w : World} {K : PySem.W.Frag} {mg : Str → Option Value} {base : Heap}
theorem ok_size_of (d : Def K mg "size_of" s_size_of ["tree"]) (z : Bz K mg cLeastError cBeyond cNoBounds cNoRow cNoSuch cNoText cTooMany cMakes cInit)  : Cal P w K mg base k_size_of "size_of" ["tree"] (sp_size_of K) := by
  have sc := sc_size_of
  refine d.cal fun f fd F => F.ok sc (fun vs H Q E h => ?_) (fun cdv A outer s H vs Q E hr h => ?_)
  · obtain ⟨v, t, rfl, _⟩ := h
    rfl
  obtain ⟨v, t, rfl, ht, q⟩ := h
  refine ⟨_, (pss_cons (ps_if (pt_cmpR op_isN (pv 0) pe_non (nomark _))
  (pss_one (ps_ret pe_int))
  pss_nil)
 (pss_cons (ps_if (pt_cmpR op_eq (pe_ix ix_tup (pv 0) pe_int (fun _ _ => rfl)) pe_str (nomark _))
  (pss_one (ps_ret (pe_ix ix_tup (pv 0) pe_int (fun _ _ => rfl))))
  pss_nil)
 (pss_one (ps_ret (pe_callB call_len_seq (by rfl) z.len_ bt_len (pa_cons (pe_ix ix_tup (pv 0) pe_int (fun _ _ => rfl)) pa_nil)))))), ?_⟩
  refine ⟨_, rfl, rfl, _, rfl, ?_⟩
  cases t with
  | non =>
    cases ht
    exact ite2 (fun c => q) (fun c => absurd (decide_eq_true rfl) c)
  | many n =>
    obtain ⟨a, rfl, ha⟩ := ht
    refine ite2 (fun c => absurd (of_decide_eq_true c) (by intro z; cases z)) (fun c => ?_)
    refine ⟨_, rfl, a, _, _, _, rfl, rfl, SqT.of ha, rfl, rfl, _, rfl, ?_⟩
    refine ite2 (fun c => ?_) (fun c => absurd (decide_eq_true rfl) c)
    exact ⟨_, rfl, a, _, _, _, rfl, rfl, SqT.of ha, rfl, q⟩
  | part ms l r =>
    obtain ⟨a, m, x, y, rfl, ha, hm, hl, hr'⟩ := ht
    refine ite2 (fun c => absurd (of_decide_eq_true c) (by intro z; cases z)) (fun c => ?_)
    refine ⟨_, rfl, a, _, _, _, rfl, rfl, SqT.of ha, rfl, rfl, _, rfl, ?_⟩
    refine ite2 (fun c => absurd (of_decide_eq_true c) (by decide)) (fun c => ?_)
    refine ⟨_, rfl, a, _, _, _, rfl, rfl, SqT.of ha, rfl, m, _, rfl, .inr hm.sq, ?_⟩
    rw [List.length_map]
    exact q
end

abbrev k_half_of : Nat := 1
def sp_half_of (_ : PySem.W.Frag) : Sp := fun vs H Q _ => ∃ (v : V) (t : Tr) (mk : Int), vs = [v, .int mk] ∧ TreeAt H v t ∧ (mk = 0 ∨ mk = 1) ∧ ∀ u, TreeAt H u (trHalf t mk) → Q u H
section
variable {P : Program} {w : World} {K : PySem.W.Frag} {mg : Str → Option Value} {base : Heap}
theorem ok_half_of (d : Def K mg "half_of" s_half_of ["tree", "mark"]) (z : Bz K mg cLeastError cBeyond cNoBounds cNoRow cNoSuch cNoText cTooMany cMakes cInit)  : Cal P w K mg base k_half_of "half_of" ["tree", "mark"] (sp_half_of K) := by
  have sc := sc_half_of
  refine d.cal fun f fd F => F.ok sc (fun vs H Q E h => ?_) (fun cdv A outer s H vs Q E hr h => ?_)
  · obtain ⟨v, t, mk, rfl, _⟩ := h
    rfl
  obtain ⟨v, t, mk, rfl, ht, hmk, q⟩ := h
  refine ⟨_, (pss_cons (ps_if (PW.pt (pw_or (pt_cmpR op_isN (pv 0) pe_non (nomark _)) (pw_or1 (pt_cmpR op_eq (pe_ix ix_tup (pv 0) pe_int (fun _ _ => rfl)) pe_str (nomark _)))))
  (pss_one (ps_ret pe_non))
  pss_nil)
 (pss_one (ps_ret (pe_ix ix_tup (pv 0) (pe_op op_add pe_int (pv 1)) (fun _ _ => rfl))))), ?_⟩
  refine ⟨_, rfl, rfl, _, rfl, ?_⟩
  cases t with
  | non =>
    cases ht
    exact ite2 (fun c => q .non rfl) (fun c => absurd (decide_eq_true rfl) c)
  | many n =>
    obtain ⟨a, rfl, ha⟩ := ht
    refine ite2 (fun c => absurd (of_decide_eq_true c) (by intro z; cases z)) (fun c => ?_)
    refine ⟨_, rfl, a, _, _, _, rfl, rfl, SqT.of ha, rfl, rfl, _, rfl, ?_⟩
    exact ite2 (fun c => q .non rfl) (fun c => absurd (decide_eq_true rfl) c)
  | part ms l r =>
    obtain ⟨a, m, x, y, rfl, ha, hm, hl, hr'⟩ := ht
    refine ite2 (fun c => absurd (of_decide_eq_true c) (by intro z; cases z)) (fun c => ?_)
    refine ⟨_, rfl, a, _, _, _, rfl, rfl, SqT.of ha, rfl, rfl, _, rfl, ?_⟩
    refine ite2 (fun c => absurd (of_decide_eq_true c) (by decide)) (fun c => ?_)
    refine ⟨_, rfl, _, rfl, _, _, rfl, rfl, ?_⟩
    rcases hmk with rfl | rfl
    · exact ⟨a, _, _, _, rfl, rfl, SqT.of ha, rfl, q x hl⟩
    · exact ⟨a, _, _, _, rfl, rfl, SqT.of ha, rfl, q y hr'⟩
end

theorem all_flat (ms : List Int) : (ms.map V.int).all flatV = true := by
  rw [List.all_eq_true]
  intro x hx
  obtain ⟨i, _, rfl⟩ := List.mem_map.mp hx
  rfl
theorem count_map (ms : List Int) (m : Int) : (ms.map V.int).countP (fun y => eqV y (.int m)) = ms.count m := by
  rw [List.countP_map, List.count_eq_countP]
  rfl
theorem cut_take (ms : List Int) (k : Nat) : cutV (ms.map V.int) none (some (k : Int)) = (ms.take k).map V.int := by
  unfold cutV
  rw [HT.sIx_nat, HT.sIx_none, List.drop_zero, Nat.sub_zero, List.map_take]
  by_cases h : k ≤ (ms.map V.int).length
  · rw [Nat.min_eq_left h]
  · rw [Nat.min_eq_right (by omega), List.take_length, List.take_of_length_le (by omega)]
abbrev k_ahead : Nat := 1
def sp_ahead (_ : PySem.W.Frag) : Sp := fun vs H Q _ => ∃ (t : Addr) (ms : List Int) (mk : Int) (pl : Nat), vs = [.ref t, .int mk, .int (pl : Int)] ∧ TupF H t (ms.map V.int) ∧ ∀ H', Same H H' → Q (.int ((ms.take pl).count mk : Nat)) H'
section
variable {P : Program} {w : World} {K : PySem.W.Frag} {mg : Str → Option Value} {base : Heap}
theorem ok_ahead (d : Def K mg "ahead" s_ahead ["marks", "mark", "place"]) (z : Bz K mg cLeastError cBeyond cNoBounds cNoRow cNoSuch cNoText cTooMany cMakes cInit)  : Cal P w K mg base k_ahead "ahead" ["marks", "mark", "place"] (sp_ahead K) := by
  have sc := sc_ahead
  refine d.cal fun f fd F => F.ok sc (fun vs H Q E h => ?_) (fun cdv A outer s H vs Q E hr h => ?_)
  · obtain ⟨t, ms, mk, pl, rfl, _⟩ := h
    rfl
  obtain ⟨t, ms, mk, pl, rfl, ht, q⟩ := h
  refine ⟨_, (pss_one (ps_ret (pe_bmF PySem.F.plainAttrs_tuple PySem.F.slot_tuple_count PySem.F.type_tuple_count mt_countT (pe_slice sl_tupF (pv 0) po_none (po_some (pe_callB (call_max2 rfl) (by rfl) z.max_ bt_max (pa_cons (pv 2) (pa_cons pe_int pa_nil))))) (pa_cons (pv 1) pa_nil)))), ?_⟩
  have e1 : (if (0 : Int) > (pl : Int) then (0 : Int) else (pl : Int)) = (pl : Int) := if_neg (by omega)
  refine ⟨_, rfl, _, rfl, _, _, rfl, _, rfl, t, _, rfl, ht, fun p H1 s1 h1 => ?_⟩
  rw [e1, cut_take] at h1
  obtain ⟨o, ho, hc, hd⟩ := id h1
  refine ⟨⟨p, o, _, rfl, ho, hc, hd⟩, _, rfl, p, _, _, rfl, rfl, h1.sq, rfl, all_flat _, ?_⟩
  rw [count_map]
  exact q H1 s1
end

/-! ### the pen of the third kind: a cell, whether it is great, how often it was mixed -/
/-- the script: known to the object, or the module's own -/
def Scr (K : PySem.W.Frag) (H : Hp) (a : Addr) (xs : List V) : Prop :=
  (∃ o, H a = some (.frz o (.lst xs))) ∨
    ∃ (o : Obj) (its : Array Value) (n : Nat), K.lookup a = some o ∧ o.cls = .type "list" ∧ o.dict = none ∧ o.data = .seq its n ∧ its.size ≤ sizeLine ∧ Vals xs its.toList
theorem Scr.sq {K : PySem.W.Frag} {H : Hp} {a : Addr} {xs : List V} (h : Scr K H a xs) : SqL K H a xs := by
  rcases h with h | h
  · exact .inl (.inr h)
  · exact .inr h
theorem Scr.of {K : PySem.W.Frag} {H : Hp} {a : Addr} {xs : List V} (h : SqL K H a xs) (o : Only H) : Scr K H a xs := by
  rcases h with (h | h) | h
  · rcases o a with z | ⟨ob, ys, z⟩
    · rw [z] at h; cases h
    · rw [z] at h; cases h
  · exact .inl h
  · exact .inr h
theorem Scr.same {K : PySem.W.Frag} {H H' : Hp} {a : Addr} {xs : List V} (h : Scr K H a xs) (s : Same H H') : Scr K H' a xs := by
  rcases h with ⟨o, h⟩ | h
  · exact .inl ⟨o, s _ _ h⟩
  · exact .inr h
theorem Scr.keep {K : PySem.W.Frag} {H H' : Hp} {a p : Addr} {xs ys : List V} (h : Scr K H a xs) (k : Keep p H H') (e : H p = some (.lst ys)) : Scr K H' a xs := by
  rcases h with ⟨ob, h⟩ | h
  · exact .inl ⟨ob, k _ _ (ne_of h e (by intro z; cases z)) h⟩
  · exact .inr h
def PenM (H : Hp) (pen : Addr) : Prop := ∃ (c : Int) (b : Bool) (n : Int), H pen = some (.lst [.int c, .bl b, .int n])
theorem PenM.same {H H' : Hp} {pen : Addr} (p : PenM H pen) (s : Same H H') : PenM H' pen := by
  obtain ⟨c, b, n, h⟩ := p
  exact ⟨c, b, n, s _ _ h⟩
theorem PenM.new {H : Hp} {pen q : Addr} (p : PenM H pen) (h : H q = none) (o : HO) : PenM (upd H q o) pen := p.same (same_new h o)
theorem PenM.at {H : Hp} {pen : Addr} (p : PenM H pen) : ∃ xs, H pen = some (.lst xs) := by
  obtain ⟨c, b, n, h⟩ := p
  exact ⟨_, h⟩
theorem PenM.ne {H : Hp} {pen b : Addr} {xs : List V} (p : PenM H pen) (h : H b = some (.tup xs)) : b ≠ pen := by
  obtain ⟨ys, e⟩ := p.at
  exact ne_of h e (by intro z; cases z)
theorem PenM.fresh {H : Hp} {pen b : Addr} (p : PenM H pen) (h : H b = none) : b ≠ pen := by
  obtain ⟨ys, e⟩ := p.at
  exact Ne.symm (ne_of_none e h)
theorem PenM.other {H : Hp} {pen q : Addr} (p : PenM H pen) (hq : q ≠ pen) (o : HO) : PenM (upd H q o) pen := by
  obtain ⟨c, b, n, e⟩ := p
  exact ⟨c, b, n, by rw [upd_ne (Ne.symm hq)]; exact e⟩
theorem PenM.keep {H H' : Hp} {pen q : Addr} (p : PenM H pen) (hq : q ≠ pen) (k : Keep q H H') : PenM H' pen := by
  obtain ⟨c, b, n, e⟩ := p
  exact ⟨c, b, n, k _ _ (Ne.symm hq) e⟩
theorem PenM.free {H H' : Hp} {pen l : Addr} (p : PenM H' pen) (k : Keep pen H H') (h : H' l = none) : H l = none := by
  obtain ⟨xs, e⟩ := p.at
  exact k.free h e
theorem PenM.scr {K : PySem.W.Frag} {H H' : Hp} {pen a : Addr} {xs : List V} (p : PenM H pen) (k : Keep pen H H') (h : Scr K H a xs) : Scr K H' a xs := by
  obtain ⟨ys, e⟩ := p.at
  exact h.keep k e
abbrev k__law_pen : Nat := 1
def sp__law_pen (K : PySem.W.Frag) : Sp := fun vs H Q _ => ∃ (a : Addr) (ns : List Int) (k : Int), vs = [.ref a, .int k] ∧ SqL K H a (ns.map V.int) ∧ ns.length ≤ 63 ∧ 0 ≤ k ∧ k < 1000 ∧
  ∀ (p : Addr) (H' : Hp), H p = none → Same H H' → PenM H' p → Q (.ref p) H'
abbrev k__law_mixed : Nat := 1
def sp__law_mixed (_ : PySem.W.Frag) : Sp := fun vs H Q _ => ∃ (pen : Addr), vs = [.ref pen] ∧ PenM H pen ∧ ∀ (v : Int) (H' : Hp), Keep pen H H' → PenM H' pen → 0 ≤ v → Q (.int v) H'
abbrev k__law_take : Nat := 2
def sp__law_take (_ : PySem.W.Frag) : Sp := fun vs H Q _ => ∃ (pen : Addr) (size : Int), vs = [.ref pen, .int size] ∧ PenM H pen ∧ 0 < size ∧ size < 10 ^ 60 ∧
  ∀ (v : Int) (H' : Hp), Keep pen H H' → PenM H' pen → 0 ≤ v → v < size → Q (.int v) H'
abbrev k__law_bounds : Nat := 3
def sp__law_bounds (_ : PySem.W.Frag) : Sp := fun vs H Q _ => ∃ (pen : Addr), vs = [.ref pen] ∧ PenM H pen ∧
  ∀ (b : Addr) (low : Int) (L : Nat) (H' : Hp), Keep pen H H' → PenM H' pen → H' b = some (.tup [.int low, .int (L : Int)]) → L ≤ 40 → -(10 ^ 40) < low → low < 10 ^ 40 → Q (.ref b) H'
abbrev k__law_row : Nat := 3
def sp__law_row (_ : PySem.W.Frag) : Sp := fun vs H Q _ => ∃ (pen b : Addr) (low g : Int) (L : Nat), vs = [.ref pen, .ref b, .int g] ∧ PenM H pen ∧ H b = some (.tup [.int low, .int (L : Int)]) ∧ L ≤ 40 ∧ 0 ≤ g ∧ g ≤ 60 ∧
  ∀ (r : Addr) (ns : List Int) (H' : Hp), Keep pen H H' → PenM H' pen → H' r = some (.lst (ns.map V.int)) → H r = none → (ns.length : Int) ≤ g → Wths low L ns → Q (.ref r) H'
def muT : St → Nat := fun σ => match σ[3]? with
  | some (some (V.int m)) => m.toNat
  | _ => 0
section
variable {P : Program} {w : World} {K : PySem.W.Frag} {mg : Str → Option Value} {base : Heap}
theorem ok__law_pen (d : Def K mg "_law_pen" s__law_pen ["_law_script", "_law_k"]) (z : Bz K mg cLeastError cBeyond cNoBounds cNoRow cNoSuch cNoText cTooMany cMakes cInit)  : Cal P w K mg base k__law_pen "_law_pen" ["_law_script", "_law_k"] (sp__law_pen K) := by
  have sc := sc__law_pen
  refine d.cal fun f fd F => F.ok sc (fun vs H Q E h => ?_) (fun cdv A outer s H vs Q E hr h => ?_)
  · obtain ⟨a, ns, k, rfl, _⟩ := h
    rfl
  obtain ⟨a, ns, k, rfl, hS, h63, h0, hk, q⟩ := h
  refine ⟨_, (pss_cons (ps_set (i := 2) sc.nd rfl (Or.inl rfl) (pe_op op_add (pe_op op_mul pe_int (pv 1)) pe_int))
 (pss_cons (ps_if (pt_cmpR op_lt (pv 1) (pe_callB call_len_seq (by rfl) z.len_ bt_len (pa_cons (pv 0) pa_nil)) (nomark _))
  (pss_one (ps_set (i := 2) sc.nd rfl (Or.inl rfl) (pe_ix ix_list (pv 0) (pv 1) (fun _ _ => rfl))))
  (pss_one (ps_if (pt_cmpR op_gt (pe_callB call_len_seq (by rfl) z.len_ bt_len (pa_cons (pv 0) pa_nil)) pe_int (nomark _))
  (pss_one (ps_set (i := 2) sc.nd rfl (Or.inl rfl) (pe_op op_add (pv 2) (pe_op op_mod (pe_ix ix_list (pv 0) (pe_op op_mod (pv 1) (pe_callB call_len_seq (by rfl) z.len_ bt_len (pa_cons (pv 0) pa_nil))) (fun _ _ => rfl)) (pe_op op_pow pe_int pe_int)))))
  pss_nil)))
 (pss_one (ps_ret (pe_lst (pa_cons (pv 2) (pa_cons (pe_cmpR op_ge (pv 2) (pe_op op_pow pe_int pe_int) (nomark _)) (pa_cons pe_int pa_nil)))))))), ?_⟩
  have hl : (ns.map V.int).length = ns.length := List.length_map _
  refine ⟨_, rfl, _, _, rfl, rfl, .inl ⟨by decide, by decide⟩, _, _, rfl, rfl, ?_⟩
  refine ⟨_, rfl, _, rfl, a, _, rfl, .inl hS, _, _, rfl, rfl, _, rfl, ?_⟩
  refine ite2 (fun c => ?_) (fun c => ?_)
  · have c' : k < (((ns.map V.int).length : Nat) : Int) := of_decide_eq_true c
    rw [hl] at c'
    obtain ⟨v, _, hv⟩ := atI_ints h0 c'
    refine ⟨_, rfl, _, rfl, a, _, _, _, rfl, rfl, hS, hv, ?_⟩
    exact ⟨_, rfl, _, rfl, _, _, rfl, rfl, ⟨by decide, by decide, by decide⟩, _, _, rfl, rfl, szb rfl, fun p hp => q p _ hp (same_new hp _) ⟨_, _, _, upd_same⟩⟩
  · refine ⟨_, rfl, a, _, rfl, .inl hS, _, _, rfl, rfl, _, rfl, ?_⟩
    refine ite2 (fun c2 => ?_) (fun c2 => ?_)
    · have c2' : (0 : Int) < (((ns.map V.int).length : Nat) : Int) := of_decide_eq_true c2
      have m0 : 0 ≤ k % (((ns.map V.int).length : Nat) : Int) := Int.emod_nonneg _ (by omega)
      have m1 : k % (((ns.map V.int).length : Nat) : Int) < (((ns.map V.int).length : Nat) : Int) := Int.emod_lt_of_pos _ c2'
      obtain ⟨v, _, hv⟩ := atI_ints (l := ns) m0 (by rw [hl] at m1 ⊢; exact m1)
      refine ⟨_, rfl, _, rfl, _, rfl, _, rfl, a, _, rfl, .inl hS, _, _, rfl, rfl, c2', a, _, _, _, rfl, rfl, hS, hv, _, _, rfl, rfl, ⟨by decide, by decide, by decide⟩, _, _, rfl, rfl, (by show (0 : Int) < 10 ^ 15; decide), _, _, rfl, rfl, ?_⟩
      exact ⟨_, rfl, _, rfl, _, _, rfl, rfl, ⟨by decide, by decide, by decide⟩, _, _, rfl, rfl, szb rfl, fun p hp => q p _ hp (same_new hp _) ⟨_, _, _, upd_same⟩⟩
    · exact ⟨_, rfl, _, rfl, _, _, rfl, rfl, ⟨by decide, by decide, by decide⟩, _, _, rfl, rfl, szb rfl, fun p hp => q p _ hp (same_new hp _) ⟨_, _, _, upd_same⟩⟩
theorem ok__law_mixed (d : Def K mg "_law_mixed" s__law_mixed ["_law_pen_here"]) (z : Bz K mg cLeastError cBeyond cNoBounds cNoRow cNoSuch cNoText cTooMany cMakes cInit)  : Cal P w K mg base k__law_mixed "_law_mixed" ["_law_pen_here"] (sp__law_mixed K) := by
  have sc := sc__law_mixed
  refine d.cal fun f fd F => F.ok sc (fun vs H Q E h => ?_) (fun cdv A outer s H vs Q E hr h => ?_)
  · obtain ⟨pen, rfl, _⟩ := h
    rfl
  obtain ⟨pen, rfl, ⟨c, b, n, hp⟩, q⟩ := h
  refine ⟨_, (pss_cons (ps_asg (pe_op op_add (pe_ix ix_list (pv 0) pe_int (fun _ _ => rfl)) pe_int) (pg_sub (pv 0) pe_int set_list))
 (pss_cons (ps_set (i := 1) sc.nd rfl (Or.inl rfl) (pe_op op_mod (pe_op op_mul (pe_op op_add (pe_op op_mod (pe_ix ix_list (pv 0) pe_int (fun _ _ => rfl)) pe_int) (pe_op op_mul pe_int (pe_ix ix_list (pv 0) pe_int (fun _ _ => rfl)))) pe_int) pe_int))
 (pss_cons (ps_set (i := 1) sc.nd rfl (Or.inl rfl) (pe_op op_mod (pe_op op_mul (pe_op op_add (pv 1) (pe_op op_mul pe_int (pe_ix ix_list (pv 0) pe_int (fun _ _ => rfl)))) (pe_op op_add (pv 1) pe_int)) pe_int))
 (pss_one (ps_ret (pe_op op_fdivB (pv 1) pe_int)))))), ?_⟩
  refine ⟨_, rfl, pen, _, _, _, rfl, rfl, SqL.of hp, rfl, _, _, rfl, rfl, _, rfl, pen, _, _, 2, rfl, rfl, hp, rfl, ?_⟩
  refine ⟨_, rfl, pen, _, _, _, rfl, rfl, SqL.of upd_same, rfl, _, _, rfl, rfl, (by show (0 : Int) < 2147483647; decide), _, rfl, pen, _, _, _, rfl, rfl, SqL.of upd_same, rfl, _, _, rfl, rfl, .inl ⟨by decide, by decide⟩, _, _, rfl, rfl, _, _, rfl, rfl, .inr ⟨by decide, by decide⟩, _, _, rfl, rfl, (by show (0 : Int) < 2147483629; decide), ?_⟩
  refine ⟨_, rfl, _, rfl, pen, _, _, _, rfl, rfl, SqL.of upd_same, rfl, _, _, rfl, rfl, .inl ⟨by decide, by decide⟩, _, _, rfl, rfl, _, rfl, _, _, rfl, rfl, _, _, rfl, rfl, .inr ⟨by omega, by omega⟩, _, _, rfl, rfl, (by show (0 : Int) < 2147483587; decide), ?_⟩
  refine ⟨_, rfl, _, _, rfl, rfl, ⟨by decide, by decide⟩, ?_⟩
  exact q _ _ (Keep.set pen H _) ⟨_, _, _, upd_same⟩ (Int.ediv_nonneg (Int.emod_nonneg _ (by decide)) (by decide))
theorem ok__law_take (d : Def K mg "_law_take" s__law_take ["_law_pen_here", "_law_size"]) (z : Bz K mg cLeastError cBeyond cNoBounds cNoRow cNoSuch cNoText cTooMany cMakes cInit) (c__law_mixed : Cal P w K mg base k__law_mixed "_law_mixed" ["_law_pen_here"] (sp__law_mixed K)) : Cal P w K mg base k__law_take "_law_take" ["_law_pen_here", "_law_size"] (sp__law_take K) := by
  have sc := sc__law_take
  refine d.cal fun f fd F => F.ok sc (fun vs H Q E h => ?_) (fun cdv A outer s H vs Q E hr h => ?_)
  · obtain ⟨pen, size, rfl, _⟩ := h
    rfl
  obtain ⟨pen, size, rfl, P0, s0, s1, q⟩ := h
  refine ⟨_, (pss_cons (ps_if (pt_val (pe_ix ix_list (pv 0) pe_int (fun _ _ => rfl)))
  (pss_cons (ps_set (i := 2) sc.nd rfl (Or.inl rfl) (pe_op op_mod (pe_ix ix_list (pv 0) pe_int (fun _ _ => rfl)) (pv 1)))
 (pss_cons (ps_asg (pe_op op_fdivB (pe_ix ix_list (pv 0) pe_int (fun _ _ => rfl)) (pv 1)) (pg_sub (pv 0) pe_int set_list))
 (pss_one (ps_ret (pv 2)))))
  pss_nil)
 (pss_cons (ps_set (i := 2) sc.nd rfl (Or.inl rfl) (pe_fn c__law_mixed (hr.mono (by decide)) (by rfl) (pa_cons (pv 0) pa_nil)))
 (pss_cons (ps_set (i := 3) sc.nd rfl (Or.inl rfl) (pv 1))
 (pss_cons (ps_while PassesOwn.never (pt_cmpR op_gt (pv 3) (pe_op op_pow pe_int pe_int) (nomark _))
  (pss_cons (ps_set (i := 2) sc.nd rfl (Or.inl rfl) (pe_op op_add (pe_op op_mul (pv 2) pe_int) (pe_fn c__law_mixed (hr.mono (by decide)) (by rfl) (pa_cons (pv 0) pa_nil))))
 (pss_one (ps_set (i := 3) sc.nd rfl (Or.inl rfl) (pe_op op_fdivB (pv 3) (pe_op op_pow pe_int pe_int))))))
 (pss_one (ps_ret (pe_op op_mod (pv 2) (pv 1)))))))), ?_⟩
  obtain ⟨c, b, n, hp⟩ := id P0
  refine ⟨_, rfl, pen, _, _, _, rfl, rfl, SqL.of hp, rfl, b, rfl, ?_⟩
  refine ite2 (fun _ => ?_) (fun _ => ?_)
  · refine ⟨_, rfl, pen, _, _, _, rfl, rfl, SqL.of hp, rfl, _, rfl, _, _, rfl, rfl, s0, ?_⟩
    refine ⟨_, rfl, pen, _, _, _, rfl, rfl, SqL.of hp, rfl, _, rfl, _, _, rfl, rfl, ⟨s0, s1⟩, _, rfl, pen, _, _, 0, rfl, rfl, hp, rfl, _, rfl, ?_⟩
    exact q _ _ (Keep.set pen H _) ⟨_, _, _, upd_same⟩ (Int.emod_nonneg _ (by omega)) (Int.emod_lt_of_pos _ s0)
  · refine ⟨_, rfl, pen, rfl, P0, fun v H1 k1 P1 v0 => ?_⟩
    refine ⟨_, rfl, ?_⟩
    refine while_by (fun σ H2 => ∃ (f wd : Int), σ = [some (.ref pen), some (.int size), some (.int f), some (.int wd)] ∧ Keep pen H H2 ∧ PenM H2 pen) (fun σ _ => muT σ) ⟨v, size, rfl, k1, P1⟩ ?_ ?_
    · rintro σ H2 ⟨f, wd, rfl, k2, P2⟩
      refine ⟨_, rfl, _, _, rfl, rfl, ⟨by decide, by decide, by decide⟩, _, _, rfl, rfl, _, rfl, ?_⟩
      refine ite2 (fun c2 => ?_) (fun c2 => ?_)
      · have c2' : (10 : Int) ^ 8 < wd := of_decide_eq_true c2
        refine ⟨_, rfl, _, _, rfl, rfl, .inr ⟨by decide, by decide⟩, _, rfl, pen, rfl, P2, fun v3 H3 k3 P3 _ => ⟨_, _, rfl, rfl, ?_⟩⟩
        refine ⟨_, rfl, _, _, rfl, rfl, ⟨by decide, by decide, by decide⟩, _, _, rfl, rfl, ⟨by decide, by decide⟩, ⟨_, _, rfl, k2.trans k3, P3⟩, ?_⟩
        show (wd / (10 : Int) ^ 8).toNat < wd.toNat
        omega
      · refine ⟨_, rfl, _, rfl, _, _, rfl, rfl, s0, ?_⟩
        exact q _ _ k2 P2 (Int.emod_nonneg _ (by omega)) (Int.emod_lt_of_pos _ s0)
    · rintro σ H2 Q1 Q2 hq ⟨_, e0, i, j, e1, e2, e3, i2, j2, e4, e5, k, e6, h⟩
      exact ⟨_, e0, i, j, e1, e2, e3, i2, j2, e4, e5, k, e6, hq _ _ h⟩
theorem ok__law_bounds (d : Def K mg "_law_bounds" s__law_bounds ["_law_pen_here"]) (z : Bz K mg cLeastError cBeyond cNoBounds cNoRow cNoSuch cNoText cTooMany cMakes cInit) (c__law_take : Cal P w K mg base k__law_take "_law_take" ["_law_pen_here", "_law_size"] (sp__law_take K)) : Cal P w K mg base k__law_bounds "_law_bounds" ["_law_pen_here"] (sp__law_bounds K) := by
  have sc := sc__law_bounds
  refine d.cal fun f fd F => F.ok sc (fun vs H Q E h => ?_) (fun cdv A outer s H vs Q E hr h => ?_)
  · obtain ⟨pen, rfl, _⟩ := h
    rfl
  obtain ⟨pen, rfl, P0, q⟩ := h
  refine ⟨_, (pss_cons (ps_set (i := 1) sc.nd rfl (Or.inl rfl) (pe_ix ix_list (pe_lst (pa_cons pe_int (pa_cons pe_int (pa_cons pe_int (pa_cons pe_int (pa_cons pe_int (pa_cons pe_int (pa_cons pe_int (pa_cons pe_int pa_nil))))))))) (pe_fn c__law_take (hr.mono (by decide)) (by rfl) (pa_cons (pv 0) (pa_cons pe_int pa_nil))) (fun _ _ => rfl)))
 (pss_cons (ps_set (i := 2) sc.nd rfl (Or.inl rfl) (pe_fn c__law_take (hr.mono (by decide)) (by rfl) (pa_cons (pv 0) (pa_cons pe_int pa_nil))))
 (pss_cons (ps_set (i := 3) sc.nd rfl (Or.inl rfl) (pe_fn c__law_take (hr.mono (by decide)) (by rfl) (pa_cons (pv 0) (pa_cons (pe_ix ix_list (pe_lst (pa_cons pe_int (pa_cons pe_int (pa_cons pe_int (pa_cons (pe_op op_sub (pe_op op_mul pe_int (pe_op op_pow pe_int pe_int)) pe_int) pa_nil))))) (pv 2) (fun _ _ => rfl)) pa_nil))))
 (pss_one (ps_ret (pe_tup (pa_cons (pe_ix ix_list (pe_lst (pa_cons pe_int (pa_cons (pe_op op_sub pe_int (pv 3)) (pa_cons (pe_op op_sub (pe_op op_sub (pe_op op_pow pe_int pe_int) pe_int) (pv 3)) (pa_cons (pe_op op_add (pe_op op_sub (pv 3) (pe_op op_pow pe_int pe_int)) pe_int) pa_nil))))) (pv 2) (fun _ _ => rfl)) (pa_cons (pv 1) pa_nil)))))))), ?_⟩
  refine ⟨szb rfl, fun p hp => ?_⟩
  refine ⟨_, rfl, pen, 8, rfl, P0.new hp _, by decide, by decide, fun v1 H1 k1 P1 a1 b1 => ?_⟩
  obtain ⟨L', hm, hv⟩ := atI_ints (l := [0, 1, 2, 3, 4, 5, 8, 40]) a1 b1
  have hL : 0 ≤ L' ∧ L' ≤ 40 := by
    simp only [List.mem_cons, List.not_mem_nil, or_false] at hm
    omega
  obtain ⟨L, rfl⟩ := Int.eq_ofNat_of_zero_le hL.1
  have hL2 : L ≤ 40 := by omega
  refine ⟨p, _, _, _, rfl, rfl, SqL.of (k1 _ _ (P0.fresh hp) upd_same), hv, ?_⟩
  refine ⟨_, rfl, pen, 4, rfl, P1, by decide, by decide, fun v2 H2 k2 P2 a2 b2 => ?_⟩
  have k02 : Keep pen H H2 := (Keep.new hp _).trans (k1.trans k2)
  obtain ⟨S, hS, S0, S1, hlow⟩ : ∃ S : Int, atI [V.int 1, .int 20, .int 9, .int (2 * 10 ^ (40 : Int).toNat - 1)] v2 = some (.int S) ∧ 0 < S ∧ S < 10 ^ 60 ∧ ∀ x : Int, 0 ≤ x → x < S →
      ∃ y : Int, atI [V.int 0, .int (0 - x), .int (10 ^ (40 : Int).toNat - 1 - x), .int (x - 10 ^ (40 : Int).toNat + 1)] v2 = some (.int y) ∧ -(10 ^ 40) < y ∧ y < 10 ^ 40 := by
    have h4 : v2 = 0 ∨ v2 = 1 ∨ v2 = 2 ∨ v2 = 3 := by omega
    rcases h4 with rfl | rfl | rfl | rfl
    · exact ⟨1, rfl, by decide, by decide, fun x _ _ => ⟨0, rfl, by decide, by decide⟩⟩
    · exact ⟨20, rfl, by decide, by decide, fun x _ _ => ⟨_, rfl, by omega, by omega⟩⟩
    · refine ⟨9, rfl, by decide, by decide, fun x _ _ => ⟨_, rfl, ?_, ?_⟩⟩
      · show -(10 ^ 40) < (10 : Int) ^ 40 - 1 - x
        omega
      · show (10 : Int) ^ 40 - 1 - x < 10 ^ 40
        omega
    · refine ⟨_, rfl, by decide, by decide, fun x x0 x1 => ⟨_, rfl, ?_, ?_⟩⟩
      · show -(10 ^ 40) < x - (10 : Int) ^ 40 + 1
        omega
      · show x - (10 : Int) ^ 40 + 1 < 10 ^ 40
        have x1' : x < 2 * (10 : Int) ^ 40 - 1 := x1
        omega
  refine ⟨_, rfl, _, _, rfl, rfl, ⟨by decide, by decide, by decide⟩, _, _, rfl, rfl, .inl ⟨by decide, by decide⟩, _, _, rfl, rfl, szb rfl, fun p2 hp2 => ?_⟩
  refine ⟨_, rfl, p2, _, _, _, rfl, rfl, SqL.of upd_same, hS, pen, _, rfl, P2.new hp2 _, S0, S1, fun v3 H3 k3 P3 a3 b3 => ?_⟩
  obtain ⟨y, hy, y0, y1⟩ := hlow v3 a3 b3
  refine ⟨_, rfl, _, _, rfl, rfl, _, _, rfl, rfl, ⟨by decide, by decide, by decide⟩, _, _, rfl, rfl, _, rfl, _, _, rfl, rfl, _, rfl, _, _, rfl, rfl, ⟨by decide, by decide, by decide⟩, _, _, rfl, rfl, _, _, rfl, rfl, szb rfl, fun p3 hp3 => ?_⟩
  refine ⟨_, rfl, p3, _, _, _, rfl, rfl, SqL.of upd_same, hy, _, rfl, szb rfl, fun b hb => ?_⟩
  exact q b y L _ (k02.trans ((Keep.new hp2 _).trans (k3.trans ((Keep.new hp3 _).trans (Keep.new hb _))))) ((P3.new hp3 _).new hb _) upd_same hL2 y0 y1
theorem ok__law_row (d : Def K mg "_law_row" s__law_row ["_law_pen_here", "_law_bounds_here", "_law_longest"]) (z : Bz K mg cLeastError cBeyond cNoBounds cNoRow cNoSuch cNoText cTooMany cMakes cInit) (c__law_take : Cal P w K mg base k__law_take "_law_take" ["_law_pen_here", "_law_size"] (sp__law_take K)) : Cal P w K mg base k__law_row "_law_row" ["_law_pen_here", "_law_bounds_here", "_law_longest"] (sp__law_row K) := by
  have sc := sc__law_row
  refine d.cal fun f fd F => F.ok sc (fun vs H Q E h => ?_) (fun cdv A outer s H vs Q E hr h => ?_)
  · obtain ⟨pen, b, low, g, L, rfl, _⟩ := h
    rfl
  obtain ⟨pen, b, low, g, L, rfl, P0, hb, hL, g0, g1, q⟩ := h
  refine ⟨_, (pss_cons (ps_asg (pv 1) (pg_tup rfl (pgs_cons (pg_name (i := 3) sc.nd rfl (Or.inl rfl)) (pgs_cons (pg_name (i := 4) sc.nd rfl (Or.inl rfl)) pgs_nil))))
 (pss_cons (ps_set (i := 5) sc.nd rfl (Or.inr rfl) (pe_op op_shl pe_int (pv 4)))
 (pss_cons (ps_set (i := 6) sc.nd rfl (Or.inl rfl) (pe_fn c__law_take (hr.mono (by decide)) (by rfl) (pa_cons (pv 0) (pa_cons pe_int pa_nil))))
 (pss_cons (ps_setComp (i := 7) (cl := [("_law_size", s.heap.objs.size + 1 + 1), ("_law_pen_here", s.heap.objs.size + 1 + 0)]) (cn := ["_law_size", "_law_pen_here"]) (N := ["_law_pen_here", "_law_size"]) (fr := [0, 5]) (sc0 := defScope s__law_row) sc.nd rfl (Or.inl rfl) rfl (pi_range1 rfl z.range_ (pa_cons pe_int pa_nil)) (fun C s₂ H₂ fp => (pe_fn c__law_take (hr.mono (by decide)) (by rfl) (pa_cons (pv 1) (pa_cons (pv 2) pa_nil)))) (by with_unfolding_all rfl) ⟨by with_unfolding_all rfl, by with_unfolding_all rfl, trivial⟩ rfl rfl rfl ⟨by decide +kernel, by decide +kernel, by decide +kernel, by decide +kernel, by decide +kernel, by decide +kernel, by decide +kernel⟩ rfl (by with_unfolding_all rfl) (.inl rfl))
 (pss_cons (ps_set (i := 8) sc.nd rfl (Or.inl rfl) (pe_lst pa_nil))
 (pss_cons (ps_for PassesOwn.never rfl (pi_range1 rfl z.range_ (pa_cons (pe_fn c__law_take (hr.mono (by decide)) (by rfl) (pa_cons (pv 0) (pa_cons (pe_op op_add (pv 2) pe_int) pa_nil))) pa_nil)) (pg_name (i := 9) sc.nd rfl (Or.inl rfl))
  (pss_cons (ps_set (i := 10) sc.nd rfl (Or.inl rfl) (pe_fn c__law_take (hr.mono (by decide)) (by rfl) (pa_cons (pv 0) (pa_cons (pe_ix ix_list (pe_lst (pa_cons (pv 5) (pa_cons (pv 5) (pa_cons pe_int (pa_cons (pe_callB (call_min2 rfl) (by rfl) z.min_ bt_min (pa_cons (pv 5) (pa_cons pe_int pa_nil))) pa_nil))))) (pv 6) (fun _ _ => rfl)) pa_nil))))
 (pss_cons (ps_if (pt_cmpR op_eq (pv 6) pe_int (nomark _))
  (pss_one (ps_set (i := 10) sc.nd rfl (Or.inl rfl) (pe_ix ix_list (pv 7) (pv 10) (fun _ _ => rfl))))
  pss_nil)
 (pss_cons (ps_if (pt_cmpR op_eq (pv 6) pe_int (nomark _))
  (pss_one (ps_set (i := 10) sc.nd rfl (Or.inl rfl) (pe_op op_mod (pe_op op_add (pe_ix ix_list (pv 7) pe_int (fun _ _ => rfl)) (pv 10)) (pv 5))))
  pss_nil)
 (pss_one (ps_expr (pe_bm PySem.F.plainAttrs_list PySem.F.slot_list_append PySem.F.type_list_append mt_append (pv 8) (pa_cons (pe_op op_add (pv 3) (pv 10)) pa_nil))))))))
 (pss_one (ps_ret (pv 8))))))))), ?_⟩
  have hp := p2pos L
  have hq := p2le hL
  refine ⟨_, rfl, b, _, rfl, SqT.of hb, rfl, _, _, rfl, _, _, rfl, rfl, ?_⟩
  refine ⟨_, rfl, _, _, rfl, rfl, ⟨by omega, by omega, by decide⟩, ?_⟩
  dsimp only
  rw [shlOne]
  refine ⟨_, rfl, pen, 4, rfl, P0, by decide, by decide, fun wv H1 k1 P1 w0 w1 => ?_⟩
  refine ⟨3, rfl, by decide, by decide, fun D hD => ?_⟩
  have hD0 : H D = none := P1.free k1 hD
  have hDp : D ≠ pen := P1.fresh hD
  refine comp_range (n := 3) (sz (by decide)) (fun j ys H6 => ∃ fs : List Int, ys = fs.map V.int ∧ fs.length = j ∧ (∀ x ∈ fs, 0 ≤ x ∧ x < (2 : Int) ^ L) ∧ H6 D = some (.lst ys) ∧ Keep pen H H6 ∧ PenM H6 pen)
    ⟨[], rfl, rfl, fun x hx => absurd hx (by simp), upd_same, k1.own hD0, P1.new hD _⟩ (fun j ys H6 ⟨fs, e1, e2, _, e3, _⟩ => ⟨e3, by rw [e1, List.length_map]; exact e2⟩) ?_ ?_
  · rintro j ys H6 hj ⟨fs, e1, e2, e4, e3, k6, P6⟩
    refine ⟨_, rfl, _, rfl, pen, _, rfl, P6, hp, by omega, fun u3 H7 k7 P7 z0 z1 => ?_⟩
    have e3' : H7 D = some (.lst ys) := k7 _ _ hDp e3
    refine ⟨e3', fs ++ [u3], by rw [List.map_append, e1] <;> rfl, by rw [List.length_append, e2] <;> rfl, fun x hx => ?_, upd_same, (k6.trans k7).own hD0, P7.other hDp _⟩
    rcases List.mem_append.mp hx with h' | h'
    · exact e4 x h'
    · cases List.mem_singleton.mp h'
      exact ⟨z0, z1⟩
  · rintro ys H6 ⟨fs, e1, e2, e4, e3, k6, P6⟩
    rw [e1] at e3
    refine ⟨szb rfl, fun r hr => ?_⟩
    have hr0 : H r = none := P6.free k6 hr
    have hrD : D ≠ r := ne_of_none e3 hr
    have hrp : r ≠ pen := P6.fresh hr
    have P7 : PenM (upd H6 r (.lst [])) pen := P6.new hr _
    refine ⟨_, rfl, _, rfl, _, _, rfl, rfl, pen, _, rfl, P7, by omega, by omega, fun m H7 k7 P7 m0 m1 => ⟨m, rfl, by omega, by omega, for_range (n := m.toNat) (fun i σ H8 => ∃ (ns : List Int) (v9 v10 : Option V), σ = [some (.ref pen), some (.ref b), some (.int g), some (.int low), some (.int (L : Int)), some (.int (2 ^ L)), some (.int wv), some (.ref D), some (.ref r), v9, v10] ∧ H8 r = some (.lst (ns.map V.int)) ∧ ns.length = i ∧ Wths low L ns ∧
      H8 D = some (.lst (fs.map V.int)) ∧ Keep pen H H8 ∧ PenM H8 pen) ⟨[], _, _, rfl, k7 _ _ hrp upd_same, rfl, fun x hx => absurd hx (by simp), k7 _ _ hDp (by rw [upd_ne hrD]; exact e3), (k6.own hr0).trans k7, P7⟩ ?_ ?_⟩⟩
    · rintro i σ H8 hi ⟨ns, v9, v10, rfl, hr8, hl8, hw8, hD8, k8, P8⟩
      obtain ⟨S, hS, S0, S1, S2, S3⟩ : ∃ S : Int, atI [V.int (2 ^ L), .int (2 ^ L), .int 3, .int (if (5 : Int) < 2 ^ L then 5 else 2 ^ L)] wv = some (.int S) ∧ 0 < S ∧ S < 10 ^ 60 ∧ (wv = 2 → S = 3) ∧ (wv ≠ 2 → S ≤ 2 ^ L) := by
        have h4 : wv = 0 ∨ wv = 1 ∨ wv = 2 ∨ wv = 3 := by omega
        rcases h4 with rfl | rfl | rfl | rfl
        · exact ⟨_, rfl, hp, by omega, fun z => absurd z (by decide), fun _ => Int.le_refl _⟩
        · exact ⟨_, rfl, hp, by omega, fun z => absurd z (by decide), fun _ => Int.le_refl _⟩
        · exact ⟨3, rfl, by decide, by decide, fun _ => rfl, fun z => absurd rfl z⟩
        · refine ⟨_, rfl, ?_, ?_, fun z => absurd z (by decide), fun _ => ?_⟩
          · split <;> omega
          · split <;> omega
          · split <;> omega
      have fin : ∀ (y : Int) (v : Option V) (H9 : Hp), 0 ≤ y → y < 2 ^ L → Keep pen H8 H9 → PenM H9 pen → H9 r = some (.lst (ns.map V.int)) ∧ (ns.map V.int).length < sizeLine ∧
          ∃ (ns' : List Int) (v9' v10' : Option V), [some (V.ref pen), some (.ref b), some (.int g), some (.int low), some (.int (L : Int)), some (.int (2 ^ L)), some (.int wv), some (.ref D), some (.ref r), some (.int (0 + (i : Int))), v] = [some (V.ref pen), some (.ref b), some (.int g), some (.int low), some (.int (L : Int)), some (.int (2 ^ L)), some (.int wv), some (.ref D), some (.ref r), v9', v10'] ∧
            (upd H9 r (.lst (ns.map V.int ++ [.int (low + y)]))) r = some (.lst (ns'.map V.int)) ∧ ns'.length = i + 1 ∧ Wths low L ns' ∧ (upd H9 r (.lst (ns.map V.int ++ [.int (low + y)]))) D = some (.lst (fs.map V.int)) ∧ Keep pen H (upd H9 r (.lst (ns.map V.int ++ [.int (low + y)]))) ∧ PenM (upd H9 r (.lst (ns.map V.int ++ [.int (low + y)]))) pen := by
        intro y v H9 y0 y1 k9 P9
        have hr9 := k9 _ _ hrp hr8
        have hD9 := k9 _ _ hDp hD8
        refine ⟨hr9, by rw [List.length_map, hl8]; exact small1000 (by omega), ns ++ [low + y], _, _, rfl, ?_, by rw [List.length_append, hl8] <;> rfl, hw8.snoc (by omega) (by omega), by rw [upd_ne hrD]; exact hD9, (k8.trans k9).own hr0, P9.other hrp _⟩
        rw [upd_same, List.map_append]
        rfl
      refine ⟨_, rfl, _, rfl, _, rfl, _, rfl, _, _, rfl, szb rfl, fun p2 hp2 => ?_⟩
      refine ⟨_, rfl, p2, _, _, _, rfl, rfl, SqL.of upd_same, hS, pen, _, rfl, P8.new hp2 _, S0, S1, fun u H9 k9 P9 u0 u1 => ?_⟩
      have k89 : Keep pen H8 H9 := (Keep.new hp2 _).trans k9
      refine ⟨_, rfl, rfl, _, rfl, ?_⟩
      refine ite2 (fun c => ?_) (fun c => ?_)
      · have c' : wv = 2 := V.int.inj (of_decide_eq_true c)
        have e3S := S2 c'
        obtain ⟨fv, hm, hv⟩ := atI_ints (l := fs) (i := u) u0 (by omega)
        obtain ⟨y0, y1⟩ := e4 fv hm
        refine ⟨_, rfl, _, rfl, D, _, _, _, rfl, rfl, SqL.of (k89 _ _ hDp hD8), hv, ?_⟩
        refine ⟨_, rfl, rfl, _, rfl, ?_⟩
        refine ite2 (fun c3 => ?_) (fun c3 => ?_)
        · have c3' : wv = 3 := V.int.inj (of_decide_eq_true c3)
          omega
        · obtain ⟨f1, f2, f3⟩ := fin fv (some (.int fv)) H9 y0 y1 k89 P9
          exact ⟨_, rfl, .inl ⟨rfl, _, SqL.of f1⟩, _, rfl, _, rfl, _, _, rfl, rfl, r, _, _, rfl, rfl, f1, f2, f3⟩
      · have c' : wv ≠ 2 := fun z => c (decide_eq_true (by rw [z]))
        have e3S := S3 c'
        refine ⟨_, rfl, rfl, _, rfl, ?_⟩
        refine ite2 (fun c3 => ?_) (fun c3 => ?_)
        · obtain ⟨f0, hm, hv⟩ := atI_ints (l := fs) (i := 0) (by omega) (by omega)
          have b0 : 0 ≤ (f0 + u) % (2 : Int) ^ L := Int.emod_nonneg _ (by omega)
          have b1 : (f0 + u) % (2 : Int) ^ L < 2 ^ L := Int.emod_lt_of_pos _ hp
          refine ⟨_, rfl, D, _, _, _, rfl, rfl, SqL.of (k89 _ _ hDp hD8), hv, _, rfl, _, _, rfl, rfl, _, rfl, _, _, rfl, rfl, hp, ?_⟩
          obtain ⟨f1, f2, f3⟩ := fin ((f0 + u) % (2 : Int) ^ L) (some (.int ((f0 + u) % (2 : Int) ^ L))) H9 b0 b1 k89 P9
          exact ⟨_, rfl, .inl ⟨rfl, _, SqL.of f1⟩, _, rfl, _, rfl, _, _, rfl, rfl, r, _, _, rfl, rfl, f1, f2, f3⟩
        · obtain ⟨f1, f2, f3⟩ := fin u (some (.int u)) H9 u0 (by omega) k89 P9
          exact ⟨_, rfl, .inl ⟨rfl, _, SqL.of f1⟩, _, rfl, _, rfl, _, _, rfl, rfl, r, _, _, rfl, rfl, f1, f2, f3⟩
    · rintro σ H8 ⟨ns, v9, v10, rfl, hr8, hl8, hw8, hD8, k8, P8⟩
      exact ⟨_, rfl, q r ns _ k8 P8 hr8 hr0 (by omega) hw8⟩
end

/-! ### a number put in, a number taken out -/
def mkOf (mid n : Int) : Int := if n < mid then 0 else 1
theorem mk01 (mid n : Int) : mkOf mid n = 0 ∨ mkOf mid n = 1 := by
  unfold mkOf
  split
  · exact .inl rfl
  · exact .inr rfl
theorem mkOf_lt {mid n : Int} (h : n < mid) : mkOf mid n = 0 := if_pos h
theorem mkOf_ge {mid n : Int} (h : ¬ n < mid) : mkOf mid n = 1 := if_neg h
def loI (mid : Int) : Int → Bool := fun n => decide (n < mid)
def hiI (mid : Int) : Int → Bool := fun n => decide (mid ≤ n)
theorem cnt_lo {mid : Int} (l : List Int) : (l.map (mkOf mid)).count 0 = l.countP (loI mid) := by
  induction l with
  | nil => rfl
  | cons n l ih =>
    rw [List.map_cons, List.count_cons, List.countP_cons, ih]
    unfold mkOf loI
    by_cases c : n < mid
    · simp [c]
    · simp [c]
theorem cnt_hi {mid : Int} (l : List Int) : (l.map (mkOf mid)).count 1 = l.countP (hiI mid) := by
  induction l with
  | nil => rfl
  | cons n l ih =>
    rw [List.map_cons, List.count_cons, List.countP_cons, ih]
    unfold mkOf hiI
    by_cases c : n < mid
    · have c2 : ¬ mid ≤ n := by omega
      simp [c, c2]
    · have c2 : mid ≤ n := by omega
      simp [c, c2]
theorem Wths.lower {low : Int} {e : Nat} {ns : List Int} (h : Wths low (e + 1) ns) : Wths low e (ns.filter (loI (low + 2 ^ e))) := fun x hx => by
  obtain ⟨h1, h2⟩ := List.mem_filter.mp hx
  exact ⟨(h x h1).1, of_decide_eq_true h2⟩
theorem Wths.upper {low : Int} {e : Nat} {ns : List Int} (h : Wths low (e + 1) ns) : Wths (low + 2 ^ e) e (ns.filter (hiI (low + 2 ^ e))) := fun x hx => by
  obtain ⟨h1, h2⟩ := List.mem_filter.mp hx
  have := (h x h1).2
  rw [p2succ] at this
  exact ⟨of_decide_eq_true h2, by omega⟩
theorem grow_part {low : Int} {e : Nat} {ns : List Int} (h : ns ≠ []) : grow low (e + 1) ns = .part (ns.map (mkOf (low + 2 ^ e))) (grow low e (ns.filter (loI (low + 2 ^ e)))) (grow (low + 2 ^ e) e (ns.filter (hiI (low + 2 ^ e)))) := grow_succ h
theorem half_lo (low : Int) (e : Nat) (ns : List Int) : trHalf (grow low (e + 1) ns) 0 = grow low e (ns.filter (loI (low + 2 ^ e))) := by
  by_cases h : ns = []
  · rw [h, grow_nil, List.filter_nil, grow_nil]; rfl
  · rw [grow_part h]; rfl
theorem half_hi (low : Int) (e : Nat) (ns : List Int) : trHalf (grow low (e + 1) ns) 1 = grow (low + 2 ^ e) e (ns.filter (hiI (low + 2 ^ e))) := by
  by_cases h : ns = []
  · rw [h, grow_nil, List.filter_nil, grow_nil]; rfl
  · rw [grow_part h]; rfl
theorem filt_parts (p : Int → Bool) (ns : List Int) (pl : Nat) : ns.filter p = (ns.take pl).filter p ++ (ns.drop pl).filter p := by
  rw [← List.filter_append, List.take_append_drop]
theorem filt_take (p : Int → Bool) (ns : List Int) (pl : Nat) : (ns.filter p).take ((ns.take pl).countP p) = (ns.take pl).filter p := by
  rw [filt_parts p ns pl, List.countP_eq_length_filter]
  exact List.take_left
theorem filt_drop (p : Int → Bool) (ns : List Int) (pl : Nat) : (ns.filter p).drop ((ns.take pl).countP p) = (ns.drop pl).filter p := by
  rw [filt_parts p ns pl, List.countP_eq_length_filter]
  exact List.drop_left
def insAt (ns : List Int) (pl : Nat) (x : Int) : List Int := ns.take pl ++ x :: ns.drop pl
theorem ins_ne (ns : List Int) (pl : Nat) (x : Int) : insAt ns pl x ≠ [] := by unfold insAt; simp
theorem ins_len (ns : List Int) (pl : Nat) (x : Int) : (insAt ns pl x).length = ns.length + 1 := by
  unfold insAt
  rw [List.length_append, List.length_cons, List.length_take, List.length_drop]
  omega
theorem ins_map (f : Int → Int) (ns : List Int) (pl : Nat) (x : Int) : (insAt ns pl x).map f = (ns.map f).take pl ++ f x :: (ns.map f).drop pl := by
  unfold insAt
  rw [List.map_append, List.map_cons, List.map_take, List.map_drop]
theorem ins_in {p : Int → Bool} {ns : List Int} {pl : Nat} {x : Int} (h : p x = true) : (insAt ns pl x).filter p = insAt (ns.filter p) ((ns.take pl).countP p) x := by
  unfold insAt
  rw [filt_take, filt_drop, List.filter_append, List.filter_cons, if_pos h]
theorem ins_out {p : Int → Bool} {ns : List Int} {pl : Nat} {x : Int} (h : ¬ p x = true) : (insAt ns pl x).filter p = ns.filter p := by
  unfold insAt
  rw [List.filter_append, List.filter_cons, if_neg h, ← filt_parts]
theorem ins_wths {low : Int} {L : Nat} {ns : List Int} {pl : Nat} {x : Int} (h : Wths low L ns) (h0 : low ≤ x) (h1 : x < low + 2 ^ L) : Wths low L (insAt ns pl x) := fun y hy => by
  unfold insAt at hy
  rcases List.mem_append.mp hy with z | z
  · exact h y (List.mem_of_mem_take z)
  · rcases List.mem_cons.mp z with z | z
    · rw [z]; exact ⟨h0, h1⟩
    · exact h y (List.mem_of_mem_drop z)
def hlf (mid mk : Int) : Int → Bool := if mk = 0 then loI mid else hiI mid
def lowOf (low : Int) (e : Nat) (mk : Int) : Int := if mk = 0 then low else low + 2 ^ e
theorem half_grow {low mk : Int} {e : Nat} {ns : List Int} (h : mk = 0 ∨ mk = 1) : trHalf (grow low (e + 1) ns) mk = grow (lowOf low e mk) e (ns.filter (hlf (low + 2 ^ e) mk)) := by
  rcases h with rfl | rfl
  · exact half_lo low e ns
  · exact half_hi low e ns
theorem cnt_half {mid mk : Int} {ns : List Int} {pl : Nat} (h : mk = 0 ∨ mk = 1) : ((ns.map (mkOf mid)).take pl).count mk = (ns.take pl).countP (hlf mid mk) := by
  rw [← List.map_take]
  rcases h with rfl | rfl
  · exact cnt_lo _
  · exact cnt_hi _
theorem hlf_self (mid x : Int) : hlf mid (mkOf mid x) x = true := by
  by_cases c : x < mid
  · rw [mkOf_lt c]; exact decide_eq_true c
  · rw [mkOf_ge c]; exact decide_eq_true (by omega)
theorem lowOf_eq {low mk : Int} {e : Nat} (h : mk = 0 ∨ mk = 1) : low + mk * 2 ^ e = lowOf low e mk := by
  rcases h with rfl | rfl
  · show low + 0 * 2 ^ e = low
    omega
  · show low + 1 * 2 ^ e = low + 2 ^ e
    omega
theorem Wths.half {low mk : Int} {e : Nat} {ns : List Int} (h : Wths low (e + 1) ns) (hk : mk = 0 ∨ mk = 1) : Wths (lowOf low e mk) e (ns.filter (hlf (low + 2 ^ e) mk)) := by
  rcases hk with rfl | rfl
  · exact h.lower
  · exact h.upper
theorem grow_ins (low : Int) (e : Nat) (ns : List Int) (pl : Nat) (x mk : Int) (hk : mkOf (low + 2 ^ e) x = mk) : grow low (e + 1) (insAt ns pl x) =
    .part ((ns.map (mkOf (low + 2 ^ e))).take pl ++ mk :: (ns.map (mkOf (low + 2 ^ e))).drop pl)
      (if mk = 0 then grow (lowOf low e mk) e (insAt (ns.filter (hlf (low + 2 ^ e) mk)) ((ns.take pl).countP (hlf (low + 2 ^ e) mk)) x) else trHalf (grow low (e + 1) ns) 0)
      (if mk = 0 then trHalf (grow low (e + 1) ns) 1 else grow (lowOf low e mk) e (insAt (ns.filter (hlf (low + 2 ^ e) mk)) ((ns.take pl).countP (hlf (low + 2 ^ e) mk)) x)) := by
  rw [grow_part (ins_ne ns pl x), ins_map, hk]
  by_cases c : x < low + 2 ^ e
  · rw [mkOf_lt c] at hk
    subst hk
    rw [if_pos rfl, if_pos rfl, half_hi, ins_in (p := loI _) (decide_eq_true c), ins_out (p := hiI _) (by intro z; have := of_decide_eq_true z; omega)]
    rfl
  · rw [mkOf_ge c] at hk
    subst hk
    rw [if_neg (by decide), if_neg (by decide), half_lo, ins_in (p := hiI _) (decide_eq_true (by omega)), ins_out (p := loI _) (by intro z; exact c (of_decide_eq_true z))]
    rfl
theorem way_half {low num : Int} {e : Nat} (h0 : low ≤ num) (h1 : num < low + 2 ^ (e + 1)) : wayW (e + 1) (num - low) = mkOf (low + 2 ^ e) num :: wayW e (num - lowOf low e (mkOf (low + 2 ^ e) num)) ∧
    lowOf low e (mkOf (low + 2 ^ e) num) ≤ num ∧ num < lowOf low e (mkOf (low + 2 ^ e) num) + 2 ^ e := by
  have hp := pow2 e
  by_cases c : num < low + 2 ^ e
  · rw [mkOf_lt c, wayW_lt (show num - low < 2 ^ e by omega)]
    exact ⟨rfl, h0, c⟩
  · rw [mkOf_ge c, wayW_ge (show ¬ num - low < 2 ^ e by omega)]
    refine ⟨?_, ?_, ?_⟩
    · show 1 :: wayW e (num - low - 2 ^ e) = 1 :: wayW e (num - (low + 2 ^ e))
      rw [show num - low - 2 ^ e = num - (low + 2 ^ e) by omega]
    · show low + 2 ^ e ≤ num
      omega
    · show num < low + 2 ^ e + 2 ^ e
      omega
def delAt (ns : List Int) (pl : Nat) : List Int := ns.take pl ++ ns.drop (pl + 1)
theorem del_len {ns : List Int} {pl : Nat} (h : pl < ns.length) : (delAt ns pl).length + 1 = ns.length := by
  unfold delAt
  rw [List.length_append, List.length_take, List.length_drop]
  omega
theorem del_map (f : Int → Int) (ns : List Int) (pl : Nat) : (delAt ns pl).map f = (ns.map f).take pl ++ (ns.map f).drop (pl + 1) := by
  unfold delAt
  rw [List.map_append, List.map_take, List.map_drop]
theorem drop_one {ns : List Int} {pl : Nat} {x : Int} (h : ns[pl]? = some x) : ns.drop pl = x :: ns.drop (pl + 1) := by
  obtain ⟨h1, h2⟩ := List.getElem?_eq_some_iff.mp h
  rw [← h2]
  exact List.drop_eq_getElem_cons h1
theorem del_in {p : Int → Bool} {ns : List Int} {pl : Nat} {x : Int} (hx : ns[pl]? = some x) (h : p x = true) : (delAt ns pl).filter p = delAt (ns.filter p) ((ns.take pl).countP p) := by
  have e := filt_drop p ns pl
  rw [drop_one hx, List.filter_cons, if_pos h] at e
  have e2 : (ns.filter p).drop ((ns.take pl).countP p + 1) = (ns.drop (pl + 1)).filter p := by simpa [List.drop_drop, Nat.add_comm] using congrArg (List.drop 1) e
  unfold delAt
  rw [filt_take, List.filter_append, e2]
theorem del_out {p : Int → Bool} {ns : List Int} {pl : Nat} {x : Int} (hx : ns[pl]? = some x) (h : ¬ p x = true) : (delAt ns pl).filter p = ns.filter p := by
  have e := filt_parts p ns pl
  rw [drop_one hx, List.filter_cons, if_neg h] at e
  unfold delAt
  rw [List.filter_append, e]
theorem filt_get {p : Int → Bool} {ns : List Int} {pl : Nat} {x : Int} (hx : ns[pl]? = some x) (h : p x = true) : (ns.filter p)[(ns.take pl).countP p]? = some x := by
  have e := filt_drop p ns pl
  rw [drop_one hx, List.filter_cons, if_pos h] at e
  have z := congrArg (fun l => l[0]?) e
  simpa [List.getElem?_drop] using z
theorem grow_del {low : Int} {e : Nat} {ns : List Int} {pl : Nat} {x mk : Int} (hx : ns[pl]? = some x) (h2 : delAt ns pl ≠ []) (hk : mkOf (low + 2 ^ e) x = mk) : grow low (e + 1) (delAt ns pl) =
    .part ((ns.map (mkOf (low + 2 ^ e))).take pl ++ (ns.map (mkOf (low + 2 ^ e))).drop (pl + 1))
      (if mk = 0 then grow (lowOf low e mk) e (delAt (ns.filter (hlf (low + 2 ^ e) mk)) ((ns.take pl).countP (hlf (low + 2 ^ e) mk))) else trHalf (grow low (e + 1) ns) 0)
      (if mk = 0 then trHalf (grow low (e + 1) ns) 1 else grow (lowOf low e mk) e (delAt (ns.filter (hlf (low + 2 ^ e) mk)) ((ns.take pl).countP (hlf (low + 2 ^ e) mk)))) := by
  rw [grow_part h2, del_map]
  by_cases c : x < low + 2 ^ e
  · rw [mkOf_lt c] at hk
    subst hk
    rw [if_pos rfl, if_pos rfl, half_hi, del_in (p := loI _) hx (decide_eq_true c), del_out (p := hiI _) hx (by intro z; have := of_decide_eq_true z; omega)]
    rfl
  · rw [mkOf_ge c] at hk
    subst hk
    rw [if_neg (by decide), if_neg (by decide), half_lo, del_in (p := hiI _) hx (decide_eq_true (by omega)), del_out (p := loI _) hx (by intro z; exact c (of_decide_eq_true z))]
    rfl
theorem cut_drop (ms : List Int) (k : Nat) : cutV (ms.map V.int) (some (k : Int)) none = (ms.drop k).map V.int := by
  unfold cutV
  rw [HT.sIx_nat, HT.sIx_none, List.map_drop]
  by_cases h : k ≤ (ms.map V.int).length
  · rw [Nat.min_eq_left h]
    exact List.take_of_length_le (by rw [List.length_drop]; exact Nat.le_refl _)
  · have h' : (ms.map V.int).length ≤ k := by omega
    rw [Nat.min_eq_right h', List.drop_of_length_le h', List.drop_of_length_le (Nat.le_refl _)]
    exact List.take_nil
theorem cut_tail (w : Int) (ws : List Int) : cutV ((w :: ws).map V.int) (some 1) none = ws.map V.int := cut_drop (w :: ws) 1

abbrev k_init : Nat := 1
def sp_init (cB : Addr) : Sp := fun vs H Q _ => ∃ (x : Addr) (num : Int), vs = [.ref x, .int num] ∧ H x = some (ExcN x (.ref cB) none) ∧ ∀ d, H d = none → d ≠ x → Q .non (upd (upd H d (.xd [("number", .int num)])) x (ExcN x (.ref cB) (some d)))
section
variable {P : Program} {w : World} {K : PySem.W.Frag} {mg : Str → Option Value} {base : Heap}
theorem ok_init {f : Addr} {fd : FuncData} (F : Fun K "__init__" "Beyond.__init__" s_init f fd) (z : Bz K mg cLeastError cBeyond cNoBounds cNoRow cNoSuch cNoText cTooMany cMakes cInit) : FnOk P w K mg base CX0 k_init f fd ["self", "number"] (sp_init cBeyond) := by
  have sc := sc_init
  refine F.ok sc (fun vs H Q E h => ?_) (fun cdv A outer s H vs Q E hr h => ?_)
  · obtain ⟨x, num, rfl, _⟩ := h
    rfl
  obtain ⟨x, num, rfl, hx, q⟩ := h
  refine ⟨_, (pss_cons (ps_expr (pe_initB z.m_LeastError (by rfl) z.rdL z.ttL z.fcL z.own_Beyond (pa_cons (pv 0) (pa_cons pe_str pa_nil)))) (pss_one (ps_fldE z.own_Beyond z.ecl z.fld (pv 0) (pv 1)))), ?_⟩
  exact ⟨_, rfl, x, none, _, rfl, Nat.le_of_ble_eq_true rfl, hx, _, rfl, _, rfl, x, rfl, hx, fun d h1 h2 => q d h1 h2⟩
end

def outB (low : Int) (L : Nat) (n : Int) : Bool := decide (n < low) || decide (low + 2 ^ L - 1 < n)
theorem outB_not {low n : Int} {L : Nat} : outB low L n = false ↔ (low ≤ n ∧ n < low + 2 ^ L) := by
  unfold outB
  rw [Bool.or_eq_false_iff, decide_eq_false_iff_not, decide_eq_false_iff_not]
  omega
theorem where_out {low n : Int} {L : Nat} (h : outB low L n = true) : whereS low L n ≠ "within" := by
  unfold whereS
  unfold outB at h
  rw [Bool.or_eq_true] at h
  by_cases c : n < low
  · rw [if_pos c]; decide
  · rw [if_neg c]
    have c2 : low + 2 ^ L - 1 < n := by
      rcases h with h | h
      · exact absurd (of_decide_eq_true h) c
      · exact of_decide_eq_true h
    rw [if_pos c2]
    decide
theorem find_at {p : Int → Bool} : ∀ (ns : List Int) (i : Nat) (n : Int), (∀ x ∈ ns.take i, p x = false) → ns[i]? = some n → p n = true → ns.find? p = some n
  | [], i, n, _, h, _ => by simp at h
  | x :: ns, 0, n, _, h, hp => by
    have e : x = n := by simpa using h
    rw [List.find?_cons, e, hp]
  | x :: ns, i + 1, n, ha, h, hp => by
    have h' : ns[i]? = some n := by simpa using h
    have hx : p x = false := ha x (by rw [List.take_succ_cons]; exact List.mem_cons_self ..)
    rw [List.find?_cons, hx]
    exact find_at ns i n (fun y hy => ha y (by rw [List.take_succ_cons]; exact List.mem_cons_of_mem _ hy)) h' hp
abbrev k_tree_of : Nat := 42
def sp1_tree_of (K : PySem.W.Frag) (cB : Addr) : Sp := fun vs H Q E => ∃ (b a : Addr) (low : Int) (L : Nat) (ns : List Int), vs = [.ref b, .ref a] ∧ SqT K H b [.int low, .int (L : Int)] ∧ L ≤ 40 ∧ SqL K H a (ns.map V.int) ∧ ns.length ≤ 1000 ∧
  (Wths low L ns → ∀ (H' : Hp) (v : V), Same H H' → TreeAt H' v (grow low L ns) → Q v H') ∧ (∀ n, ns.find? (outB low L) = some n → ∀ d H', Same H H' → H' d = some (.xd [("number", .int n)]) → E (.ref cB) (some d) H')
def sp_tree_of (K : PySem.W.Frag) : Sp := fun vs H Q _ => ∃ (b a : Addr) (low : Int) (L : Nat) (ns : List Int), vs = [.ref b, .ref a] ∧ SqT K H b [.int low, .int (L : Int)] ∧ L ≤ 40 ∧ SqL K H a (ns.map V.int) ∧ ns.length ≤ 1000 ∧ Wths low L ns ∧
  ∀ (H' : Hp) (v : V), Same H H' → TreeAt H' v (grow low L ns) → Q v H'
section
variable {P : Program} {w : World} {K : PySem.W.Frag} {mg : Str → Option Value} {base : Heap}
theorem okx_tree_of (d : Def K mg "tree_of" s_tree_of ["bounds", "row"]) (z : Bz K mg cLeastError cBeyond cNoBounds cNoRow cNoSuch cNoText cTooMany cMakes cInit) (c_grown : Cal P w K mg base k_grown "grown" ["least", "many", "row"] (sp_grown K)) (c_many_worths : Cal P w K mg base k_many_worths "many_worths" ["levels"] (sp_many_worths K)) (c_where : Cal P w K mg base k_where "where" ["bounds", "number"] (sp_where K)) : CalX P w K mg base k_tree_of "tree_of" ["bounds", "row"] (sp1_tree_of K cBeyond) := by
  have sc := sc_tree_of
  obtain ⟨fdI, FI, bI⟩ := z.ini
  have Fi : FnOk P w K mg base CX0 k_init cInit fdI ["self", "number"] (sp_init cBeyond) := ok_init FI z
  have Bi : Binds K fdI ["self", "number"] [] := .all bI
  refine d.calx fun f fd F => F.okx sc (fun vs H Q E h => ?_) (fun cdv A outer s H vs Q E hr h => ?_)
  · obtain ⟨b, a, low, L, ns, rfl, _⟩ := h
    rfl
  obtain ⟨b, a, low, L, ns, rfl, hb, hL, ha, hl, q1, q2⟩ := h
  refine ⟨_, (pss_cons (ps_for (Lv.loops lv_of) rfl (pi_list (pv 1)) (pg_name (i := 2) sc.nd rfl (Or.inl rfl))
  (pss_one (ps_if (pt_cmpR op_ne (pe_fn c_where (hr.mono (by decide)) (by rfl) (pa_cons (pv 0) (pa_cons (pv 2) pa_nil))) pe_str (nomark _))
  (pss_one (ps_raiseI lv_of z.m_Beyond z.own_Beyond z.ecl.sb Fi (hr.mono (by decide)) Bi (by rfl) (pa_cons (pv 2) pa_nil)))
  pss_nil)))
 (pss_one (ps_ret (pe_fn c_grown (hr.mono (by decide)) (by rfl) (pa_cons (pe_ix ix_tup (pv 0) pe_int (fun _ _ => rfl)) (pa_cons (pe_fn c_many_worths (hr.mono (by decide)) (by rfl) (pa_cons (pe_ix ix_tup (pv 0) pe_int (fun _ _ => rfl)) pa_nil)) (pa_cons (pv 1) pa_nil))))))), ?_⟩
  refine ⟨_, rfl, a, rfl, ⟨_, ha⟩, for_list (K := K) (a := a) (xs := ns.map V.int) (fun i σ H2 => ∃ v : Option V, σ = [some (.ref b), some (.ref a), v] ∧ H2 = H ∧ ∀ x ∈ ns.take i, outB low L x = false) ⟨none, rfl, rfl, fun x hx => absurd hx (by simp)⟩ (fun i σ H2 _ ⟨_, _, e, _⟩ => by rw [e]; exact ha) ?_ ?_⟩
  · rintro i x σ H2 hi ⟨v, rfl, rfl, hin⟩
    obtain ⟨n, gn, rfl⟩ : ∃ n, ns[i]? = some n ∧ x = .int n := by
      rw [List.getElem?_map] at hi
      cases e : ns[i]? with
      | none => rw [e] at hi; cases hi
      | some m => rw [e] at hi; exact ⟨m, rfl, (Option.some.inj hi).symm⟩
    refine ⟨_, rfl, _, rfl, b, low, n, L, rfl, hb, hL, rfl, _, rfl, ?_⟩
    cases ho : outB low L n with
    | true =>
      have c' := where_out ho
      refine ite2 (fun c => ?_) (fun c => ?_)
      · refine ⟨_, rfl, szb rfl, fun ex hex => ⟨ex, n, rfl, upd_same, fun dd hd hdx => ⟨rfl, some dd, upd_same, ?_⟩⟩⟩
        have hd' : H2 dd = none := by rw [upd_ne hdx] at hd; exact hd
        refine q2 n (find_at ns i n hin gn ho) dd _ (fun y o hy => ?_) ?_
        · have y1 : y ≠ ex := ne_of_none hy hex
          rw [del_ne y1, upd_ne y1, upd_ne (ne_of_none hy hd'), upd_ne y1]
          exact hy
        · rw [del_ne hdx, upd_ne hdx, upd_same]
      · exfalso
        apply c
        rw [decide_eq_false (fun z => c' (V.str.inj z))]
        rfl
    | false =>
      refine iteNS (by rw [whereS_in (outB_not.mp ho)]) ?_
      refine ⟨_, rfl, rfl, fun x hx => ?_⟩
      have e : ns.take (i + 1) = ns.take i ++ [n] := by rw [List.take_add_one, gn]; rfl
      rw [e] at hx
      rcases List.mem_append.mp hx with h' | h'
      · exact hin x h'
      · cases List.mem_singleton.mp h'
        exact ho
  · rintro σ H2 ⟨v, rfl, rfl, hin⟩
    have e : ns.take (ns.map V.int).length = ns := List.take_of_length_le (by rw [List.length_map]; exact Nat.le_refl _)
    rw [e] at hin
    refine ⟨_, rfl, b, _, _, _, rfl, rfl, hb, rfl, _, rfl, b, _, _, _, rfl, rfl, hb, rfl, L, rfl, hL, ?_⟩
    exact ⟨_, rfl, L, hL, low, a, ns, rfl, ha, hl, q1 fun x hx => outB_not.mp (hin x hx)⟩
theorem ok_tree_of (c : CalX P w K mg base k_tree_of "tree_of" ["bounds", "row"] (sp1_tree_of K cBeyond)) : Cal P w K mg base k_tree_of "tree_of" ["bounds", "row"] (sp_tree_of K) :=
  c.cal fun vs H Q E ⟨b, a, low, L, ns, e, hb, hL, ha, hl, hw, q⟩ => ⟨b, a, low, L, ns, e, hb, hL, ha, hl, fun _ => q, fun n hn => by
    have h1 := List.find?_some hn
    have h2 := outB_not.mpr (hw n (List.mem_of_find?_eq_some hn))
    rw [h1] at h2
    cases h2⟩
end
abbrev k_with_half : Nat := 2
def sp_with_half (_ : PySem.W.Frag) : Sp := fun vs H Q _ => ∃ (m : Addr) (ms : List Int) (v : V) (t : Tr) (mk : Int) (u : V) (t' : Tr), vs = [.ref m, v, .int mk, u] ∧ TupF H m (ms.map V.int) ∧ TreeAt H v t ∧ (mk = 0 ∨ mk = 1) ∧ TreeAt H u t' ∧
  ∀ (p : Addr) (H' : Hp), Same H H' → TreeAt H' (.ref p) (.part ms (if mk = 0 then t' else trHalf t 0) (if mk = 0 then trHalf t 1 else t')) → Q (.ref p) H'
abbrev kb_with_way : Nat := 2
abbrev kn_with_way : Nat := 40
abbrev k_with_way : Nat := 43
def spe_with_way (_ : PySem.W.Frag) (e : Nat) : Sp := fun vs H Q _ => ∃ (v : V) (wy : Addr) (pl : Nat) (low num : Int) (ns : List Int), vs = [v, .ref wy, .int (pl : Int)] ∧ TreeAt H v (grow low e ns) ∧ TupF H wy ((wayW e (num - low)).map V.int) ∧ low ≤ num ∧ num < low + 2 ^ e ∧ ns.length ≤ 1000 ∧
  ∀ (u : V) (H' : Hp), Same H H' → TreeAt H' u (grow low e (insAt ns pl num)) → Q u H'
def sp_with_way (K : PySem.W.Frag) : Sp := fun vs H Q E => ∃ e, e ≤ kn_with_way ∧ spe_with_way K e vs H Q E
section
variable {P : Program} {w : World} {K : PySem.W.Frag} {mg : Str → Option Value} {base : Heap}
theorem ok_with_half (d : Def K mg "with_half" s_with_half ["marks", "tree", "turn", "half"]) (z : Bz K mg cLeastError cBeyond cNoBounds cNoRow cNoSuch cNoText cTooMany cMakes cInit) (c_half_of : Cal P w K mg base k_half_of "half_of" ["tree", "mark"] (sp_half_of K)) : Cal P w K mg base k_with_half "with_half" ["marks", "tree", "turn", "half"] (sp_with_half K) := by
  have sc := sc_with_half
  refine d.cal fun f fd F => F.ok sc (fun vs H Q E h => ?_) (fun cdv A outer s H vs Q E hr h => ?_)
  · obtain ⟨m, ms, v, t, mk, u, t', rfl, _⟩ := h
    rfl
  obtain ⟨m, ms, v, t, mk, u, t', rfl, hm, ht, hmk, hu, q⟩ := h
  refine ⟨_, (pss_cons (ps_if (pt_cmpR op_eq (pv 2) pe_int (nomark _))
  (pss_one (ps_ret (pe_tup (pa_cons pe_str (pa_cons (pv 0) (pa_cons (pv 3) (pa_cons (pe_fn c_half_of (hr.mono (by decide)) (by rfl) (pa_cons (pv 1) (pa_cons pe_int pa_nil))) pa_nil)))))))
  pss_nil)
 (pss_one (ps_ret (pe_tup (pa_cons pe_str (pa_cons (pv 0) (pa_cons (pe_fn c_half_of (hr.mono (by decide)) (by rfl) (pa_cons (pv 1) (pa_cons pe_int pa_nil))) (pa_cons (pv 3) pa_nil)))))))), ?_⟩
  refine ⟨_, rfl, rfl, _, rfl, ?_⟩
  rcases hmk with rfl | rfl
  · refine ite2 (fun c => ?_) (fun c => absurd (decide_eq_true rfl) c)
    refine ⟨_, rfl, _, rfl, _, rfl, v, t, 1, rfl, ht, .inr rfl, fun x hx => ⟨szb rfl, fun p hp => q p _ (same_new hp _) ?_⟩⟩
    have s1 : Same H (upd H p (.tup [.str "part", .ref m, u, x])) := same_new hp _
    exact ⟨p, m, u, x, rfl, upd_same, hm.same s1, hu.same s1, hx.same s1⟩
  · refine ite2 (fun c => absurd (of_decide_eq_true c) (by decide)) (fun c => ?_)
    refine ⟨_, rfl, _, rfl, v, t, 0, rfl, ht, .inl rfl, fun x hx => ⟨_, rfl, szb rfl, fun p hp => q p _ (same_new hp _) ?_⟩⟩
    have s1 : Same H (upd H p (.tup [.str "part", .ref m, x, u])) := same_new hp _
    exact ⟨p, m, x, u, rfl, upd_same, hm.same s1, hx.same s1, hu.same s1⟩
theorem ok_with_way (d : Def K mg "with_way" s_with_way ["tree", "way", "place"]) (z : Bz K mg cLeastError cBeyond cNoBounds cNoRow cNoSuch cNoText cTooMany cMakes cInit) (c_ahead : Cal P w K mg base k_ahead "ahead" ["marks", "mark", "place"] (sp_ahead K)) (c_half_of : Cal P w K mg base k_half_of "half_of" ["tree", "mark"] (sp_half_of K)) (c_size_of : Cal P w K mg base k_size_of "size_of" ["tree"] (sp_size_of K)) (c_with_half : Cal P w K mg base k_with_half "with_half" ["marks", "tree", "turn", "half"] (sp_with_half K)) : Cal P w K mg base k_with_way "with_way" ["tree", "way", "place"] (sp_with_way K) := by
  have sc := sc_with_way
  refine d.recur (k := kb_with_way) (sp := spe_with_way K) kn_with_way fun e hen c_with_way f fd F => F.ok sc (fun vs H Q E h => ?_) (fun cdv A outer s H vs Q E hr h => ?_)
  · obtain ⟨v, wy, pl, low, num, ns, rfl, _⟩ := h
    rfl
  obtain ⟨v, wy, pl, low, num, ns, rfl, ht, hw, n0, n1, hl, q⟩ := h
  refine ⟨_, (pss_cons (ps_if (pt_cmpR op_eq (pe_callB call_len_seq (by rfl) z.len_ bt_len (pa_cons (pv 1) pa_nil)) pe_int (nomark _))
  (pss_one (ps_ret (pe_tup (pa_cons pe_str (pa_cons (pe_op op_add (pe_fn c_size_of (hr.mono (Nat.le_trans (by decide : k_size_of ≤ kb_with_way) (Nat.le_add_left _ _))) (by rfl) (pa_cons (pv 0) pa_nil)) pe_int) pa_nil)))))
  pss_nil)
 (pss_cons (ps_set (i := 3) sc.nd rfl (Or.inl rfl) (pe_ix ix_tup (pv 1) pe_int (fun _ _ => rfl)))
 (pss_cons (ps_set (i := 4) sc.nd rfl (Or.inl rfl) (pe_ifExp (pt_cmpR op_isN (pv 0) pe_non (nomark _)) (pe_tupF pa_nil) (pe_ix ix_tup (pv 0) pe_int (fun _ _ => rfl))))
 (pss_cons (ps_set (i := 5) sc.nd rfl (Or.inl rfl) (pe_fn c_with_way (hr.mono (Nat.le_refl _)) (by rfl) (pa_cons (pe_fn c_half_of (hr.mono (Nat.le_trans (by decide : k_half_of ≤ kb_with_way) (Nat.le_add_left _ _))) (by rfl) (pa_cons (pv 0) (pa_cons (pv 3) pa_nil))) (pa_cons (pe_slice sl_tupF (pv 1) (po_some pe_int) po_none) (pa_cons (pe_fn c_ahead (hr.mono (Nat.le_trans (by decide : k_ahead ≤ kb_with_way) (Nat.le_add_left _ _))) (by rfl) (pa_cons (pv 4) (pa_cons (pv 3) (pa_cons (pv 2) pa_nil)))) pa_nil)))))
 (pss_one (ps_ret (pe_fn c_with_half (hr.mono (Nat.le_trans (by decide : k_with_half ≤ kb_with_way) (Nat.le_add_left _ _))) (by rfl) (pa_cons (pe_op op_catF (pe_op op_catF (pe_slice sl_tupF (pv 4) po_none (po_some (pv 2))) (pe_tupF (pa_cons (pv 3) pa_nil))) (pe_slice sl_tupF (pv 4) (po_some (pv 2)) po_none)) (pa_cons (pv 0) (pa_cons (pv 3) (pa_cons (pv 5) pa_nil))))))))))), ?_⟩
  refine ⟨_, rfl, wy, _, rfl, .inr hw.sq, rfl, _, rfl, ?_⟩
  cases e with
  | zero =>
    refine ite2 (fun c => ?_) (fun c => absurd (decide_eq_true rfl) c)
    refine ⟨_, rfl, v, _, rfl, ht, _, _, rfl, rfl, szb rfl, fun p hp => q _ _ (same_new hp _) ?_⟩
    rw [grow_zero (ins_ne ns pl num), ins_len]
    refine ⟨p, rfl, ?_⟩
    rw [upd_same, grow_size]
    rfl
  | succ e =>
    obtain ⟨hwy, l0, l1⟩ := way_half n0 n1
    rw [hwy] at hw
    rw [grow_ins low e ns pl num _ rfl] at q
    have hmk := mk01 (low + 2 ^ e) num
    refine ite2 (fun c => ?_) (fun _ => ?_)
    · exfalso
      have := V.int.inj (of_decide_eq_true c)
      rw [List.length_map, wayW_len] at this
      omega
    generalize mkOf (low + 2 ^ e) num = mk at *
    have h0at : atI ((mk :: wayW e (num - lowOf low e mk)).map V.int) 0 = some (.int mk) := by
      show atI _ ((0 : Nat) : Int) = _
      exact atI_nat rfl
    refine ⟨_, rfl, wy, _, _, _, rfl, rfl, hw.sq, h0at, ?_⟩
    by_cases hns : ns = []
    · have hv : v = .non := by
        rw [hns, grow_nil] at ht
        exact ht
      subst hv
      refine ⟨_, rfl, rfl, _, rfl, ?_⟩
      refine ite2 (fun c => ?_) (fun c => absurd (decide_eq_true rfl) c)
      refine ⟨szb rfl, fun m H1 s1 hm0 => ?_⟩
      have hm : TupF H1 m ((ns.map (mkOf (low + 2 ^ e))).map V.int) := by rw [hns]; exact hm0
      generalize V.non = v at *
      have ht1 := ht.same s1
      refine ⟨_, rfl, _, rfl, v, _, mk, rfl, ht1, hmk, fun h hh => ?_⟩
      rw [half_grow hmk] at hh
      refine ⟨_, rfl, 1, rfl, wy, _, rfl, hw.same s1, fun w2 H2 s2 hw2 => ?_⟩
      rw [cut_tail] at hw2
      have hm2 := hm.same s2
      refine ⟨_, rfl, _, rfl, _, rfl, m, ns.map (mkOf (low + 2 ^ e)), mk, pl, rfl, hm2, fun H3 s3 => ?_⟩
      refine ⟨h, w2, (ns.take pl).countP (hlf (low + 2 ^ e) mk), lowOf low e mk, num, ns.filter (hlf (low + 2 ^ e) mk), by rw [cnt_half hmk] <;> rfl, (hh.same s2).same s3, hw2.same s3, l0, l1, Nat.le_trans (List.length_filter_le _ _) hl, fun u H4 s4 hu => ?_⟩
      have hm4 := (hm2.same s3).same s4
      refine ⟨_, rfl, _, rfl, _, rfl, m, _, rfl, hm4, fun p5 H5 s5 h5 => ?_⟩
      rw [cut_take] at h5
      refine ⟨_, rfl, szb rfl, fun p6 H6 s6 h6 => ?_⟩
      refine ⟨p5, p6, _, _, rfl, rfl, h5.same s6, h6, szB (by simp only [List.length_map, List.length_take, List.length_cons, List.length_nil]; omega), fun p7 H7 s7 h7 => ?_⟩
      have hm7 := ((hm4.same s5).same s6).same s7
      refine ⟨_, rfl, _, rfl, _, rfl, m, _, rfl, hm7, fun p8 H8 s8 h8 => ?_⟩
      rw [cut_drop] at h8
      refine ⟨p7, p8, _, _, rfl, rfl, h7.same s8, h8, szB (by simp only [List.length_append, List.length_map, List.length_take, List.length_drop, List.length_cons, List.length_nil]; omega), fun p9 H9 s9 h9 => ?_⟩
      have s49 : Same H4 H9 := s5.trans (s6.trans (s7.trans (s8.trans s9)))
      have s09 : Same H H9 := s1.trans (s2.trans (s3.trans (s4.trans s49)))
      have h9' : TupF H9 p9 (((ns.map (mkOf (low + 2 ^ e))).take pl ++ mk :: (ns.map (mkOf (low + 2 ^ e))).drop pl).map V.int) := by simpa using h9
      exact ⟨_, rfl, _, rfl, _, rfl, p9, _, v, _, mk, u, _, rfl, h9', ht.same s09, hmk, hu.same s49, fun p H10 s10 h10 => q _ _ (s09.trans s10) h10⟩
    · have ht1 := ht
      rw [grow_part hns] at ht1
      obtain ⟨a, m, x, y, hv, ha, hm, _, _⟩ := ht1
      subst hv
      refine ⟨_, rfl, rfl, _, rfl, ?_⟩
      refine ite2 (fun c => absurd (of_decide_eq_true c) (by intro z; cases z)) (fun c => ?_)
      refine ⟨_, rfl, a, _, _, _, rfl, rfl, SqT.of ha, rfl, ?_⟩
      have s1 := Same.refl H
      clear ha
      generalize V.ref a = v at *
      have ht1 := ht.same s1
      refine ⟨_, rfl, _, rfl, v, _, mk, rfl, ht1, hmk, fun h hh => ?_⟩
      rw [half_grow hmk] at hh
      refine ⟨_, rfl, 1, rfl, wy, _, rfl, hw.same s1, fun w2 H2 s2 hw2 => ?_⟩
      rw [cut_tail] at hw2
      have hm2 := hm.same s2
      refine ⟨_, rfl, _, rfl, _, rfl, m, ns.map (mkOf (low + 2 ^ e)), mk, pl, rfl, hm2, fun H3 s3 => ?_⟩
      refine ⟨h, w2, (ns.take pl).countP (hlf (low + 2 ^ e) mk), lowOf low e mk, num, ns.filter (hlf (low + 2 ^ e) mk), by rw [cnt_half hmk] <;> rfl, (hh.same s2).same s3, hw2.same s3, l0, l1, Nat.le_trans (List.length_filter_le _ _) hl, fun u H4 s4 hu => ?_⟩
      have hm4 := (hm2.same s3).same s4
      refine ⟨_, rfl, _, rfl, _, rfl, m, _, rfl, hm4, fun p5 H5 s5 h5 => ?_⟩
      rw [cut_take] at h5
      refine ⟨_, rfl, szb rfl, fun p6 H6 s6 h6 => ?_⟩
      refine ⟨p5, p6, _, _, rfl, rfl, h5.same s6, h6, szB (by simp only [List.length_map, List.length_take, List.length_cons, List.length_nil]; omega), fun p7 H7 s7 h7 => ?_⟩
      have hm7 := ((hm4.same s5).same s6).same s7
      refine ⟨_, rfl, _, rfl, _, rfl, m, _, rfl, hm7, fun p8 H8 s8 h8 => ?_⟩
      rw [cut_drop] at h8
      refine ⟨p7, p8, _, _, rfl, rfl, h7.same s8, h8, szB (by simp only [List.length_append, List.length_map, List.length_take, List.length_drop, List.length_cons, List.length_nil]; omega), fun p9 H9 s9 h9 => ?_⟩
      have s49 : Same H4 H9 := s5.trans (s6.trans (s7.trans (s8.trans s9)))
      have s09 : Same H H9 := s1.trans (s2.trans (s3.trans (s4.trans s49)))
      have h9' : TupF H9 p9 (((ns.map (mkOf (low + 2 ^ e))).take pl ++ mk :: (ns.map (mkOf (low + 2 ^ e))).drop pl).map V.int) := by simpa using h9
      exact ⟨_, rfl, _, rfl, _, rfl, p9, _, v, _, mk, u, _, rfl, h9', ht.same s09, hmk, hu.same s49, fun p H10 s10 h10 => q _ _ (s09.trans s10) h10⟩
end
abbrev kb_without : Nat := 2
abbrev kn_without : Nat := 40
abbrev k_without : Nat := 43
def spe_without (_ : PySem.W.Frag) (e : Nat) : Sp := fun vs H Q _ => ∃ (v : V) (pl : Nat) (low x : Int) (ns : List Int), vs = [v, .int (pl : Int)] ∧ TreeAt H v (grow low e ns) ∧ ns[pl]? = some x ∧ ns.length ≤ 1000 ∧
  ∀ (u : V) (H' : Hp), Same H H' → TreeAt H' u (grow low e (delAt ns pl)) → Q u H'
def sp_without (K : PySem.W.Frag) : Sp := fun vs H Q E => ∃ e, e ≤ kn_without ∧ spe_without K e vs H Q E
section
variable {P : Program} {w : World} {K : PySem.W.Frag} {mg : Str → Option Value} {base : Heap}
theorem ok_without (d : Def K mg "without" s_without ["tree", "place"]) (z : Bz K mg cLeastError cBeyond cNoBounds cNoRow cNoSuch cNoText cTooMany cMakes cInit) (c_ahead : Cal P w K mg base k_ahead "ahead" ["marks", "mark", "place"] (sp_ahead K)) (c_half_of : Cal P w K mg base k_half_of "half_of" ["tree", "mark"] (sp_half_of K)) (c_size_of : Cal P w K mg base k_size_of "size_of" ["tree"] (sp_size_of K)) (c_with_half : Cal P w K mg base k_with_half "with_half" ["marks", "tree", "turn", "half"] (sp_with_half K)) : Cal P w K mg base k_without "without" ["tree", "place"] (sp_without K) := by
  have sc := sc_without
  refine d.recur (k := kb_without) (sp := spe_without K) kn_without fun e hen c_without f fd F => F.ok sc (fun vs H Q E h => ?_) (fun cdv A outer s H vs Q E hr h => ?_)
  · obtain ⟨v, pl, low, x, ns, rfl, _⟩ := h
    rfl
  obtain ⟨v, pl, low, x, ns, rfl, ht, hx, hl, q⟩ := h
  refine ⟨_, (pss_cons (ps_if (pt_cmpR op_eq (pe_fn c_size_of (hr.mono (Nat.le_trans (by decide : k_size_of ≤ kb_without) (Nat.le_add_left _ _))) (by rfl) (pa_cons (pv 0) pa_nil)) pe_int (nomark _))
  (pss_one (ps_ret pe_non))
  pss_nil)
 (pss_cons (ps_if (pt_cmpR op_eq (pe_ix ix_tup (pv 0) pe_int (fun _ _ => rfl)) pe_str (nomark _))
  (pss_one (ps_ret (pe_tup (pa_cons pe_str (pa_cons (pe_op op_sub (pe_ix ix_tup (pv 0) pe_int (fun _ _ => rfl)) pe_int) pa_nil)))))
  pss_nil)
 (pss_cons (ps_set (i := 2) sc.nd rfl (Or.inl rfl) (pe_ix ix_tup (pv 0) pe_int (fun _ _ => rfl)))
 (pss_cons (ps_set (i := 3) sc.nd rfl (Or.inl rfl) (pe_ix ix_tup (pv 2) (pv 1) (fun _ _ => rfl)))
 (pss_cons (ps_set (i := 4) sc.nd rfl (Or.inl rfl) (pe_fn c_without (hr.mono (Nat.le_refl _)) (by rfl) (pa_cons (pe_fn c_half_of (hr.mono (Nat.le_trans (by decide : k_half_of ≤ kb_without) (Nat.le_add_left _ _))) (by rfl) (pa_cons (pv 0) (pa_cons (pv 3) pa_nil))) (pa_cons (pe_fn c_ahead (hr.mono (Nat.le_trans (by decide : k_ahead ≤ kb_without) (Nat.le_add_left _ _))) (by rfl) (pa_cons (pv 2) (pa_cons (pv 3) (pa_cons (pv 1) pa_nil)))) pa_nil))))
 (pss_one (ps_ret (pe_fn c_with_half (hr.mono (Nat.le_trans (by decide : k_with_half ≤ kb_without) (Nat.le_add_left _ _))) (by rfl) (pa_cons (pe_op op_catF (pe_slice sl_tupF (pv 2) po_none (po_some (pv 1))) (pe_slice sl_tupF (pv 2) (po_some (pe_op op_add (pv 1) pe_int)) po_none)) (pa_cons (pv 0) (pa_cons (pv 3) (pa_cons (pv 4) pa_nil)))))))))))), ?_⟩
  have hpl : pl < ns.length := (List.getElem?_eq_some_iff.mp hx).1
  have hdl := del_len hpl
  have hne : ns ≠ [] := fun z => by rw [z] at hpl; exact absurd hpl (Nat.not_lt_zero _)
  refine ⟨_, rfl, v, _, rfl, ht, rfl, _, rfl, ?_⟩
  rw [grow_size]
  refine ite2 (fun c => ?_) (fun c => ?_)
  · have c' : ((ns.length : Nat) : Int) = 1 := V.int.inj (of_decide_eq_true c)
    have e0 : delAt ns pl = [] := List.eq_nil_of_length_eq_zero (by omega)
    refine q .non H (Same.refl H) ?_
    rw [e0, grow_nil]
    rfl
  · have c' : ns.length ≠ 1 := fun z => c (decide_eq_true (by rw [z]; rfl))
    have hdne : delAt ns pl ≠ [] := fun z => by rw [z, List.length_nil] at hdl; omega
    cases e with
    | zero =>
      have ht1 := ht
      rw [grow_zero hne] at ht1
      obtain ⟨a, rfl, ha⟩ := ht1
      refine ⟨_, rfl, a, _, _, _, rfl, rfl, SqT.of ha, rfl, rfl, _, rfl, ?_⟩
      refine ite2 (fun c => ?_) (fun c => absurd (decide_eq_true rfl) c)
      refine ⟨_, rfl, a, _, _, _, rfl, rfl, SqT.of ha, rfl, _, _, rfl, rfl, szb rfl, fun p hp => q _ _ (same_new hp _) ?_⟩
      rw [grow_zero hdne]
      refine ⟨p, rfl, ?_⟩
      rw [upd_same, show ((delAt ns pl).length : Int) = (ns.length : Int) - 1 by omega]
    | succ e =>
      have ht1 := ht
      rw [grow_part hne] at ht1
      obtain ⟨a, m, xl, xr, rfl, ha, hm, _, _⟩ := ht1
      have gk : ((ns.map (mkOf (low + 2 ^ e))).map V.int)[pl]? = some (.int (mkOf (low + 2 ^ e) x)) := by rw [List.getElem?_map, List.getElem?_map, hx]; rfl
      have hmk := mk01 (low + 2 ^ e) x
      have hself := hlf_self (low + 2 ^ e) x
      rw [grow_del hx hdne rfl] at q
      generalize mkOf (low + 2 ^ e) x = mk at *
      refine ⟨_, rfl, a, _, _, _, rfl, rfl, SqT.of ha, rfl, rfl, _, rfl, ?_⟩
      refine ite2 (fun c => absurd (of_decide_eq_true c) (by decide)) (fun c => ?_)
      refine ⟨_, rfl, a, _, _, _, rfl, rfl, SqT.of ha, rfl, ?_⟩
      refine ⟨_, rfl, _, rfl, m, _, _, _, rfl, rfl, hm.sq, atI_nat gk, ?_⟩
      refine ⟨_, rfl, _, rfl, _, _, mk, rfl, ht, hmk, fun h hh => ?_⟩
      rw [half_grow hmk] at hh
      refine ⟨_, rfl, _, rfl, _, rfl, m, ns.map (mkOf (low + 2 ^ e)), mk, pl, rfl, hm, fun H1 s1 => ?_⟩
      refine ⟨h, (ns.take pl).countP (hlf (low + 2 ^ e) mk), lowOf low e mk, x, ns.filter (hlf (low + 2 ^ e) mk), by rw [cnt_half hmk] <;> rfl, hh.same s1, filt_get hx hself, Nat.le_trans (List.length_filter_le _ _) hl, fun u H2 s2 hu => ?_⟩
      have hm2 := (hm.same s1).same s2
      refine ⟨_, rfl, _, rfl, _, rfl, m, _, rfl, hm2, fun p3 H3 s3 h3 => ?_⟩
      rw [cut_take] at h3
      refine ⟨_, rfl, _, rfl, _, _, rfl, rfl, _, rfl, m, _, rfl, hm2.same s3, fun p4 H4 s4 h4 => ?_⟩
      have h4' : TupF H4 p4 (((ns.map (mkOf (low + 2 ^ e))).drop (pl + 1)).map V.int) := by rw [← cut_drop]; exact h4
      refine ⟨p3, p4, _, _, rfl, rfl, h3.same s4, h4', szB (by simp only [List.length_map, List.length_take, List.length_drop]; omega), fun p5 H5 s5 h5 => ?_⟩
      have s25 : Same H2 H5 := s3.trans (s4.trans s5)
      have s05 : Same H H5 := s1.trans (s2.trans s25)
      rw [← List.map_append] at h5
      exact ⟨_, rfl, _, rfl, _, rfl, p5, _, _, _, mk, u, _, rfl, h5, ht.same s05, hmk, hu.same s25, fun p H6 s6 h6 => q _ _ (s05.trans s6) h6⟩
end
abbrev k_way_of : Nat := 4
def sp1_way_of (K : PySem.W.Frag) (cB : Addr) : Sp := fun vs H Q E => ∃ (b : Addr) (low num : Int) (L : Nat), vs = [.ref b, .int num] ∧ SqT K H b [.int low, .int (L : Int)] ∧ L ≤ 40 ∧
  (low ≤ num ∧ num ≤ low + 2 ^ L - 1 → ∀ t H', Same H H' → TupF H' t ((wayW L (num - low)).map V.int) → Q (.ref t) H') ∧
  (¬ (low ≤ num ∧ num ≤ low + 2 ^ L - 1) → ∀ d H', Same H H' → H' d = some (.xd [("number", .int num)]) → E (.ref cB) (some d) H')
def sp_way_of (_ : PySem.W.Frag) : Sp := fun _ _ _ _ => False
abbrev k_number_at : Nat := 3
def sp1_number_at (K : PySem.W.Frag) (cN : Addr) : Sp := fun vs H Q E => ∃ (b : Addr) (v : V) (pl low : Int) (L : Nat) (ns : List Int), vs = [.ref b, v, .int pl] ∧ SqT K H b [.int low, .int (L : Int)] ∧ L ≤ 40 ∧ TreeAt H v (grow low L ns) ∧ Wths low L ns ∧
  (∀ (i : Nat) (n : Int) (H' : Hp), pl = (i : Int) → ns[i]? = some n → Same H H' → Q (.int n) H') ∧ ((pl < 0 ∨ (ns.length : Int) ≤ pl) → E (.ref cN) none H)
def sp_number_at (_ : PySem.W.Frag) : Sp := fun _ _ _ _ => False
abbrev k_put_in : Nat := 44
def sp1_put_in (K : PySem.W.Frag) (cN cB : Addr) : Sp := fun vs H Q E => ∃ (b : Addr) (v : V) (pl low num : Int) (L : Nat) (ns : List Int), vs = [.ref b, v, .int pl, .int num] ∧ SqT K H b [.int low, .int (L : Int)] ∧ L ≤ 40 ∧ TreeAt H v (grow low L ns) ∧ ns.length ≤ 1000 ∧
  ((pl < 0 ∨ (ns.length : Int) < pl) → E (.ref cN) none H) ∧
  (0 ≤ pl → pl ≤ (ns.length : Int) → ¬ (low ≤ num ∧ num ≤ low + 2 ^ L - 1) → ∀ d H', Same H H' → H' d = some (.xd [("number", .int num)]) → E (.ref cB) (some d) H') ∧
  (∀ i : Nat, pl = (i : Int) → i ≤ ns.length → low ≤ num ∧ num ≤ low + 2 ^ L - 1 → ∀ (u : V) (H' : Hp), Same H H' → TreeAt H' u (grow low L (insAt ns i num)) → Q u H')
def sp_put_in (K : PySem.W.Frag) : Sp := fun vs H Q _ => ∃ (b : Addr) (v : V) (pl : Nat) (low num : Int) (L : Nat) (ns : List Int), vs = [.ref b, v, .int (pl : Int), .int num] ∧ SqT K H b [.int low, .int (L : Int)] ∧ L ≤ 40 ∧ TreeAt H v (grow low L ns) ∧ pl ≤ ns.length ∧ ns.length ≤ 1000 ∧ low ≤ num ∧ num < low + 2 ^ L ∧
  ∀ (u : V) (H' : Hp), Same H H' → TreeAt H' u (grow low L (insAt ns pl num)) → Q u H'
abbrev k_taken_out : Nat := 44
def sp1_taken_out (K : PySem.W.Frag) (cN : Addr) : Sp := fun vs H Q E => ∃ (b : Addr) (v : V) (pl low : Int) (L : Nat) (ns : List Int), vs = [.ref b, v, .int pl] ∧ SqT K H b [.int low, .int (L : Int)] ∧ L ≤ 40 ∧ TreeAt H v (grow low L ns) ∧ Wths low L ns ∧ ns.length ≤ 1000 ∧
  ((pl < 0 ∨ (ns.length : Int) ≤ pl) → E (.ref cN) none H) ∧
  (∀ (i : Nat) (x : Int), pl = (i : Int) → ns[i]? = some x → ∀ (p : Addr) (u : V) (H' : Hp), Same H H' → H' p = some (.tup [u, .int x]) → TreeAt H' u (grow low L (delAt ns i)) → Q (.ref p) H')
def sp_taken_out (_ : PySem.W.Frag) : Sp := fun _ _ _ _ => False
abbrev k_set_at : Nat := 45
def sp1_set_at (K : PySem.W.Frag) (cN cB : Addr) : Sp := fun vs H _ E => ∃ (b : Addr) (v : V) (pl low num : Int) (L : Nat) (ns : List Int), vs = [.ref b, v, .int pl, .int num] ∧ SqT K H b [.int low, .int (L : Int)] ∧ L ≤ 40 ∧ TreeAt H v (grow low L ns) ∧ Wths low L ns ∧ ns.length ≤ 1000 ∧
  (pl < 0 ∨ (ns.length : Int) ≤ pl ∨ ¬ (low ≤ num ∧ num ≤ low + 2 ^ L - 1)) ∧ ((pl < 0 ∨ (ns.length : Int) ≤ pl) → E (.ref cN) none H) ∧
  (0 ≤ pl → pl < (ns.length : Int) → ∀ d H', Same H H' → H' d = some (.xd [("number", .int num)]) → E (.ref cB) (some d) H')
def sp_set_at (_ : PySem.W.Frag) : Sp := fun _ _ _ _ => False
def muN : St → Nat := fun σ => match σ[4]? with
  | some (some (V.int m)) => m.toNat
  | _ => 0

section
variable {P : Program} {w : World} {K : PySem.W.Frag} {mg : Str → Option Value} {base : Heap}
theorem okx_way_of (d : Def K mg "way_of" s_way_of ["bounds", "number"]) (z : Bz K mg cLeastError cBeyond cNoBounds cNoRow cNoSuch cNoText cTooMany cMakes cInit) (c_many_worths : Cal P w K mg base k_many_worths "many_worths" ["levels"] (sp_many_worths K)) (c_where : Cal P w K mg base k_where "where" ["bounds", "number"] (sp_where K)) : CalX P w K mg base k_way_of "way_of" ["bounds", "number"] (sp1_way_of K cBeyond) := by
  have sc := sc_way_of
  obtain ⟨fdI, FI, bI⟩ := z.ini
  have Fi : FnOk P w K mg base CX0 k_init cInit fdI ["self", "number"] (sp_init cBeyond) := ok_init FI z
  have Bi : Binds K fdI ["self", "number"] [] := .all bI
  refine d.calx fun f fd F => F.okx sc (fun vs H Q E h => ?_) (fun cdv A outer s H vs Q E hr h => ?_)
  · obtain ⟨b, low, num, L, rfl, _⟩ := h
    rfl
  obtain ⟨b, low, num, L, rfl, hb, hL, q1, q2⟩ := h
  refine ⟨_, (pss_cons (ps_if (pt_cmpR op_ne (pe_fn c_where (hr.mono (by decide)) (by rfl) (pa_cons (pv 0) (pa_cons (pv 1) pa_nil))) pe_str (nomark _))
  (pss_one (ps_raiseI lv_of z.m_Beyond z.own_Beyond z.ecl.sb Fi (hr.mono (by decide)) Bi (by rfl) (pa_cons (pv 1) pa_nil)))
  pss_nil)
 (pss_cons (ps_set (i := 2) sc.nd rfl (Or.inl rfl) (pe_ix ix_tup (pv 0) pe_int (fun _ _ => rfl)))
 (pss_cons (ps_set (i := 3) sc.nd rfl (Or.inl rfl) (pe_fn c_many_worths (hr.mono (by decide)) (by rfl) (pa_cons (pe_ix ix_tup (pv 0) pe_int (fun _ _ => rfl)) pa_nil)))
 (pss_cons (ps_set (i := 4) sc.nd rfl (Or.inl rfl) (pe_lst pa_nil))
 (pss_cons (ps_for (Lv.loops lv_of) rfl (pi_range1 rfl z.range_ (pa_cons (pe_ix ix_tup (pv 0) pe_int (fun _ _ => rfl)) pa_nil)) (pg_name (i := 5) sc.nd rfl (Or.inl rfl))
  (pss_cons (ps_set (i := 3) sc.nd rfl (Or.inl rfl) (pe_op op_fdivB (pv 3) pe_int))
 (pss_one (ps_if (pt_cmpR op_lt (pv 1) (pe_op op_add (pv 2) (pv 3)) (nomark _))
  (pss_one (ps_expr (pe_bm PySem.F.plainAttrs_list PySem.F.slot_list_append PySem.F.type_list_append mt_append (pv 4) (pa_cons pe_int pa_nil))))
  (pss_cons (ps_expr (pe_bm PySem.F.plainAttrs_list PySem.F.slot_list_append PySem.F.type_list_append mt_append (pv 4) (pa_cons pe_int pa_nil)))
 (pss_one (ps_set (i := 2) sc.nd rfl (Or.inl rfl) (pe_op op_add (pv 2) (pv 3)))))))))
 (pss_one (ps_ret (pe_callTy call_tupleF (by rfl) z.tuple_ bt_tuple (pa_cons (pv 4) pa_nil))))))))), ?_⟩
  refine ⟨_, rfl, _, rfl, b, low, num, L, rfl, hb, hL, rfl, _, rfl, ?_⟩
  refine ite2 (fun c => ?_) (fun c => ?_)
  · have c' : ¬ (low ≤ num ∧ num ≤ low + 2 ^ L - 1) := fun y => by
      rw [where_in.mpr y, decide_eq_true rfl] at c
      cases c
    refine ⟨_, rfl, szb rfl, fun ex hex => ⟨ex, num, rfl, upd_same, fun dd hd hdx => ⟨rfl, some dd, upd_same, ?_⟩⟩⟩
    have hd' : H dd = none := by rw [upd_ne hdx] at hd; exact hd
    refine q2 c' dd _ (fun y o hy => ?_) ?_
    · have y1 : y ≠ ex := ne_of_none hy hex
      rw [del_ne y1, upd_ne y1, upd_ne (ne_of_none hy hd'), upd_ne y1]
      exact hy
    · rw [del_ne hdx, upd_ne hdx, upd_same]
  · have c' : low ≤ num ∧ num ≤ low + 2 ^ L - 1 := where_in.mp (by
      cases e : decide (V.str (whereS low L num) = V.str "within") with
      | true => exact V.str.inj (of_decide_eq_true e)
      | false => rw [e] at c; exact absurd rfl c)
    refine ⟨_, rfl, b, _, _, _, rfl, rfl, hb, rfl, _, rfl, b, _, _, _, rfl, rfl, hb, rfl, L, rfl, hL, szb rfl, fun wy hwy => ?_⟩
    have hb2 : ∀ o, SqT K (upd H wy o) b [.int low, .int (L : Int)] := fun o => (same_new hwy o).seqT hb
    refine ⟨_, rfl, b, _, _, _, rfl, rfl, hb2 _, rfl, (L : Int), rfl, by omega, by omega, for_range (n := L) (fun i σ H2 => ∃ (le : Int) (ws : List Int) (v : Option V), σ = [some (.ref b), some (.int num), some (.int le), some (.int (2 ^ (L - i))), some (.ref wy), v] ∧
      H2 = upd H wy (.lst (ws.map V.int)) ∧ ws.length = i ∧ 0 ≤ num - le ∧ num - le < 2 ^ (L - i) ∧ wayW L (num - low) = ws ++ wayW (L - i) (num - le)) ⟨low, [], none, rfl, rfl, rfl, by omega, by show num - low < 2 ^ L; omega, rfl⟩ ?_ ?_⟩
    · rintro i σ H2 hi ⟨le, ws, v, rfl, rfl, hl, h0, h1, hw⟩
      obtain ⟨e, he⟩ : ∃ e, L - i = e + 1 := ⟨L - i - 1, by omega⟩
      have he2 : L - (i + 1) = e := by omega
      have p := pow2 e
      have ph := pow_half e
      rw [he] at h1 hw ⊢
      refine ⟨_, rfl, _, _, rfl, rfl, ⟨by decide, by decide⟩, ?_⟩
      refine ⟨_, rfl, _, rfl, _, rfl, _, _, rfl, rfl, _, _, rfl, rfl, _, rfl, ?_⟩
      rw [ph, he2]
      refine ite2 (fun c => ?_) (fun c => ?_)
      · have c2 : num < le + 2 ^ e := of_decide_eq_true c
        rw [wayW_lt (show num - le < 2 ^ e by omega)] at hw
        refine ⟨_, rfl, .inl ⟨rfl, _, SqL.of upd_same⟩, wy, _, _, rfl, rfl, upd_same, ?_, ?_⟩
        · rw [List.length_map]; exact Nat.lt_of_le_of_lt (show ws.length ≤ 1000 by omega) (small1000 (Nat.le_refl _))
        · exact ⟨le, ws ++ [0], some (.int (0 + (i : Int))), congrArg (fun q : Int => [some (V.ref b), some (V.int num), some (V.int le), some (V.int q), some (V.ref wy), some (V.int (0 + (i : Int)))]) ph, by rw [upd_upd, List.map_append] <;> rfl, by rw [List.length_append, hl] <;> rfl, h0, by omega, by rw [hw, List.append_assoc] <;> rfl⟩
      · have c2 : ¬ num < le + 2 ^ e := fun z => c (decide_eq_true z)
        rw [wayW_ge (show ¬ num - le < 2 ^ e by omega)] at hw
        refine ⟨_, rfl, .inl ⟨rfl, _, SqL.of upd_same⟩, wy, _, _, rfl, rfl, upd_same, ?_, ?_⟩
        · rw [List.length_map]; exact Nat.lt_of_le_of_lt (show ws.length ≤ 1000 by omega) (small1000 (Nat.le_refl _))
        · refine ⟨_, rfl, _, rfl, _, _, rfl, rfl, le + 2 ^ e, ws ++ [1], some (.int (0 + (i : Int))), congrArg (fun q : Int => [some (V.ref b), some (V.int num), some (V.int (le + q)), some (V.int q), some (V.ref wy), some (V.int (0 + (i : Int)))]) ph, by rw [upd_upd, List.map_append] <;> rfl, by rw [List.length_append, hl] <;> rfl, by omega, by omega, ?_⟩
          have e2 : num - (le + 2 ^ e) = num - le - 2 ^ e := by omega
          rw [hw, e2, List.append_assoc]
          rfl
    · rintro σ H2 ⟨le, ws, v, rfl, rfl, hl, h0, h1, hw⟩
      rw [Nat.sub_self] at hw
      have hw2 : wayW L (num - low) = ws := by rw [hw]; exact List.append_nil ws
      refine ⟨_, rfl, wy, _, rfl, SqL.of upd_same, fun t H' s' ht => ?_⟩
      exact q1 c' t _ ((same_new hwy _).trans s') (by rw [hw2]; exact ht)

theorem ok_way_of (c : CalX P w K mg base k_way_of "way_of" ["bounds", "number"] (sp1_way_of K cBeyond)) : Cal P w K mg base k_way_of "way_of" ["bounds", "number"] (sp_way_of K) := c.cal fun vs H Q E h => h.elim
theorem okx_number_at (d : Def K mg "number_at" s_number_at ["bounds", "tree", "place"]) (z : Bz K mg cLeastError cBeyond cNoBounds cNoRow cNoSuch cNoText cTooMany cMakes cInit) (c_ahead : Cal P w K mg base k_ahead "ahead" ["marks", "mark", "place"] (sp_ahead K)) (c_half_of : Cal P w K mg base k_half_of "half_of" ["tree", "mark"] (sp_half_of K)) (c_many_worths : Cal P w K mg base k_many_worths "many_worths" ["levels"] (sp_many_worths K)) (c_size_of : Cal P w K mg base k_size_of "size_of" ["tree"] (sp_size_of K)) : CalX P w K mg base k_number_at "number_at" ["bounds", "tree", "place"] (sp1_number_at K cNoSuch) := by
  have sc := sc_number_at
  refine d.calx fun f fd F => F.okx sc (fun vs H Q E h => ?_) (fun cdv A outer s H vs Q E hr h => ?_)
  · obtain ⟨b, v, pl, low, L, ns, rfl, _⟩ := h
    rfl
  obtain ⟨b, v, pl, low, L, ns, rfl, hb, hL, ht, hw, q1, q2⟩ := h
  refine ⟨_, (pss_cons (ps_if (PW.pt (pw_or (pt_cmpR op_lt (pv 2) pe_int (nomark _)) (pw_or1 (pt_cmpR op_ge (pv 2) (pe_fn c_size_of (hr.mono (by decide)) (by rfl) (pa_cons (pv 1) pa_nil)) (nomark _)))))
  (pss_one (ps_raiseK lv_of z.m_NoSuch z.own_NoSuch (by rfl) (pa_cons pe_str pa_nil)))
  pss_nil)
 (pss_cons (ps_set (i := 3) sc.nd rfl (Or.inl rfl) (pe_ix ix_tup (pv 0) pe_int (fun _ _ => rfl)))
 (pss_cons (ps_set (i := 4) sc.nd rfl (Or.inl rfl) (pe_fn c_many_worths (hr.mono (by decide)) (by rfl) (pa_cons (pe_ix ix_tup (pv 0) pe_int (fun _ _ => rfl)) pa_nil)))
 (pss_cons (ps_set (i := 5) sc.nd rfl (Or.inl rfl) (pv 1))
 (pss_cons (ps_set (i := 6) sc.nd rfl (Or.inl rfl) (pv 2))
 (pss_cons (ps_while (Lv.loops lv_of) (pt_cmpR op_eq (pe_ix ix_tup (pv 5) pe_int (fun _ _ => rfl)) pe_str (nomark _))
  (pss_cons (ps_set (i := 4) sc.nd rfl (Or.inl rfl) (pe_op op_fdivB (pv 4) pe_int))
 (pss_cons (ps_set (i := 7) sc.nd rfl (Or.inl rfl) (pe_ix ix_tup (pe_ix ix_tup (pv 5) pe_int (fun _ _ => rfl)) (pv 6) (fun _ _ => rfl)))
 (pss_cons (ps_set (i := 6) sc.nd rfl (Or.inl rfl) (pe_fn c_ahead (hr.mono (by decide)) (by rfl) (pa_cons (pe_ix ix_tup (pv 5) pe_int (fun _ _ => rfl)) (pa_cons (pv 7) (pa_cons (pv 6) pa_nil)))))
 (pss_cons (ps_set (i := 3) sc.nd rfl (Or.inl rfl) (pe_op op_add (pv 3) (pe_op op_mul (pv 7) (pv 4))))
 (pss_one (ps_set (i := 5) sc.nd rfl (Or.inl rfl) (pe_fn c_half_of (hr.mono (by decide)) (by rfl) (pa_cons (pv 5) (pa_cons (pv 7) pa_nil))))))))))
 (pss_one (ps_ret (pv 3))))))))), ?_⟩
  refine ⟨_, rfl, _, _, rfl, rfl, _, rfl, ?_⟩
  refine ite2 (fun c => ?_) (fun c => ?_)
  · exact iteT ⟨szb rfl, q2 (.inl (of_decide_eq_true c))⟩
  · have p0 : ¬ pl < 0 := of_decide_eq_false (Bool.eq_false_iff.mpr c)
    refine ⟨_, rfl, _, rfl, v, _, rfl, ht, _, _, rfl, rfl, _, rfl, ?_⟩
    rw [grow_size]
    refine ite2 (fun c => ?_) (fun c => ?_)
    · exact ⟨szb rfl, q2 (.inr (of_decide_eq_true c))⟩
    · have p1 : ¬ (ns.length : Int) ≤ pl := of_decide_eq_false (Bool.eq_false_iff.mpr c)
      obtain ⟨i, rfl⟩ := Int.eq_ofNat_of_zero_le (show 0 ≤ pl by omega)
      have hi : i < ns.length := by omega
      have gi : ns[i]? = some ns[i] := List.getElem?_eq_getElem hi
      generalize ns[i] = n at gi
      refine ⟨_, rfl, b, _, _, _, rfl, rfl, hb, rfl, _, rfl, b, _, _, _, rfl, rfl, hb, rfl, L, rfl, hL, _, rfl, _, rfl, ?_⟩
      refine while_by (fun σ H2 => ∃ (e : Nat) (ls : Int) (u : V) (j : Nat) (ms : List Int) (mv : Option V), σ = [some (.ref b), some v, some (.int (i : Int)), some (.int ls), some (.int (2 ^ e)), some u, some (.int (j : Int)), mv] ∧ e ≤ 40 ∧ Same H H2 ∧ TreeAt H2 u (grow ls e ms) ∧ Wths ls e ms ∧ ms[j]? = some n) (fun σ _ => muN σ)
        ⟨L, low, v, i, ns, none, rfl, hL, Same.refl H, ht, hw, gi⟩ ?_ ?_
      · rintro σ H2 ⟨e, ls, u, j, ms, mv, rfl, he, s2, ht2, hw2, gj⟩
        have hne : ms ≠ [] := fun z => by rw [z] at gj; simp at gj
        cases e with
        | zero =>
          rw [grow_zero hne] at ht2
          obtain ⟨a, rfl, ha⟩ := ht2
          refine ⟨_, rfl, a, _, _, _, rfl, rfl, SqT.of ha, rfl, rfl, _, rfl, ?_⟩
          refine ite2 (fun c => absurd (of_decide_eq_true c) (by decide)) (fun c => ?_)
          have hn := hw2 n (List.mem_of_getElem? gj)
          have e1 : ls = n := by
            have : (2 : Int) ^ 0 = 1 := rfl
            omega
          refine ⟨_, rfl, ?_⟩
          rw [e1]
          exact q1 i n H2 rfl gi s2
        | succ e =>
          have ht2' := ht2
          rw [grow_part hne] at ht2
          obtain ⟨a, m, x, y, rfl, ha, hm, hx, hy⟩ := id ht2
          refine ⟨_, rfl, a, _, _, _, rfl, rfl, SqT.of ha, rfl, rfl, _, rfl, ?_⟩
          refine ite2 (fun c => ?_) (fun c => absurd (decide_eq_true rfl) c)
          refine ⟨_, rfl, _, _, rfl, rfl, ⟨by decide, by decide⟩, ?_⟩
          dsimp only
          rw [p2half]
          have gk : ((ms.map (mkOf (ls + 2 ^ e))).map V.int)[j]? = some (.int (mkOf (ls + 2 ^ e) n)) := by rw [List.getElem?_map, List.getElem?_map, gj]; rfl
          have hk := mk01 (ls + 2 ^ e) n
          refine ⟨_, rfl, a, _, _, _, rfl, rfl, SqT.of ha, rfl, _, rfl, m, _, _, _, rfl, rfl, hm.sq, atI_nat gk, ?_⟩
          refine ⟨_, rfl, a, _, _, _, rfl, rfl, SqT.of ha, rfl, _, rfl, _, rfl, m, ms.map (mkOf (ls + 2 ^ e)), _, j, rfl, hm, fun H3 s3 => ?_⟩
          refine ⟨_, rfl, _, rfl, _, rfl, _, _, rfl, rfl, .inl ⟨by omega, by omega⟩, _, _, rfl, rfl, ?_⟩
          refine ⟨_, rfl, _, rfl, _, _, _, rfl, ht2'.same s3, hk, fun u' hu' => ?_⟩
          rw [half_grow hk] at hu'
          have hh := filt_get gj (hlf_self (ls + 2 ^ e) n)
          rw [← cnt_half hk] at hh
          have el := lowOf_eq (low := ls) (e := e) hk
          refine ⟨⟨e, lowOf ls e (mkOf (ls + 2 ^ e) n), u', _, _, _, by rw [← el] <;> rfl, by omega, s2.trans s3, hu', hw2.half hk, hh⟩, ?_⟩
          show ((2 : Int) ^ e).toNat < ((2 : Int) ^ (e + 1)).toNat
          have := p2pos e
          have := pow2 e
          omega
      · rintro σ H2 Q1 Q2 hq ⟨_, e0, p, xs, i, v, e1, e2, e3, e4, e5, k, e6, h⟩
        exact ⟨_, e0, p, xs, i, v, e1, e2, e3, e4, e5, k, e6, hq _ _ h⟩

theorem ok_number_at (c : CalX P w K mg base k_number_at "number_at" ["bounds", "tree", "place"] (sp1_number_at K cNoSuch)) : Cal P w K mg base k_number_at "number_at" ["bounds", "tree", "place"] (sp_number_at K) := c.cal fun vs H Q E h => h.elim
theorem okx_put_in (d : DefA K mg "put_in_changes" "put_in" s_put_in ["bounds", "tree", "place", "number"]) (z : Bz K mg cLeastError cBeyond cNoBounds cNoRow cNoSuch cNoText cTooMany cMakes cInit) (c_size_of : Cal P w K mg base k_size_of "size_of" ["tree"] (sp_size_of K)) (c_with_way : Cal P w K mg base k_with_way "with_way" ["tree", "way", "place"] (sp_with_way K)) (c1_way_of : CalX P w K mg base k_way_of "way_of" ["bounds", "number"] (sp1_way_of K cBeyond)) : CalX P w K mg base k_put_in "put_in_changes" ["bounds", "tree", "place", "number"] (sp1_put_in K cNoSuch cBeyond) := by
  have sc := sc_put_in
  refine d.calx fun f fd F => F.okx sc (fun vs H Q E h => ?_) (fun cdv A outer s H vs Q E hr h => ?_)
  · obtain ⟨b, v, pl, low, num, L, ns, rfl, _⟩ := h
    rfl
  obtain ⟨b, v, pl, low, num, L, ns, rfl, hb, hL, ht, hl, q1, q2, q3⟩ := h
  refine ⟨_, (pss_cons (ps_if (PW.pt (pw_or (pt_cmpR op_lt (pv 2) pe_int (nomark _)) (pw_or1 (pt_cmpR op_gt (pv 2) (pe_fn c_size_of (hr.mono (by decide)) (by rfl) (pa_cons (pv 1) pa_nil)) (nomark _)))))
  (pss_one (ps_raiseK lv_of z.m_NoSuch z.own_NoSuch (by rfl) (pa_cons pe_str pa_nil)))
  pss_nil)
 (pss_one (ps_ret (pe_fn c_with_way (hr.mono (by decide)) (by rfl) (pa_cons (pv 1) (pa_cons (pe_fnX lv_of c1_way_of (hr.mono (by decide)) (by rfl) (pa_cons (pv 0) (pa_cons (pv 3) pa_nil))) (pa_cons (pv 2) pa_nil))))))), ?_⟩
  refine ⟨_, rfl, _, _, rfl, rfl, _, rfl, ?_⟩
  refine ite2 (fun c => ?_) (fun c => ?_)
  · exact iteT ⟨szb rfl, q1 (.inl (of_decide_eq_true c))⟩
  · have p0 : ¬ pl < 0 := of_decide_eq_false (Bool.eq_false_iff.mpr c)
    refine ⟨_, rfl, _, rfl, v, _, rfl, ht, _, _, rfl, rfl, _, rfl, ?_⟩
    rw [grow_size]
    refine ite2 (fun c => ?_) (fun c => ?_)
    · exact ⟨szb rfl, q1 (.inr (of_decide_eq_true c))⟩
    · have p1 : ¬ (ns.length : Int) < pl := of_decide_eq_false (Bool.eq_false_iff.mpr c)
      obtain ⟨i, rfl⟩ := Int.eq_ofNat_of_zero_le (show 0 ≤ pl by omega)
      exact ⟨_, rfl, _, rfl, _, rfl, b, low, num, L, rfl, hb, hL, fun hin t H1 s1 ht1 => ⟨_, rfl, L, hL, v, t, i, low, num, ns, rfl, ht.same s1, ht1, hin.1, by omega, hl, fun u H2 s2 hu => q3 i rfl (by omega) hin u H2 (s1.trans s2) hu⟩,
        fun hout d1 H' s' hd => q2 (by omega) (by omega) hout d1 H' s' hd⟩
theorem ok_put_in (c : CalX P w K mg base k_put_in "put_in_changes" ["bounds", "tree", "place", "number"] (sp1_put_in K cNoSuch cBeyond)) : Cal P w K mg base k_put_in "put_in_changes" ["bounds", "tree", "place", "number"] (sp_put_in K) :=
  c.cal fun vs H Q E ⟨b, v, pl, low, num, L, ns, e, hb, hL, ht, hpl, hl, n0, n1, q⟩ => ⟨b, v, (pl : Int), low, num, L, ns, e, hb, hL, ht, hl, fun z => by omega, fun _ _ z => absurd (⟨n0, by omega⟩ : low ≤ num ∧ num ≤ low + 2 ^ L - 1) z, fun i ei hi _ => by
    have : i = pl := by omega
    subst this
    exact q⟩
theorem okx_taken_out (d : DefA K mg "taken_out_changes" "taken_out" s_taken_out ["bounds", "tree", "place"]) (z : Bz K mg cLeastError cBeyond cNoBounds cNoRow cNoSuch cNoText cTooMany cMakes cInit) (c_without : Cal P w K mg base k_without "without" ["tree", "place"] (sp_without K)) (c1_number_at : CalX P w K mg base k_number_at "number_at" ["bounds", "tree", "place"] (sp1_number_at K cNoSuch)) : CalX P w K mg base k_taken_out "taken_out_changes" ["bounds", "tree", "place"] (sp1_taken_out K cNoSuch) := by
  have sc := sc_taken_out
  refine d.calx fun f fd F => F.okx sc (fun vs H Q E h => ?_) (fun cdv A outer s H vs Q E hr h => ?_)
  · obtain ⟨b, v, pl, low, L, ns, rfl, _⟩ := h
    rfl
  obtain ⟨b, v, pl, low, L, ns, rfl, hb, hL, ht, hw, hl, q1, q2⟩ := h
  refine ⟨_, (pss_cons (ps_set (i := 3) sc.nd rfl (Or.inl rfl) (pe_fnX lv_of c1_number_at (hr.mono (by decide)) (by rfl) (pa_cons (pv 0) (pa_cons (pv 1) (pa_cons (pv 2) pa_nil)))))
 (pss_one (ps_ret (pe_tup (pa_cons (pe_fn c_without (hr.mono (by decide)) (by rfl) (pa_cons (pv 1) (pa_cons (pv 2) pa_nil))) (pa_cons (pv 3) pa_nil)))))), ?_⟩
  refine ⟨_, rfl, _, rfl, _, rfl, b, v, pl, low, L, ns, rfl, hb, hL, ht, hw, fun i x H1 ei hx s1 => ?_, q1⟩
  subst ei
  refine ⟨_, rfl, _, rfl, L, hL, v, i, low, x, ns, rfl, ht.same s1, hx, hl, fun u H2 s2 hu => ⟨_, rfl, szb rfl, fun p hp => ?_⟩⟩
  exact q2 i x rfl hx p u _ (s1.trans (s2.trans (same_new hp _))) upd_same (hu.same (same_new hp _))
theorem ok_taken_out (c : CalX P w K mg base k_taken_out "taken_out_changes" ["bounds", "tree", "place"] (sp1_taken_out K cNoSuch)) : Cal P w K mg base k_taken_out "taken_out_changes" ["bounds", "tree", "place"] (sp_taken_out K) := c.cal fun vs H Q E h => h.elim
theorem okx_set_at (d : DefA K mg "set_at_changes" "set_at" s_set_at ["bounds", "tree", "place", "number"]) (z : Bz K mg cLeastError cBeyond cNoBounds cNoRow cNoSuch cNoText cTooMany cMakes cInit) (c1_put_in : CalX P w K mg base k_put_in "put_in_changes" ["bounds", "tree", "place", "number"] (sp1_put_in K cNoSuch cBeyond)) (c1_taken_out : CalX P w K mg base k_taken_out "taken_out_changes" ["bounds", "tree", "place"] (sp1_taken_out K cNoSuch)) : CalX P w K mg base k_set_at "set_at_changes" ["bounds", "tree", "place", "number"] (sp1_set_at K cNoSuch cBeyond) := by
  have sc := sc_set_at
  refine d.calx fun f fd F => F.okx sc (fun vs H Q E h => ?_) (fun cdv A outer s H vs Q E hr h => ?_)
  · obtain ⟨b, v, pl, low, num, L, ns, rfl, _⟩ := h
    rfl
  obtain ⟨b, v, pl, low, num, L, ns, rfl, hb, hL, ht, hw, hl, hbad, q1, q2⟩ := h
  refine ⟨_, (pss_one (ps_ret (pe_fnX lv_of c1_put_in (hr.mono (by decide)) (by rfl) (pa_cons (pv 0) (pa_cons (pe_ix ix_tup (pe_fnX lv_of c1_taken_out (hr.mono (by decide)) (by rfl) (pa_cons (pv 0) (pa_cons (pv 1) (pa_cons (pv 2) pa_nil)))) pe_int (fun _ _ => rfl)) (pa_cons (pv 2) (pa_cons (pv 3) pa_nil))))))), ?_⟩
  refine ⟨_, rfl, _, rfl, _, rfl, _, rfl, b, v, pl, low, L, ns, rfl, hb, hL, ht, hw, hl, q1, fun i x ei hx p u H1 s1 hp hu => ?_⟩
  subst ei
  have hpl : i < ns.length := (List.getElem?_eq_some_iff.mp hx).1
  have hdl := del_len hpl
  have hout : ¬ (low ≤ num ∧ num ≤ low + 2 ^ L - 1) := by
    rcases hbad with z | z | z
    · omega
    · omega
    · exact z
  exact ⟨p, _, _, _, rfl, rfl, SqT.of hp, rfl, _, rfl, _, rfl, b, u, (i : Int), low, num, L, delAt ns i, rfl, s1.seqT hb, hL, hu, by omega, fun z => by omega, fun _ _ _ d1 H' s' hd => q2 (by omega) (by omega) d1 H' (s1.trans s') hd, fun _ _ _ z => absurd z hout⟩
theorem ok_set_at (c : CalX P w K mg base k_set_at "set_at_changes" ["bounds", "tree", "place", "number"] (sp1_set_at K cNoSuch cBeyond)) : Cal P w K mg base k_set_at "set_at_changes" ["bounds", "tree", "place", "number"] (sp_set_at K) := c.cal fun vs H Q E h => h.elim
end
/-! ### stretches cut out, rows joined -/
def segI (ns : List Int) (st en : Nat) : List Int := (ns.take en).drop st
theorem grow_non {low : Int} {e : Nat} {ns : List Int} {H : Hp} (h : TreeAt H .non (grow low e ns)) : ns = [] := by
  by_cases z : ns = []
  · exact z
  · cases e with
    | zero => rw [grow_zero z] at h; obtain ⟨a, e1, _⟩ := h; cases e1
    | succ e => rw [grow_part z] at h; obtain ⟨a, m, x, y, e1, _⟩ := h; cases e1
abbrev kb_joined : Nat := 0
abbrev kn_joined : Nat := 40
abbrev k_joined : Nat := 41
def spe_joined (_ : PySem.W.Frag) (e : Nat) : Sp := fun vs H Q _ => ∃ (v w : V) (low : Int) (ns ms : List Int), vs = [v, w] ∧ TreeAt H v (grow low e ns) ∧ TreeAt H w (grow low e ms) ∧ ns.length ≤ 1000 ∧ ms.length ≤ 1000 ∧
  ∀ (u : V) (H' : Hp), Same H H' → TreeAt H' u (grow low e (ns ++ ms)) → Q u H'
def sp_joined (K : PySem.W.Frag) : Sp := fun vs H Q E => ∃ e, e ≤ kn_joined ∧ spe_joined K e vs H Q E
section
variable {P : Program} {w : World} {K : PySem.W.Frag} {mg : Str → Option Value} {base : Heap}
theorem ok_joined (d : DefA K mg "joined_joins" "joined" s_joined ["one", "other"]) (z : Bz K mg cLeastError cBeyond cNoBounds cNoRow cNoSuch cNoText cTooMany cMakes cInit)  : Cal P w K mg base k_joined "joined_joins" ["one", "other"] (sp_joined K) := by
  have sc := sc_joined
  refine d.recur (k := kb_joined) (sp := spe_joined K) kn_joined fun e hen c_joined f fd F => F.ok sc (fun vs H Q E h => ?_) (fun cdv A outer s H vs Q E hr h => ?_)
  · obtain ⟨v, w, low, ns, ms, rfl, _⟩ := h
    rfl
  obtain ⟨v, w, low, ns, ms, rfl, hv, hw, hl, hl2, q⟩ := h
  refine ⟨_, (pss_cons (ps_if (pt_cmpR op_isN (pv 0) pe_non (nomark _))
  (pss_one (ps_ret (pv 1)))
  pss_nil)
 (pss_cons (ps_if (pt_cmpR op_isN (pv 1) pe_non (nomark _))
  (pss_one (ps_ret (pv 0)))
  pss_nil)
 (pss_cons (ps_if (pt_cmpR op_eq (pe_ix ix_tup (pv 0) pe_int (fun _ _ => rfl)) pe_str (nomark _))
  (pss_one (ps_ret (pe_tup (pa_cons pe_str (pa_cons (pe_op op_add (pe_ix ix_tup (pv 0) pe_int (fun _ _ => rfl)) (pe_ix ix_tup (pv 1) pe_int (fun _ _ => rfl))) pa_nil)))))
  pss_nil)
 (pss_one (ps_ret (pe_tup (pa_cons pe_str (pa_cons (pe_op op_catF (pe_ix ix_tup (pv 0) pe_int (fun _ _ => rfl)) (pe_ix ix_tup (pv 1) pe_int (fun _ _ => rfl))) (pa_cons (pe_fn c_joined (hr.mono (Nat.le_refl _)) (by rfl) (pa_cons (pe_ix ix_tup (pv 0) pe_int (fun _ _ => rfl)) (pa_cons (pe_ix ix_tup (pv 1) pe_int (fun _ _ => rfl)) pa_nil))) (pa_cons (pe_fn c_joined (hr.mono (Nat.le_refl _)) (by rfl) (pa_cons (pe_ix ix_tup (pv 0) pe_int (fun _ _ => rfl)) (pa_cons (pe_ix ix_tup (pv 1) pe_int (fun _ _ => rfl)) pa_nil))) pa_nil)))))))))), ?_⟩
  by_cases hn : ns = []
  · subst hn
    rw [grow_nil] at hv
    have hv' : v = .non := hv
    subst hv'
    refine ⟨_, rfl, rfl, _, rfl, ?_⟩
    refine ite2 (fun c => ?_) (fun c => absurd (decide_eq_true rfl) c)
    exact ⟨_, rfl, q w H (Same.refl H) hw⟩
  · have hvn : v ≠ .non := fun z => by rw [z] at hv; exact hn (grow_non hv)
    refine ⟨_, rfl, rfl, _, rfl, ?_⟩
    refine ite2 (fun c => absurd (of_decide_eq_true c) hvn) (fun _ => ?_)
    by_cases hm : ms = []
    · subst hm
      rw [grow_nil] at hw
      have hw' : w = .non := hw
      subst hw'
      refine ⟨_, rfl, rfl, _, rfl, ?_⟩
      refine ite2 (fun c => ?_) (fun c => absurd (decide_eq_true rfl) c)
      exact ⟨_, rfl, q v H (Same.refl H) (by rw [List.append_nil]; exact hv)⟩
    · have hwn : w ≠ .non := fun z => by rw [z] at hw; exact hm (grow_non hw)
      have hnm : ns ++ ms ≠ [] := fun z => hn (List.append_eq_nil_iff.mp z).1
      refine ⟨_, rfl, rfl, _, rfl, ?_⟩
      refine ite2 (fun c => absurd (of_decide_eq_true c) hwn) (fun _ => ?_)
      cases e with
      | zero =>
        rw [grow_zero hn] at hv
        rw [grow_zero hm] at hw
        obtain ⟨a, rfl, ha⟩ := hv
        obtain ⟨b, rfl, hb⟩ := hw
        refine ⟨_, rfl, a, _, _, _, rfl, rfl, SqT.of ha, rfl, rfl, _, rfl, ?_⟩
        refine ite2 (fun c => ?_) (fun c => absurd (decide_eq_true rfl) c)
        refine ⟨_, rfl, a, _, _, _, rfl, rfl, SqT.of ha, rfl, _, rfl, b, _, _, _, rfl, rfl, SqT.of hb, rfl, _, _, rfl, rfl, szb rfl, fun p hp => q _ _ (same_new hp _) ?_⟩
        rw [grow_zero hnm]
        refine ⟨p, rfl, ?_⟩
        rw [upd_same, List.length_append, Int.natCast_add]
      | succ e =>
        rw [grow_part hn] at hv
        rw [grow_part hm] at hw
        rw [grow_part hnm, List.map_append, List.filter_append, List.filter_append] at q
        obtain ⟨a, m1, x1, y1, rfl, ha, hm1, hx1, hy1⟩ := hv
        obtain ⟨b, m2, x2, y2, rfl, hb, hm2, hx2, hy2⟩ := hw
        refine ⟨_, rfl, a, _, _, _, rfl, rfl, SqT.of ha, rfl, rfl, _, rfl, ?_⟩
        refine ite2 (fun c => absurd (of_decide_eq_true c) (by decide)) (fun c => ?_)
        refine ⟨_, rfl, a, _, _, _, rfl, rfl, SqT.of ha, rfl, _, rfl, b, _, _, _, rfl, rfl, SqT.of hb, rfl, m1, m2, _, _, rfl, rfl, hm1, hm2, szB (by simp only [List.length_map]; omega), fun p3 H3 s3 h3 => ?_⟩
        rw [← List.map_append] at h3
        have ha3 := s3 _ _ ha
        have hb3 := s3 _ _ hb
        refine ⟨_, rfl, a, _, _, _, rfl, rfl, SqT.of ha3, rfl, _, rfl, b, _, _, _, rfl, rfl, SqT.of hb3, rfl, x1, x2, low, _, _, rfl, hx1.same s3, hx2.same s3, Nat.le_trans (List.length_filter_le _ _) hl, Nat.le_trans (List.length_filter_le _ _) hl2, fun u4 H4 s4 hu4 => ?_⟩
        have s34 := s3.trans s4
        refine ⟨_, rfl, a, _, _, _, rfl, rfl, SqT.of (s34 _ _ ha), rfl, _, rfl, b, _, _, _, rfl, rfl, SqT.of (s34 _ _ hb), rfl, y1, y2, low + 2 ^ e, _, _, rfl, hy1.same s34, hy2.same s34, Nat.le_trans (List.length_filter_le _ _) hl, Nat.le_trans (List.length_filter_le _ _) hl2, fun u5 H5 s5 hu5 => ⟨szb rfl, fun p hp => q _ _ (s34.trans (s5.trans (same_new hp _))) ?_⟩⟩
        have s6 : Same H5 (upd H5 p (.tup [.str "part", .ref p3, u4, u5])) := same_new hp _
        exact ⟨p, p3, u4, u5, rfl, upd_same, ((h3.same s4).same s5).same s6, (hu4.same s5).same s6, hu5.same s6⟩
end
/-! ### the row of a tree -/
theorem filt_at {p : Int → Bool} : ∀ (ns : List Int) (i : Nat) (n : Int), ns[i]? = some n → p n = true → (ns.filter p)[(ns.take i).countP p]? = some n
  | [], i, n, h, _ => by simp at h
  | x :: ns, 0, n, h, hp => by
    have e : x = n := by simpa using h
    rw [List.filter_cons, e, if_pos hp]
    rfl
  | x :: ns, i + 1, n, h, hp => by
    have h' : ns[i]? = some n := by simpa using h
    have ih := filt_at ns i n h' hp
    rw [List.filter_cons, List.take_succ_cons, List.countP_cons]
    by_cases hx : p x = true
    · rw [if_pos hx, if_pos hx, List.getElem?_cons_succ]; exact ih
    · rw [if_neg hx, if_neg hx]; exact ih
def upI (mid : Int) (l : List Int) : Nat := l.countP fun n => decide (mid ≤ n)
theorem upI_snoc {mid : Int} {ns : List Int} {i : Nat} {n : Int} (h : ns[i]? = some n) : ((upI mid (ns.take (i + 1)) : Nat) : Int) = (upI mid (ns.take i) : Nat) + mkOf mid n := by
  have e : ns.take (i + 1) = ns.take i ++ [n] := by rw [List.take_add_one, h]; rfl
  rw [e]
  unfold upI mkOf
  rw [List.countP_append, List.countP_singleton]
  by_cases c : n < mid
  · rw [if_pos c, if_neg (by intro z; have := of_decide_eq_true z; omega)]; simp
  · rw [if_neg c, if_pos (decide_eq_true (by omega))]; simp
theorem upI_le {mid : Int} {ns : List Int} {i : Nat} (h : i ≤ ns.length) : i = (ns.take i).countP (fun n => decide (n < mid)) + upI mid (ns.take i) := by
  have e : (ns.take i).length = i := by rw [List.length_take]; omega
  have z := List.length_eq_countP_add_countP (fun n => decide (n < mid)) (l := ns.take i)
  rw [e] at z
  have e2 : (ns.take i).countP (fun a => decide (¬ (decide (a < mid)) = true)) = upI mid (ns.take i) := by
    unfold upI
    congr 1
    funext a
    by_cases c : a < mid
    · have : ¬ mid ≤ a := by omega
      simp [c, this]
    · have : mid ≤ a := by omega
      simp [c, this]
  rw [e2] at z
  exact z
theorem up_at {mid : Int} {ns : List Int} {i : Nat} {n : Int} (h : ns[i]? = some n) (c : ¬ n < mid) : atI ((ns.filter fun n => decide (mid ≤ n)).map V.int) ((upI mid (ns.take i) : Nat) : Int) = some (.int n) :=
  atI_nat (by rw [List.getElem?_map]; unfold upI; rw [filt_at ns i n h (decide_eq_true (by omega))]; rfl)
theorem lo_at {mid : Int} {ns : List Int} {i : Nat} {n : Int} (h : ns[i]? = some n) (c : n < mid) : atI ((ns.filter fun n => decide (n < mid)).map V.int) ((i : Int) - ((upI mid (ns.take i) : Nat) : Int)) = some (.int n) := by
  have hi : i < ns.length := (List.getElem?_eq_some_iff.mp h).1
  have z := upI_le (mid := mid) (ns := ns) (i := i) (by omega)
  have e : (i : Int) - ((upI mid (ns.take i) : Nat) : Int) = (((ns.take i).countP (fun n => decide (n < mid)) : Nat) : Int) := by omega
  rw [e]
  exact atI_nat (by rw [List.getElem?_map, filt_at ns i n h (decide_eq_true c)]; rfl)
theorem Same.own {H H' : Hp} {r : Addr} {o : HO} (k : Same H H') (hr : H r = none) : Same H (upd H' r o) := fun c u z => by
  rw [upd_ne (ne_of_none z hr)]
  exact k c u z
theorem map_get {ms : List Int} {i : Nat} {x : V} (hx : (ms.map V.int)[i]? = some x) : ∃ m, ms[i]? = some m ∧ x = .int m := by
  rw [List.getElem?_map] at hx
  cases e : ms[i]? with
  | none => rw [e] at hx; cases hx
  | some m => rw [e] at hx; exact ⟨m, rfl, (Option.some.inj hx).symm⟩
abbrev k_merged : Nat := 1
def sp_merged (K : PySem.W.Frag) : Sp := fun vs H Q _ => ∃ (m lo hi : Addr) (mid : Int) (ns : List Int), vs = [.ref m, .ref lo, .ref hi] ∧ SqT K H m ((ns.map (mkOf mid)).map V.int) ∧ H lo = some (.lst ((ns.filter fun n => decide (n < mid)).map V.int)) ∧
  H hi = some (.lst ((ns.filter fun n => decide (mid ≤ n)).map V.int)) ∧ ns.length ≤ 1000 ∧ ∀ (H' : Hp) (D : Addr), Same H H' → H' D = some (.lst (ns.map V.int)) → H D = none → Q (.ref D) H'
abbrev kb_row_from : Nat := 1
abbrev kn_row_from : Nat := 40
abbrev k_row_from : Nat := 42
def spe_row_from (K : PySem.W.Frag) (e : Nat) : Sp := fun vs H Q _ => ∃ (least : Int) (v : V) (ns : List Int), vs = [.int least, .int (2 ^ e), v] ∧ TreeAt H v (grow least e ns) ∧ ns.length ≤ 1000 ∧ Wths least e ns ∧
  ∀ (H' : Hp) (D : Addr), Same H H' → H' D = some (.lst (ns.map V.int)) → H D = none → Q (.ref D) H'
def sp_row_from (K : PySem.W.Frag) : Sp := fun vs H Q E => ∃ e, e ≤ kn_row_from ∧ spe_row_from K e vs H Q E
abbrev k_row_of : Nat := 43
def sp_row_of (K : PySem.W.Frag) : Sp := fun vs H Q _ => ∃ (b : Addr) (v : V) (low : Int) (L : Nat) (ns : List Int), vs = [.ref b, v] ∧ SqT K H b [.int low, .int (L : Int)] ∧ L ≤ 40 ∧ TreeAt H v (grow low L ns) ∧ ns.length ≤ 1000 ∧ Wths low L ns ∧
  ∀ (H' : Hp) (D : Addr), Same H H' → H' D = some (.lst (ns.map V.int)) → H D = none → Q (.ref D) H'
theorem Wths.lowerR {low : Int} {e : Nat} {ns : List Int} (h : Wths low (e + 1) ns) : Wths low e (ns.filter fun n => decide (n < low + 2 ^ e)) := fun x hx => by
  obtain ⟨h1, h2⟩ := List.mem_filter.mp hx
  exact ⟨(h x h1).1, of_decide_eq_true h2⟩
theorem Wths.upperR {low : Int} {e : Nat} {ns : List Int} (h : Wths low (e + 1) ns) : Wths (low + 2 ^ e) e (ns.filter fun n => decide (low + 2 ^ e ≤ n)) := fun x hx => by
  obtain ⟨h1, h2⟩ := List.mem_filter.mp hx
  have := (h x h1).2
  rw [p2succ] at this
  exact ⟨of_decide_eq_true h2, by omega⟩
theorem rep_all {low : Int} : ∀ {ns : List Int}, Wths low 0 ns → (List.replicate ns.length [V.int low]).flatten = ns.map V.int
  | [], _ => rfl
  | n :: ns, h => by
    have h0 := h n (List.mem_cons_self ..)
    have e : n = low := by
      have : (2 : Int) ^ 0 = 1 := rfl
      omega
    rw [List.length_cons, List.replicate_succ, List.flatten_cons, List.map_cons, rep_all fun x hx => h x (List.mem_cons_of_mem _ hx), e]
    rfl
section
variable {P : Program} {w : World} {K : PySem.W.Frag} {mg : Str → Option Value} {base : Heap}
theorem ok_merged (d : Def K mg "merged" s_merged ["marks", "lower", "upper"]) (z : Bz K mg cLeastError cBeyond cNoBounds cNoRow cNoSuch cNoText cTooMany cMakes cInit)  : Cal P w K mg base k_merged "merged" ["marks", "lower", "upper"] (sp_merged K) := by
  have sc := sc_merged
  refine d.cal fun f fd F => F.ok sc (fun vs H Q E h => ?_) (fun cdv A outer s H vs Q E hr h => ?_)
  · obtain ⟨m, lo, hi, mid, ns, rfl, _⟩ := h
    rfl
  obtain ⟨m, lo, hi, mid, ns, rfl, hm, hlo, hhi, hl, q⟩ := h
  refine ⟨_, (pss_cons (ps_set (i := 3) sc.nd rfl (Or.inl rfl) (pe_lst pa_nil))
 (pss_cons (ps_set (i := 4) sc.nd rfl (Or.inl rfl) pe_int)
 (pss_cons (ps_for PassesOwn.never rfl (pi_enum rfl z.enumerate_ (pa_cons (pv 0) pa_nil)) (pg_tup rfl (pgs_cons (pg_name (i := 5) sc.nd rfl (Or.inl rfl)) (pgs_cons (pg_name (i := 6) sc.nd rfl (Or.inl rfl)) pgs_nil)))
  (pss_cons (ps_expr (pe_bm PySem.F.plainAttrs_list PySem.F.slot_list_append PySem.F.type_list_append mt_append (pv 3) (pa_cons (pe_ifExp (pt_cmpR op_eq (pv 6) pe_int (nomark _)) (pe_ix ix_list (pv 2) (pv 4) (fun _ _ => rfl)) (pe_ix ix_list (pv 1) (pe_op op_sub (pv 5) (pv 4)) (fun _ _ => rfl))) pa_nil)))
 (pss_one (ps_set (i := 4) sc.nd rfl (Or.inl rfl) (pe_op op_add (pv 4) (pv 6))))))
 (pss_one (ps_ret (pv 3)))))), ?_⟩
  refine ⟨szb rfl, fun D hD => ?_⟩
  refine ⟨_, rfl, m, rfl, ⟨_, (same_new hD _).seqT hm⟩, for_enum (xs := (ns.map (mkOf mid)).map V.int) (fun i σ H2 => ∃ v u : Option V, σ = [some (.ref m), some (.ref lo), some (.ref hi), some (.ref D), some (.int ((upI mid (ns.take i) : Nat) : Int)), v, u] ∧ Same H H2 ∧ H2 D = some (.lst ((ns.take i).map V.int)))
    ⟨none, none, rfl, same_new hD _, upd_same⟩ (fun i σ H2 _ ⟨_, _, _, s2, _⟩ => s2.seqT hm) ?_ ?_⟩
  · rintro i x σ H2 p hx ⟨v, u, rfl, s2, hD2⟩ hpn
    obtain ⟨mk, gm, rfl⟩ := map_get hx
    obtain ⟨n, gn, rfl⟩ : ∃ n, ns[i]? = some n ∧ mkOf mid n = mk := by
      rw [List.getElem?_map] at gm
      cases e : ns[i]? with
      | none => rw [e] at gm; cases gm
      | some n => rw [e] at gm; exact ⟨n, rfl, Option.some.inj gm⟩
    have hil : i < ns.length := (List.getElem?_eq_some_iff.mp gn).1
    have s3 : Same H (upd H2 p (.tup [.int (i : Nat), .int (mkOf mid n)])) := s2.trans (same_new hpn _)
    have hD3 : upd H2 p (.tup [.int (i : Nat), .int (mkOf mid n)]) D = some (.lst ((ns.take i).map V.int)) := same_new hpn _ _ _ hD2
    have pT : SqT K (upd H2 p (.tup [.int (i : Nat), .int (mkOf mid n)])) p [.int (i : Nat), .int (mkOf mid n)] := SqT.of upd_same
    generalize upd H2 p (.tup [.int (i : Nat), .int (mkOf mid n)]) = H3 at *
    refine ⟨p, _, rfl, pT, rfl, _, _, rfl, _, _, rfl, rfl, ?_⟩
    have f2 : ((ns.take i).map V.int).length < sizeLine := by rw [List.length_map, List.length_take]; exact small1000 (by omega)
    have f3 : Same H (upd H3 D (.lst ((ns.take i).map V.int ++ [.int n]))) := Same.own s3 hD
    have f4 : upd H3 D (.lst ((ns.take i).map V.int ++ [.int n])) D = some (.lst ((ns.take (i + 1)).map V.int)) := by
      have e : ns.take (i + 1) = ns.take i ++ [n] := by rw [List.take_add_one, gn]; rfl
      rw [upd_same, e, List.map_append]
      rfl
    have f5 : [some (V.ref m), some (.ref lo), some (.ref hi), some (.ref D), some (.int (((upI mid (ns.take i) : Nat) : Int) + mkOf mid n)), some (.int (i : Nat)), some (.int (mkOf mid n))] = [some (V.ref m), some (.ref lo), some (.ref hi), some (.ref D), some (.int ((upI mid (ns.take (i + 1)) : Nat) : Int)), some (.int (i : Nat)), some (.int (mkOf mid n))] := by rw [upI_snoc gn]
    refine ⟨_, rfl, .inl ⟨rfl, _, SqL.of hD3⟩, _, rfl, rfl, _, rfl, ?_⟩
    refine ite2 (fun c => ?_) (fun c => ?_)
    · have c' : mkOf mid n = 1 := V.int.inj (of_decide_eq_true c)
      have cn : ¬ n < mid := fun z => by unfold mkOf at c'; rw [if_pos z] at c'; cases c'
      exact ⟨_, rfl, _, rfl, hi, _, _, _, rfl, rfl, SqL.of (s3 _ _ hhi), up_at gn cn, D, _, _, rfl, rfl, hD3, f2, _, rfl, _, rfl, _, _, rfl, rfl, _, _, f5, f3, f4⟩
    · have cn : n < mid := by
        apply Classical.byContradiction
        intro z
        exact c (by unfold mkOf; rw [if_neg z]; exact decide_eq_true rfl)
      exact ⟨_, rfl, _, rfl, _, rfl, _, _, rfl, rfl, lo, _, _, _, rfl, rfl, SqL.of (s3 _ _ hlo), lo_at gn cn, D, _, _, rfl, rfl, hD3, f2, _, rfl, _, rfl, _, _, rfl, rfl, _, _, f5, f3, f4⟩
  · rintro σ H2 ⟨v, u, rfl, s2, hD2⟩
    have e : ns.take ((ns.map (mkOf mid)).map V.int).length = ns := List.take_of_length_le (by rw [List.length_map, List.length_map]; exact Nat.le_refl _)
    rw [e] at hD2
    exact ⟨_, rfl, q H2 D s2 hD2 hD⟩
theorem ok_row_from (d : Def K mg "row_from" s_row_from ["least", "many", "tree"]) (z : Bz K mg cLeastError cBeyond cNoBounds cNoRow cNoSuch cNoText cTooMany cMakes cInit) (c_merged : Cal P w K mg base k_merged "merged" ["marks", "lower", "upper"] (sp_merged K)) : Cal P w K mg base k_row_from "row_from" ["least", "many", "tree"] (sp_row_from K) := by
  have sc := sc_row_from
  refine d.recur (k := kb_row_from) (sp := spe_row_from K) kn_row_from fun e hen c_row_from f fd F => F.ok sc (fun vs H Q E h => ?_) (fun cdv A outer s H vs Q E hr h => ?_)
  · obtain ⟨least, v, ns, rfl, _⟩ := h
    rfl
  obtain ⟨least, v, ns, rfl, ht, hl, hw, q⟩ := h
  refine ⟨_, (pss_cons (ps_if (pt_cmpR op_isN (pv 2) pe_non (nomark _))
  (pss_one (ps_ret (pe_lst pa_nil)))
  pss_nil)
 (pss_cons (ps_if (pt_cmpR op_eq (pe_ix ix_tup (pv 2) pe_int (fun _ _ => rfl)) pe_str (nomark _))
  (pss_one (ps_ret (pe_op op_rep (pe_lst (pa_cons (pv 0) pa_nil)) (pe_ix ix_tup (pv 2) pe_int (fun _ _ => rfl)))))
  pss_nil)
 (pss_cons (ps_set (i := 3) sc.nd rfl (Or.inl rfl) (pe_op op_fdivB (pv 1) pe_int))
 (pss_cons (ps_set (i := 4) sc.nd rfl (Or.inl rfl) (pe_fn c_row_from (hr.mono (Nat.le_refl _)) (by rfl) (pa_cons (pv 0) (pa_cons (pv 3) (pa_cons (pe_ix ix_tup (pv 2) pe_int (fun _ _ => rfl)) pa_nil)))))
 (pss_cons (ps_set (i := 5) sc.nd rfl (Or.inl rfl) (pe_fn c_row_from (hr.mono (Nat.le_refl _)) (by rfl) (pa_cons (pe_op op_add (pv 0) (pv 3)) (pa_cons (pv 3) (pa_cons (pe_ix ix_tup (pv 2) pe_int (fun _ _ => rfl)) pa_nil)))))
 (pss_one (ps_ret (pe_fn c_merged (hr.mono (Nat.le_trans (by decide : k_merged ≤ kb_row_from) (Nat.le_add_left _ _))) (by rfl) (pa_cons (pe_ix ix_tup (pv 2) pe_int (fun _ _ => rfl)) (pa_cons (pv 4) (pa_cons (pv 5) pa_nil))))))))))), ?_⟩
  refine ⟨_, rfl, rfl, _, rfl, ?_⟩
  by_cases hne : ns = []
  · subst hne
    rw [grow_nil] at ht
    cases ht
    refine ite2 (fun c => ?_) (fun c => absurd (decide_eq_true rfl) c)
    exact ⟨szb rfl, fun D hD => q _ D (same_new hD _) upd_same hD⟩
  · cases e with
    | zero =>
      rw [grow_zero hne] at ht
      obtain ⟨a, rfl, ha⟩ := ht
      refine ite2 (fun c => absurd (of_decide_eq_true c) (by intro z; cases z)) (fun c => ?_)
      refine ⟨_, rfl, a, _, _, _, rfl, rfl, SqT.of ha, rfl, rfl, _, rfl, ?_⟩
      refine ite2 (fun c => ?_) (fun c => absurd (decide_eq_true rfl) c)
      refine ⟨_, rfl, szb rfl, fun l hl' => ?_⟩
      have s1 : Same H (upd H l (.lst [.int least])) := same_new hl' _
      refine ⟨_, rfl, a, _, _, _, rfl, rfl, SqT.of (s1 _ _ ha), rfl, l, _, _, rfl, rfl, upd_same, by omega, by omega, ?_, fun D hD => ?_⟩
      · exact sz (by simp only [List.length_cons, List.length_nil]; omega)
      · have e1 : ((ns.length : Nat) : Int).toNat = ns.length := by omega
        rw [e1, rep_all hw]
        exact q _ D (s1.trans (same_new hD _)) upd_same (by
          cases z : H D with
          | none => rfl
          | some o => rw [s1 _ _ z] at hD; cases hD)
    | succ e =>
      rw [grow_succ hne] at ht
      obtain ⟨a, m, x, y, rfl, ha, hm, hx, hy⟩ := ht
      refine ite2 (fun c => absurd (of_decide_eq_true c) (by intro z; cases z)) (fun c => ?_)
      refine ⟨_, rfl, a, _, _, _, rfl, rfl, SqT.of ha, rfl, rfl, _, rfl, ?_⟩
      refine ite2 (fun c => absurd (of_decide_eq_true c) (by decide)) (fun c => ?_)
      refine ⟨_, rfl, _, _, rfl, rfl, ⟨by decide, by decide⟩, ?_⟩
      dsimp only
      rw [p2half]
      refine ⟨_, rfl, _, rfl, _, rfl, a, _, _, _, rfl, rfl, SqT.of ha, rfl, least, x, _, rfl, hx, Nat.le_trans (List.length_filter_le _ _) hl, hw.lowerR, fun H1 lo s1 hlo hlo0 => ?_⟩
      refine ⟨_, rfl, _, rfl, _, _, rfl, rfl, _, rfl, _, rfl, a, _, _, _, rfl, rfl, SqT.of (s1 _ _ ha), rfl, least + 2 ^ e, y, _, rfl, hy.same s1, Nat.le_trans (List.length_filter_le _ _) hl, hw.upperR, fun H2 hi s2 hhi hhi0 => ?_⟩
      have s12 := s1.trans s2
      refine ⟨_, rfl, a, _, _, _, rfl, rfl, SqT.of (s12 _ _ ha), rfl, _, rfl, _, rfl, m, lo, hi, least + 2 ^ e, ns, rfl, (hm.same s12).sq, s2 _ _ hlo, hhi, hl, fun H3 D s3 hD hD0 => ?_⟩
      exact q H3 D (s12.trans s3) hD (by
          cases z : H D with
          | none => rfl
          | some o => rw [s12 _ _ z] at hD0; cases hD0)
theorem ok_row_of (d : Def K mg "row_of" s_row_of ["bounds", "tree"]) (z : Bz K mg cLeastError cBeyond cNoBounds cNoRow cNoSuch cNoText cTooMany cMakes cInit) (c_many_worths : Cal P w K mg base k_many_worths "many_worths" ["levels"] (sp_many_worths K)) (c_row_from : Cal P w K mg base k_row_from "row_from" ["least", "many", "tree"] (sp_row_from K)) : Cal P w K mg base k_row_of "row_of" ["bounds", "tree"] (sp_row_of K) := by
  have sc := sc_row_of
  refine d.cal fun f fd F => F.ok sc (fun vs H Q E h => ?_) (fun cdv A outer s H vs Q E hr h => ?_)
  · obtain ⟨b, v, low, L, ns, rfl, _⟩ := h
    rfl
  obtain ⟨b, v, low, L, ns, rfl, hb, hL, ht, hl, hw, q⟩ := h
  refine ⟨_, (pss_one (ps_ret (pe_fn c_row_from (hr.mono (by decide)) (by rfl) (pa_cons (pe_ix ix_tup (pv 0) pe_int (fun _ _ => rfl)) (pa_cons (pe_fn c_many_worths (hr.mono (by decide)) (by rfl) (pa_cons (pe_ix ix_tup (pv 0) pe_int (fun _ _ => rfl)) pa_nil)) (pa_cons (pv 1) pa_nil)))))), ?_⟩
  exact ⟨_, rfl, b, _, _, _, rfl, rfl, hb, rfl, _, rfl, b, _, _, _, rfl, rfl, hb, rfl, L, rfl, hL, _, rfl, L, hL, low, v, ns, rfl, ht, hl, hw, q⟩
end
/-! ### makes: an instance, what it keeps, and its methods -/
structure Mks (C : Addr) (H : Hp) (x ka b : Addr) (low : Int) (L : Nat) (rs cs : List (List Int)) : Prop where
  o : ∃ dx, H x = some (.ins C dx [("bounds", .ref b), ("kept", .ref ka)])
  hb : H b = some (.tup [.int low, .int (L : Int)])
  hL : L ≤ 40
  len : cs.length = rs.length
  few : rs.length ≤ 100
  hk : ∃ es : List V, H ka = some (.lst es) ∧ es.length = rs.length ∧ ∀ (j : Nat) (r c : List Int), rs[j]? = some r → cs[j]? = some c →
    ∃ (p a : Addr) (v : V), es[j]? = some (.ref p) ∧ H p = some (.tup [v, .ref a]) ∧ TreeAt H v (grow low L r) ∧ H a = some (.tup (c.map V.int))
  ok : ∀ r ∈ rs, Wths low L r ∧ r.length ≤ 1000
theorem Mks.keep {C : Addr} {H H' : Hp} {x ka b p : Addr} {low : Int} {L : Nat} {rs cs : List (List Int)} {ys : List V} (M : Mks C H x ka b low L rs cs) (k : Keep p H H') (e : H p = some (.lst ys)) (n : ka ≠ p) : Mks C H' x ka b low L rs cs := by
  obtain ⟨dx, hx⟩ := M.o
  obtain ⟨es, h1, h2, h3⟩ := M.hk
  have tk : TKeep H H' := .keep k e
  refine ⟨⟨dx, k _ _ (ne_of hx e (by intro z; cases z)) hx⟩, (tk _ _).1 M.hb, M.hL, M.len, M.few, ⟨es, k _ _ n h1, h2, fun j r c hr hc => ?_⟩, M.ok⟩
  obtain ⟨p', a, v, e1, e2, e3, e4⟩ := h3 j r c hr hc
  exact ⟨p', a, v, e1, (tk _ _).1 e2, e3.tk tk, (tk _ _).1 e4⟩
theorem Mks.same {C : Addr} {H H' : Hp} {x ka b : Addr} {low : Int} {L : Nat} {rs cs : List (List Int)} (M : Mks C H x ka b low L rs cs) (s : Same H H') : Mks C H' x ka b low L rs cs := by
  obtain ⟨dx, hx⟩ := M.o
  obtain ⟨es, h1, h2, h3⟩ := M.hk
  have tk : TKeep H H' := .same s
  refine ⟨⟨dx, s _ _ hx⟩, s _ _ M.hb, M.hL, M.len, M.few, ⟨es, s _ _ h1, h2, fun j r c hr hc => ?_⟩, M.ok⟩
  obtain ⟨p', a, v, e1, e2, e3, e4⟩ := h3 j r c hr hc
  exact ⟨p', a, v, e1, s _ _ e2, e3.tk tk, s _ _ e4⟩
theorem Mks.snoc {C : Addr} {H H' : Hp} {x ka b p a : Addr} {v : V} {low : Int} {L : Nat} {rs cs : List (List Int)} {es : List V} {r c : List Int} (M : Mks C H x ka b low L rs cs) (hes : H ka = some (.lst es)) (k : Keep ka H H') (hp : H' p = some (.tup [v, .ref a]))
    (hv : TreeAt H v (grow low L r)) (ha : H a = some (.tup (c.map V.int))) (hw : Wths low L r) (hl : r.length ≤ 1000) (hn : rs.length ≤ 99) (h' : H' ka = some (.lst (es ++ [.ref p]))) : Mks C H' x ka b low L (rs ++ [r]) (cs ++ [c]) := by
  obtain ⟨dx, hx⟩ := M.o
  obtain ⟨es', h1, h2, h3⟩ := M.hk
  obtain rfl : es' = es := by rw [hes] at h1; injection h1 with h1; injection h1 with h1; exact h1.symm
  have tk : TKeep H H' := .keep k hes
  have hlen := M.len
  refine ⟨⟨dx, k _ _ (ne_of hx hes (by intro z; cases z)) hx⟩, (tk _ _).1 M.hb, M.hL, by rw [List.length_append, List.length_append, M.len]; rfl, by rw [List.length_append]; show rs.length + 1 ≤ 100; omega, ⟨_, h', by rw [List.length_append, List.length_append, h2]; rfl, fun j r1 c1 hr hc => ?_⟩, fun r1 h1 => ?_⟩
  · by_cases hj : j < rs.length
    · rw [List.getElem?_append_left hj] at hr
      rw [List.getElem?_append_left (by omega)] at hc
      obtain ⟨p', a', v', e1, e2, e3, e4⟩ := h3 j r1 c1 hr hc
      exact ⟨p', a', v', by rw [List.getElem?_append_left (by omega)]; exact e1, (tk _ _).1 e2, e3.tk tk, (tk _ _).1 e4⟩
    · have hj' : j = rs.length := by
        have := (List.getElem?_eq_some_iff.mp hr).1
        rw [List.length_append] at this
        have t2 : j < rs.length + 1 := this
        omega
      subst hj'
      rw [List.getElem?_append_right (Nat.le_refl _), Nat.sub_self] at hr
      rw [List.getElem?_append_right (by omega), show rs.length - cs.length = 0 by omega] at hc
      obtain rfl : r = r1 := Option.some.inj hr
      obtain rfl : c = c1 := Option.some.inj hc
      exact ⟨p, a, v, by rw [List.getElem?_append_right (by omega), show rs.length - es'.length = 0 by omega]; rfl, hp, hv.tk tk, (tk _ _).1 ha⟩
  · rcases List.mem_append.mp h1 with h | h
    · exact M.ok _ h
    · obtain rfl : r1 = r := by simpa using h
      exact ⟨hw, hl⟩
/-- what a method that makes gives back -/
def Made (C : Addr) (H : Hp) (x ka b : Addr) (low : Int) (L : Nat) (rs cs : List (List Int)) (r c : List Int) (Q : VK) : Prop :=
  ∀ H' : Hp, Keep ka H H' → Mks C H' x ka b low L (rs ++ [r]) (cs ++ [c]) → Q (.int (rs.length : Int)) H'
theorem Made.of {C : Addr} {H H1 : Hp} {x ka b : Addr} {low : Int} {L : Nat} {rs cs : List (List Int)} {r c : List Int} {Q : VK} (q : Made C H x ka b low L rs cs r c Q) (s : Same H H1) : Made C H1 x ka b low L rs cs r c Q :=
  fun H' k M => q H' ((Keep.same s).trans k) M
abbrev k_not_too_many : Nat := 2
def sp1_not_too_many (_ : PySem.W.Frag) (cT : Addr) : Sp := fun vs H Q E => ∃ (v : V) (t : Tr), vs = [v] ∧ TreeAt H v t ∧ ((trSize t ≤ 1000 ∧ Q v H) ∨ (1000 < trSize t ∧ E (.ref cT) none H))
def sp_not_too_many (_ : PySem.W.Frag) : Sp := fun _ _ _ _ => False
abbrev k_M_keep : Nat := 1
def sp_M_keep (_ : PySem.W.Frag) (C : Addr) : Sp := fun vs H Q _ => ∃ (x ka b a : Addr) (v : V) (low : Int) (L : Nat) (rs cs : List (List Int)) (r c : List Int), vs = [.ref x, v, .ref a] ∧ Mks C H x ka b low L rs cs ∧ TreeAt H v (grow low L r) ∧ H a = some (.tup (c.map V.int)) ∧ Wths low L r ∧ r.length ≤ 1000 ∧ rs.length ≤ 99 ∧ Made C H x ka b low L rs cs r c Q
abbrev k_I_Makes : Nat := 2
def sp_I_Makes (_ : PySem.W.Frag) (C : Addr) : Sp := fun vs H Q _ => ∃ (x b dx : Addr) (low : Int) (L : Nat), vs = [.ref x, .ref b] ∧ H x = some (.ins C dx []) ∧ H b = some (.tup [.int low, .int (L : Int)]) ∧ L ≤ 40 ∧
  ∀ (ka : Addr) (H' : Hp), H ka = none → Keep x H H' → Mks C H' x ka b low L [[]] [[]] → Q .non H'
abbrev NoMk (rs : List (List Int)) (j : Int) : Prop := j < 0 ∨ (rs.length : Int) ≤ j
abbrev k_M_found : Nat := 1
def sp1_M_found (_ : PySem.W.Frag) (C cN : Addr) : Sp := fun vs H Q E => ∃ (x ka b : Addr) (j low : Int) (L : Nat) (rs cs : List (List Int)), vs = [.ref x, .int j] ∧ Mks C H x ka b low L rs cs ∧ (NoMk rs j → E (.ref cN) none H) ∧
  ∀ (i : Nat) (r c : List Int), j = (i : Int) → rs[i]? = some r → cs[i]? = some c → ∀ (p a : Addr) (v : V), H p = some (.tup [v, .ref a]) → TreeAt H v (grow low L r) → H a = some (.tup (c.map V.int)) → Q (.ref p) H
def sp_M_found (_ : PySem.W.Frag) (_ : Addr) : Sp := fun _ _ _ _ => False
abbrev k_M_tree : Nat := 2
def sp1_M_tree (_ : PySem.W.Frag) (C cN : Addr) : Sp := fun vs H Q E => ∃ (x ka b : Addr) (j low : Int) (L : Nat) (rs cs : List (List Int)), vs = [.ref x, .int j] ∧ Mks C H x ka b low L rs cs ∧ (NoMk rs j → E (.ref cN) none H) ∧
  ∀ (i : Nat) (r : List Int), j = (i : Int) → rs[i]? = some r → ∀ v : V, TreeAt H v (grow low L r) → Q v H
def sp_M_tree (_ : PySem.W.Frag) (_ : Addr) : Sp := fun _ _ _ _ => False
abbrev k_M_stretch : Nat := 3
def sp1_M_stretch (_ : PySem.W.Frag) (C cN : Addr) : Sp := fun vs H _ E => ∃ (x ka b : Addr) (j st en low : Int) (L : Nat) (rs cs : List (List Int)), vs = [.ref x, .int j, .int st, .int en] ∧ Mks C H x ka b low L rs cs ∧
  (NoMk rs j ∨ ∃ (i : Nat) (r : List Int), j = (i : Int) ∧ rs[i]? = some r ∧ ¬ (0 ≤ st ∧ st ≤ en ∧ en ≤ (r.length : Int))) ∧ E (.ref cN) none H
def sp_M_stretch (_ : PySem.W.Frag) (_ : Addr) : Sp := fun _ _ _ _ => False
abbrev k_M_of_row : Nat := 43
def sp1_M_of_row (K : PySem.W.Frag) (C cB : Addr) : Sp := fun vs H Q E => ∃ (x ka b l : Addr) (low : Int) (L : Nat) (rs cs : List (List Int)) (r : List Int), vs = [.ref x, .ref l] ∧ Mks C H x ka b low L rs cs ∧ SqL K H l (r.map V.int) ∧ r.length ≤ 1000 ∧
  ((∃ n, r.find? (outB low L) = some n ∧ ∀ d H', Same H H' → H' d = some (.xd [("number", .int n)]) → E (.ref cB) (some d) H') ∨ (Wths low L r ∧ rs.length ≤ 99 ∧ Made C H x ka b low L rs cs r [] Q))
def sp_M_of_row (K : PySem.W.Frag) (C : Addr) : Sp := fun vs H Q _ => ∃ (x ka b l : Addr) (low : Int) (L : Nat) (rs cs : List (List Int)) (r : List Int), vs = [.ref x, .ref l] ∧ Mks C H x ka b low L rs cs ∧ SqL K H l (r.map V.int) ∧ Wths low L r ∧ r.length ≤ 1000 ∧ rs.length ≤ 99 ∧ Made C H x ka b low L rs cs r [] Q
abbrev k_M_put_in : Nat := 45
def sp1_M_put_in (_ : PySem.W.Frag) (C cN cB cT : Addr) : Sp := fun vs H Q E => ∃ (x ka b : Addr) (j pl low num : Int) (L : Nat) (rs cs : List (List Int)), vs = [.ref x, .int j, .int pl, .int num] ∧ Mks C H x ka b low L rs cs ∧
  (((NoMk rs j ∨ ∃ (i : Nat) (r : List Int), j = (i : Int) ∧ rs[i]? = some r ∧ (pl < 0 ∨ (r.length : Int) < pl)) ∧ E (.ref cN) none H) ∨
   (∃ (i : Nat) (r : List Int), j = (i : Int) ∧ rs[i]? = some r ∧ 0 ≤ pl ∧ pl ≤ (r.length : Int) ∧ ¬ (low ≤ num ∧ num ≤ low + 2 ^ L - 1) ∧ ∀ d H', Same H H' → H' d = some (.xd [("number", .int num)]) → E (.ref cB) (some d) H') ∨
   (∃ (i : Nat) (r : List Int), j = (i : Int) ∧ rs[i]? = some r ∧ 0 ≤ pl ∧ pl ≤ (r.length : Int) ∧ low ≤ num ∧ num ≤ low + 2 ^ L - 1 ∧ r.length = 1000 ∧ ∀ H', Same H H' → E (.ref cT) none H') ∨
   (∃ (i p : Nat) (r : List Int), j = (i : Int) ∧ pl = (p : Int) ∧ rs[i]? = some r ∧ p ≤ r.length ∧ low ≤ num ∧ num ≤ low + 2 ^ L - 1 ∧ r.length ≤ 900 ∧ rs.length ≤ 99 ∧ Made C H x ka b low L rs cs (insAt r p num) [(i : Int)] Q))
def sp_M_put_in (_ : PySem.W.Frag) (C : Addr) : Sp := fun vs H Q _ => ∃ (x ka b : Addr) (j pl : Nat) (low num : Int) (L : Nat) (rs cs : List (List Int)) (r : List Int), vs = [.ref x, .int (j : Int), .int (pl : Int), .int num] ∧ Mks C H x ka b low L rs cs ∧ rs[j]? = some r ∧ pl ≤ r.length ∧ low ≤ num ∧ num < low + 2 ^ L ∧ r.length ≤ 900 ∧ rs.length ≤ 99 ∧ Made C H x ka b low L rs cs (insAt r pl num) [(j : Int)] Q
abbrev k_M_taken_out : Nat := 45
def sp1_M_taken_out (_ : PySem.W.Frag) (C cN : Addr) : Sp := fun vs H _ E => ∃ (x ka b : Addr) (j pl low : Int) (L : Nat) (rs cs : List (List Int)), vs = [.ref x, .int j, .int pl] ∧ Mks C H x ka b low L rs cs ∧
  (NoMk rs j ∨ ∃ (i : Nat) (r : List Int), j = (i : Int) ∧ rs[i]? = some r ∧ (pl < 0 ∨ (r.length : Int) ≤ pl)) ∧ E (.ref cN) none H
def sp_M_taken_out (_ : PySem.W.Frag) (_ : Addr) : Sp := fun _ _ _ _ => False
abbrev k_M_set_at : Nat := 46
def sp1_M_set_at (_ : PySem.W.Frag) (C cN cB : Addr) : Sp := fun vs H _ E => ∃ (x ka b : Addr) (j pl low num : Int) (L : Nat) (rs cs : List (List Int)), vs = [.ref x, .int j, .int pl, .int num] ∧ Mks C H x ka b low L rs cs ∧
  (((NoMk rs j ∨ ∃ (i : Nat) (r : List Int), j = (i : Int) ∧ rs[i]? = some r ∧ (pl < 0 ∨ (r.length : Int) ≤ pl)) ∧ E (.ref cN) none H) ∨
   (∃ (i : Nat) (r : List Int), j = (i : Int) ∧ rs[i]? = some r ∧ 0 ≤ pl ∧ pl < (r.length : Int) ∧ ¬ (low ≤ num ∧ num ≤ low + 2 ^ L - 1) ∧ ∀ d H', Same H H' → H' d = some (.xd [("number", .int num)]) → E (.ref cB) (some d) H'))
def sp_M_set_at (_ : PySem.W.Frag) (_ : Addr) : Sp := fun _ _ _ _ => False
abbrev k_M_cut_out : Nat := 44
def sp1_M_cut_out (K : PySem.W.Frag) (C cN : Addr) : Sp := fun vs H Q E => sp1_M_stretch K C cN vs H Q E
def sp_M_cut_out (_ : PySem.W.Frag) (_ : Addr) : Sp := fun _ _ _ _ => False
abbrev k_M_joined : Nat := 44
def sp1_M_joined (_ : PySem.W.Frag) (C cN cT : Addr) : Sp := fun vs H Q E => ∃ (x ka b : Addr) (j j' low : Int) (L : Nat) (rs cs : List (List Int)), vs = [.ref x, .int j, .int j'] ∧ Mks C H x ka b low L rs cs ∧
  (((NoMk rs j ∨ NoMk rs j') ∧ E (.ref cN) none H) ∨
   (∃ (i i' : Nat) (r t : List Int), j = (i : Int) ∧ j' = (i' : Int) ∧ rs[i]? = some r ∧ rs[i']? = some t ∧ 1000 < r.length + t.length ∧ ∀ H', Same H H' → E (.ref cT) none H') ∨
   (∃ (i i' : Nat) (r t : List Int), j = (i : Int) ∧ j' = (i' : Int) ∧ rs[i]? = some r ∧ rs[i']? = some t ∧ r.length + t.length ≤ 1000 ∧ rs.length ≤ 99 ∧ Made C H x ka b low L rs cs (r ++ t) [(i : Int), (i' : Int)] Q))
def sp_M_joined (_ : PySem.W.Frag) (C : Addr) : Sp := fun vs H Q _ => ∃ (x ka b : Addr) (i j : Nat) (low : Int) (L : Nat) (rs cs : List (List Int)) (r t : List Int), vs = [.ref x, .int (i : Int), .int (j : Int)] ∧ Mks C H x ka b low L rs cs ∧ rs[i]? = some r ∧ rs[j]? = some t ∧ r.length + t.length ≤ 1000 ∧ rs.length ≤ 99 ∧ Made C H x ka b low L rs cs (r ++ t) [(i : Int), (j : Int)] Q
abbrev k_M_turned : Nat := 43
def sp1_M_turned (_ : PySem.W.Frag) (C cN : Addr) : Sp := fun vs H _ E => ∃ (x ka b : Addr) (j low : Int) (L : Nat) (rs cs : List (List Int)), vs = [.ref x, .int j] ∧ Mks C H x ka b low L rs cs ∧ NoMk rs j ∧ E (.ref cN) none H
def sp_M_turned (_ : PySem.W.Frag) (_ : Addr) : Sp := fun _ _ _ _ => False
abbrev k_M_flipped : Nat := 43
def sp1_M_flipped (K : PySem.W.Frag) (C cN : Addr) : Sp := fun vs H Q E => sp1_M_turned K C cN vs H Q E
def sp_M_flipped (_ : PySem.W.Frag) (_ : Addr) : Sp := fun _ _ _ _ => False
abbrev k_M_many : Nat := 1
def sp_M_many (_ : PySem.W.Frag) (C : Addr) : Sp := fun vs H Q _ => ∃ (x ka b : Addr) (low : Int) (L : Nat) (rs cs : List (List Int)), vs = [.ref x] ∧ Mks C H x ka b low L rs cs ∧ Q (.int (rs.length : Int)) H
abbrev k_M_row : Nat := 44
def sp1_M_row (_ : PySem.W.Frag) (C cN : Addr) : Sp := fun vs H Q E => ∃ (x ka b : Addr) (j low : Int) (L : Nat) (rs cs : List (List Int)), vs = [.ref x, .int j] ∧ Mks C H x ka b low L rs cs ∧ (NoMk rs j → E (.ref cN) none H) ∧
  ∀ (i : Nat) (r : List Int), j = (i : Int) → rs[i]? = some r → ∀ (H' : Hp) (D : Addr), Same H H' → H' D = some (.lst (r.map V.int)) → H D = none → Q (.ref D) H'
def sp_M_row (_ : PySem.W.Frag) (C : Addr) : Sp := fun vs H Q _ => ∃ (x ka b : Addr) (j : Nat) (low : Int) (L : Nat) (rs cs : List (List Int)) (r : List Int), vs = [.ref x, .int (j : Int)] ∧ Mks C H x ka b low L rs cs ∧ rs[j]? = some r ∧
  ∀ (H' : Hp) (D : Addr), Same H H' → H' D = some (.lst (r.map V.int)) → H D = none → Q (.ref D) H'
abbrev k_M_came_of : Nat := 2
def sp1_M_came_of (_ : PySem.W.Frag) (C cN : Addr) : Sp := fun vs H Q E => ∃ (x ka b : Addr) (j low : Int) (L : Nat) (rs cs : List (List Int)), vs = [.ref x, .int j] ∧ Mks C H x ka b low L rs cs ∧ (NoMk rs j → E (.ref cN) none H) ∧
  ∀ (i : Nat) (c : List Int), j = (i : Int) → cs[i]? = some c → ∀ (H' : Hp) (D : Addr), Same H H' → H' D = some (.lst (c.map V.int)) → H D = none → Q (.ref D) H'
def sp_M_came_of (_ : PySem.W.Frag) (C : Addr) : Sp := fun vs H Q _ => ∃ (x ka b : Addr) (j : Nat) (low : Int) (L : Nat) (rs cs : List (List Int)) (c : List Int), vs = [.ref x, .int (j : Int)] ∧ Mks C H x ka b low L rs cs ∧ cs[j]? = some c ∧
  ∀ (H' : Hp) (D : Addr), Same H H' → H' D = some (.lst (c.map V.int)) → H D = none → Q (.ref D) H'
theorem Mks.row {C : Addr} {H : Hp} {x ka b : Addr} {low : Int} {L j : Nat} {rs cs : List (List Int)} {r : List Int} (M : Mks C H x ka b low L rs cs) (h : rs[j]? = some r) : ∃ c, cs[j]? = some c := by
  have := (List.getElem?_eq_some_iff.mp h).1
  have := M.len
  exact ⟨cs[j]'(by omega), List.getElem?_eq_getElem _⟩
theorem Mks.cam {C : Addr} {H : Hp} {x ka b : Addr} {low : Int} {L j : Nat} {rs cs : List (List Int)} {c : List Int} (M : Mks C H x ka b low L rs cs) (h : cs[j]? = some c) : ∃ r, rs[j]? = some r := by
  have := (List.getElem?_eq_some_iff.mp h).1
  have := M.len
  exact ⟨rs[j]'(by omega), List.getElem?_eq_getElem _⟩
theorem Mks.sz {C : Addr} {H : Hp} {x ka b : Addr} {low : Int} {L j : Nat} {rs cs : List (List Int)} {r : List Int} (M : Mks C H x ka b low L rs cs) (h : rs[j]? = some r) : Wths low L r ∧ r.length ≤ 1000 := M.ok r (List.mem_of_getElem? h)
theorem rngN {α : Type} {l : List α} {j : Int} (h0 : ¬ j < 0) (h1 : ¬ (l.length : Int) ≤ j) : ∃ (i : Nat) (r : α), j = (i : Int) ∧ l[i]? = some r := by
  obtain ⟨i, rfl⟩ := Int.eq_ofNat_of_zero_le (show 0 ≤ j by omega)
  have hi : i < l.length := by omega
  exact ⟨i, l[i], rfl, List.getElem?_eq_getElem hi⟩
/-! the functions that no make is handed to here -/
abbrev kb_cut_out : Nat := 0
abbrev kn_cut_out : Nat := 0
abbrev k_cut_out : Nat := 1
def spe_cut_out (_ : PySem.W.Frag) (_ : Nat) : Sp := fun _ _ _ _ => False
def sp_cut_out (K : PySem.W.Frag) : Sp := fun vs H Q E => ∃ e, e ≤ kn_cut_out ∧ spe_cut_out K e vs H Q E
abbrev kb_turned : Nat := 0
abbrev kn_turned : Nat := 0
abbrev k_turned : Nat := 1
def spe_turned (_ : PySem.W.Frag) (_ : Nat) : Sp := fun _ _ _ _ => False
def sp_turned (K : PySem.W.Frag) : Sp := fun vs H Q E => ∃ e, e ≤ kn_turned ∧ spe_turned K e vs H Q E
abbrev kb_flipped : Nat := 0
abbrev kn_flipped : Nat := 0
abbrev k_flipped : Nat := 1
def spe_flipped (_ : PySem.W.Frag) (_ : Nat) : Sp := fun _ _ _ _ => False
def sp_flipped (K : PySem.W.Frag) : Sp := fun vs H Q E => ∃ e, e ≤ kn_flipped ∧ spe_flipped K e vs H Q E
section
variable {P : Program} {w : World} {K : PySem.W.Frag} {mg : Str → Option Value} {base : Heap}
theorem ok_cut_out (d : DefA K mg "cut_out_joins" "cut_out" s_cut_out ["stretch"]) (z : Bz K mg cLeastError cBeyond cNoBounds cNoRow cNoSuch cNoText cTooMany cMakes cInit)  : Cal P w K mg base k_cut_out "cut_out_joins" ["stretch"] (sp_cut_out K) := by
  have sc := sc_cut_out
  refine d.recur (k := kb_cut_out) (sp := spe_cut_out K) kn_cut_out fun e hen c_cut_out f fd F => F.ok sc (fun vs H Q E h => ?_) (fun cdv A outer s H vs Q E hr h => ?_)
  · exact h.elim
  · exact h.elim
theorem ok_turned (d : DefA K mg "turned_joins" "turned" s_turned ["tree"]) (z : Bz K mg cLeastError cBeyond cNoBounds cNoRow cNoSuch cNoText cTooMany cMakes cInit)  : Cal P w K mg base k_turned "turned_joins" ["tree"] (sp_turned K) := by
  have sc := sc_turned
  refine d.recur (k := kb_turned) (sp := spe_turned K) kn_turned fun e hen c_turned f fd F => F.ok sc (fun vs H Q E h => ?_) (fun cdv A outer s H vs Q E hr h => ?_)
  · exact h.elim
  · exact h.elim
theorem ok_flipped (d : DefA K mg "flipped_joins" "flipped" s_flipped ["tree"]) (z : Bz K mg cLeastError cBeyond cNoBounds cNoRow cNoSuch cNoText cTooMany cMakes cInit)  : Cal P w K mg base k_flipped "flipped_joins" ["tree"] (sp_flipped K) := by
  have sc := sc_flipped
  refine d.recur (k := kb_flipped) (sp := spe_flipped K) kn_flipped fun e hen c_flipped f fd F => F.ok sc (fun vs H Q E h => ?_) (fun cdv A outer s H vs Q E hr h => ?_)
  · exact h.elim
  · exact h.elim
theorem okx_not_too_many (d : Def K mg "not_too_many" s_not_too_many ["tree"]) (z : Bz K mg cLeastError cBeyond cNoBounds cNoRow cNoSuch cNoText cTooMany cMakes cInit) (c_size_of : Cal P w K mg base k_size_of "size_of" ["tree"] (sp_size_of K)) : CalX P w K mg base k_not_too_many "not_too_many" ["tree"] (sp1_not_too_many K cTooMany) := by
  have sc := sc_not_too_many
  refine d.calx fun f fd F => F.okx sc (fun vs H Q E h => ?_) (fun cdv A outer s H vs Q E hr h => ?_)
  · obtain ⟨v, t, rfl, _⟩ := h
    rfl
  obtain ⟨v, t, rfl, ht, q⟩ := h
  refine ⟨_, (pss_cons (ps_if (pt_cmpR op_gt (pe_fn c_size_of (hr.mono (by decide)) (by rfl) (pa_cons (pv 0) pa_nil)) pe_int (nomark _))
  (pss_one (ps_raiseK lv_of z.m_TooMany z.own_TooMany (by rfl) (pa_cons pe_str pa_nil)))
  pss_nil)
 (pss_one (ps_ret (pv 0)))), ?_⟩
  refine ⟨_, rfl, v, t, rfl, ht, _, _, rfl, rfl, _, rfl, ?_⟩
  rcases q with ⟨hs, q⟩ | ⟨hs, q⟩
  · refine ite2 (fun c => absurd (of_decide_eq_true c) (by omega)) (fun _ => ?_)
    exact ⟨_, rfl, q⟩
  · refine ite2 (fun _ => ?_) (fun c => absurd (decide_eq_true (by omega)) c)
    exact ⟨szb rfl, q⟩
theorem ok_not_too_many (c : CalX P w K mg base k_not_too_many "not_too_many" ["tree"] (sp1_not_too_many K cTooMany)) : Cal P w K mg base k_not_too_many "not_too_many" ["tree"] (sp_not_too_many K) := c.cal fun vs H Q E h => h.elim
theorem ok_M_keep (z : Bz K mg cLeastError cBeyond cNoBounds cNoRow cNoSuch cNoText cTooMany cMakes cInit)  : MCal P w K mg base k_M_keep cMakes "keep" ["self", "tree", "sources"] (sp_M_keep K cMakes) := by
  have sc := sc_M_keep
  refine z.d_M_keep.cal z.o_Makes fun f fd F => F.ok sc (fun vs H Q E h => ?_) (fun cdv A outer s H vs Q E hr h => ?_)
  · obtain ⟨x, ka, b, a, v, low, L, rs, cs, r, c, rfl, _⟩ := h
    rfl
  obtain ⟨x, ka, b, a, v, low, L, rs, cs, r, c, rfl, M, hv, ha, hw, hl, hn, q⟩ := h
  refine ⟨_, (pss_cons (ps_expr (pe_bm PySem.F.plainAttrs_list PySem.F.slot_list_append PySem.F.type_list_append mt_append (pe_fld (pv 0) rfl) (pa_cons (pe_tup (pa_cons (pv 1) (pa_cons (pv 2) pa_nil))) pa_nil)))
 (pss_one (ps_ret (pe_op op_sub (pe_callB call_len_seq (by rfl) z.len_ bt_len (pa_cons (pe_fld (pv 0) rfl) pa_nil)) pe_int)))), ?_⟩
  obtain ⟨dx, hx⟩ := M.o
  obtain ⟨es, hes, hel, _⟩ := M.hk
  refine ⟨_, rfl, x, _, dx, _, _, rfl, hx, z.o_Makes, z.nK, rfl, .inl ⟨rfl, _, SqL.of hes⟩, _, rfl, _, rfl, szb rfl, fun p hp => ?_⟩
  have s1 : Same H (upd H p (.tup [v, .ref a])) := same_new hp _
  have e1 : upd H p (.tup [v, .ref a]) p = some (.tup [v, .ref a]) := upd_same
  generalize upd H p (.tup [v, .ref a]) = H1 at *
  have hes1 := s1 _ _ hes
  refine ⟨ka, es, _, rfl, rfl, hes1, by rw [hel]; exact small1000 (by omega), ?_⟩
  have k2 : Keep ka H (upd H1 ka (.lst (es ++ [.ref p]))) := (Keep.same s1).trans (Keep.set ka H1 _)
  have e2 : upd H1 ka (.lst (es ++ [.ref p])) ka = some (.lst (es ++ [.ref p])) := upd_same
  have e3 : upd H1 ka (.lst (es ++ [.ref p])) p = some (.tup [v, .ref a]) := (TKeep.set hes1 _ _).1 e1
  generalize upd H1 ka (.lst (es ++ [.ref p])) = H2 at *
  have M2 := M.snoc hes k2 e3 hv ha hw hl hn e2
  obtain ⟨dx2, hx2⟩ := M2.o
  refine ⟨_, rfl, x, _, dx2, _, _, rfl, hx2, z.o_Makes, z.nK, rfl, ka, _, rfl, .inl (SqL.of e2), _, _, rfl, rfl, ?_⟩
  have en : (((es ++ [V.ref p]).length : Nat) : Int) - 1 = (rs.length : Int) := by rw [List.length_append, hel]; show ((rs.length + 1 : Nat) : Int) - 1 = _; omega
  show Q (.int ((((es ++ [V.ref p]).length : Nat) : Int) - 1)) H2
  rw [en]
  exact q _ k2 M2
theorem ok_I_Makes (z : Bz K mg cLeastError cBeyond cNoBounds cNoRow cNoSuch cNoText cTooMany cMakes cInit) (mc_M_keep : MCal P w K mg base k_M_keep cMakes "keep" ["self", "tree", "sources"] (sp_M_keep K cMakes)) : ICal P w K mg base k_I_Makes cMakes ["self", "bounds"] (sp_I_Makes K cMakes) := by
  have sc := sc_I_Makes
  refine z.d_I_Makes.cal fun f fd F => F.ok sc (fun vs H Q E h => ?_) (fun cdv A outer s H vs Q E hr h => ?_)
  · obtain ⟨x, b, dx, low, L, rfl, _⟩ := h
    rfl
  obtain ⟨x, b, dx, low, L, rfl, hx, hb, hL, q⟩ := h
  refine ⟨_, (pss_cons (ps_fld (pv 0) (pv 1) rfl)
 (pss_cons (ps_fld (pv 0) (pe_lst pa_nil) rfl)
 (pss_one (ps_expr (pe_mth mc_M_keep (hr.mono (by decide)) (pv 0) (pa_cons pe_non (pa_cons (pe_tup pa_nil) pa_nil))))))), ?_⟩
  refine ⟨_, rfl, _, rfl, x, _, dx, _, rfl, hx, z.o_Makes, z.nB, by decide, ?_⟩
  have hbx : b ≠ x := ne_of hb hx (by intro z; cases z)
  have k1 : Keep x H (upd H x (.ins cMakes dx (putF "bounds" (.ref b) []))) := Keep.set x H _
  have e1 : upd H x (.ins cMakes dx (putF "bounds" (.ref b) [])) x = some (.ins cMakes dx [("bounds", .ref b)]) := upd_same
  generalize upd H x (.ins cMakes dx (putF "bounds" (.ref b) [])) = H1 at *
  refine ⟨szb rfl, fun ka hka => ?_⟩
  have hka0 : H ka = none := by
    cases e : H ka with
    | none => rfl
    | some o =>
      exfalso
      by_cases hkx : ka = x
      · rw [hkx, e1] at hka; cases hka
      · rw [k1 _ _ hkx e] at hka; cases hka
  have s2 : Same H1 (upd H1 ka (.lst [])) := same_new hka _
  have e2 : upd H1 ka (.lst []) ka = some (.lst []) := upd_same
  generalize upd H1 ka (.lst []) = H2 at *
  refine ⟨_, rfl, x, _, dx, _, rfl, s2 _ _ e1, z.o_Makes, z.nK, by show 1 < 1000; decide, ?_⟩
  have hkx : ka ≠ x := fun h => by rw [h, e1] at hka; cases hka
  have k3 : Keep x H2 (upd H2 x (.ins cMakes dx (putF "kept" (.ref ka) [("bounds", .ref b)]))) := Keep.set x H2 _
  have e3 : upd H2 x (.ins cMakes dx (putF "kept" (.ref ka) [("bounds", .ref b)])) x = some (.ins cMakes dx [("bounds", .ref b), ("kept", .ref ka)]) := upd_same
  generalize upd H2 x (.ins cMakes dx (putF "kept" (.ref ka) [("bounds", .ref b)])) = H3 at *
  refine ⟨_, rfl, x, dx, _, rfl, e3, rfl, szb rfl, fun p hp => ?_⟩
  have s4 : Same H3 (upd H3 p (.tup [])) := same_new hp _
  have e4 : upd H3 p (.tup []) p = some (.tup []) := upd_same
  generalize upd H3 p (.tup []) = H4 at *
  have k13 : Keep x H H3 := k1.trans ((Keep.same s2).trans k3)
  have M : Mks cMakes H4 x ka b low L [] [] := ⟨⟨dx, s4 _ _ e3⟩, s4 _ _ (k13 _ _ hbx hb), hL, rfl, by decide, ⟨[], s4 _ _ (k3 _ _ hkx e2), rfl, fun j r c g => by cases g⟩, fun r g => by cases g⟩
  refine ⟨x, ka, b, p, .non, low, L, [], [], [], [], rfl, M, by rw [grow_nil]; rfl, e4, (fun _ h => by cases h), by decide, by decide, fun H5 k5 M5 => ?_⟩
  refine q ka H5 hka0 ?_ M5
  intro c o hc hco
  refine k5 c o ?_ (s4 _ _ (k13 _ _ hc hco))
  intro hck
  rw [hck, hka0] at hco
  cases hco
theorem ok_M_many (z : Bz K mg cLeastError cBeyond cNoBounds cNoRow cNoSuch cNoText cTooMany cMakes cInit)  : MCal P w K mg base k_M_many cMakes "many" ["self"] (sp_M_many K cMakes) := by
  have sc := sc_M_many
  refine z.d_M_many.cal z.o_Makes fun f fd F => F.ok sc (fun vs H Q E h => ?_) (fun cdv A outer s H vs Q E hr h => ?_)
  · obtain ⟨x, ka, b, low, L, rs, cs, rfl, _⟩ := h
    rfl
  obtain ⟨x, ka, b, low, L, rs, cs, rfl, M, q⟩ := h
  refine ⟨_, (pss_one (ps_ret (pe_callB call_len_seq (by rfl) z.len_ bt_len (pa_cons (pe_fld (pv 0) rfl) pa_nil)))), ?_⟩
  obtain ⟨dx, hx⟩ := M.o
  obtain ⟨es, hes, hel, _⟩ := M.hk
  refine ⟨_, rfl, x, _, dx, _, _, rfl, hx, z.o_Makes, z.nK, rfl, ka, _, rfl, .inl (SqL.of hes), ?_⟩
  rw [hel]
  exact q
end
theorem nomk {rs : List (List Int)} {j : Int} {i : Nat} {r : List Int} (n : NoMk rs j) (e : j = (i : Int)) (g : rs[i]? = some r) : False := by
  have := (List.getElem?_eq_some_iff.mp g).1
  rcases n with n | n <;> omega
theorem nowth {low n : Int} {L : Nat} {r : List Int} (f : r.find? (outB low L) = some n) (h : Wths low L r) : False := by
  have h1 := List.find?_some f
  have h2 := outB_not.mpr (h n (List.mem_of_find?_eq_some f))
  rw [h1] at h2
  cases h2
theorem same_i {rs : List (List Int)} {i i' : Nat} {r r' : List Int} (e : ((i : Nat) : Int) = (i' : Int)) (g : rs[i]? = some r) (g' : rs[i']? = some r') : i = i' ∧ r = r' := by
  obtain rfl : i = i' := by omega
  rw [g] at g'
  exact ⟨rfl, Option.some.inj g'⟩
section
variable {P : Program} {w : World} {K : PySem.W.Frag} {mg : Str → Option Value} {base : Heap}
theorem okx_M_found (z : Bz K mg cLeastError cBeyond cNoBounds cNoRow cNoSuch cNoText cTooMany cMakes cInit)  : MCalX P w K mg base k_M_found cMakes "found" ["self", "make"] (sp1_M_found K cMakes cNoSuch) := by
  have sc := sc_M_found
  refine z.d_M_found.calx z.o_Makes fun f fd F => F.okx sc (fun vs H Q E h => ?_) (fun cdv A outer s H vs Q E hr h => ?_)
  · obtain ⟨x, ka, b, j, low, L, rs, cs, rfl, _⟩ := h
    rfl
  obtain ⟨x, ka, b, j, low, L, rs, cs, rfl, M, q0, q⟩ := h
  refine ⟨_, (pss_cons (ps_if (PW.pt (pw_or (pt_cmpR op_lt (pv 1) pe_int (nomark _)) (pw_or1 (pt_cmpR op_ge (pv 1) (pe_callB call_len_seq (by rfl) z.len_ bt_len (pa_cons (pe_fld (pv 0) rfl) pa_nil)) (nomark _)))))
  (pss_one (ps_raiseK lv_of z.m_NoSuch z.own_NoSuch (by rfl) (pa_cons pe_str pa_nil)))
  pss_nil)
 (pss_one (ps_ret (pe_ix ix_list (pe_fld (pv 0) rfl) (pv 1) (fun _ _ => rfl))))), ?_⟩
  obtain ⟨dx, hx⟩ := M.o
  obtain ⟨es, hes, hel, hE⟩ := M.hk
  refine ⟨_, rfl, _, _, rfl, rfl, _, rfl, ?_⟩
  refine ite2 (fun c => ?_) (fun c => ?_)
  · exact iteT ⟨szb rfl, q0 (.inl (of_decide_eq_true c))⟩
  have h0 : ¬ j < 0 := fun z => c (decide_eq_true z)
  refine ⟨_, rfl, _, rfl, x, _, dx, _, _, rfl, hx, z.o_Makes, z.nK, rfl, ka, _, rfl, .inl (SqL.of hes), _, _, rfl, rfl, _, rfl, ?_⟩
  rw [hel]
  refine ite2 (fun c => ?_) (fun c => ?_)
  · exact ⟨szb rfl, q0 (.inr (of_decide_eq_true c))⟩
  have h1 : ¬ (rs.length : Int) ≤ j := fun z => c (decide_eq_true z)
  obtain ⟨i, r, rfl, g⟩ := rngN h0 h1
  obtain ⟨c, hc⟩ := M.row g
  obtain ⟨p, a, v, e1, e2, e3, e4⟩ := hE i r c g hc
  exact ⟨_, rfl, x, _, dx, _, _, rfl, hx, z.o_Makes, z.nK, rfl, _, rfl, ka, _, _, _, rfl, rfl, SqL.of hes, atI_nat e1, q i r c rfl g hc p a v e2 e3 e4⟩
theorem ok_M_found (c : MCalX P w K mg base k_M_found cMakes "found" ["self", "make"] (sp1_M_found K cMakes cNoSuch)) : MCal P w K mg base k_M_found cMakes "found" ["self", "make"] (sp_M_found K cMakes) := c.cal fun vs H Q E h => h.elim
theorem okx_M_tree (z : Bz K mg cLeastError cBeyond cNoBounds cNoRow cNoSuch cNoText cTooMany cMakes cInit) (mc1_M_found : MCalX P w K mg base k_M_found cMakes "found" ["self", "make"] (sp1_M_found K cMakes cNoSuch)) : MCalX P w K mg base k_M_tree cMakes "tree" ["self", "make"] (sp1_M_tree K cMakes cNoSuch) := by
  have sc := sc_M_tree
  refine z.d_M_tree.calx z.o_Makes fun f fd F => F.okx sc (fun vs H Q E h => ?_) (fun cdv A outer s H vs Q E hr h => ?_)
  · obtain ⟨x, ka, b, j, low, L, rs, cs, rfl, _⟩ := h
    rfl
  obtain ⟨x, ka, b, j, low, L, rs, cs, rfl, M, q0, q⟩ := h
  refine ⟨_, (pss_one (ps_ret (pe_ix ix_tup (pe_mthX lv_of mc1_M_found (hr.mono (by decide)) (pv 0) (pa_cons (pv 1) pa_nil)) pe_int (fun _ _ => rfl)))), ?_⟩
  obtain ⟨dx, hx⟩ := M.o
  exact ⟨_, rfl, x, dx, _, rfl, hx, rfl, _, rfl, x, ka, b, j, low, L, rs, cs, rfl, M, q0, fun i r c ej g hc p a v e1 e2 _ => ⟨p, _, _, _, rfl, rfl, SqT.of e1, rfl, q i r ej g v e2⟩⟩
theorem ok_M_tree (c : MCalX P w K mg base k_M_tree cMakes "tree" ["self", "make"] (sp1_M_tree K cMakes cNoSuch)) : MCal P w K mg base k_M_tree cMakes "tree" ["self", "make"] (sp_M_tree K cMakes) := c.cal fun vs H Q E h => h.elim
theorem okx_M_stretch (z : Bz K mg cLeastError cBeyond cNoBounds cNoRow cNoSuch cNoText cTooMany cMakes cInit) (c_size_of : Cal P w K mg base k_size_of "size_of" ["tree"] (sp_size_of K)) (mc1_M_tree : MCalX P w K mg base k_M_tree cMakes "tree" ["self", "make"] (sp1_M_tree K cMakes cNoSuch)) : MCalX P w K mg base k_M_stretch cMakes "stretch" ["self", "make", "start", "end"] (sp1_M_stretch K cMakes cNoSuch) := by
  have sc := sc_M_stretch
  refine z.d_M_stretch.calx z.o_Makes fun f fd F => F.okx sc (fun vs H Q E h => ?_) (fun cdv A outer s H vs Q E hr h => ?_)
  · obtain ⟨x, ka, b, j, st, en, low, L, rs, cs, rfl, _⟩ := h
    rfl
  obtain ⟨x, ka, b, j, st, en, low, L, rs, cs, rfl, M, hbad, q⟩ := h
  refine ⟨_, (pss_cons (ps_set (i := 4) sc.nd rfl (Or.inl rfl) (pe_mthX lv_of mc1_M_tree (hr.mono (by decide)) (pv 0) (pa_cons (pv 1) pa_nil)))
 (pss_cons (ps_if (pt_not (pt_chain3 op_le op_le op_le pe_int (pv 2) (pv 3) (pe_fn c_size_of (hr.mono (by decide)) (by rfl) (pa_cons (pv 4) pa_nil))))
  (pss_one (ps_raiseK lv_of z.m_NoSuch z.own_NoSuch (by rfl) (pa_cons pe_str pa_nil)))
  pss_nil)
 (pss_one (ps_ret (pe_tup (pa_cons (pv 4) (pa_cons (pv 2) (pa_cons (pv 3) pa_nil)))))))), ?_⟩
  obtain ⟨dx, hx⟩ := M.o
  refine ⟨_, rfl, x, dx, _, rfl, hx, rfl, _, rfl, x, ka, b, j, low, L, rs, cs, rfl, M, fun _ => q, fun i r ej g v hv => ?_⟩
  have hb : ¬ (0 ≤ st ∧ st ≤ en ∧ en ≤ (r.length : Int)) := by
    rcases hbad with n | ⟨i', r', ej', g', hb⟩
    · exact (nomk n ej g).elim
    · obtain ⟨_, rfl⟩ := same_i (ej.symm.trans ej') g g'
      exact hb
  refine ⟨_, rfl, _, _, rfl, rfl, _, rfl, ?_⟩
  refine ite2 (fun c0 => ?_) (fun c9 => ⟨_, rfl, ite2 (fun _ => ⟨szb rfl, q⟩) (fun c => absurd rfl c)⟩)
  have c0' : 0 ≤ st := of_decide_eq_true c0
  refine ⟨_, rfl, _, _, rfl, rfl, _, rfl, ?_⟩
  refine ite2 (fun c1 => ?_) (fun c9 => ⟨_, rfl, ite2 (fun _ => ⟨szb rfl, q⟩) (fun c => absurd rfl c)⟩)
  have c1' : st ≤ en := of_decide_eq_true c1
  refine ⟨_, rfl, v, _, rfl, hv, _, _, rfl, rfl, ?_⟩
  rw [grow_size]
  exact ⟨_, rfl, ite2 (fun _ => ⟨szb rfl, q⟩) (fun c => absurd (by rw [decide_eq_false (by omega)]; rfl) c)⟩
theorem ok_M_stretch (c : MCalX P w K mg base k_M_stretch cMakes "stretch" ["self", "make", "start", "end"] (sp1_M_stretch K cMakes cNoSuch)) : MCal P w K mg base k_M_stretch cMakes "stretch" ["self", "make", "start", "end"] (sp_M_stretch K cMakes) := c.cal fun vs H Q E h => h.elim
theorem okx_M_of_row (z : Bz K mg cLeastError cBeyond cNoBounds cNoRow cNoSuch cNoText cTooMany cMakes cInit) (mc_M_keep : MCal P w K mg base k_M_keep cMakes "keep" ["self", "tree", "sources"] (sp_M_keep K cMakes)) (c1_tree_of : CalX P w K mg base k_tree_of "tree_of" ["bounds", "row"] (sp1_tree_of K cBeyond)) : MCalX P w K mg base k_M_of_row cMakes "of_row" ["self", "row"] (sp1_M_of_row K cMakes cBeyond) := by
  have sc := sc_M_of_row
  refine z.d_M_of_row.calx z.o_Makes fun f fd F => F.okx sc (fun vs H Q E h => ?_) (fun cdv A outer s H vs Q E hr h => ?_)
  · obtain ⟨x, ka, b, l, low, L, rs, cs, r, rfl, _⟩ := h
    rfl
  obtain ⟨x, ka, b, l, low, L, rs, cs, r, rfl, M, hl, hn, q⟩ := h
  refine ⟨_, (pss_one (ps_ret (pe_mth mc_M_keep (hr.mono (by decide)) (pv 0) (pa_cons (pe_fnX lv_of c1_tree_of (hr.mono (by decide)) (by rfl) (pa_cons (pe_fld (pv 0) rfl) (pa_cons (pv 1) pa_nil))) (pa_cons (pe_tup pa_nil) pa_nil))))), ?_⟩
  obtain ⟨dx, hx⟩ := M.o
  refine ⟨_, rfl, x, dx, _, rfl, hx, rfl, _, rfl, x, _, dx, _, _, rfl, hx, z.o_Makes, z.nB, rfl, _, rfl, b, l, low, L, r, rfl, SqT.of M.hb, M.hL, hl, hn, fun hw H1 v s1 hv => ?_, fun n hf d H' s' hd => ?_⟩
  · rcases q with ⟨n, hf, _⟩ | ⟨_, hm, q⟩
    · exact (nowth hf hw).elim
    refine ⟨szb rfl, fun p hp => ?_⟩
    have s2 : Same H1 (upd H1 p (.tup [])) := same_new hp _
    have e2 : upd H1 p (.tup []) p = some (.tup []) := upd_same
    generalize upd H1 p (.tup []) = H2 at *
    have s12 := s1.trans s2
    exact ⟨x, ka, b, p, v, low, L, rs, cs, r, [], rfl, M.same s12, hv.same s2, e2, hw, hn, hm, q.of s12⟩
  · rcases q with ⟨n', hf', q⟩ | ⟨hw, _⟩
    · rw [hf] at hf'
      obtain rfl := Option.some.inj hf'
      exact q d H' s' hd
    · exact (nowth hf hw).elim
theorem ok_M_of_row (c : MCalX P w K mg base k_M_of_row cMakes "of_row" ["self", "row"] (sp1_M_of_row K cMakes cBeyond)) : MCal P w K mg base k_M_of_row cMakes "of_row" ["self", "row"] (sp_M_of_row K cMakes) := c.cal fun vs H Q E ⟨x, ka, b, l, low, L, rs, cs, r, e, M, hl, hw, hn, hm, q⟩ => ⟨x, ka, b, l, low, L, rs, cs, r, e, M, hl, hn, .inr ⟨hw, hm, q⟩⟩
theorem okx_M_put_in (z : Bz K mg cLeastError cBeyond cNoBounds cNoRow cNoSuch cNoText cTooMany cMakes cInit) (mc_M_keep : MCal P w K mg base k_M_keep cMakes "keep" ["self", "tree", "sources"] (sp_M_keep K cMakes)) (c1_not_too_many : CalX P w K mg base k_not_too_many "not_too_many" ["tree"] (sp1_not_too_many K cTooMany)) (c1_put_in : CalX P w K mg base k_put_in "put_in_changes" ["bounds", "tree", "place", "number"] (sp1_put_in K cNoSuch cBeyond)) (mc1_M_tree : MCalX P w K mg base k_M_tree cMakes "tree" ["self", "make"] (sp1_M_tree K cMakes cNoSuch)) : MCalX P w K mg base k_M_put_in cMakes "put_in" ["self", "make", "place", "number"] (sp1_M_put_in K cMakes cNoSuch cBeyond cTooMany) := by
  have sc := sc_M_put_in
  refine z.d_M_put_in.calx z.o_Makes fun f fd F => F.okx sc (fun vs H Q E h => ?_) (fun cdv A outer s H vs Q E hr h => ?_)
  · obtain ⟨x, ka, b, j, pl, low, num, L, rs, cs, rfl, _⟩ := h
    rfl
  obtain ⟨x, ka, b, j, pl, low, num, L, rs, cs, rfl, M, q⟩ := h
  refine ⟨_, (pss_cons (ps_set (i := 4) sc.nd rfl (Or.inl rfl) (pe_fnX lv_of c1_put_in (hr.mono (by decide)) (by rfl) (pa_cons (pe_fld (pv 0) rfl) (pa_cons (pe_mthX lv_of mc1_M_tree (hr.mono (by decide)) (pv 0) (pa_cons (pv 1) pa_nil)) (pa_cons (pv 2) (pa_cons (pv 3) pa_nil))))))
 (pss_one (ps_ret (pe_mth mc_M_keep (hr.mono (by decide)) (pv 0) (pa_cons (pe_fnX lv_of c1_not_too_many (hr.mono (by decide)) (by rfl) (pa_cons (pv 4) pa_nil)) (pa_cons (pe_tup (pa_cons (pv 1) pa_nil)) pa_nil)))))), ?_⟩
  obtain ⟨dx, hx⟩ := M.o
  refine ⟨_, rfl, x, _, dx, _, _, rfl, hx, z.o_Makes, z.nB, rfl, _, rfl, x, dx, _, rfl, hx, rfl, _, rfl, x, ka, b, j, low, L, rs, cs, rfl, M, fun n => ?_, fun i r ej g v hv => ?_⟩
  · rcases q with ⟨_, q⟩ | ⟨i, r, ej, g, _⟩ | ⟨i, r, ej, g, _⟩ | ⟨i, p, r, ej, _, g, _⟩
    · exact q
    · exact (nomk n ej g).elim
    · exact (nomk n ej g).elim
    · exact (nomk n ej g).elim
  subst ej
  obtain ⟨hw, hrl⟩ := M.sz g
  refine ⟨_, rfl, _, rfl, b, v, pl, low, num, L, r, rfl, SqT.of M.hb, M.hL, hv, by omega, fun hoff => ?_, fun p0 p1 hout d H' s' hd => ?_, fun p ep hp hin u H1 s1 hu => ?_⟩
  · rcases q with ⟨_, q⟩ | ⟨i', r', ej, g', p0, p1, _⟩ | ⟨i', r', ej, g', p0, p1, _⟩ | ⟨i', p, r', ej, ep, g', p1, _⟩
    · exact q
    all_goals
      obtain ⟨rfl, rfl⟩ := same_i ej g g'
      omega
  · rcases q with ⟨n | ⟨i', r', ej, g', hoff⟩, q⟩ | ⟨i', r', ej, g', _, _, _, q⟩ | ⟨i', r', ej, g', _, _, h0, h1, _⟩ | ⟨i', p, r', ej, ep, g', _, h0, h1, _⟩
    · exact (nomk n rfl g).elim
    · obtain ⟨rfl, rfl⟩ := same_i ej g g'
      omega
    · exact q d H' s' hd
    · exact absurd ⟨h0, h1⟩ hout
    · exact absurd ⟨h0, h1⟩ hout
  · subst ep
    have hil := ins_len r p num
    refine ⟨_, rfl, x, dx, _, rfl, s1 _ _ hx, rfl, _, rfl, u, _, rfl, hu, ?_⟩
    rw [grow_size]
    rcases q with ⟨n | ⟨i', r', ej, g', hoff⟩, q⟩ | ⟨i', r', ej, g', _, _, hout, q⟩ | ⟨i', r', ej, g', _, _, h0, h1, hth, q⟩ | ⟨i', p', r', ej, ep, g', _, h0, h1, hl, hn, q⟩
    · exact (nomk n rfl g).elim
    · obtain ⟨rfl, rfl⟩ := same_i ej g g'
      omega
    · exact absurd hin hout
    · obtain ⟨rfl, rfl⟩ := same_i ej g g'
      exact .inr ⟨by omega, q _ s1⟩
    · obtain ⟨rfl, rfl⟩ := same_i ej g g'
      obtain rfl : p = p' := by omega
      refine .inl ⟨by omega, _, rfl, szb rfl, fun pp hpp => ?_⟩
      have s2 : Same H1 (upd H1 pp (.tup [.int (i : Int)])) := same_new hpp _
      have e2 : upd H1 pp (.tup [.int (i : Int)]) pp = some (.tup [.int (i : Int)]) := upd_same
      generalize upd H1 pp (.tup [.int (i : Int)]) = H2 at *
      have s12 := s1.trans s2
      exact ⟨x, ka, b, pp, u, low, L, rs, cs, _, [(i : Int)], rfl, M.same s12, hu.same s2, e2, ins_wths hw h0 (by omega), by omega, hn, q.of s12⟩
theorem ok_M_put_in (c : MCalX P w K mg base k_M_put_in cMakes "put_in" ["self", "make", "place", "number"] (sp1_M_put_in K cMakes cNoSuch cBeyond cTooMany)) : MCal P w K mg base k_M_put_in cMakes "put_in" ["self", "make", "place", "number"] (sp_M_put_in K cMakes) := c.cal fun vs H Q E ⟨x, ka, b, j, pl, low, num, L, rs, cs, r, e, M, g, hp, n0, n1, hl, hn, q⟩ => ⟨x, ka, b, j, pl, low, num, L, rs, cs, e, M, .inr (.inr (.inr ⟨j, pl, r, rfl, rfl, g, hp, n0, by omega, hl, hn, q⟩))⟩
end
section
variable {P : Program} {w : World} {K : PySem.W.Frag} {mg : Str → Option Value} {base : Heap}
theorem okx_M_taken_out (z : Bz K mg cLeastError cBeyond cNoBounds cNoRow cNoSuch cNoText cTooMany cMakes cInit) (mc_M_keep : MCal P w K mg base k_M_keep cMakes "keep" ["self", "tree", "sources"] (sp_M_keep K cMakes)) (c1_taken_out : CalX P w K mg base k_taken_out "taken_out_changes" ["bounds", "tree", "place"] (sp1_taken_out K cNoSuch)) (mc1_M_tree : MCalX P w K mg base k_M_tree cMakes "tree" ["self", "make"] (sp1_M_tree K cMakes cNoSuch)) : MCalX P w K mg base k_M_taken_out cMakes "taken_out" ["self", "make", "place"] (sp1_M_taken_out K cMakes cNoSuch) := by
  have sc := sc_M_taken_out
  refine z.d_M_taken_out.calx z.o_Makes fun f fd F => F.okx sc (fun vs H Q E h => ?_) (fun cdv A outer s H vs Q E hr h => ?_)
  · obtain ⟨x, ka, b, j, pl, low, L, rs, cs, rfl, _⟩ := h
    rfl
  obtain ⟨x, ka, b, j, pl, low, L, rs, cs, rfl, M, hbad, q⟩ := h
  refine ⟨_, (pss_cons (ps_set (i := 3) sc.nd rfl (Or.inl rfl) (pe_fnX lv_of c1_taken_out (hr.mono (by decide)) (by rfl) (pa_cons (pe_fld (pv 0) rfl) (pa_cons (pe_mthX lv_of mc1_M_tree (hr.mono (by decide)) (pv 0) (pa_cons (pv 1) pa_nil)) (pa_cons (pv 2) pa_nil)))))
 (pss_one (ps_ret (pe_mth mc_M_keep (hr.mono (by decide)) (pv 0) (pa_cons (pe_ix ix_tup (pv 3) pe_int (fun _ _ => rfl)) (pa_cons (pe_tup (pa_cons (pv 1) pa_nil)) pa_nil)))))), ?_⟩
  obtain ⟨dx, hx⟩ := M.o
  refine ⟨_, rfl, x, _, dx, _, _, rfl, hx, z.o_Makes, z.nB, rfl, _, rfl, x, dx, _, rfl, hx, rfl, _, rfl, x, ka, b, j, low, L, rs, cs, rfl, M, fun _ => q, fun i r ej g v hv => ?_⟩
  obtain ⟨hw, hrl⟩ := M.sz g
  have hoff : pl < 0 ∨ (r.length : Int) ≤ pl := by
    rcases hbad with n | ⟨i', r', ej', g', hb⟩
    · exact (nomk n ej g).elim
    · obtain ⟨_, rfl⟩ := same_i (ej.symm.trans ej') g g'
      exact hb
  exact ⟨_, rfl, b, v, pl, low, L, r, rfl, SqT.of M.hb, M.hL, hv, hw, by omega, fun _ => q, fun p n ep gp => absurd (List.getElem?_eq_some_iff.mp gp).1 (by omega)⟩
theorem ok_M_taken_out (c : MCalX P w K mg base k_M_taken_out cMakes "taken_out" ["self", "make", "place"] (sp1_M_taken_out K cMakes cNoSuch)) : MCal P w K mg base k_M_taken_out cMakes "taken_out" ["self", "make", "place"] (sp_M_taken_out K cMakes) := c.cal fun vs H Q E h => h.elim
theorem okx_M_set_at (z : Bz K mg cLeastError cBeyond cNoBounds cNoRow cNoSuch cNoText cTooMany cMakes cInit) (mc_M_keep : MCal P w K mg base k_M_keep cMakes "keep" ["self", "tree", "sources"] (sp_M_keep K cMakes)) (c1_set_at : CalX P w K mg base k_set_at "set_at_changes" ["bounds", "tree", "place", "number"] (sp1_set_at K cNoSuch cBeyond)) (mc1_M_tree : MCalX P w K mg base k_M_tree cMakes "tree" ["self", "make"] (sp1_M_tree K cMakes cNoSuch)) : MCalX P w K mg base k_M_set_at cMakes "set_at" ["self", "make", "place", "number"] (sp1_M_set_at K cMakes cNoSuch cBeyond) := by
  have sc := sc_M_set_at
  refine z.d_M_set_at.calx z.o_Makes fun f fd F => F.okx sc (fun vs H Q E h => ?_) (fun cdv A outer s H vs Q E hr h => ?_)
  · obtain ⟨x, ka, b, j, pl, low, num, L, rs, cs, rfl, _⟩ := h
    rfl
  obtain ⟨x, ka, b, j, pl, low, num, L, rs, cs, rfl, M, q⟩ := h
  refine ⟨_, (pss_one (ps_ret (pe_mth mc_M_keep (hr.mono (by decide)) (pv 0) (pa_cons (pe_fnX lv_of c1_set_at (hr.mono (by decide)) (by rfl) (pa_cons (pe_fld (pv 0) rfl) (pa_cons (pe_mthX lv_of mc1_M_tree (hr.mono (by decide)) (pv 0) (pa_cons (pv 1) pa_nil)) (pa_cons (pv 2) (pa_cons (pv 3) pa_nil))))) (pa_cons (pe_tup (pa_cons (pv 1) pa_nil)) pa_nil))))), ?_⟩
  obtain ⟨dx, hx⟩ := M.o
  refine ⟨_, rfl, x, dx, _, rfl, hx, rfl, _, rfl, x, _, dx, _, _, rfl, hx, z.o_Makes, z.nB, rfl, _, rfl, x, dx, _, rfl, hx, rfl, _, rfl, x, ka, b, j, low, L, rs, cs, rfl, M, fun n => ?_, fun i r ej g v hv => ?_⟩
  · rcases q with ⟨_, q⟩ | ⟨i, r, ej, g, _⟩
    · exact q
    · exact (nomk n ej g).elim
  subst ej
  obtain ⟨hw, hrl⟩ := M.sz g
  refine ⟨_, rfl, _, rfl, b, v, pl, low, num, L, r, rfl, SqT.of M.hb, M.hL, hv, hw, by omega, ?_, fun hoff => ?_, fun p0 p1 d H' s' hd => ?_⟩
  · rcases q with ⟨n | ⟨i', r', ej, g', hoff⟩, q⟩ | ⟨i', r', ej, g', _, _, hout, q⟩
    · exact (nomk n rfl g).elim
    · obtain ⟨rfl, rfl⟩ := same_i ej g g'
      omega
    · exact .inr (.inr hout)
  · rcases q with ⟨_, q⟩ | ⟨i', r', ej, g', p0, p1, _⟩
    · exact q
    · obtain ⟨rfl, rfl⟩ := same_i ej g g'
      omega
  · rcases q with ⟨n | ⟨i', r', ej, g', hoff⟩, q⟩ | ⟨i', r', ej, g', _, _, hout, q⟩
    · exact (nomk n rfl g).elim
    · obtain ⟨rfl, rfl⟩ := same_i ej g g'
      omega
    · exact q d H' s' hd
theorem ok_M_set_at (c : MCalX P w K mg base k_M_set_at cMakes "set_at" ["self", "make", "place", "number"] (sp1_M_set_at K cMakes cNoSuch cBeyond)) : MCal P w K mg base k_M_set_at cMakes "set_at" ["self", "make", "place", "number"] (sp_M_set_at K cMakes) := c.cal fun vs H Q E h => h.elim
theorem okx_M_cut_out (z : Bz K mg cLeastError cBeyond cNoBounds cNoRow cNoSuch cNoText cTooMany cMakes cInit) (mc_M_keep : MCal P w K mg base k_M_keep cMakes "keep" ["self", "tree", "sources"] (sp_M_keep K cMakes)) (c_cut_out : Cal P w K mg base k_cut_out "cut_out_joins" ["stretch"] (sp_cut_out K)) (mc1_M_stretch : MCalX P w K mg base k_M_stretch cMakes "stretch" ["self", "make", "start", "end"] (sp1_M_stretch K cMakes cNoSuch)) : MCalX P w K mg base k_M_cut_out cMakes "cut_out" ["self", "make", "start", "end"] (sp1_M_cut_out K cMakes cNoSuch) := by
  have sc := sc_M_cut_out
  refine z.d_M_cut_out.calx z.o_Makes fun f fd F => F.okx sc (fun vs H Q E h => ?_) (fun cdv A outer s H vs Q E hr h => ?_)
  · obtain ⟨x, ka, b, j, st, en, low, L, rs, cs, rfl, _⟩ := h
    rfl
  obtain ⟨x, ka, b, j, st, en, low, L, rs, cs, rfl, M, hbad, q⟩ := h
  refine ⟨_, (pss_one (ps_ret (pe_mth mc_M_keep (hr.mono (by decide)) (pv 0) (pa_cons (pe_fn c_cut_out (hr.mono (by decide)) (by rfl) (pa_cons (pe_mthX lv_of mc1_M_stretch (hr.mono (by decide)) (pv 0) (pa_cons (pv 1) (pa_cons (pv 2) (pa_cons (pv 3) pa_nil)))) pa_nil)) (pa_cons (pe_tup (pa_cons (pv 1) pa_nil)) pa_nil))))), ?_⟩
  obtain ⟨dx, hx⟩ := M.o
  exact ⟨_, rfl, x, dx, _, rfl, hx, rfl, _, rfl, x, dx, _, rfl, hx, rfl, _, rfl, _, rfl, _, rfl, x, ka, b, j, st, en, low, L, rs, cs, rfl, M, hbad, q⟩
theorem ok_M_cut_out (c : MCalX P w K mg base k_M_cut_out cMakes "cut_out" ["self", "make", "start", "end"] (sp1_M_cut_out K cMakes cNoSuch)) : MCal P w K mg base k_M_cut_out cMakes "cut_out" ["self", "make", "start", "end"] (sp_M_cut_out K cMakes) := c.cal fun vs H Q E h => h.elim
theorem okx_M_joined (z : Bz K mg cLeastError cBeyond cNoBounds cNoRow cNoSuch cNoText cTooMany cMakes cInit) (mc_M_keep : MCal P w K mg base k_M_keep cMakes "keep" ["self", "tree", "sources"] (sp_M_keep K cMakes)) (c_joined : Cal P w K mg base k_joined "joined_joins" ["one", "other"] (sp_joined K)) (c1_not_too_many : CalX P w K mg base k_not_too_many "not_too_many" ["tree"] (sp1_not_too_many K cTooMany)) (mc1_M_tree : MCalX P w K mg base k_M_tree cMakes "tree" ["self", "make"] (sp1_M_tree K cMakes cNoSuch)) : MCalX P w K mg base k_M_joined cMakes "joined" ["self", "one", "other"] (sp1_M_joined K cMakes cNoSuch cTooMany) := by
  have sc := sc_M_joined
  refine z.d_M_joined.calx z.o_Makes fun f fd F => F.okx sc (fun vs H Q E h => ?_) (fun cdv A outer s H vs Q E hr h => ?_)
  · obtain ⟨x, ka, b, j, j', low, L, rs, cs, rfl, _⟩ := h
    rfl
  obtain ⟨x, ka, b, j, j', low, L, rs, cs, rfl, M, q⟩ := h
  refine ⟨_, (pss_cons (ps_set (i := 3) sc.nd rfl (Or.inl rfl) (pe_fn c_joined (hr.mono (by decide)) (by rfl) (pa_cons (pe_mthX lv_of mc1_M_tree (hr.mono (by decide)) (pv 0) (pa_cons (pv 1) pa_nil)) (pa_cons (pe_mthX lv_of mc1_M_tree (hr.mono (by decide)) (pv 0) (pa_cons (pv 2) pa_nil)) pa_nil))))
 (pss_one (ps_ret (pe_mth mc_M_keep (hr.mono (by decide)) (pv 0) (pa_cons (pe_fnX lv_of c1_not_too_many (hr.mono (by decide)) (by rfl) (pa_cons (pv 3) pa_nil)) (pa_cons (pe_tup (pa_cons (pv 1) (pa_cons (pv 2) pa_nil))) pa_nil)))))), ?_⟩
  obtain ⟨dx, hx⟩ := M.o
  refine ⟨_, rfl, x, dx, _, rfl, hx, rfl, _, rfl, x, ka, b, j, low, L, rs, cs, rfl, M, fun n => ?_, fun i r ej g v hv => ?_⟩
  · rcases q with ⟨_, q⟩ | ⟨i, i', r, t, ej, _, g, _⟩ | ⟨i, i', r, t, ej, _, g, _⟩
    · exact q
    · exact (nomk n ej g).elim
    · exact (nomk n ej g).elim
  refine ⟨_, rfl, x, dx, _, rfl, hx, rfl, _, rfl, x, ka, b, j', low, L, rs, cs, rfl, M, fun n => ?_, fun i' t ej' g' v' hv' => ?_⟩
  · rcases q with ⟨_, q⟩ | ⟨_, i, r, t, _, ej, _, g, _⟩ | ⟨_, i, r, t, _, ej, _, g, _⟩
    · exact q
    · exact (nomk n ej g).elim
    · exact (nomk n ej g).elim
  subst ej ej'
  obtain ⟨hw, hl⟩ := M.sz g
  obtain ⟨hw', hl'⟩ := M.sz g'
  refine ⟨L, M.hL, v, v', low, r, t, rfl, hv, hv', by omega, by omega, fun u H1 s1 hu => ?_⟩
  have hal : (r ++ t).length = r.length + t.length := List.length_append
  refine ⟨_, rfl, x, dx, _, rfl, s1 _ _ hx, rfl, _, rfl, u, _, rfl, hu, ?_⟩
  rw [grow_size]
  rcases q with ⟨n | n, _⟩ | ⟨a, a', r2, t2, ea, ea', f, f', hs, q⟩ | ⟨a, a', r2, t2, ea, ea', f, f', hs, hn, q⟩
  · exact (nomk n rfl g).elim
  · exact (nomk n rfl g').elim
  · obtain ⟨rfl, rfl⟩ := same_i ea g f
    obtain ⟨rfl, rfl⟩ := same_i ea' g' f'
    exact .inr ⟨by omega, q _ s1⟩
  · obtain ⟨rfl, rfl⟩ := same_i ea g f
    obtain ⟨rfl, rfl⟩ := same_i ea' g' f'
    refine .inl ⟨by omega, _, rfl, _, rfl, szb rfl, fun p hp => ?_⟩
    have s2 : Same H1 (upd H1 p (.tup [.int (i : Int), .int (i' : Int)])) := same_new hp _
    have e2 : upd H1 p (.tup [.int (i : Int), .int (i' : Int)]) p = some (.tup [.int (i : Int), .int (i' : Int)]) := upd_same
    generalize upd H1 p (.tup [.int (i : Int), .int (i' : Int)]) = H2 at *
    have s12 := s1.trans s2
    exact ⟨x, ka, b, p, u, low, L, rs, cs, _, [(i : Int), (i' : Int)], rfl, M.same s12, hu.same s2, e2, fun y hy => (List.mem_append.mp hy).elim (hw y) (hw' y), by omega, hn, q.of s12⟩
theorem ok_M_joined (c : MCalX P w K mg base k_M_joined cMakes "joined" ["self", "one", "other"] (sp1_M_joined K cMakes cNoSuch cTooMany)) : MCal P w K mg base k_M_joined cMakes "joined" ["self", "one", "other"] (sp_M_joined K cMakes) := c.cal fun vs H Q E ⟨x, ka, b, i, j, low, L, rs, cs, r, t, e, M, g, g', hs, hn, q⟩ => ⟨x, ka, b, i, j, low, L, rs, cs, e, M, .inr (.inr ⟨i, j, r, t, rfl, rfl, g, g', hs, hn, q⟩)⟩
theorem okx_M_turned (z : Bz K mg cLeastError cBeyond cNoBounds cNoRow cNoSuch cNoText cTooMany cMakes cInit) (mc_M_keep : MCal P w K mg base k_M_keep cMakes "keep" ["self", "tree", "sources"] (sp_M_keep K cMakes)) (c_turned : Cal P w K mg base k_turned "turned_joins" ["tree"] (sp_turned K)) (mc1_M_tree : MCalX P w K mg base k_M_tree cMakes "tree" ["self", "make"] (sp1_M_tree K cMakes cNoSuch)) : MCalX P w K mg base k_M_turned cMakes "turned" ["self", "make"] (sp1_M_turned K cMakes cNoSuch) := by
  have sc := sc_M_turned
  refine z.d_M_turned.calx z.o_Makes fun f fd F => F.okx sc (fun vs H Q E h => ?_) (fun cdv A outer s H vs Q E hr h => ?_)
  · obtain ⟨x, ka, b, j, low, L, rs, cs, rfl, _⟩ := h
    rfl
  obtain ⟨x, ka, b, j, low, L, rs, cs, rfl, M, n, q⟩ := h
  refine ⟨_, (pss_one (ps_ret (pe_mth mc_M_keep (hr.mono (by decide)) (pv 0) (pa_cons (pe_fn c_turned (hr.mono (by decide)) (by rfl) (pa_cons (pe_mthX lv_of mc1_M_tree (hr.mono (by decide)) (pv 0) (pa_cons (pv 1) pa_nil)) pa_nil)) (pa_cons (pe_tup (pa_cons (pv 1) pa_nil)) pa_nil))))), ?_⟩
  obtain ⟨dx, hx⟩ := M.o
  exact ⟨_, rfl, x, dx, _, rfl, hx, rfl, _, rfl, x, dx, _, rfl, hx, rfl, _, rfl, x, ka, b, j, low, L, rs, cs, rfl, M, fun _ => q, fun i r ej g => (nomk n ej g).elim⟩
theorem ok_M_turned (c : MCalX P w K mg base k_M_turned cMakes "turned" ["self", "make"] (sp1_M_turned K cMakes cNoSuch)) : MCal P w K mg base k_M_turned cMakes "turned" ["self", "make"] (sp_M_turned K cMakes) := c.cal fun vs H Q E h => h.elim
theorem okx_M_flipped (z : Bz K mg cLeastError cBeyond cNoBounds cNoRow cNoSuch cNoText cTooMany cMakes cInit) (mc_M_keep : MCal P w K mg base k_M_keep cMakes "keep" ["self", "tree", "sources"] (sp_M_keep K cMakes)) (c_flipped : Cal P w K mg base k_flipped "flipped_joins" ["tree"] (sp_flipped K)) (mc1_M_tree : MCalX P w K mg base k_M_tree cMakes "tree" ["self", "make"] (sp1_M_tree K cMakes cNoSuch)) : MCalX P w K mg base k_M_flipped cMakes "flipped" ["self", "make"] (sp1_M_flipped K cMakes cNoSuch) := by
  have sc := sc_M_flipped
  refine z.d_M_flipped.calx z.o_Makes fun f fd F => F.okx sc (fun vs H Q E h => ?_) (fun cdv A outer s H vs Q E hr h => ?_)
  · obtain ⟨x, ka, b, j, low, L, rs, cs, rfl, _⟩ := h
    rfl
  obtain ⟨x, ka, b, j, low, L, rs, cs, rfl, M, n, q⟩ := h
  refine ⟨_, (pss_one (ps_ret (pe_mth mc_M_keep (hr.mono (by decide)) (pv 0) (pa_cons (pe_fn c_flipped (hr.mono (by decide)) (by rfl) (pa_cons (pe_mthX lv_of mc1_M_tree (hr.mono (by decide)) (pv 0) (pa_cons (pv 1) pa_nil)) pa_nil)) (pa_cons (pe_tup (pa_cons (pv 1) pa_nil)) pa_nil))))), ?_⟩
  obtain ⟨dx, hx⟩ := M.o
  exact ⟨_, rfl, x, dx, _, rfl, hx, rfl, _, rfl, x, dx, _, rfl, hx, rfl, _, rfl, x, ka, b, j, low, L, rs, cs, rfl, M, fun _ => q, fun i r ej g => (nomk n ej g).elim⟩
theorem ok_M_flipped (c : MCalX P w K mg base k_M_flipped cMakes "flipped" ["self", "make"] (sp1_M_flipped K cMakes cNoSuch)) : MCal P w K mg base k_M_flipped cMakes "flipped" ["self", "make"] (sp_M_flipped K cMakes) := c.cal fun vs H Q E h => h.elim
theorem okx_M_row (z : Bz K mg cLeastError cBeyond cNoBounds cNoRow cNoSuch cNoText cTooMany cMakes cInit) (c_row_of : Cal P w K mg base k_row_of "row_of" ["bounds", "tree"] (sp_row_of K)) (mc1_M_tree : MCalX P w K mg base k_M_tree cMakes "tree" ["self", "make"] (sp1_M_tree K cMakes cNoSuch)) : MCalX P w K mg base k_M_row cMakes "row" ["self", "make"] (sp1_M_row K cMakes cNoSuch) := by
  have sc := sc_M_row
  refine z.d_M_row.calx z.o_Makes fun f fd F => F.okx sc (fun vs H Q E h => ?_) (fun cdv A outer s H vs Q E hr h => ?_)
  · obtain ⟨x, ka, b, j, low, L, rs, cs, rfl, _⟩ := h
    rfl
  obtain ⟨x, ka, b, j, low, L, rs, cs, rfl, M, q0, q⟩ := h
  refine ⟨_, (pss_one (ps_ret (pe_fn c_row_of (hr.mono (by decide)) (by rfl) (pa_cons (pe_fld (pv 0) rfl) (pa_cons (pe_mthX lv_of mc1_M_tree (hr.mono (by decide)) (pv 0) (pa_cons (pv 1) pa_nil)) pa_nil))))), ?_⟩
  obtain ⟨dx, hx⟩ := M.o
  refine ⟨_, rfl, x, _, dx, _, _, rfl, hx, z.o_Makes, z.nB, rfl, _, rfl, x, dx, _, rfl, hx, rfl, _, rfl, x, ka, b, j, low, L, rs, cs, rfl, M, q0, fun i r ej g v hv => ?_⟩
  obtain ⟨hw, hl⟩ := M.sz g
  exact ⟨b, v, low, L, r, rfl, SqT.of M.hb, M.hL, hv, by omega, hw, q i r ej g⟩
theorem ok_M_row (c : MCalX P w K mg base k_M_row cMakes "row" ["self", "make"] (sp1_M_row K cMakes cNoSuch)) : MCal P w K mg base k_M_row cMakes "row" ["self", "make"] (sp_M_row K cMakes) := c.cal fun vs H Q E ⟨x, ka, b, j, low, L, rs, cs, r, e, M, g, q⟩ => ⟨x, ka, b, j, low, L, rs, cs, e, M, fun n => (nomk n rfl g).elim, fun i r' ei g' => by
    obtain ⟨rfl, rfl⟩ := same_i ei g g'
    exact q⟩
theorem okx_M_came_of (z : Bz K mg cLeastError cBeyond cNoBounds cNoRow cNoSuch cNoText cTooMany cMakes cInit) (mc1_M_found : MCalX P w K mg base k_M_found cMakes "found" ["self", "make"] (sp1_M_found K cMakes cNoSuch)) : MCalX P w K mg base k_M_came_of cMakes "came_of" ["self", "make"] (sp1_M_came_of K cMakes cNoSuch) := by
  have sc := sc_M_came_of
  refine z.d_M_came_of.calx z.o_Makes fun f fd F => F.okx sc (fun vs H Q E h => ?_) (fun cdv A outer s H vs Q E hr h => ?_)
  · obtain ⟨x, ka, b, j, low, L, rs, cs, rfl, _⟩ := h
    rfl
  obtain ⟨x, ka, b, j, low, L, rs, cs, rfl, M, q0, q⟩ := h
  refine ⟨_, (pss_one (ps_ret (pe_callTy call_list_of (by rfl) z.list_ bt_list (pa_cons (pe_ix ix_tup (pe_mthX lv_of mc1_M_found (hr.mono (by decide)) (pv 0) (pa_cons (pv 1) pa_nil)) pe_int (fun _ _ => rfl)) pa_nil)))), ?_⟩
  obtain ⟨dx, hx⟩ := M.o
  exact ⟨_, rfl, x, dx, _, rfl, hx, rfl, _, rfl, x, ka, b, j, low, L, rs, cs, rfl, M, q0, fun i r c ej g hc p a v e1 e2 e3 => ⟨p, _, _, _, rfl, rfl, SqT.of e1, rfl, a, _, rfl, .inr (SqT.of e3), fun D hD => q i c ej hc _ D (same_new hD _) upd_same hD⟩⟩
theorem ok_M_came_of (c : MCalX P w K mg base k_M_came_of cMakes "came_of" ["self", "make"] (sp1_M_came_of K cMakes cNoSuch)) : MCal P w K mg base k_M_came_of cMakes "came_of" ["self", "make"] (sp_M_came_of K cMakes) := c.cal fun vs H Q E ⟨x, ka, b, j, low, L, rs, cs, c, e, M, g, q⟩ => by
    obtain ⟨r, gr⟩ := M.cam g
    exact ⟨x, ka, b, j, low, L, rs, cs, e, M, fun n => (nomk n rfl gr).elim, fun i c' ei g' => by
      obtain ⟨rfl, rfl⟩ := same_i ei g g'
      exact q⟩
end
/-! ### what was caught, and what is refused -/
def Cgt (K : PySem.W.Frag) (cB cN cT : Addr) (H : Hp) (x : Addr) (wd : Str) (num : Int) : Prop :=
  (wd = "such" ∧ num = 0 ∧ EAt K H x cN) ∨ (wd = "many" ∧ num = 0 ∧ EAt K H x cT) ∨ (wd = "beyond" ∧ ECls K cB ∧ ∃ d, H x = some (ExcO x (.ref cB) (some d)) ∧ H d = some (.xd [("number", .int num)]))
theorem EAt.sm {K : PySem.W.Frag} {H H' : Hp} {x C : Addr} (e : EAt K H x C) (s : Same H H') : EAt K H' x C := by
  obtain ⟨a, dd, hx, hd⟩ := e
  exact ⟨a, dd, s _ _ hx, fun y hy => (hd y hy).elim fun o ho => ⟨o, s _ _ ho⟩⟩
abbrev k__law_class : Nat := 1
def sp__law_class (K : PySem.W.Frag) (cB cN cT : Addr) : Sp := fun vs H Q _ => ∃ (x : Addr) (wd : Str) (num : Int), vs = [.ref x] ∧ Cgt K cB cN cT H x wd num ∧ ∀ (p : Addr) (H' : Hp), Same H H' → H' p = some (.tup [.str wd, .int num]) → Q (.ref p) H'
inductive Refd (rs : List (List Int)) (low : Int) (L : Nat) : Int → Int → Int → Int → Str → Int → Prop where
  | no {wy j a c : Int} (h0 : 0 ≤ wy) (h9 : wy < 10) (h : NoMk rs j) : Refd rs low L wy j a c "such" 0
  | put {i : Nat} {a c : Int} {r : List Int} (g : rs[i]? = some r) (h : a < 0 ∨ (r.length : Int) < a) : Refd rs low L 0 i a c "such" 0
  | putB {i : Nat} {a c : Int} {r : List Int} (g : rs[i]? = some r) (h0 : 0 ≤ a) (h1 : a ≤ (r.length : Int)) (h : ¬ (low ≤ c ∧ c ≤ low + 2 ^ L - 1)) : Refd rs low L 0 i a c "beyond" c
  | putT {i : Nat} {a c : Int} {r : List Int} (g : rs[i]? = some r) (h0 : 0 ≤ a) (h1 : a ≤ (r.length : Int)) (h2 : low ≤ c) (h3 : c ≤ low + 2 ^ L - 1) (h : r.length = 1000) : Refd rs low L 0 i a c "many" 0
  | set {i : Nat} {a c : Int} {r : List Int} (g : rs[i]? = some r) (h : a < 0 ∨ (r.length : Int) ≤ a) : Refd rs low L 1 i a c "such" 0
  | setB {i : Nat} {a c : Int} {r : List Int} (g : rs[i]? = some r) (h0 : 0 ≤ a) (h1 : a < (r.length : Int)) (h : ¬ (low ≤ c ∧ c ≤ low + 2 ^ L - 1)) : Refd rs low L 1 i a c "beyond" c
  | take {i : Nat} {a c : Int} {r : List Int} (g : rs[i]? = some r) (h : a < 0 ∨ (r.length : Int) ≤ a) : Refd rs low L 2 i a c "such" 0
  | cut {i : Nat} {a c : Int} {r : List Int} (g : rs[i]? = some r) (h : ¬ (0 ≤ a ∧ a ≤ c ∧ c ≤ (r.length : Int))) : Refd rs low L 3 i a c "such" 0
  | join {j a c : Int} (h : NoMk rs a) : Refd rs low L 4 j a c "such" 0
  | joinT {i i' : Nat} {c : Int} {r t : List Int} (g : rs[i]? = some r) (g' : rs[i']? = some t) (h : 1000 < r.length + t.length) : Refd rs low L 4 i i' c "many" 0
abbrev k__law_done : Nat := 47
def sp__law_done (_ : PySem.W.Frag) (C : Addr) : Sp := fun vs H Q _ => ∃ (x ka b : Addr) (wy j fi se low : Int) (L : Nat) (rs cs : List (List Int)) (wd : Str) (num : Int), vs = [.ref x, .int wy, .int j, .int fi, .int se] ∧ Mks C H x ka b low L rs cs ∧ Refd rs low L wy j fi se wd num ∧
  ∀ (p : Addr) (H' : Hp), Same H H' → H' p = some (.tup [.str wd, .int num]) → Q (.ref p) H'
theorem seq_non {i : Nat} {v : TS} {D : Ends} {σ : St} {H : Hp} (h : v D (σ.set i (some .non)) H) : tSeq (tAsg (tC .non) (gName i)) v D σ H := h
theorem seq_try {K : PySem.W.Frag} {C2 : Addr} {i : Nat} {T : TB} {u v : TS} {D : Ends} {σ : St} {H : Hp} (h : ∀ E : XK, (∀ cls dd H2, (PySem.W.exmOne K cls (.ref C2) = some true ∧ ∀ x, H2 x = none → u { nx := fun σ' H' => v D (σ'.set i none) H', rt := D.rt, bk := fun σ' H' => D.bk (σ'.set i none) H', ct := fun σ' H' => D.ct (σ'.set i none) H' } (σ.set i (some (.ref x))) (upd H2 x (ExcO x cls dd))) → E cls dd H2) → T σ H (fun H2 => v D σ H2) E) : tSeq (tTryB K C2 i T u) v D σ H := h _ fun _ _ _ z => z
abbrev k__law_off : Nat := 3
def sp__law_off (_ : PySem.W.Frag) : Sp := fun vs H Q _ => ∃ (pen : Addr) (lo tp : Int), vs = [.ref pen, .int lo, .int tp] ∧ PenM H pen ∧ ∀ (y : Int) (H' : Hp), Keep pen H H' → PenM H' pen → (y < lo ∨ tp < y) → Q (.int y) H'
section
variable {P : Program} {w : World} {K : PySem.W.Frag} {mg : Str → Option Value} {base : Heap}
theorem ok__law_off (d : Def K mg "_law_off" s__law_off ["_law_pen_here", "_law_low", "_law_top"]) (z : Bz K mg cLeastError cBeyond cNoBounds cNoRow cNoSuch cNoText cTooMany cMakes cInit) (c__law_take : Cal P w K mg base k__law_take "_law_take" ["_law_pen_here", "_law_size"] (sp__law_take K)) : Cal P w K mg base k__law_off "_law_off" ["_law_pen_here", "_law_low", "_law_top"] (sp__law_off K) := by
  have sc := sc__law_off
  refine d.cal fun f fd F => F.ok sc (fun vs H Q E h => ?_) (fun cdv A outer s H vs Q E hr h => ?_)
  · obtain ⟨pen, lo, tp, rfl, _⟩ := h
    rfl
  obtain ⟨pen, lo, tp, rfl, P0, q⟩ := h
  refine ⟨_, (pss_cons (ps_set (i := 3) sc.nd rfl (Or.inl rfl) (pe_fn c__law_take (hr.mono (by decide)) (by rfl) (pa_cons (pv 0) (pa_cons (pe_op op_pow pe_int pe_int) pa_nil))))
 (pss_one (ps_ret (pe_ix ix_list (pe_lst (pa_cons (pe_op op_sub (pv 1) pe_int) (pa_cons (pe_op op_add (pv 2) pe_int) (pa_cons (pe_op op_sub (pe_op op_sub (pv 1) pe_int) (pv 3)) (pa_cons (pe_op op_add (pe_op op_add (pv 2) pe_int) (pv 3)) pa_nil))))) (pe_fn c__law_take (hr.mono (by decide)) (by rfl) (pa_cons (pv 0) (pa_cons pe_int pa_nil))) (fun _ _ => rfl))))), ?_⟩
  refine ⟨_, rfl, _, _, rfl, rfl, ⟨by decide, by decide, by decide⟩, pen, _, rfl, P0, by decide, by decide, fun far H1 k1 P1 f0 _ => ?_⟩
  refine ⟨_, rfl, _, _, rfl, rfl, _, rfl, _, _, rfl, rfl, _, rfl, _, _, rfl, rfl, _, rfl, _, _, rfl, rfl, _, rfl, _, _, rfl, rfl, _, rfl, _, _, rfl, rfl, szb rfl, fun p hp => ?_⟩
  refine ⟨_, rfl, pen, 4, rfl, P1.new hp _, by decide, by decide, fun v2 H2 k2 P2 a2 b2 => ?_⟩
  obtain ⟨y, hm, hv⟩ := atI_ints (l := [lo - 1, tp + 1, lo - 2 - far, tp + 2 + far]) a2 b2
  refine ⟨p, _, _, _, rfl, rfl, SqL.of (k2 _ _ (P1.fresh hp) upd_same), hv, ?_⟩
  refine q y _ (k1.trans ((Keep.new hp _).trans k2)) P2 ?_
  simp only [List.mem_cons, List.not_mem_nil, or_false] at hm
  omega
theorem ok__law_class (d : Def K mg "_law_class" s__law_class ["_law_caught"]) (z : Bz K mg cLeastError cBeyond cNoBounds cNoRow cNoSuch cNoText cTooMany cMakes cInit)  : Cal P w K mg base k__law_class "_law_class" ["_law_caught"] (sp__law_class K cBeyond cNoSuch cTooMany) := by
  have sc := sc__law_class
  refine d.cal fun f fd F => F.ok sc (fun vs H Q E h => ?_) (fun cdv A outer s H vs Q E hr h => ?_)
  · obtain ⟨x, wd, num, rfl, _⟩ := h
    rfl
  obtain ⟨x, wd, num, rfl, hc, q⟩ := h
  refine ⟨_, (pss_cons (ps_if (PW.pt (pw_or (pt_cmpR op_isN (pv 0) pe_non (nomark _)) (pw_or (pt_not (pt_val (pe_callB (call_isE (K := K) rfl) (by rfl) z.isinstance_ bt_isinstance (pa_cons (pv 0) (pa_cons (pe_bltn (v := .ty "ValueError") (u := .type "ValueError") (by rfl) z.ValueError_ bt_ValueError rfl) pa_nil))))) (pw_or1 (pt_val (pe_callB (call_isET (K := K) rfl) (by rfl) z.isinstance_ bt_isinstance (pa_cons (pv 0) (pa_cons (pe_tup (pa_cons (pe_glob (v := .ref cNoBounds) (u := .ref cNoBounds) (by rfl) z.m_NoBounds rfl) (pa_cons (pe_glob (v := .ref cNoRow) (u := .ref cNoRow) (by rfl) z.m_NoRow rfl) (pa_cons (pe_glob (v := .ref cNoText) (u := .ref cNoText) (by rfl) z.m_NoText rfl) pa_nil)))) pa_nil))))))))
  (pss_one (ps_ret (pe_tup (pa_cons pe_str (pa_cons pe_int pa_nil)))))
  pss_nil)
 (pss_cons (ps_set (i := 1) sc.nd rfl (Or.inl rfl) (pe_lst (pa_cons (pe_callB (call_isE (K := K) rfl) (by rfl) z.isinstance_ bt_isinstance (pa_cons (pv 0) (pa_cons (pe_glob (v := .ref cBeyond) (u := .ref cBeyond) (by rfl) z.m_Beyond rfl) pa_nil))) (pa_cons (pe_callB (call_isE (K := K) rfl) (by rfl) z.isinstance_ bt_isinstance (pa_cons (pv 0) (pa_cons (pe_glob (v := .ref cNoSuch) (u := .ref cNoSuch) (by rfl) z.m_NoSuch rfl) pa_nil))) (pa_cons (pe_callB (call_isE (K := K) rfl) (by rfl) z.isinstance_ bt_isinstance (pa_cons (pv 0) (pa_cons (pe_glob (v := .ref cTooMany) (u := .ref cTooMany) (by rfl) z.m_TooMany rfl) pa_nil))) pa_nil)))))
 (pss_cons (ps_if (pt_cmpR op_ne (pe_bm PySem.F.plainAttrs_list PySem.F.slot_list_count PySem.F.type_list_count mt_countL (pv 1) (pa_cons pe_bl pa_nil)) pe_int (nomark _))
  (pss_one (ps_ret (pe_tup (pa_cons pe_str (pa_cons pe_int pa_nil)))))
  pss_nil)
 (pss_cons (ps_if (pt_val (pe_ix ix_list (pv 1) pe_int (fun _ _ => rfl)))
  (pss_one (ps_ret (pe_tup (pa_cons pe_str (pa_cons (pe_fldE (K := K) rfl (pv 0)) pa_nil)))))
  pss_nil)
 (pss_one (ps_ret (pe_tup (pa_cons (pe_ix ix_list (pe_lst (pa_cons pe_str (pa_cons pe_str pa_nil))) (pe_callTy call_int1 (by rfl) z.int_ bt_int (pa_cons (pe_ix ix_list (pv 1) pe_int (fun _ _ => rfl)) pa_nil)) (fun _ _ => rfl)) (pa_cons pe_int pa_nil))))))))), ?_⟩
  refine ⟨_, rfl, rfl, _, rfl, ?_⟩
  refine ite2 (fun c => absurd (of_decide_eq_true c) (by intro z; cases z)) (fun _ => ?_)
  rcases hc with ⟨rfl, rfl, e0⟩ | ⟨rfl, rfl, e0⟩ | ⟨rfl, ec, d1, e0, ed⟩
  · refine ⟨_, rfl, x, cNoSuch, _, _, _, rfl, e0, .ty _, z.kNV, true, rfl, iteF ?_⟩
    refine ⟨_, rfl, szb rfl, fun p6 h6 => ?_⟩
    have s6 : Same H (upd H p6 (.tup [.ref cNoBounds, .ref cNoRow, .ref cNoText])) := same_new h6 _
    refine ⟨x, cNoSuch, p6, _, _, _, rfl, EAt.sm e0 s6, SqT.of upd_same, .cons (.own _) (.cons (.own _) (.cons (.own _) .nil)), z.kNO, false, rfl, iteF ?_⟩
    generalize upd H p6 (.tup [.ref cNoBounds, .ref cNoRow, .ref cNoText]) = H6 at *
    refine ⟨_, rfl, x, cNoSuch, _, _, _, rfl, EAt.sm e0 s6, .own _, z.kNB, _, rfl, x, cNoSuch, _, _, _, rfl, EAt.sm e0 s6, .own _, z.kNN, _, rfl, x, cNoSuch, _, _, _, rfl, EAt.sm e0 s6, .own _, z.kNT, szb rfl, fun l hl => ?_⟩
    have s7 : Same H6 (upd H6 l (.lst [.bl false, .bl true, .bl false])) := same_new hl _
    have e7 : upd H6 l (.lst [.bl false, .bl true, .bl false]) l = some (.lst [.bl false, .bl true, .bl false]) := upd_same
    generalize upd H6 l (.lst [.bl false, .bl true, .bl false]) = H7 at *
    refine ⟨_, rfl, .inl ⟨rfl, _, SqL.of e7⟩, l, _, _, rfl, rfl, SqL.of e7, rfl, rfl, rfl, _, rfl, iteNS rfl ?_⟩
    refine ⟨_, rfl, l, _, _, _, rfl, rfl, SqL.of e7, rfl, false, rfl, iteF ?_⟩
    refine ⟨szb rfl, fun l2 hl2 => ?_⟩
    have s8 := same_new hl2 (.lst [.str "such", .str "many"])
    exact ⟨_, rfl, l, _, _, _, rfl, rfl, SqL.of (s8 _ _ e7), rfl, .inr ⟨_, rfl, l2, _, _, _, rfl, rfl, SqL.of upd_same, rfl, szb rfl, fun p hp => q p _ ((s6.trans s7).trans (s8.trans (same_new hp _))) upd_same⟩⟩
  · refine ⟨_, rfl, x, cTooMany, _, _, _, rfl, e0, .ty _, z.kTV, true, rfl, iteF ?_⟩
    refine ⟨_, rfl, szb rfl, fun p6 h6 => ?_⟩
    have s6 : Same H (upd H p6 (.tup [.ref cNoBounds, .ref cNoRow, .ref cNoText])) := same_new h6 _
    refine ⟨x, cTooMany, p6, _, _, _, rfl, EAt.sm e0 s6, SqT.of upd_same, .cons (.own _) (.cons (.own _) (.cons (.own _) .nil)), z.kTO, false, rfl, iteF ?_⟩
    generalize upd H p6 (.tup [.ref cNoBounds, .ref cNoRow, .ref cNoText]) = H6 at *
    refine ⟨_, rfl, x, cTooMany, _, _, _, rfl, EAt.sm e0 s6, .own _, z.kTB, _, rfl, x, cTooMany, _, _, _, rfl, EAt.sm e0 s6, .own _, z.kTN, _, rfl, x, cTooMany, _, _, _, rfl, EAt.sm e0 s6, .own _, z.kTT, szb rfl, fun l hl => ?_⟩
    have s7 : Same H6 (upd H6 l (.lst [.bl false, .bl false, .bl true])) := same_new hl _
    have e7 : upd H6 l (.lst [.bl false, .bl false, .bl true]) l = some (.lst [.bl false, .bl false, .bl true]) := upd_same
    generalize upd H6 l (.lst [.bl false, .bl false, .bl true]) = H7 at *
    refine ⟨_, rfl, .inl ⟨rfl, _, SqL.of e7⟩, l, _, _, rfl, rfl, SqL.of e7, rfl, rfl, rfl, _, rfl, iteNS rfl ?_⟩
    refine ⟨_, rfl, l, _, _, _, rfl, rfl, SqL.of e7, rfl, false, rfl, iteF ?_⟩
    refine ⟨szb rfl, fun l2 hl2 => ?_⟩
    have s8 := same_new hl2 (.lst [.str "such", .str "many"])
    exact ⟨_, rfl, l, _, _, _, rfl, rfl, SqL.of (s8 _ _ e7), rfl, .inr ⟨_, rfl, l2, _, _, _, rfl, rfl, SqL.of upd_same, rfl, szb rfl, fun p hp => q p _ ((s6.trans s7).trans (s8.trans (same_new hp _))) upd_same⟩⟩
  · have ea : EAt K H x cBeyond := ⟨ec, some d1, e0, fun y hy => ⟨.xd [("number", .int num)], by cases hy; exact ed⟩⟩
    refine ⟨_, rfl, x, cBeyond, _, _, _, rfl, ea, .ty _, z.kBV, true, rfl, iteF ?_⟩
    refine ⟨_, rfl, szb rfl, fun p6 h6 => ?_⟩
    have s6 : Same H (upd H p6 (.tup [.ref cNoBounds, .ref cNoRow, .ref cNoText])) := same_new h6 _
    refine ⟨x, cBeyond, p6, _, _, _, rfl, EAt.sm ea s6, SqT.of upd_same, .cons (.own _) (.cons (.own _) (.cons (.own _) .nil)), z.kBO, false, rfl, iteF ?_⟩
    generalize upd H p6 (.tup [.ref cNoBounds, .ref cNoRow, .ref cNoText]) = H6 at *
    refine ⟨_, rfl, x, cBeyond, _, _, _, rfl, EAt.sm ea s6, .own _, z.kBB, _, rfl, x, cBeyond, _, _, _, rfl, EAt.sm ea s6, .own _, z.kBN, _, rfl, x, cBeyond, _, _, _, rfl, EAt.sm ea s6, .own _, z.kBT, szb rfl, fun l hl => ?_⟩
    have s7 : Same H6 (upd H6 l (.lst [.bl true, .bl false, .bl false])) := same_new hl _
    have e7 : upd H6 l (.lst [.bl true, .bl false, .bl false]) l = some (.lst [.bl true, .bl false, .bl false]) := upd_same
    generalize upd H6 l (.lst [.bl true, .bl false, .bl false]) = H7 at *
    refine ⟨_, rfl, .inl ⟨rfl, _, SqL.of e7⟩, l, _, _, rfl, rfl, SqL.of e7, rfl, rfl, rfl, _, rfl, iteNS rfl ?_⟩
    refine ⟨_, rfl, l, _, _, _, rfl, rfl, SqL.of e7, rfl, true, rfl, iteT ?_⟩
    have s67 := s6.trans s7
    exact ⟨_, rfl, x, cBeyond, d1, _, num, rfl, z.ecl, z.fld, s67 _ _ e0, s67 _ _ ed, rfl, szb rfl, fun p hp => q p _ (s67.trans (same_new hp _)) upd_same⟩
end
theorem ifY {p A B : Prop} [Decidable p] (hp : p) (h : A) : if decide p = true then A else B := by
  rw [if_pos (decide_eq_true hp)]
  exact h
theorem ifN {p A B : Prop} [Decidable p] (hp : ¬ p) (h : B) : if decide p = true then A else B := by
  rw [if_neg (fun z => hp (of_decide_eq_true z))]
  exact h
section
variable {P : Program} {w : World} {K : PySem.W.Frag} {mg : Str → Option Value} {base : Heap}
theorem ok__law_done (d : Def K mg "_law_done" s__law_done ["_law_makes", "_law_way", "_law_make", "_law_first", "_law_second"]) (z : Bz K mg cLeastError cBeyond cNoBounds cNoRow cNoSuch cNoText cTooMany cMakes cInit) (c__law_class : Cal P w K mg base k__law_class "_law_class" ["_law_caught"] (sp__law_class K cBeyond cNoSuch cTooMany)) (mc1_M_came_of : MCalX P w K mg base k_M_came_of cMakes "came_of" ["self", "make"] (sp1_M_came_of K cMakes cNoSuch)) (mc1_M_cut_out : MCalX P w K mg base k_M_cut_out cMakes "cut_out" ["self", "make", "start", "end"] (sp1_M_cut_out K cMakes cNoSuch)) (mc1_M_flipped : MCalX P w K mg base k_M_flipped cMakes "flipped" ["self", "make"] (sp1_M_flipped K cMakes cNoSuch)) (mc1_M_joined : MCalX P w K mg base k_M_joined cMakes "joined" ["self", "one", "other"] (sp1_M_joined K cMakes cNoSuch cTooMany)) (mc1_M_put_in : MCalX P w K mg base k_M_put_in cMakes "put_in" ["self", "make", "place", "number"] (sp1_M_put_in K cMakes cNoSuch cBeyond cTooMany)) (mc1_M_row : MCalX P w K mg base k_M_row cMakes "row" ["self", "make"] (sp1_M_row K cMakes cNoSuch)) (mc1_M_set_at : MCalX P w K mg base k_M_set_at cMakes "set_at" ["self", "make", "place", "number"] (sp1_M_set_at K cMakes cNoSuch cBeyond)) (mc1_M_taken_out : MCalX P w K mg base k_M_taken_out cMakes "taken_out" ["self", "make", "place"] (sp1_M_taken_out K cMakes cNoSuch)) (mc1_M_tree : MCalX P w K mg base k_M_tree cMakes "tree" ["self", "make"] (sp1_M_tree K cMakes cNoSuch)) (mc1_M_turned : MCalX P w K mg base k_M_turned cMakes "turned" ["self", "make"] (sp1_M_turned K cMakes cNoSuch)) : Cal P w K mg base k__law_done "_law_done" ["_law_makes", "_law_way", "_law_make", "_law_first", "_law_second"] (sp__law_done K cMakes) := by
  have sc := sc__law_done
  refine d.cal fun f fd F => F.ok sc (fun vs H Q E h => ?_) (fun cdv A outer s H vs Q E hr h => ?_)
  · obtain ⟨x, ka, b, wy, j, fi, se, low, L, rs, cs, wd, num, rfl, _⟩ := h
    rfl
  obtain ⟨x, ka, b, wy, j, fi, se, low, L, rs, cs, wd, num, rfl, M, R, q⟩ := h
  refine ⟨_, (pss_cons (ps_set (i := 5) sc.nd rfl (Or.inl rfl) pe_non)
 (pss_cons (ps_tryB (i := 6) rfl rfl (tb_if (pt_cmpR op_eq (pv 1) pe_int (nomark _))
  (tb_mth mc1_M_put_in (hr.mono (by decide)) (pv 0) (pa_cons (pv 2) (pa_cons (pv 3) (pa_cons (pv 4) pa_nil))))
  (tb_if (pt_cmpR op_eq (pv 1) pe_int (nomark _))
  (tb_mth mc1_M_set_at (hr.mono (by decide)) (pv 0) (pa_cons (pv 2) (pa_cons (pv 3) (pa_cons (pv 4) pa_nil))))
  (tb_if (pt_cmpR op_eq (pv 1) pe_int (nomark _))
  (tb_mth mc1_M_taken_out (hr.mono (by decide)) (pv 0) (pa_cons (pv 2) (pa_cons (pv 3) pa_nil)))
  (tb_if (pt_cmpR op_eq (pv 1) pe_int (nomark _))
  (tb_mth mc1_M_cut_out (hr.mono (by decide)) (pv 0) (pa_cons (pv 2) (pa_cons (pv 3) (pa_cons (pv 4) pa_nil))))
  (tb_if (pt_cmpR op_eq (pv 1) pe_int (nomark _))
  (tb_mth mc1_M_joined (hr.mono (by decide)) (pv 0) (pa_cons (pv 2) (pa_cons (pv 3) pa_nil)))
  (tb_if (pt_cmpR op_eq (pv 1) pe_int (nomark _))
  (tb_mth mc1_M_turned (hr.mono (by decide)) (pv 0) (pa_cons (pv 2) pa_nil))
  (tb_if (pt_cmpR op_eq (pv 1) pe_int (nomark _))
  (tb_mth mc1_M_flipped (hr.mono (by decide)) (pv 0) (pa_cons (pv 2) pa_nil))
  (tb_if (pt_cmpR op_eq (pv 1) pe_int (nomark _))
  (tb_mth mc1_M_row (hr.mono (by decide)) (pv 0) (pa_cons (pv 2) pa_nil))
  (tb_if (pt_cmpR op_eq (pv 1) pe_int (nomark _))
  (tb_mth mc1_M_tree (hr.mono (by decide)) (pv 0) (pa_cons (pv 2) pa_nil))
  (tb_mth mc1_M_came_of (hr.mono (by decide)) (pv 0) (pa_cons (pv 2) pa_nil))))))))))) (by rfl) z.m_LeastError sc.nd rfl rfl (fun _ =>
  (pss_one (ps_set (i := 5) sc.nd rfl (Or.inl rfl) (pv 6)))))
 (pss_one (ps_ret (pe_fn c__law_class (hr.mono (by decide)) (by rfl) (pa_cons (pv 5) pa_nil)))))), ?_⟩
  refine seq_non (seq_try fun E' hE => ?_)
  obtain ⟨dx, hx⟩ := M.o
  have fin : ∀ (c : Addr) (dd : Option Addr) (H2 : Hp), Same H H2 → PySem.W.exmOne K (.ref c) (.ref cLeastError) = some true → (∀ y H3, Same H2 H3 → H3 y = some (ExcO y (.ref c) dd) → Cgt K cBeyond cNoSuch cTooMany H3 y wd num) → E' (.ref c) dd H2 := by
    intro c dd H2 s2 ex hC
    refine hE _ _ _ ⟨ex, fun y hy => ?_⟩
    have s3 : Same H2 (upd H2 y (ExcO y (.ref c) dd)) := same_new hy _
    have e3 : upd H2 y (ExcO y (.ref c) dd) y = some (ExcO y (.ref c) dd) := upd_same
    generalize upd H2 y (ExcO y (.ref c) dd) = H3 at *
    exact ⟨_, rfl, _, rfl, y, wd, num, rfl, hC y H3 s3 e3, fun p H' s' => q p H' ((s2.trans s3).trans s')⟩
  clear hE
  cases R with
  | no h0 h9 hn =>
    have eN : E' (.ref cNoSuch) none H := fin _ _ _ (Same.refl _) z.exN fun y H3 s3 e3 => .inl ⟨rfl, rfl, z.eclN, none, e3, fun _ h => nomatch h⟩
    obtain ⟨k, rfl⟩ := Int.eq_ofNat_of_zero_le h0
    have hk : k < 10 := by omega
    match k, hk with
    | 0, _ =>
      refine ⟨_, rfl, rfl, _, rfl, ifY rfl ?_⟩
      exact ⟨_, rfl, x, dx, _, rfl, hx, rfl, _, rfl, _, rfl, _, rfl, x, ka, b, j, fi, low, se, L, rs, cs, rfl, M, .inl ⟨.inl hn, eN⟩⟩
    | 1, _ =>
      refine ⟨_, rfl, rfl, _, rfl, ifN (by decide) ?_⟩
      refine ⟨_, rfl, rfl, _, rfl, ifY rfl ?_⟩
      exact ⟨_, rfl, x, dx, _, rfl, hx, rfl, _, rfl, _, rfl, _, rfl, x, ka, b, j, fi, low, se, L, rs, cs, rfl, M, .inl ⟨.inl hn, eN⟩⟩
    | 2, _ =>
      refine ⟨_, rfl, rfl, _, rfl, ifN (by decide) ?_⟩
      refine ⟨_, rfl, rfl, _, rfl, ifN (by decide) ?_⟩
      refine ⟨_, rfl, rfl, _, rfl, ifY rfl ?_⟩
      exact ⟨_, rfl, x, dx, _, rfl, hx, rfl, _, rfl, _, rfl, x, ka, b, j, fi, low, L, rs, cs, rfl, M, .inl hn, eN⟩
    | 3, _ =>
      refine ⟨_, rfl, rfl, _, rfl, ifN (by decide) ?_⟩
      refine ⟨_, rfl, rfl, _, rfl, ifN (by decide) ?_⟩
      refine ⟨_, rfl, rfl, _, rfl, ifN (by decide) ?_⟩
      refine ⟨_, rfl, rfl, _, rfl, ifY rfl ?_⟩
      exact ⟨_, rfl, x, dx, _, rfl, hx, rfl, _, rfl, _, rfl, _, rfl, x, ka, b, j, fi, se, low, L, rs, cs, rfl, M, .inl hn, eN⟩
    | 4, _ =>
      refine ⟨_, rfl, rfl, _, rfl, ifN (by decide) ?_⟩
      refine ⟨_, rfl, rfl, _, rfl, ifN (by decide) ?_⟩
      refine ⟨_, rfl, rfl, _, rfl, ifN (by decide) ?_⟩
      refine ⟨_, rfl, rfl, _, rfl, ifN (by decide) ?_⟩
      refine ⟨_, rfl, rfl, _, rfl, ifY rfl ?_⟩
      exact ⟨_, rfl, x, dx, _, rfl, hx, rfl, _, rfl, _, rfl, x, ka, b, j, fi, low, L, rs, cs, rfl, M, .inl ⟨.inl hn, eN⟩⟩
    | 5, _ =>
      refine ⟨_, rfl, rfl, _, rfl, ifN (by decide) ?_⟩
      refine ⟨_, rfl, rfl, _, rfl, ifN (by decide) ?_⟩
      refine ⟨_, rfl, rfl, _, rfl, ifN (by decide) ?_⟩
      refine ⟨_, rfl, rfl, _, rfl, ifN (by decide) ?_⟩
      refine ⟨_, rfl, rfl, _, rfl, ifN (by decide) ?_⟩
      refine ⟨_, rfl, rfl, _, rfl, ifY rfl ?_⟩
      exact ⟨_, rfl, x, dx, _, rfl, hx, rfl, _, rfl, x, ka, b, j, low, L, rs, cs, rfl, M, hn, eN⟩
    | 6, _ =>
      refine ⟨_, rfl, rfl, _, rfl, ifN (by decide) ?_⟩
      refine ⟨_, rfl, rfl, _, rfl, ifN (by decide) ?_⟩
      refine ⟨_, rfl, rfl, _, rfl, ifN (by decide) ?_⟩
      refine ⟨_, rfl, rfl, _, rfl, ifN (by decide) ?_⟩
      refine ⟨_, rfl, rfl, _, rfl, ifN (by decide) ?_⟩
      refine ⟨_, rfl, rfl, _, rfl, ifN (by decide) ?_⟩
      refine ⟨_, rfl, rfl, _, rfl, ifY rfl ?_⟩
      exact ⟨_, rfl, x, dx, _, rfl, hx, rfl, _, rfl, x, ka, b, j, low, L, rs, cs, rfl, M, hn, eN⟩
    | 7, _ =>
      refine ⟨_, rfl, rfl, _, rfl, ifN (by decide) ?_⟩
      refine ⟨_, rfl, rfl, _, rfl, ifN (by decide) ?_⟩
      refine ⟨_, rfl, rfl, _, rfl, ifN (by decide) ?_⟩
      refine ⟨_, rfl, rfl, _, rfl, ifN (by decide) ?_⟩
      refine ⟨_, rfl, rfl, _, rfl, ifN (by decide) ?_⟩
      refine ⟨_, rfl, rfl, _, rfl, ifN (by decide) ?_⟩
      refine ⟨_, rfl, rfl, _, rfl, ifN (by decide) ?_⟩
      refine ⟨_, rfl, rfl, _, rfl, ifY rfl ?_⟩
      exact ⟨_, rfl, x, dx, _, rfl, hx, rfl, _, rfl, x, ka, b, j, low, L, rs, cs, rfl, M, fun _ => eN, fun i r ej g => (nomk hn ej g).elim⟩
    | 8, _ =>
      refine ⟨_, rfl, rfl, _, rfl, ifN (by decide) ?_⟩
      refine ⟨_, rfl, rfl, _, rfl, ifN (by decide) ?_⟩
      refine ⟨_, rfl, rfl, _, rfl, ifN (by decide) ?_⟩
      refine ⟨_, rfl, rfl, _, rfl, ifN (by decide) ?_⟩
      refine ⟨_, rfl, rfl, _, rfl, ifN (by decide) ?_⟩
      refine ⟨_, rfl, rfl, _, rfl, ifN (by decide) ?_⟩
      refine ⟨_, rfl, rfl, _, rfl, ifN (by decide) ?_⟩
      refine ⟨_, rfl, rfl, _, rfl, ifN (by decide) ?_⟩
      refine ⟨_, rfl, rfl, _, rfl, ifY rfl ?_⟩
      exact ⟨_, rfl, x, dx, _, rfl, hx, rfl, _, rfl, x, ka, b, j, low, L, rs, cs, rfl, M, fun _ => eN, fun i r ej g => (nomk hn ej g).elim⟩
    | 9, _ =>
      refine ⟨_, rfl, rfl, _, rfl, ifN (by decide) ?_⟩
      refine ⟨_, rfl, rfl, _, rfl, ifN (by decide) ?_⟩
      refine ⟨_, rfl, rfl, _, rfl, ifN (by decide) ?_⟩
      refine ⟨_, rfl, rfl, _, rfl, ifN (by decide) ?_⟩
      refine ⟨_, rfl, rfl, _, rfl, ifN (by decide) ?_⟩
      refine ⟨_, rfl, rfl, _, rfl, ifN (by decide) ?_⟩
      refine ⟨_, rfl, rfl, _, rfl, ifN (by decide) ?_⟩
      refine ⟨_, rfl, rfl, _, rfl, ifN (by decide) ?_⟩
      refine ⟨_, rfl, rfl, _, rfl, ifN (by decide) ?_⟩
      exact ⟨_, rfl, x, dx, _, rfl, hx, rfl, _, rfl, x, ka, b, j, low, L, rs, cs, rfl, M, fun _ => eN, fun i c ej g => (M.cam g).elim fun r gr => (nomk hn ej gr).elim⟩
  | put g h =>
    have eN : E' (.ref cNoSuch) none H := fin _ _ _ (Same.refl _) z.exN fun y H3 s3 e3 => .inl ⟨rfl, rfl, z.eclN, none, e3, fun _ h => nomatch h⟩
    refine ⟨_, rfl, rfl, _, rfl, ifY rfl ?_⟩
    exact ⟨_, rfl, x, dx, _, rfl, hx, rfl, _, rfl, _, rfl, _, rfl, x, ka, b, _, fi, low, se, L, rs, cs, rfl, M, .inl ⟨.inr ⟨_, _, rfl, g, h⟩, eN⟩⟩
  | putB g h0 h1 h =>
    have eB : ∀ d H', Same H H' → H' d = some (.xd [("number", .int se)]) → E' (.ref cBeyond) (some d) H' := fun d1 H' s' hd => fin _ _ _ s' z.exL fun y H3 s3 e3 => .inr (.inr ⟨rfl, z.ecl, d1, e3, s3 _ _ hd⟩)
    refine ⟨_, rfl, rfl, _, rfl, ifY rfl ?_⟩
    exact ⟨_, rfl, x, dx, _, rfl, hx, rfl, _, rfl, _, rfl, _, rfl, x, ka, b, _, fi, low, se, L, rs, cs, rfl, M, .inr (.inl ⟨_, _, rfl, g, h0, h1, h, eB⟩)⟩
  | putT g h0 h1 h2 h3 h =>
    have eT : ∀ H', Same H H' → E' (.ref cTooMany) none H' := fun H' s' => fin _ _ _ s' z.exT fun y H3 s3 e3 => .inr (.inl ⟨rfl, rfl, z.eclT, none, e3, fun _ h => nomatch h⟩)
    refine ⟨_, rfl, rfl, _, rfl, ifY rfl ?_⟩
    exact ⟨_, rfl, x, dx, _, rfl, hx, rfl, _, rfl, _, rfl, _, rfl, x, ka, b, _, fi, low, se, L, rs, cs, rfl, M, .inr (.inr (.inl ⟨_, _, rfl, g, h0, h1, h2, h3, h, eT⟩))⟩
  | set g h =>
    have eN : E' (.ref cNoSuch) none H := fin _ _ _ (Same.refl _) z.exN fun y H3 s3 e3 => .inl ⟨rfl, rfl, z.eclN, none, e3, fun _ h => nomatch h⟩
    refine ⟨_, rfl, rfl, _, rfl, ifN (by decide) ?_⟩
    refine ⟨_, rfl, rfl, _, rfl, ifY rfl ?_⟩
    exact ⟨_, rfl, x, dx, _, rfl, hx, rfl, _, rfl, _, rfl, _, rfl, x, ka, b, _, fi, low, se, L, rs, cs, rfl, M, .inl ⟨.inr ⟨_, _, rfl, g, h⟩, eN⟩⟩
  | setB g h0 h1 h =>
    have eB : ∀ d H', Same H H' → H' d = some (.xd [("number", .int se)]) → E' (.ref cBeyond) (some d) H' := fun d1 H' s' hd => fin _ _ _ s' z.exL fun y H3 s3 e3 => .inr (.inr ⟨rfl, z.ecl, d1, e3, s3 _ _ hd⟩)
    refine ⟨_, rfl, rfl, _, rfl, ifN (by decide) ?_⟩
    refine ⟨_, rfl, rfl, _, rfl, ifY rfl ?_⟩
    exact ⟨_, rfl, x, dx, _, rfl, hx, rfl, _, rfl, _, rfl, _, rfl, x, ka, b, _, fi, low, se, L, rs, cs, rfl, M, .inr ⟨_, _, rfl, g, h0, h1, h, eB⟩⟩
  | take g h =>
    have eN : E' (.ref cNoSuch) none H := fin _ _ _ (Same.refl _) z.exN fun y H3 s3 e3 => .inl ⟨rfl, rfl, z.eclN, none, e3, fun _ h => nomatch h⟩
    refine ⟨_, rfl, rfl, _, rfl, ifN (by decide) ?_⟩
    refine ⟨_, rfl, rfl, _, rfl, ifN (by decide) ?_⟩
    refine ⟨_, rfl, rfl, _, rfl, ifY rfl ?_⟩
    exact ⟨_, rfl, x, dx, _, rfl, hx, rfl, _, rfl, _, rfl, x, ka, b, _, _, low, L, rs, cs, rfl, M, .inr ⟨_, _, rfl, g, h⟩, eN⟩
  | cut g h =>
    have eN : E' (.ref cNoSuch) none H := fin _ _ _ (Same.refl _) z.exN fun y H3 s3 e3 => .inl ⟨rfl, rfl, z.eclN, none, e3, fun _ h => nomatch h⟩
    refine ⟨_, rfl, rfl, _, rfl, ifN (by decide) ?_⟩
    refine ⟨_, rfl, rfl, _, rfl, ifN (by decide) ?_⟩
    refine ⟨_, rfl, rfl, _, rfl, ifN (by decide) ?_⟩
    refine ⟨_, rfl, rfl, _, rfl, ifY rfl ?_⟩
    exact ⟨_, rfl, x, dx, _, rfl, hx, rfl, _, rfl, _, rfl, _, rfl, x, ka, b, _, fi, se, low, L, rs, cs, rfl, M, .inr ⟨_, _, rfl, g, h⟩, eN⟩
  | join h =>
    have eN : E' (.ref cNoSuch) none H := fin _ _ _ (Same.refl _) z.exN fun y H3 s3 e3 => .inl ⟨rfl, rfl, z.eclN, none, e3, fun _ h => nomatch h⟩
    refine ⟨_, rfl, rfl, _, rfl, ifN (by decide) ?_⟩
    refine ⟨_, rfl, rfl, _, rfl, ifN (by decide) ?_⟩
    refine ⟨_, rfl, rfl, _, rfl, ifN (by decide) ?_⟩
    refine ⟨_, rfl, rfl, _, rfl, ifN (by decide) ?_⟩
    refine ⟨_, rfl, rfl, _, rfl, ifY rfl ?_⟩
    exact ⟨_, rfl, x, dx, _, rfl, hx, rfl, _, rfl, _, rfl, x, ka, b, _, _, low, L, rs, cs, rfl, M, .inl ⟨.inr h, eN⟩⟩
  | joinT g g' h =>
    have eT : ∀ H', Same H H' → E' (.ref cTooMany) none H' := fun H' s' => fin _ _ _ s' z.exT fun y H3 s3 e3 => .inr (.inl ⟨rfl, rfl, z.eclT, none, e3, fun _ h => nomatch h⟩)
    refine ⟨_, rfl, rfl, _, rfl, ifN (by decide) ?_⟩
    refine ⟨_, rfl, rfl, _, rfl, ifN (by decide) ?_⟩
    refine ⟨_, rfl, rfl, _, rfl, ifN (by decide) ?_⟩
    refine ⟨_, rfl, rfl, _, rfl, ifN (by decide) ?_⟩
    refine ⟨_, rfl, rfl, _, rfl, ifY rfl ?_⟩
    exact ⟨_, rfl, x, dx, _, rfl, hx, rfl, _, rfl, _, rfl, x, ka, b, _, _, low, L, rs, cs, rfl, M, .inr (.inl ⟨_, _, _, _, rfl, rfl, g, g', h, eT⟩)⟩
end
abbrev k__law_stretch : Nat := 3
def sp__law_stretch (_ : PySem.W.Frag) : Sp := fun vs H Q _ => ∃ (pen : Addr) (n : Nat), vs = [.ref pen, .int (n : Int)] ∧ PenM H pen ∧ n ≤ 1000 ∧
  ∀ (t : Addr) (st en : Int) (H' : Hp), Keep pen H H' → PenM H' pen → H' t = some (.tup [.int st, .int en]) → ¬ (0 ≤ st ∧ st ≤ en ∧ en ≤ (n : Int)) → Q (.ref t) H'
abbrev k__law_case : Nat := 4
def sp__law_case (_ : PySem.W.Frag) : Sp := fun vs H Q _ => ∃ (pen b ra : Addr) (low : Int) (L : Nat) (rs : List (List Int)) (ns : List Int), vs = [.ref pen, .ref b, .int 5, .ref ra] ∧ PenM H pen ∧ H b = some (.tup [.int low, .int (L : Int)]) ∧ L ≤ 40 ∧ H ra = some (.lst (ns.map V.int)) ∧ ra ≠ pen ∧ ns.length ≤ 900 ∧ rs.length = 5 ∧ rs[1]? = some ns ∧
  (∀ k : Nat, 2 ≤ k → k < 5 → ∃ r, rs[k]? = some r ∧ 250 ≤ r.length) ∧ (∃ r, rs[4]? = some r ∧ r.length = 1000) ∧
  ∀ (t du : Addr) (wy j fi se : Int) (wd : Str) (num : Int) (H' : Hp), Keep pen H H' → PenM H' pen → H' t = some (.tup [.int wy, .int j, .int fi, .int se, .ref du]) → H' du = some (.tup [.str wd, .int num]) → Refd rs low L wy j fi se wd num → Q (.ref t) H'
section
variable {P : Program} {w : World} {K : PySem.W.Frag} {mg : Str → Option Value} {base : Heap}
theorem ok__law_stretch (d : Def K mg "_law_stretch" s__law_stretch ["_law_pen_here", "_law_many"]) (z : Bz K mg cLeastError cBeyond cNoBounds cNoRow cNoSuch cNoText cTooMany cMakes cInit) (c__law_take : Cal P w K mg base k__law_take "_law_take" ["_law_pen_here", "_law_size"] (sp__law_take K)) : Cal P w K mg base k__law_stretch "_law_stretch" ["_law_pen_here", "_law_many"] (sp__law_stretch K) := by
  have sc := sc__law_stretch
  refine d.cal fun f fd F => F.ok sc (fun vs H Q E h => ?_) (fun cdv A outer s H vs Q E hr h => ?_)
  · obtain ⟨pen, n, rfl, _⟩ := h
    rfl
  obtain ⟨pen, n, rfl, P0, hn, q⟩ := h
  refine ⟨_, (pss_cons (ps_set (i := 2) sc.nd rfl (Or.inl rfl) (pe_fn c__law_take (hr.mono (by decide)) (by rfl) (pa_cons (pv 0) (pa_cons (pe_op op_add (pv 1) pe_int) pa_nil))))
 (pss_cons (ps_set (i := 3) sc.nd rfl (Or.inl rfl) (pe_fn c__law_take (hr.mono (by decide)) (by rfl) (pa_cons (pv 0) (pa_cons pe_int pa_nil))))
 (pss_cons (ps_if (PW.pt (pw_and (pt_cmpR op_eq (pv 3) pe_int (nomark _)) (pw_and1 (pt_cmpR op_gt (pv 2) pe_int (nomark _)))))
  (pss_one (ps_ret (pe_tup (pa_cons (pv 2) (pa_cons (pe_op op_sub (pv 2) pe_int) pa_nil)))))
  pss_nil)
 (pss_cons (ps_if (pt_cmpR op_eq (pv 3) pe_int (nomark _))
  (pss_one (ps_ret (pe_tup (pa_cons (pe_op op_sub (pe_op op_sub pe_int pe_int) (pe_fn c__law_take (hr.mono (by decide)) (by rfl) (pa_cons (pv 0) (pa_cons pe_int pa_nil)))) (pa_cons (pv 2) pa_nil)))))
  pss_nil)
 (pss_one (ps_ret (pe_tup (pa_cons (pv 2) (pa_cons (pe_op op_add (pe_op op_add (pv 1) pe_int) (pe_fn c__law_take (hr.mono (by decide)) (by rfl) (pa_cons (pv 0) (pa_cons (pe_op op_pow pe_int pe_int) pa_nil)))) pa_nil))))))))), ?_⟩
  refine ⟨_, rfl, _, rfl, _, _, rfl, rfl, pen, _, rfl, P0, by omega, by omega, fun st H1 k1 P1 a1 b1 => ?_⟩
  refine ⟨_, rfl, pen, 3, rfl, P1, by decide, by decide, fun wv H2 k2 P2 a2 b2 => ?_⟩
  have k02 := k1.trans k2
  have last : ∀ (G : Hp), Keep pen H G → PenM G pen → ∀ (x y : Int), ¬ (0 ≤ x ∧ x ≤ y ∧ y ≤ (n : Int)) → ∀ t, G t = none → Q (.ref t) (upd G t (.tup [.int x, .int y])) := fun G k PG x y hb t ht => q t x y _ (k.trans (Keep.new ht _)) (PG.new ht _) upd_same hb
  refine ⟨_, rfl, rfl, _, rfl, ?_⟩
  refine ite2 (fun c => ?_) (fun c => iteF ?_)
  · refine ⟨_, rfl, _, _, rfl, rfl, _, rfl, ?_⟩
    refine ite2 (fun c2 => ?_) (fun c2 => ?_)
    · exact ⟨_, rfl, _, rfl, _, _, rfl, rfl, szb rfl, fun t ht => last H2 k02 P2 _ _ (by omega) t ht⟩
    · have e0 : wv = 0 := V.int.inj (of_decide_eq_true c)
      refine ⟨_, rfl, rfl, _, rfl, ite2 (fun c3 => absurd (of_decide_eq_true c3) (by rw [e0]; decide)) (fun _ => ?_)⟩
      refine ⟨_, rfl, _, rfl, _, _, rfl, rfl, _, rfl, _, _, rfl, rfl, ⟨by decide, by decide, by decide⟩, pen, _, rfl, P2, by decide, by decide, fun v3 H3 k3 P3 a3 b3 => ⟨_, _, rfl, rfl, szb rfl, fun t ht => last H3 (k02.trans k3) P3 _ _ (by omega) t ht⟩⟩
  · refine ⟨_, rfl, rfl, _, rfl, ite2 (fun c3 => ?_) (fun _ => ?_)⟩
    · refine ⟨_, _, rfl, rfl, _, rfl, pen, 9, rfl, P2, by decide, by decide, fun v3 H3 k3 P3 a3 b3 => ⟨_, _, rfl, rfl, _, rfl, szb rfl, fun t ht => last H3 (k02.trans k3) P3 _ _ (by omega) t ht⟩⟩
    · refine ⟨_, rfl, _, rfl, _, _, rfl, rfl, _, rfl, _, _, rfl, rfl, ⟨by decide, by decide, by decide⟩, pen, _, rfl, P2, by decide, by decide, fun v3 H3 k3 P3 a3 b3 => ⟨_, _, rfl, rfl, szb rfl, fun t ht => last H3 (k02.trans k3) P3 _ _ (by omega) t ht⟩⟩
theorem ok__law_case (d : Def K mg "_law_case" s__law_case ["_law_pen_here", "_law_bounds_here", "_law_many", "_law_row_here"]) (z : Bz K mg cLeastError cBeyond cNoBounds cNoRow cNoSuch cNoText cTooMany cMakes cInit) (c__law_off : Cal P w K mg base k__law_off "_law_off" ["_law_pen_here", "_law_low", "_law_top"] (sp__law_off K)) (c__law_stretch : Cal P w K mg base k__law_stretch "_law_stretch" ["_law_pen_here", "_law_many"] (sp__law_stretch K)) (c__law_take : Cal P w K mg base k__law_take "_law_take" ["_law_pen_here", "_law_size"] (sp__law_take K)) : Cal P w K mg base k__law_case "_law_case" ["_law_pen_here", "_law_bounds_here", "_law_many", "_law_row_here"] (sp__law_case K) := by
  have sc := sc__law_case
  refine d.cal fun f fd F => F.ok sc (fun vs H Q E h => ?_) (fun cdv A outer s H vs Q E hr h => ?_)
  · obtain ⟨pen, b, ra, low, L, rs, ns, rfl, _⟩ := h
    rfl
  obtain ⟨pen, b, ra, low, L, rs, ns, rfl, P0, hb, hL, era, nrp, hns, h5, g1, gk, ⟨r4, g4, hr4⟩, q⟩ := h
  refine ⟨_, (pss_cons (ps_set (i := 4) sc.nd rfl (Or.inl rfl) (pe_fn c__law_take (hr.mono (by decide)) (by rfl) (pa_cons (pv 0) (pa_cons pe_int pa_nil))))
 (pss_cons (ps_if (PW.pt (pw_or (pt_cmpR op_gt (pv 4) pe_int (nomark _)) (pw_or1 (pt_cmpR op_eq (pe_fn c__law_take (hr.mono (by decide)) (by rfl) (pa_cons (pv 0) (pa_cons pe_int pa_nil))) pe_int (nomark _)))))
  (pss_cons (ps_set (i := 5) sc.nd rfl (Or.inl rfl) (pe_ix ix_list (pe_lst (pa_cons pe_int (pa_cons (pe_op op_sub (pe_ix ix_tup (pv 1) pe_int (fun _ _ => rfl)) pe_int) pa_nil))) (pe_fn c__law_take (hr.mono (by decide)) (by rfl) (pa_cons (pv 0) (pa_cons pe_int pa_nil))) (fun _ _ => rfl)))
 (pss_one (ps_ret (pe_tup (pa_cons (pv 4) (pa_cons (pe_fn c__law_off (hr.mono (by decide)) (by rfl) (pa_cons (pv 0) (pa_cons pe_int (pa_cons (pe_op op_sub (pv 2) pe_int) pa_nil)))) (pa_cons (pv 5) (pa_cons (pe_op op_sub (pe_ix ix_tup (pv 1) pe_int (fun _ _ => rfl)) pe_int) (pa_cons (pe_tup (pa_cons pe_str (pa_cons pe_int pa_nil))) pa_nil)))))))))
  pss_nil)
 (pss_cons (ps_set (i := 6) sc.nd rfl (Or.inl rfl) (pe_fn c__law_off (hr.mono (by decide)) (by rfl) (pa_cons (pv 0) (pa_cons (pe_ix ix_tup (pv 1) pe_int (fun _ _ => rfl)) (pa_cons (pe_op op_sub (pe_op op_add (pe_ix ix_tup (pv 1) pe_int (fun _ _ => rfl)) (pe_op op_shl pe_int (pe_ix ix_tup (pv 1) pe_int (fun _ _ => rfl)))) pe_int) pa_nil)))))
 (pss_cons (ps_set (i := 7) sc.nd rfl (Or.inl rfl) (pe_op op_sub (pe_callB call_len_seq (by rfl) z.len_ bt_len (pa_cons (pv 3) pa_nil)) (pe_callTy call_int1 (by rfl) z.int_ bt_int (pa_cons (pe_cmpR op_gt (pv 4) pe_int (nomark _)) pa_nil))))
 (pss_cons (ps_if (PW.pt (pw_and (pt_cmpR op_eq (pv 4) pe_int (nomark _)) (pw_and1 (pt_cmpR op_eq (pe_fn c__law_take (hr.mono (by decide)) (by rfl) (pa_cons (pv 0) (pa_cons pe_int pa_nil))) pe_int (nomark _)))))
  (pss_one (ps_ret (pe_tup (pa_cons (pv 4) (pa_cons (pe_op op_sub (pv 2) pe_int) (pa_cons (pe_fn c__law_take (hr.mono (by decide)) (by rfl) (pa_cons (pv 0) (pa_cons pe_int pa_nil))) (pa_cons (pe_op op_add (pe_ix ix_tup (pv 1) pe_int (fun _ _ => rfl)) (pe_fn c__law_take (hr.mono (by decide)) (by rfl) (pa_cons (pv 0) (pa_cons (pe_op op_shl pe_int (pe_ix ix_tup (pv 1) pe_int (fun _ _ => rfl))) pa_nil)))) (pa_cons (pe_tup (pa_cons pe_str (pa_cons pe_int pa_nil))) pa_nil))))))))
  pss_nil)
 (pss_cons (ps_if (pt_cmpR op_eq (pv 4) pe_int (nomark _))
  (pss_cons (ps_asg (pe_fn c__law_stretch (hr.mono (by decide)) (by rfl) (pa_cons (pv 0) (pa_cons (pe_callB call_len_seq (by rfl) z.len_ bt_len (pa_cons (pv 3) pa_nil)) pa_nil))) (pg_tup rfl (pgs_cons (pg_name (i := 8) sc.nd rfl (Or.inl rfl)) (pgs_cons (pg_name (i := 9) sc.nd rfl (Or.inl rfl)) pgs_nil))))
 (pss_one (ps_ret (pe_tup (pa_cons (pv 4) (pa_cons pe_int (pa_cons (pv 8) (pa_cons (pv 9) (pa_cons (pe_tup (pa_cons pe_str (pa_cons pe_int pa_nil))) pa_nil)))))))))
  pss_nil)
 (pss_cons (ps_if (PW.pt (pw_and (pt_cmpR op_eq (pv 4) pe_int (nomark _)) (pw_and1 (pt_cmpR op_eq (pe_fn c__law_take (hr.mono (by decide)) (by rfl) (pa_cons (pv 0) (pa_cons pe_int pa_nil))) pe_int (nomark _)))))
  (pss_one (ps_ret (pe_tup (pa_cons (pv 4) (pa_cons (pe_op op_sub (pv 2) pe_int) (pa_cons (pe_op op_add pe_int (pe_fn c__law_take (hr.mono (by decide)) (by rfl) (pa_cons (pv 0) (pa_cons pe_int pa_nil)))) (pa_cons pe_int (pa_cons (pe_tup (pa_cons pe_str (pa_cons pe_int pa_nil))) pa_nil))))))))
  pss_nil)
 (pss_cons (ps_if (pt_cmpR op_eq (pv 4) pe_int (nomark _))
  (pss_one (ps_ret (pe_tup (pa_cons (pv 4) (pa_cons pe_int (pa_cons (pe_fn c__law_off (hr.mono (by decide)) (by rfl) (pa_cons (pv 0) (pa_cons pe_int (pa_cons (pe_op op_sub (pv 2) pe_int) pa_nil)))) (pa_cons pe_int (pa_cons (pe_tup (pa_cons pe_str (pa_cons pe_int pa_nil))) pa_nil))))))))
  pss_nil)
 (pss_cons (ps_if (PW.pt (pw_or (pt_cmpR op_eq (pv 4) pe_int (nomark _)) (pw_or (pt_cmpR op_lt (pv 7) pe_int (nomark _)) (pw_or1 (pt_cmpR op_eq (pe_fn c__law_take (hr.mono (by decide)) (by rfl) (pa_cons (pv 0) (pa_cons pe_int pa_nil))) pe_int (nomark _))))))
  (pss_one (ps_ret (pe_tup (pa_cons (pv 4) (pa_cons pe_int (pa_cons (pe_fn c__law_off (hr.mono (by decide)) (by rfl) (pa_cons (pv 0) (pa_cons pe_int (pa_cons (pv 7) pa_nil)))) (pa_cons (pv 6) (pa_cons (pe_tup (pa_cons pe_str (pa_cons pe_int pa_nil))) pa_nil))))))))
  pss_nil)
 (pss_one (ps_ret (pe_tup (pa_cons (pv 4) (pa_cons pe_int (pa_cons (pe_fn c__law_take (hr.mono (by decide)) (by rfl) (pa_cons (pv 0) (pa_cons (pe_op op_add (pv 7) pe_int) pa_nil))) (pa_cons (pv 6) (pa_cons (pe_tup (pa_cons pe_str (pa_cons (pv 6) pa_nil))) pa_nil))))))))))))))))), ?_⟩
  have hp2 := p2pos L
  have hq2 := p2le hL
  have B : ∀ {G : Hp}, Keep pen H G → G b = some (.tup [.int low, .int (L : Int)]) := fun k => k _ _ (P0.ne hb) hb
  have A1 : ∀ {G : Hp}, Keep pen H G → G ra = some (.lst (ns.map V.int)) := fun k => k _ _ nrp era
  have hlm : (ns.map V.int).length = ns.length := List.length_map _
  have fin : ∀ (wy j fi se : Int) (wd : Str) (num : Int) (G : Hp), Keep pen H G → PenM G pen → Refd rs low L wy j fi se wd num → ∀ du t, G du = none → upd G du (.tup [.str wd, .int num]) t = none → Q (.ref t) (upd (upd G du (.tup [.str wd, .int num])) t (.tup [.int wy, .int j, .int fi, .int se, .ref du])) :=
    fun wy j fi se wd num G k PG R du t hdu ht => q t du wy j fi se wd num _ (k.trans ((Keep.new hdu _).trans (Keep.new ht _))) ((PG.new hdu _).new ht _) upd_same (by rw [upd_ne (ne_of_none upd_same ht)]; exact upd_same) R
  refine ⟨_, rfl, pen, 10, rfl, P0, by decide, by decide, fun wv H1 k1 P1 w0 w1 => ?_⟩
  refine ⟨_, rfl, _, _, rfl, rfl, _, rfl, ?_⟩
  refine ite2 (fun c => iteT ?_) (fun c => ?_)
  · refine ⟨_, rfl, b, _, _, _, rfl, rfl, SqT.of (B k1), rfl, _, _, rfl, rfl, szb rfl, fun p hp => ?_⟩
    refine ⟨_, rfl, pen, 2, rfl, P1.new hp _, by decide, by decide, fun v3 H3 k3 P3 a3 b3 => ?_⟩
    obtain ⟨y3, -, hv3⟩ := atI_ints (l := [0, low - 1]) a3 b3
    have k03 := k1.trans ((Keep.new hp _).trans k3)
    refine ⟨p, _, _, _, rfl, rfl, SqL.of (k3 _ _ (P1.fresh hp) upd_same), hv3, ?_⟩
    refine ⟨_, rfl, _, rfl, _, rfl, _, _, rfl, rfl, pen, 0, _, rfl, P3, fun y4 H4 k4 P4 h4 => ?_⟩
    have k04 := k03.trans k4
    exact ⟨_, rfl, _, rfl, b, _, _, _, rfl, rfl, SqT.of (B k04), rfl, _, _, rfl, rfl, szb rfl, fun du hdu => ⟨szb rfl, fun t ht => fin _ _ _ _ _ _ _ k04 P4 (.no w0 w1 (by omega)) du t hdu ht⟩⟩
  have w4 : ¬ wv > 4 := fun z => c (decide_eq_true z)
  refine ⟨_, rfl, pen, 4, rfl, P1, by decide, by decide, fun v2 H2 k2 P2 a2 b2 => ⟨rfl, _, rfl, ?_⟩⟩
  have k02 := k1.trans k2
  refine ite2 (fun c2 => ?_) (fun c2 => ?_)
  · refine ⟨_, rfl, b, _, _, _, rfl, rfl, SqT.of (B k02), rfl, _, _, rfl, rfl, szb rfl, fun p hp => ?_⟩
    refine ⟨_, rfl, pen, 2, rfl, P2.new hp _, by decide, by decide, fun v3 H3 k3 P3 a3 b3 => ?_⟩
    obtain ⟨y3, -, hv3⟩ := atI_ints (l := [0, low - 1]) a3 b3
    have k03 := k02.trans ((Keep.new hp _).trans k3)
    refine ⟨p, _, _, _, rfl, rfl, SqL.of (k3 _ _ (P2.fresh hp) upd_same), hv3, ?_⟩
    refine ⟨_, rfl, _, rfl, _, rfl, _, _, rfl, rfl, pen, 0, _, rfl, P3, fun y4 H4 k4 P4 h4 => ?_⟩
    have k04 := k03.trans k4
    exact ⟨_, rfl, _, rfl, b, _, _, _, rfl, rfl, SqT.of (B k04), rfl, _, _, rfl, rfl, szb rfl, fun du hdu => ⟨szb rfl, fun t ht => fin _ _ _ _ _ _ _ k04 P4 (.no w0 w1 (by omega)) du t hdu ht⟩⟩
  refine ⟨_, rfl, _, rfl, b, _, _, _, rfl, rfl, SqT.of (B k02), rfl, _, rfl, b, _, _, _, rfl, rfl, SqT.of (B k02), rfl, _, rfl, b, _, _, _, rfl, rfl, SqT.of (B k02), rfl, _, _, rfl, rfl, ⟨by omega, by omega, by decide⟩, _, _, rfl, rfl, _, _, rfl, rfl, pen, low, _, rfl, P2, fun num H3 k3 P3 h3 => ?_⟩
  rw [shlOne] at h3
  have hout : ¬ (low ≤ num ∧ num ≤ low + 2 ^ L - 1) := by omega
  have k03 := k02.trans k3
  refine ⟨_, rfl, ra, _, rfl, .inl (SqL.of (A1 k03)), _, rfl, _, _, rfl, rfl, .inr ⟨_, rfl, _, _, rfl, rfl, ?_⟩⟩
  obtain ⟨la, hla⟩ : ∃ la : Int, (((ns.map V.int).length : Nat) : Int) - (if decide (wv > 0) = true then 1 else 0) = la := ⟨_, rfl⟩
  show gName 7 (.int ((((ns.map V.int).length : Nat) : Int) - (if decide (wv > 0) = true then 1 else 0))) _ _ _
  rw [hla]
  rw [hlm] at hla
  have hla0 : wv = 0 → la = (ns.length : Int) := fun z => by rw [← hla, z]; show (ns.length : Int) - 0 = _; omega
  have hla1 : 0 < wv → la = (ns.length : Int) - 1 := fun z => by rw [← hla, if_pos (decide_eq_true z)]
  clear hla
  have hwv : wv = 0 ∨ wv = 1 ∨ wv = 2 ∨ wv = 3 ∨ wv = 4 := by omega
  rcases hwv with rfl | rfl | rfl | rfl | rfl
  · have hl := hla0 rfl
    refine ⟨_, rfl, rfl, _, rfl, ifY rfl ?_⟩
    refine ⟨_, rfl, pen, 4, rfl, P3, by decide, by decide, fun v4 H4 k4 P4 a4 b4 => ⟨rfl, _, rfl, ?_⟩⟩
    have k04 := k03.trans k4
    refine ite2 (fun c4 => ?_) (fun c4 => ?_)
    · refine ⟨_, rfl, _, rfl, _, _, rfl, rfl, _, rfl, pen, 1001, rfl, P4, by decide, by decide, fun v5 H5 k5 P5 a5 b5 => ?_⟩
      have k05 := k04.trans k5
      refine ⟨_, rfl, b, _, _, _, rfl, rfl, SqT.of (B k05), rfl, _, rfl, _, rfl, b, _, _, _, rfl, rfl, SqT.of (B k05), rfl, _, _, rfl, rfl, ⟨by omega, by omega, by decide⟩, ?_⟩
      dsimp only
      rw [shlOne]
      refine ⟨pen, _, rfl, P5, hp2, by omega, fun v6 H6 k6 P6 a6 b6 => ?_⟩
      exact ⟨_, _, rfl, rfl, szb rfl, fun du hdu => ⟨szb rfl, fun t ht => fin _ _ _ _ _ _ _ (k05.trans k6) P6 (.putT (i := 4) g4 a5 (by omega) (by omega) (by omega) hr4) du t hdu ht⟩⟩
    refine ⟨_, rfl, rfl, _, rfl, ifN (by decide) ?_⟩
    refine ⟨_, rfl, rfl, _, rfl, ifN (by decide) (iteF ?_)⟩
    refine ⟨_, rfl, rfl, _, rfl, ifN (by decide) ?_⟩
    refine ⟨_, rfl, rfl, _, rfl, ifN (by decide) ?_⟩
    refine ⟨_, rfl, _, _, rfl, rfl, _, rfl, ?_⟩
    refine ite2 (fun c6 => iteT ?_) (fun c6 => ?_)
    · have c6' : la < 0 := of_decide_eq_true c6
      refine ⟨_, rfl, _, rfl, _, rfl, pen, 0, la, rfl, P4, fun y5 H5 k5 P5 h5' => ?_⟩
      exact ⟨_, rfl, szb rfl, fun du hdu => ⟨szb rfl, fun t ht => fin _ _ _ _ _ _ _ (k04.trans k5) P5 (.put (i := 1) g1 (by omega)) du t hdu ht⟩⟩
    have c6' : ¬ la < 0 := fun z => c6 (decide_eq_true z)
    refine ⟨_, rfl, pen, 2, rfl, P4, by decide, by decide, fun v7 H7 k7 P7 a7 b7 => ⟨rfl, _, rfl, ?_⟩⟩
    refine ite2 (fun c7 => ?_) (fun c7 => ?_)
    · refine ⟨_, rfl, _, rfl, _, rfl, pen, 0, la, rfl, P7, fun y5 H5 k5 P5 h5' => ?_⟩
      exact ⟨_, rfl, szb rfl, fun du hdu => ⟨szb rfl, fun t ht => fin _ _ _ _ _ _ _ ((k04.trans k7).trans k5) P5 (.put (i := 1) g1 (by omega)) du t hdu ht⟩⟩
    refine ⟨_, rfl, _, rfl, _, rfl, _, _, rfl, rfl, pen, _, rfl, P7, by omega, by omega, fun y8 H8 k8 P8 a8 b8 => ?_⟩
    exact ⟨_, rfl, _, rfl, szb rfl, fun du hdu => ⟨szb rfl, fun t ht => fin _ _ _ _ _ _ _ ((k04.trans k7).trans k8) P8 (.putB (i := 1) g1 a8 (by omega) hout) du t hdu ht⟩⟩
  · have hl := hla1 (by decide)
    refine ⟨_, rfl, rfl, _, rfl, ifN (by decide) (iteF ?_)⟩
    refine ⟨_, rfl, rfl, _, rfl, ifN (by decide) ?_⟩
    refine ⟨_, rfl, rfl, _, rfl, ifN (by decide) (iteF ?_)⟩
    refine ⟨_, rfl, rfl, _, rfl, ifN (by decide) ?_⟩
    refine ⟨_, rfl, rfl, _, rfl, ifN (by decide) ?_⟩
    refine ⟨_, rfl, _, _, rfl, rfl, _, rfl, ?_⟩
    refine ite2 (fun c6 => iteT ?_) (fun c6 => ?_)
    · have c6' : la < 0 := of_decide_eq_true c6
      refine ⟨_, rfl, _, rfl, _, rfl, pen, 0, la, rfl, P3, fun y5 H5 k5 P5 h5' => ?_⟩
      exact ⟨_, rfl, szb rfl, fun du hdu => ⟨szb rfl, fun t ht => fin _ _ _ _ _ _ _ (k03.trans k5) P5 (.set (i := 1) g1 (by omega)) du t hdu ht⟩⟩
    have c6' : ¬ la < 0 := fun z => c6 (decide_eq_true z)
    refine ⟨_, rfl, pen, 2, rfl, P3, by decide, by decide, fun v7 H7 k7 P7 a7 b7 => ⟨rfl, _, rfl, ?_⟩⟩
    refine ite2 (fun c7 => ?_) (fun c7 => ?_)
    · refine ⟨_, rfl, _, rfl, _, rfl, pen, 0, la, rfl, P7, fun y5 H5 k5 P5 h5' => ?_⟩
      exact ⟨_, rfl, szb rfl, fun du hdu => ⟨szb rfl, fun t ht => fin _ _ _ _ _ _ _ ((k03.trans k7).trans k5) P5 (.set (i := 1) g1 (by omega)) du t hdu ht⟩⟩
    refine ⟨_, rfl, _, rfl, _, rfl, _, _, rfl, rfl, pen, _, rfl, P7, by omega, by omega, fun y8 H8 k8 P8 a8 b8 => ?_⟩
    exact ⟨_, rfl, _, rfl, szb rfl, fun du hdu => ⟨szb rfl, fun t ht => fin _ _ _ _ _ _ _ ((k03.trans k7).trans k8) P8 (.setB (i := 1) g1 a8 (by omega) hout) du t hdu ht⟩⟩
  · have hl := hla1 (by decide)
    refine ⟨_, rfl, rfl, _, rfl, ifN (by decide) (iteF ?_)⟩
    refine ⟨_, rfl, rfl, _, rfl, ifN (by decide) ?_⟩
    refine ⟨_, rfl, rfl, _, rfl, ifN (by decide) (iteF ?_)⟩
    refine ⟨_, rfl, rfl, _, rfl, ifN (by decide) ?_⟩
    refine ⟨_, rfl, rfl, _, rfl, ifY rfl (iteT ?_)⟩
    refine ⟨_, rfl, _, rfl, _, rfl, pen, 0, la, rfl, P3, fun y5 H5 k5 P5 h5' => ?_⟩
    exact ⟨_, rfl, szb rfl, fun du hdu => ⟨szb rfl, fun t ht => fin _ _ _ _ _ _ _ (k03.trans k5) P5 (.take (i := 1) g1 (by omega)) du t hdu ht⟩⟩
  · refine ⟨_, rfl, rfl, _, rfl, ifN (by decide) (iteF ?_)⟩
    refine ⟨_, rfl, rfl, _, rfl, ifY rfl ?_⟩
    refine ⟨_, rfl, _, rfl, ra, _, rfl, .inl (SqL.of (A1 k03)), pen, ns.length, by rw [hlm]; rfl, P3, by omega, fun t0 st en H4 k4 P4 et hbad => ?_⟩
    refine ⟨t0, _, rfl, SqT.of et, rfl, _, _, rfl, _, _, rfl, rfl, ?_⟩
    exact ⟨_, rfl, _, rfl, _, rfl, szb rfl, fun du hdu => ⟨szb rfl, fun t ht => fin _ _ _ _ _ _ _ (k03.trans k4) P4 (.cut (i := 1) g1 hbad) du t hdu ht⟩⟩
  · refine ⟨_, rfl, rfl, _, rfl, ifN (by decide) (iteF ?_)⟩
    refine ⟨_, rfl, rfl, _, rfl, ifN (by decide) ?_⟩
    refine ⟨_, rfl, rfl, _, rfl, ifY rfl ?_⟩
    refine ⟨_, rfl, pen, 2, rfl, P3, by decide, by decide, fun v4 H4 k4 P4 a4 b4 => ⟨rfl, _, rfl, ?_⟩⟩
    have k04 := k03.trans k4
    refine ite2 (fun c4 => ?_) (fun c4 => ?_)
    · refine ⟨_, rfl, _, rfl, _, _, rfl, rfl, _, rfl, pen, 3, rfl, P4, by decide, by decide, fun v5 H5 k5 P5 a5 b5 => ⟨_, _, rfl, rfl, ?_⟩⟩
      obtain ⟨i5, rfl⟩ := Int.eq_ofNat_of_zero_le a5
      obtain ⟨r5, g5, hr5⟩ := gk (2 + i5) (by omega) (by omega)
      have e5 : (2 : Int) + (i5 : Int) = ((2 + i5 : Nat) : Int) := by omega
      dsimp only
      rw [e5]
      exact ⟨szb rfl, fun du hdu => ⟨szb rfl, fun t ht => fin _ _ _ _ _ _ _ (k04.trans k5) P5 (.joinT (i := 4) (i' := 2 + i5) g4 g5 (by omega)) du t hdu ht⟩⟩
    refine ⟨_, rfl, rfl, _, rfl, ifY rfl ?_⟩
    refine ⟨_, rfl, _, rfl, _, rfl, _, _, rfl, rfl, pen, 0, _, rfl, P4, fun y5 H5 k5 P5 h5' => ?_⟩
    exact ⟨szb rfl, fun du hdu => ⟨szb rfl, fun t ht => fin _ _ _ _ _ _ _ (k04.trans k5) P5 (.join (by omega)) du t hdu ht⟩⟩
end
abbrev k__law_row_refused : Nat := 44
def sp__law_row_refused (_ : PySem.W.Frag) (C : Addr) : Sp := fun vs H Q _ => ∃ (x ka pen b ra : Addr) (low : Int) (L : Nat) (rs cs : List (List Int)) (ns : List Int), vs = [.ref x, .ref pen, .ref b, .ref ra] ∧ Mks C H x ka b low L rs cs ∧ PenM H pen ∧ ka ≠ pen ∧ H ra = some (.lst (ns.map V.int)) ∧ ra ≠ pen ∧ ns.length ≤ 900 ∧ Wths low L ns ∧
  ∀ H' : Hp, Keep pen H H' → PenM H' pen → Q (.bl true) H'
theorem seq_nt {K : PySem.W.Frag} {C2 : Addr} {m i : Nat} {T : TB} {u v : TS} {D : Ends} {σ : St} {H : Hp} (h : ∀ E : XK, (∀ cls dd H2, (PySem.W.exmOne K cls (.ref C2) = some true ∧ ∀ x, H2 x = none → u { nx := fun σ' H' => v D (σ'.set i none) H', rt := D.rt, bk := fun σ' H' => D.bk (σ'.set i none) H', ct := fun σ' H' => D.ct (σ'.set i none) H' } ((σ.set m (some .non)).set i (some (.ref x))) (upd H2 x (ExcO x cls dd))) → E cls dd H2) → T (σ.set m (some .non)) H (fun H2 => v D (σ.set m (some .non)) H2) E) : tSeq (tAsg (tC .non) (gName m)) (tSeq (tTryB K C2 i T u) v) D σ H := h _ fun _ _ _ z => z
theorem g_at {i : Nat} {v : V} {σ : St} {H : Hp} {Q : St → Hp → Prop} (h : Q (σ.set i (some v)) H) : gName i v σ H Q := h
theorem nx_at {f k c : St → Hp → Prop} {r : VK} {σ : St} {H : Hp} (h : f σ H) : ({ nx := f, rt := r, bk := k, ct := c } : Ends).nx σ H := h
theorem alk_sm {K : PySem.W.Frag} {H : Hp} {p q : Addr} {xs : List V} (h : SqT K H p xs) (h' : SqT K H q xs) (f : xs.all flatV = true) : Alk K H 1 (.ref p) (.ref q) := by
  refine .tup h h' rfl fun j x y h1 h2 => ?_
  rw [h1] at h2
  obtain rfl := Option.some.inj h2
  exact .flat (List.all_eq_true.mp f _ (List.mem_of_getElem? h1))
section
variable {P : Program} {w : World} {K : PySem.W.Frag} {mg : Str → Option Value} {base : Heap}
theorem ok__law_row_refused (d : Def K mg "_law_row_refused" s__law_row_refused ["_law_makes", "_law_pen_here", "_law_bounds_here", "_law_row_here"]) (z : Bz K mg cLeastError cBeyond cNoBounds cNoRow cNoSuch cNoText cTooMany cMakes cInit) (c__law_class : Cal P w K mg base k__law_class "_law_class" ["_law_caught"] (sp__law_class K cBeyond cNoSuch cTooMany)) (c__law_off : Cal P w K mg base k__law_off "_law_off" ["_law_pen_here", "_law_low", "_law_top"] (sp__law_off K)) (c__law_take : Cal P w K mg base k__law_take "_law_take" ["_law_pen_here", "_law_size"] (sp__law_take K)) (mc1_M_of_row : MCalX P w K mg base k_M_of_row cMakes "of_row" ["self", "row"] (sp1_M_of_row K cMakes cBeyond)) : Cal P w K mg base k__law_row_refused "_law_row_refused" ["_law_makes", "_law_pen_here", "_law_bounds_here", "_law_row_here"] (sp__law_row_refused K cMakes) := by
  have sc := sc__law_row_refused
  refine d.cal fun f fd F => F.ok sc (fun vs H Q E h => ?_) (fun cdv A outer s H vs Q E hr h => ?_)
  · obtain ⟨x, ka, pen, b, ra, low, L, rs, cs, ns, rfl, _⟩ := h
    rfl
  obtain ⟨x, ka, pen, b, ra, low, L, rs, cs, ns, rfl, M0, P0, nkp, era, nrp, hns, hw, q⟩ := h
  refine ⟨_, (pss_cons (ps_set (i := 4) sc.nd rfl (Or.inl rfl) (pe_fn c__law_off (hr.mono (by decide)) (by rfl) (pa_cons (pv 1) (pa_cons (pe_ix ix_tup (pv 2) pe_int (fun _ _ => rfl)) (pa_cons (pe_op op_sub (pe_op op_add (pe_ix ix_tup (pv 2) pe_int (fun _ _ => rfl)) (pe_op op_shl pe_int (pe_ix ix_tup (pv 2) pe_int (fun _ _ => rfl)))) pe_int) pa_nil)))))
 (pss_cons (ps_set (i := 5) sc.nd rfl (Or.inl rfl) (pe_fn c__law_take (hr.mono (by decide)) (by rfl) (pa_cons (pv 1) (pa_cons (pe_op op_add (pe_callB call_len_seq (by rfl) z.len_ bt_len (pa_cons (pv 3) pa_nil)) pe_int) pa_nil))))
 (pss_cons (ps_set (i := 6) sc.nd rfl (Or.inl rfl) pe_non)
 (pss_cons (ps_tryB (i := 7) rfl rfl (tb_mth mc1_M_of_row (hr.mono (by decide)) (pv 0) (pa_cons (pe_op op_cat (pe_op op_cat (pe_op op_cat (pe_slice sl_list (pv 3) po_none (po_some (pv 5))) (pe_lst (pa_cons (pv 4) pa_nil))) (pe_slice sl_list (pv 3) (po_some (pv 5)) po_none)) (pe_lst (pa_cons (pe_op op_sub (pe_ix ix_tup (pv 2) pe_int (fun _ _ => rfl)) pe_int) pa_nil))) pa_nil)) (by rfl) z.m_LeastError sc.nd rfl rfl (fun _ =>
  (pss_one (ps_set (i := 6) sc.nd rfl (Or.inl rfl) (pv 7)))))
 (pss_one (ps_ret (pe_cmpR (op_eqAlk hr.units) (pe_fn c__law_class (hr.mono (by decide)) (by rfl) (pa_cons (pv 6) pa_nil)) (pe_tup (pa_cons pe_str (pa_cons (pv 4) pa_nil))) (nomark _)))))))), ?_⟩
  have hL := M0.hL
  have hb := M0.hb
  have hp2 := p2pos L
  have hq2 := p2le hL
  have hlm : (ns.map V.int).length = ns.length := List.length_map _
  obtain ⟨pc, hpc⟩ := P0.at
  refine ⟨_, rfl, _, rfl, b, _, _, _, rfl, rfl, SqT.of hb, rfl, _, rfl, b, _, _, _, rfl, rfl, SqT.of hb, rfl, _, rfl, b, _, _, _, rfl, rfl, SqT.of hb, rfl, _, _, rfl, rfl, ⟨by omega, by omega, by decide⟩, _, _, rfl, rfl, _, _, rfl, rfl, pen, low, _, rfl, P0, fun y H1 k1 P1 h1 => ?_⟩
  rw [shlOne] at h1
  have era1 := k1 _ _ nrp era
  refine ⟨_, rfl, _, rfl, ra, _, rfl, .inl (SqL.of era1), _, _, rfl, rfl, pen, _, rfl, P1, by omega, by omega, fun av H2 k2 P2 a0 a1 => ?_⟩
  obtain ⟨pl, rfl⟩ := Int.eq_ofNat_of_zero_le a0
  rw [hlm] at a1
  have k02 := k1.trans k2
  have era2 := k2 _ _ nrp era1
  have M2 := M0.keep k02 hpc nkp
  obtain ⟨dx, hx⟩ := M2.o
  refine g_at (nx_at ?_)
  refine seq_nt fun E' hE => ?_
  refine ⟨_, rfl, x, dx, _, rfl, hx, rfl, ?_⟩
  refine ⟨_, rfl, _, rfl, _, rfl, ra, _, rfl, SqL.of era2, fun q1 hq1 => ?_⟩
  rw [cut_take]
  have t6 : Same H2 (upd H2 q1 (.lst ((ns.take pl).map V.int))) := same_new hq1 _
  have e6 : upd H2 q1 (.lst ((ns.take pl).map V.int)) q1 = some (.lst ((ns.take pl).map V.int)) := upd_same
  generalize upd H2 q1 (.lst ((ns.take pl).map V.int)) = G6 at *
  refine ⟨_, rfl, szb rfl, fun q2 hq2' => ?_⟩
  have t7 : Same G6 (upd G6 q2 (.lst [.int y])) := same_new hq2' _
  have e7 : upd G6 q2 (.lst [.int y]) q2 = some (.lst [.int y]) := upd_same
  generalize upd G6 q2 (.lst [.int y]) = G7 at *
  refine ⟨q1, q2, _, _, rfl, rfl, t7 _ _ e6, e7, szB (by simp only [List.length_map, List.length_take, List.length_cons, List.length_nil]; omega), fun q3 hq3 => ?_⟩
  have t8 : Same G7 (upd G7 q3 (.lst ((ns.take pl).map V.int ++ [.int y]))) := same_new hq3 _
  have e8 : upd G7 q3 (.lst ((ns.take pl).map V.int ++ [.int y])) q3 = some (.lst ((ns.take pl).map V.int ++ [.int y])) := upd_same
  generalize upd G7 q3 (.lst ((ns.take pl).map V.int ++ [.int y])) = G8 at *
  have t28 : Same H2 G8 := t6.trans (t7.trans t8)
  refine ⟨_, rfl, _, rfl, _, rfl, ra, _, rfl, SqL.of (t28 _ _ era2), fun q4 hq4 => ?_⟩
  rw [cut_drop]
  have t9 : Same G8 (upd G8 q4 (.lst ((ns.drop pl).map V.int))) := same_new hq4 _
  have e9 : upd G8 q4 (.lst ((ns.drop pl).map V.int)) q4 = some (.lst ((ns.drop pl).map V.int)) := upd_same
  generalize upd G8 q4 (.lst ((ns.drop pl).map V.int)) = G9 at *
  refine ⟨q3, q4, _, _, rfl, rfl, t9 _ _ e8, e9, szB (by simp only [List.length_append, List.length_map, List.length_take, List.length_drop, List.length_cons, List.length_nil]; omega), fun q5 hq5 => ?_⟩
  have en : (ns.take pl).map V.int ++ [.int y] ++ (ns.drop pl).map V.int = (insAt ns pl y).map V.int := by unfold insAt; simp
  rw [en]
  have t10 : Same G9 (upd G9 q5 (.lst ((insAt ns pl y).map V.int))) := same_new hq5 _
  have e10 : upd G9 q5 (.lst ((insAt ns pl y).map V.int)) q5 = some (.lst ((insAt ns pl y).map V.int)) := upd_same
  generalize upd G9 q5 (.lst ((insAt ns pl y).map V.int)) = GA at *
  have t2A : Same H2 GA := t28.trans (t9.trans t10)
  refine ⟨_, rfl, b, _, _, _, rfl, rfl, SqT.of (t2A _ _ M2.hb), rfl, _, _, rfl, rfl, szb rfl, fun q6 hq6 => ?_⟩
  have t11 : Same GA (upd GA q6 (.lst [.int (low - 5)])) := same_new hq6 _
  have e11 : upd GA q6 (.lst [.int (low - 5)]) q6 = some (.lst [.int (low - 5)]) := upd_same
  generalize upd GA q6 (.lst [.int (low - 5)]) = GB at *
  have hil := ins_len ns pl y
  refine ⟨q5, q6, _, _, rfl, rfl, t11 _ _ e10, e11, szB (by simp only [List.length_map, List.length_cons, List.length_nil]; omega), fun q7 hq7 => ?_⟩
  have en2 : (insAt ns pl y).map V.int ++ [.int (low - 5)] = (insAt ns pl y ++ [low - 5]).map V.int := by simp
  rw [en2]
  have t12 : Same GB (upd GB q7 (.lst ((insAt ns pl y ++ [low - 5]).map V.int))) := same_new hq7 _
  have e12 : upd GB q7 (.lst ((insAt ns pl y ++ [low - 5]).map V.int)) q7 = some (.lst ((insAt ns pl y ++ [low - 5]).map V.int)) := upd_same
  generalize upd GB q7 (.lst ((insAt ns pl y ++ [low - 5]).map V.int)) = GC at *
  have t2C : Same H2 GC := t2A.trans (t11.trans t12)
  have hlt : (ns.take pl).length = pl := by rw [List.length_take]; omega
  have hfind : (insAt ns pl y ++ [low - 5]).find? (outB low L) = some y := by
    refine find_at _ pl y (fun v hv => ?_) ?_ ?_
    · unfold insAt at hv
      rw [List.append_assoc, List.take_append_of_le_length (by omega)] at hv
      exact outB_not.mpr (hw v (List.mem_of_mem_take (List.mem_of_mem_take hv)))
    · unfold insAt
      rw [List.append_assoc, List.getElem?_append_right (by omega), hlt, Nat.sub_self]
      rfl
    · cases e : outB low L y with
      | true => rfl
      | false =>
        have := outB_not.mp e
        omega
  refine ⟨x, ka, b, q7, low, L, rs, cs, _, rfl, M2.same t2C, SqL.of e12, by rw [List.length_append, hil]; show ns.length + 1 + 1 ≤ 1000; omega, .inl ⟨y, hfind, fun d1 H' s' hd => hE _ _ _ ⟨z.exL, fun u hu => ?_⟩⟩⟩
  have s3 : Same H' (upd H' u (ExcO u (.ref cBeyond) (some d1))) := same_new hu _
  have e3 : upd H' u (ExcO u (.ref cBeyond) (some d1)) u = some (ExcO u (.ref cBeyond) (some d1)) := upd_same
  generalize upd H' u (ExcO u (.ref cBeyond) (some d1)) = H3 at *
  refine ⟨_, rfl, _, rfl, u, "beyond", y, rfl, .inr (.inr ⟨rfl, z.ecl, d1, e3, s3 _ _ hd⟩), fun p H4 s4 hp => ?_⟩
  refine ⟨_, rfl, szb rfl, fun p2 hp2' => ?_⟩
  have s5 := same_new hp2' (.tup [.str "beyond", .int y])
  have sA : Same H2 _ := t2C.trans (s'.trans (s3.trans (s4.trans s5)))
  exact ⟨1, p, p2, rfl, rfl, alk_sm (SqT.of (s5 _ _ hp)) (SqT.of upd_same) rfl, by decide, q _ (k02.trans (Keep.same sA)) (P2.same sA)⟩
end
/-! ### the law -/
theorem rep_map (low : Int) : ∀ n : Nat, (List.replicate n [V.int low]).flatten = (List.replicate n low).map V.int
  | 0 => rfl
  | n + 1 => by rw [List.replicate_succ, List.replicate_succ, List.flatten_cons, rep_map low n]; rfl
theorem rep_in {low : Int} {L n : Nat} (h : (0 : Int) < 2 ^ L) : Wths low L (List.replicate n low) := fun x hx => by
  rw [List.eq_of_mem_replicate hx]
  omega
theorem ifB {b : Bool} {A C : Prop} (hb : b = false) (h : C) : if b = true then A else C := by
  rw [hb]
  exact h
theorem ifA {b : Bool} {A C : Prop} (hb : b = true) (h : A) : if b = true then A else C := by
  rw [hb]
  exact h
theorem nde {α : Type} [DecidableEq α] {x y : α} (h : x = y) : (!decide (x = y)) = false := by
  rw [decide_eq_true h]
  rfl
abbrev k_law : Nat := 60
abbrev sp_law (K : PySem.W.Frag) : Sp := spLaw K
section
variable {P : Program} {w : World} {K : PySem.W.Frag} {mg : Str → Option Value} {base : Heap}
theorem ok_law (z : Bz K mg cLeastError cBeyond cNoBounds cNoRow cNoSuch cNoText cTooMany cMakes cInit) (ic_Makes : ICal P w K mg base k_I_Makes cMakes ["self", "bounds"] (sp_I_Makes K cMakes)) (mc_M_came_of : MCal P w K mg base k_M_came_of cMakes "came_of" ["self", "make"] (sp_M_came_of K cMakes)) (mc_M_joined : MCal P w K mg base k_M_joined cMakes "joined" ["self", "one", "other"] (sp_M_joined K cMakes)) (mc_M_many : MCal P w K mg base k_M_many cMakes "many" ["self"] (sp_M_many K cMakes)) (mc_M_of_row : MCal P w K mg base k_M_of_row cMakes "of_row" ["self", "row"] (sp_M_of_row K cMakes)) (mc_M_put_in : MCal P w K mg base k_M_put_in cMakes "put_in" ["self", "make", "place", "number"] (sp_M_put_in K cMakes)) (mc_M_row : MCal P w K mg base k_M_row cMakes "row" ["self", "make"] (sp_M_row K cMakes)) (c__law_bounds : Cal P w K mg base k__law_bounds "_law_bounds" ["_law_pen_here"] (sp__law_bounds K)) (c__law_case : Cal P w K mg base k__law_case "_law_case" ["_law_pen_here", "_law_bounds_here", "_law_many", "_law_row_here"] (sp__law_case K)) (c__law_done : Cal P w K mg base k__law_done "_law_done" ["_law_makes", "_law_way", "_law_make", "_law_first", "_law_second"] (sp__law_done K cMakes)) (c__law_pen : Cal P w K mg base k__law_pen "_law_pen" ["_law_script", "_law_k"] (sp__law_pen K)) (c__law_row : Cal P w K mg base k__law_row "_law_row" ["_law_pen_here", "_law_bounds_here", "_law_longest"] (sp__law_row K)) (c__law_row_refused : Cal P w K mg base k__law_row_refused "_law_row_refused" ["_law_makes", "_law_pen_here", "_law_bounds_here", "_law_row_here"] (sp__law_row_refused K cMakes)) (c__law_take : Cal P w K mg base k__law_take "_law_take" ["_law_pen_here", "_law_size"] (sp__law_take K)) : ∀ (f : Addr) (fd : FuncData), Fun K "law" "law" s_law f fd → FnOk P w K mg base CX0 k_law f fd ["_law_script"] (sp_law K) := by
  have sc := sc_law
  intro f fd F
  refine F.ok sc (fun vs H Q E h => ?_) (fun cdv A outer s H vs Q E hr h => ?_)
  · obtain ⟨a, ns, rfl, _⟩ := h
    rfl
  obtain ⟨a, scs, rfl, hS, h63, hO, q⟩ := h
  refine ⟨_, (pss_cons (ps_set (i := 1) sc.nd rfl (Or.inl rfl) (pe_fn c__law_pen (hr.mono (by decide)) (by rfl) (pa_cons (pv 0) (pa_cons pe_int pa_nil))))
 (pss_cons (ps_set (i := 2) sc.nd rfl (Or.inl rfl) (pe_fn c__law_bounds (hr.mono (by decide)) (by rfl) (pa_cons (pv 1) pa_nil)))
 (pss_cons (ps_set (i := 3) sc.nd rfl (Or.inl rfl) (pe_fn c__law_row (hr.mono (by decide)) (by rfl) (pa_cons (pe_fn c__law_pen (hr.mono (by decide)) (by rfl) (pa_cons (pv 0) (pa_cons pe_int pa_nil))) (pa_cons (pv 2) (pa_cons pe_int pa_nil)))))
 (pss_cons (ps_set (i := 4) sc.nd rfl (Or.inl rfl) (pe_mk ic_Makes (hr.mono (by decide)) (by rfl) z.m_Makes (pa_cons (pv 2) pa_nil)))
 (pss_cons (ps_expr (pe_mth mc_M_of_row (hr.mono (by decide)) (pv 4) (pa_cons (pe_callTy call_list_of (by rfl) z.list_ bt_list (pa_cons (pv 3) pa_nil)) pa_nil)))
 (pss_cons (ps_expr (pe_mth mc_M_of_row (hr.mono (by decide)) (pv 4) (pa_cons (pe_op op_rep (pe_lst (pa_cons (pe_ix ix_tup (pv 2) pe_int (fun _ _ => rfl)) pa_nil)) pe_int) pa_nil)))
 (pss_cons (ps_expr (pe_mth mc_M_joined (hr.mono (by decide)) (pv 4) (pa_cons pe_int (pa_cons pe_int pa_nil))))
 (pss_cons (ps_expr (pe_mth mc_M_joined (hr.mono (by decide)) (pv 4) (pa_cons pe_int (pa_cons pe_int pa_nil))))
 (pss_cons (ps_for PassesOwn.never rfl (pi_range1 rfl z.range_ (pa_cons (pe_fn c__law_take (hr.mono (by decide)) (by rfl) (pa_cons (pv 1) (pa_cons pe_int pa_nil))) pa_nil)) (pg_name (i := 5) sc.nd rfl (Or.inl rfl))
  (pss_cons (ps_asg (pe_fn c__law_case (hr.mono (by decide)) (by rfl) (pa_cons (pe_fn c__law_pen (hr.mono (by decide)) (by rfl) (pa_cons (pv 0) (pa_cons (pe_op op_add pe_int (pv 5)) pa_nil))) (pa_cons (pv 2) (pa_cons pe_int (pa_cons (pv 3) pa_nil))))) (pg_tup rfl (pgs_cons (pg_name (i := 6) sc.nd rfl (Or.inl rfl)) (pgs_cons (pg_name (i := 7) sc.nd rfl (Or.inl rfl)) (pgs_cons (pg_name (i := 8) sc.nd rfl (Or.inl rfl)) (pgs_cons (pg_name (i := 9) sc.nd rfl (Or.inl rfl)) (pgs_cons (pg_name (i := 10) sc.nd rfl (Or.inl rfl)) pgs_nil)))))))
 (pss_cons (ps_if (pt_cmpR (op_neAlk hr.units) (pe_fn c__law_done (hr.mono (by decide)) (by rfl) (pa_cons (pv 4) (pa_cons (pv 6) (pa_cons (pv 7) (pa_cons (pv 8) (pa_cons (pv 9) pa_nil)))))) (pv 10) (nomark _))
  (pss_one (ps_ret pe_bl))
  pss_nil)
 (pss_cons (ps_if (pt_not (pt_val (pe_fn c__law_row_refused (hr.mono (by decide)) (by rfl) (pa_cons (pv 4) (pa_cons (pe_fn c__law_pen (hr.mono (by decide)) (by rfl) (pa_cons (pv 0) (pa_cons (pe_op op_add pe_int (pv 5)) pa_nil))) (pa_cons (pv 2) (pa_cons (pv 3) pa_nil)))))))
  (pss_one (ps_ret pe_bl))
  pss_nil)
 (pss_one (ps_if (PW.pt (pw_or (pt_cmpR op_ne (pe_mth0 mc_M_many (hr.mono (by decide)) (pv 4)) pe_int (nomark _)) (pw_or (pt_cmpR (op_neL hr.units) (pe_mth mc_M_row (hr.mono (by decide)) (pv 4) (pa_cons pe_int pa_nil)) (pe_lst pa_nil) (nomark _)) (pw_or1 (pt_cmpR (op_neL hr.units) (pe_mth mc_M_row (hr.mono (by decide)) (pv 4) (pa_cons pe_int pa_nil)) (pv 3) (nomark _))))))
  (pss_one (ps_ret pe_bl))
  pss_nil))))))
 (pss_cons (ps_if (PW.pt (pw_or (pt_cmpR op_ne (pe_mth mc_M_put_in (hr.mono (by decide)) (pv 4) (pa_cons pe_int (pa_cons pe_int (pa_cons (pe_ix ix_tup (pv 2) pe_int (fun _ _ => rfl)) pa_nil)))) pe_int (nomark _)) (pw_or (pt_cmpR (op_neL hr.units) (pe_mth mc_M_came_of (hr.mono (by decide)) (pv 4) (pa_cons pe_int pa_nil)) (pe_lst (pa_cons pe_int pa_nil)) (nomark _)) (pw_or1 (pt_cmpR (op_neL hr.units) (pe_mth mc_M_row (hr.mono (by decide)) (pv 4) (pa_cons pe_int pa_nil)) (pe_op op_cat (pe_lst (pa_cons (pe_ix ix_tup (pv 2) pe_int (fun _ _ => rfl)) pa_nil)) (pv 3)) (nomark _))))))
  (pss_one (ps_ret pe_bl))
  pss_nil)
 (pss_one (ps_ret (pe_and (pe_cmpR op_eq (pe_mth mc_M_joined (hr.mono (by decide)) (pv 4) (pa_cons pe_int (pa_cons pe_int pa_nil))) pe_int (nomark _)) (pe_and (pe_cmpR (op_eqL hr.units) (pe_mth mc_M_came_of (hr.mono (by decide)) (pv 4) (pa_cons pe_int pa_nil)) (pe_lst (pa_cons pe_int (pa_cons pe_int pa_nil))) (nomark _)) (pe_one (pe_cmpR (op_eqL hr.units) (pe_mth mc_M_row (hr.mono (by decide)) (pv 4) (pa_cons pe_int pa_nil)) (pe_op op_rep (pe_lst (pa_cons (pe_ix ix_tup (pv 2) pe_int (fun _ _ => rfl)) pa_nil)) pe_int) (nomark _))))))))))))))))), ?_⟩
  have S0 : Scr K H a (scs.map V.int) := Scr.of hS hO
  refine ⟨_, rfl, a, scs, 0, rfl, hS, h63, by decide, by decide, fun pen H1 hpen s1 P1 => ?_⟩
  have S1 := S0.same s1
  refine ⟨_, rfl, pen, rfl, P1, fun b low L H2 k2 P2 hb hL lo0 lo1 => ?_⟩
  have S2 := P1.scr k2 S1
  have hp2 := p2pos L
  clear S0 S1 s1 k2 P1 hpen hS hO
  refine ⟨_, rfl, a, scs, 1, rfl, S2.sq, h63, by decide, by decide, fun p1 H3 hp1 s3 P3' => ?_⟩
  have n1p : p1 ≠ pen := P2.fresh hp1
  have P3 := P2.same s3
  have S3 := S2.same s3
  have hb3 := s3 _ _ hb
  refine ⟨_, rfl, p1, b, low, 8, L, rfl, P3', hb3, hL, by decide, by decide, fun ra ns H4 k4 P4' era nra hnl hw => ?_⟩
  have S4 := P3'.scr k4 S3
  have P4 : PenM H4 pen := P3.keep n1p k4
  have hb4 := k4 _ _ (P3'.ne hb3) hb3
  have nrp : ra ≠ pen := P3.fresh nra
  clear S2 S3 P2 P3 P3' hb hb3 s3 k4 hp1 nra P4' n1p
  have new : ∀ x dx, H4 x = none → H4 dx = none → dx ≠ x → ∀ (R : Hp → Prop),
      (∀ (ka : Addr) (G' : Hp), Same H4 G' → H4 ka = none → Mks cMakes G' x ka b low L [[]] [[]] → R G') →
      sp_I_Makes K cMakes (.ref x :: ([.ref b] ++ [])) (upd (upd H4 dx (.own x)) x (.ins cMakes dx [])) (fun v H2 => v = .non ∧ R H2) E0 := by
    intro x dx hx hdx hne R hq
    have s1 : Same H4 (upd (upd H4 dx (.own x)) x (.ins cMakes dx [])) := (same_new hdx _).trans (same_new (by rw [upd_ne (Ne.symm hne)]; exact hx) _)
    refine ⟨x, b, dx, low, L, rfl, upd_same, s1 _ _ hb4, hL, fun ka G' hka kx M => ⟨rfl, hq ka G' ?_ (s1.free hka) M⟩⟩
    intro c o hc
    exact kx _ _ (ne_of_none hc hx) (s1 _ _ hc)
  refine ⟨_, rfl, fun x dx0 hx0 hdx0 hne0 => new x dx0 hx0 hdx0 hne0 _ ?_⟩
  intro ka H5 s5 hka0 M5
  have S5 := S4.same s5
  have P5 := P4.same s5
  have nkp : ka ≠ pen := P4.fresh hka0
  have nrk : ra ≠ ka := ne_of_none era hka0
  have era5 := s5 _ _ era
  clear new S4 P4 s5 hka0 hx0 hdx0 hne0 hb4 era
  obtain ⟨dx, hx5⟩ := M5.o
  refine ⟨_, rfl, x, dx, _, rfl, hx5, rfl, _, rfl, ra, _, rfl, .inl (SqL.of era5), fun l hl => ?_⟩
  have s6 : Same H5 (upd H5 l (.lst (ns.map V.int))) := same_new hl _
  have e6 : upd H5 l (.lst (ns.map V.int)) l = some (.lst (ns.map V.int)) := upd_same
  generalize upd H5 l (.lst (ns.map V.int)) = H6 at *
  have M6 := M5.same s6
  refine ⟨x, ka, b, l, low, L, [[]], [[]], ns, rfl, M6, SqL.of e6, hw, by omega, by decide, fun H7 k7 M7 => ?_⟩
  obtain ⟨es6, hes6, -⟩ := M6.hk
  have S7 := (S5.same s6).keep k7 hes6
  have P7 : PenM H7 pen := (P5.same s6).keep nkp k7
  have era7 := k7 _ _ nrk (s6 _ _ era5)
  clear S5 P5 era5 s6 k7 hes6 M6 M5 hx5 e6
  obtain ⟨dx7, hx7⟩ := M7.o
  refine ⟨_, rfl, x, dx7, _, rfl, hx7, rfl, _, rfl, b, _, _, _, rfl, rfl, SqT.of M7.hb, rfl, szb rfl, fun l2 hl2 => ?_⟩
  have s8 : Same H7 (upd H7 l2 (.lst [.int low])) := same_new hl2 _
  have e8 : upd H7 l2 (.lst [.int low]) l2 = some (.lst [.int low]) := upd_same
  generalize upd H7 l2 (.lst [.int low]) = H8 at *
  refine ⟨l2, 250, _, rfl, rfl, e8, by decide, by decide, szb rfl, fun l3 hl3 => ?_⟩
  have er : (List.replicate (Int.toNat 250) [V.int low]).flatten = (List.replicate 250 low).map V.int := rep_map low 250
  rw [er]
  have s9 : Same H8 (upd H8 l3 (.lst ((List.replicate 250 low).map V.int))) := same_new hl3 _
  have e9 : upd H8 l3 (.lst ((List.replicate 250 low).map V.int)) l3 = some (.lst ((List.replicate 250 low).map V.int)) := upd_same
  generalize upd H8 l3 (.lst ((List.replicate 250 low).map V.int)) = H9 at *
  have s79 := s8.trans s9
  have M9 := M7.same s79
  have hl25 : (List.replicate 250 low).length = 250 := List.length_replicate
  have hw25 : Wths low L (List.replicate 250 low) := rep_in hp2
  generalize hR : List.replicate 250 low = R at *
  refine ⟨x, ka, b, l3, low, L, _, _, R, rfl, M9, SqL.of e9, hw25, by omega, by show 2 ≤ 99; decide, fun HA kA MA => ?_⟩
  obtain ⟨es9, hes9, -⟩ := M9.hk
  have SA := (S7.same s79).keep kA hes9
  have PA : PenM HA pen := (P7.same s79).keep nkp kA
  have eraA := kA _ _ nrk (s79 _ _ era7)
  clear S7 P7 era7 s79 s8 s9 kA hes9 M9 M7 hx7 e9 e8
  obtain ⟨dxA, hxA⟩ := MA.o
  refine ⟨_, rfl, x, dxA, _, rfl, hxA, rfl, x, ka, b, 2, 2, low, L, _, _, R, R, rfl, MA, rfl, rfl, by omega, by show 3 ≤ 99; decide, fun HB kB MB => ?_⟩
  obtain ⟨esA, hesA, -⟩ := MA.hk
  have SB := SA.keep kB hesA
  have PB : PenM HB pen := PA.keep nkp kB
  have eraB := kB _ _ nrk eraA
  clear SA PA eraA kB hesA MA hxA
  have hRR : (R ++ R).length = 500 := by rw [List.length_append]; omega
  obtain ⟨dxB, hxB⟩ := MB.o
  refine ⟨_, rfl, x, dxB, _, rfl, hxB, rfl, x, ka, b, 3, 3, low, L, _, _, R ++ R, R ++ R, rfl, MB, rfl, rfl, by omega, by show 4 ≤ 99; decide, fun HC kC MC => ?_⟩
  obtain ⟨esB, hesB, -⟩ := MB.hk
  have SC := SB.keep kC hesB
  have PC : PenM HC pen := PB.keep nkp kC
  have eraC := kC _ _ nrk eraB
  clear SB PB eraB kC hesB MB hxB
  have hR4 : (R ++ R ++ (R ++ R)).length = 1000 := by rw [List.length_append]; omega
  have MC' : Mks cMakes HC x ka b low L [[], ns, R, R ++ R, R ++ R ++ (R ++ R)] [[], [], [], [2, 2], [3, 3]] := MC
  clear MC
  refine ⟨_, rfl, pen, 9, rfl, PC, by decide, by decide, fun n HD kD PD h0 h1 => ⟨n, rfl, by omega, by omega, for_range (n := n.toNat) (fun i σ G => ∃ (v5 v6 v7 v8 v9 v10 : Option V), σ = [some (.ref a), some (.ref pen), some (.ref b), some (.ref ra), some (.ref x), v5, v6, v7, v8, v9, v10] ∧ Scr K G a (scs.map V.int) ∧
    Mks cMakes G x ka b low L [[], ns, R, R ++ R, R ++ R ++ (R ++ R)] [[], [], [], [2, 2], [3, 3]] ∧ G ra = some (.lst (ns.map V.int))) ⟨_, _, _, _, _, _, rfl, PC.scr kD SC, ?_, kD _ _ nrp eraC⟩ ?_ ?_⟩⟩
  · obtain ⟨pc, hpc⟩ := PC.at
    exact MC'.keep kD hpc nkp
  · rintro i σ G hi ⟨v5, v6, v7, v8, v9, v10, rfl, SG, MG, eG⟩
    have hi9 : i < 9 := by omega
    obtain ⟨es, hes, -⟩ := MG.hk
    refine ⟨_, rfl, _, rfl, _, _, rfl, rfl, a, scs, _, rfl, SG.sq, h63, by omega, by omega, fun dd G1 hdd t1 D1 => ?_⟩
    have nkd : ka ≠ dd := ne_of_none hes hdd
    have nrd : ra ≠ dd := ne_of_none eG hdd
    have M1 := MG.same t1
    refine ⟨_, rfl, _, rfl, dd, b, ra, low, L, [[], ns, R, R ++ R, R ++ R ++ (R ++ R)], ns, rfl, D1, M1.hb, hL, t1 _ _ eG, nrd, by omega, rfl, rfl, fun k g0 g1 => ?_, ⟨_, rfl, hR4⟩, fun t du wy j fi se wd num G2 k2 D2 et edu RF => ?_⟩
    · have hk : k = 2 ∨ k = 3 ∨ k = 4 := by omega
      rcases hk with rfl | rfl | rfl
      · exact ⟨_, rfl, by omega⟩
      · exact ⟨_, rfl, by omega⟩
      · exact ⟨_, rfl, by omega⟩
    obtain ⟨pd, hpd⟩ := D1.at
    have M2 := M1.keep k2 hpd nkd
    have S2 := D1.scr k2 (SG.same t1)
    have e2 := k2 _ _ nrd (t1 _ _ eG)
    refine ⟨t, _, rfl, SqT.of et, rfl, _, _, rfl, _, _, rfl, _, _, rfl, _, _, rfl, _, _, rfl, rfl, ?_⟩
    refine ⟨_, rfl, _, rfl, _, rfl, _, rfl, _, rfl, x, ka, b, wy, j, fi, se, low, L, _, _, wd, num, rfl, M2, RF, fun p G3 s3 ep => ?_⟩
    refine ⟨_, rfl, 1, p, du, rfl, rfl, alk_sm (SqT.of ep) (SqT.of (s3 _ _ edu)) rfl, by decide, false, rfl, iteF ?_⟩
    have M3 := M2.same s3
    have S3 := S2.same s3
    have e3 := s3 _ _ e2
    refine ⟨_, rfl, _, rfl, _, rfl, _, _, rfl, rfl, a, scs, _, rfl, S3.sq, h63, by omega, by omega, fun dd2 G4 hdd2 t4 D4 => ?_⟩
    obtain ⟨es3, hes3, -⟩ := M3.hk
    have nkd2 : ka ≠ dd2 := ne_of_none hes3 hdd2
    have nrd2 : ra ≠ dd2 := ne_of_none e3 hdd2
    have M4 := M3.same t4
    refine ⟨_, rfl, _, rfl, x, ka, dd2, b, ra, low, L, _, _, ns, rfl, M4, D4, nkd2, t4 _ _ e3, nrd2, by omega, hw, fun G5 k5 D5 => ⟨true, rfl, iteF ?_⟩⟩
    obtain ⟨pd4, hpd4⟩ := D4.at
    have M5 := M4.keep k5 hpd4 nkd2
    have S5 := D4.scr k5 (S3.same t4)
    have e5 := k5 _ _ nrd2 (t4 _ _ e3)
    obtain ⟨dx5, hx5⟩ := M5.o
    refine ⟨_, rfl, x, dx5, _, rfl, hx5, rfl, x, ka, b, low, L, _, _, rfl, M5, rfl, _, rfl, ifB (nde rfl) ?_⟩
    refine ⟨_, rfl, x, dx5, _, rfl, hx5, rfl, x, ka, b, 0, low, L, _, _, [], rfl, M5, rfl, fun G6 D6 s6 e6 n6 => ⟨szb rfl, fun z6 hz6 => ?_⟩⟩
    have s7 := same_new hz6 (.lst [])
    have s57 := s6.trans s7
    refine ⟨D6, z6, [], [], rfl, rfl, SqL.of (s7 _ _ e6), SqL.of upd_same, _, rfl, ifB (nde rfl) ?_⟩
    generalize upd G6 z6 (.lst []) = G7 at *
    have M7 := M5.same s57
    obtain ⟨dx7, hx7⟩ := M7.o
    refine ⟨_, rfl, x, dx7, _, rfl, hx7, rfl, x, ka, b, 1, low, L, _, _, ns, rfl, M7, rfl, fun G8 D8 s8 e8 n8 => ?_⟩
    have s58 := s57.trans s8
    refine ⟨_, rfl, D8, ra, ns, ns, rfl, rfl, SqL.of e8, SqL.of (s58 _ _ e5), _, rfl, ifB (nde rfl) ?_⟩
    exact ⟨_, _, _, _, _, _, rfl, S5.same s58, M5.same s58, s58 _ _ e5⟩
  · rintro σ G ⟨v5, v6, v7, v8, v9, v10, rfl, SG, MG, eG⟩
    obtain ⟨dx, hx⟩ := MG.o
    obtain ⟨es, hes, -⟩ := MG.hk
    refine ⟨_, rfl, x, dx, _, rfl, hx, rfl, _, rfl, b, _, _, _, rfl, rfl, SqT.of MG.hb, rfl, x, ka, b, 1, 0, low, low, L, _, _, ns, rfl, MG, rfl, Nat.zero_le _, by omega, by omega, by omega, by show 5 ≤ 99; decide, fun G1 k1 M1 => ⟨rfl, _, rfl, ifB (nde rfl) ?_⟩⟩
    have e1 := k1 _ _ nrk eG
    obtain ⟨dx1, hx1⟩ := M1.o
    refine ⟨_, rfl, x, dx1, _, rfl, hx1, rfl, x, ka, b, 5, low, L, _, _, [1], rfl, M1, rfl, fun G2 D2 s2 e2 n2 => ⟨szb rfl, fun z2 hz2 => ?_⟩⟩
    have s3 := same_new hz2 (.lst [.int 1])
    have s13 := s2.trans s3
    refine ⟨D2, z2, [1], [1], rfl, rfl, SqL.of (s3 _ _ e2), SqL.of upd_same, _, rfl, ifB (nde rfl) ?_⟩
    generalize upd G2 z2 (.lst [.int 1]) = G3 at *
    have M3 := M1.same s13
    obtain ⟨dx3, hx3⟩ := M3.o
    refine ⟨_, rfl, x, dx3, _, rfl, hx3, rfl, x, ka, b, 5, low, L, _, _, insAt ns 0 low, rfl, M3, rfl, fun G4 D4 s4 e4 n4 => ?_⟩
    refine ⟨_, rfl, b, _, _, _, rfl, rfl, SqT.of (s4 _ _ M3.hb), rfl, szb rfl, fun z5 hz5 => ?_⟩
    have s5 := same_new hz5 (.lst [.int low])
    have e5 : upd G4 z5 (.lst [.int low]) z5 = some (.lst [.int low]) := upd_same
    generalize upd G4 z5 (.lst [.int low]) = G5 at *
    have s35 := s4.trans s5
    refine ⟨_, rfl, z5, ra, _, _, rfl, rfl, e5, s35 _ _ (s13 _ _ e1), szB (by simp only [List.length_map, List.length_cons, List.length_nil]; omega), fun z6 hz6 => ?_⟩
    have s6 := same_new hz6 (.lst ([.int low] ++ ns.map V.int))
    refine ⟨D4, z6, insAt ns 0 low, low :: ns, rfl, rfl, SqL.of (s6 _ _ (s5 _ _ e4)), SqL.of upd_same, _, rfl, ifB (nde rfl) ?_⟩
    generalize upd G5 z6 (.lst ([.int low] ++ ns.map V.int)) = G6 at *
    have s36 := s35.trans s6
    have M6 := M3.same s36
    obtain ⟨dx6, hx6⟩ := M6.o
    refine ⟨_, rfl, x, dx6, _, rfl, hx6, rfl, x, ka, b, 4, 0, low, L, _, _, R ++ R ++ (R ++ R), [], rfl, M6, rfl, rfl, by rw [hR4]; decide, by show 6 ≤ 99; decide, fun G7 k7 M7 => ?_⟩
    refine ⟨rfl, _, rfl, ifA (decide_eq_true rfl) ?_⟩
    obtain ⟨dx7, hx7⟩ := M7.o
    refine ⟨_, rfl, x, dx7, _, rfl, hx7, rfl, x, ka, b, 6, low, L, _, _, [4, 0], rfl, M7, rfl, fun G8 D8 s8 e8 n8 => ⟨szb rfl, fun z8 hz8 => ?_⟩⟩
    have s9 := same_new hz8 (.lst [.int 4, .int 0])
    refine ⟨D8, z8, [4, 0], [4, 0], rfl, rfl, SqL.of (s9 _ _ e8), SqL.of upd_same, _, rfl, ifA (decide_eq_true rfl) ?_⟩
    generalize upd G8 z8 (.lst [.int 4, .int 0]) = G9 at *
    have M9 := M7.same (s8.trans s9)
    obtain ⟨dx9, hx9⟩ := M9.o
    refine ⟨_, rfl, x, dx9, _, rfl, hx9, rfl, x, ka, b, 2, low, L, _, _, R, rfl, M9, rfl, fun GA DA sA eA nA => ?_⟩
    refine ⟨_, rfl, b, _, _, _, rfl, rfl, SqT.of (sA _ _ M9.hb), rfl, szb rfl, fun zB hzB => ?_⟩
    have sB := same_new hzB (.lst [.int low])
    refine ⟨zB, 250, _, rfl, rfl, upd_same, by decide, by decide, szb rfl, fun zC hzC => ?_⟩
    have sC := same_new hzC (.lst (List.replicate (Int.toNat 250) [V.int low]).flatten)
    refine ⟨DA, zC, R, R, rfl, rfl, SqL.of (sC _ _ (sB _ _ eA)), SqL.of (by rw [er]; exact upd_same), ?_⟩
    rw [decide_eq_true rfl]
    exact q _
end
theorem all_ok {P : Program} {w : World} {K : PySem.W.Frag} {mg : Str → Option Value} {base : Heap} (z : Bz K mg cLeastError cBeyond cNoBounds cNoRow cNoSuch cNoText cTooMany cMakes cInit)
    (d_many_worths : Def K mg "many_worths" s_many_worths ["levels"])
    (d_top_of : Def K mg "top_of" s_top_of ["bounds"])
    (d_where : Def K mg "where" s_where ["bounds", "number"])
    (d_way_of : Def K mg "way_of" s_way_of ["bounds", "number"])
    (d_ahead : Def K mg "ahead" s_ahead ["marks", "mark", "place"])
    (d_grown : Def K mg "grown" s_grown ["least", "many", "row"])
    (d_tree_of : Def K mg "tree_of" s_tree_of ["bounds", "row"])
    (d_half_of : Def K mg "half_of" s_half_of ["tree", "mark"])
    (d_size_of : Def K mg "size_of" s_size_of ["tree"])
    (d_merged : Def K mg "merged" s_merged ["marks", "lower", "upper"])
    (d_row_from : Def K mg "row_from" s_row_from ["least", "many", "tree"])
    (d_row_of : Def K mg "row_of" s_row_of ["bounds", "tree"])
    (d_number_at : Def K mg "number_at" s_number_at ["bounds", "tree", "place"])
    (d_with_half : Def K mg "with_half" s_with_half ["marks", "tree", "turn", "half"])
    (d_with_way : Def K mg "with_way" s_with_way ["tree", "way", "place"])
    (d_put_in : DefA K mg "put_in_changes" "put_in" s_put_in ["bounds", "tree", "place", "number"])
    (d_without : Def K mg "without" s_without ["tree", "place"])
    (d_taken_out : DefA K mg "taken_out_changes" "taken_out" s_taken_out ["bounds", "tree", "place"])
    (d_set_at : DefA K mg "set_at_changes" "set_at" s_set_at ["bounds", "tree", "place", "number"])
    (d_cut_out : DefA K mg "cut_out_joins" "cut_out" s_cut_out ["stretch"])
    (d_joined : DefA K mg "joined_joins" "joined" s_joined ["one", "other"])
    (d_turned : DefA K mg "turned_joins" "turned" s_turned ["tree"])
    (d_flipped : DefA K mg "flipped_joins" "flipped" s_flipped ["tree"])
    (d_not_too_many : Def K mg "not_too_many" s_not_too_many ["tree"])
    (d__law_pen : Def K mg "_law_pen" s__law_pen ["_law_script", "_law_k"])
    (d__law_mixed : Def K mg "_law_mixed" s__law_mixed ["_law_pen_here"])
    (d__law_take : Def K mg "_law_take" s__law_take ["_law_pen_here", "_law_size"])
    (d__law_bounds : Def K mg "_law_bounds" s__law_bounds ["_law_pen_here"])
    (d__law_row : Def K mg "_law_row" s__law_row ["_law_pen_here", "_law_bounds_here", "_law_longest"])
    (d__law_class : Def K mg "_law_class" s__law_class ["_law_caught"])
    (d__law_off : Def K mg "_law_off" s__law_off ["_law_pen_here", "_law_low", "_law_top"])
    (d__law_done : Def K mg "_law_done" s__law_done ["_law_makes", "_law_way", "_law_make", "_law_first", "_law_second"])
    (d__law_stretch : Def K mg "_law_stretch" s__law_stretch ["_law_pen_here", "_law_many"])
    (d__law_case : Def K mg "_law_case" s__law_case ["_law_pen_here", "_law_bounds_here", "_law_many", "_law_row_here"])
    (d__law_row_refused : Def K mg "_law_row_refused" s__law_row_refused ["_law_makes", "_law_pen_here", "_law_bounds_here", "_law_row_here"])
    : ∀ (f : Addr) (fd : FuncData), Fun K "law" "law" s_law f fd → FnOk P w K mg base CX0 k_law f fd ["_law_script"] (sp_law K) := by
  have c_many_worths : Cal P w K mg base k_many_worths "many_worths" ["levels"] (sp_many_worths K) := ok_many_worths d_many_worths z 
  have c_top_of : Cal P w K mg base k_top_of "top_of" ["bounds"] (sp_top_of K) := ok_top_of d_top_of z c_many_worths
  have c_where : Cal P w K mg base k_where "where" ["bounds", "number"] (sp_where K) := ok_where d_where z c_top_of
  have c1_way_of : CalX P w K mg base k_way_of "way_of" ["bounds", "number"] (sp1_way_of K cBeyond) := okx_way_of d_way_of z c_many_worths c_where
  have c_way_of : Cal P w K mg base k_way_of "way_of" ["bounds", "number"] (sp_way_of K) := ok_way_of c1_way_of
  have c_ahead : Cal P w K mg base k_ahead "ahead" ["marks", "mark", "place"] (sp_ahead K) := ok_ahead d_ahead z 
  have c_grown : Cal P w K mg base k_grown "grown" ["least", "many", "row"] (sp_grown K) := ok_grown d_grown z 
  have c1_tree_of : CalX P w K mg base k_tree_of "tree_of" ["bounds", "row"] (sp1_tree_of K cBeyond) := okx_tree_of d_tree_of z c_grown c_many_worths c_where
  have c_tree_of : Cal P w K mg base k_tree_of "tree_of" ["bounds", "row"] (sp_tree_of K) := ok_tree_of c1_tree_of
  have c_half_of : Cal P w K mg base k_half_of "half_of" ["tree", "mark"] (sp_half_of K) := ok_half_of d_half_of z 
  have c_size_of : Cal P w K mg base k_size_of "size_of" ["tree"] (sp_size_of K) := ok_size_of d_size_of z 
  have c_merged : Cal P w K mg base k_merged "merged" ["marks", "lower", "upper"] (sp_merged K) := ok_merged d_merged z 
  have c_row_from : Cal P w K mg base k_row_from "row_from" ["least", "many", "tree"] (sp_row_from K) := ok_row_from d_row_from z c_merged
  have c_row_of : Cal P w K mg base k_row_of "row_of" ["bounds", "tree"] (sp_row_of K) := ok_row_of d_row_of z c_many_worths c_row_from
  have c1_number_at : CalX P w K mg base k_number_at "number_at" ["bounds", "tree", "place"] (sp1_number_at K cNoSuch) := okx_number_at d_number_at z c_ahead c_half_of c_many_worths c_size_of
  have c_number_at : Cal P w K mg base k_number_at "number_at" ["bounds", "tree", "place"] (sp_number_at K) := ok_number_at c1_number_at
  have c_with_half : Cal P w K mg base k_with_half "with_half" ["marks", "tree", "turn", "half"] (sp_with_half K) := ok_with_half d_with_half z c_half_of
  have c_with_way : Cal P w K mg base k_with_way "with_way" ["tree", "way", "place"] (sp_with_way K) := ok_with_way d_with_way z c_ahead c_half_of c_size_of c_with_half
  have c1_put_in : CalX P w K mg base k_put_in "put_in_changes" ["bounds", "tree", "place", "number"] (sp1_put_in K cNoSuch cBeyond) := okx_put_in d_put_in z c_size_of c_with_way c1_way_of
  have c_put_in : Cal P w K mg base k_put_in "put_in_changes" ["bounds", "tree", "place", "number"] (sp_put_in K) := ok_put_in c1_put_in
  have c_without : Cal P w K mg base k_without "without" ["tree", "place"] (sp_without K) := ok_without d_without z c_ahead c_half_of c_size_of c_with_half
  have c1_taken_out : CalX P w K mg base k_taken_out "taken_out_changes" ["bounds", "tree", "place"] (sp1_taken_out K cNoSuch) := okx_taken_out d_taken_out z c_without c1_number_at
  have c_taken_out : Cal P w K mg base k_taken_out "taken_out_changes" ["bounds", "tree", "place"] (sp_taken_out K) := ok_taken_out c1_taken_out
  have c1_set_at : CalX P w K mg base k_set_at "set_at_changes" ["bounds", "tree", "place", "number"] (sp1_set_at K cNoSuch cBeyond) := okx_set_at d_set_at z c1_put_in c1_taken_out
  have c_set_at : Cal P w K mg base k_set_at "set_at_changes" ["bounds", "tree", "place", "number"] (sp_set_at K) := ok_set_at c1_set_at
  have c_cut_out : Cal P w K mg base k_cut_out "cut_out_joins" ["stretch"] (sp_cut_out K) := ok_cut_out d_cut_out z 
  have c_joined : Cal P w K mg base k_joined "joined_joins" ["one", "other"] (sp_joined K) := ok_joined d_joined z 
  have c_turned : Cal P w K mg base k_turned "turned_joins" ["tree"] (sp_turned K) := ok_turned d_turned z 
  have c_flipped : Cal P w K mg base k_flipped "flipped_joins" ["tree"] (sp_flipped K) := ok_flipped d_flipped z 
  have c1_not_too_many : CalX P w K mg base k_not_too_many "not_too_many" ["tree"] (sp1_not_too_many K cTooMany) := okx_not_too_many d_not_too_many z c_size_of
  have c_not_too_many : Cal P w K mg base k_not_too_many "not_too_many" ["tree"] (sp_not_too_many K) := ok_not_too_many c1_not_too_many
  have mc_M_keep : MCal P w K mg base k_M_keep cMakes "keep" ["self", "tree", "sources"] (sp_M_keep K cMakes) := ok_M_keep z 
  have ic_Makes : ICal P w K mg base k_I_Makes cMakes ["self", "bounds"] (sp_I_Makes K cMakes) := ok_I_Makes z mc_M_keep
  have mc1_M_found : MCalX P w K mg base k_M_found cMakes "found" ["self", "make"] (sp1_M_found K cMakes cNoSuch) := okx_M_found z 
  have mc_M_found : MCal P w K mg base k_M_found cMakes "found" ["self", "make"] (sp_M_found K cMakes) := ok_M_found mc1_M_found
  have mc1_M_tree : MCalX P w K mg base k_M_tree cMakes "tree" ["self", "make"] (sp1_M_tree K cMakes cNoSuch) := okx_M_tree z mc1_M_found
  have mc_M_tree : MCal P w K mg base k_M_tree cMakes "tree" ["self", "make"] (sp_M_tree K cMakes) := ok_M_tree mc1_M_tree
  have mc1_M_stretch : MCalX P w K mg base k_M_stretch cMakes "stretch" ["self", "make", "start", "end"] (sp1_M_stretch K cMakes cNoSuch) := okx_M_stretch z c_size_of mc1_M_tree
  have mc_M_stretch : MCal P w K mg base k_M_stretch cMakes "stretch" ["self", "make", "start", "end"] (sp_M_stretch K cMakes) := ok_M_stretch mc1_M_stretch
  have mc1_M_of_row : MCalX P w K mg base k_M_of_row cMakes "of_row" ["self", "row"] (sp1_M_of_row K cMakes cBeyond) := okx_M_of_row z mc_M_keep c1_tree_of
  have mc_M_of_row : MCal P w K mg base k_M_of_row cMakes "of_row" ["self", "row"] (sp_M_of_row K cMakes) := ok_M_of_row mc1_M_of_row
  have mc1_M_put_in : MCalX P w K mg base k_M_put_in cMakes "put_in" ["self", "make", "place", "number"] (sp1_M_put_in K cMakes cNoSuch cBeyond cTooMany) := okx_M_put_in z mc_M_keep c1_not_too_many c1_put_in mc1_M_tree
  have mc_M_put_in : MCal P w K mg base k_M_put_in cMakes "put_in" ["self", "make", "place", "number"] (sp_M_put_in K cMakes) := ok_M_put_in mc1_M_put_in
  have mc1_M_taken_out : MCalX P w K mg base k_M_taken_out cMakes "taken_out" ["self", "make", "place"] (sp1_M_taken_out K cMakes cNoSuch) := okx_M_taken_out z mc_M_keep c1_taken_out mc1_M_tree
  have mc_M_taken_out : MCal P w K mg base k_M_taken_out cMakes "taken_out" ["self", "make", "place"] (sp_M_taken_out K cMakes) := ok_M_taken_out mc1_M_taken_out
  have mc1_M_set_at : MCalX P w K mg base k_M_set_at cMakes "set_at" ["self", "make", "place", "number"] (sp1_M_set_at K cMakes cNoSuch cBeyond) := okx_M_set_at z mc_M_keep c1_set_at mc1_M_tree
  have mc_M_set_at : MCal P w K mg base k_M_set_at cMakes "set_at" ["self", "make", "place", "number"] (sp_M_set_at K cMakes) := ok_M_set_at mc1_M_set_at
  have mc1_M_cut_out : MCalX P w K mg base k_M_cut_out cMakes "cut_out" ["self", "make", "start", "end"] (sp1_M_cut_out K cMakes cNoSuch) := okx_M_cut_out z mc_M_keep c_cut_out mc1_M_stretch
  have mc_M_cut_out : MCal P w K mg base k_M_cut_out cMakes "cut_out" ["self", "make", "start", "end"] (sp_M_cut_out K cMakes) := ok_M_cut_out mc1_M_cut_out
  have mc1_M_joined : MCalX P w K mg base k_M_joined cMakes "joined" ["self", "one", "other"] (sp1_M_joined K cMakes cNoSuch cTooMany) := okx_M_joined z mc_M_keep c_joined c1_not_too_many mc1_M_tree
  have mc_M_joined : MCal P w K mg base k_M_joined cMakes "joined" ["self", "one", "other"] (sp_M_joined K cMakes) := ok_M_joined mc1_M_joined
  have mc1_M_turned : MCalX P w K mg base k_M_turned cMakes "turned" ["self", "make"] (sp1_M_turned K cMakes cNoSuch) := okx_M_turned z mc_M_keep c_turned mc1_M_tree
  have mc_M_turned : MCal P w K mg base k_M_turned cMakes "turned" ["self", "make"] (sp_M_turned K cMakes) := ok_M_turned mc1_M_turned
  have mc1_M_flipped : MCalX P w K mg base k_M_flipped cMakes "flipped" ["self", "make"] (sp1_M_flipped K cMakes cNoSuch) := okx_M_flipped z mc_M_keep c_flipped mc1_M_tree
  have mc_M_flipped : MCal P w K mg base k_M_flipped cMakes "flipped" ["self", "make"] (sp_M_flipped K cMakes) := ok_M_flipped mc1_M_flipped
  have mc_M_many : MCal P w K mg base k_M_many cMakes "many" ["self"] (sp_M_many K cMakes) := ok_M_many z 
  have mc1_M_row : MCalX P w K mg base k_M_row cMakes "row" ["self", "make"] (sp1_M_row K cMakes cNoSuch) := okx_M_row z c_row_of mc1_M_tree
  have mc_M_row : MCal P w K mg base k_M_row cMakes "row" ["self", "make"] (sp_M_row K cMakes) := ok_M_row mc1_M_row
  have mc1_M_came_of : MCalX P w K mg base k_M_came_of cMakes "came_of" ["self", "make"] (sp1_M_came_of K cMakes cNoSuch) := okx_M_came_of z mc1_M_found
  have mc_M_came_of : MCal P w K mg base k_M_came_of cMakes "came_of" ["self", "make"] (sp_M_came_of K cMakes) := ok_M_came_of mc1_M_came_of
  have c__law_pen : Cal P w K mg base k__law_pen "_law_pen" ["_law_script", "_law_k"] (sp__law_pen K) := ok__law_pen d__law_pen z 
  have c__law_mixed : Cal P w K mg base k__law_mixed "_law_mixed" ["_law_pen_here"] (sp__law_mixed K) := ok__law_mixed d__law_mixed z 
  have c__law_take : Cal P w K mg base k__law_take "_law_take" ["_law_pen_here", "_law_size"] (sp__law_take K) := ok__law_take d__law_take z c__law_mixed
  have c__law_bounds : Cal P w K mg base k__law_bounds "_law_bounds" ["_law_pen_here"] (sp__law_bounds K) := ok__law_bounds d__law_bounds z c__law_take
  have c__law_row : Cal P w K mg base k__law_row "_law_row" ["_law_pen_here", "_law_bounds_here", "_law_longest"] (sp__law_row K) := ok__law_row d__law_row z c__law_take
  have c__law_class : Cal P w K mg base k__law_class "_law_class" ["_law_caught"] (sp__law_class K cBeyond cNoSuch cTooMany) := ok__law_class d__law_class z 
  have c__law_off : Cal P w K mg base k__law_off "_law_off" ["_law_pen_here", "_law_low", "_law_top"] (sp__law_off K) := ok__law_off d__law_off z c__law_take
  have c__law_done : Cal P w K mg base k__law_done "_law_done" ["_law_makes", "_law_way", "_law_make", "_law_first", "_law_second"] (sp__law_done K cMakes) := ok__law_done d__law_done z c__law_class mc1_M_came_of mc1_M_cut_out mc1_M_flipped mc1_M_joined mc1_M_put_in mc1_M_row mc1_M_set_at mc1_M_taken_out mc1_M_tree mc1_M_turned
  have c__law_stretch : Cal P w K mg base k__law_stretch "_law_stretch" ["_law_pen_here", "_law_many"] (sp__law_stretch K) := ok__law_stretch d__law_stretch z c__law_take
  have c__law_case : Cal P w K mg base k__law_case "_law_case" ["_law_pen_here", "_law_bounds_here", "_law_many", "_law_row_here"] (sp__law_case K) := ok__law_case d__law_case z c__law_off c__law_stretch c__law_take
  have c__law_row_refused : Cal P w K mg base k__law_row_refused "_law_row_refused" ["_law_makes", "_law_pen_here", "_law_bounds_here", "_law_row_here"] (sp__law_row_refused K cMakes) := ok__law_row_refused d__law_row_refused z c__law_class c__law_off c__law_take mc1_M_of_row
  exact ok_law z ic_Makes mc_M_came_of mc_M_joined mc_M_many mc_M_of_row mc_M_put_in mc_M_row c__law_bounds c__law_case c__law_done c__law_pen c__law_row c__law_row_refused c__law_take
end My
open PySem PySem.W PyProof.Rows
set_option maxRecDepth 100000 in
set_option maxHeartbeats 0 in
theorem PySem.Challenge.cw_manyleast_k54_makes_refused_holds : PySem.Challenge.rw_manyleast_k54_makes_refused.Holds := by
  refine MyQ.hd ?_
  k_fill
  refine L2.walkL (k := My.k_law) (l := PySem.Challenge.rw_manyleast_k54_makes_refused) ⟨rfl, by decide, by decide⟩ rfl rfl (fun w h Y => PySem.W.kIn_of Y) ?F
  case F =>
    intro w mg fa h KX G hmg
    have d_many_worths : L2.Def (L2.KOf KX) mg "many_worths" My.s_many_worths ["levels"] := by
      dsimp only [L2.KOf]
      refine' L2.def_mk KX G ?a ?l ?c ?k ?b
      (case a => k_is); (case l => k_is); (case c => k_is); (case k => k_is)
      (case b => exact fun _ _ _ _ _ _ us hl => match us, hl with | [_], _ => rfl)
    have d_top_of : L2.Def (L2.KOf KX) mg "top_of" My.s_top_of ["bounds"] := by
      dsimp only [L2.KOf]
      refine' L2.def_mk KX G ?a ?l ?c ?k ?b
      (case a => k_is); (case l => k_is); (case c => k_is); (case k => k_is)
      (case b => exact fun _ _ _ _ _ _ us hl => match us, hl with | [_], _ => rfl)
    have d_where : L2.Def (L2.KOf KX) mg "where" My.s_where ["bounds", "number"] := by
      dsimp only [L2.KOf]
      refine' L2.def_mk KX G ?a ?l ?c ?k ?b
      (case a => k_is); (case l => k_is); (case c => k_is); (case k => k_is)
      (case b => exact fun _ _ _ _ _ _ us hl => match us, hl with | [_, _], _ => rfl)
    have d_way_of : L2.Def (L2.KOf KX) mg "way_of" My.s_way_of ["bounds", "number"] := by
      dsimp only [L2.KOf]
      refine' L2.def_mk KX G ?a ?l ?c ?k ?b
      (case a => k_is); (case l => k_is); (case c => k_is); (case k => k_is)
      (case b => exact fun _ _ _ _ _ _ us hl => match us, hl with | [_, _], _ => rfl)
    have d_ahead : L2.Def (L2.KOf KX) mg "ahead" My.s_ahead ["marks", "mark", "place"] := by
      dsimp only [L2.KOf]
      refine' L2.def_mk KX G ?a ?l ?c ?k ?b
      (case a => k_is); (case l => k_is); (case c => k_is); (case k => k_is)
      (case b => exact fun _ _ _ _ _ _ us hl => match us, hl with | [_, _, _], _ => rfl)
    have d_grown : L2.Def (L2.KOf KX) mg "grown" My.s_grown ["least", "many", "row"] := by
      dsimp only [L2.KOf]
      refine' L2.def_mk KX G ?a ?l ?c ?k ?b
      (case a => k_is); (case l => k_is); (case c => k_is); (case k => k_is)
      (case b => exact fun _ _ _ _ _ _ us hl => match us, hl with | [_, _, _], _ => rfl)
    have d_tree_of : L2.Def (L2.KOf KX) mg "tree_of" My.s_tree_of ["bounds", "row"] := by
      dsimp only [L2.KOf]
      refine' L2.def_mk KX G ?a ?l ?c ?k ?b
      (case a => k_is); (case l => k_is); (case c => k_is); (case k => k_is)
      (case b => exact fun _ _ _ _ _ _ us hl => match us, hl with | [_, _], _ => rfl)
    have d_half_of : L2.Def (L2.KOf KX) mg "half_of" My.s_half_of ["tree", "mark"] := by
      dsimp only [L2.KOf]
      refine' L2.def_mk KX G ?a ?l ?c ?k ?b
      (case a => k_is); (case l => k_is); (case c => k_is); (case k => k_is)
      (case b => exact fun _ _ _ _ _ _ us hl => match us, hl with | [_, _], _ => rfl)
    have d_size_of : L2.Def (L2.KOf KX) mg "size_of" My.s_size_of ["tree"] := by
      dsimp only [L2.KOf]
      refine' L2.def_mk KX G ?a ?l ?c ?k ?b
      (case a => k_is); (case l => k_is); (case c => k_is); (case k => k_is)
      (case b => exact fun _ _ _ _ _ _ us hl => match us, hl with | [_], _ => rfl)
    have d_merged : L2.Def (L2.KOf KX) mg "merged" My.s_merged ["marks", "lower", "upper"] := by
      dsimp only [L2.KOf]
      refine' L2.def_mk KX G ?a ?l ?c ?k ?b
      (case a => k_is); (case l => k_is); (case c => k_is); (case k => k_is)
      (case b => exact fun _ _ _ _ _ _ us hl => match us, hl with | [_, _, _], _ => rfl)
    have d_row_from : L2.Def (L2.KOf KX) mg "row_from" My.s_row_from ["least", "many", "tree"] := by
      dsimp only [L2.KOf]
      refine' L2.def_mk KX G ?a ?l ?c ?k ?b
      (case a => k_is); (case l => k_is); (case c => k_is); (case k => k_is)
      (case b => exact fun _ _ _ _ _ _ us hl => match us, hl with | [_, _, _], _ => rfl)
    have d_row_of : L2.Def (L2.KOf KX) mg "row_of" My.s_row_of ["bounds", "tree"] := by
      dsimp only [L2.KOf]
      refine' L2.def_mk KX G ?a ?l ?c ?k ?b
      (case a => k_is); (case l => k_is); (case c => k_is); (case k => k_is)
      (case b => exact fun _ _ _ _ _ _ us hl => match us, hl with | [_, _], _ => rfl)
    have d_number_at : L2.Def (L2.KOf KX) mg "number_at" My.s_number_at ["bounds", "tree", "place"] := by
      dsimp only [L2.KOf]
      refine' L2.def_mk KX G ?a ?l ?c ?k ?b
      (case a => k_is); (case l => k_is); (case c => k_is); (case k => k_is)
      (case b => exact fun _ _ _ _ _ _ us hl => match us, hl with | [_, _, _], _ => rfl)
    have d_with_half : L2.Def (L2.KOf KX) mg "with_half" My.s_with_half ["marks", "tree", "turn", "half"] := by
      dsimp only [L2.KOf]
      refine' L2.def_mk KX G ?a ?l ?c ?k ?b
      (case a => k_is); (case l => k_is); (case c => k_is); (case k => k_is)
      (case b => exact fun _ _ _ _ _ _ us hl => match us, hl with | [_, _, _, _], _ => rfl)
    have d_with_way : L2.Def (L2.KOf KX) mg "with_way" My.s_with_way ["tree", "way", "place"] := by
      dsimp only [L2.KOf]
      refine' L2.def_mk KX G ?a ?l ?c ?k ?b
      (case a => k_is); (case l => k_is); (case c => k_is); (case k => k_is)
      (case b => exact fun _ _ _ _ _ _ us hl => match us, hl with | [_, _, _], _ => rfl)
    have d_put_in : L2.DefA (L2.KOf KX) mg "put_in_changes" "put_in" My.s_put_in ["bounds", "tree", "place", "number"] := by
      dsimp only [L2.KOf]
      refine' L2.defA_mk KX G ?a ?l ?c ?k ?b
      (case a => k_is); (case l => k_is); (case c => k_is); (case k => k_is)
      (case b => exact fun _ _ _ _ _ _ us hl => match us, hl with | [_, _, _, _], _ => rfl)
    have d_without : L2.Def (L2.KOf KX) mg "without" My.s_without ["tree", "place"] := by
      dsimp only [L2.KOf]
      refine' L2.def_mk KX G ?a ?l ?c ?k ?b
      (case a => k_is); (case l => k_is); (case c => k_is); (case k => k_is)
      (case b => exact fun _ _ _ _ _ _ us hl => match us, hl with | [_, _], _ => rfl)
    have d_taken_out : L2.DefA (L2.KOf KX) mg "taken_out_changes" "taken_out" My.s_taken_out ["bounds", "tree", "place"] := by
      dsimp only [L2.KOf]
      refine' L2.defA_mk KX G ?a ?l ?c ?k ?b
      (case a => k_is); (case l => k_is); (case c => k_is); (case k => k_is)
      (case b => exact fun _ _ _ _ _ _ us hl => match us, hl with | [_, _, _], _ => rfl)
    have d_set_at : L2.DefA (L2.KOf KX) mg "set_at_changes" "set_at" My.s_set_at ["bounds", "tree", "place", "number"] := by
      dsimp only [L2.KOf]
      refine' L2.defA_mk KX G ?a ?l ?c ?k ?b
      (case a => k_is); (case l => k_is); (case c => k_is); (case k => k_is)
      (case b => exact fun _ _ _ _ _ _ us hl => match us, hl with | [_, _, _, _], _ => rfl)
    have d_cut_out : L2.DefA (L2.KOf KX) mg "cut_out_joins" "cut_out" My.s_cut_out ["stretch"] := by
      dsimp only [L2.KOf]
      refine' L2.defA_mk KX G ?a ?l ?c ?k ?b
      (case a => k_is); (case l => k_is); (case c => k_is); (case k => k_is)
      (case b => exact fun _ _ _ _ _ _ us hl => match us, hl with | [_], _ => rfl)
    have d_joined : L2.DefA (L2.KOf KX) mg "joined_joins" "joined" My.s_joined ["one", "other"] := by
      dsimp only [L2.KOf]
      refine' L2.defA_mk KX G ?a ?l ?c ?k ?b
      (case a => k_is); (case l => k_is); (case c => k_is); (case k => k_is)
      (case b => exact fun _ _ _ _ _ _ us hl => match us, hl with | [_, _], _ => rfl)
    have d_turned : L2.DefA (L2.KOf KX) mg "turned_joins" "turned" My.s_turned ["tree"] := by
      dsimp only [L2.KOf]
      refine' L2.defA_mk KX G ?a ?l ?c ?k ?b
      (case a => k_is); (case l => k_is); (case c => k_is); (case k => k_is)
      (case b => exact fun _ _ _ _ _ _ us hl => match us, hl with | [_], _ => rfl)
    have d_flipped : L2.DefA (L2.KOf KX) mg "flipped_joins" "flipped" My.s_flipped ["tree"] := by
      dsimp only [L2.KOf]
      refine' L2.defA_mk KX G ?a ?l ?c ?k ?b
      (case a => k_is); (case l => k_is); (case c => k_is); (case k => k_is)
      (case b => exact fun _ _ _ _ _ _ us hl => match us, hl with | [_], _ => rfl)
    have d_not_too_many : L2.Def (L2.KOf KX) mg "not_too_many" My.s_not_too_many ["tree"] := by
      dsimp only [L2.KOf]
      refine' L2.def_mk KX G ?a ?l ?c ?k ?b
      (case a => k_is); (case l => k_is); (case c => k_is); (case k => k_is)
      (case b => exact fun _ _ _ _ _ _ us hl => match us, hl with | [_], _ => rfl)
    have d__law_pen : L2.Def (L2.KOf KX) mg "_law_pen" My.s__law_pen ["_law_script", "_law_k"] := by
      dsimp only [L2.KOf]
      refine' L2.def_mk KX G ?a ?l ?c ?k ?b
      (case a => k_is); (case l => k_is); (case c => k_is); (case k => k_is)
      (case b => exact fun _ _ _ _ _ _ us hl => match us, hl with | [_, _], _ => rfl)
    have d__law_mixed : L2.Def (L2.KOf KX) mg "_law_mixed" My.s__law_mixed ["_law_pen_here"] := by
      dsimp only [L2.KOf]
      refine' L2.def_mk KX G ?a ?l ?c ?k ?b
      (case a => k_is); (case l => k_is); (case c => k_is); (case k => k_is)
      (case b => exact fun _ _ _ _ _ _ us hl => match us, hl with | [_], _ => rfl)
    have d__law_take : L2.Def (L2.KOf KX) mg "_law_take" My.s__law_take ["_law_pen_here", "_law_size"] := by
      dsimp only [L2.KOf]
      refine' L2.def_mk KX G ?a ?l ?c ?k ?b
      (case a => k_is); (case l => k_is); (case c => k_is); (case k => k_is)
      (case b => exact fun _ _ _ _ _ _ us hl => match us, hl with | [_, _], _ => rfl)
    have d__law_bounds : L2.Def (L2.KOf KX) mg "_law_bounds" My.s__law_bounds ["_law_pen_here"] := by
      dsimp only [L2.KOf]
      refine' L2.def_mk KX G ?a ?l ?c ?k ?b
      (case a => k_is); (case l => k_is); (case c => k_is); (case k => k_is)
      (case b => exact fun _ _ _ _ _ _ us hl => match us, hl with | [_], _ => rfl)
    have d__law_row : L2.Def (L2.KOf KX) mg "_law_row" My.s__law_row ["_law_pen_here", "_law_bounds_here", "_law_longest"] := by
      dsimp only [L2.KOf]
      refine' L2.def_mk KX G ?a ?l ?c ?k ?b
      (case a => k_is); (case l => k_is); (case c => k_is); (case k => k_is)
      (case b => exact fun _ _ _ _ _ _ us hl => match us, hl with | [_, _, _], _ => rfl)
    have d__law_class : L2.Def (L2.KOf KX) mg "_law_class" My.s__law_class ["_law_caught"] := by
      dsimp only [L2.KOf]
      refine' L2.def_mk KX G ?a ?l ?c ?k ?b
      (case a => k_is); (case l => k_is); (case c => k_is); (case k => k_is)
      (case b => exact fun _ _ _ _ _ _ us hl => match us, hl with | [_], _ => rfl)
    have d__law_off : L2.Def (L2.KOf KX) mg "_law_off" My.s__law_off ["_law_pen_here", "_law_low", "_law_top"] := by
      dsimp only [L2.KOf]
      refine' L2.def_mk KX G ?a ?l ?c ?k ?b
      (case a => k_is); (case l => k_is); (case c => k_is); (case k => k_is)
      (case b => exact fun _ _ _ _ _ _ us hl => match us, hl with | [_, _, _], _ => rfl)
    have d__law_done : L2.Def (L2.KOf KX) mg "_law_done" My.s__law_done ["_law_makes", "_law_way", "_law_make", "_law_first", "_law_second"] := by
      dsimp only [L2.KOf]
      refine' L2.def_mk KX G ?a ?l ?c ?k ?b
      (case a => k_is); (case l => k_is); (case c => k_is); (case k => k_is)
      (case b => exact fun _ _ _ _ _ _ us hl => match us, hl with | [_, _, _, _, _], _ => rfl)
    have d__law_stretch : L2.Def (L2.KOf KX) mg "_law_stretch" My.s__law_stretch ["_law_pen_here", "_law_many"] := by
      dsimp only [L2.KOf]
      refine' L2.def_mk KX G ?a ?l ?c ?k ?b
      (case a => k_is); (case l => k_is); (case c => k_is); (case k => k_is)
      (case b => exact fun _ _ _ _ _ _ us hl => match us, hl with | [_, _], _ => rfl)
    have d__law_case : L2.Def (L2.KOf KX) mg "_law_case" My.s__law_case ["_law_pen_here", "_law_bounds_here", "_law_many", "_law_row_here"] := by
      dsimp only [L2.KOf]
      refine' L2.def_mk KX G ?a ?l ?c ?k ?b
      (case a => k_is); (case l => k_is); (case c => k_is); (case k => k_is)
      (case b => exact fun _ _ _ _ _ _ us hl => match us, hl with | [_, _, _, _], _ => rfl)
    have d__law_row_refused : L2.Def (L2.KOf KX) mg "_law_row_refused" My.s__law_row_refused ["_law_makes", "_law_pen_here", "_law_bounds_here", "_law_row_here"] := by
      dsimp only [L2.KOf]
      refine' L2.def_mk KX G ?a ?l ?c ?k ?b
      (case a => k_is); (case l => k_is); (case c => k_is); (case k => k_is)
      (case b => exact fun _ _ _ _ _ _ us hl => match us, hl with | [_, _, _, _], _ => rfl)
    have d_law : L2.Def (L2.KOf KX) mg "law" My.s_law ["_law_script"] := by
      dsimp only [L2.KOf]
      refine' L2.def_mk KX G ?a ?l ?c ?k ?b
      (case a => k_is); (case l => k_is); (case c => k_is); (case k => k_is)
      (case b => exact fun _ _ _ _ _ _ us hl => match us, hl with | [_], _ => rfl)
    obtain ⟨cLeastError, cBeyond, cNoBounds, cNoRow, cNoSuch, cNoText, cTooMany, cMakes, cInit, z⟩ : ∃ cLeastError cBeyond cNoBounds cNoRow cNoSuch cNoText cTooMany cMakes cInit : Addr, My.Bz (L2.KOf KX) mg cLeastError cBeyond cNoBounds cNoRow cNoSuch cNoText cTooMany cMakes cInit := by
      dsimp only [L2.KOf]
      refine' ⟨_, _, _, _, _, _, _, _, _, ⟨PySem.W.mg_none_of KX G ?z0, PySem.W.mg_none_of KX G ?z1, PySem.W.mg_none_of KX G ?z2, PySem.W.mg_none_of KX G ?z3, PySem.W.mg_none_of KX G ?z4, PySem.W.mg_none_of KX G ?z5, PySem.W.mg_none_of KX G ?z6, PySem.W.mg_none_of KX G ?z7, PySem.W.mg_none_of KX G ?z8, PySem.W.mg_none_of KX G ?z9, PySem.W.mg_of KX G ?m0, PySem.W.mg_of KX G ?m1, PySem.W.mg_of KX G ?m2, PySem.W.mg_of KX G ?m3, PySem.W.mg_of KX G ?m4, PySem.W.mg_of KX G ?m5, PySem.W.mg_of KX G ?m6, PySem.W.mg_of KX G ?m7, ?y0_0, ⟨_, L2.fun_mk ?il ?ic ?ik, fun us hl => match us, hl with | [_, _], _ => rfl⟩, ?y2_0, ⟨?y3_0, ?y3_1, ?y3_2, ?y3_3, ?y3_4, ?y3_5, ?y3_6, ?y3_7⟩, ⟨?y4_0, ?y4_1, ?y4_2⟩, ?y5_0, ?y6_0, ?y7_0, ?y8_0, ?y9_0, ⟨?y10_0, ?y10_1, ?y10_2, ?y10_3, ?y10_4, ?y10_5, ?y10_6, ?y10_7⟩, ?y11_0, ?y12_0, ⟨?y13_0, ?y13_1, ?y13_2, ?y13_3, ?y13_4, ?y13_5, ?y13_6, ?y13_7⟩, ?y14_0, ?y15_0, ?y16_0, ?y17_0, ?y18_0, ?y19_0, ?y20_0, ?y21_0, ?y22_0, ?y23_0, ?y24_0, ?y25_0, ?y26_0, ?y27_0, ?y28_0, ?y29_0, ?y30_0, ?y31_0, ⟨?o0_0, ?o0_1, ?o0_2, ?o0_3⟩, ⟨_, _, ⟨?my0_0, ?my0_1, ?my0_2, ?my0_3⟩, L2.fun_mk ?ml0 ?mc0 ?mk0, ?mb0⟩, ⟨_, _, ⟨?my1_0, ?my1_1, ?my1_2⟩, L2.fun_mk ?ml1 ?mc1 ?mk1, ?mb1⟩, ⟨_, _, ⟨?my2_0, ?my2_1, ?my2_2⟩, L2.fun_mk ?ml2 ?mc2 ?mk2, ?mb2⟩, ⟨_, _, ⟨?my3_0, ?my3_1, ?my3_2⟩, L2.fun_mk ?ml3 ?mc3 ?mk3, ?mb3⟩, ⟨_, _, ⟨?my4_0, ?my4_1, ?my4_2⟩, L2.fun_mk ?ml4 ?mc4 ?mk4, ?mb4⟩, ⟨_, _, ⟨?my5_0, ?my5_1, ?my5_2⟩, L2.fun_mk ?ml5 ?mc5 ?mk5, ?mb5⟩, ⟨_, _, ⟨?my6_0, ?my6_1, ?my6_2⟩, L2.fun_mk ?ml6 ?mc6 ?mk6, ?mb6⟩, ⟨_, _, ⟨?my7_0, ?my7_1, ?my7_2⟩, L2.fun_mk ?ml7 ?mc7 ?mk7, ?mb7⟩, ⟨_, _, ⟨?my8_0, ?my8_1, ?my8_2⟩, L2.fun_mk ?ml8 ?mc8 ?mk8, ?mb8⟩, ⟨_, _, ⟨?my9_0, ?my9_1, ?my9_2⟩, L2.fun_mk ?ml9 ?mc9 ?mk9, ?mb9⟩, ⟨_, _, ⟨?my10_0, ?my10_1, ?my10_2⟩, L2.fun_mk ?ml10 ?mc10 ?mk10, ?mb10⟩, ⟨_, _, ⟨?my11_0, ?my11_1, ?my11_2⟩, L2.fun_mk ?ml11 ?mc11 ?mk11, ?mb11⟩, ⟨_, _, ⟨?my12_0, ?my12_1, ?my12_2⟩, L2.fun_mk ?ml12 ?mc12 ?mk12, ?mb12⟩, ⟨_, _, ⟨?my13_0, ?my13_1, ?my13_2⟩, L2.fun_mk ?ml13 ?mc13 ?mk13, ?mb13⟩, ⟨_, _, ⟨?my14_0, ?my14_1, ?my14_2⟩, L2.fun_mk ?ml14 ?mc14 ?mk14, ?mb14⟩, ⟨_, _, ⟨?my15_0, ?my15_1, ?my15_2⟩, L2.fun_mk ?ml15 ?mc15 ?mk15, ?mb15⟩⟩⟩
      (case z0 => k_is)
      (case z1 => k_is)
      (case z2 => k_is)
      (case z3 => k_is)
      (case z4 => k_is)
      (case z5 => k_is)
      (case z6 => k_is)
      (case z7 => k_is)
      (case z8 => k_is)
      (case z9 => k_is)
      (case m0 => k_is)
      (case m1 => k_is)
      (case m2 => k_is)
      (case m3 => k_is)
      (case m4 => k_is)
      (case m5 => k_is)
      (case m6 => k_is)
      (case m7 => k_is)
      (case y0_0 => first | k_is | kernel_rfl | (unfold L2.NoAttr; first | k_is | kernel_rfl))
      (case il => first | k_is | kernel_rfl | (unfold L2.NoAttr; first | k_is | kernel_rfl))
      (case ic => first | k_is | kernel_rfl | (unfold L2.NoAttr; first | k_is | kernel_rfl))
      (case ik => first | k_is | kernel_rfl | (unfold L2.NoAttr; first | k_is | kernel_rfl))
      (case y2_0 => first | k_is | kernel_rfl | (unfold L2.NoAttr; first | k_is | kernel_rfl))
      (case y3_0 => first | k_is | kernel_rfl | (unfold L2.NoAttr; first | k_is | kernel_rfl))
      (case y3_1 => first | k_is | kernel_rfl | (unfold L2.NoAttr; first | k_is | kernel_rfl))
      (case y3_2 => first | k_is | kernel_rfl | (unfold L2.NoAttr; first | k_is | kernel_rfl))
      (case y3_3 => first | k_is | kernel_rfl | (unfold L2.NoAttr; first | k_is | kernel_rfl))
      (case y3_4 => first | k_is | kernel_rfl | (unfold L2.NoAttr; first | k_is | kernel_rfl))
      (case y3_5 => first | k_is | kernel_rfl | (unfold L2.NoAttr; first | k_is | kernel_rfl))
      (case y3_6 => first | k_is | kernel_rfl | (unfold L2.NoAttr; first | k_is | kernel_rfl))
      (case y3_7 => first | k_is | kernel_rfl | (unfold L2.NoAttr; first | k_is | kernel_rfl))
      (case y4_0 => first | k_is | kernel_rfl | (unfold L2.NoAttr; first | k_is | kernel_rfl))
      (case y4_1 => first | k_is | kernel_rfl | (unfold L2.NoAttr; first | k_is | kernel_rfl))
      (case y4_2 => first | k_is | kernel_rfl | (unfold L2.NoAttr; first | k_is | kernel_rfl))
      (case y5_0 => first | k_is | kernel_rfl | (unfold L2.NoAttr; first | k_is | kernel_rfl))
      (case y6_0 => first | k_is | kernel_rfl | (unfold L2.NoAttr; first | k_is | kernel_rfl))
      (case y7_0 => first | k_is | kernel_rfl | (unfold L2.NoAttr; first | k_is | kernel_rfl))
      (case y8_0 => first | k_is | kernel_rfl | (unfold L2.NoAttr; first | k_is | kernel_rfl))
      (case y9_0 => first | k_is | kernel_rfl | (unfold L2.NoAttr; first | k_is | kernel_rfl))
      (case y10_0 => first | k_is | kernel_rfl | (unfold L2.NoAttr; first | k_is | kernel_rfl))
      (case y10_1 => first | k_is | kernel_rfl | (unfold L2.NoAttr; first | k_is | kernel_rfl))
      (case y10_2 => first | k_is | kernel_rfl | (unfold L2.NoAttr; first | k_is | kernel_rfl))
      (case y10_3 => first | k_is | kernel_rfl | (unfold L2.NoAttr; first | k_is | kernel_rfl))
      (case y10_4 => first | k_is | kernel_rfl | (unfold L2.NoAttr; first | k_is | kernel_rfl))
      (case y10_5 => first | k_is | kernel_rfl | (unfold L2.NoAttr; first | k_is | kernel_rfl))
      (case y10_6 => first | k_is | kernel_rfl | (unfold L2.NoAttr; first | k_is | kernel_rfl))
      (case y10_7 => first | k_is | kernel_rfl | (unfold L2.NoAttr; first | k_is | kernel_rfl))
      (case y11_0 => first | k_is | kernel_rfl | (unfold L2.NoAttr; first | k_is | kernel_rfl))
      (case y12_0 => first | k_is | kernel_rfl | (unfold L2.NoAttr; first | k_is | kernel_rfl))
      (case y13_0 => first | k_is | kernel_rfl | (unfold L2.NoAttr; first | k_is | kernel_rfl))
      (case y13_1 => first | k_is | kernel_rfl | (unfold L2.NoAttr; first | k_is | kernel_rfl))
      (case y13_2 => first | k_is | kernel_rfl | (unfold L2.NoAttr; first | k_is | kernel_rfl))
      (case y13_3 => first | k_is | kernel_rfl | (unfold L2.NoAttr; first | k_is | kernel_rfl))
      (case y13_4 => first | k_is | kernel_rfl | (unfold L2.NoAttr; first | k_is | kernel_rfl))
      (case y13_5 => first | k_is | kernel_rfl | (unfold L2.NoAttr; first | k_is | kernel_rfl))
      (case y13_6 => first | k_is | kernel_rfl | (unfold L2.NoAttr; first | k_is | kernel_rfl))
      (case y13_7 => first | k_is | kernel_rfl | (unfold L2.NoAttr; first | k_is | kernel_rfl))
      (case y14_0 => first | k_is | kernel_rfl | (unfold L2.NoAttr; first | k_is | kernel_rfl))
      (case y15_0 => first | k_is | kernel_rfl | (unfold L2.NoAttr; first | k_is | kernel_rfl))
      (case y16_0 => first | k_is | kernel_rfl | (unfold L2.NoAttr; first | k_is | kernel_rfl))
      (case y17_0 => first | k_is | kernel_rfl | (unfold L2.NoAttr; first | k_is | kernel_rfl))
      (case y18_0 => first | k_is | kernel_rfl | (unfold L2.NoAttr; first | k_is | kernel_rfl))
      (case y19_0 => first | k_is | kernel_rfl | (unfold L2.NoAttr; first | k_is | kernel_rfl))
      (case y20_0 => first | k_is | kernel_rfl | (unfold L2.NoAttr; first | k_is | kernel_rfl))
      (case y21_0 => first | k_is | kernel_rfl | (unfold L2.NoAttr; first | k_is | kernel_rfl))
      (case y22_0 => first | k_is | kernel_rfl | (unfold L2.NoAttr; first | k_is | kernel_rfl))
      (case y23_0 => first | k_is | kernel_rfl | (unfold L2.NoAttr; first | k_is | kernel_rfl))
      (case y24_0 => first | k_is | kernel_rfl | (unfold L2.NoAttr; first | k_is | kernel_rfl))
      (case y25_0 => first | k_is | kernel_rfl | (unfold L2.NoAttr; first | k_is | kernel_rfl))
      (case y26_0 => first | k_is | kernel_rfl | (unfold L2.NoAttr; first | k_is | kernel_rfl))
      (case y27_0 => first | k_is | kernel_rfl | (unfold L2.NoAttr; first | k_is | kernel_rfl))
      (case y28_0 => first | k_is | kernel_rfl | (unfold L2.NoAttr; first | k_is | kernel_rfl))
      (case y29_0 => first | k_is | kernel_rfl | (unfold L2.NoAttr; first | k_is | kernel_rfl))
      (case y30_0 => first | k_is | kernel_rfl | (unfold L2.NoAttr; first | k_is | kernel_rfl))
      (case y31_0 => first | k_is | kernel_rfl | (unfold L2.NoAttr; first | k_is | kernel_rfl))
      (case o0_0 => first | k_is | kernel_rfl)
      (case o0_1 => first | k_is | kernel_rfl)
      (case o0_2 => first | k_is | kernel_rfl)
      (case o0_3 => first | k_is | kernel_rfl)
      (case my0_1 => first | k_is | kernel_rfl)
      (case my0_0 => first | k_is | kernel_rfl)
      (case my0_2 => first | k_is | kernel_rfl)
      (case my0_3 => first | k_is | kernel_rfl)
      (case ml0 => k_is); (case mc0 => k_is); (case mk0 => k_is)
      (case mb0 => exact fun us hl => match us, hl with | [_, _], _ => rfl)
      (case my1_0 => first | k_is | kernel_rfl)
      (case my1_1 => first | k_is | kernel_rfl)
      (case my1_2 => first | k_is | kernel_rfl)
      (case ml1 => k_is); (case mc1 => k_is); (case mk1 => k_is)
      (case mb1 => exact fun us hl => match us, hl with | [_, _], _ => rfl)
      (case my2_0 => first | k_is | kernel_rfl)
      (case my2_1 => first | k_is | kernel_rfl)
      (case my2_2 => first | k_is | kernel_rfl)
      (case ml2 => k_is); (case mc2 => k_is); (case mk2 => k_is)
      (case mb2 => exact fun us hl => match us, hl with | [_, _, _, _], _ => rfl)
      (case my3_0 => first | k_is | kernel_rfl)
      (case my3_1 => first | k_is | kernel_rfl)
      (case my3_2 => first | k_is | kernel_rfl)
      (case ml3 => k_is); (case mc3 => k_is); (case mk3 => k_is)
      (case mb3 => exact fun us hl => match us, hl with | [_, _, _], _ => rfl)
      (case my4_0 => first | k_is | kernel_rfl)
      (case my4_1 => first | k_is | kernel_rfl)
      (case my4_2 => first | k_is | kernel_rfl)
      (case ml4 => k_is); (case mc4 => k_is); (case mk4 => k_is)
      (case mb4 => exact fun us hl => match us, hl with | [_, _, _, _], _ => rfl)
      (case my5_0 => first | k_is | kernel_rfl)
      (case my5_1 => first | k_is | kernel_rfl)
      (case my5_2 => first | k_is | kernel_rfl)
      (case ml5 => k_is); (case mc5 => k_is); (case mk5 => k_is)
      (case mb5 => exact fun us hl => match us, hl with | [_, _, _, _], _ => rfl)
      (case my6_0 => first | k_is | kernel_rfl)
      (case my6_1 => first | k_is | kernel_rfl)
      (case my6_2 => first | k_is | kernel_rfl)
      (case ml6 => k_is); (case mc6 => k_is); (case mk6 => k_is)
      (case mb6 => exact fun us hl => match us, hl with | [_, _, _], _ => rfl)
      (case my7_0 => first | k_is | kernel_rfl)
      (case my7_1 => first | k_is | kernel_rfl)
      (case my7_2 => first | k_is | kernel_rfl)
      (case ml7 => k_is); (case mc7 => k_is); (case mk7 => k_is)
      (case mb7 => exact fun us hl => match us, hl with | [_, _], _ => rfl)
      (case my8_0 => first | k_is | kernel_rfl)
      (case my8_1 => first | k_is | kernel_rfl)
      (case my8_2 => first | k_is | kernel_rfl)
      (case ml8 => k_is); (case mc8 => k_is); (case mk8 => k_is)
      (case mb8 => exact fun us hl => match us, hl with | [_, _], _ => rfl)
      (case my9_0 => first | k_is | kernel_rfl)
      (case my9_1 => first | k_is | kernel_rfl)
      (case my9_2 => first | k_is | kernel_rfl)
      (case ml9 => k_is); (case mc9 => k_is); (case mk9 => k_is)
      (case mb9 => exact fun us hl => match us, hl with | [_], _ => rfl)
      (case my10_0 => first | k_is | kernel_rfl)
      (case my10_1 => first | k_is | kernel_rfl)
      (case my10_2 => first | k_is | kernel_rfl)
      (case ml10 => k_is); (case mc10 => k_is); (case mk10 => k_is)
      (case mb10 => exact fun us hl => match us, hl with | [_, _], _ => rfl)
      (case my11_0 => first | k_is | kernel_rfl)
      (case my11_1 => first | k_is | kernel_rfl)
      (case my11_2 => first | k_is | kernel_rfl)
      (case ml11 => k_is); (case mc11 => k_is); (case mk11 => k_is)
      (case mb11 => exact fun us hl => match us, hl with | [_, _], _ => rfl)
      (case my12_0 => first | k_is | kernel_rfl)
      (case my12_1 => first | k_is | kernel_rfl)
      (case my12_2 => first | k_is | kernel_rfl)
      (case ml12 => k_is); (case mc12 => k_is); (case mk12 => k_is)
      (case mb12 => exact fun us hl => match us, hl with | [_, _], _ => rfl)
      (case my13_0 => first | k_is | kernel_rfl)
      (case my13_1 => first | k_is | kernel_rfl)
      (case my13_2 => first | k_is | kernel_rfl)
      (case ml13 => k_is); (case mc13 => k_is); (case mk13 => k_is)
      (case mb13 => exact fun us hl => match us, hl with | [_, _, _, _], _ => rfl)
      (case my14_0 => first | k_is | kernel_rfl)
      (case my14_1 => first | k_is | kernel_rfl)
      (case my14_2 => first | k_is | kernel_rfl)
      (case ml14 => k_is); (case mc14 => k_is); (case mk14 => k_is)
      (case mb14 => exact fun us hl => match us, hl with | [_, _], _ => rfl)
      (case my15_0 => first | k_is | kernel_rfl)
      (case my15_1 => first | k_is | kernel_rfl)
      (case my15_2 => first | k_is | kernel_rfl)
      (case ml15 => k_is); (case mc15 => k_is); (case mk15 => k_is)
      (case mb15 => exact fun us hl => match us, hl with | [_, _, _], _ => rfl)
    exact L2.law_mk d_law (fun base => My.all_ok (base := base) z d_many_worths d_top_of d_where d_way_of d_ahead d_grown d_tree_of d_half_of d_size_of d_merged d_row_from d_row_of d_number_at d_with_half d_with_way d_put_in d_without d_taken_out d_set_at d_cut_out d_joined d_turned d_flipped d_not_too_many d__law_pen d__law_mixed d__law_take d__law_bounds d__law_row d__law_class d__law_off d__law_done d__law_stretch d__law_case d__law_row_refused) hmg
#print axioms PySem.Challenge.cw_manyleast_k54_makes_refused_holds
