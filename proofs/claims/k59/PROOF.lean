import PyProof.Rows.All
import Wide.All
import OpenK.AllK
import Wide.FinOn
import Lean
import PyProof.EqAt
import PyProof.EqKinds
import PyProof.TupleCall
import KE.KIntText
import PyProof.StrBlockI
import PyProof.StrBlockL
import PyProof.StrCalls
import PyProof.StrCalls2
import PyProof.FString
import PyProof.StrBlock
import PyProof.StrWalks
import PyProof.StrLawsTight
import KE.KTryMore
import KE.KRevSl
import KE.KRevIter
import PyProof.TupleOfGen
import KE.KUnpack
import KE.KTab
import KE.KTabLook
import PyProof.Rows.ZipGen
import PyProof.ZipIter
import PySem.Challenge.RW_manyleast_k59_a_desk_makes
set_option Elab.async false
set_option linter.all false
set_option maxRecDepth 100000
set_option maxHeartbeats 4000000
def PySem.W.Fast.tw7674292497303504648 : Unit := ()
def PySem.W.Fast.tw18248866616017575366 : Unit := ()
def PySem.W.Fast.tw11735612310794570464 : Unit := ()
def PySem.W.Fast.tw4571165221459672837 : Unit := ()
def PySem.W.Fast.tw16983156356766790175 : Unit := ()
def PySem.W.Fast.tw13104098046294861810 : Unit := ()
def PySem.W.Fast.tw18258970077237881918 : Unit := ()
def PySem.W.Fast.tw6438393122667772956 : Unit := ()
def PySem.W.Fast.tw12228974739430166879 : Unit := ()
def PySem.W.Fast.tw9342542832230556222 : Unit := ()
def PySem.W.Fast.tw1523242968541926974 : Unit := ()
def PySem.W.Fast.tw17824111427969220343 : Unit := ()
def PySem.W.Fast.tw13233655415451216845 : Unit := ()
def PySem.W.Fast.tw10225461867600511715 : Unit := ()
def PySem.W.Fast.tw3244074150262138881 : Unit := ()
def PySem.W.Fast.tw13781150410561005929 : Unit := ()
def PySem.W.Fast.tw7635268547522181321 : Unit := ()
def PySem.W.Fast.tw13391320125262989307 : Unit := ()
def PySem.W.Fast.tw12401275796415987596 : Unit := ()
def PySem.W.Fast.tw810483277285803536 : Unit := ()
def PySem.W.Fast.tw906236838227657135 : Unit := ()
def PySem.W.Fast.tw7704981422072863698 : Unit := ()
def PySem.W.Fast.tw10674067043680467898 : Unit := ()
def PySem.W.Fast.tw10662430806107428026 : Unit := ()
def PySem.W.Fast.tw6924915324510810576 : Unit := ()
def PySem.W.Fast.tw13259977382368533591 : Unit := ()
def PySem.W.Fast.tw8951087259668242868 : Unit := ()
def PySem.W.Fast.tw3116776810345571231 : Unit := ()
def PySem.W.Fast.tw152990792875885375 : Unit := ()
def PySem.W.Fast.tw9414846898499195226 : Unit := ()
def PySem.W.Fast.tw3672475915732655821 : Unit := ()
def PySem.W.Fast.tw12763278506344184473 : Unit := ()
def PySem.W.Fast.tw11887084620510147936 : Unit := ()
def PySem.W.Fast.tw5124481294958198 : Unit := ()
def PySem.W.Fast.tw17432069954942807944 : Unit := ()
def PySem.W.Fast.tw12288507452661307721 : Unit := ()
def PySem.W.Fast.tw17204108299387176123 : Unit := ()
def PySem.W.Fast.tw13568375858837632903 : Unit := ()
def PySem.W.Fast.tw1399397521353475343 : Unit := ()
def PySem.W.Fast.tw10141419436907847325 : Unit := ()
def PySem.W.Fast.tw6453942294095292029 : Unit := ()
def PySem.W.Fast.tw17484554053451167843 : Unit := ()
def PySem.W.Fast.tw1063014282124767434 : Unit := ()
def PySem.W.Fast.tw16654145423276611312 : Unit := ()
def PySem.W.Fast.tw14438423301838271214 : Unit := ()
def PySem.W.Fast.tw5009314269842699072 : Unit := ()
def PySem.W.Fast.tw10950791928766611314 : Unit := ()
def PySem.W.Fast.tw6791428357768889347 : Unit := ()
def PySem.W.Fast.tw5873479248482162293 : Unit := ()
def PySem.W.Fast.tw8111278964053383961 : Unit := ()
def PySem.W.Fast.tw5070310548233117411 : Unit := ()
def PySem.W.Fast.tw15050823862007342304 : Unit := ()
def PySem.W.Fast.tw6409026234321030885 : Unit := ()
def PySem.W.Fast.tw3721733620583759314 : Unit := ()
def PySem.W.Fast.tw17602089171715195962 : Unit := ()
def PySem.W.Fast.tw6385607679943130810 : Unit := ()
def PySem.W.Fast.tw7814172746864783220 : Unit := ()
def PySem.W.Fast.tw7755899820340837555 : Unit := ()
def PySem.W.Fast.tw5232972988802340267 : Unit := ()
def PySem.W.Fast.tw14812091148204673768 : Unit := ()
def PySem.W.Fast.tw11971250065921092945 : Unit := ()
def PySem.W.Fast.tw1139895562594422838 : Unit := ()
def PySem.W.Fast.tw10087428952194418003 : Unit := ()
def PySem.W.Fast.tw15676042376486009716 : Unit := ()
def PySem.W.Fast.tw2445216400498832926 : Unit := ()
def PySem.W.Fast.tw10222546383708442458 : Unit := ()
def PySem.W.Fast.tw5312454926514153913 : Unit := ()
def PySem.W.Fast.tw14876170063832652688 : Unit := ()
def PySem.W.Fast.tw13965862743891884663 : Unit := ()
namespace MyQ
open PySem PySem.W PyProof.Rows
set_option maxRecDepth 100000 in
set_option maxHeartbeats 0 in
open_top hd for PySem.Challenge.rw_manyleast_k59_a_desk_makes
end MyQ
/-! THE HAND LAYER, for ints, bools, texts, own classes, LISTS and tuples (index, slices, in, append, pop ..), calls, loops. Paste it whole ahead of your own text; what your proof does not reach may be deleted. -/
namespace L2
open PySem PySem.Spec PyProof.Rows

/-- a key: an int or a str -/
abbrev Key := Sum Int Str
def keyIs : Key → Value → Bool
  | .inl k, v => Value.isInt k v
  | .inr x, v => Value.isStrOf x v
def keyH (w : World) : Key → Int
  | .inl k => hashInt k
  | .inr x => hashStr w x
theorem keyIs_shape : ∀ {k : Key} {v : Value}, keyIs k v = true → (∃ i t, k = Sum.inl i ∧ v = Value.int i t) ∨ (∃ x t, k = Sum.inr x ∧ v = Value.str x t)
  | .inl i, v, h => by
    obtain ⟨t, e⟩ := Value.isInt_shape (k := i) (v := v) h
    exact .inl ⟨i, t, rfl, e⟩
  | .inr x, v, h => by
    obtain ⟨t, e⟩ := Value.isStrOf_shape (x := x) (v := v) h
    exact .inr ⟨x, t, rfl, e⟩
theorem key_ll (a b : Int) : decide ((Sum.inl a : Key) = Sum.inl b) = (a == b) := by
  by_cases e : a = b
  · subst e; simp
  · have h : ¬ (Sum.inl a : Key) = Sum.inl b := fun q => e (Sum.inl.inj q)
    rw [decide_eq_false h]
    exact (beq_eq_false_iff_ne.mpr e).symm
theorem key_rr (a b : Str) : decide ((Sum.inr a : Key) = Sum.inr b) = decide (a = b) := by
  by_cases e : a = b
  · subst e; simp
  · have h : ¬ (Sum.inr a : Key) = Sum.inr b := fun q => e (Sum.inr.inj q)
    rw [decide_eq_false h, decide_eq_false e]
theorem key_lr (a : Int) (b : Str) : decide ((Sum.inl a : Key) = Sum.inr b) = false := decide_eq_false (fun q => nomatch q)
theorem key_rl (a : Str) (b : Int) : decide ((Sum.inr a : Key) = Sum.inl b) = false := decide_eq_false (fun q => nomatch q)

def mixKind (prog : Program) (w : World) : PySem.KeyKind prog w Key where
  is := keyIs
  hash := keyH w
  inj := fun v a b ha hb => by
    rcases keyIs_shape ha with ⟨i, t, rfl, rfl⟩ | ⟨x, t, rfl, rfl⟩
    · rcases keyIs_shape hb with ⟨j, u, rfl, e⟩ | ⟨y, u, rfl, e⟩
      · injection e with e1 _; rw [e1]
      · exact nomatch e
    · rcases keyIs_shape hb with ⟨j, u, rfl, e⟩ | ⟨y, u, rfl, e⟩
      · exact nomatch e
      · injection e with e1 _; rw [e1]
  byValue := fun k v h => by
    rcases keyIs_shape h with ⟨i, t, rfl, rfl⟩ | ⟨x, t, rfl, rfl⟩ <;> rfl
  pyHash := fun hv h => by
    rcases keyIs_shape hv with ⟨i, t, rfl, rfl⟩ | ⟨x, t, rfl, rfl⟩
    · exact wpAny_pyHash_int h
    · exact wpAny_pyHash_str h
  eqBool := fun hu hv h => by
    rcases keyIs_shape hu with ⟨i, t, rfl, rfl⟩ | ⟨x, t, rfl, rfl⟩
    · rcases keyIs_shape hv with ⟨j, u, rfl, rfl⟩ | ⟨y, u, rfl, rfl⟩
      · rw [key_ll] at h; exact wpAny_eqBool_int h
      · rw [key_lr] at h; exact SeqAt.EqAt.int_str i t y u _ _ _ _ h
    · rcases keyIs_shape hv with ⟨j, u, rfl, rfl⟩ | ⟨y, u, rfl, rfl⟩
      · rw [key_rl] at h; exact SeqAt.EqAt.str_int x t j u _ _ _ _ h
      · rw [key_rr] at h; exact wpAny_eqBool_str h
  «strs» := fun k x t v h => by
    rcases keyIs_shape h with ⟨i, u, rfl, e⟩ | ⟨y, u, rfl, e⟩
    · exact nomatch e
    · injection e with e1 _
      subst e1
      cases v <;> rfl

end L2

namespace L2
open PySem PySem.Spec PyProof.Rows

/-- a value, without the heap -/
inductive V where
  | non | bl (b : Bool) | int (i : Int) | str (x : Str) | byt (b : Array UInt8) | flt (b : UInt64) | ref (a : Addr) | ty (n : String)
  deriving DecidableEq

def RelV : V → Value → Prop
  | .non, u => u = Value.none
  | .bl b, u => u = Value.bool b
  | .int i, u => ∃ t, u = Value.int i t
  | .str x, u => ∃ t, u = Value.str x t
  | .byt b, u => ∃ t, u = Value.bytes b t
  | .flt b, u => ∃ t, u = Value.float b t
  | .ref a, u => u = Value.ref a
  | .ty n, u => u = Value.type n

abbrev Vals : List V → List Value → Prop := Paired RelV
theorem Vals.length {xs : List V} {us : List Value} (r : Vals xs us) : xs.length = us.length := Paired.length r
theorem Vals.get : ∀ {xs : List V} {us : List Value} {i : Nat} {x : V}, Vals xs us → xs[i]? = some x → ∃ u, us[i]? = some u ∧ RelV x u
  | _, _, _, _, .nil, e => by simp at e
  | _, _, 0, _, .cons r _, e => by simp at e; subst e; exact ⟨_, rfl, r⟩
  | _, _, i + 1, x, .cons _ t, e => by
    obtain ⟨u, h1, h2⟩ := Vals.get (i := i) (x := x) t (by simpa using e)
    exact ⟨u, by simpa using h1, h2⟩
theorem Vals.set {x : V} {u : Value} (r : RelV x u) : ∀ {xs : List V} {us : List Value} (i : Nat), Vals xs us → Vals (xs.set i x) (us.set i u)
  | _, _, _, .nil => .nil
  | _, _, 0, .cons _ t => .cons r t
  | _, _, i + 1, .cons q t => .cons q (Vals.set r i t)
theorem Vals.append : ∀ {xs ys : List V} {us ws : List Value}, Vals xs us → Vals ys ws → Vals (xs ++ ys) (us ++ ws)
  | _, _, _, _, .nil, s => s
  | _, _, _, _, .cons r t, s => .cons r (Vals.append t s)
theorem Vals.take : ∀ {xs : List V} {us : List Value} (n : Nat), Vals xs us → Vals (xs.take n) (us.take n)
  | _, _, 0, _ => .nil
  | _, _, _ + 1, .nil => .nil
  | _, _, n + 1, .cons r t => .cons r (Vals.take n t)
theorem Vals.drop : ∀ {xs : List V} {us : List Value} (n : Nat), Vals xs us → Vals (xs.drop n) (us.drop n)
  | _, _, 0, r => r
  | _, _, _ + 1, .nil => .nil
  | _, _, n + 1, .cons _ t => Vals.drop n t
def RelO : Option V → Option Value → Prop
  | some v, some u => RelV v u
  | none, none => True
  | _, _ => False
def KV {κ : Type} : List (κ × V) → List (κ × Value) → Prop := Paired fun (p : κ × V) (q : κ × Value) => p.1 = q.1 ∧ RelV p.2 q.2

/-- a key of a dict (00_mix): an int or a text -/
def kV : Key → V
  | .inl i => .int i
  | .inr x => .str x

/-- what stands at a tracked address -/
inductive HO where
  /-- a list -/
  | lst (xs : List V)
  /-- a tuple (never changes) -/
  | tup (xs : List V)
  /-- a dict whose keys are ints and texts; one whose keys are tuples of ints and texts (the empty one is both) -/
  | dK (kvs : List (Key × V)) | dT (kvs : List (List Key × V))
  /-- a set of ints: its members, its size -/
  | set (S : Int → Bool) (n : Nat)
  /-- an instance of the class at C, its dict at dx, its attributes -/
  | ins (C dx : Addr) (fs : List (Str × V))
  /-- the dict of the instance at x -/
  | own (x : Addr)
  /-- the dict of an exception -/
  | xd (fs : List (Str × V))
  /-- a bound method, f of x -/
  | met (f x : Addr)
  /-- a range object lo, lo + 1, .. below hi -/
  | rng (lo hi : Int)
  /-- a thing that is known to the object (the script; a dict while a loop walks it): read, never written while it is so -/
  | frz (o : Obj) (u : HO)
  /-- a code object's table -/
  | tbl (ps : Array Value)
  /-- any other thing, by what is true of its one object (a def of one's own: SetO a S n := HO.ext fun h => ..) -/
  | ext (φ : Heap → Prop)

abbrev Hp := Addr → Option HO
def upd (H : Hp) (a : Addr) (o : HO) : Hp := fun b => if b = a then some o else H b
theorem upd_same {H : Hp} {a : Addr} {o : HO} : upd H a o a = some o := by unfold upd; rw [if_pos rfl]
theorem upd_ne {H : Hp} {a b : Addr} {o : HO} (h : b ≠ a) : upd H a o b = H b := by unfold upd; rw [if_neg h]
theorem upd_upd {H : Hp} {a : Addr} {o u : HO} : upd (upd H a o) a u = upd H a u := by
  funext b; unfold upd; split <;> rfl
/-- two objects of different content stand apart -/
theorem ne_of {H : Hp} {a b : Addr} {o u : HO} (h : H a = some o) (h' : H b = some u) (d : o ≠ u) : a ≠ b := by
  intro e; subst e; rw [h] at h'; exact d (Option.some.inj h')
theorem ne_of_none {H : Hp} {a b : Addr} {o : HO} (h : H a = some o) (h' : H b = none) : a ≠ b := by
  intro e; subst e; rw [h] at h'; cases h'

section
variable (P : Program) (w : World)
def ObjOk (H : Hp) (h : Heap) (a : Addr) : HO → Prop
  | .lst xs => xs.length ≤ sizeLine ∧ ∃ (its : List Value) (n : Nat), Vals xs its ∧ h.get? a = some { cls := .type "list", data := .seq its.toArray n }
  | .tup xs => xs.length ≤ sizeLine ∧ ∃ its : List Value, Vals xs its ∧ IsTup h a its.toArray
  | .dK kvs => kvs.length ≤ sizeLine ∧ (a == sysModules) = false ∧ ∃ vs, KV kvs vs ∧ h.DictOf (mixKind P w) a vs
  | .dT kvs => kvs.length ≤ sizeLine ∧ (a == sysModules) = false ∧ ∃ xs : List (List Key × Addr × Value),
      Paired (fun (p : List Key × V) (q : List Key × Addr × Value) => p.1 = q.1 ∧ H q.2.1 = some (.tup (p.1.map kV)) ∧ RelV p.2 q.2.2) kvs xs ∧
      ∃ o es ep, h.get? a = some o ∧ o.ExactDict ∧ o.data = .dict es ep ∧ es.toList = xs.map (entryOfKey (tupleKind (mixKind P w))) ∧ (xs.map (·.1)).Nodup
  | .set S n => h.SetOf (intKind P w) a S n
  | .ins C dx fs => H dx = some (.own a) ∧ fs.length ≤ 1000 ∧ dx ≠ a ∧ h.get? a = some (PySem.W.instObj C dx) ∧
      ∃ mA, h.Ns1 dx mA ∧ (∀ f, RelO (fs.lookup f) (mA f)) ∧ PySem.Within mA (fs.map (·.1))
  | .own _ => ∃ o, h.get? a = some o
  | .xd fs => ∃ mA, h.Ns1 a mA ∧ ∀ f, RelO (fs.lookup f) (mA f)
  | .rng lo hi => ∃ t u v, h.get? a = some { cls := .type "range", data := .fields #[.int lo t, .int hi u, .int 1 v] }
  | .frz o u => h.get? a = some o ∧ ObjOk H h a u
  | .tbl ps => h.get? a = some { cls := .none, data := .fields ps }
  | .met f x => h.get? a = some (PySem.W.methodObj (.ref f) (.ref x))
  | .ext φ => φ h ∧ (∃ o, h.get? a = some o) ∧ ∀ h1 h2 : Heap, φ h1 → (∀ o, h1.get? a = some o → h2.get? a = some o) → φ h2
/-- the abstract heap is held -/
def HOk (H : Hp) (h : Heap) : Prop := ∀ a o, H a = some o → ObjOk P w H h a o
end

section
variable {P : Program} {w : World} {H H' : Hp} {h h' : Heap} {a : Addr} {o : HO}
theorem ObjOk.lt (x : ObjOk P w H h a o) : a < h.objs.size := by
  cases o with
  | lst xs => obtain ⟨_, _, _, _, e⟩ := x; exact Heap.lt_size e
  | tup xs => obtain ⟨_, _, _, p⟩ := x; exact p.lt
  | dK kvs => obtain ⟨_, _, _, _, o, _, _, e, _⟩ := x; exact Heap.lt_size e
  | dT kvs => obtain ⟨_, _, _, _, o, _, _, e, _⟩ := x; exact Heap.lt_size e
  | set S n => obtain ⟨o, _, _, _, e, _⟩ := x; exact Heap.lt_size e
  | ins C dx fs => obtain ⟨_, _, _, e, _⟩ := x; exact Heap.lt_size e
  | own y => obtain ⟨_, e⟩ := x; exact Heap.lt_size e
  | xd fs => obtain ⟨_, ⟨_, _, _, e, _⟩, _⟩ := x; exact Heap.lt_size e
  | rng lo hi => obtain ⟨_, _, _, e⟩ := x; exact Heap.lt_size e
  | frz ob u => obtain ⟨e, _⟩ := x; exact Heap.lt_size e
  | tbl ps => exact Heap.lt_size (show h.get? a = some _ from x)
  | met f y => exact Heap.lt_size (show h.get? a = some _ from x)
  | ext φ => obtain ⟨_, ⟨_, e⟩, _⟩ := x; exact Heap.lt_size e
theorem Paired.mapP {α β : Type} {F G : α → β → Prop} : ∀ {l₁ : List α} {l₂ : List β}, Paired F l₁ l₂ → (∀ a b, F a b → G a b) → Paired G l₁ l₂
  | _, _, .nil, _ => .nil
  | _, _, .cons r t, f => .cons (f _ _ r) (Paired.mapP t f)
/-- what an object's description leans on: its own object, its own dict, the tuples -/
theorem ObjOk.stay (x : ObjOk P w H h a o) (k : ∀ b u, (b = a ∨ H b = some (.own a)) → h.get? b = some u → h'.get? b = some u)
    (ho : ∀ b, H b = some (.own a) → H' b = some (.own a)) (ht : ∀ b xs, H b = some (.tup xs) → H' b = some (.tup xs)) : ObjOk P w H' h' a o := by
  induction o with
  | lst xs => obtain ⟨z, its, n, r, e⟩ := x; exact ⟨z, its, n, r, k _ _ (.inl rfl) e⟩
  | tup xs => obtain ⟨z, its, r, ob, e, c⟩ := x; exact ⟨z, its, r, ob, k _ _ (.inl rfl) e, c⟩
  | dK kvs => obtain ⟨z, y, vs, r, ob, es, ep, e, c⟩ := x; exact ⟨z, y, vs, r, ob, es, ep, k _ _ (.inl rfl) e, c⟩
  | dT kvs =>
    obtain ⟨z, y, xs, r, ob, es, ep, e, c⟩ := x
    exact ⟨z, y, xs, Paired.mapP r fun p q z => ⟨z.1, ht _ _ z.2.1, z.2.2⟩, ob, es, ep, k _ _ (.inl rfl) e, c⟩
  | set S n => obtain ⟨ob, es, ep, t, e, c⟩ := x; exact ⟨ob, es, ep, t, k _ _ (.inl rfl) e, c⟩
  | ins C dx fs =>
    obtain ⟨d, z, ne, e, mA, ⟨od, es, ep, e2, c⟩, r⟩ := x
    exact ⟨ho _ d, z, ne, k _ _ (.inl rfl) e, mA, ⟨od, es, ep, k _ _ (.inr d) e2, c⟩, r⟩
  | own y => obtain ⟨ob, e⟩ := x; exact ⟨ob, k _ _ (.inl rfl) e⟩
  | xd fs => obtain ⟨mA, ⟨od, es, ep, e, c⟩, r⟩ := x; exact ⟨mA, ⟨od, es, ep, k _ _ (.inl rfl) e, c⟩, r⟩
  | rng lo hi => obtain ⟨t, u, v, e⟩ := x; exact ⟨t, u, v, k _ _ (.inl rfl) e⟩
  | frz ob u ih => obtain ⟨e, q⟩ := x; exact ⟨k _ _ (.inl rfl) e, ih q⟩
  | tbl ps =>
    have e : h.get? a = some { cls := .none, data := .fields ps } := x
    show h'.get? a = some { cls := .none, data := .fields ps }
    exact k a _ (.inl rfl) e
  | met f y =>
    have e : h.get? a = some (PySem.W.methodObj (.ref f) (.ref y)) := x
    show h'.get? a = some (PySem.W.methodObj (.ref f) (.ref y))
    exact k a _ (.inl rfl) e
  | ext φ => obtain ⟨p, ⟨o, e⟩, st⟩ := x; exact ⟨st _ _ p fun o q => k _ _ (.inl rfl) q, ⟨o, k _ _ (.inl rfl) e⟩, st⟩
theorem HOk.lt (x : HOk P w H h) (e : H a = some o) : a < h.objs.size := (x a o e).lt
theorem HOk.fresh (x : HOk P w H h) (e : h.objs.size ≤ a) : H a = none := by
  cases q : H a with
  | none => rfl
  | some u => exact absurd (Nat.lt_of_lt_of_le (x.lt q) e) (Nat.lt_irrefl _)
/-- every object of the heap is kept -/
theorem HOk.kept (x : HOk P w H h) (k : ∀ b u, h.get? b = some u → h'.get? b = some u) : HOk P w H h' := fun a o e =>
  (x a o e).stay (fun b u _ q => k b u q) (fun _ q => q) fun _ _ q => q
/-- a new object is laid and tracked -/
theorem HOk.laid (x : HOk P w H h) (k : ∀ b u, h.get? b = some u → h'.get? b = some u) (hp : h.objs.size ≤ a) (new : ObjOk P w (upd H a o) h' a o) : HOk P w (upd H a o) h' := fun b u e => by
  have hn := x.fresh hp
  by_cases hb : b = a
  · subst hb; rw [upd_same] at e; cases e; exact new
  · rw [upd_ne hb] at e
    exact (x b u e).stay (fun c v _ q => k c v q) (fun c q => by rw [upd_ne (ne_of_none q hn)]; exact q) fun c xs q => by rw [upd_ne (ne_of_none q hn)]; exact q
end

/-- what may be read as u: it is u, or a known u -/
def Rd (H : Hp) (a : Addr) (u : HO) : Prop := H a = some u ∨ ∃ o, H a = some (.frz o u)
theorem Rd.ok {P : Program} {w : World} {H : Hp} {h : Heap} {a : Addr} {u : HO} (r : Rd H a u) (x : HOk P w H h) : ObjOk P w H h a u := by
  rcases r with r | ⟨o, r⟩
  · exact x a u r
  · obtain ⟨_, q⟩ := x a _ r
    exact q
/-- what may be written -/
def Mut : Option HO → Prop
  | some (.lst _) => True
  | some (.dK _) => True
  | some (.dT _) => True
  | some (.set _ _) => True
  | some (.ins _ _ _) => True
  | some (.ext _) => True
  | _ => False
section
variable {P : Program} {w : World} {H : Hp} {h h' : Heap} {x e : Addr} {o' : HO}
/-- the object at e is changed: x itself, or the dict of the instance x -/
theorem HOk.write (ok : HOk P w H h) (mu : Mut (H x)) (he : e = x ∨ H e = some (.own x)) (k : ∀ b u, b ≠ e → h.get? b = some u → h'.get? b = some u) (heo : ∃ u, h'.get? e = some u)
    (new : ObjOk P w (upd H x o') h' x o') : HOk P w (upd H x o') h' := fun b u q => by
  have nown : ∀ c y, H c = some (.own y) → c ≠ x := fun c y r z => by subst z; rw [r] at mu; exact mu
  have ntup : ∀ c xs, H c = some (.tup xs) → c ≠ x := fun c xs r z => by subst z; rw [r] at mu; exact mu
  by_cases hb : b = x
  · subst hb; rw [upd_same] at q; cases q; exact new
  · rw [upd_ne hb] at q
    by_cases hbe : b = e
    · have q' : H b = some (.own x) := by
        rcases he with z | z
        · exact absurd (hbe.trans z) hb
        · rw [hbe]; exact z
      rw [q] at q'; cases q'
      obtain ⟨v, hv⟩ := heo
      exact ⟨v, by rw [hbe]; exact hv⟩
    · refine (ok b u q).stay (fun c v hc r => k c v ?_ r) (fun c r => by rw [upd_ne (nown c b r)]; exact r) fun c xs r => by rw [upd_ne (ntup c xs r)]; exact r
      rcases hc with rfl | hc
      · exact hbe
      · rintro rfl
        rcases he with z | z
        · exact nown c b hc z
        · rw [hc] at z; cases z; exact hb rfl
end

/-! ### kept unless tracked; of the frames at fs (the callers') the slots may change (an exception that passes writes there); of the records at ex (iterators) nothing is said -/
structure Un (fs ex : List Addr) (H H' : Hp) (h h' : Heap) : Prop where
  keep : ∀ b o, h.get? b = some o → H b = none → b ∉ fs → b ∉ ex → h'.get? b = some o
  slot : ∀ b o, h.get? b = some o → H b = none → b ∈ fs → b ∉ ex → ∃ sl, h'.get? b = some { o with slots := sl }
  free : ∀ b o, h.get? b = some o → H b = none → b ∉ ex → H' b = none
  there : ∀ b o, h.get? b = some o → b ∉ ex → ∃ o', h'.get? b = some o'
  tups : ∀ b xs, H b = some (.tup xs) → H' b = some (.tup xs)
  frzs : ∀ b o u, H b = some (.frz o u) → H' b = some (.frz o u)
  tbls : ∀ b ps, H b = some (.tbl ps) → ∃ more, H' b = some (.tbl (ps ++ more))
section
variable {fs fs' ex ex' : List Addr} {H H1 H2 : Hp} {h h1 h2 h' : Heap} {a x e : Addr} {o : HO}
theorem Un.any (u : Un fs ex H H1 h h1) {b : Addr} {ob : Obj} (q : h.get? b = some ob) (n : H b = none) (hx : b ∉ ex) : ∃ sl, h1.get? b = some { ob with slots := sl } := by
  by_cases hb : b ∈ fs
  · exact u.slot b ob q n hb hx
  · exact ⟨ob.slots, u.keep b ob q n hb hx⟩
theorem Un.kept (k : ∀ b u, h.get? b = some u → h'.get? b = some u) : Un fs ex H H h h' :=
  ⟨fun b ob q _ _ _ => k b ob q, fun b ob q _ _ _ => ⟨ob.slots, k b ob q⟩, fun _ _ _ n _ => n, fun b ob q _ => ⟨ob, k b ob q⟩, fun _ _ q => q, fun _ _ _ q => q, fun _ ps q => ⟨#[], by rw [q]; simp⟩⟩
theorem Un.refl : Un fs ex H H h h := Un.kept fun _ _ q => q
theorem Un.laid (k : ∀ b u, h.get? b = some u → h'.get? b = some u) (hp : h.objs.size ≤ a) (hn : H a = none) : Un fs ex H (upd H a o) h h' where
  keep := fun b u q _ _ _ => k b u q
  slot := fun b u q _ _ _ => ⟨u.slots, k b u q⟩
  free := fun b u q n _ => by rw [upd_ne (Nat.ne_of_lt (Nat.lt_of_lt_of_le (Heap.lt_size q) hp))]; exact n
  there := fun b u q _ => ⟨u, k b u q⟩
  tups := fun b xs q => by rw [upd_ne (ne_of_none q hn)]; exact q
  frzs := fun b u xs q => by rw [upd_ne (ne_of_none q hn)]; exact q
  tbls := fun b ps q => ⟨#[], by rw [upd_ne (ne_of_none q hn), q]; simp⟩
theorem Un.write (mu : Mut (H x)) (he : e = x ∨ H e = some (.own x)) (k : ∀ b u, b ≠ e → h.get? b = some u → h'.get? b = some u) (heo : ∃ u, h'.get? e = some u) : Un fs ex H (upd H x o) h h' := by
  have hx : ∀ b, H b = none → b ≠ x := fun b n z => by subst z; rw [n] at mu; exact mu
  have hb : ∀ b, H b = none → b ≠ e := fun b n z => by
    subst z
    rcases he with r | r
    · exact hx b n r
    · rw [n] at r; cases r
  have hm : ∀ b u, H b = some u → ¬ Mut (some u) → b ≠ x := fun b u q nm z => by subst z; rw [q] at mu; exact nm mu
  refine ⟨fun b u q n _ _ => k b u (hb b n) q, fun b u q n _ _ => ⟨u.slots, k b u (hb b n) q⟩, fun b u q n _ => by rw [upd_ne (hx b n)]; exact n, fun b u q _ => ?_,
    fun b xs q => by rw [upd_ne (hm b _ q fun z => z)]; exact q, fun b u xs q => by rw [upd_ne (hm b _ q fun z => z)]; exact q, fun b ps q => ⟨#[], by rw [upd_ne (hm b _ q fun z => z), q]; simp⟩⟩
  by_cases hbe : b = e
  · subst hbe; exact heo
  · exact ⟨u, k b u hbe q⟩
end

/-! ### the heap without what is tracked -/
def trk (h : Heap) (H : Hp) : List Addr := (List.range h.objs.size).filter fun a => (H a).isSome
def hidT (h : Heap) (H : Hp) : Heap := PySem.W.hideAll h (trk h H)
theorem hidT_size (h : Heap) (H : Hp) : (hidT h H).objs.size = h.objs.size := PySem.W.hideAll_size _ _
theorem hidT_get {h : Heap} {H : Hp} {b : Addr} {o : Obj} (e : h.get? b = some o) (n : H b = none) : (hidT h H).get? b = some o :=
  PySem.W.hideAll_get _ e fun hm => by
    have q : (H b).isSome = true := (List.mem_filter.mp hm).2
    rw [n] at q; simp at q
theorem of_hidT {h : Heap} {H : Hp} {b : Addr} {o : Obj} (e : (hidT h H).get? b = some o) : h.get? b = some o ∧ H b = none := by
  have e' : h.get? b = some o := PySem.W.of_hideAll (trk h H) e
  refine ⟨e', ?_⟩
  cases q : H b with
  | none => rfl
  | some x =>
    have hm : b ∈ trk h H := List.mem_filter.mpr ⟨List.mem_range.mpr (Heap.lt_size e'), by simp [q]⟩
    have z : (hidT h H).get? b = none := PySem.W.hideAll_none (trk h H) hm
    rw [z] at e; cases e

/-! ### OpenK's ledger, filled with every new object but one -/
def allNews (g h : Heap) (L : Addr) : List (Addr × Obj) := (List.range h.objs.size).filterMap fun a => if a = L ∨ (g.get? a).isSome = true then none else (h.get? a).map fun o => (a, o)
def rest (g h : Heap) (L d : Addr) : List (Addr × Obj) := (allNews g h L).filter fun p => decide (p.1 ≠ d)
end L2

namespace L2
open PySem PySem.Spec PyProof.Rows

/-- the module's facts, over the base: the heap at the law's entry without what is tracked there -/
structure Mod (K : PySem.W.Frag) (mg : Str → Option Value) (base : Heap) : Prop where
  kin : K.In base
  glob : base.Ns mainGlobals mg
  blt : ∃ mb, base.Ns builtinsNs mb ∧ ∀ x : Str, x ≠ "__name__" → mb x = bootBuiltins x
  nolimit : base.NoLimit

/-- the context: a def's body (or a comprehension's block) running. base: fixed through the whole law; s₀, H₀: the entry; outer: the frames whose slots others may change (a def's callers); stack: all frames that run;
   ex: iterators that were made ahead of the entry and are walked here (a comprehension's); fn: the names whose cells were made at the entry (a def: all; a comprehension's block: its own); calm: not within an except suite; pn: pins that every state bears; xe: what is wanted of an exception that leaves the code -/
structure Cx where
  prog : Program
  w : World
  K : PySem.W.Frag
  mg : Str → Option Value
  base : Heap
  A : Around
  N : List Str
  s₀ : Shared
  H₀ : Hp
  env : Env
  outer : List Env
  stack : List Env
  ex : List Addr
  fn : Str → Bool
  calm : Bool
  pn : List (Addr × Obj)
  xe : Value → Shared → Prop
/-- the callers' frames -/
def frs (l : List Env) : List Addr := l.filterMap (·.frame)
abbrev Cx.fs (X : Cx) : List Addr := frs X.outer

def Vis (sc : Scope) (x : Str) : Prop := sc.names.lookup x = some .local ∨ sc.names.lookup x = some .cell ∨ sc.names.lookup x = some .free
def Loc (sc : Scope) (x : Str) : Prop := sc.names.lookup x = some .local ∨ sc.names.lookup x = some .cell
def Look (env : Env) (h : Heap) (m : Str → Option Value) (x : Str) (u : Value) : Prop :=
  (env.kindOf x = some .local ∧ m x = some u) ∨ ((env.kindOf x = some .cell ∨ env.kindOf x = some .free) ∧ ∃ c, env.cells.lookup x = some c ∧ h.IsCell c (some u))

structure Cx.Ok (X : Cx) : Prop where
  mod : Mod X.K X.mg X.base
  kind : X.env.scope.kind = .function
  glob : X.env.globals = mainGlobals
  blt : X.env.builtins = builtinsNs
  above : X.s₀.heap.objs.size ≤ X.env.locals
  inj : ∀ x y c, X.env.cells.lookup x = some c → X.env.cells.lookup y = some c → x = y
  has : ∀ x, (X.env.kindOf x = some .cell ∨ X.env.kindOf x = some .free) → ∃ c, X.env.cells.lookup x = some c
  cab : ∀ x c, X.fn x = true → X.env.cells.lookup x = some c → X.s₀.heap.objs.size ≤ c
  hd : X.calm = true → X.A.handled = none
  frames : X.A.frames = some X.stack
  stk : X.stack = X.outer ∨ (X.stack = X.env :: X.outer ∧ X.env.frame = some X.env.locals)
  exf : ∀ b ∈ X.ex, b ≠ X.env.locals ∧ ∀ x c, X.env.cells.lookup x = some c → c ≠ b
  bs : ∀ b o, X.base.get? b = some o → X.s₀.heap.get? b = some o ∧ X.H₀ b = none
  bsz : X.base.objs.size ≤ X.s₀.heap.objs.size
  noex : ∀ b o, X.base.get? b = some o → b ∉ X.ex
  exfs : ∀ b ∈ X.ex, b ∉ X.fs
  funs : X.s₀.heap.FunFrames X.base X.outer
  frf : ∀ b ∈ X.fs, X.H₀ b = none

structure Inv (X : Cx) (pins : List (Addr × Obj)) (σ : List (Option V)) (H : Hp) (s : Shared) : Prop where
  ok : X.Ok
  os : s.os = X.s₀.os
  bare : AllBare s.gens
  base : Un X.fs X.ex X.H₀ H X.s₀.heap s.heap
  loc : ∃ m, s.heap.Ns X.env.locals m ∧ ∀ (i : Nat) (x : Str) (v : V), X.N[i]? = some x → σ[i]? = some (some v) → Vis X.env.scope x → ∃ u, RelV v u ∧ Look X.env s.heap m x u
  cell : ∀ x c, X.env.cells.lookup x = some c → ∃ v, s.heap.IsCell c v
  free : H X.env.locals = none
  freeC : ∀ x c, X.env.cells.lookup x = some c → H c = none
  pin : ∀ p ∈ X.pn ++ pins, s.heap.get? p.1 = some p.2 ∧ H p.1 = none ∧ p.1 ≠ X.env.locals ∧ p.1 ∉ X.fs ∧ ∀ v, p.2.data ≠ .cell v
  hok : HOk X.prog X.w H s.heap
  len : σ.length = X.N.length

section
variable {X : Cx} {pins : List (Addr × Obj)} {σ : List (Option V)} {H H' : Hp} {s : Shared} {h' : Heap}

theorem Cx.Ok.nofr (ok : X.Ok) {b : Addr} {o : Obj} (e : X.base.get? b = some o) : b ∉ X.fs := fun hb => by
  have := (ok.funs.mem hb).1
  rw [e] at this; cases this
theorem Inv.bs (I : Inv X pins σ H s) : ∀ b o, X.base.get? b = some o → s.heap.get? b = some o ∧ H b = none := fun b o e =>
  ⟨I.base.keep b o (I.ok.bs b o e).1 (I.ok.bs b o e).2 (I.ok.nofr e) (I.ok.noex b o e), I.base.free b o (I.ok.bs b o e).1 (I.ok.bs b o e).2 (I.ok.noex b o e)⟩
theorem Inv.bk (I : Inv X pins σ H s) : ∀ b o, X.base.get? b = some o → s.heap.get? b = some o := fun b o e => (I.bs b o e).1
theorem Inv.mod (I : Inv X pins σ H s) : Mod X.K X.mg X.base := I.ok.mod
theorem Inv.kIn (I : Inv X pins σ H s) : X.K.In s.heap := I.ok.mod.kin.keeps I.bk
theorem Inv.lt (I : Inv X pins σ H s) : X.env.locals < s.heap.objs.size := let ⟨_, hn, _⟩ := I.loc; hn.lt
theorem Inv.sz (I : Inv X pins σ H s) : X.s₀.heap.objs.size ≤ s.heap.objs.size := Nat.le_trans I.ok.above (Nat.le_of_lt I.lt)
theorem Inv.nofs (I : Inv X pins σ H s) {a : Addr} (h : s.heap.objs.size ≤ a) : a ∉ X.fs := fun hb => by
  obtain ⟨_, o, ho, _⟩ := I.ok.funs.mem hb
  exact absurd (Nat.lt_of_lt_of_le (Heap.lt_size ho) (Nat.le_trans I.sz h)) (Nat.lt_irrefl _)
theorem Inv.cne (I : Inv X pins σ H s) : ∀ x c, X.env.cells.lookup x = some c → c ≠ X.env.locals := fun x c e z => by
  obtain ⟨v, o, ho, hd⟩ := I.cell x c e
  obtain ⟨m, ⟨o', es, ep, ho', hd', _⟩, _⟩ := I.loc
  rw [z, ho'] at ho; cases ho; rw [hd'] at hd; cases hd
theorem Inv.funs (I : Inv X pins σ H s) : s.heap.FunFrames X.base X.outer := by
  have all : ∀ (l : List Env), (∀ b ∈ frs l, b ∈ X.fs) → X.s₀.heap.FunFrames X.base l → s.heap.FunFrames X.base l := by
    intro l
    induction l with
    | nil => intro _ _; trivial
    | cons env r ih =>
      intro hs hl
      obtain ⟨hk, ⟨L, o, hf, hn, ho, hd⟩, hr⟩ := hl
      have hL : L ∈ X.fs := hs L (by unfold frs; rw [List.filterMap_cons, hf]; exact List.mem_cons_self)
      obtain ⟨sl, e⟩ := I.base.slot L o ho (I.ok.frf L hL) hL fun z => I.ok.exfs L z hL
      exact ⟨hk, ⟨L, _, hf, hn, e, hd⟩, ih (fun b hb => hs b (by unfold frs; rw [List.filterMap_cons, hf]; exact List.mem_cons_of_mem _ hb)) hr⟩
  exact all X.outer (fun _ hb => hb) I.ok.funs

/-- the frames that run, for a call -/
theorem Inv.stack (I : Inv X pins σ H s) : s.heap.FunFrames X.base X.stack := by
  rcases I.ok.stk with e | ⟨e, hf⟩
  · rw [e]; exact I.funs
  · rw [e]
    obtain ⟨m, hn, _⟩ := I.loc
    refine .cons (by rw [I.ok.kind]; decide) hf hn ?_ I.funs
    exact Heap.get?_none_of_le (Nat.le_trans I.ok.bsz I.ok.above)
theorem Inv.stkSub (I : Inv X pins σ H s) : ∀ b ∈ frs X.stack, b ∈ X.env.locals :: X.fs := fun b hb => by
  rcases I.ok.stk with e | ⟨e, hf⟩
  · rw [e] at hb; exact List.mem_cons_of_mem _ hb
  · rw [e] at hb
    unfold frs at hb
    rw [List.filterMap_cons, hf] at hb
    exact hb
theorem Inv.stkFree (I : Inv X pins σ H s) : ∀ b ∈ frs X.stack, H b = none := fun b hb => by
  rcases List.mem_cons.mp (I.stkSub b hb) with e | hb
  · rw [e]; exact I.free
  · obtain ⟨_, o, ho, _⟩ := I.ok.funs.mem hb
    exact I.base.free b o ho (I.ok.frf b hb) fun z => I.ok.exfs b z hb

/-- THE STEP: the untracked objects but the frame and the records at ch are kept (the callers' frames up to slots), the frame's map is kept, the new abstract heap is held -/
theorem Inv.step {g' : Array GenState} {t' : Nat} {d' : Drawn} {ch : List Addr} (I : Inv X pins σ H s)
    (hch : ∀ b ∈ ch, (b ∈ X.ex ∨ X.s₀.heap.objs.size ≤ b) ∧ b ≠ X.env.locals ∧ (∀ x c, X.env.cells.lookup x = some c → c ≠ b) ∧ ∀ p ∈ X.pn ++ pins, p.1 ≠ b)
    (keep : ∀ b o, b ≠ X.env.locals → b ∉ X.fs → b ∉ ch → s.heap.get? b = some o → H b = none → h'.get? b = some o)
    (slot : ∀ b o, b ≠ X.env.locals → b ∈ X.fs → b ∉ ch → s.heap.get? b = some o → H b = none → ∃ sl, h'.get? b = some { o with slots := sl }) (free : ∀ b o, b ∉ ch → s.heap.get? b = some o → H b = none → H' b = none)
    (there : ∀ b o, b ∉ ch → s.heap.get? b = some o → ∃ o', h'.get? b = some o')
    (tups : ∀ b xs, H b = some (.tup xs) → H' b = some (.tup xs)) (frzs : ∀ b o u, H b = some (.frz o u) → H' b = some (.frz o u)) (tbls : ∀ b ps, H b = some (.tbl ps) → ∃ more, H' b = some (.tbl (ps ++ more)))
    (ns : ∀ m, s.heap.Ns X.env.locals m → h'.Ns X.env.locals m) (hok : HOk X.prog X.w H' h') (hg : AllBare g') :
    Inv X pins σ H' { s with heap := h', gens := g', drawn := d', toks := t' } := by
  have neL : ∀ b o, X.s₀.heap.get? b = some o → b ≠ X.env.locals := fun b o e => Nat.ne_of_lt (Nat.lt_of_lt_of_le (Heap.lt_size e) I.ok.above)
  have neC : ∀ b o, X.s₀.heap.get? b = some o → b ∉ X.ex → b ∉ ch := fun b o e hx hb => by
    rcases (hch b hb).1 with z | z
    · exact hx z
    · exact absurd (Nat.lt_of_lt_of_le (Heap.lt_size e) z) (Nat.lt_irrefl _)
  have cellK : ∀ x c, X.env.cells.lookup x = some c → ∀ v, s.heap.IsCell c v → h'.IsCell c v := fun x c e v ⟨o, ho, hd⟩ => by
    have nch : c ∉ ch := fun z => (hch c z).2.2.1 x c e rfl
    by_cases hc : c ∈ X.fs
    · obtain ⟨sl, q⟩ := slot c o (I.cne x c e) hc nch ho (I.freeC x c e)
      exact ⟨_, q, hd⟩
    · exact ⟨o, keep c o (I.cne x c e) hc nch ho (I.freeC x c e), hd⟩
  refine ⟨I.ok, I.os, hg, ⟨fun b o e n hb hx => ?_, fun b o e n hb hx => ?_, fun b o e n hx => ?_, fun b o e hx => ?_, fun b xs e => tups b xs (I.base.tups b xs e), fun b o xs e => frzs b o xs (I.base.frzs b o xs e), fun b ps e => ?_⟩, ?_, fun x c e => ?_, ?_, fun x c e => ?_, fun p hp => ?_, hok, I.len⟩
  · exact keep b o (neL b o e) hb (neC b o e hx) (I.base.keep b o e n hb hx) (I.base.free b o e n hx)
  · obtain ⟨sl, e1⟩ := I.base.slot b o e n hb hx
    obtain ⟨sl', e2⟩ := slot b _ (neL b o e) hb (neC b o e hx) e1 (I.base.free b o e n hx)
    exact ⟨sl', e2⟩
  · obtain ⟨o', e1⟩ := I.base.there b o e hx
    exact free b o' (neC b o e hx) e1 (I.base.free b o e n hx)
  · obtain ⟨o', e1⟩ := I.base.there b o e hx
    exact there b o' (neC b o e hx) e1
  · obtain ⟨m1, e1⟩ := I.base.tbls b ps e
    obtain ⟨m2, e2⟩ := tbls b _ e1
    exact ⟨m1 ++ m2, by rw [e2, Array.append_assoc]⟩
  · obtain ⟨m, hn, hl⟩ := I.loc
    refine ⟨m, ns m hn, fun i x v e1 e2 e3 => ?_⟩
    obtain ⟨u, r, l⟩ := hl i x v e1 e2 e3
    refine ⟨u, r, ?_⟩
    rcases l with l | ⟨k, c, e, z⟩
    · exact .inl l
    · exact .inr ⟨k, c, e, cellK x c e _ z⟩
  · obtain ⟨v, z⟩ := I.cell x c e
    exact ⟨v, cellK x c e v z⟩
  · obtain ⟨m, ⟨o, _, _, ho, _⟩, _⟩ := I.loc
    exact free _ o (fun z => (hch _ z).2.1 rfl) ho I.free
  · obtain ⟨v, o, ho, hd⟩ := I.cell x c e
    exact free c o (fun z => (hch c z).2.2.1 x c e rfl) ho (I.freeC x c e)
  · obtain ⟨e, n, ne, nf, d⟩ := I.pin p hp
    have nch : p.1 ∉ ch := fun z => (hch p.1 z).2.2.2 p hp rfl
    exact ⟨keep p.1 p.2 ne nf nch e n, free p.1 p.2 nch e n, ne, nf, d⟩
/-- .. where the frame's own object is kept too -/
theorem Inv.un {t' : Nat} (I : Inv X pins σ H s) (u : Un X.fs [] H H' s.heap h') (hok : HOk X.prog X.w H' h') : Inv X pins σ H' { s with heap := h', toks := t' } := by
  obtain ⟨m, ⟨o, es, ep, ho, r⟩, _⟩ := id I.loc
  obtain ⟨sl, hL⟩ := u.any ho I.free (by simp)
  exact I.step (g' := s.gens) (d' := s.drawn) (ch := []) (fun _ z => nomatch z) (fun b o _ hb _ e n => u.keep b o e n hb (by simp)) (fun b o _ hb _ e n => u.slot b o e n hb (by simp)) (fun b o _ e n => u.free b o e n (by simp)) (fun b o _ e => u.there b o e (by simp)) u.tups u.frzs u.tbls (fun m' hm => by
    obtain ⟨o', es', ep', ho', r'⟩ := hm
    rw [ho] at ho'; cases ho'
    exact ⟨_, es', ep', hL, r'⟩) hok I.bare
/-- behind a call (or a comprehension's block): the slots of this frame may have changed too, the records at ch may have turned -/
theorem Inv.call {g' : Array GenState} {t' : Nat} {d' : Drawn} {ch : List Addr} (I : Inv X pins σ H s) (u : Un (frs X.stack) ch H H' s.heap h') (hok : HOk X.prog X.w H' h') (hg : AllBare g')
    (hch : ∀ b ∈ ch, (b ∈ X.ex ∨ X.s₀.heap.objs.size ≤ b) ∧ b ≠ X.env.locals ∧ (∀ x c, X.env.cells.lookup x = some c → c ≠ b) ∧ ∀ p ∈ X.pn ++ pins, p.1 ≠ b) :
    Inv X pins σ H' { s with heap := h', gens := g', drawn := d', toks := t' } := by
  obtain ⟨m, ⟨o, es, ep, ho, r⟩, _⟩ := id I.loc
  obtain ⟨sl, hL⟩ := u.any ho I.free fun z => (hch _ z).2.1 rfl
  exact I.step (ch := ch) hch (fun b o hL hb hc e n => u.keep b o e n (fun z => (List.mem_cons.mp (I.stkSub b z)).elim hL hb) hc) (fun b o _ _ hc e n => u.any e n hc) (fun b o hc e n => u.free b o e n hc) (fun b o hc e => u.there b o e hc) u.tups u.frzs u.tbls (fun m' hm => by
    obtain ⟨o', es', ep', ho', r'⟩ := hm
    rw [ho] at ho'; cases ho'
    exact ⟨_, es', ep', hL, r'⟩) hok hg
/-- an untracked record of ours (an iterator) has turned -/
theorem Inv.turned {t' : Nat} {it : Addr} (I : Inv X pins σ H s) (k : ∀ b o, b ≠ it → s.heap.get? b = some o → h'.get? b = some o) (hn : H it = none) (hL : it ≠ X.env.locals)
    (h1 : it ∈ X.ex ∨ X.s₀.heap.objs.size ≤ it) (h2 : ∀ x c, X.env.cells.lookup x = some c → c ≠ it) (h3 : ∀ p ∈ X.pn ++ pins, p.1 ≠ it) : Inv X pins σ H { s with heap := h', toks := t' } := by
  have nit : ∀ b u, H b = some u → b ≠ it := fun b u e z => by rw [z, hn] at e; cases e
  refine I.step (g' := s.gens) (d' := s.drawn) (ch := [it]) (fun b hb => ?_) (fun b o _ _ hc e _ => k b o (fun z => hc (by simp [z])) e) (fun b o _ _ hc e _ => ⟨o.slots, k b o (fun z => hc (by simp [z])) e⟩) (fun _ _ _ _ n => n)
    (fun b o hc e => ⟨o, k b o (fun z => hc (by simp [z])) e⟩) (fun _ _ e => e) (fun _ _ _ e => e) (fun b ps e => ⟨#[], by rw [e]; simp⟩) (fun m hm => ?_) (fun b u e => ?_) I.bare
  · have e : b = it := by simpa using hb
    subst e
    exact ⟨h1, hL, h2, h3⟩
  · obtain ⟨o, es, ep, ho, r⟩ := hm
    exact ⟨o, es, ep, k _ o (Ne.symm hL) ho, r⟩
  · refine (I.hok b u e).stay (fun c v hc q => k c v ?_ q) (fun _ q => q) fun _ _ q => q
    rcases hc with z | z
    · rw [z]; exact nit b u e
    · exact nit c _ z
theorem Inv.tok (I : Inv X pins σ H s) (t : Nat) : Inv X pins σ H { s with toks := t } := I.un (h' := s.heap) (t' := t) Un.refl I.hok
/-- all objects kept -/
theorem Inv.kept {t' : Nat} (I : Inv X pins σ H s) (k : ∀ b u, s.heap.get? b = some u → h'.get? b = some u) : Inv X pins σ H { s with heap := h', toks := t' } := I.un (Un.kept k) (I.hok.kept k)
/-- a new object laid and tracked -/
theorem Inv.laid {a : Addr} {o : HO} {t' : Nat} (I : Inv X pins σ H s) (k : ∀ b u, s.heap.get? b = some u → h'.get? b = some u) (hp : s.heap.objs.size ≤ a) (new : ObjOk X.prog X.w (upd H a o) h' a o) :
    Inv X pins σ (upd H a o) { s with heap := h', toks := t' } := I.un (Un.laid k hp (I.hok.fresh hp)) (I.hok.laid k hp new)
/-- an object written -/
theorem Inv.write {x e : Addr} {o : HO} {t' : Nat} (I : Inv X pins σ H s) (mu : Mut (H x)) (he : e = x ∨ H e = some (.own x)) (k : ∀ b u, b ≠ e → s.heap.get? b = some u → h'.get? b = some u) (heo : ∃ u, h'.get? e = some u)
    (new : ObjOk X.prog X.w (upd H x o) h' x o) : Inv X pins σ (upd H x o) { s with heap := h', toks := t' } := I.un (Un.write mu he k heo) (I.hok.write mu he k heo new)
theorem Inv.pins_of {pins' : List (Addr × Obj)} (I : Inv X pins σ H s) (h : ∀ p ∈ pins', s.heap.get? p.1 = some p.2 ∧ H p.1 = none ∧ p.1 ≠ X.env.locals ∧ p.1 ∉ X.fs ∧ ∀ v, p.2.data ≠ .cell v) : Inv X pins' σ H s :=
  ⟨I.ok, I.os, I.bare, I.base, I.loc, I.cell, I.free, I.freeC, fun p hp => (List.mem_append.mp hp).elim (fun z => I.pin p (List.mem_append_left _ z)) (h p), I.hok, I.len⟩

theorem nodup_ix {N : List Str} (hN : N.Nodup) {i j : Nat} {x : Str} (a : N[i]? = some x) (b : N[j]? = some x) : i = j := by
  obtain ⟨h1, e1⟩ := List.getElem?_eq_some_iff.mp a
  obtain ⟨h2, e2⟩ := List.getElem?_eq_some_iff.mp b
  exact (List.getElem_inj hN).mp (e1.trans e2.symm)

/-- a name is stored; what changed -/
theorem store_ok2 {M : Model} {A : Around} {E : Value → Shared → Prop} {i : Nat} {x : Str} {v : V} {u : Value} {Q : Unit → Shared → Prop} (I : Inv X pins σ H s) (hN : X.N.Nodup) (hi : X.N[i]? = some x) (hx : Loc X.env.scope x) (r : RelV v u)
    (h : ∀ s', Inv X pins (σ.set i (some v)) H s' → (∃ a, Heap.SameBut a s.heap s'.heap ∧ (a = X.env.locals ∨ X.env.cells.lookup x = some a)) → Q () s') (hf : X.fn x = true ∨ X.env.scope.names.lookup x = some .local := by first | exact .inl rfl | exact .inr rfl | assumption) : wpAny M A (storeName X.env x u) Q E s := by
  obtain ⟨m, hn, hl⟩ := id I.loc
  have hcls : (X.env.scope.kind == .class || (X.env.scope.kind == .module && X.env.locals != X.env.globals)) = false := by rw [I.ok.kind]; rfl
  have hiσ : i < σ.length := by rw [I.len]; exact (List.getElem?_eq_some_iff.mp hi).1
  have cne := I.cne
  have tracked : ∀ {a : Addr} {h' : Heap}, (∃ o, s.heap.get? a = some o ∧ H a = none) → Heap.SameBut a s.heap h' → HOk X.prog X.w H h' := fun {a h'} ha hs b ob e => by
    obtain ⟨_, _, hfree⟩ := ha
    refine (I.hok b ob e).stay (fun c w' hc q => (hs.2 c ?_).trans q) (fun _ q => q) fun _ _ q => q
    rintro rfl
    rcases hc with rfl | hc
    · rw [hfree] at e; cases e
    · rw [hfree] at hc; cases hc
  rcases hx with hk | hk
  · refine wpAny_storeName_local hk hn (fun h' hn' hs => ?_) hcls
    obtain ⟨oL, _, _, hoL, _⟩ := id hn
    refine h _ ⟨I.ok, I.os, I.bare, ⟨fun b o e n hb hx => ?_, fun b o e n hb hx => ?_, I.base.free, fun b o e hx => ?_, I.base.tups, I.base.frzs, I.base.tbls⟩, ⟨_, hn', fun j y v' e1 e2 e3 => ?_⟩, fun y c e => ?_, I.free, I.freeC, fun p hp => ?_, tracked ⟨oL, hoL, I.free⟩ hs, by simpa using I.len⟩ ⟨_, hs, .inl rfl⟩
    · exact (hs.2 b (Nat.ne_of_lt (Nat.lt_of_lt_of_le (Heap.lt_size e) I.ok.above))).trans (I.base.keep b o e n hb hx)
    · obtain ⟨sl, e1⟩ := I.base.slot b o e n hb hx
      exact ⟨sl, (hs.2 b (Nat.ne_of_lt (Nat.lt_of_lt_of_le (Heap.lt_size e) I.ok.above))).trans e1⟩
    · obtain ⟨o', e1⟩ := I.base.there b o e hx
      exact ⟨o', (hs.2 b (Nat.ne_of_lt (Nat.lt_of_lt_of_le (Heap.lt_size e) I.ok.above))).trans e1⟩
    · by_cases hj : j = i
      · subst hj
        rw [hi] at e1; cases e1
        rw [List.getElem?_set_self hiσ] at e2
        cases e2
        exact ⟨u, r, .inl ⟨hk, by simp⟩⟩
      · rw [List.getElem?_set_ne (Ne.symm hj)] at e2
        obtain ⟨u', r', q⟩ := hl j y v' e1 e2 e3
        refine ⟨u', r', ?_⟩
        rcases q with ⟨k, e⟩ | ⟨k, c, e, z⟩
        · refine .inl ⟨k, ?_⟩
          have : y ≠ x := fun e => hj (nodup_ix hN e1 (e ▸ hi))
          simp [this, e]
        · exact .inr ⟨k, c, e, z.sameBut hs (cne y c e)⟩
    · obtain ⟨w', z⟩ := I.cell y c e
      exact ⟨w', z.sameBut hs (cne y c e)⟩
    · obtain ⟨e, n, ne, nf, d⟩ := I.pin p hp
      exact ⟨(hs.2 p.1 ne).trans e, n, ne, nf, d⟩
  · have hfn : X.fn x = true := by
      rcases hf with z | z
      · exact z
      · rw [z] at hk; cases hk
    obtain ⟨c, hc⟩ := I.ok.has x (.inl hk)
    obtain ⟨w', z⟩ := I.cell x c hc
    refine wpAny_storeName_cell I.ok.kind hk hc z (fun h' hc' hs => ?_)
    obtain ⟨oc, hoc, hocd⟩ := id z
    refine h { s with heap := h' } ⟨I.ok, I.os, I.bare, ⟨fun b o e n hb hx => ?_, fun b o e n hb hx => ?_, I.base.free, fun b o e hx => ?_, I.base.tups, I.base.frzs, I.base.tbls⟩, ⟨m, hn.sameBut hs (Ne.symm (cne x c hc)), fun j y v' e1 e2 e3 => ?_⟩, fun y c' e => ?_, I.free, I.freeC, fun p hp => ?_, tracked ⟨oc, hoc, I.freeC x c hc⟩ hs, by simpa using I.len⟩ ⟨c, hs, .inr hc⟩
    · exact (hs.2 b (Nat.ne_of_lt (Nat.lt_of_lt_of_le (Heap.lt_size e) (I.ok.cab x c hfn hc)))).trans (I.base.keep b o e n hb hx)
    · obtain ⟨sl, e1⟩ := I.base.slot b o e n hb hx
      exact ⟨sl, (hs.2 b (Nat.ne_of_lt (Nat.lt_of_lt_of_le (Heap.lt_size e) (I.ok.cab x c hfn hc)))).trans e1⟩
    · obtain ⟨o', e1⟩ := I.base.there b o e hx
      exact ⟨o', (hs.2 b (Nat.ne_of_lt (Nat.lt_of_lt_of_le (Heap.lt_size e) (I.ok.cab x c hfn hc)))).trans e1⟩
    · by_cases hj : j = i
      · subst hj
        rw [hi] at e1; cases e1
        rw [List.getElem?_set_self hiσ] at e2
        cases e2
        exact ⟨u, r, .inr ⟨.inl hk, c, hc, hc'⟩⟩
      · rw [List.getElem?_set_ne (Ne.symm hj)] at e2
        obtain ⟨u', r', q⟩ := hl j y v' e1 e2 e3
        refine ⟨u', r', ?_⟩
        rcases q with q | ⟨k, c', e, z'⟩
        · exact .inl q
        · refine .inr ⟨k, c', e, z'.sameBut hs ?_⟩
          rintro rfl
          exact hj (nodup_ix hN e1 (I.ok.inj _ _ _ e hc ▸ hi))
    · by_cases hcc : c' = c
      · subst hcc; exact ⟨_, hc'⟩
      · obtain ⟨w2, z2⟩ := I.cell y c' e
        exact ⟨w2, z2.sameBut hs hcc⟩
    · obtain ⟨e, n, ne, nf, d⟩ := I.pin p hp
      refine ⟨(hs.2 p.1 ?_).trans e, n, ne, nf, d⟩
      intro q
      rw [q, hoc] at e
      have q' : oc = p.2 := Option.some.inj e
      exact d w' (by rw [← q']; exact hocd)
theorem store_ok {M : Model} {A : Around} {E : Value → Shared → Prop} {i : Nat} {x : Str} {v : V} {u : Value} {Q : Unit → Shared → Prop} (I : Inv X pins σ H s) (hN : X.N.Nodup) (hi : X.N[i]? = some x) (hx : Loc X.env.scope x) (r : RelV v u)
    (h : ∀ s', Inv X pins (σ.set i (some v)) H s' → Q () s') (hf : X.fn x = true ∨ X.env.scope.names.lookup x = some .local := by first | exact .inl rfl | exact .inr rfl | assumption) : wpAny M A (storeName X.env x u) Q E s :=
  store_ok2 I hN hi hx r (fun s' I' _ => h s' I') hf
/-- behind a call or a block, the state as it is -/
theorem Inv.call' {s' : Shared} {ch : List Addr} (I : Inv X pins σ H s) (ho : s'.os = s.os) (u : Un (frs X.stack) ch H H' s.heap s'.heap) (hok : HOk X.prog X.w H' s'.heap) (hg : AllBare s'.gens)
    (hch : ∀ b ∈ ch, (b ∈ X.ex ∨ X.s₀.heap.objs.size ≤ b) ∧ b ≠ X.env.locals ∧ (∀ x c, X.env.cells.lookup x = some c → c ≠ b) ∧ ∀ p ∈ X.pn ++ pins, p.1 ≠ b) : Inv X pins σ H' s' := by
  obtain ⟨h', g', d', t', o'⟩ := s'
  have e : o' = s.os := ho
  subst e
  exact I.call (g' := g') (t' := t') (d' := d') u hok hg hch
end

/-! ### the judgements -/
/-- an exception: its class, its own dict's address (where it has one), the abstract heap behind it -/
abbrev XK := Value → Option Addr → Hp → Prop
abbrev St := List (Option V)
abbrev VK := V → Hp → Prop
/-- an expression's reading; a test's; an argument list's -/
abbrev TE := St → Hp → VK → Prop
abbrev TT := St → Hp → (Bool → Hp → Prop) → Prop
abbrev TA := St → Hp → (List V → Hp → Prop) → Prop
/-- what is wanted behind a statement -/
structure Ends where
  nx : St → Hp → Prop
  rt : VK
  bk : St → Hp → Prop := fun _ _ => False
  ct : St → Hp → Prop := fun _ _ => False
abbrev TS := Ends → St → Hp → Prop

def EP (X : Cx) (pins : List (Addr × Obj)) (σ : St) (Q : VK) (u : Value) (s' : Shared) : Prop := ∃ v H', Inv X pins σ H' s' ∧ RelV v u ∧ Q v H'
def TP (X : Cx) (pins : List (Addr × Obj)) (σ : St) (Q : Bool → Hp → Prop) (b : Bool) (s' : Shared) : Prop := ∃ H', Inv X pins σ H' s' ∧ Q b H'
def AP (X : Cx) (pins : List (Addr × Obj)) (σ : St) (Q : List V → Hp → Prop) (us : List Value) (s' : Shared) : Prop := ∃ vs H', Inv X pins σ H' s' ∧ Vals vs us ∧ Q vs H'
def SP (X : Cx) (pins : List (Addr × Obj)) (D : Ends) (f : Flow) (s' : Shared) : Prop :=
  match f with
  | .next => ∃ σ' H', Inv X pins σ' H' s' ∧ D.nx σ' H'
  | .brk => ∃ σ' H', Inv X pins σ' H' s' ∧ D.bk σ' H'
  | .cont => ∃ σ' H', Inv X pins σ' H' s' ∧ D.ct σ' H'
  | .ret u => ∃ v σ' H', Inv X pins σ' H' s' ∧ RelV v u ∧ D.rt v H'

def PE (X : Cx) (e : Expr) (t : TE) : Prop :=
  ∀ (pins : List (Addr × Obj)) (s : Shared) (σ : St) (H : Hp) (Q : VK), Inv X pins σ H s → t σ H Q → wpAny (model X.prog X.w) X.A (eval e X.env) (EP X pins σ Q) X.xe s
def PT (X : Cx) (e : Expr) (t : TT) : Prop :=
  ∀ (pins : List (Addr × Obj)) (s : Shared) (σ : St) (H : Hp) (Q : Bool → Hp → Prop), Inv X pins σ H s → t σ H Q → wpAny (model X.prog X.w) X.A (isTrue e X.env (eval e X.env)) (TP X pins σ Q) X.xe s
/-- a test whatever its 'whole' is (and, or) -/
def PW (X : Cx) (e : Expr) (t : TT) : Prop :=
  ∀ (whole : Sem Value) (pins : List (Addr × Obj)) (s : Shared) (σ : St) (H : Hp) (Q : Bool → Hp → Prop), Inv X pins σ H s → t σ H Q → wpAny (model X.prog X.w) X.A (isTrue e X.env whole) (TP X pins σ Q) X.xe s
theorem PW.pt {X : Cx} {e : Expr} {t : TT} (h : PW X e t) : PT X e t := h _
/-- an argument list (no star), from the left -/
def PA (X : Cx) (es : List Expr) (t : TA) : Prop :=
  ∀ (pos : Pos) (pins : List (Addr × Obj)) (s : Shared) (σ : St) (H : Hp) (Q : List V → Hp → Prop), Inv X pins σ H s → t σ H Q → wpAny (model X.prog X.w) X.A (spliced (backTo pos (starEach es X.env))) (AP X pins σ Q) X.xe s
def PS (X : Cx) (st : Stmt) (t : TS) : Prop :=
  ∀ (pins : List (Addr × Obj)) (s : Shared) (σ : St) (H : Hp) (D : Ends), Inv X pins σ H s → t D σ H → wpAny (model X.prog X.w) X.A (exec st X.env) (SP X pins D) X.xe s
def PSs (X : Cx) (st : List Stmt) (t : TS) : Prop :=
  ∀ (pins : List (Addr × Obj)) (s : Shared) (σ : St) (H : Hp) (D : Ends), Inv X pins σ H s → t D σ H → wpAny (model X.prog X.w) X.A (execs st X.env) (SP X pins D) X.xe s
/-- weaken the end -/
theorem thn {α : Type} {t : Sem α} {Q Q' : α → Shared → Prop} {M : Model} {A : Around} {E : Value → Shared → Prop} {s : Shared} (h : wpAny M A t Q E s) (hQ : ∀ a s, Q a s → Q' a s) : wpAny M A t Q' E s := wpAny_mono h hQ fun _ _ x => x
end L2

namespace L2
open PySem PySem.Spec PyProof.Rows
section
variable {X : Cx}

/-! ### names and constants -/
def tVar (i : Nat) : TE := fun σ H Q => ∃ v, σ[i]? = some (some v) ∧ Q v H
def tC (v : V) : TE := fun _ H Q => Q v H
theorem pe_var {i : Nat} {x : Str} {pos : Pos} (hN : X.N[i]? = some x) (hv : Vis X.env.scope x) (hd : (x == ("__debug__" : Str)) = false := by decide) (hcd : (x == ("__classdict__" : Str)) = false := by decide) : PE X (.Name x pos) (tVar i) := by
  intro pins s σ H Q I h
  obtain ⟨v, e, h⟩ := h
  obtain ⟨m, hn, hl⟩ := I.loc
  obtain ⟨u, r, l⟩ := hl i x v hN e hv
  have fin : EP X pins σ Q u s := ⟨v, H, I, r, h⟩
  rcases l with ⟨hk, hm⟩ | ⟨hk, c, hc, hcell⟩
  · exact wpAny_Name (wpAny_loadName_local I.ok.kind hk hn hm fin) hd
  · rcases hk with hk | hk
    · exact wpAny_Name (wpAny_loadName_cell I.ok.kind hk hc hcell fin) hd
    · exact wpAny_Name (wpAny_loadName_free I.ok.kind hk hc hcell fin hcd) hd
theorem pe_int {i j pos} : PE X (.Constant (.int i) j pos) (tC (.int i)) := fun _ _ _ H _ I h => wpAny_Constant_int ⟨.int i, H, I.tok _, ⟨_, rfl⟩, h⟩
theorem pe_bl {b j pos} : PE X (.Constant (.bool b) j pos) (tC (.bl b)) := fun _ _ _ H _ I h => Constant_bool ⟨.bl b, H, I, rfl, h⟩
theorem pe_non {j pos} : PE X (.Constant .none j pos) (tC .non) := fun _ _ _ H _ I h => Constant_none ⟨.non, H, I, rfl, h⟩
theorem pe_str {x j pos} : PE X (.Constant (.str x) j pos) (tC (.str x)) := fun _ _ _ H _ I h => Calls.Constant_str ⟨.str x, H, I.tok _, ⟨_, rfl⟩, h⟩

/-- a global name of the def -/
def Gl (X : Cx) (x : Str) : Prop := X.env.kindOf x = some .globalImplicit
theorem ld_glob {E : Value → Shared → Prop} {pins : List (Addr × Obj)} {s : Shared} {σ : St} {H : Hp} {x : Str} {u : Value} {pos : Pos} {Q : Value → Shared → Prop} (I : Inv X pins σ H s) (hg : Gl X x) (hm : X.mg x = some u) (h : Q u s)
    (hd : (x == ("__debug__" : Str)) = false := by decide) : wpAny (model X.prog X.w) X.A (eval (.Name x pos) X.env) Q E s :=
  Calls.Name_function_global I.ok.kind hg (Calls.loadGlobal_global (by rw [I.ok.glob]; exact I.mod.glob.keeps I.bk) hm h) hd
theorem ld_blt {E : Value → Shared → Prop} {pins : List (Addr × Obj)} {s : Shared} {σ : St} {H : Hp} {x : Str} {u : Value} {pos : Pos} {Q : Value → Shared → Prop} (I : Inv X pins σ H s) (hg : Gl X x) (hm : X.mg x = none) (hv : bootBuiltins x = some u) (h : Q u s)
    (hn : x ≠ "__name__" := by decide) (hd : (x == ("__debug__" : Str)) = false := by decide) : wpAny (model X.prog X.w) X.A (eval (.Name x pos) X.env) Q E s := by
  obtain ⟨mb, h1, h2⟩ := I.mod.blt
  exact Calls.Name_function_global I.ok.kind hg (Calls.loadGlobal_builtin (by rw [I.ok.glob]; exact I.mod.glob.keeps I.bk) hm (by rw [I.ok.blt]; exact h1.keeps I.bk) ((h2 x hn).trans hv) h) hd
/-- a module's constant, a class, a function, as a value -/
theorem pe_glob {x : Str} {v : V} {u : Value} {pos : Pos} (hg : Gl X x) (hm : X.mg x = some u) (r : RelV v u) (hd : (x == ("__debug__" : Str)) = false := by decide) : PE X (.Name x pos) (tC v) :=
  fun _ _ _ H _ I h => ld_glob I hg hm ⟨v, H, I, r, h⟩ hd
theorem pe_bltn {x : Str} {v : V} {u : Value} {pos : Pos} (hg : Gl X x) (hm : X.mg x = none) (hv : bootBuiltins x = some u) (r : RelV v u) (hn : x ≠ "__name__" := by decide) (hd : (x == ("__debug__" : Str)) = false := by decide) : PE X (.Name x pos) (tC v) :=
  fun _ _ _ H _ I h => ld_blt I hg hm hv ⟨v, H, I, r, h⟩ hn hd

/-! ### arithmetic -/
/-- two ints -/
def t2I (ta tb : TE) (k : Int → Int → Hp → Prop) : St → Hp → Prop := fun σ H => ta σ H fun x H1 => tb σ H1 fun y H2 => ∃ i j, x = .int i ∧ y = .int j ∧ k i j H2
def tAdd (ta tb : TE) : TE := fun σ H Q => t2I ta tb (fun i j H2 => Q (.int (i + j)) H2) σ H
def tSub (ta tb : TE) : TE := fun σ H Q => t2I ta tb (fun i j H2 => Q (.int (i - j)) H2) σ H
/-- the left factor below 2^64 -/
def tMul (ta tb : TE) : TE := fun σ H Q => t2I ta tb (fun i j H2 => (-(2 ^ 64) < i ∧ i < 2 ^ 64) ∧ Q (.int (i * j)) H2) σ H
variable {a b : Expr} {ta tb : TE} {pos : Pos}
/-! ### comparisons -/
def PC (X : Cx) (op : CmpOp) (a b : Expr) (t : TE) : Prop :=
  ∀ (pins : List (Addr × Obj)) (s : Shared) (σ : St) (H : Hp) (Q : VK), Inv X pins σ H s → t σ H Q →
    wpAny (model X.prog X.w) X.A (eval a X.env) (fun v s₁ => wpAny (model X.prog X.w) X.A (eval b X.env) (fun u s₂ => wpAny (model X.prog X.w) X.A (compareOp op v u) (EP X pins σ Q) X.xe s₂) X.xe s₁) X.xe s
def tCmp (p : Int → Int → Bool) (ta tb : TE) : TE := fun σ H Q => t2I ta tb (fun i j H2 => Q (.bl (p i j)) H2) σ H
abbrev tLt : TE → TE → TE := tCmp fun i j => decide (i < j)
abbrev tLe : TE → TE → TE := tCmp fun i j => decide (i ≤ j)
abbrev tGt : TE → TE → TE := tCmp fun i j => decide (j < i)
abbrev tGe : TE → TE → TE := tCmp fun i j => decide (j ≤ i)
abbrev tEqI : TE → TE → TE := tCmp fun i j => decide (i = j)
abbrev tNeI : TE → TE → TE := tCmp fun i j => !decide (i = j)
/-- is None -/
def tIsN (ta : TE) : TE := fun σ H Q => ta σ H fun x H1 => Q (.bl (decide (x = .non))) H1
def tNotN (ta : TE) : TE := fun σ H Q => ta σ H fun x H1 => Q (.bl (!decide (x = .non))) H1
/-- a comparison as a value, as a test -/
def tB (t : TE) : TT := fun σ H Q => t σ H fun x H1 => ∃ c, x = .bl c ∧ Q c H1
/-- an expression whose value is a bool, as a test -/
theorem pt_val {e : Expr} {t : TE} (h : PE X e t) (he : ∀ whole, isTrue e X.env whole = (do let v ← whole; standAt e.pos; holding [v] (truthy v)) := by intro _; rfl) : PT X e (tB t) := by
  intro pins s σ H Q I hw
  refine isTrue_plain (thn (h pins s σ H _ I hw) fun v s1 ⟨x, H1, I1, r1, q1⟩ => ?_) (he _)
  obtain ⟨d, rfl, q⟩ := q1
  cases r1
  exact wpAny_truthy_bool ⟨H1, I1, q⟩

/-! ### and, or, not -/
variable {tA tB' : TT} {rest : List Expr}
def tAnd (t u : TT) : TT := fun σ H Q => t σ H fun c H1 => if c = true then u σ H1 Q else Q false H1
def tOr (t u : TT) : TT := fun σ H Q => t σ H fun c H1 => if c = true then Q true H1 else u σ H1 Q
def tNot (t : TT) : TT := fun σ H Q => t σ H fun c H1 => Q (!c) H1
theorem pw_and1 (ha : PT X a tA) : PW X (.BoolOp .And [a] pos) tA := by
  intro wh pins s σ H Q I h
  refine isTrue_and (thn (ha pins s σ H Q I h) fun c s1 e => ?_)
  cases c with
  | true => exact isTrue_and_nil e
  | false => exact e
theorem pw_or1 (ha : PT X a tA) : PW X (.BoolOp .Or [a] pos) tA := by
  intro wh pins s σ H Q I h
  refine isTrue_or (thn (ha pins s σ H Q I h) fun c s1 e => ?_)
  cases c with
  | false => exact isTrue_or_nil e
  | true => exact e
theorem pw_and (ha : PT X a tA) (hb : PW X (.BoolOp .And (b :: rest) pos) tB') : PW X (.BoolOp .And (a :: b :: rest) pos) (tAnd tA tB') := by
  intro wh pins s σ H Q I h
  refine isTrue_and (thn (ha pins s σ H _ I h) fun c s1 ⟨H1, I1, q1⟩ => ?_)
  cases c with
  | true => exact hb wh pins s1 σ H1 Q I1 q1
  | false => exact ⟨H1, I1, q1⟩
theorem pw_or (ha : PT X a tA) (hb : PW X (.BoolOp .Or (b :: rest) pos) tB') : PW X (.BoolOp .Or (a :: b :: rest) pos) (tOr tA tB') := by
  intro wh pins s σ H Q I h
  refine isTrue_or (thn (ha pins s σ H _ I h) fun c s1 ⟨H1, I1, q1⟩ => ?_)
  cases c with
  | true => exact ⟨H1, I1, q1⟩
  | false => exact hb wh pins s1 σ H1 Q I1 q1
theorem pt_not (ha : PT X a tA) : PT X (.UnaryOp .Not a pos) (tNot tA) := by
  intro pins s σ H Q I h
  exact isTrue_not (ha pins s σ H (fun c H1 => Q (!c) H1) I h)
/-- .. as values (bools) -/
def tAndV (ta tb : TE) : TE := fun σ H Q => ta σ H fun x H1 => ∃ c, x = .bl c ∧ if c = true then tb σ H1 Q else Q (.bl false) H1
def tOrV (ta tb : TE) : TE := fun σ H Q => ta σ H fun x H1 => ∃ c, x = .bl c ∧ if c = true then Q (.bl true) H1 else tb σ H1 Q
def tNotV (ta : TE) : TE := fun σ H Q => ta σ H fun x H1 => ∃ c, x = .bl c ∧ Q (.bl (!c)) H1
theorem pe_one {op} {t : TE} (h : PE X a t) : PE X (.BoolOp op [a] pos) t := fun pins s σ H Q I hw => BoolOp_one (h pins s σ H Q I hw)
theorem pe_and (ha : PE X a ta) (hb : PE X (.BoolOp .And (b :: rest) pos) tb) : PE X (.BoolOp .And (a :: b :: rest) pos) (tAndV ta tb) := by
  intro pins s σ H Q I h
  refine BoolOp_and (thn (ha pins s σ H _ I h) fun v s1 ⟨x, H1, I1, r1, q1⟩ => ?_)
  obtain ⟨c, rfl, q1⟩ := q1
  cases r1
  refine wpAny_truthy_bool ?_
  cases c with
  | true => exact hb pins s1 σ H1 Q I1 q1
  | false => exact ⟨.bl false, H1, I1, rfl, q1⟩
/-- a if t else b -/
def tIf (t : TT) (ta tb : TE) : TE := fun σ H Q => t σ H fun c H1 => if c = true then ta σ H1 Q else tb σ H1 Q
theorem pe_ifExp {c : Expr} (hc : PT X c tA) (ha : PE X a ta) (hb : PE X b tb) : PE X (.IfExp c a b pos) (tIf tA ta tb) := by
  intro pins s σ H Q I h
  refine wpAny_IfExp (thn (hc pins s σ H _ I h) fun d s1 ⟨H1, I1, q1⟩ => ?_)
  cases d with
  | true => exact ha pins s1 σ H1 Q I1 q1
  | false => exact hb pins s1 σ H1 Q I1 q1
end
end L2

namespace L2
open PySem PySem.Spec PyProof.Rows

/-! ### a list, a tuple that is read: tracked, frozen, or an object of the module -/
def SqL (K : PySem.W.Frag) (H : Hp) (a : Addr) (xs : List V) : Prop :=
  Rd H a (.lst xs) ∨
    ∃ (o : Obj) (its : Array Value) (n : Nat), K.lookup a = some o ∧ o.cls = .type "list" ∧ o.dict = none ∧ o.data = .seq its n ∧ its.size ≤ sizeLine ∧ Vals xs its.toList
def SqT (K : PySem.W.Frag) (H : Hp) (a : Addr) (xs : List V) : Prop :=
  Rd H a (.tup xs) ∨
    ∃ (o : Obj) (its : Array Value) (n : Nat), K.lookup a = some o ∧ o.cls = .type "tuple" ∧ o.data = .seq its n ∧ its.size ≤ sizeLine ∧ Vals xs its.toList
def absV : Value → Option V
  | .none => some .non
  | .bool b => some (.bl b)
  | .int i _ => some (.int i)
  | .str x _ => some (.str x)
  | .bytes b _ => some (.byt b)
  | .float b _ => some (.flt b)
  | .ref a => some (.ref a)
  | .type n => some (.ty n)
  | _ => none
theorem RelV.abs {x : V} {u : Value} (r : RelV x u) : absV u = some x := by
  cases x with
  | non => cases r; rfl
  | bl _ => cases r; rfl
  | int _ => obtain ⟨t, rfl⟩ := r; rfl
  | str _ => obtain ⟨t, rfl⟩ := r; rfl
  | byt _ => obtain ⟨t, rfl⟩ := r; rfl
  | flt _ => obtain ⟨t, rfl⟩ := r; rfl
  | ref _ => cases r; rfl
  | ty _ => cases r; rfl
theorem RelV.inj {x y : V} {u : Value} (r : RelV x u) (q : RelV y u) : x = y := Option.some.inj (r.abs.symm.trans q.abs)
theorem Vals.inj : ∀ {xs ys : List V} {us : List Value}, Vals xs us → Vals ys us → xs = ys
  | _, _, _, .nil, .nil => rfl
  | _, _, _, .cons r t, .cons r' t' => by rw [r.inj r', Vals.inj t t']
section
variable {X : Cx} {pins : List (Addr × Obj)} {σ : St} {H : Hp} {s : Shared} {a : Addr} {xs ys : List V}
theorem SqL.of {K : PySem.W.Frag} (h : H a = some (.lst xs)) : SqL K H a xs := .inl (.inl h)
theorem SqT.of {K : PySem.W.Frag} (h : H a = some (.tup xs)) : SqT K H a xs := .inl (.inl h)
theorem Inv.list (I : Inv X pins σ H s) (h : SqL X.K H a xs) : ∃ its : List Value, Vals xs its ∧ PlainL s.heap a its.toArray ∧ xs.length ≤ sizeLine := by
  rcases h with h | ⟨o, its, n, hk, hc, hd, hs, hz, r⟩
  · obtain ⟨z, its, n, r, e⟩ := h.ok I.hok
    exact ⟨its, r, ⟨_, n, e, rfl, rfl, rfl⟩, z⟩
  · refine ⟨its.toList, r, ⟨o, n, I.kIn a o hk, hc, hd, by simpa using hs⟩, ?_⟩
    have e := r.length
    simp only [Array.length_toList] at e
    omega
theorem Inv.tuple (I : Inv X pins σ H s) (h : SqT X.K H a xs) : ∃ its : List Value, Vals xs its ∧ IsTup s.heap a its.toArray ∧ xs.length ≤ sizeLine := by
  rcases h with h | ⟨o, its, n, hk, hc, hs, hz, r⟩
  · obtain ⟨z, its, r, p⟩ := h.ok I.hok
    exact ⟨its, r, p, z⟩
  · refine ⟨its.toList, r, ⟨o, I.kIn a o hk, hc, n, by simpa using hs⟩, ?_⟩
    have e := r.length
    simp only [Array.length_toList] at e
    omega
theorem Inv.list_inj (I : Inv X pins σ H s) (h : SqL X.K H a xs) (h' : SqL X.K H a ys) : xs = ys := by
  obtain ⟨its, r, ⟨o, n, e, _, _, d⟩, _⟩ := I.list h
  obtain ⟨its', r', ⟨o', n', e', _, _, d'⟩, _⟩ := I.list h'
  rw [e] at e'; cases e'
  rw [d] at d'
  injection d' with d1 _
  have : its = its' := by simpa using congrArg Array.toList d1
  subst this
  exact r.inj r'
theorem Inv.tuple_inj (I : Inv X pins σ H s) (h : SqT X.K H a xs) (h' : SqT X.K H a ys) : xs = ys := by
  obtain ⟨its, r, ⟨o, e, _, n, d⟩, _⟩ := I.tuple h
  obtain ⟨its', r', ⟨o', e', _, n', d'⟩, _⟩ := I.tuple h'
  rw [e] at e'; cases e'
  rw [d] at d'
  injection d' with d1 _
  have : its = its' := by simpa using congrArg Array.toList d1
  subst this
  exact r.inj r'
end

/-! ### another wish about exceptions -/
abbrev Cx.wish (X : Cx) (E : Value → Shared → Prop) : Cx := { X with xe := E }
/-- no exception leaves -/
abbrev Cx.nox (X : Cx) : Cx := X.wish fun _ _ => False
theorem Cx.Ok.wish {X : Cx} (ok : X.Ok) (E : Value → Shared → Prop) : (X.wish E).Ok :=
  ⟨ok.mod, ok.kind, ok.glob, ok.blt, ok.above, ok.inj, ok.has, ok.cab, ok.hd, ok.frames, ok.stk, ok.exf, ok.bs, ok.bsz, ok.noex, ok.exfs, ok.funs, ok.frf⟩
theorem Cx.Ok.unwish {X : Cx} {E : Value → Shared → Prop} (ok : (X.wish E).Ok) : X.Ok :=
  ⟨ok.mod, ok.kind, ok.glob, ok.blt, ok.above, ok.inj, ok.has, ok.cab, ok.hd, ok.frames, ok.stk, ok.exf, ok.bs, ok.bsz, ok.noex, ok.exfs, ok.funs, ok.frf⟩
section
variable {X : Cx} {pins : List (Addr × Obj)} {σ : St} {H : Hp} {s : Shared} {E : Value → Shared → Prop}
theorem Inv.wish (I : Inv X pins σ H s) (E : Value → Shared → Prop) : Inv (X.wish E) pins σ H s := ⟨I.ok.wish E, I.os, I.bare, I.base, I.loc, I.cell, I.free, I.freeC, I.pin, I.hok, I.len⟩
theorem Inv.unwish (I : Inv (X.wish E) pins σ H s) : Inv X pins σ H s := ⟨I.ok.unwish, I.os, I.bare, I.base, I.loc, I.cell, I.free, I.freeC, I.pin, I.hok, I.len⟩
theorem SP.unwish {D : Ends} {f : Flow} {s' : Shared} (h : SP (X.wish E) pins D f s') : SP X pins D f s' := by
  cases f with
  | next => obtain ⟨σ', H', I, q⟩ := h; exact ⟨σ', H', I.unwish, q⟩
  | brk => obtain ⟨σ', H', I, q⟩ := h; exact ⟨σ', H', I.unwish, q⟩
  | cont => obtain ⟨σ', H', I, q⟩ := h; exact ⟨σ', H', I.unwish, q⟩
  | ret u => obtain ⟨v, σ', H', I, r, q⟩ := h; exact ⟨v, σ', H', I.unwish, r, q⟩
theorem PSs.nox {st : List Stmt} {t : TS} (h : PSs X.nox st t) : PSs X st t := fun pins s σ H D I hw =>
  wpAny_mono (h pins s σ H D (I.wish _) hw) (fun _ _ q => q.unwish) fun _ _ z => False.elim z
end

/-! ### blocks and small statements -/
section
variable {X : Cx} {st : Stmt} {rest : List Stmt} {t u : TS} {e : Expr} {te : TE} {pos : Pos}
def tNext : TS := fun D σ H => D.nx σ H
def tSeq (t u : TS) : TS := fun D σ H => t { D with nx := u D } σ H
theorem pss_nil : PSs X [] tNext := fun _ _ σ H _ I h => wpAny_execs_nil ⟨σ, H, I, h⟩
theorem pss_cons (h1 : PS X st t) (h2 : PSs X rest u) : PSs X (st :: rest) (tSeq t u) := by
  intro pins s σ H D I h
  refine wpAny_execs_cons (thn (h1 pins s σ H { D with nx := u D } I h) fun f s1 q => ?_)
  cases f with
  | next =>
    obtain ⟨σ', H', I', q⟩ := q
    exact h2 pins s1 σ' H' D I' q
  | ret v => exact q
  | brk => exact q
  | cont => exact q
theorem pss_one (h1 : PS X st t) : PSs X [st] t := by
  intro pins s σ H D I h
  refine wpAny_execs_cons (thn (h1 pins s σ H D I h) fun f s1 q => ?_)
  cases f with
  | next => exact wpAny_execs_nil q
  | ret v => exact q
  | brk => exact q
  | cont => exact q
def tBreak : TS := fun D σ H => D.bk σ H
def tCont : TS := fun D σ H => D.ct σ H
/-- in a def's body nothing is shown -/
theorem Inv.quiet {pins : List (Addr × Obj)} {σ : St} {H : Hp} {s : Shared} (I : Inv X pins σ H s) : interactive X.env = false := by simp [interactive, I.ok.kind]
/-- an expression whose value is dropped -/
def tDrop (te : TE) : TS := fun D σ H => te σ H fun _ H1 => D.nx σ H1
theorem ps_expr (he : PE X e te) (hs : swapsWith e none pos.line X.env = pure false := by rfl) : PS X (.Expr e pos) (tDrop te) := by
  intro pins s σ H D I h
  exact wpAny_Expr_any (thn (he pins s σ H _ I h) fun v s1 ⟨x, H1, I1, r1, q1⟩ => ⟨σ, H1, I1, q1⟩) I.quiet hs
def tRet (te : TE) : TS := fun D σ H => te σ H D.rt
theorem ps_ret (he : PE X e te) : PS X (.Return (some e) pos) (tRet te) := by
  intro pins s σ H D I h
  exact wpAny_Return_some (thn (he pins s σ H _ I h) fun v s1 ⟨x, H1, I1, r1, q1⟩ => ⟨x, σ, H1, I1, r1, q1⟩)
def tRetN : TS := fun D _ H => D.rt .non H
def tIfS (c : TT) (t u : TS) : TS := fun D σ H => c σ H fun b H1 => if b = true then t D σ H1 else u D σ H1
theorem ps_if {c : Expr} {a b : List Stmt} {tc : TT} (hc : PT X c tc) (ha : PSs X a t) (hb : PSs X b u) : PS X (.If c a b pos) (tIfS tc t u) := by
  intro pins s σ H D I h
  refine wpAny_If (thn (hc pins s σ H _ I h) fun d s1 ⟨H1, I1, q1⟩ => ?_)
  cases d with
  | true => exact ha pins s1 σ H1 D I1 q1
  | false => exact hb pins s1 σ H1 D I1 q1
/-- code that the proof never comes to -/
def tNever : TS := fun _ _ _ => False
theorem ps_never : PS X st tNever := fun _ _ _ _ _ _ h => h.elim
end

/-! ### targets -/
abbrev TG := V → St → Hp → (St → Hp → Prop) → Prop
abbrev TGs := List V → St → Hp → (St → Hp → Prop) → Prop
def PG (X : Cx) (target : Expr) (t : TG) : Prop :=
  ∀ (pins : List (Addr × Obj)) (s : Shared) (σ : St) (H : Hp) (v : V) (u : Value) (Q : St → Hp → Prop), Inv X pins σ H s → RelV v u → t v σ H Q →
    wpAny (model X.prog X.w) X.A (assign target X.env u) (fun _ s' => ∃ σ' H', Inv X pins σ' H' s' ∧ Q σ' H') X.xe s
/-- several targets, one after another -/
def PGs (X : Cx) (ts : List Expr) (t : TGs) : Prop :=
  ∀ (pins : List (Addr × Obj)) (s : Shared) (σ : St) (H : Hp) (vs : List V) (us : List Value) (Q : St → Hp → Prop), Inv X pins σ H s → Vals vs us → t vs σ H Q →
    wpAny (model X.prog X.w) X.A (assignInOrder ((assignEach ts X.env).map (·.2)) us) (fun _ s' => ∃ σ' H', Inv X pins σ' H' s' ∧ Q σ' H') X.xe s
/-- o[i] = v, by values -/
abbrev TSet := V → V → V → Hp → (Hp → Prop) → Prop
def PSet (X : Cx) (t : TSet) : Prop :=
  ∀ (pins : List (Addr × Obj)) (s : Shared) (σ : St) (H : Hp) (o i v : V) (ov iv u : Value) (Q : Hp → Prop), Inv X pins σ H s → RelV o ov → RelV i iv → RelV v u → t o i v H Q →
    wpAny (model X.prog X.w) X.A (setItem ov iv u) (fun _ s' => ∃ H', Inv X pins σ H' s' ∧ Q H') X.xe s
/-- a op= b, by values -/
abbrev TIp := V → V → Hp → VK → Prop
def PIp (X : Cx) (op : Operator) (t : TIp) : Prop :=
  ∀ (pins : List (Addr × Obj)) (s : Shared) (σ : St) (H : Hp) (x y : V) (v u : Value) (Q : VK), Inv X pins σ H s → RelV x v → RelV y u → t x y H Q →
    wpAny (model X.prog X.w) X.A (inplaceOp op v u) (EP X pins σ Q) X.xe s
section
variable {X : Cx} {pos : Pos}
def gName (i : Nat) : TG := fun v σ H Q => Q (σ.set i (some v)) H
theorem pg_name {i : Nat} {x : Str} (hN : X.N.Nodup) (hi : X.N[i]? = some x) (hx : Loc X.env.scope x) (hf : X.fn x = true ∨ X.env.scope.names.lookup x = some .local := by first | exact .inl rfl | exact .inr rfl | assumption) : PG X (.Name x pos) (gName i) := by
  intro pins s σ H v u Q I r h
  exact wpAny_assign_Name (store_ok I hN hi hx r (fun s' I' => ⟨_, H, I', h⟩) hf)
def gNil : TGs := fun vs σ H Q => vs = [] ∧ Q σ H
def gCons (t : TG) (u : TGs) : TGs := fun vs σ H Q => ∃ v r, vs = v :: r ∧ t v σ H fun σ' H' => u r σ' H' Q
theorem pgs_nil : PGs X [] gNil := by
  intro pins s σ H vs us Q I r h
  obtain ⟨e, h⟩ := h
  subst e
  cases r
  exact assignInOrder_nil ⟨σ, H, I, h⟩
theorem pgs_cons {e : Expr} {es : List Expr} {t : TG} {u : TGs} (h1 : PG X e t) (h2 : PGs X es u)
    (hs : (assignEach (e :: es) X.env).map (·.2) = assign e X.env :: (assignEach es X.env).map (·.2) := by rfl) : PGs X (e :: es) (gCons t u) := by
  intro pins s σ H vs us Q I r h
  obtain ⟨v, vr, e1, h⟩ := h
  subst e1
  cases r with
  | cons r rr =>
    rw [hs]
    refine assignInOrder_cons (thn (h1 pins s σ H _ _ _ I r h) fun _ s1 ⟨σ1, H1, I1, q1⟩ => ?_)
    exact h2 pins s1 σ1 H1 _ _ Q I1 rr q1
/-- (a, b, ..) = a tuple of that length -/
def gTup (K : PySem.W.Frag) (n : Nat) (t : TGs) : TG := fun v σ H Q => ∃ a xs, v = .ref a ∧ SqT K H a xs ∧ xs.length = n ∧ t xs σ H Q
theorem pg_tup {es : List Expr} {k : Nat} {t : TGs} {n : Nat} (hc : X.calm = true) (h : PGs X es t)
    (hn : (assignEach es X.env).length = n := by rfl) (hst : (assignEach es X.env).findIdx? (·.1) = none := by rfl) : PG X (.Tuple es k pos) (gTup X.K n t) := by
  intro pins s σ H v u Q I r hw
  obtain ⟨a, xs, e1, hq, hl, hw⟩ := hw
  subst e1
  cases r
  obtain ⟨its, rv, ht, hz⟩ := I.tuple hq
  refine assign_Tuple_tuple (I.ok.hd hc) ht (by simp [hn, ← hl, rv.length]) hst fun h' hx => ?_
  have I1 : Inv X pins σ H { s with heap := h' } := I.kept (t' := s.toks) fun b o e => hx b o (Nat.ne_of_lt (Heap.lt_size e)) e
  exact h pins _ σ H xs _ Q I1 (by simpa using rv) hw
/-- o[i] = .. -/
def gSub (to ti : TE) (t : TSet) : TG := fun v σ H Q => to σ H fun o H1 => ti σ H1 fun i H2 => t o i v H2 fun H3 => Q σ H3
theorem pg_sub {o i : Expr} {to ti : TE} {t : TSet} (ho : PE X o to) (hi : PE X i ti) (hs : PSet X t)
    (ha : ∀ v, assign (.Subscript o i pos) X.env v = (do
      let ov ← holding [v] (eval o X.env)
      let iv ← holding [v, ov] (eval i X.env)
      standAt pos
      holding [v, ov, iv] (setItem ov iv v)
      release [v, ov, iv] []) := by intro _; rfl) : PG X (.Subscript o i pos) (gSub to ti t) := by
  intro pins s σ H v u Q I r h
  rw [ha]
  refine wpAny_bind (wpAny_holding (thn (ho pins s σ H _ I h) fun ov s1 ⟨x, H1, I1, r1, q1⟩ => ?_))
  refine wpAny_bind (wpAny_holding (thn (hi pins s1 σ H1 _ I1 q1) fun iv s2 ⟨y, H2, I2, r2, q2⟩ => ?_))
  refine wpAny_bind (wpAny_standAt (wpAny_bind (wpAny_holding (thn (hs pins s2 σ H2 x y v ov iv u _ I2 r1 r2 r q2) fun _ s3 ⟨H3, I3, q3⟩ => ?_))))
  exact wpAny_release ⟨σ, H3, I3, q3⟩
/-- target = value -/
def tAsg (te : TE) (g : TG) : TS := fun D σ H => te σ H fun x H1 => g x σ H1 D.nx
theorem ps_asg {tg e : Expr} {te : TE} {g : TG} (he : PE X e te) (hg : PG X tg g) (hs : swapsWithSole [tg] e pos.line X.env = pure false := by rfl) (hw : swappedStores [tg] e X.env = pure none := by rfl)
    (h1 : (assignEach [tg] X.env).map (·.2) = [assign tg X.env] := by rfl) : PS X (.Assign [tg] e pos) (tAsg te g) := by
  intro pins s σ H D I h
  refine wpAny_Assign_stores (thn (he pins s σ H _ I h) fun v s1 ⟨x, H1, I1, r1, q1⟩ => ?_) hs hw
  rw [h1]
  exact thn (hg pins s1 σ H1 x v _ I1 r1 q1) fun _ s2 q => q
/-- name = value -/
theorem ps_set {i : Nat} {x : Str} {e : Expr} {te : TE} {pos' : Pos} (hN : X.N.Nodup) (hi : X.N[i]? = some x) (hx : Loc X.env.scope x) (he : PE X e te) (hs : swapsWith e (some (.Name x pos')) pos.line X.env = pure false := by rfl) (hf : X.fn x = true ∨ X.env.scope.names.lookup x = some .local := by first | exact .inl rfl | exact .inr rfl | assumption) :
    PS X (.Assign [.Name x pos'] e pos) (tAsg te (gName i)) := by
  intro pins s σ H D I h
  refine wpAny_Assign_Name (thn (he pins s σ H _ I h) fun v s1 ⟨y, H1, I1, r1, q1⟩ => ?_) hs
  exact store_ok I1 hN hi hx r1 (fun s2 I2 => ⟨_, H1, I2, q1⟩) hf
/-- a, b = x, y with plain local names: stored from the right; the pair itself is not tracked (the opening rows as in PyProof/Rows/TupAssign.lean:23) -/
def tPar (i j : Nat) (ta : TA) : TS := fun D σ H => ta σ H fun vs H1 => ∃ v w, vs = [v, w] ∧ D.nx ((σ.set i (some v)).set j (some w)) H1
/-- name op= e -/
def tAug (i : Nat) (te : TE) (ti : TIp) : TS := fun D σ H => ∃ x, σ[i]? = some (some x) ∧ te σ H fun y H1 => ti x y H1 fun z H2 => D.nx (σ.set i (some z)) H2
/-- o[i] op= e -/
def tAugS (to ti te : TE) (tget : V → V → Hp → VK → Prop) (tip : TIp) (tset : TSet) : TS := fun D σ H => to σ H fun o H1 => ti σ H1 fun i H2 => tget o i H2 fun x H3 => te σ H3 fun y H4 => tip x y H4 fun z H5 => tset o i z H5 fun H6 => D.nx σ H6
/-- o[i], by values -/
def PGet (X : Cx) (t : V → V → Hp → VK → Prop) : Prop :=
  ∀ (pins : List (Addr × Obj)) (s : Shared) (σ : St) (H : Hp) (o i : V) (ov iv : Value) (Q : VK), Inv X pins σ H s → RelV o ov → RelV i iv → t o i H Q →
    wpAny (model X.prog X.w) X.A (getItem ov iv) (EP X pins σ Q) X.xe s
/-- ints -/
def ipI (f : Int → Int → Int) : TIp := fun x y H Q => ∃ i j, x = .int i ∧ y = .int j ∧ Q (.int (f i j)) H
end

/-! ### while -/
section
variable {X : Cx} {pos : Pos}
/-- the invariant W with its measure -/
def tWhile (c : TT) (tb : TS) : TS := fun D σ H => ∃ W : Nat → St → Hp → Prop, (∃ m, W m σ H) ∧ ∀ m σ H, W m σ H →
  c σ H fun b H1 => if b = true then ∃ N : St → Hp → Prop, (∀ σ' H', N σ' H' → ∃ m', m' < m ∧ W m' σ' H') ∧ tb { D with nx := N, ct := N, bk := D.nx } σ H1 else D.nx σ H1
theorem ps_while {c : Expr} {body : List Stmt} {tc : TT} {tb : TS} (hp : PassesOwn (model X.prog X.w) X.A X.env X.xe) (hc : PT X c tc) (hb : PSs X body tb) : PS X (.While c body [] pos) (tWhile tc tb) := by
  intro pins s σ H D I h
  obtain ⟨W, ⟨m0, w0⟩, turn⟩ := h
  refine wpAny_While (codeAny_whileLoop (fun n s' => ∃ σ' H', Inv X pins σ' H' s' ∧ W n σ' H') ?_ m0 ⟨σ, H, I, w0⟩)
  rintro n s1 ⟨σ1, H1, I1, w1⟩
  refine wpAny_passesOwn hp (thn (hc pins s1 σ1 H1 _ I1 (turn n σ1 H1 w1)) fun b s2 ⟨H2, I2, q2⟩ => ?_)
  cases b with
  | true =>
    obtain ⟨N, hN, q2⟩ := q2
    rw [if_pos rfl]
    refine wpAny_passesOwn hp (thn (hb pins s2 σ1 H2 _ I2 q2) fun f s3 q3 => ?_)
    cases f with
    | next =>
      obtain ⟨σ3, H3, I3, n3⟩ := q3
      obtain ⟨m', hm, w3⟩ := hN σ3 H3 n3
      exact ⟨m', hm, σ3, H3, I3, w3⟩
    | cont =>
      obtain ⟨σ3, H3, I3, n3⟩ := q3
      obtain ⟨m', hm, w3⟩ := hN σ3 H3 n3
      exact ⟨m', hm, σ3, H3, I3, w3⟩
    | brk => exact q3
    | ret v => exact q3
  | false =>
    rw [if_neg Bool.false_ne_true]
    exact wpAny_execs_nil ⟨σ1, H2, I2, q2⟩
end

/-! ### what a loop or a comprehension walks -/
/-- at turn i: it yields x (the heap may grow), or it stops -/
structure It where
  go : Nat → Hp → Prop
  yld : Nat → Hp → V → Hp → Prop
  stop : Nat → Hp → Prop
/-- the iterator's own objects may turn: they are not the frame's, not pinned, younger than the entry (or a comprehension's own) -/
def FpOk (X : Cx) (pins : List (Addr × Obj)) (H : Hp) (b : Addr) : Prop :=
  H b = none ∧ b ≠ X.env.locals ∧ b ∉ X.fs ∧ (b ∈ X.ex ∨ X.s₀.heap.objs.size ≤ b) ∧ (∀ x c, X.env.cells.lookup x = some c → c ≠ b) ∧ ∀ p ∈ X.pn ++ pins, p.1 ≠ b
theorem Inv.fpOk {X : Cx} {pins : List (Addr × Obj)} {σ : St} {H H' : Hp} {s : Shared} {b : Addr} (I : Inv X pins σ H s) (hb : s.heap.objs.size ≤ b) (hn : H' b = none) : FpOk X pins H' b := by
  refine ⟨hn, Nat.ne_of_gt (Nat.lt_of_lt_of_le I.lt hb), I.nofs hb, .inr (Nat.le_trans I.sz hb), fun x c e z => ?_, fun p hp z => ?_⟩
  · obtain ⟨v, q⟩ := I.cell x c e
    exact absurd (Nat.lt_of_lt_of_le q.lt (by rw [z]; exact hb)) (Nat.lt_irrefl _)
  · exact absurd (Nat.lt_of_lt_of_le (Heap.lt_size (I.pin p hp).1) (by rw [z]; exact hb)) (Nat.lt_irrefl _)
structure Turn (P : Program) (w : World) (K : PySem.W.Frag) (tg : Expr) (J : It) (fp : List Addr) (it : Addr) (tn : Nat → Heap → Prop) : Prop where
  mem : it ∈ fp
  obj : ∀ i h, tn i h → ∀ b ∈ fp, ∃ o, h.get? b = some o ∧ ∀ v, o.data ≠ .cell v
  keep : ∀ i h h', tn i h → (∀ b ∈ fp, ∀ o, h.get? b = some o → h'.get? b = some o) → tn i h'
  item : ∀ (X : Cx), X.prog = P → X.w = w → X.K = K → X.calm = true → ∀ (i : Nat) (pins : List (Addr × Obj)) (s : Shared) (σ : St) (H : Hp) (E : Value → Shared → Prop), Inv X pins σ H s → (∀ b ∈ fp, FpOk X pins H b) → tn i s.heap → J.go i H →
    wpAny (model P w) X.A (pyNext (.ref it)) (fun r s1 => ∃ u, r = some u ∧
      wpAny (model P w) X.A (letOwnedTupleGo tg (.ref it) u) (fun _ s2 => ∃ x H', Inv X pins σ H' s2 ∧ RelV x u ∧ J.yld i H x H' ∧ tn (i + 1) s2.heap ∧ ∀ b ∈ fp, H' b = none) E s1) E s
  done : ∀ (X : Cx), X.prog = P → X.w = w → X.K = K → X.calm = true → ∀ (i : Nat) (pins : List (Addr × Obj)) (s : Shared) (σ : St) (H : Hp) (E : Value → Shared → Prop), Inv X pins σ H s → (∀ b ∈ fp, FpOk X pins H b) → tn i s.heap → J.stop i H →
    wpAny (model P w) X.A (pyNext (.ref it)) (fun r s1 => r = none ∧ Inv X pins σ H s1) E s
  self : ∀ (A : Around) (i : Nat) (s : Shared) (Q : Value → Shared → Prop) (E : Value → Shared → Prop), tn i s.heap → Q (.ref it) s → wpAny (model P w) A (pyIter (.ref it)) Q E s
abbrev TI := St → Hp → (It → Hp → Prop) → Prop
/-- an iterator has come -/
def PIE (X : Cx) (pins : List (Addr × Obj)) (σ : St) (tg : Expr) (R : It → Hp → Prop) (itv : Value) (s2 : Shared) : Prop :=
  ∃ (it : Addr) (fp : List Addr) (tn : Nat → Heap → Prop) (J : It) (H' : Hp), itv = .ref it ∧ Inv X pins σ H' s2 ∧ Turn X.prog X.w X.K tg J fp it tn ∧ tn 0 s2.heap ∧ (∀ b ∈ fp, FpOk X pins H' b) ∧ R J H'
def PI (X : Cx) (tg iter : Expr) (wi : TI) : Prop :=
  ∀ (pins : List (Addr × Obj)) (s : Shared) (σ : St) (H : Hp) (R : It → Hp → Prop), Inv X pins σ H s → wi σ H R →
    wpAny (model X.prog X.w) X.A (eval iter X.env) (fun v s1 => wpAny (model X.prog X.w) X.A (pyIter v) (PIE X pins σ tg R) X.xe s1) X.xe s

/-- the step ahead of the store is nothing for an iterator that keeps no tuple -/
theorem go_of {M : Model} {A : Around} {E : Value → Shared → Prop} {s : Shared} {tg : Expr} {it : Addr} {u : Value} {o : Obj} {n : String} {vs : Array Value} {Q : Unit → Shared → Prop} (ho : s.heap.get? it = some o) (hc : o.cls = .type n) (hd : o.data = .fields vs)
    (hn : ["enumerate", "zip", "dict_itemiterator", "dict_reverseitemiterator", "odict_iterator", "itertools.zip_longest", "itertools.pairwise"].contains n = false) (hQ : Q () s) : wpAny M A (letOwnedTupleGo tg (.ref it) u) Q E s := by
  unfold letOwnedTupleGo
  cases tg <;> first
    | exact wpAny_pure hQ
    | (cases u <;> first
        | exact wpAny_pure hQ
        | (refine wpAny_bind (wpAny_load ho ?_)
           rw [hc, hd]
           show wpAny M A (if (["enumerate", "zip", "dict_itemiterator", "dict_reverseitemiterator", "odict_iterator", "itertools.zip_longest", "itertools.pairwise"].contains n && vs[0]? == some (rawInt _)) = true then _ else _) Q E s
           rw [if_neg (by intro h; rw [hn, Bool.false_and] at h; cases h)]
           exact wpAny_pure hQ))

/-- the list at a, as it stands at each turn (a loop may append to it) -/
def Itl (K : PySem.W.Frag) (a : Addr) : It :=
  ⟨fun i H => ∃ xs x, SqL K H a xs ∧ xs[i]? = some x, fun i H x H' => H' = H ∧ ∀ xs, SqL K H a xs → xs[i]? = some x, fun i H => ∃ xs, SqL K H a xs ∧ xs.length ≤ i⟩
def Itt (K : PySem.W.Frag) (a : Addr) : It :=
  ⟨fun i H => ∃ xs x, SqT K H a xs ∧ xs[i]? = some x, fun i H x H' => H' = H ∧ ∀ xs, SqT K H a xs → xs[i]? = some x, fun i H => ∃ xs, SqT K H a xs ∧ xs.length ≤ i⟩
/-- lo, lo + 1, .. (n of them) -/
def Itr (lo : Int) (n : Nat) : It := ⟨fun i _ => i < n, fun i H x H' => H' = H ∧ x = .int (lo + i), fun i _ => n ≤ i⟩
theorem turn_list {P : Program} {w : World} {K : PySem.W.Frag} {tg : Expr} (a it : Addr) : Turn P w K tg (Itl K a) [it] it (fun i h => h.IsListIter it a i) where
  mem := by simp
  obj := fun i h st b hb => by
    have e : b = it := by simpa using hb
    subst e
    obtain ⟨o, e, c, d⟩ := st
    exact ⟨o, e, fun v z => by rw [d] at z; cases z⟩
  keep := fun i h h' st k => st.at fun o e => k it (by simp) o e
  item := by
    intro X hP hw hK hc i pins s σ H E I hf st hg
    subst hP hw hK
    obtain ⟨xs, x, hq, hx⟩ := hg
    obtain ⟨its, rv, p, hz⟩ := I.list hq
    obtain ⟨u, hu, ru⟩ := rv.get hx
    obtain ⟨f0, f1, f2, f3, f4, f5⟩ := hf it (by simp)
    refine wpAny_pyNext_list_item st p.isList (x := u) (by simpa using hu) fun h' st' sb => ?_
    have I1 : Inv X pins σ H { s with heap := h' } := I.turned (t' := s.toks) (fun b o hb e => (sb.2 b hb).trans e) f0 f1 f3 f4 f5
    obtain ⟨o, e, c, d⟩ := id st'
    exact ⟨u, rfl, go_of (s := { s with heap := h' }) e c d (by decide) ⟨x, H, I1, ru, ⟨rfl, fun ys hy => by rw [I.list_inj hy hq]; exact hx⟩, st', fun b hb => (hf b hb).1⟩⟩
  done := by
    intro X hP hw hK hc i pins s σ H E I hf st hg
    subst hP hw hK
    obtain ⟨xs, hq, hx⟩ := hg
    obtain ⟨its, rv, p, hz⟩ := I.list hq
    obtain ⟨f0, f1, f2, f3, f4, f5⟩ := hf it (by simp)
    have hl := rv.length
    exact wpAny_pyNext_list_end (I.ok.hd hc) st p.isList (by simp; omega) fun h' eb => ⟨rfl, I.turned (t' := s.toks) (fun b o hb e => eb b o hb e) f0 f1 f3 f4 f5⟩
  self := fun _ _ _ _ _ st h => wpAny_pyIter_listiter st h
theorem turn_tuple {P : Program} {w : World} {K : PySem.W.Frag} {tg : Expr} (a it : Addr) : Turn P w K tg (Itt K a) [it] it (fun i h => h.IsTupleIter it a i) where
  mem := by simp
  obj := fun i h st b hb => by
    have e : b = it := by simpa using hb
    subst e
    obtain ⟨o, e, c, d⟩ := st
    exact ⟨o, e, fun v z => by rw [d] at z; cases z⟩
  keep := fun i h h' st k => st.at fun o e => k it (by simp) o e
  item := by
    intro X hP hw hK hc i pins s σ H E I hf st hg
    subst hP hw hK
    obtain ⟨xs, x, hq, hx⟩ := hg
    obtain ⟨its, rv, p, hz⟩ := I.tuple hq
    obtain ⟨u, hu, ru⟩ := rv.get hx
    obtain ⟨f0, f1, f2, f3, f4, f5⟩ := hf it (by simp)
    refine wpAny_pyNext_tuple_item st (show s.heap.IsTuple a its.toArray from p) (x := u) (by simpa using hu) fun h' st' sb => ?_
    have I1 : Inv X pins σ H { s with heap := h' } := I.turned (t' := s.toks) (fun b o hb e => (sb.2 b hb).trans e) f0 f1 f3 f4 f5
    obtain ⟨o, e, c, d⟩ := id st'
    exact ⟨u, rfl, go_of (s := { s with heap := h' }) e c d (by decide) ⟨x, H, I1, ru, ⟨rfl, fun ys hy => by rw [I.tuple_inj hy hq]; exact hx⟩, st', fun b hb => (hf b hb).1⟩⟩
  done := by
    intro X hP hw hK hc i pins s σ H E I hf st hg
    subst hP hw hK
    obtain ⟨xs, hq, hx⟩ := hg
    obtain ⟨its, rv, p, hz⟩ := I.tuple hq
    obtain ⟨f0, f1, f2, f3, f4, f5⟩ := hf it (by simp)
    have hl := rv.length
    exact wpAny_pyNext_tuple_end (I.ok.hd hc) st (show s.heap.IsTuple a its.toArray from p) (by simp; omega) fun h' eb => ⟨rfl, I.turned (t' := s.toks) (fun b o hb e => eb b o hb e) f0 f1 f3 f4 f5⟩
  self := fun _ _ _ _ _ st h => wpAny_pyIter_tupleiter st h
theorem turn_range {P : Program} {w : World} {K : PySem.W.Frag} {tg : Expr} (it : Addr) (lo : Int) (n : Nat) : Turn P w K tg (Itr lo n) [it] it (fun i h => IsRangeIter h it (lo + (i : Nat) * 1) ((n : Int) - (i : Nat)) 1) where
  mem := by simp
  obj := fun i h st b hb => by
    have e : b = it := by simpa using hb
    subst e
    exact ⟨_, st, fun v z => by
      have z' : Data.fields _ = Data.cell v := z
      cases z'⟩
  keep := fun i h h' st k => k it (by simp) _ st
  item := by
    intro X hP hw hK hc i pins s σ H E I hf st hg
    subst hP hw hK
    obtain ⟨f0, f1, f2, f3, f4, f5⟩ := hf it (by simp)
    have W := Walks.range (prog := X.prog) (w := X.w) (I.ok.hd hc) it lo 1 n
    refine W.item i s _ _ hg st fun v h' tk hv st' kk => ?_
    obtain ⟨t, rfl⟩ := hv
    have I1 : Inv X pins σ H { s with heap := h', toks := tk } := I.turned (fun b o hb e => kk b o (by simpa using hb) e) f0 f1 f3 f4 f5
    refine ⟨_, rfl, go_of (s := { s with heap := h', toks := tk }) (n := "range_iterator") st' rfl rfl (by decide) ⟨.int (lo + i), H, I1, ⟨t, ?_⟩, ⟨rfl, rfl⟩, st', fun b hb => (hf b hb).1⟩⟩
    rw [Int.mul_one]
  done := by
    intro X hP hw hK hc i pins s σ H E I hf st hg
    subst hP hw hK
    obtain ⟨f0, f1, f2, f3, f4, f5⟩ := hf it (by simp)
    exact wpAny_pyNext_range_end (I.ok.hd hc) st (by have : n ≤ i := hg; omega) fun h' eb => ⟨rfl, I.turned (t' := s.toks) (fun b o hb e => eb b o hb e) f0 f1 f3 f4 f5⟩
  self := fun _ _ _ _ _ st h => wpAny_pyIter_rangeiter st h
end L2

namespace L2
open PySem PySem.Spec PyProof.Rows
section
variable {X : Cx} {tg : Expr}
def iList (K : PySem.W.Frag) (tl : TE) : TI := fun σ H R => tl σ H fun x H1 => ∃ a, x = .ref a ∧ (∃ xs, SqL K H1 a xs) ∧ R (Itl K a) H1
def iTup (K : PySem.W.Frag) (tl : TE) : TI := fun σ H R => tl σ H fun x H1 => ∃ a, x = .ref a ∧ (∃ xs, SqT K H1 a xs) ∧ R (Itt K a) H1
theorem pi_list {l : Expr} {tl : TE} (hl : PE X l tl) : PI X tg l (iList X.K tl) := by
  intro pins s σ H R I h
  refine thn (hl pins s σ H _ I h) fun v s1 ⟨x, H1, I1, r1, q1⟩ => ?_
  obtain ⟨a, e, ⟨xs, hq⟩, q⟩ := q1
  subst e
  cases r1
  obtain ⟨its, rv, p, hz⟩ := I1.list hq
  refine wpAny_pyIter_list p.isList ?_
  refine ⟨s1.heap.objs.size, [s1.heap.objs.size], _, _, H1, rfl, I1.kept (t' := s1.toks) fun b o e => Heap.get?_push_of_some _ e, turn_list a _, ⟨_, Heap.get?_push_size _ rfl, rfl, rfl⟩, fun b hb => ?_, q⟩
  have e : b = s1.heap.objs.size := by simpa using hb
  subst e
  exact I1.fpOk (Nat.le_refl _) (I1.hok.fresh (Nat.le_refl _))
theorem pi_tup {l : Expr} {tl : TE} (hl : PE X l tl) : PI X tg l (iTup X.K tl) := by
  intro pins s σ H R I h
  refine thn (hl pins s σ H _ I h) fun v s1 ⟨x, H1, I1, r1, q1⟩ => ?_
  obtain ⟨a, e, ⟨xs, hq⟩, q⟩ := q1
  subst e
  cases r1
  obtain ⟨its, rv, p, hz⟩ := I1.tuple hq
  refine wpAny_pyIter_tuple (show s1.heap.IsTuple a its.toArray from p) ?_
  refine ⟨s1.heap.objs.size, [s1.heap.objs.size], _, _, H1, rfl, I1.kept (t' := s1.toks) fun b o e => Heap.get?_push_of_some _ e, turn_tuple a _, ⟨_, Heap.get?_push_size _ rfl, rfl, rfl⟩, fun b hb => ?_, q⟩
  have e : b = s1.heap.objs.size := by simpa using hb
  subst e
  exact I1.fpOk (Nat.le_refl _) (I1.hok.fresh (Nat.le_refl _))
/-- a range object just made, walked -/
theorem range_it {pins : List (Addr × Obj)} {σ : St} {H : Hp} {s : Shared} {R : It → Hp → Prop} {E : Value → Shared → Prop} {lo hi : Int} {t u v : Tok} {tk : Nat} (I : Inv X pins σ H s) (h1 : -(2 ^ 62) ≤ lo) (h2 : lo < 2 ^ 62) (h3 : -(2 ^ 62) ≤ hi) (h4 : hi < 2 ^ 62)
    (q : R (Itr lo (hi - lo).toNat) H) : wpAny (model X.prog X.w) X.A (pyIter (.ref s.heap.objs.size)) (PIE X pins σ tg R) E { s with heap := s.heap.push { cls := .type "range", data := .fields #[.int lo t, .int hi u, .int 1 v] }, toks := tk } := by
  refine wpAny_pyIter_range (IsRange.new ..) (small_one h1 h2 h3 h4) ?_
  have I1 : Inv X pins σ H { s with heap := s.heap.push { cls := .type "range", data := .fields #[.int lo t, .int hi u, .int 1 v] }, toks := tk } := I.kept fun b o e => Heap.get?_push_of_some _ e
  refine ⟨(s.heap.push { cls := .type "range", data := .fields #[.int lo t, .int hi u, .int 1 v] }).objs.size, [(s.heap.push { cls := .type "range", data := .fields #[.int lo t, .int hi u, .int 1 v] }).objs.size], _, _, H, rfl,
    I1.kept (t' := tk) fun b o e => Heap.get?_push_of_some _ e, turn_range _ lo (hi - lo).toNat, ?_, fun b hb => ?_, q⟩
  · have e1 : lo + ((0 : Nat) : Int) * 1 = lo := by simp
    have e2 : (((hi - lo).toNat : Nat) : Int) - ((0 : Nat) : Int) = Builtin.Range.rangeSize lo hi 1 := by rw [rangeSize_one]; split <;> omega
    show IsRangeIter _ _ (lo + ((0 : Nat) : Int) * 1) ((((hi - lo).toNat : Nat) : Int) - ((0 : Nat) : Int)) 1
    rw [e1, e2]
    exact Heap.get?_push_size _ rfl
  · have e : b = (s.heap.push { cls := .type "range", data := .fields #[.int lo t, .int hi u, .int 1 v] }).objs.size := by simpa using hb
    subst e
    exact I1.fpOk (Nat.le_refl _) (I1.hok.fresh (Nat.le_refl _))
def iRng1 (ta : TA) : TI := fun σ H R => ta σ H fun vs H1 => ∃ j : Int, vs = [.int j] ∧ -(2 ^ 62) ≤ j ∧ j < 2 ^ 62 ∧ R (Itr 0 j.toNat) H1
def iRng2 (ta : TA) : TI := fun σ H R => ta σ H fun vs H1 => ∃ i j : Int, vs = [.int i, .int j] ∧ (-(2 ^ 62) ≤ i ∧ i < 2 ^ 62 ∧ -(2 ^ 62) ≤ j ∧ j < 2 ^ 62) ∧ R (Itr i (j - i).toNat) H1
theorem pi_range1 {a : Expr} {ta : TA} {p pos : Pos} (hg : Gl X "range") (hm : X.mg "range" = none) (ha : PA X [a] ta) (hs : starEach [a] X.env = [(false, eval a X.env)] := by rfl) : PI X tg (.Call (.Name "range" p) [a] [] pos) (iRng1 ta) := by
  intro pins s σ H R I h
  refine Call_ (ld_blt I hg hm boot_range (PyProof.Rows.callWith_type1 (thn (ha pos pins s σ H _ I h) fun us s1 ⟨vs, H1, I1, r1, q1⟩ => ?_) hs rfl))
  obtain ⟨j, e, q1, q2, q⟩ := q1
  subst e
  cases r1 with
  | cons r rr =>
    cases rr
    obtain ⟨t, rfl⟩ := r
    exact call_range_1 (range_it I1 (by omega) (by omega) q1 q2 (by simpa using q))
/-! ### for -/
/-- W: the invariant by the turn and a measure; N: what the body is to reach -/
def tFor (wi : TI) (g : TG) (tb : TS) : TS := fun D σ H => wi σ H fun J H1 => ∃ W : Nat → Nat → St → Hp → Prop, (∃ m, W 0 m σ H1) ∧ ∀ i m σ H, W i m σ H →
  (J.stop i H ∧ D.nx σ H) ∨ (J.go i H ∧ ∃ N : St → Hp → Prop, (∀ σ' H', N σ' H' → ∃ m', m' < m ∧ W (i + 1) m' σ' H') ∧ ∀ x H', J.yld i H x H' → g x σ H' fun σ2 H2 => tb { D with nx := N, ct := N, bk := D.nx } σ2 H2)
/-- the records at fp as they stand -/
def pinsAt (fp : List Addr) (h : Heap) : List (Addr × Obj) := fp.filterMap fun b => (h.get? b).map fun o => (b, o)
theorem mem_pinsAt {fp : List Addr} {h : Heap} {b : Addr} {o : Obj} (hb : b ∈ fp) (e : h.get? b = some o) : (b, o) ∈ pinsAt fp h := List.mem_filterMap.mpr ⟨b, hb, by rw [e]; rfl⟩
theorem of_pinsAt {fp : List Addr} {h : Heap} {p : Addr × Obj} (hp : p ∈ pinsAt fp h) : p.1 ∈ fp ∧ h.get? p.1 = some p.2 := by
  obtain ⟨b, hb, e⟩ := List.mem_filterMap.mp hp
  cases q : h.get? b with
  | none => rw [q] at e; cases e
  | some o =>
    rw [q] at e
    have e' : (b, o) = p := Option.some.inj e
    subst e'
    exact ⟨hb, q⟩
theorem Inv.pinned {pins : List (Addr × Obj)} {σ : St} {H : Hp} {s : Shared} {fp : List Addr} (I : Inv X pins σ H s) (hf : ∀ b ∈ fp, FpOk X pins H b) (ho : ∀ b ∈ fp, ∃ o, s.heap.get? b = some o ∧ ∀ v, o.data ≠ .cell v) : Inv X (pins ++ pinsAt fp s.heap) σ H s :=
  I.pins_of fun p hp => (List.mem_append.mp hp).elim (fun z => I.pin p (List.mem_append_right _ z)) fun z => by
    obtain ⟨hb, e⟩ := of_pinsAt z
    obtain ⟨f0, f1, f2, _⟩ := hf p.1 hb
    obtain ⟨o, e', d⟩ := ho p.1 hb
    rw [e] at e'; cases e'
    exact ⟨e, f0, f1, f2, d⟩
theorem Inv.unpinned {pins pl : List (Addr × Obj)} {σ : St} {H : Hp} {s : Shared} (I : Inv X (pins ++ pl) σ H s) : Inv X pins σ H s := I.pins_of fun p hp => I.pin p (List.mem_append_right _ (List.mem_append_left _ hp))
theorem ps_for {iter : Expr} {body : List Stmt} {wi : TI} {g : TG} {tb : TS} {pos : Pos} (hp : PassesOwn (model X.prog X.w) X.A X.env X.xe) (hc : X.calm = true) (hi : PI X tg iter wi) (hg : PG X tg g) (hb : PSs X body tb)
    (hs : ∀ x, foldedSetIterable iter X.env x = pure x := by intro _; rfl) : PS X (.For tg iter body [] pos) (tFor wi g tb) := by
  intro pins s σ H D I h
  refine wpAny_For (thn (hi pins s σ H _ I h) fun v s1 h1 => thn h1 fun itv s2 h2 => ?_) hs
  obtain ⟨it, fp, tn, J, H2, e, I2, T, st2, f2, W, ⟨m0, w0⟩, turn⟩ := h2
  subst e
  -- what stays true of the iterator's objects through the loop
  have stat : ∀ {H' : Hp}, (∀ b ∈ fp, H' b = none) → ∀ b ∈ fp, FpOk X pins H' b := fun hn b hb => ⟨hn b hb, (f2 b hb).2⟩
  refine codeAny_forLoop_any (fun n s' => ∃ i σ' H', Inv X pins σ' H' s' ∧ tn i s'.heap ∧ (∀ b ∈ fp, H' b = none) ∧ W i n σ' H') ?_ m0 ⟨0, σ, H2, I2, st2, fun b hb => (f2 b hb).1, w0⟩
  rintro n s3 ⟨i, σ3, H3, I3, st3, fr3, w3⟩
  rcases turn i n σ3 H3 w3 with ⟨stop, qn⟩ | ⟨go, N, hN, step⟩
  · refine wpAny_passesOwn hp (thn (T.done X rfl rfl rfl hc i pins s3 σ3 H3 X.xe I3 (stat fr3) st3 stop) fun r s4 ⟨hr, I4⟩ => ?_)
    subst hr
    exact wpAny_execs_nil ⟨σ3, H3, I4, qn⟩
  · refine wpAny_passesOwn hp (thn (T.item X rfl rfl rfl hc i pins s3 σ3 H3 X.xe I3 (stat fr3) st3 go) fun r s4 ⟨u, hr, h4⟩ => ?_)
    subst hr
    refine wpAny_passesOwn hp (thn h4 fun _ s5 ⟨x, H5, I5, r5, y5, st5, fr5⟩ => ?_)
    have I5' := I5.pinned (stat fr5) (T.obj _ _ st5)
    refine wpAny_passesOwn hp (thn (hg _ s5 σ3 H5 x u _ I5' r5 (step x H5 y5)) fun _ s6 ⟨σ6, H6, I6, q6⟩ => ?_)
    refine wpAny_passesOwn hp (thn (hb _ s6 σ6 H6 _ I6 q6) fun f s7 q7 => ?_)
    have again : ∀ {σ7 : St} {H7 : Hp}, Inv X (pins ++ pinsAt fp s5.heap) σ7 H7 s7 → N σ7 H7 → ∃ m, m < n ∧ ∃ i σ' H', Inv X pins σ' H' s7 ∧ tn i s7.heap ∧ (∀ b ∈ fp, H' b = none) ∧ W i m σ' H' := fun {σ7 H7} I7 n7 => by
      obtain ⟨m', hm, w7⟩ := hN σ7 H7 n7
      refine ⟨m', hm, i + 1, σ7, H7, I7.unpinned, T.keep _ _ _ st5 fun b hb o e => (I7.pin (b, o) (List.mem_append_right _ (List.mem_append_right _ (mem_pinsAt hb e)))).1, fun b hb => ?_, w7⟩
      obtain ⟨o, e, d⟩ := T.obj _ _ st5 b hb
      exact (I7.pin (b, o) (List.mem_append_right _ (List.mem_append_right _ (mem_pinsAt hb e)))).2.1
    cases f with
    | next => obtain ⟨σ7, H7, I7, n7⟩ := q7; exact again I7 n7
    | cont => obtain ⟨σ7, H7, I7, n7⟩ := q7; exact again I7 n7
    | brk => obtain ⟨σ7, H7, I7, q7⟩ := q7; exact ⟨σ7, H7, I7.unpinned, q7⟩
    | ret v => obtain ⟨x7, σ7, H7, I7, r7, q7⟩ := q7; exact ⟨x7, σ7, H7, I7.unpinned, r7, q7⟩
end

/-! ### the forms one uses -/
/-- over a list that the body leaves as it is -/
theorem for_list {K : PySem.W.Frag} {a : Addr} {xs : List V} {g : TG} {tb : TS} {D : Ends} {σ : St} {H : Hp} (Pv : Nat → St → Hp → Prop) (h0 : Pv 0 σ H) (hl : ∀ i σ H, i ≤ xs.length → Pv i σ H → SqL K H a xs)
    (hs : ∀ i x σ H, xs[i]? = some x → Pv i σ H → g x σ H fun σ2 H2 => tb { D with nx := Pv (i + 1), ct := Pv (i + 1), bk := D.nx } σ2 H2) (hd : ∀ σ H, Pv xs.length σ H → D.nx σ H) :
    ∃ W : Nat → Nat → St → Hp → Prop, (∃ m, W 0 m σ H) ∧ ∀ i m σ H, W i m σ H →
      ((Itl K a).stop i H ∧ D.nx σ H) ∨ ((Itl K a).go i H ∧ ∃ N : St → Hp → Prop, (∀ σ' H', N σ' H' → ∃ m', m' < m ∧ W (i + 1) m' σ' H') ∧ ∀ x H', (Itl K a).yld i H x H' → g x σ H' fun σ2 H2 => tb { D with nx := N, ct := N, bk := D.nx } σ2 H2) := by
  refine ⟨fun i m σ H => m = xs.length - i ∧ i ≤ xs.length ∧ Pv i σ H, ⟨xs.length, by simp, Nat.zero_le _, h0⟩, ?_⟩
  rintro i m σ H ⟨rfl, hi, p⟩
  have q := hl i σ H hi p
  by_cases hlt : i < xs.length
  · refine .inr ⟨⟨xs, xs[i], q, by simp [hlt]⟩, Pv (i + 1), fun σ' H' p' => ⟨xs.length - (i + 1), by omega, rfl, hlt, p'⟩, fun x H' y => ?_⟩
    obtain ⟨e, y⟩ := y
    subst e
    exact hs i x σ _ (y xs q) p
  · have e : i = xs.length := by omega
    subst e
    exact .inl ⟨⟨xs, q, Nat.le_refl _⟩, hd σ H p⟩
theorem for_tup {K : PySem.W.Frag} {a : Addr} {xs : List V} {g : TG} {tb : TS} {D : Ends} {σ : St} {H : Hp} (Pv : Nat → St → Hp → Prop) (h0 : Pv 0 σ H) (hl : ∀ i σ H, i ≤ xs.length → Pv i σ H → SqT K H a xs)
    (hs : ∀ i x σ H, xs[i]? = some x → Pv i σ H → g x σ H fun σ2 H2 => tb { D with nx := Pv (i + 1), ct := Pv (i + 1), bk := D.nx } σ2 H2) (hd : ∀ σ H, Pv xs.length σ H → D.nx σ H) :
    ∃ W : Nat → Nat → St → Hp → Prop, (∃ m, W 0 m σ H) ∧ ∀ i m σ H, W i m σ H →
      ((Itt K a).stop i H ∧ D.nx σ H) ∨ ((Itt K a).go i H ∧ ∃ N : St → Hp → Prop, (∀ σ' H', N σ' H' → ∃ m', m' < m ∧ W (i + 1) m' σ' H') ∧ ∀ x H', (Itt K a).yld i H x H' → g x σ H' fun σ2 H2 => tb { D with nx := N, ct := N, bk := D.nx } σ2 H2) := by
  refine ⟨fun i m σ H => m = xs.length - i ∧ i ≤ xs.length ∧ Pv i σ H, ⟨xs.length, by simp, Nat.zero_le _, h0⟩, ?_⟩
  rintro i m σ H ⟨rfl, hi, p⟩
  have q := hl i σ H hi p
  by_cases hlt : i < xs.length
  · refine .inr ⟨⟨xs, xs[i], q, by simp [hlt]⟩, Pv (i + 1), fun σ' H' p' => ⟨xs.length - (i + 1), by omega, rfl, hlt, p'⟩, fun x H' y => ?_⟩
    obtain ⟨e, y⟩ := y
    subst e
    exact hs i x σ _ (y xs q) p
  · have e : i = xs.length := by omega
    subst e
    exact .inl ⟨⟨xs, q, Nat.le_refl _⟩, hd σ H p⟩
theorem for_range {lo : Int} {n : Nat} {g : TG} {tb : TS} {D : Ends} {σ : St} {H : Hp} (Pv : Nat → St → Hp → Prop) (h0 : Pv 0 σ H)
    (hs : ∀ i σ H, i < n → Pv i σ H → g (.int (lo + i)) σ H fun σ2 H2 => tb { D with nx := Pv (i + 1), ct := Pv (i + 1), bk := D.nx } σ2 H2) (hd : ∀ σ H, Pv n σ H → D.nx σ H) :
    ∃ W : Nat → Nat → St → Hp → Prop, (∃ m, W 0 m σ H) ∧ ∀ i m σ H, W i m σ H →
      ((Itr lo n).stop i H ∧ D.nx σ H) ∨ ((Itr lo n).go i H ∧ ∃ N : St → Hp → Prop, (∀ σ' H', N σ' H' → ∃ m', m' < m ∧ W (i + 1) m' σ' H') ∧ ∀ x H', (Itr lo n).yld i H x H' → g x σ H' fun σ2 H2 => tb { D with nx := N, ct := N, bk := D.nx } σ2 H2) := by
  refine ⟨fun i m σ H => m = n - i ∧ i ≤ n ∧ Pv i σ H, ⟨n, by simp, Nat.zero_le _, h0⟩, ?_⟩
  rintro i m σ H ⟨rfl, hi, p⟩
  by_cases hlt : i < n
  · refine .inr ⟨hlt, Pv (i + 1), fun σ' H' p' => ⟨n - (i + 1), by omega, rfl, hlt, p'⟩, fun x H' y => ?_⟩
    obtain ⟨e, y⟩ := y
    subst e y
    exact hs i σ _ hlt p
  · have e : i = n := by omega
    subst e
    exact .inl ⟨Nat.le_refl _, hd σ H p⟩
/-- while, by a word and a measure of the state -/
theorem while_by {c : TT} {tb : TS} {D : Ends} {σ : St} {H : Hp} (Pv : St → Hp → Prop) (μ : St → Hp → Nat) (h0 : Pv σ H)
    (hs : ∀ σ H, Pv σ H → c σ H fun b H1 => if b = true then tb { D with nx := fun σ' H' => Pv σ' H' ∧ μ σ' H' < μ σ H, ct := fun σ' H' => Pv σ' H' ∧ μ σ' H' < μ σ H, bk := D.nx } σ H1 else D.nx σ H1)
    (mono : ∀ σ H Q Q', (∀ b H1, Q b H1 → Q' b H1) → c σ H Q → c σ H Q') : tWhile c tb D σ H := by
  refine ⟨fun m σ H => m = μ σ H ∧ Pv σ H, ⟨_, rfl, h0⟩, ?_⟩
  rintro m σ H ⟨rfl, p⟩
  refine mono σ H _ _ (fun b H1 q => ?_) (hs σ H p)
  cases b with
  | true => exact ⟨_, fun σ' H' ⟨p', l⟩ => ⟨_, l, rfl, p'⟩, q⟩
  | false => exact q
end L2

namespace L2
open PySem PySem.Spec PyProof.Rows

abbrev R2 := V → V → Hp → VK → Prop
/-- a two-place operation on values: f is binaryOp op, inplaceOp op or compareOp op -/
def OpR (X : Cx) (f : Value → Value → Sem Value) (r : R2) : Prop :=
  ∀ (pins : List (Addr × Obj)) (s : Shared) (σ : St) (H : Hp) (x y : V) (v u : Value) (Q : VK), Inv X pins σ H s → RelV x v → RelV y u → r x y H Q →
    wpAny (model X.prog X.w) X.A (f v u) (EP X pins σ Q) X.xe s
/-- a one-place operation -/
def UnR (X : Cx) (f : Value → Sem Value) (r : V → Hp → VK → Prop) : Prop :=
  ∀ (pins : List (Addr × Obj)) (s : Shared) (σ : St) (H : Hp) (x : V) (v : Value) (Q : VK), Inv X pins σ H s → RelV x v → r x H Q →
    wpAny (model X.prog X.w) X.A (f v) (EP X pins σ Q) X.xe s
/-- a call of a value that is known (a builtin, a type) with values -/
def CallR (X : Cx) (f : Value) (r : List V → Hp → VK → Prop) : Prop :=
  ∀ (pins : List (Addr × Obj)) (s : Shared) (σ : St) (H : Hp) (xs : List V) (us : List Value) (Q : VK), Inv X pins σ H s → Vals xs us → r xs H Q →
    wpAny (model X.prog X.w) X.A (call f us) (EP X pins σ Q) X.xe s
/-- a value's truth -/
def TruR (X : Cx) (r : V → Hp → (Bool → Hp → Prop) → Prop) : Prop :=
  ∀ (pins : List (Addr × Obj)) (s : Shared) (σ : St) (H : Hp) (x : V) (v : Value) (Q : Bool → Hp → Prop), Inv X pins σ H s → RelV x v → r x H Q →
    wpAny (model X.prog X.w) X.A (truthy v) (TP X pins σ Q) X.xe s

def tOp (r : R2) (ta tb : TE) : TE := fun σ H Q => ta σ H fun x H1 => tb σ H1 fun y H2 => r x y H2 Q
def tUn (r : V → Hp → VK → Prop) (ta : TE) : TE := fun σ H Q => ta σ H fun x H1 => r x H1 Q
/-- ints in, under C, and a value out -/
def rI (C : Int → Int → Prop) (g : Int → Int → V) : R2 := fun x y H Q => ∃ i j, x = .int i ∧ y = .int j ∧ C i j ∧ Q (g i j) H
def rI0 (g : Int → Int → V) : R2 := fun x y H Q => ∃ i j, x = .int i ∧ y = .int j ∧ Q (g i j) H
def rU (g : Int → V) : V → Hp → VK → Prop := fun x H Q => ∃ i, x = .int i ∧ Q (g i) H

section
variable {X : Cx} {a b c : Expr} {ta tb tc : TE} {pos : Pos}

theorem binT (ha : PE X a ta) (hb : PE X b tb) {pins : List (Addr × Obj)} {s : Shared} {σ : St} {H : Hp} {R : V → V → Hp → Prop} (I : Inv X pins σ H s)
    (h : ta σ H fun x H1 => tb σ H1 fun y H2 => R x y H2) {Q : Value → Shared → Prop} {f : Value → Value → Sem Value}
    (hf : ∀ v u s2 x y H2, Inv X pins σ H2 s2 → RelV x v → RelV y u → R x y H2 → wpAny (model X.prog X.w) X.A (f v u) Q X.xe s2) :
    wpAny (model X.prog X.w) X.A (eval a X.env) (fun v s₁ => wpAny (model X.prog X.w) X.A (eval b X.env) (fun u s₂ => wpAny (model X.prog X.w) X.A (f v u) Q X.xe s₂) X.xe s₁) X.xe s := by
  refine thn (ha pins s σ H _ I h) fun v s1 ⟨x, H1, I1, r1, q1⟩ => ?_
  refine thn (hb pins s1 σ H1 _ I1 q1) fun u s2 ⟨y, H2, I2, r2, q2⟩ => ?_
  exact hf v u s2 x y H2 I2 r1 r2 q2

theorem pe_op {op : Operator} {r : R2} (ho : OpR X (binaryOp op) r) (ha : PE X a ta) (hb : PE X b tb) : PE X (.BinOp a op b pos) (tOp r ta tb) := by
  intro pins s σ H Q I h
  exact wpAny_BinOp (binT ha hb I h fun v u s2 x y H2 I2 rx ry q => ho pins s2 σ H2 x y v u Q I2 rx ry q)
theorem pe_un {op : UnaryOp} {r : V → Hp → VK → Prop} (ho : UnR X (unaryOp op) r) (ha : PE X a ta) : PE X (.UnaryOp op a pos) (tUn r ta) := by
  intro pins s σ H Q I h
  exact UnaryOp_ (thn (ha pins s σ H _ I h) fun v s1 ⟨x, H1, I1, r1, q1⟩ => ho pins s1 σ H1 x v Q I1 r1 q1)
/-! ### ints -/
theorem opI {f : Value → Value → Sem Value} {C : Int → Int → Prop} {g : Int → Int → Int}
    (rule : ∀ (i j : Int) (t u : Tok) (s : Shared) (Q : Value → Shared → Prop) (E : Value → Shared → Prop), C i j → Q (.int (g i j) s.toks) { s with toks := s.toks + 1 } → wpAny (model X.prog X.w) X.A (f (.int i t) (.int j u)) Q E s) :
    OpR X f (rI C fun i j => .int (g i j)) := by
  intro pins s σ H x y v u Q I rx ry h
  obtain ⟨i, j, rfl, rfl, hc, q⟩ := h
  obtain ⟨t, rfl⟩ := rx
  obtain ⟨t', rfl⟩ := ry
  exact rule i j t t' s _ _ hc ⟨.int (g i j), H, I.tok _, ⟨_, rfl⟩, q⟩
theorem opI0 {f : Value → Value → Sem Value} {g : Int → Int → Int}
    (rule : ∀ (i j : Int) (t u : Tok) (s : Shared) (Q : Value → Shared → Prop) (E : Value → Shared → Prop), Q (.int (g i j) s.toks) { s with toks := s.toks + 1 } → wpAny (model X.prog X.w) X.A (f (.int i t) (.int j u)) Q E s) :
    OpR X f (rI0 fun i j => .int (g i j)) := by
  intro pins s σ H x y v u Q I rx ry h
  obtain ⟨i, j, rfl, rfl, q⟩ := h
  obtain ⟨t, rfl⟩ := rx
  obtain ⟨t', rfl⟩ := ry
  exact rule i j t t' s _ _ ⟨.int (g i j), H, I.tok _, ⟨_, rfl⟩, q⟩
theorem opB0 {f : Value → Value → Sem Value} {g : Int → Int → Bool}
    (rule : ∀ (i j : Int) (t u : Tok) (s : Shared) (Q : Value → Shared → Prop) (E : Value → Shared → Prop), Q (.bool (g i j)) s → wpAny (model X.prog X.w) X.A (f (.int i t) (.int j u)) Q E s) :
    OpR X f (rI0 fun i j => .bl (g i j)) := by
  intro pins s σ H x y v u Q I rx ry h
  obtain ⟨i, j, rfl, rfl, q⟩ := h
  obtain ⟨t, rfl⟩ := rx
  obtain ⟨t', rfl⟩ := ry
  exact rule i j t t' s _ _ ⟨.bl (g i j), H, I, rfl, q⟩

def CDiv (i j : Int) : Prop := 0 < j ∧ j < 1073741824
def CDivN (i j : Int) : Prop := j ≠ 0 ∧ j.natAbs < 1073741824
def CPow (i j : Int) : Prop := 0 ≤ j ∧ j ≤ 1000000 ∧ i.natAbs < 2 ^ 64
def CMul (i j : Int) : Prop := (-(2 ^ 64) < i ∧ i < 2 ^ 64) ∨ (-(2 ^ 64) < j ∧ j < 2 ^ 64)
theorem CMul.ok {i j : Int} (h : CMul i j) : IntMulOk i j := by
  rcases h with ⟨h1, h2⟩ | ⟨h1, h2⟩
  · exact .of_left (intBits_le_64 h1 h2)
  · exact .of_right (intBits_le_64 h1 h2)
theorem op_add : OpR X (binaryOp .Add) (rI0 fun i j => .int (i + j)) := opI0 fun _ _ _ _ _ _ _ q => add_int q
theorem op_sub : OpR X (binaryOp .Sub) (rI0 fun i j => .int (i - j)) := opI0 fun _ _ _ _ _ _ _ q => sub_int q
theorem op_mul : OpR X (binaryOp .Mult) (rI CMul fun i j => .int (i * j)) := opI fun _ _ _ _ _ _ _ hc q => mul_int q hc.ok
/-- % by a positive divisor of any size -/
theorem op_mod : OpR X (binaryOp .Mod) (rI (fun _ j => 0 < j) fun i j => .int (i % j)) := opI fun i j _ _ _ _ _ hc q => by
  have h1 : (0 : Int) < j := hc
  exact mod_int' (by omega) (by rw [Int.fmod_eq_emod_of_nonneg i (by omega)]; exact q)
theorem op_pow : OpR X (binaryOp .Pow) (rI CPow fun i j => .int (i ^ j.toNat)) := opI fun _ _ _ _ _ _ _ hc q => pow_int_small hc.1 hc.2.1 hc.2.2 q
theorem op_shl : OpR X (binaryOp .LShift) (rI CPow fun i j => .int (i * 2 ^ j.toNat)) := opI fun _ _ _ _ _ _ _ hc q => lshift_int_small hc.1 hc.2.1 hc.2.2 q
theorem unI {f : Value → Sem Value} {g : Int → Int}
    (rule : ∀ (i : Int) (t : Tok) (s : Shared) (Q : Value → Shared → Prop) (E : Value → Shared → Prop), Q (.int (g i) s.toks) { s with toks := s.toks + 1 } → wpAny (model X.prog X.w) X.A (f (.int i t)) Q E s) :
    UnR X f (rU fun i => .int (g i)) := by
  intro pins s σ H x v Q I rx h
  obtain ⟨i, rfl, q⟩ := h
  obtain ⟨t, rfl⟩ := rx
  exact rule i t s _ _ ⟨.int (g i), H, I.tok _, ⟨_, rfl⟩, q⟩
theorem un_neg : UnR X (unaryOp .USub) (rU fun i => .int (-i)) := unI fun _ _ _ _ _ q => neg_int q
/-! ### bools among ints: n += (a < b) -/
end

/-! ### comparisons -/
/-- the scalars that == tells apart as data does -/
def scal : V → V → Bool
  | .non, .non => true | .non, .int _ => true | .int _, .non => true | .non, .bl _ => true | .bl _, .non => true | .non, .str _ => true | .str _, .non => true
  | .int _, .int _ => true | .bl _, .bl _ => true | .str _, .str _ => true | .byt _, .byt _ => true
  | .int _, .str _ => true | .str _, .int _ => true | .bl _, .str _ => true | .str _, .bl _ => true
  | _, _ => false
def rEq : R2 := fun x y H Q => scal x y = true ∧ Q (.bl (decide (x = y))) H
def rNe : R2 := fun x y H Q => scal x y = true ∧ Q (.bl (!decide (x = y))) H

theorem dec_int {i j : Int} : decide (V.int i = V.int j) = (i == j) := by
  rw [Bool.eq_iff_iff]
  simp
theorem dec_bl {i j : Bool} : decide (V.bl i = V.bl j) = (i == j) := by
  rw [Bool.eq_iff_iff]
  simp
theorem dec_str {i j : Str} : decide (V.str i = V.str j) = (i == j) := by
  rw [Bool.eq_iff_iff]
  simp
theorem dec_byt {i j : Array UInt8} : decide (V.byt i = V.byt j) = (i.toList == j.toList) := by
  rw [Bool.eq_iff_iff]
  cases i
  cases j
  simp

section
variable {X : Cx} {a b c : Expr} {ta tb tc : TE} {pos : Pos}
theorem fin_bl {pins : List (Addr × Obj)} {σ : St} {H : Hp} {s : Shared} {Q : VK} {k k' : Bool} (I : Inv X pins σ H s) (q : Q (.bl k) H) (e : k = k') : EP X pins σ Q (.bool k') s := by
  subst e
  exact ⟨.bl k, H, I, rfl, q⟩
theorem op_eq : OpR X (compareOp .Eq) rEq := by
  intro pins s σ H x y v u Q I rx ry h
  obtain ⟨hs, q⟩ := h
  cases x with
  | non =>
    cases rx
    cases y with
    | non => cases ry; exact PySem.EqNone.eq_none_none (fin_bl I q (by simp))
    | bl j => cases ry; exact PySem.EqNone.eq_none_bool (fin_bl I q (by simp))
    | int j => obtain ⟨t', rfl⟩ := ry; exact PySem.EqNone.eq_none_int (fin_bl I q (by simp))
    | str j => obtain ⟨t', rfl⟩ := ry; exact PySem.EqNone.eq_none_str (fin_bl I q (by simp))
    | _ => exact absurd (show false = true from hs) Bool.false_ne_true
  | bl i =>
    cases rx
    cases y with
    | non => cases ry; exact PySem.EqNone.eq_bool_none (fin_bl I q (by simp))
    | bl j => cases ry; exact eq_bool (fin_bl I q dec_bl)
    | str j => obtain ⟨t', rfl⟩ := ry; exact PySem.EqMixed.eq_bool_str (fin_bl I q (by simp))
    | _ => exact absurd (show false = true from hs) Bool.false_ne_true
  | int i =>
    obtain ⟨t, rfl⟩ := rx
    cases y with
    | non => cases ry; exact PySem.EqNone.eq_int_none (fin_bl I q (by simp))
    | int j => obtain ⟨t', rfl⟩ := ry; exact eq_int (fin_bl I q dec_int)
    | str j => obtain ⟨t', rfl⟩ := ry; exact PySem.EqMixed.eq_int_str (fin_bl I q (by simp))
    | _ => exact absurd (show false = true from hs) Bool.false_ne_true
  | str i =>
    obtain ⟨t, rfl⟩ := rx
    cases y with
    | non => cases ry; exact PySem.EqNone.eq_str_none (fin_bl I q (by simp))
    | bl j => cases ry; exact PySem.EqMixed.eq_str_bool (fin_bl I q (by simp))
    | int j => obtain ⟨t', rfl⟩ := ry; exact PySem.EqMixed.eq_str_int (fin_bl I q (by simp))
    | str j => obtain ⟨t', rfl⟩ := ry; exact eq_str (fin_bl I q dec_str)
    | _ => exact absurd (show false = true from hs) Bool.false_ne_true
  | byt i =>
    obtain ⟨t, rfl⟩ := rx
    cases y with
    | byt j => obtain ⟨t', rfl⟩ := ry; exact PySem.W.eq_bytes (fin_bl I q dec_byt)
    | _ => exact absurd (show false = true from hs) Bool.false_ne_true
  | _ => cases y <;> exact absurd (show false = true from hs) Bool.false_ne_true
theorem op_ne : OpR X (compareOp .NotEq) rNe := by
  intro pins s σ H x y v u Q I rx ry h
  obtain ⟨hs, q⟩ := h
  cases x with
  | non =>
    cases rx
    cases y with
    | non => cases ry; exact PySem.EqNone.ne_none_none (fin_bl I q (by simp))
    | bl j => cases ry; exact PySem.EqNone.ne_none_bool (fin_bl I q (by simp))
    | int j => obtain ⟨t', rfl⟩ := ry; exact PySem.EqNone.ne_none_int (fin_bl I q (by simp))
    | str j => obtain ⟨t', rfl⟩ := ry; exact PySem.EqNone.ne_none_str (fin_bl I q (by simp))
    | _ => exact absurd (show false = true from hs) Bool.false_ne_true
  | bl i =>
    cases rx
    cases y with
    | non => cases ry; exact PySem.EqNone.ne_bool_none (fin_bl I q (by simp))
    | bl j => cases ry; exact ne_bool (fin_bl I q (congrArg not dec_bl))
    | str j => obtain ⟨t', rfl⟩ := ry; exact PySem.EqMixed.ne_bool_str (fin_bl I q (by simp))
    | _ => exact absurd (show false = true from hs) Bool.false_ne_true
  | int i =>
    obtain ⟨t, rfl⟩ := rx
    cases y with
    | non => cases ry; exact PySem.EqNone.ne_int_none (fin_bl I q (by simp))
    | int j => obtain ⟨t', rfl⟩ := ry; exact ne_int (fin_bl I q (congrArg not dec_int))
    | str j => obtain ⟨t', rfl⟩ := ry; exact PySem.EqMixed.ne_int_str (fin_bl I q (by simp))
    | _ => exact absurd (show false = true from hs) Bool.false_ne_true
  | str i =>
    obtain ⟨t, rfl⟩ := rx
    cases y with
    | non => cases ry; exact PySem.EqNone.ne_str_none (fin_bl I q (by simp))
    | bl j => cases ry; exact PySem.EqMixed.ne_str_bool (fin_bl I q (by simp))
    | int j => obtain ⟨t', rfl⟩ := ry; exact PySem.EqMixed.ne_str_int (fin_bl I q (by simp))
    | str j => obtain ⟨t', rfl⟩ := ry; exact ne_str (fin_bl I q (congrArg not dec_str))
    | _ => exact absurd (show false = true from hs) Bool.false_ne_true
  | byt i =>
    obtain ⟨t, rfl⟩ := rx
    cases y with
    | byt j => obtain ⟨t', rfl⟩ := ry; exact PySem.W.ne_bytes (fin_bl I q (congrArg not dec_byt))
    | _ => exact absurd (show false = true from hs) Bool.false_ne_true
  | _ => cases y <;> exact absurd (show false = true from hs) Bool.false_ne_true

theorem op_lt : OpR X (compareOp .Lt) (rI0 fun i j => .bl (decide (i < j))) := opB0 fun _ _ _ _ _ _ _ q => lt_int q
theorem op_le : OpR X (compareOp .LtE) (rI0 fun i j => .bl (decide (i ≤ j))) := opB0 fun _ _ _ _ _ _ _ q => le_int q
theorem op_gt : OpR X (compareOp .Gt) (rI0 fun i j => .bl (decide (j < i))) := opB0 fun _ _ _ _ _ _ _ q => gt_int q
theorem op_ge : OpR X (compareOp .GtE) (rI0 fun i j => .bl (decide (j ≤ i))) := opB0 fun _ _ _ _ _ _ _ q => ge_int q
/-- the one string within the other -/
theorem op_in_str : OpR X (compareOp .In) (fun x y H Q => ∃ i j, x = .str i ∧ y = .str j ∧ Q (.bl (!(Builtin.Str.occurrences j i 0 j.length 1).isEmpty)) H) := by
  intro pins s σ H x y v u Q I rx ry h
  obtain ⟨i, j, rfl, rfl, q⟩ := h
  obtain ⟨t, rfl⟩ := rx
  obtain ⟨t', rfl⟩ := ry
  exact in_str (fin_bl I q rfl)

/-- is None, is not None: the right side a value none -/
theorem op_isN : OpR X (compareOp .Is) (fun x y H Q => y = .non ∧ Q (.bl (decide (x = .non))) H) := by
  intro pins s σ H x y v u Q I rx ry h
  obtain ⟨rfl, q⟩ := h
  cases ry
  refine is_none_gen (fin_bl I q ?_)
  cases x <;> first
    | (cases rx; rfl)
    | (obtain ⟨t, rfl⟩ := rx; rfl)
/-- is, is not of two objects that are tracked lists or instances -/
def isObj : HO → Bool
  | .lst _ => true
  | .ins _ _ _ => true
  | _ => false
theorem nomark (b : Expr) {op : CmpOp} (h : op ≠ .In := by decide) (h2 : op ≠ .NotIn := by decide) : behindInMarks op b = false := by
  have e1 : (op == CmpOp.In) = false := by cases op <;> first | rfl | exact absurd rfl h
  have e2 : (op == CmpOp.NotIn) = false := by cases op <;> first | rfl | exact absurd rfl h2
  cases b <;> simp [behindInMarks, e1, e2]
/-- a comparison as a value; hm: nomark b, or (for in, not in) by with_unfolding_all rfl -/
theorem pe_cmpR {op : CmpOp} {r : R2} (ho : OpR X (compareOp op) r) (ha : PE X a ta) (hb : PE X b tb) (hm : behindInMarks op b = false) : PE X (.Compare a [op] [b] pos) (tOp r ta tb) := by
  intro pins s σ H Q I h
  exact wpAny_Compare1 (binT ha hb I h fun v u s2 x y H2 I2 rx ry q => ho pins s2 σ H2 x y v u Q I2 rx ry q) hm
/-- a reading of a value as a test -/
def tTest (t : TE) : TT := fun σ H Q => t σ H fun x H' => ∃ k, x = .bl k ∧ Q k H'
theorem pt_cmpR {op : CmpOp} {r : R2} (ho : OpR X (compareOp op) r) (ha : PE X a ta) (hb : PE X b tb) (hm : behindInMarks op b = false) : PT X (.Compare a [op] [b] pos) (tTest (tOp r ta tb)) := by
  intro pins s σ H Q I h
  refine wpAny_isTrue_Compare1 (thn (ha pins s σ H _ I h) fun v s1 ⟨x, H1, I1, r1, q1⟩ => thn (hb pins s1 σ H1 _ I1 q1) fun u s2 ⟨y, H2, I2, r2, q2⟩ =>
    thn (ho pins s2 σ H2 x y v u _ I2 r1 r2 q2) fun c s3 ⟨z, H3, I3, r3, k, e, q3⟩ => ?_) hm
  subst e
  cases r3
  exact wpAny_truthy_bool ⟨H3, I3, q3⟩
/-- a op1 b op2 c -/
def tChain (r r' : R2) (ta tb tc : TE) : TE := fun σ H Q => ta σ H fun x H1 => tb σ H1 fun y H2 => r x y H2 fun z H3 => ∃ k, z = .bl k ∧
  (if k = true then tc σ H3 fun w' H4 => r' y w' H4 Q else Q (.bl false) H3)
theorem pt_chain {op op' : CmpOp} {r r' : R2} (ho : OpR X (compareOp op) r) (ho' : OpR X (compareOp op') r') (ha : PE X a ta) (hb : PE X b tb) (hc : PE X c tc)
    (hm : lastMarks [op, op'] [b, c] = false := by with_unfolding_all rfl) : PT X (.Compare a [op, op'] [b, c] pos) (tTest (tChain r r' ta tb tc)) := by
  intro pins s σ H Q I h
  refine isTrue_chain (thn (ha pins s σ H _ I h) fun v s1 ⟨x, H1, I1, r1, q1⟩ => test_link (thn (hb pins s1 σ H1 _ I1 q1) fun u s2 ⟨y, H2, I2, r2, q2⟩ =>
    thn (ho pins s2 σ H2 x y v u _ I2 r1 r2 q2) fun d s3 ⟨z, H3, I3, r3, k, e, q3⟩ => ?_)) hm
  subst e
  cases r3
  refine wpAny_truthy_bool ?_
  cases k with
  | false =>
    obtain ⟨k', e', q'⟩ := q3
    cases e'
    exact ite_ff ⟨H3, I3, q'⟩
  | true =>
    refine ite_tt (test_last (thn (hc pins s3 σ H3 _ I3 q3) fun w' s4 ⟨z', H4, I4, r4, q4⟩ => thn (ho' pins s4 σ H4 y z' u w' _ I4 r2 r4 q4) fun d' s5 ⟨z2, H5, I5, r5, k2, e2, q5⟩ => ?_))
    subst e2
    cases r5
    exact wpAny_truthy_bool ⟨H5, I5, q5⟩

/-! ### truth -/
/-- a value's truth by the abstract heap -/
def TruV (K : PySem.W.Frag) (x : V) (H : Hp) (k : Bool) : Prop :=
  match x with
  | .non => k = false
  | .bl b => k = b
  | .int i => k = (i != 0)
  | .str y => y.length ≤ sizeLine ∧ k = ((y.length : Int) != 0)
  | .byt y => y.size ≤ sizeLine ∧ k = ((y.size : Int) != 0)
  | .ref p => (∃ xs, SqL K H p xs ∧ k = !xs.isEmpty) ∨ (∃ xs, SqT K H p xs ∧ k = !xs.isEmpty) ∨ ∃ kvs, H p = some (.dK kvs) ∧ k = !kvs.isEmpty
  | _ => False
theorem line63 : (sizeLine : Nat) < 2 ^ 63 := by rw [sizeLine_eq]; decide
/-! ### strs and bytes -/
theorem op_add_str : OpR X (binaryOp .Add) (fun x y H Q => ∃ i j, x = .str i ∧ y = .str j ∧ i.length + j.length ≤ sizeLine ∧ Q (.str (i ++ j)) H) := by
  intro pins s σ H x y v u Q I rx ry h
  obtain ⟨i, j, rfl, rfl, hz, q⟩ := h
  obtain ⟨t, rfl⟩ := rx
  obtain ⟨t', rfl⟩ := ry
  exact add_str (fun t' tk => ⟨.str (i ++ j), H, I.tok _, ⟨_, rfl⟩, q⟩) hz
def PlainIxT (b : Expr) : Prop := ∀ o i, subscripted b false o i = operate [o, i] (getItem o i)
/-! ### scalar builtins, by CallR -/
theorem vals1 {x : V} {us : List Value} (r : Vals [x] us) : ∃ u, us = [u] ∧ RelV x u := by
  cases r with
  | cons r1 r2 => cases r2; exact ⟨_, rfl, r1⟩
theorem vals2 {x y : V} {us : List Value} (r : Vals [x, y] us) : ∃ u w', us = [u, w'] ∧ RelV x u ∧ RelV y w' := by
  cases r with
  | cons r1 r2 =>
    cases r2 with
    | cons r3 r4 => cases r4; exact ⟨_, _, rfl, r1, r3⟩
theorem call_max2 (hc : X.calm = true) : CallR X (.builtin "max") (fun xs H Q => ∃ i j, xs = [.int i, .int j] ∧ Q (.int (if j > i then j else i)) H) := by
  intro pins s σ H xs us Q I r h
  obtain ⟨i, j, rfl, q⟩ := h
  obtain ⟨u, w', rfl, ⟨t, rfl⟩, ⟨t', rfl⟩⟩ := vals2 r
  refine max_two_ints (I.ok.hd hc) fun h' tk k => ⟨_, H, I.kept k, ?_, q⟩
  by_cases hj : j > i
  · rw [if_pos hj, if_pos hj]; exact ⟨_, rfl⟩
  · rw [if_neg hj, if_neg hj]; exact ⟨_, rfl⟩
theorem call_min2 (hc : X.calm = true) : CallR X (.builtin "min") (fun xs H Q => ∃ i j, xs = [.int i, .int j] ∧ Q (.int (if j < i then j else i)) H) := by
  intro pins s σ H xs us Q I r h
  obtain ⟨i, j, rfl, q⟩ := h
  obtain ⟨u, w', rfl, ⟨t, rfl⟩, ⟨t', rfl⟩⟩ := vals2 r
  refine min_two_ints (I.ok.hd hc) fun h' tk k => ⟨_, H, I.kept k, ?_, q⟩
  by_cases hj : j < i
  · rw [if_pos hj, if_pos hj]; exact ⟨_, rfl⟩
  · rw [if_neg hj, if_neg hj]; exact ⟨_, rfl⟩
theorem call_int1 : CallR X (.type "int") (fun xs H Q => (∃ i, xs = [.int i] ∧ Q (.int i) H) ∨ ∃ k, xs = [.bl k] ∧ Q (.int (if k then 1 else 0)) H) := by
  intro pins s σ H xs us Q I r h
  rcases h with ⟨i, rfl, q⟩ | ⟨k, rfl, q⟩
  · obtain ⟨u, rfl, t, rfl⟩ := vals1 r
    exact call_int_int ⟨.int i, H, I, ⟨_, rfl⟩, q⟩
  · obtain ⟨u, rfl, r1⟩ := vals1 r
    cases r1
    exact call_int_bool ⟨.int (if k then 1 else 0), H, I.tok _, ⟨_, rfl⟩, q⟩
theorem call_str_int : CallR X (.type "str") (fun xs H Q => ∃ i, xs = [.int i] ∧ i.natAbs.log2 < 1920 ∧ Q (.str (toString i)) H) := by
  intro pins s σ H xs us Q I r h
  obtain ⟨i, rfl, hz, q⟩ := h
  obtain ⟨u, rfl, t, rfl⟩ := vals1 r
  exact PySem.P.str_of_int hz ⟨.str _, H, I.tok _, ⟨_, rfl⟩, q⟩
/-- len of a str, a bytes, a list, a tuple -/
def LenV (K : PySem.W.Frag) (x : V) (H : Hp) (n : Nat) : Prop :=
  match x with
  | .str y => y.length ≤ sizeLine ∧ n = y.length
  | .byt y => y.size ≤ sizeLine ∧ n = y.size
  | .ref p => (∃ xs, SqL K H p xs ∧ n = xs.length) ∨ ∃ xs, SqT K H p xs ∧ n = xs.length
  | _ => False
end
end L2

namespace L2
open PySem PySem.Spec PyProof.Rows

/-! ### an instance, its attributes a map -/
structure ObjM (h : Heap) (x dx C : Addr) (mA : Str → Option Value) : Prop where
  obj : h.get? x = some (PySem.W.instObj C dx)
  ns : h.Ns1 dx mA
  ne : dx ≠ x

theorem lookIn_ns {h : Heap} {dx : Addr} {mA : Str → Option Value} (n : h.Ns1 dx mA) : ∃ od, h.get? dx = some od ∧ ∀ name, PySem.W.lookIn name od = some (mA name) := by
  obtain ⟨o, es, ep, ho, hd, hk, _, hm⟩ := n
  refine ⟨o, ho, fun name => ?_⟩
  have e := hm name
  unfold nsFind findBy at e
  rw [← Array.find?_toList] at e
  unfold PySem.W.lookIn
  rw [hd]
  dsimp only
  split
  · rename_i y q
    rw [q] at e
    exact congrArg some e
  · rename_i q
    rw [q] at e
    have a : es.toList.any (·.refKey) = false := by
      rw [List.any_eq_false]
      intro y hy
      obtain ⟨z, t, hkey⟩ := hk y (Array.mem_toList_iff.mp hy)
      simp [DictEntry.refKey, hkey]
    have a' : ¬ es.toList.any (·.refKey) = true := by rw [a]; exact Bool.false_ne_true
    rw [if_neg a']
    exact congrArg some e

theorem ObjM.look {h : Heap} {x dx C : Addr} {mA : Str → Option Value} (I : ObjM h x dx C mA) : ∃ od, PySem.W.InstAt h x (PySem.W.instObj C dx) C (some od) ∧ ∀ name, PySem.W.lookIn name od = some (mA name) :=
  let ⟨od, ho, hl⟩ := lookIn_ns I.ns
  ⟨od, ⟨I.obj, rfl, rfl, ho⟩, hl⟩

section
variable {prog : Program} {w : World} {A : Around} {E : Value → Shared → Prop} {s : Shared} {K : PySem.W.Frag} {x dx C f : Addr} {mA : Str → Option Value} {name : Str} {v : Value}

theorem get_map {expr : Bool} {Q : Value → Shared → Prop} (X : K.In s.heap) (I : ObjM s.heap x dx C mA) (hg : PySem.W.plainGet K C name = true) (hh : PySem.W.hasDictIn K C = true)
    (ha : PySem.W.findIn K (.ref C) name = some none) (hv : mA name = some v) (hv' : PySem.W.handedIn v = true) (h : Q v { s with toks := s.toks + 1 }) :
    wpAny (model prog w) A (getAttr (.ref x) name expr) Q E s := by
  obtain ⟨od, J, hl⟩ := I.look
  exact PySem.W.get_value X J (PySem.W.plainGet_of hg).1 (PySem.W.findObj_own hh ha rfl (by rw [hl, hv])) hv' h

theorem get_meth {pl : Sem Bool} {Q : Value × List Value → Shared → Prop} (X : K.In s.heap) (I : ObjM s.heap x dx C mA) (hg : PySem.W.plainGet K C name = true)
    (hf : PySem.W.findIn K (.ref C) name = some (some (.ref f))) (ht : PySem.W.isFn K (.ref f) = true) (hv : mA name = none) (h : Q (.ref f, [.ref x]) s) :
    wpAny (model prog w) A (getMethod (.ref x) name pl) Q E s := by
  obtain ⟨od, J, hl⟩ := I.look
  exact PySem.W.method_fn X J (PySem.W.plainGet_of hg).1 (PySem.W.plainGet_of hg).2 hf (beq_iff_eq.mp ht) (by show (PySem.W.lookIn name od).map (·.isSome) = some false; rw [hl, hv]; rfl) h

theorem set_map {ns : List Str} {Q : Unit → Shared → Prop} (X : K.In s.heap) (I : ObjM s.heap x dx C mA)
    (hs : PySem.W.findIn K (.ref C) "__setattr__" = some (some (.builtin "object.__setattr__"))) (hp : PySem.W.plainOver K C = true) (ht : PySem.W.takerIn K C name = some none) (hh : PySem.W.hasDictIn K C = true)
    (hw : PySem.Within mA ns) (hsz : ns.length ≤ sizeLine)
    (h : ∀ h', ObjM h' x dx C (fun y => if y = name then some v else mA y) → Heap.SameBut dx s.heap h' → Q () { s with heap := h', toks := s.toks + 2 }) :
    wpAny (model prog w) A (setAttr (.ref x) name v) Q E s := by
  obtain ⟨od, J, hl⟩ := I.look
  refine PySem.W.set_plain X J hs (PySem.W.osa_open (s := { s with toks := s.toks + 1 }) (r := none) X J hp ht fun b => ?_)
  obtain ⟨cd, hc, hd'⟩ := PySem.W.any_some hh
  have hx : s.heap.get? x = some ⟨.ref C, some dx, .plain, #[]⟩ := I.obj
  refine wpAny_bind (wpAny_pure (wpAny_bind (wpAny_bind (wpAny_loadPart hx (wpAny_bind (PySem.W.Looks.here (s := { s with toks := s.toks + 1 }) (PySem.W.looks_clsIn X hc) ?_))))))
  rw [hd']
  refine wpAny_pure (a := some dx) (wpAny_bind (wpAny_pure (wpAny_bind ?_)))
  refine wpAny_nsSet1 (s := { s with toks := s.toks + 1 }) I.ns fun h' hn2 hs2 => ?_
  obtain ⟨oD, esD, epD, hoD, hdD, hcD⟩ := hn2.count (PySem.Within.cons name v hw)
  refine wpAny_bind (wpAny_lookBehind hoD (by rw [hdD]; exact pastItsLine_dict (Nat.le_trans hcD (by rw [List.length_cons]; omega))) ?_)
  exact wpAny_pure (h _ ⟨(hs2.2 _ (Ne.symm I.ne)).trans I.obj, hn2, I.ne⟩ hs2)

/-- C(..): the dict at the heap's end, the instance behind it; then its __init__ -/
theorem make_map {R : Result → Shared → Prop} {vs : List Value} {kw : List (Str × Value)} (X : K.In s.heap) (hm : PySem.W.makesIn K C = true)
    (hi : PySem.W.findIn K (.ref C) "__init__" = some (some (.ref f))) (hf : PySem.W.typeIn K (.ref f) = some (.type "function"))
    (h : codeAny (model prog w) (A.under (.builtin "type.__call__" ⟨.ref C :: vs, kw⟩)) (.call (.ref f) ⟨.ref (s.heap.objs.size + 1) :: vs, kw⟩) (PySem.W.InitBack (s.heap.objs.size + 1) R)
      { s with heap := (s.heap.push PySem.W.emptyDict).push (PySem.W.instObj C s.heap.objs.size) }) :
    codeAny (model prog w) A (.call (.ref C) ⟨vs, kw⟩) R s := by
  obtain ⟨hh, g, d, t, os⟩ := s
  exact PySem.W.make_core (PySem.W.makes_of X hm) (PySem.W.looks_findIn X hi) (fun self => PySem.W.bind_fn X self hf) (.inl rfl) h
end

/-! ### the attributes as a list of pairs -/
def putF (f : Str) (v : V) : List (Str × V) → List (Str × V)
  | [] => [(f, v)]
  | (g, x) :: r => if g = f then (g, v) :: r else (g, x) :: putF f v r
theorem lookup_putF (f g : Str) (v : V) : ∀ fs : List (Str × V), (putF f v fs).lookup g = if g = f then some v else fs.lookup g
  | [] => by
    show List.lookup g [(f, v)] = _
    by_cases h : g = f
    · have hb : (g == f) = true := beq_iff_eq.mpr h
      simp only [List.lookup, hb, if_pos h]
    · have hb : (g == f) = false := beq_eq_false_iff_ne.mpr h
      simp only [List.lookup, hb, if_neg h]
  | (k, x) :: r => by
    have ih := lookup_putF f g v r
    rw [show putF f v ((k, x) :: r) = (if k = f then (k, v) :: r else (k, x) :: putF f v r) from rfl]
    by_cases hk : k = f
    · rw [if_pos hk]
      by_cases h : g = k
      · have hb : (g == k) = true := beq_iff_eq.mpr h
        simp only [List.lookup, hb, if_pos (h.trans hk)]
      · have hb : (g == k) = false := beq_eq_false_iff_ne.mpr h
        simp only [List.lookup, hb, if_neg (fun e : g = f => h (e.trans hk.symm))]
    · rw [if_neg hk]
      by_cases h : g = k
      · have hb : (g == k) = true := beq_iff_eq.mpr h
        simp only [List.lookup, hb, if_neg (fun e : g = f => hk (h.symm.trans e))]
      · have hb : (g == k) = false := beq_eq_false_iff_ne.mpr h
        simp only [List.lookup, hb]
        exact ih
theorem keys_putF (f : Str) (v : V) : ∀ fs : List (Str × V), f ∈ (putF f v fs).map (·.1) ∧ ∀ g, g ∈ fs.map (·.1) → g ∈ (putF f v fs).map (·.1)
  | [] => ⟨by simp [putF], fun g h => by simp at h⟩
  | (k, x) :: r => by
    obtain ⟨i1, i2⟩ := keys_putF f v r
    rw [show putF f v ((k, x) :: r) = (if k = f then (k, v) :: r else (k, x) :: putF f v r) from rfl]
    by_cases hk : k = f
    · rw [if_pos hk]
      subst hk
      exact ⟨by simp, fun g h => by simpa using h⟩
    · rw [if_neg hk]
      refine ⟨?_, fun g h => ?_⟩
      · rw [List.map_cons]
        exact List.mem_cons_of_mem _ i1
      · rw [List.map_cons] at h ⊢
        rcases List.mem_cons.mp h with e | e
        · exact List.mem_cons.mpr (.inl e)
        · exact List.mem_cons_of_mem _ (i2 g e)
theorem length_putF (f : Str) (v : V) : ∀ fs : List (Str × V), (putF f v fs).length ≤ fs.length + 1
  | [] => by simp [putF]
  | (k, x) :: r => by
    have ih := length_putF f v r
    rw [show putF f v ((k, x) :: r) = (if k = f then (k, v) :: r else (k, x) :: putF f v r) from rfl]
    by_cases hk : k = f
    · rw [if_pos hk, List.length_cons, List.length_cons]; omega
    · rw [if_neg hk, List.length_cons, List.length_cons]; omega

theorem RelO.some_of {v : V} {o : Option Value} (r : RelO (some v) o) : ∃ u, o = some u ∧ RelV v u := by
  cases o with
  | none => exact (show False from r).elim
  | some u => exact ⟨u, rfl, r⟩
theorem RelO.none_of {o : Option Value} (r : RelO none o) : o = none := by
  cases o with
  | none => rfl
  | some u => exact (show False from r).elim
theorem handed_of {v : V} {u : Value} (r : RelV v u) : PySem.W.handedIn u = true := by
  cases v with
  | non => cases (show u = Value.none from r); rfl
  | bl b => cases (show u = Value.bool b from r); rfl
  | int i => obtain ⟨t, e⟩ := (show ∃ t, u = Value.int i t from r); cases e; rfl
  | str x => obtain ⟨t, e⟩ := (show ∃ t, u = Value.str x t from r); cases e; rfl
  | byt b => obtain ⟨t, e⟩ := (show ∃ t, u = Value.bytes b t from r); cases e; rfl
  | flt b => obtain ⟨t, e⟩ := (show ∃ t, u = Value.float b t from r); cases e; rfl
  | ref a => cases (show u = Value.ref a from r); rfl
  | ty n => cases (show u = Value.type n from r); rfl

section
variable {P : Program} {w : World} {H H' : Hp} {h h' : Heap} {a C dx : Addr} {fs fs' : List (Str × V)}
theorem ins_get (hok : HOk P w H h) (e : H a = some (.ins C dx fs)) : ∃ mA, ObjM h a dx C mA ∧ (∀ f, RelO (fs.lookup f) (mA f)) ∧ PySem.Within mA (fs.map (·.1)) ∧ fs.length ≤ 1000 ∧ H dx = some (.own a) := by
  obtain ⟨d, z, ne, ob, mA, n, r, q⟩ := (show ObjOk P w H h a (.ins C dx fs) from hok a _ e)
  exact ⟨mA, ⟨ob, n, ne⟩, r, q, z, d⟩
end

/-! ### what of the text a class must have -/
structure Cls (K : PySem.W.Frag) (C : Addr) : Prop where
  pg : PySem.W.plainGet K C Str.empty = true
  hd : PySem.W.hasDictIn K C = true
  po : PySem.W.plainOver K C = true
  sa : PySem.W.findIn K (.ref C) "__setattr__" = some (some (.builtin "object.__setattr__"))
theorem Cls.get {K : PySem.W.Frag} {C : Addr} (c : Cls K C) (f : Str) : PySem.W.plainGet K C f = true := c.pg
/-- no class of it has the name -/
def NoAttr (K : PySem.W.Frag) (C : Addr) (f : Str) : Prop := PySem.W.findIn K (.ref C) f = some none
theorem NoAttr.taker {K : PySem.W.Frag} {C : Addr} {f : Str} (n : NoAttr K C f) : PySem.W.takerIn K C f = some none := by
  unfold PySem.W.takerIn
  rw [show PySem.W.findIn K (.ref C) f = some none from n]
  rfl
/-- a constant of the class -/
structure Con (K : PySem.W.Frag) (C : Addr) (f : Str) (v : V) (u : Value) : Prop where
  at_ : PySem.W.findIn K (.ref C) f = some (some u)
  rel : RelV v u
  get : PySem.W.specialIn K u "__get__" = some none
  cp : PySem.W.copiedNames.contains f = false
/-- a method: a plain def of the class or of one above it -/
structure Meth (K : PySem.W.Frag) (C : Addr) (m : Str) (f : Addr) : Prop where
  at_ : PySem.W.findIn K (.ref C) m = some (some (.ref f))
  fn : PySem.W.isFn K (.ref f) = true
  kp : PySem.W.keepIn K (.ref f) = true

section
variable {X : Cx} {pins : List (Addr × Obj)} {σ : St} {H : Hp} {s : Shared} {a C dx : Addr} {fs : List (Str × V)} {f : Str} {v : V} {A : Around} {E : Value → Shared → Prop}

theorem getattr_ok {b : Bool} {Q : Value → Shared → Prop} (I : Inv X pins σ H s) (e : H a = some (.ins C dx fs)) (c : Cls X.K C) (n : NoAttr X.K C f) (l : fs.lookup f = some v)
    (h : ∀ u s', Inv X pins σ H s' → RelV v u → Q u s') : wpAny (model X.prog X.w) A (getAttr (.ref a) f b) Q E s := by
  obtain ⟨mA, O, r, _, _, _⟩ := ins_get I.hok e
  obtain ⟨u, hu, ru⟩ := RelO.some_of (v := v) (o := mA f) (by rw [← l]; exact r f)
  exact get_map I.kIn O (c.get f) c.hd n hu (handed_of ru) (h u _ (I.tok _) ru)

theorem getmeth_ok {m : Str} {g : Addr} {pl : Sem Bool} {Q : Value × List Value → Shared → Prop} (I : Inv X pins σ H s) (e : H a = some (.ins C dx fs)) (c : Cls X.K C) (k : Meth X.K C m g) (l : fs.lookup m = none)
    (h : Q (.ref g, [.ref a]) s) : wpAny (model X.prog X.w) A (getMethod (.ref a) m pl) Q E s := by
  obtain ⟨mA, O, r, _, _, _⟩ := ins_get I.hok e
  have hn : mA m = none := RelO.none_of (by rw [← l]; exact r m)
  exact get_meth I.kIn O (c.get m) k.at_ k.fn hn h

theorem setattr_ok {y : V} {u : Value} {Q : Unit → Shared → Prop} (I : Inv X pins σ H s) (e : H a = some (.ins C dx fs)) (c : Cls X.K C) (n : NoAttr X.K C f) (hl : fs.length < 1000) (ry : RelV y u)
    (h : ∀ s', Inv X pins σ (upd H a (.ins C dx (putF f y fs))) s' → Q () s') : wpAny (model X.prog X.w) A (setAttr (.ref a) f u) Q E s := by
  obtain ⟨mA, O, r, wi, _, ho⟩ := ins_get I.hok e
  have hz : (fs.map (·.1)).length ≤ sizeLine := by rw [List.length_map, sizeLine_eq]; omega
  refine set_map I.kIn O c.sa c.po n.taker c.hd wi hz fun h' O' sb => h _ ?_
  have hd : ∃ o, h'.get? dx = some o := let ⟨o, _, _, e', _⟩ := O'.ns; ⟨o, e'⟩
  refine I.write (x := a) (e := dx) (by rw [e]; exact True.intro) (.inr ho) (fun b q hb z => (sb.2 b hb).trans z) hd ?_
  refine ⟨by rw [upd_ne O.ne]; exact ho, ?_, O.ne, O'.obj, _, O'.ns, fun g => ?_, fun g hg => ?_⟩
  · have := length_putF f y fs; omega
  · show RelO ((putF f y fs).lookup g) (if g = f then some u else mA g)
    rw [lookup_putF]
    by_cases q : g = f
    · rw [if_pos q, if_pos q]; exact ry
    · rw [if_neg q, if_neg q]; exact r g
  · by_cases q : g = f
    · rw [q]; exact (keys_putF f y fs).1
    · refine (keys_putF f y fs).2 g (wi g fun z => hg ?_)
      show (if g = f then some u else mA g) = none
      rw [if_neg q]; exact z

/-- a new instance, tracked, without attributes -/
theorem Inv.made (I : Inv X pins σ H s) : Inv X pins σ (upd (upd H s.heap.objs.size (.own (s.heap.objs.size + 1))) (s.heap.objs.size + 1) (.ins C s.heap.objs.size []))
    { s with heap := (s.heap.push PySem.W.emptyDict).push (PySem.W.instObj C s.heap.objs.size) } := by
  have e1 : (s.heap.push PySem.W.emptyDict).get? s.heap.objs.size = some PySem.W.emptyDict := Heap.get?_push_size s.heap rfl
  have e2 : ((s.heap.push PySem.W.emptyDict).push (PySem.W.instObj C s.heap.objs.size)).get? (s.heap.objs.size + 1) = some (PySem.W.instObj C s.heap.objs.size) := by
    have := Heap.get?_push_size (s.heap.push PySem.W.emptyDict) (o := PySem.W.instObj C s.heap.objs.size) rfl
    rwa [Heap.size_push] at this
  have e3 : (s.heap.push PySem.W.emptyDict).Ns s.heap.objs.size (fun _ => none) := ⟨PySem.W.emptyDict, #[], _, e1, rfl, (fun e he => absurd he (by simp)), fun _ => rfl⟩
  have I1 := I.laid (a := s.heap.objs.size) (o := .own (s.heap.objs.size + 1)) (h' := s.heap.push PySem.W.emptyDict) (t' := s.toks) (fun b u q => Heap.get?_push_of_some _ q) (Nat.le_refl _) ⟨_, e1⟩
  refine I1.laid (a := s.heap.objs.size + 1) (o := .ins C s.heap.objs.size []) (t' := s.toks) (fun b u q => Heap.get?_push_of_some _ q) (Nat.le_of_eq (Heap.size_push _ _)) ?_
  have ne : s.heap.objs.size ≠ s.heap.objs.size + 1 := Nat.ne_of_lt (Nat.lt_succ_self _)
  refine ⟨by rw [upd_ne ne, upd_same], Nat.zero_le _, ne, e2, fun _ => none, (Heap.Ns1.of_empty e3).at fun o q => Heap.get?_push_of_some _ q, fun _ => True.intro, fun y hy => absurd rfl hy⟩

/-- e.f where nothing but the object is asked: through attributeBase (super) and the last hold -/
theorem attr_of {prog : Program} {w : World} {env : Env} {e : Expr} {f : Str} {pos : Pos} {s : Shared} {Q : Value → Shared → Prop} (hb : attributeBase e f env (eval e env) = eval e env)
    (h : wpAny (model prog w) A (eval e env) (fun o s₁ => wpAny (model prog w) A (getAttr o f true) Q E s₁) E s) : wpAny (model prog w) A (eval (.Attribute e f pos) env) Q E s :=
  Attribute_any_ h (by rw [arm_eval_Attribute, hb])
end

/-! ### readings and rules -/
/-- e.f, an attribute of the instance -/
def tFld (K : PySem.W.Frag) (ta : TE) (f : Str) : TE := fun σ H Q => ta σ H fun x H1 => ∃ a C dx fs v, x = .ref a ∧ H1 a = some (.ins C dx fs) ∧ Cls K C ∧ NoAttr K C f ∧ fs.lookup f = some v ∧ Q v H1
/-- e.f, a constant of the class -/
def tCon (K : PySem.W.Frag) (ta : TE) (f : Str) : TE := fun σ H Q => ta σ H fun x H1 => ∃ a C dx fs v u, x = .ref a ∧ H1 a = some (.ins C dx fs) ∧ Cls K C ∧ Con K C f v u ∧ fs.lookup f = none ∧ Q v H1
/-- e.f = value -/
def sFld (K : PySem.W.Frag) (ta tv : TE) (f : Str) : TS := fun D σ H => tv σ H fun y H1 => ta σ H1 fun x H2 => ∃ a C dx fs, x = .ref a ∧ H2 a = some (.ins C dx fs) ∧ Cls K C ∧ NoAttr K C f ∧ fs.length < 1000 ∧
  D.nx σ (upd H2 a (.ins C dx (putF f y fs)))
/-- an augmented operator on two values -/
def InOp (X : Cx) (op : Operator) (rd : V → V → Hp → VK → Prop) : Prop :=
  ∀ (pins : List (Addr × Obj)) (s : Shared) (σ : St) (H : Hp) (x y : V) (u v : Value) (Q : VK), Inv X pins σ H s → RelV x u → RelV y v → rd x y H Q → wpAny (model X.prog X.w) X.A (inplaceOp op u v) (EP X pins σ Q) X.xe s
/-- e.f op= value -/
def sFldAug (K : PySem.W.Frag) (ta tv : TE) (rd : V → V → Hp → VK → Prop) (f : Str) : TS := fun D σ H => ta σ H fun x H1 => ∃ a C dx fs v, x = .ref a ∧ H1 a = some (.ins C dx fs) ∧ Cls K C ∧ NoAttr K C f ∧ fs.lookup f = some v ∧
  tv σ H1 fun y H2 => rd v y H2 fun z H3 => ∃ dx' fs', H3 a = some (.ins C dx' fs') ∧ fs'.length < 1000 ∧ D.nx σ (upd H3 a (.ins C dx' (putF f z fs')))

section
variable {X : Cx} {o e value : Expr} {f : Str} {pos pos' tpos : Pos} {ta tv : TE}
theorem pe_fld (he : PE X e ta) (hb : attributeBase e f X.env (eval e X.env) = eval e X.env) : PE X (.Attribute e f pos) (tFld X.K ta f) := by
  intro pins s σ H Q I h
  refine attr_of hb (thn (he pins s σ H _ I h) fun u s1 ⟨x, H1, I1, rx, a, C, dx, fs, v, ex, ea, c, n, l, q⟩ => ?_)
  subst ex
  obtain rfl : u = Value.ref a := rx
  exact getattr_ok I1 ea c n l fun u' s2 I2 ru => ⟨v, H1, I2, ru, q⟩
theorem ps_fld (ha : PE X o ta) (hv : PE X value tv) (hs : swapsWith value (some (.Attribute o f pos')) pos.line X.env = pure false) : PS X (.Assign [.Attribute o f pos'] value pos) (sFld X.K ta tv f) := by
  intro pins s σ H D I h
  refine plainObj_wpAny_Assign_Attribute (thn (hv pins s σ H _ I h) fun u s1 ⟨y, H1, I1, ry, q⟩ => thn (ha pins s1 σ H1 _ I1 q) fun ov s2 ⟨x, H2, I2, rx, a, C, dx, fs, ex, ea, c, n, l, q2⟩ => ?_) hs
  subst ex
  obtain rfl : ov = Value.ref a := rx
  exact setattr_ok I2 ea c n l ry fun s3 I3 => ⟨σ, _, I3, q2⟩
def rAdd : V → V → Hp → VK → Prop := fun x y H Q => ∃ i j, x = .int i ∧ y = .int j ∧ Q (.int (i + j)) H
def rSub : V → V → Hp → VK → Prop := fun x y H Q => ∃ i j, x = .int i ∧ y = .int j ∧ Q (.int (i - j)) H
end

/-! ### isinstance -/
section
variable {X : Cx} {pins : List (Addr × Obj)} {σ : St} {H : Hp} {s : Shared} {A : Around} {E : Value → Shared → Prop} {Q : Value → Shared → Prop} {c : Value} {b : Bool}
/-- the type of a value, as the fragment's deciders take it; for an instance its class -/
inductive TyOf (K : PySem.W.Frag) (H : Hp) : V → Value → Prop where
  | non : TyOf K H .non (.type "NoneType")
  | bl (x : Bool) : TyOf K H (.bl x) (.type "bool")
  | int (i : Int) : TyOf K H (.int i) (.type "int")
  | str (x : Str) : TyOf K H (.str x) (.type "str")
  | flt (x : UInt64) : TyOf K H (.flt x) (.type "float")
  | lst {a : Addr} {xs : List V} (e : H a = some (.lst xs)) : TyOf K H (.ref a) (.type "list")
  | frz {a : Addr} {o : Obj} {xs : List V} (e : H a = some (.frz o (.lst xs))) : TyOf K H (.ref a) (.type "list")
  | tup {a : Addr} {xs : List V} (e : H a = some (.tup xs)) : TyOf K H (.ref a) (.type "tuple")
  | dK {a : Addr} {kvs : List (Key × V)} (e : H a = some (.dK kvs)) : TyOf K H (.ref a) (.type "dict")
  | dT {a : Addr} {kvs : List (List Key × V)} (e : H a = some (.dT kvs)) : TyOf K H (.ref a) (.type "dict")
  | ins {a C dx : Addr} {fs : List (Str × V)} (e : H a = some (.ins C dx fs)) (cl : Cls K C) (ha : PySem.W.findIn K (.ref C) "__class__" = some (some (.builtin "object.__class__")))
      (hn : PySem.W.specialIn K (.builtin "object.__class__") "__get__" = some (some (.builtin "getset_descriptor.__get__"))) (htk : PySem.W.takesIn K (.builtin "object.__class__") = some true)
      (hm : PySem.W.mroIn K C (.type "object") = some true) : TyOf K H (.ref a) (.ref C)
/-- isinstance(x, c) for one class c, a built-in or an own one: kitOne's answer -/
theorem isinst_ok {x : V} {u t : Value} (I : Inv X pins σ H s) (rx : RelV x u) (ty : TyOf X.K H x t) (e : PySem.W.kitOne X.K t c = some b) (h : ∀ tk, Q (.bool b) { s with toks := tk }) :
    wpAny (model X.prog X.w) A (call (.builtin "isinstance") [u, c]) Q E s := by
  cases ty with
  | non => cases (show u = Value.none from rx); exact PySem.W.kia_one PySem.W.kitx_none I.kIn True.intro e (fun z => nomatch z) h
  | bl y => cases (show u = Value.bool y from rx); exact PySem.W.kia_one PySem.W.kitx_bool I.kIn True.intro e (fun z => nomatch z) h
  | int i => obtain ⟨t, q⟩ := (show ∃ t, u = Value.int i t from rx); cases q; exact PySem.W.kia_one PySem.W.kitx_int I.kIn True.intro e (fun z => nomatch z) h
  | str y => obtain ⟨t, q⟩ := (show ∃ t, u = Value.str y t from rx); cases q; exact PySem.W.kia_one PySem.W.kitx_str I.kIn True.intro e (fun z => nomatch z) h
  | flt y => obtain ⟨t, q⟩ := (show ∃ t, u = Value.float y t from rx); cases q; exact PySem.W.kia_one PySem.W.kitx_float I.kIn True.intro e (fun z => nomatch z) h
  | @lst a xs ea =>
    cases (show u = Value.ref a from rx)
    obtain ⟨_, _, n, _, h1⟩ := (show ObjOk X.prog X.w H s.heap a (.lst xs) from I.hok a _ ea)
    exact PySem.W.kia_one PySem.W.kitx_list I.kIn ⟨_, h1, rfl⟩ e (fun z => nomatch z) h
  | @frz a ob xs ea =>
    cases (show u = Value.ref a from rx)
    obtain ⟨_, _, _, n, _, h1⟩ := (show ObjOk X.prog X.w H s.heap a (.frz ob (.lst xs)) from I.hok a _ ea)
    exact PySem.W.kia_one PySem.W.kitx_list I.kIn ⟨_, h1, rfl⟩ e (fun z => nomatch z) h
  | @tup a xs ea =>
    cases (show u = Value.ref a from rx)
    obtain ⟨_, _, _, p⟩ := (show ObjOk X.prog X.w H s.heap a (.tup xs) from I.hok a _ ea)
    obtain ⟨o, h1, h2, _⟩ := p
    exact PySem.W.kia_one PySem.W.kitx_tuple I.kIn ⟨o, h1, h2⟩ e (fun z => nomatch z) h
  | @dK a kvs ea =>
    cases (show u = Value.ref a from rx)
    obtain ⟨_, _, vs, _, p⟩ := (show ObjOk X.prog X.w H s.heap a (.dK kvs) from I.hok a _ ea)
    obtain ⟨o, es, ep, h1, h2, _⟩ := p
    exact PySem.W.kia_one PySem.W.kitx_dict I.kIn ⟨o, h1, h2.1⟩ e (fun z => nomatch z) h
  | @dT a kvs ea =>
    cases (show u = Value.ref a from rx)
    obtain ⟨_, _, xs, _, o, es, ep, h1, h2, _⟩ := (show ObjOk X.prog X.w H s.heap a (.dT kvs) from I.hok a _ ea)
    exact PySem.W.kia_one PySem.W.kitx_dict I.kIn ⟨o, h1, h2.1⟩ e (fun z => nomatch z) h
  | @ins a C dx fs ea cl ha hn htk hm =>
    cases (show u = Value.ref a from rx)
    obtain ⟨mA, O, _⟩ := ins_get I.hok ea
    obtain ⟨od, J, _⟩ := O.look
    exact PySem.W.kia_one (PySem.W.kitx_own (cl.get _) cl.hd ha hn htk hm) I.kIn J e (fun z => nomatch z) h
end
end L2

namespace L2
open PySem PySem.Spec PyProof.Rows

/-! ### room -/
structure Room (k : Nat) (A : Around) : Prop where
  hd : A.handled = none
  dp : A.depth + 3 * k + 5 < recursionLimit
  un : A.units + 16 * k + 200 < cLine
theorem Room.mono {j k : Nat} {A : Around} (r : Room k A) (h : j ≤ k) : Room j A := ⟨r.hd, by have := r.dp; omega, by have := r.un; omega⟩
theorem Room.deeper {k : Nat} {A : Around} (r : Room (k + 1) A) (env : Env) : Room k (A.deeper env) :=
  ⟨r.hd, by have := r.dp; show A.depth + 1 + 3 * k + 5 < _; omega, by have := r.un; show A.units + 3 + 16 * k + 200 < _; omega⟩
theorem make_depth {A : Around} {C : Addr} {us : List Value} {kw : List (Str × Value)} : (A.under (.builtin "type.__call__" ⟨.ref C :: us, kw⟩)).depth = A.depth + 1 := by
  first | rfl | simp [Around.under, Code.weight, Code.isCreation, Code.isGuard, Code.isCaller, Code.frames, Code.isFrame, guardIds]
theorem make_units {A : Around} {C : Addr} {us : List Value} {kw : List (Str × Value)} : (A.under (.builtin "type.__call__" ⟨.ref C :: us, kw⟩)).units = A.units + 1 := by
  first | rfl | simp [Around.under, Code.cUnits, Code.frames, Code.isFrame]
theorem Room.make {k : Nat} {A : Around} (r : Room (k + 1) A) (C : Addr) (us : List Value) (kw : List (Str × Value)) : Room k (A.under (.builtin "type.__call__" ⟨.ref C :: us, kw⟩)) :=
  ⟨r.hd, by have := r.dp; rw [make_depth]; omega, by have := r.un; rw [make_units]; omega⟩
theorem Room.depth {k : Nat} {A : Around} (r : Room k A) : A.depth < recursionLimit := by have := r.dp; omega
/-! ### argument lists and displays -/
def tNil : TA := fun _ H Q => Q [] H
def tCons (ta : TE) (tr : TA) : TA := fun σ H Q => ta σ H fun x H1 => tr σ H1 fun xs H2 => Q (x :: xs) H2
section
variable {X : Cx} {e : Expr} {es : List Expr} {te : TE} {t : TA} {pos : Pos}
theorem pa_nil : PA X [] tNil := fun _ _ _ _ H Q I h => Calls.spliced_nil ⟨[], H, I, .nil, h⟩
theorem pa_cons (ha : PE X e te) (hr : PA X es t) (hs : starEach (e :: es) X.env = (false, eval e X.env) :: starEach es X.env := by rfl) : PA X (e :: es) (tCons te t) := by
  intro pos pins s σ H Q I h
  rw [hs]
  show wpAny _ _ (spliced ((false, eval e X.env) :: backTo pos (starEach es X.env))) _ _ s
  refine Calls.spliced_cons (thn (ha pins s σ H _ I h) fun u s1 ⟨x, H1, I1, r1, q1⟩ => ?_)
  exact thn (hr pos pins s1 σ H1 _ I1 q1) fun us s2 ⟨xs, H2, I2, r2, q2⟩ => ⟨x :: xs, H2, I2, .cons r1 r2, q2⟩

/-- a tuple, a list of written items -/
def tTup (t : TA) : TE := fun σ H Q => t σ H fun xs H1 => xs.length ≤ sizeLine ∧ ∀ p, H1 p = none → Q (.ref p) (upd H1 p (.tup xs))
def tLst (t : TA) : TE := fun σ H Q => t σ H fun xs H1 => xs.length ≤ sizeLine ∧ ∀ p, H1 p = none → Q (.ref p) (upd H1 p (.lst xs))
theorem pe_tup {x1} (h : PA X es t) : PE X (.Tuple es x1 pos) (tTup t) := by
  intro pins s σ H Q I hq
  refine wpAny_Tuple_spliced (thn (h pos pins s σ H _ I hq) fun us s1 ⟨xs, H1, I1, r, z, q⟩ => ⟨by rw [← r.length]; exact z, ?_⟩)
  have hf : H1 s1.heap.objs.size = none := I1.hok.fresh (Nat.le_refl _)
  refine ⟨.ref s1.heap.objs.size, upd H1 s1.heap.objs.size (.tup xs), I1.laid (t' := s1.toks) (fun b u e => Heap.get?_push_of_some _ e) (Nat.le_refl _) ?_, rfl, q _ hf⟩
  exact ⟨z, us, r, ⟨_, Heap.get?_push_size _ rfl, rfl, _, rfl⟩⟩
theorem pe_lst (h : PA X es t) : PE X (.List es pos) (tLst t) := by
  intro pins s σ H Q I hq
  refine wpAny_List_spliced (thn (h pos pins s σ H _ I hq) fun us s1 ⟨xs, H1, I1, r, z, q⟩ => ⟨by rw [← r.length]; exact z, ?_⟩)
  have hf : H1 s1.heap.objs.size = none := I1.hok.fresh (Nat.le_refl _)
  refine ⟨.ref s1.heap.objs.size, upd H1 s1.heap.objs.size (.lst xs), I1.laid (t' := s1.toks) (fun b u e => Heap.get?_push_of_some _ e) (Nat.le_refl _) ?_, rfl, q _ hf⟩
  exact ⟨z, us, 0, r, Heap.get?_push_size _ rfl⟩
end

/-! ### what a def promises -/
/-- a def's promise: the bound arguments in the parameters' order, the heap, the wanted end, the wanted exception -/
abbrev Sp := List V → Hp → VK → XK → Prop
/-- how an exception lies behind a call (file 08 gives it): the callers' frames, abstract heap and state ahead of the call, the wish, the exception, the state -/
abbrev CXT := List Env → Hp → Shared → XK → Value → Shared → Prop

/-- the state at a call -/
structure Env0 (P : Program) (w : World) (K : PySem.W.Frag) (mg : Str → Option Value) (base : Heap) (A : Around) (outer : List Env) (s : Shared) (H : Hp) : Prop where
  frames : A.frames = some outer
  mod : Mod K mg base
  bs : ∀ b o, base.get? b = some o → s.heap.get? b = some o ∧ H b = none
  bsz : base.objs.size ≤ s.heap.objs.size
  funs : s.heap.FunFrames base outer
  frf : ∀ b ∈ frs outer, H b = none
  hok : HOk P w H s.heap
  bare : AllBare s.gens
/-- a call's end -/
def CE (outer : List Env) (P : Program) (w : World) (H : Hp) (s : Shared) (Q : VK) (u : Value) (s' : Shared) : Prop :=
  ∃ v H', s'.os = s.os ∧ AllBare s'.gens ∧ Un (frs outer) [] H H' s.heap s'.heap ∧ HOk P w H' s'.heap ∧ RelV v u ∧ Q v H'
def CR (CX : CXT) (outer : List Env) (P : Program) (w : World) (H : Hp) (s : Shared) (Q : VK) (E : XK) (r : Result) (s' : Shared) : Prop :=
  match r with
  | .ok (.ret u) => CE outer P w H s Q u s'
  | .ok _ => False
  | .error e => CX outer H s E e s'
structure FnOk (P : Program) (w : World) (K : PySem.W.Frag) (mg : Str → Option Value) (base : Heap) (CX : CXT) (k : Nat) (f : Addr) (fd : FuncData) (ps : List Str) (sp : Sp) : Prop where
  len : ∀ vs H Q E, sp vs H Q E → vs.length = ps.length
  run : ∀ (A : Around) (outer : List Env) (s : Shared) (H : Hp) (args : Args) (us : List Value) (vs : List V) (Q : VK) (E : XK), Room k A → Env0 P w K mg base A outer s H → BindsTo s fd args (ps.zip us) → Vals vs us → sp vs H Q E →
    codeAny (model P w) A (.call (.ref f) args) (CR CX outer P w H s Q E) s
theorem FnOk.mono {P : Program} {w : World} {K : PySem.W.Frag} {mg : Str → Option Value} {base : Heap} {CX : CXT} {j k : Nat} {f : Addr} {fd : FuncData} {ps : List Str} {sp : Sp} (F : FnOk P w K mg base CX j f fd ps sp) (h : j ≤ k) :
    FnOk P w K mg base CX k f fd ps sp := ⟨F.len, fun A outer s H args us vs Q E hr => F.run A outer s H args us vs Q E (hr.mono h)⟩
theorem Env0.make {P : Program} {w : World} {K : PySem.W.Frag} {mg : Str → Option Value} {base : Heap} {A : Around} {outer : List Env} {s : Shared} {H : Hp} (e : Env0 P w K mg base A outer s H) (C : Addr) (us : List Value) (kw : List (Str × Value)) :
    Env0 P w K mg base (A.under (.builtin "type.__call__" ⟨.ref C :: us, kw⟩)) outer s H := ⟨by first | exact e.frames | (simpa [Around.under, Code.envs, Code.isFrame, pushEnvs] using e.frames), e.mod, e.bs, e.bsz, e.funs, e.frf, e.hok, e.bare⟩
section
variable {X : Cx} {pins : List (Addr × Obj)} {σ : St} {H : Hp} {s s' : Shared}
/-- from a body: what a callee wants -/
theorem Inv.env0 (I : Inv X pins σ H s) : Env0 X.prog X.w X.K X.mg X.base X.A X.stack s H :=
  ⟨I.ok.frames, I.ok.mod, I.bs, Nat.le_trans I.ok.bsz I.sz, I.stack, I.stkFree, I.hok, I.bare⟩
/-- behind a call -/
theorem Inv.after {Q : VK} {u : Value} (I : Inv X pins σ H s) (h : CE X.stack X.prog X.w H s Q u s') : EP X pins σ Q u s' := by
  obtain ⟨v, H', os, bare, un, hok, r, q⟩ := h
  obtain ⟨hh, g, d, t, os'⟩ := s'
  obtain rfl : os' = s.os := os
  exact ⟨v, H', I.call (h' := hh) (g' := g) (d' := d) (t' := t) (ch := []) un hok bare (fun b z => absurd z (by simp)), r, q⟩
end

/-! ### calls -/
/-- f(..): the written arguments, then the defaults dvs; E: what is wanted of an exception -/
def tCall (sp : Sp) (dvs : List V) (E : XK) (t : TA) : TE := fun σ H Q => t σ H fun vs H1 => sp (vs ++ dvs) H1 Q E
/-- o.m(..) of an instance of the class at C -/
def tMeth (C : Addr) (m : Str) (sp : Sp) (dvs : List V) (E : XK) (ta : TE) (t : TA) : TE := fun σ H Q => ta σ H fun x H1 => ∃ a dx fs, x = .ref a ∧ H1 a = some (.ins C dx fs) ∧ fs.lookup m = none ∧
  t σ H1 fun vs H2 => sp (x :: (vs ++ dvs)) H2 Q E
/-- C(..): a new instance and its dict, then __init__ -/
def tMake (C : Addr) (sp : Sp) (dvs : List V) (E : XK) (t : TA) : TE := fun σ H Q => t σ H fun vs H1 => ∀ x dx, H1 x = none → H1 dx = none → dx ≠ x →
  sp (.ref x :: (vs ++ dvs)) (upd (upd H1 dx (.own x)) x (.ins C dx [])) (fun v H2 => v = .non ∧ Q (.ref x) H2) E

/-- how the parameters are bound: us the positional arguments, kw the keywords' values by name, ds the defaults that fill up -/
def Binds (K : PySem.W.Frag) (fd : FuncData) (ps : List Str) (ds : List Value) : Prop :=
  ∀ (s : Shared) (us : List Value), K.In s.heap → (us ++ ds).length = ps.length → BindsTo s fd ⟨us, []⟩ (ps.zip (us ++ ds))
/-- every parameter is given -/
theorem Binds.all {K : PySem.W.Frag} {fd : FuncData} {ps : List Str} (h : ∀ us : List Value, us.length = ps.length → bindArgs fd ⟨us, []⟩ = pure (ps.zip us)) : Binds K fd ps [] := fun s us _ hl => by
  rw [List.append_nil] at hl ⊢
  exact .of_eq (h us hl)

/-- an exception of a callee reaches what this body wants of exceptions -/
def Passes (CX : CXT) (X : Cx) (E : XK) : Prop := ∀ (pins : List (Addr × Obj)) (σ : St) (H : Hp) (s : Shared) (e : Value) (s' : Shared), Inv X pins σ H s → CX X.stack H s E e s' → X.xe e s'

section
variable {X : Cx} {CX : CXT} {k : Nat} {f C : Addr} {fd : FuncData} {ps : List Str} {sp : Sp} {dvs : List V} {ds : List Value} {E : XK} {x m : Str} {p pos apos : Pos} {e o : Expr} {es : List Expr} {ta : TE} {t : TA}

/-- the callee runs -/
theorem run_fn {pins : List (Addr × Obj)} {σ : St} {H : Hp} {s : Shared} {Q : VK} {us : List Value} {vs : List V} (F : FnOk X.prog X.w X.K X.mg X.base CX k f fd ps sp) (hr : Room k X.A) (hb : Binds X.K fd ps ds) (hd : Vals dvs ds) (hx : Passes CX X E)
    (I : Inv X pins σ H s) (r : Vals vs us) (h : sp (vs ++ dvs) H Q E) : wpAny (model X.prog X.w) X.A (call (.ref f) us) (EP X pins σ Q) X.xe s := by
  have r2 : Vals (vs ++ dvs) (us ++ ds) := r.append hd
  have hl : (us ++ ds).length = ps.length := by rw [← r2.length]; exact F.len _ _ _ _ h
  refine wpAny_call (codeAny_mono (F.run X.A X.stack s H ⟨us, []⟩ (us ++ ds) (vs ++ dvs) Q E hr I.env0 (hb s us I.kIn hl) r2 h) fun r s' hq => ?_)
  cases r with
  | error e => exact hx pins σ H s e s' I hq
  | ok fl =>
    cases fl with
    | ret u => exact I.after hq
    | next => exact False.elim hq
    | brk => exact False.elim hq
    | cont => exact False.elim hq

theorem pe_call (F : FnOk X.prog X.w X.K X.mg X.base CX k f fd ps sp) (hr : Room k X.A) (hg : Gl X x) (hm : X.mg x = some (.ref f)) (hk : PySem.W.keepIn X.K (.ref f) = true) (hb : Binds X.K fd ps ds) (hd : Vals dvs ds) (hx : Passes CX X E)
    (ha : PA X (e :: es) t) (hdb : (x == ("__debug__" : Str)) = false := by decide) (he : starEach (e :: es) X.env = (false, eval e X.env) :: starEach es X.env := by rfl) (hpl : (backTo pos (starEach es X.env)).any (·.1) = false := by rfl) :
    PE X (.Call (.Name x p) (e :: es) [] pos) (tCall sp dvs E t) := by
  intro pins s σ H Q I h
  refine wpAny_Call_Name_kw (ld_glob I hg hm ?_ hdb)
  refine PySem.W.callWith_K (h₀ := X.base) I.ok.mod.kin hk (thn (ha pos pins s σ H _ I h) fun us s1 ⟨vs, H1, I1, r, q⟩ => ⟨I1.kIn, ?_⟩) he hpl
  exact run_fn F hr hb hd hx I1 r q
/-- o.m(e, ..) -/
theorem pe_meth {pl : Sem Bool} (he : PE X o ta) (c : Cls X.K C) (hm : Meth X.K C m f) (F : FnOk X.prog X.w X.K X.mg X.base CX k f fd ps sp) (hr : Room k X.A) (hb : Binds X.K fd ps ds) (hd : Vals dvs ds) (hx : Passes CX X E) (ha : PA X (e :: es) t)
    (hst : starEach (e :: es) X.env = (false, eval e X.env) :: starEach es X.env := by rfl) (hpl : (backTo pos (starEach es X.env)).any (·.1) = false := by rfl)
    (ht : eval (.Call (.Attribute o m apos) (e :: es) [] pos) X.env = (do
      let ov ← eval o X.env
      standAt apos.atName
      let (f, first) ← holding [ov] (getMethod ov m pl)
      callWith pos f first (backTo pos (starEach (e :: es) X.env)) (backToKw pos (keywordEach [] X.env))) := by rfl) :
    PE X (.Call (.Attribute o m apos) (e :: es) [] pos) (tMeth C m sp dvs E ta t) := by
  intro pins s σ H Q I h
  refine PySem.W.methodCall_KW (pl := pl) (thn (he pins s σ H _ I h) fun u s1 ⟨x, H1, I1, rx, a, dx, fs, ex, ea, l, q⟩ => ?_) ht
  subst ex
  obtain rfl : u = Value.ref a := rx
  refine getmeth_ok I1 ea c hm l ?_
  refine PySem.W.callWith_K (first := [.ref a]) (h₀ := X.base) I.ok.mod.kin hm.kp (thn (ha pos pins s1 σ H1 _ I1 q) fun us s2 ⟨vs, H2, I2, r, q2⟩ => ⟨I2.kIn, ?_⟩) hst hpl
  exact run_fn (us := .ref a :: us) (vs := .ref a :: vs) F hr hb hd hx I2 (.cons rfl r) q2
/-- what a class must have to be made -/
structure Mk (K : PySem.W.Frag) (C f : Addr) : Prop where
  makes : PySem.W.makesIn K C = true
  init : PySem.W.findIn K (.ref C) "__init__" = some (some (.ref f))
  fn : PySem.W.isFn K (.ref f) = true
  kp : PySem.W.keepIn K (.ref C) = true

theorem run_make {pins : List (Addr × Obj)} {σ : St} {H : Hp} {s : Shared} {Q : VK} {us : List Value} {vs : List V} (M : Mk X.K C f) (F : FnOk X.prog X.w X.K X.mg X.base CX k f fd ps sp) (hr : Room (k + 1) X.A) (hb : Binds X.K fd ps ds) (hd : Vals dvs ds)
    (hx : Passes CX X E) (I : Inv X pins σ H s) (r : Vals vs us)
    (h : ∀ x dx, H x = none → H dx = none → dx ≠ x → sp (.ref x :: (vs ++ dvs)) (upd (upd H dx (.own x)) x (.ins C dx [])) (fun v H2 => v = .non ∧ Q (.ref x) H2) E) :
    wpAny (model X.prog X.w) X.A (call (.ref C) us) (EP X pins σ Q) X.xe s := by
  have hq := h (s.heap.objs.size + 1) s.heap.objs.size (I.hok.fresh (Nat.le_succ _)) (I.hok.fresh (Nat.le_refl _)) (Nat.ne_of_lt (Nat.lt_succ_self _))
  have I2 := Inv.made (C := C) I
  have r2 : Vals (V.ref (s.heap.objs.size + 1) :: (vs ++ dvs)) (Value.ref (s.heap.objs.size + 1) :: (us ++ ds)) := .cons rfl (r.append hd)
  have hl : (Value.ref (s.heap.objs.size + 1) :: us ++ ds).length = ps.length := by
    have e := r2.length
    rw [F.len _ _ _ _ hq] at e
    exact e.symm
  refine wpAny_call (make_map (f := f) I.kIn M.makes M.init (beq_iff_eq.mp M.fn) (codeAny_mono (F.run _ X.stack _ _ ⟨Value.ref (s.heap.objs.size + 1) :: us, []⟩ (Value.ref (s.heap.objs.size + 1) :: (us ++ ds)) _ _ E (hr.make C us [])
    (I2.env0.make C us []) (hb _ (Value.ref (s.heap.objs.size + 1) :: us) I2.kIn hl) r2 hq) fun r s' hq' => ?_))
  cases r with
  | error e => exact hx pins σ _ _ e s' I2 hq'
  | ok fl =>
    cases fl with
    | ret u =>
      obtain ⟨v, H', I3, rv, ev, q3⟩ := I2.after hq'
      subst ev
      exact ⟨rv, ⟨V.ref (s.heap.objs.size + 1), H', I3, rfl, q3⟩⟩
    | next => exact False.elim hq'
    | brk => exact False.elim hq'
    | cont => exact False.elim hq'
theorem pe_make (M : Mk X.K C f) (F : FnOk X.prog X.w X.K X.mg X.base CX k f fd ps sp) (hr : Room (k + 1) X.A) (hg : Gl X x) (hm : X.mg x = some (.ref C)) (hb : Binds X.K fd ps ds) (hd : Vals dvs ds) (hx : Passes CX X E)
    (ha : PA X (e :: es) t) (hdb : (x == ("__debug__" : Str)) = false := by decide) (he : starEach (e :: es) X.env = (false, eval e X.env) :: starEach es X.env := by rfl) (hpl : (backTo pos (starEach es X.env)).any (·.1) = false := by rfl) :
    PE X (.Call (.Name x p) (e :: es) [] pos) (tMake C sp dvs E t) := by
  intro pins s σ H Q I h
  refine wpAny_Call_Name_kw (ld_glob I hg hm ?_ hdb)
  refine PySem.W.callWith_K (h₀ := X.base) I.ok.mod.kin M.kp (thn (ha pos pins s σ H _ I h) fun us s1 ⟨vs, H1, I1, r, q⟩ => ⟨I1.kIn, ?_⟩) he hpl
  exact run_make M F hr hb hd hx I1 r q
end

/-! ### keywords -/
/-- the values of the keywords, from the left -/
def PK (X : Cx) (kws : List Keyword) (t : TA) : Prop :=
  ∀ (pos : Pos) (pins : List (Addr × Obj)) (s : Shared) (σ : St) (H : Hp) (Q : List V → Hp → Prop), Inv X pins σ H s → t σ H Q → wpAny (model X.prog X.w) X.A (evalAll ((backToKw pos (keywordEach kws X.env)).map (·.2))) (AP X pins σ Q) X.xe s
section
variable {X : Cx} {CX : CXT} {k : Nat} {f C : Addr} {fd : FuncData} {ps ks : List Str} {sp : Sp} {E : XK} {x m : Str} {p pos apos kpos : Pos} {e o : Expr} {es : List Expr} {kws : List Keyword} {te ta : TE} {t tk : TA} {nm : Option Str}
/-- how a call with keywords binds: g puts the positional values us and the keywords' values ws (names ks) in the parameters' order, defaults among them -/
structure KBinds (K : PySem.W.Frag) (fd : FuncData) (ps ks : List Str) (g : List Value → List Value → List Value) (gV : List V → List V → List V) : Prop where
  to : ∀ (s : Shared) (us ws : List Value), K.In s.heap → (g us ws).length = ps.length → BindsTo s fd ⟨us, ks.zip ws⟩ (ps.zip (g us ws))
  rel : ∀ {vs : List V} {us : List Value} {zs : List V} {ws : List Value}, Vals vs us → Vals zs ws → Vals (gV vs zs) (g us ws)
def tCallK (sp : Sp) (gV : List V → List V → List V) (E : XK) (t tk : TA) : TE := fun σ H Q => t σ H fun vs H1 => tk σ H1 fun zs H2 => sp (gV vs zs) H2 Q E
variable {g : List Value → List Value → List Value} {gV : List V → List V → List V}
end

/-! ### a def's body keeps its promise -/
/-- names: the parameters first -/
structure FnScope (N P : List Str) (sc : Scope) : Prop where
  kind : sc.kind = .function
  co : sc.isCoroutine = false
  gen : sc.isGenerator = false
  nd : N.Nodup
  pre : N.take P.length = P
  par : ∀ x ∈ P, sc.names.lookup x = some .local ∨ sc.names.lookup x = some .cell
  nofree : ∀ y ∈ sc.names, y.2 ≠ .free

theorem bindL_out {kindOf : Str → Option NameKind} {x : Str} : ∀ {binds : List (Str × Value)} {m : Str → Option Value}, (∀ v, (x, v) ∉ binds) → bindL kindOf binds m x = m x
  | [], _, _ => rfl
  | (n, v) :: r, m, h => by
    unfold bindL
    rw [bindL_out fun w hw => h w (List.mem_cons_of_mem _ hw)]
    split
    · have : x ≠ n := by rintro rfl; exact h v List.mem_cons_self
      simp [this]
    · rfl
theorem bindC_out {kindOf : Str → Option NameKind} {x : Str} : ∀ {binds : List (Str × Value)} {m : Str → Option Value}, (∀ v, (x, v) ∉ binds) → bindC kindOf binds m x = m x
  | [], _, _ => rfl
  | (n, v) :: r, m, h => by
    unfold bindC
    rw [bindC_out fun w hw => h w (List.mem_cons_of_mem _ hw)]
    split
    · rfl
    · have : x ≠ n := by rintro rfl; exact h v List.mem_cons_self
      simp [this]
theorem bindL_get {kindOf : Str → Option NameKind} {x : Str} {v : Value} : ∀ {P : List Str} {vs : List Value} {i : Nat} {m : Str → Option Value}, P.Nodup → P[i]? = some x → vs[i]? = some v → kindOf x = some .local →
    bindL kindOf (P.zip vs) m x = some v
  | [], _, _, _, _, h, _, _ => by simp at h
  | _ :: _, [], _, _, _, _, h, _ => by simp at h
  | p :: P, w :: vs, 0, m, nd, h1, h2, hk => by
    simp at h1 h2; subst h1; subst h2
    show bindL kindOf ((p, w) :: P.zip vs) m p = _
    unfold bindL
    rw [bindL_out fun v hv => (List.nodup_cons.mp nd).1 (List.of_mem_zip hv).1, if_pos hk]
    simp
  | p :: P, w :: vs, i + 1, m, nd, h1, h2, hk => by
    show bindL kindOf ((p, w) :: P.zip vs) m x = _
    unfold bindL
    exact bindL_get (i := i) (List.nodup_cons.mp nd).2 (by simpa using h1) (by simpa using h2) hk
theorem bindC_get {kindOf : Str → Option NameKind} {x : Str} {v : Value} : ∀ {P : List Str} {vs : List Value} {i : Nat} {m : Str → Option Value}, P.Nodup → P[i]? = some x → vs[i]? = some v → kindOf x ≠ some .local →
    bindC kindOf (P.zip vs) m x = some v
  | [], _, _, _, _, h, _, _ => by simp at h
  | _ :: _, [], _, _, _, _, h, _ => by simp at h
  | p :: P, w :: vs, 0, m, nd, h1, h2, hk => by
    simp at h1 h2; subst h1; subst h2
    show bindC kindOf ((p, w) :: P.zip vs) m p = _
    unfold bindC
    rw [bindC_out fun v hv => (List.nodup_cons.mp nd).1 (List.of_mem_zip hv).1, if_neg hk]
    simp
  | p :: P, w :: vs, i + 1, m, nd, h1, h2, hk => by
    show bindC kindOf ((p, w) :: P.zip vs) m x = _
    unfold bindC
    exact bindC_get (i := i) (List.nodup_cons.mp nd).2 (by simpa using h1) (by simpa using h2) hk

/-- the names' values at the entry -/
def start (N : List Str) (vs : List V) : St := vs.map some ++ List.replicate (N.length - vs.length) none

/-- the context of a def's body, at its entry; an exception leaves the frame, then lies as CX says -/
def cxOf (CX : CXT) (P : Program) (w : World) (K : PySem.W.Frag) (mg : Str → Option Value) (base : Heap) (N : List Str) (qual : Str) (scope : Scope) (f : Addr) (cd : Value) (A : Around) (outer : List Env) (s : Shared) (H : Hp) (E : XK) : Cx where
  prog := P
  w := w
  K := K
  mg := mg
  base := base
  A := A.deeper (envOfC qual scope s.heap.objs.size f cd)
  N := N
  s₀ := s
  H₀ := H
  env := envOfC qual scope s.heap.objs.size f cd
  outer := outer
  stack := envOfC qual scope s.heap.objs.size f cd :: outer
  ex := []
  calm := true
  fn := fun _ => true
  pn := []
  xe := fun e s' => wpAny (model P w) (A.deeper (envOfC qual scope s.heap.objs.size f cd)) (leaving (envOfC qual scope s.heap.objs.size f cd) e) (fun _ s'' => CX outer H s E e s'') (fun e' s'' => CX outer H s E e' s'') s'

theorem cell_has {sc : Scope} {n : Nat} {x : Str} (h : sc.names.lookup x = some .cell) : ∃ c, (cellsFrom n sc.names []).lookup x = some c := by
  have q := PySem.W.cellsFrom_some sc.names n [] (.inl h)
  exact Option.isSome_iff_exists.mp q

theorem inv_start {CX : CXT} {P : Program} {w : World} {K : PySem.W.Frag} {mg : Str → Option Value} {base : Heap} {N ps : List Str} {qual : Str} {scope : Scope} {f : Addr} {cd : Value} {A : Around} {outer : List Env} {s s1 : Shared} {H : Hp} {E : XK} {us : List Value} {vs : List V}
    (S : FnScope N ps scope) (hd : A.handled = none) (e0 : Env0 P w K mg base A outer s H) (hl : vs.length = ps.length) (r : Vals vs us)
    (x : InCallC s s.heap.objs.size (bindL (envOfC qual scope s.heap.objs.size f cd).kindOf (ps.zip us) fun _ => none) (cellsFrom (s.heap.objs.size + 1) scope.names []) (bindC (envOfC qual scope s.heap.objs.size f cd).kindOf (ps.zip us) fun _ => none) s1) :
    Inv (cxOf CX P w K mg base N qual scope f cd A outer s H E) [] (start N vs) H s1 := by
  have hpl : ps.length ≤ N.length := by have := congrArg List.length S.pre; rw [List.length_take] at this; omega
  obtain ⟨h1, tk, rfl, hk⟩ := x.done
  have noA : ∀ b : Addr, b ∉ (cxOf CX P w K mg base N qual scope f cd A outer s H E).ex := fun b z => absurd (show b ∈ ([] : List Addr) from z) (by simp)
  refine ⟨⟨e0.mod, S.kind, rfl, rfl, Nat.le_refl _, fun y z c h1 h2 => ?_, fun y hy => ?_, fun y c _ h => ?_, fun _ => hd, Around.frames_deeper e0.frames, .inr ⟨rfl, rfl⟩, fun b z => absurd z (noA b), e0.bs, e0.bsz, fun b _ _ => noA b, fun b z => absurd z (noA b), e0.funs, e0.frf⟩,
    rfl, e0.bare, Un.kept hk, ⟨_, x.toInCall.ns, fun i y v h1 h2 h3 => ?_⟩, fun y c h => ⟨_, x.cell y c h⟩, e0.hok.fresh (Nat.le_refl _), fun y c h => ?_, fun p hp => absurd (show p ∈ ([] : List (Addr × Obj)) from hp) (by simp), e0.hok.kept hk, ?_⟩
  · exact name_of_addr x.apart (PySem.mem_of_lookup h1) (PySem.mem_of_lookup h2)
  · have hy : scope.names.lookup y = some .cell ∨ scope.names.lookup y = some .free := hy
    rcases hy with hy | hy
    · exact cell_has hy
    · exact absurd rfl (S.nofree _ (PySem.mem_of_lookup hy))
  · exact Nat.le_of_lt (x.above y c (PySem.mem_of_lookup h))
  · have hi : i < vs.length := by
      unfold start at h2
      by_cases hi : i < vs.length
      · exact hi
      · rw [List.getElem?_append_right (by simpa using hi)] at h2
        rw [List.getElem?_replicate] at h2
        split at h2 <;> cases h2
    have ha : vs[i]? = some v := by
      unfold start at h2
      rw [List.getElem?_append_left (by simpa using hi), List.getElem?_map] at h2
      cases e : vs[i]? with
      | none => rw [e] at h2; cases h2
      | some a => rw [e] at h2; cases h2; rfl
    obtain ⟨u, hu, rv⟩ := r.get ha
    have hp : ps[i]? = some y := by
      rw [← S.pre, List.getElem?_take_of_lt (by omega)]; exact h1
    have ndP : ps.Nodup := by rw [← S.pre]; exact S.nd.sublist (List.take_sublist _ _)
    refine ⟨u, rv, ?_⟩
    rcases S.par y (List.mem_of_getElem? hp) with k | k
    · exact .inl ⟨k, bindL_get ndP hp hu k⟩
    · obtain ⟨c, e⟩ := cell_has (n := s.heap.objs.size + 1) k
      refine .inr ⟨.inl k, c, e, ?_⟩
      have q := x.cell y c e
      rw [bindC_get ndP hp hu (by show scope.names.lookup y ≠ _; rw [k]; decide)] at q
      exact q
  · exact e0.hok.fresh (Nat.le_of_lt (x.above y c (PySem.mem_of_lookup h)))
  · unfold start
    show _ = N.length
    rw [List.length_append, List.length_map, List.length_replicate]
    omega

/-- THE RULE: a def (or a method) of the text, by its body. The body's reading t is chosen for each entry; it is run at the parameters' values -/
theorem fn_of {CX : CXT} {P : Program} {w : World} {K : PySem.W.Frag} {mg : Str → Option Value} {base : Heap} {k : Nat} {f : Addr} {name qual : Str} {params : Arguments} {body : List Stmt} {scope : Scope} {dV kV doc pm cdv ct oc : Value} {an od : Option Addr}
    {osl : Array (Option Value)} {N ps : List Str} {sp : Sp} (lk : K.lookup f = some ⟨oc, od, .func (PySem.W.fnOf name qual params body scope dV kV doc pm an cdv ct), osl⟩) (hcd : PySem.W.codeIn K cdv qual = true) (S : FnScope N ps scope)
    (len : ∀ vs H Q E, sp vs H Q E → vs.length = ps.length)
    (hbody : ∀ (A : Around) (outer : List Env) (s : Shared) (H : Hp) (vs : List V) (Q : VK) (E : XK), Room k (A.deeper (envOfC qual scope s.heap.objs.size f cdv)) → sp vs H Q E →
      ∃ t, PSs (cxOf CX P w K mg base N qual scope f cdv A outer s H E) body t ∧ t { nx := fun _ H' => Q .non H', rt := Q } (start N vs) H) :
    FnOk P w K mg base CX (k + 1) f (PySem.W.fnOf name qual params body scope dV kV doc pm an cdv ct) ps sp := by
  refine ⟨len, fun A outer s H args us vs Q E hr e0 hb r hsp => ?_⟩
  have hl := len _ _ _ _ hsp
  have KX : K.In s.heap := e0.mod.kin.keeps fun b o e => (e0.bs b o e).1
  have lim : s.heap.NoLimit := e0.mod.nolimit.keeps fun b o e => (e0.bs b o e).1
  have hkind : ∀ y ∈ ps.zip us, scope.names.lookup y.1 = some .local ∨ (scope.names.lookup y.1 = some .cell ∧ ((cellsFrom (s.heap.objs.size + 1) scope.names []).lookup y.1).isSome = true) := fun ⟨n, v⟩ hy => by
    rcases S.par n (List.of_mem_zip hy).1 with q | q
    · exact .inl q
    · exact .inr ⟨q, PySem.W.cellsFrom_some _ _ _ (.inl q)⟩
  refine codeAny_call_function hr.depth (KX _ _ lk) rfl S.co S.gen rfl (PySem.W.codeRec_of KX hcd) (hb _ _ _ _ ?_)
  refine wpAny_newFunctionEnv_cells S.kind hkind fun env he s1 x => ?_
  subst he
  refine ⟨lim.keeps x.toInCall.keep, codeAny_func ?_⟩
  obtain ⟨t, ht, hq⟩ := hbody A outer s H vs Q E (hr.deeper _) hsp
  have I : Inv (cxOf CX P w K mg base N qual scope f cdv A outer s H E) [] (start N vs) H s1 := inv_start S hr.hd e0 hl r x
  refine wpAny_mono (ht [] s1 (start N vs) H _ I hq) (fun fl s' hs => ?_) fun e s' hs => hs
  have fin : ∀ {σ' : St} {H' : Hp} {v : V} {u : Value}, Inv (cxOf CX P w K mg base N qual scope f cdv A outer s H E) [] σ' H' s' → RelV v u → Q v H' → CE outer P w H s Q u s' :=
    fun {σ' H' v u} J rv q => ⟨v, H', J.os, J.bare, J.base, J.hok, rv, q⟩
  cases fl with
  | ret u =>
    obtain ⟨v, σ', H', J, rv, q⟩ := hs
    exact fin J rv q
  | next =>
    obtain ⟨σ', H', J, q⟩ := hs
    exact fin (v := V.non) (u := Value.none) J rfl q
  | brk =>
    obtain ⟨_, _, _, q⟩ := hs
    exact False.elim q
  | cont =>
    obtain ⟨_, _, _, q⟩ := hs
    exact False.elim q
end L2

namespace L2
open PySem PySem.Spec PyProof.Rows
section
variable {X : Cx} {x : Str} {p pos : Pos} {e : Expr} {es : List Expr} {t : TA} {id T : String} {r : List V → Hp → VK → Prop}

def tCB (r : List V → Hp → VK → Prop) (t : TA) : TE := fun σ H Q => t σ H fun vs H1 => r vs H1 Q
/-- f(e, ..), f a built-in function -/
theorem pe_callB (hc : CallR X (.builtin id) r) (hg : Gl X x) (hm : X.mg x = none) (hv : bootBuiltins x = some (.builtin id)) (ha : PA X (e :: es) t) (hn : x ≠ "__name__" := by decide) (hdb : (x == ("__debug__" : Str)) = false := by decide)
    (he : starEach (e :: es) X.env = (false, eval e X.env) :: starEach es X.env := by rfl) (hpl : (backTo pos (starEach es X.env)).any (·.1) = false := by rfl) : PE X (.Call (.Name x p) (e :: es) [] pos) (tCB r t) := by
  intro pins s σ H Q I h
  refine wpAny_Call_Name_kw (ld_blt I hg hm hv ?_ hn hdb)
  exact PyProof.Rows.callWith_builtin1 (thn (ha pos pins s σ H _ I h) fun us s1 ⟨vs, H1, I1, r1, q1⟩ => hc pins s1 σ H1 vs us Q I1 r1 q1) he hpl
/-- T(e, ..), T a built-in type -/
theorem pe_callTy (hc : CallR X (.type T) r) (hg : Gl X x) (hm : X.mg x = none) (hv : bootBuiltins x = some (.type T)) (ha : PA X (e :: es) t) (hn : x ≠ "__name__" := by decide) (hdb : (x == ("__debug__" : Str)) = false := by decide)
    (he : starEach (e :: es) X.env = (false, eval e X.env) :: starEach es X.env := by rfl) (hpl : (backTo pos (starEach es X.env)).any (·.1) = false := by rfl) : PE X (.Call (.Name x p) (e :: es) [] pos) (tCB r t) := by
  intro pins s σ H Q I h
  refine wpAny_Call_Name_kw (ld_blt I hg hm hv ?_ hn hdb)
  exact PyProof.Rows.callWith_type1 (thn (ha pos pins s σ H _ I h) fun us s1 ⟨vs, H1, I1, r1, q1⟩ => hc pins s1 σ H1 vs us Q I1 r1 q1) he hpl
end
end L2

namespace HT
open PySem PyProof.Rows

/-- t < u of tuples of ints -/
def lexLt : List Int → List Int → Bool
  | [], [] => false
  | [], _ :: _ => true
  | _ :: _, [] => false
  | x :: xs, y :: ys => if x = y then lexLt xs ys else decide (x < y)
section
open PySem.SeqAt
open PySem.AutoSeq1 (wpAny_loadPart')
open PySem.MeetsSeq PySem.MeetsSeq2 PySem.MeetsSeq3

end

section
variable {prog : Program} {w : World} {A : Around} {E : Value → Shared → Prop} {s : Shared}

/-! ### t[a:b], not the whole -/
/-- a slice's bound as a place among n (d where it is left out) -/
def sIx (n d : Nat) : Option Int → Nat
  | none => d
  | some v => if v < 0 then (v + (n : Int)).toNat else min v.toNat n
theorem sIx_none (n d : Nat) : sIx n d none = d := rfl
theorem sIx_nat (n d k : Nat) : sIx n d (some (k : Int)) = min k n := by
  show (if (k : Int) < 0 then ((k : Int) + (n : Int)).toNat else min (k : Int).toNat n) = min k n
  rw [if_neg (by omega), Int.toNat_natCast]
theorem sIx_le (n d : Nat) (hd : d ≤ n) (o : Option Int) : sIx n d o ≤ n := by
  cases o with
  | none => exact hd
  | some v =>
    show (if v < 0 then (v + (n : Int)).toNat else min v.toNat n) ≤ n
    by_cases hv : v < 0
    · rw [if_pos hv]; omega
    · rw [if_neg hv]; exact Nat.min_le_right _ _
theorem clip_eq (v : Int) (n d : Nat) : (if v < 0 then max (v + (n : Int)) 0 else min v (n : Int)) = ((sIx n d (some v) : Nat) : Int) := by
  show (if v < 0 then max (v + (n : Int)) 0 else min v (n : Int)) = (((if v < 0 then (v + (n : Int)).toNat else min v.toNat n) : Nat) : Int)
  by_cases hv : v < 0
  · simp only [if_pos hv]; omega
  · simp only [if_neg hv]; omega
theorem adjust_gen (lo hi : Option Int) (n : Nat) : Builtin.Slice.sliceAdjust lo hi 1 (n : Int) = (((sIx n 0 lo : Nat) : Int), ((sIx n n hi : Nat) : Int)) := by
  have h1 : ¬ ((1 : Int) < 0) := by omega
  unfold Builtin.Slice.sliceAdjust
  simp only [h1, if_false]
  refine Prod.ext ?_ ?_
  · cases lo with
    | none => rfl
    | some v => exact clip_eq v n 0
  · cases hi with
    | none => rfl
    | some v => exact clip_eq v n n
theorem places_gen (i j : Nat) : Builtin.Slice.slicePlaces (i : Int) (j : Int) 1 = j - i := by
  unfold Builtin.Slice.slicePlaces
  have h1 : (1 : Int) > 0 := by omega
  simp only [h1, if_true, Int.ediv_one]
  split <;> omega
theorem slicePart_ {v : Value} {o : Option Int} {Q : Option Int → Shared → Prop} (p : IsPart v o) (h : Q o s) : wpAny (model prog w) A (Builtin.Slice.slicePartIndex v) Q E s := by
  cases p with
  | none => exact slicePart_none h
  | int i t => exact slicePart_int h
theorem sliceApplied_gen {sl : Addr} {vl vu : Value} {lo hi : Option Int} {n : Nat} {Q : Int × Int × Nat → Shared → Prop} (hs : s.heap.IsSliceOf sl vl vu .none) (pl : IsPart vl lo) (pu : IsPart vu hi)
    (h : Q (((sIx n 0 lo : Nat) : Int), 1, sIx n n hi - sIx n 0 lo) s) : wpAny (model prog w) A (Builtin.Slice.sliceApplied (.ref sl) (pure (n : Int))) Q E s := by
  obtain ⟨os, hos, hcs, hds⟩ := id hs
  unfold Builtin.Slice.sliceApplied Builtin.Slice.sliceFields
  refine wpAny_bind (wpAny_bind (wpAny_field hos hds (x := vl) rfl (wpAny_bind (wpAny_field hos hds (x := vu) rfl (wpAny_bind (wpAny_field hos hds (x := .none) rfl (wpAny_pure ?_)))))))
  refine wpAny_bind (slicePart_none ?_)
  show wpAny _ _ (if ((1 : Int) == 0) = true then _ else _) _ _ s
  rw [if_neg (by decide)]
  refine wpAny_bind (slicePart_ pl (wpAny_bind (slicePart_ pu (wpAny_bind (wpAny_pure ?_)))))
  show wpAny _ _ (match Builtin.Slice.sliceAdjust lo hi 1 (n : Int) with | (lo, hi) => pure (lo, (1 : Int), Builtin.Slice.slicePlaces lo hi 1)) _ _ s
  rw [adjust_gen lo hi n]
  show wpAny _ _ (pure (((sIx n 0 lo : Nat) : Int), (1 : Int), Builtin.Slice.slicePlaces ((sIx n 0 lo : Nat) : Int) ((sIx n n hi : Nat) : Int) 1)) _ _ s
  rw [places_gen]
  exact wpAny_pure h
theorem pick_gen (xs : Array Value) (i k : Nat) : ((List.range k).filterMap fun (m : Nat) => xs[((i : Int) + (m : Int) * 1).toNat]?).toArray = ((xs.toList.drop i).take k).toArray := by
  have e : (fun (m : Nat) => xs[((i : Int) + (m : Int) * 1).toNat]?) = fun m => xs[i + m]? := by
    funext m
    have : ((i : Int) + (m : Int) * 1).toNat = i + m := by omega
    rw [this]
  rw [e]
  have := pick_run xs i k
  rw [List.filterMap_map] at this
  have e2 : ((fun x => xs[x]?) ∘ fun x => i + x) = fun m => xs[i + m]? := rfl
  rw [e2] at this
  rw [this]

theorem getItem_tuple_cut {t sl : Addr} {items : Array Value} {vl vu : Value} {lo hi : Option Int} {Q : Value → Shared → Prop} (ht : IsTup s.heap t items) (hs : s.heap.IsSliceOf sl vl vu .none) (pl : IsPart vl lo) (pu : IsPart vu hi)
    (hw : ¬ (sIx items.size 0 lo = 0 ∧ sIx items.size items.size hi = items.size))
    (h : Q (.ref s.heap.objs.size) { s with heap := s.heap.push { cls := .type "tuple", data := .seq ((items.toList.drop (sIx items.size 0 lo)).take (sIx items.size items.size hi - sIx items.size 0 lo)).toArray } })
    (hsz : items.size ≤ sizeLine) : wpAny (model prog w) A (getItem (.ref t) (.ref sl)) Q E s := by
  have htake : sizeOk (.seq ((items.toList.drop (sIx items.size 0 lo)).take (sIx items.size items.size hi - sIx items.size 0 lo)).toArray) := by
    show ((items.toList.drop (sIx items.size 0 lo)).take (sIx items.size items.size hi - sIx items.size 0 lo)).toArray.size ≤ sizeLine
    rw [List.size_toArray, List.length_take, List.length_drop, Array.length_toList]
    omega
  have hj : sIx items.size items.size hi ≤ items.size := sIx_le _ _ (Nat.le_refl _) hi
  obtain ⟨os, hos, hcs, hds⟩ := id hs
  have hTs : s.TypeIs (.ref sl) "slice" := ⟨os, hos, hcs⟩
  unfold getItem
  try with_reducible refine wpAny_holding ?_
  first | refine wpAny_bind (wpAny_pure ?_) | skip
  refine wpAny_bind (wpAny_sequenceKey ht.typeIs (by decide) ?_)
  refine wpAny_bind (wpAny_callSpecial?_slot (name := Str.ofString "__getitem__") ht.typeIs PyProof.Rows.slot_tuple_getitem
    (wpAny_call_entry PyProof.Rows.slot_tuple_getitem ht.typeIs entry_tuple_getitem ?_ (args_tuple_getitem _ _)))
  show wpAny _ _ (Builtin.Tuple.tupleItemsOf (.ref t) >>= _) _ _ s
  refine wpAny_bind (tupleItemsOf_ ht ?_)
  refine wpAny_bind (wpAny_typeOf hTs ?_)
  rw [if_pos (by decide)]
  refine wpAny_bind (sliceApplied_gen hs pl pu ?_)
  have hno : ¬ ((((sIx items.size 0 lo : Nat) : Int) == 0 && (1 : Int) == 1 && (sIx items.size items.size hi - sIx items.size 0 lo) == items.size) = true) := by
    intro q
    rw [Bool.and_eq_true, Bool.and_eq_true] at q
    have q1 : ((sIx items.size 0 lo : Nat) : Int) = 0 := eq_of_beq q.1.1
    have q2 : sIx items.size items.size hi - sIx items.size 0 lo = items.size := eq_of_beq q.2
    exact hw ⟨by omega, by omega⟩
  show wpAny _ _ (if (((sIx items.size 0 lo : Nat) : Int) == 0 && (1 : Int) == 1 && (sIx items.size items.size hi - sIx items.size 0 lo) == items.size) = true then _ else _) _ _ s
  rw [if_neg hno, pick_gen]
  first
    | exact wpAny_bind (m := Builtin.Tuple.tupleExact _) (wpAny_newObj_type (wpAny_pure ⟨_, rfl, wpAny_pure h⟩) htake)
    | exact wpAny_bind (m := Builtin.Tuple.tupleExact _) (wpAny_newObj_type (wpAny_bind (wpAny_pure (wpAny_pure ⟨_, rfl, wpAny_pure h⟩))) htake)
    | exact wpAny_bind (wpAny_bind (m := Builtin.Tuple.tupleExact _) (wpAny_newObj_type (wpAny_pure (wpAny_pure ⟨_, rfl, wpAny_pure h⟩)) htake))
    | exact wpAny_bind (wpAny_bind (m := Builtin.Tuple.tupleExact _) (wpAny_newObj_type (wpAny_pure ⟨_, rfl, wpAny_pure h⟩) htake))
end
end HT

namespace L2
open PySem PySem.Spec PyProof.Rows

/-! ### the parts of a slice -/
abbrev TO := St → Hp → (Option Int → Hp → Prop) → Prop
/-- a slice's part (left out, or an int) -/
def PO (X : Cx) (e : Option Expr) (t : TO) : Prop :=
  ∀ (pins : List (Addr × Obj)) (s : Shared) (σ : St) (H : Hp) (Q : Option Int → Hp → Prop), Inv X pins σ H s → t σ H Q →
    wpAny (model X.prog X.w) X.A (evalPart e X.env) (fun u s' => ∃ o H', Inv X pins σ H' s' ∧ IsPart u o ∧ Q o H') X.xe s
def tNoPart : TO := fun _ H Q => Q none H
def tPart (t : TE) : TO := fun σ H Q => t σ H fun x H1 => ∃ i, x = .int i ∧ Q (some i) H1

section
variable {X : Cx} {e : Expr} {te : TE} {lo hi : Option Expr} {tl th : TO} {pos p2 : Pos}

theorem po_none : PO X none tNoPart := by
  intro pins s σ H Q I h
  rw [evalPart_none]
  exact wpAny_pure ⟨none, H, I, .none, h⟩
theorem po_some (h : PE X e te) : PO X (some e) (tPart te) := by
  intro pins s σ H Q I hw
  rw [evalPart_some]
  refine thn (h pins s σ H _ I hw) fun u s1 ⟨x, H1, I1, r1, q1⟩ => ?_
  obtain ⟨i, rfl, q⟩ := q1
  obtain ⟨t, rfl⟩ := r1
  exact ⟨some i, H1, I1, .int i t, q⟩

/-- what a slice of a value is, by values: the slice object stands at sl -/
def SlR (X : Cx) (r : V → Option Int → Option Int → Hp → VK → Prop) : Prop :=
  ∀ (pins : List (Addr × Obj)) (s : Shared) (σ : St) (H : Hp) (x : V) (v vl vu : Value) (lo hi : Option Int) (sl : Addr) (Q : VK), Inv X pins σ H s → RelV x v → s.heap.IsSliceOf sl vl vu .none → IsPart vl lo → IsPart vu hi → r x lo hi H Q →
    ∃ T id, typeLookup (.type T) "__getitem__" = pure (some (.builtin id)) ∧ s.TypeIs v T ∧ wpAny (model X.prog X.w) X.A (getItem v (.ref sl)) (EP X pins σ Q) X.xe s
def tSl (r : V → Option Int → Option Int → Hp → VK → Prop) (te : TE) (tl th : TO) : TE := fun σ H Q => te σ H fun x H1 => tl σ H1 fun l H2 => th σ H2 fun u H3 => r x l u H3 Q
/-- a[lo:hi], any a -/
theorem pe_slice {r : V → Option Int → Option Int → Hp → VK → Prop} (hr : SlR X r) (he : PE X e te) (hl : PO X lo tl) (hu : PO X hi th) : PE X (.Subscript e (.Slice lo hi none p2) pos) (tSl r te tl th) := by
  intro pins s σ H Q I h
  refine Subscript_ (thn (he pins s σ H _ I h) fun v s1 ⟨x, H1, I1, r1, q1⟩ => ?_)
  refine wpAny_Slice (thn (hl pins s1 σ H1 _ I1 q1) fun vl s2 ⟨l, H2, I2, pl, q2⟩ => thn (hu pins s2 σ H2 _ I2 q2) fun vu s3 ⟨u, H3, I3, pu, q3⟩ => ?_)
  rw [evalPart_none]
  refine wpAny_pure ?_
  have I4 : Inv X pins σ H3 { s3 with heap := s3.heap.push { cls := .type "slice", data := .fields #[vl, vu, .none] } } := I3.kept (t' := s3.toks) fun b ob q => Heap.get?_push_of_some _ q
  obtain ⟨T, id, hT, ht, hg⟩ := hr pins { s3 with heap := s3.heap.push { cls := .type "slice", data := .fields #[vl, vu, .none] } } σ H3 x v vl vu l u s3.heap.objs.size Q I4 r1 (Heap.IsSliceOf.new ..) pl pu q3
  show wpAny (model X.prog X.w) X.A (subscriptTail e (.Slice lo hi none p2) v (.ref s3.heap.objs.size)) (EP X pins σ Q) X.xe { s3 with heap := s3.heap.push { cls := .type "slice", data := .fields #[vl, vu, .none] } }
  exact tail_any (ops := [.ref s3.heap.objs.size, v]) ht hT hg (by with_unfolding_all rfl)

/-- the items of xs[lo:hi] -/
def cutV (xs : List V) (lo hi : Option Int) : List V := (xs.drop (HT.sIx xs.length 0 lo)).take (HT.sIx xs.length xs.length hi - HT.sIx xs.length 0 lo)
theorem cutV_length (xs : List V) (lo hi : Option Int) : (cutV xs lo hi).length ≤ xs.length := by
  unfold cutV
  rw [List.length_take, List.length_drop]
  omega
/-- t[lo:hi], not the whole of it (the whole would be t itself) -/
def rSlT (K : PySem.W.Frag) : V → Option Int → Option Int → Hp → VK → Prop := fun x lo hi H Q => ∃ a xs, x = .ref a ∧ SqT K H a xs ∧
  ¬ (HT.sIx xs.length 0 lo = 0 ∧ HT.sIx xs.length xs.length hi = xs.length) ∧ ∀ p, H p = none → Q (.ref p) (upd H p (.tup (cutV xs lo hi)))
/-! ### t < u, t + u -/
def rLtT (K : PySem.W.Frag) : R2 := fun x y H Q => ∃ a b ns ms, x = .ref a ∧ y = .ref b ∧ SqT K H a (ns.map V.int) ∧ SqT K H b (ms.map V.int) ∧ Q (.bl (HT.lexLt ns ms)) H
/-- t + u, t not empty: u empty gives t itself -/
def rCatT (K : PySem.W.Frag) : R2 := fun x y H Q => ∃ a b xs ys, x = .ref a ∧ y = .ref b ∧ SqT K H a xs ∧ SqT K H b ys ∧ xs ≠ [] ∧ xs.length + ys.length ≤ sizeLine ∧
  (ys = [] → Q (.ref a) H) ∧ (ys ≠ [] → ∀ p, H p = none → Q (.ref p) (upd H p (.tup (xs ++ ys))))
theorem Vals.nil_iff {xs : List V} {us : List Value} (r : Vals xs us) : us = [] ↔ xs = [] := by
  cases r with
  | nil => simp
  | cons _ _ => simp
end
end L2

namespace L2
open PySem PySem.Spec PyProof.Rows

/-! ### places -/
/-- the place that an index of any sign means -/
def ixN (n : Nat) (i : Int) : Option Nat := if 0 ≤ i then (if i < n then some i.toNat else none) else if -(n : Int) ≤ i then some (i + n).toNat else none
def atI {α : Type} (xs : List α) (i : Int) : Option α := (ixN xs.length i).bind fun j => xs[j]?
theorem ixN_seq {n : Nat} {i : Int} {j : Nat} (h : ixN n i = some j) : seqIndex? i n = some j ∧ j < n ∧ -(n : Int) ≤ i ∧ i < n := by
  unfold ixN at h
  by_cases h0 : 0 ≤ i
  · rw [if_pos h0] at h
    by_cases h1 : i < n
    · rw [if_pos h1] at h
      have e : i.toNat = j := Option.some.inj h
      exact ⟨by rw [seqIndex_of h0 h1, e], by omega, by omega, h1⟩
    · rw [if_neg h1] at h; cases h
  · rw [if_neg h0] at h
    by_cases h1 : -(n : Int) ≤ i
    · rw [if_pos h1] at h
      have e : (i + n).toNat = j := Option.some.inj h
      exact ⟨by rw [seqIndex_neg (by omega) h1, e], by omega, h1, by omega⟩
    · rw [if_neg h1] at h; cases h
theorem atI_get {α : Type} {xs : List α} {i : Int} {v : α} (h : atI xs i = some v) : ∃ j, seqIndex? i xs.length = some j ∧ xs[j]? = some v ∧ j < xs.length ∧ -(xs.length : Int) ≤ i ∧ i < xs.length := by
  unfold atI at h
  cases e : ixN xs.length i with
  | none => rw [e] at h; cases h
  | some j =>
    rw [e] at h
    obtain ⟨h1, h2, h3, h4⟩ := ixN_seq e
    exact ⟨j, h1, h, h2, h3, h4⟩
theorem atI_nat {α : Type} {xs : List α} {j : Nat} {v : α} (h : xs[j]? = some v) : atI xs (j : Int) = some v := by
  have hj : j < xs.length := (List.getElem?_eq_some_iff.mp h).1
  have e : ixN xs.length (j : Int) = some j := by
    unfold ixN
    rw [if_pos (by omega), if_pos (by omega)]; simp
  unfold atI; rw [e]; exact h
/-! ### what may be subscripted -/
/-- what stands as an index of a plain subscript -/
def PlainIx (b : Expr) : Prop := ∀ o i, subscripted b false o i = operate [o, i] (getItem o i)
/-- a subscript by values -/
def IxR (X : Cx) (r : R2) : Prop :=
  ∀ (value slice : Expr) (pins : List (Addr × Obj)) (s : Shared) (σ : St) (H : Hp) (x y : V) (v u : Value) (Q : VK), Inv X pins σ H s → RelV x v → RelV y u → r x y H Q →
    subscripted slice false v u = operate [v, u] (getItem v u) → wpAny (model X.prog X.w) X.A (subscriptTail value slice v u) (EP X pins σ Q) X.xe s
/-- a call of a builtin's method by values: the receiver, the arguments -/
def MtR (X : Cx) (id : String) (r : V → List V → Hp → VK → Prop) : Prop :=
  ∀ (pins : List (Addr × Obj)) (s : Shared) (σ : St) (H : Hp) (x : V) (xs : List V) (v : Value) (us : List Value) (Q : VK), Inv X pins σ H s → RelV x v → Vals xs us → r x xs H Q →
    wpAny (model X.prog X.w) X.A (call (.builtin id) (v :: us)) (EP X pins σ Q) X.xe s
section
variable {X : Cx} {a b : Expr} {ta tb : TE} {pos : Pos}
/-- a[b] -/
theorem pe_ix {r : R2} (hr : IxR X r) (ha : PE X a ta) (hb : PE X b tb) (hs : PlainIx b) : PE X (.Subscript a b pos) (tOp r ta tb) := by
  intro pins s σ H Q I h
  exact Subscript_ (binT ha hb I h fun v u s2 x y H2 I2 rx ry q => hr a b pins s2 σ H2 x y v u Q I2 rx ry q (hs _ _))

def rIxL (K : PySem.W.Frag) : R2 := fun x y H Q => ∃ p xs i v, x = .ref p ∧ y = .int i ∧ SqL K H p xs ∧ atI xs i = some v ∧ Q v H
def rIxT (K : PySem.W.Frag) : R2 := fun x y H Q => ∃ p xs i v, x = .ref p ∧ y = .int i ∧ SqT K H p xs ∧ atI xs i = some v ∧ Q v H
def rIxS : R2 := fun x y H Q => ∃ z i c, x = .str z ∧ y = .int i ∧ z.length ≤ sizeLine ∧ atI z.cps.toList i = some c ∧ Q (.str ⟨#[c]⟩) H
theorem ix_list : IxR X (rIxL X.K) := by
  intro value slice pins s σ H x y v u Q I rx ry h hs
  obtain ⟨p, xs, i, z, rfl, rfl, hq, he, q⟩ := h
  cases rx
  obtain ⟨t, rfl⟩ := ry
  obtain ⟨its, r, pl, hz⟩ := I.list hq
  obtain ⟨j, h1, h2, h3, h4, h5⟩ := atI_get he
  obtain ⟨w, ew, rw'⟩ := r.get h2
  have hl := r.length
  have hn := line63
  have fin : EP X pins σ Q w s := ⟨z, H, I, rw', q⟩
  by_cases h0 : 0 ≤ i
  · have hj : i.toNat = j := by
      rw [seqIndex_of h0 h5] at h1
      exact Option.some.inj h1
    exact item_listR pl.isList h0 (by omega) (by rw [hj]; simpa using ew) fin hs
  · have hj : (i + (its.toArray.size : Int)).toNat = j := by
      rw [seqIndex_neg (by omega) h4] at h1
      rw [List.size_toArray, ← hl]
      exact Option.some.inj h1
    exact subscriptTail_builtinR (x := w) pl.isList.typeIs slot_list_getitem.lookup
      (wpAny_getItem_list_neg (Q := fun r s' => r = w ∧ EP X pins σ Q r s') pl.isList (by omega) (by rw [List.size_toArray] <;> omega) (by omega) (by rw [hj]; simpa using ew) ⟨rfl, fin⟩) hs
theorem ix_tup : IxR X (rIxT X.K) := by
  intro value slice pins s σ H x y v u Q I rx ry h hs
  obtain ⟨p, xs, i, z, rfl, rfl, hq, he, q⟩ := h
  cases rx
  obtain ⟨t, rfl⟩ := ry
  obtain ⟨its, r, pl, hz⟩ := I.tuple hq
  obtain ⟨j, h1, h2, h3, h4, h5⟩ := atI_get he
  obtain ⟨w, ew, rw'⟩ := r.get h2
  have hl := r.length
  have hn := line63
  have fin : EP X pins σ Q w s := ⟨z, H, I, rw', q⟩
  exact subscriptTail_builtinR (x := w) pl.typeIs slot_tuple_getitem.lookup
    (getItem_tuple (j := j) (Q := fun r s' => r = w ∧ EP X pins σ Q r s') pl (by omega) (by omega) (by rw [List.size_toArray, ← hl]; exact h1) (by simpa using ew) ⟨rfl, fin⟩) hs
theorem ix_str : IxR X rIxS := by
  intro value slice pins s σ H x y v u Q I rx ry h hs
  obtain ⟨z, i, c, rfl, rfl, hz, he, q⟩ := h
  obtain ⟨t, rfl⟩ := rx
  obtain ⟨t', rfl⟩ := ry
  obtain ⟨j, h1, h2, h3, h4, h5⟩ := atI_get he
  have hl : z.cps.toList.length = z.length := by simp [Str.length]
  rw [hl] at h1 h4 h5
  have hn := line63
  exact tail_any (typeIs_str s z t) slot_str_getitem.lookup (getItem_str (c := c) (by
    have e1 : decide (i < -(2 ^ 63 : Int)) = false := decide_eq_false (by omega)
    have e2 : decide (i ≥ 2 ^ 63) = false := decide_eq_false (by omega)
    rw [e1, e2, Bool.or_false]) (by rw [h1]; simpa using h2) ⟨.str ⟨#[c]⟩, H, I.tok _, ⟨_, rfl⟩, q⟩) hs
/-- list, tuple or str -/
def rIx (K : PySem.W.Frag) : R2 := fun x y H Q => rIxL K x y H Q ∨ rIxT K x y H Q ∨ rIxS x y H Q
/-! ### xs[i] = v, any sign -/
/-- the list's object behind a store -/
theorem mapSeq_set (its : List Value) (n j : Nat) (u : Value) : Obj.mapSeq (·.setIfInBounds j u) { cls := .type "list", data := .seq its.toArray n } = { cls := .type "list", data := .seq (its.set j u).toArray n } := by
  simp [Obj.mapSeq]
theorem Inv.lst {pins : List (Addr × Obj)} {σ : St} {H : Hp} {s : Shared} {p : Addr} {xs : List V} (I : Inv X pins σ H s) (h : H p = some (.lst xs)) :
    ∃ (its : List Value) (n : Nat), Vals xs its ∧ s.heap.get? p = some { cls := .type "list", data := .seq its.toArray n } ∧ xs.length ≤ sizeLine := by
  obtain ⟨z, its, n, r, e⟩ := I.hok p _ h
  exact ⟨its, n, r, e, z⟩
/-- the list at p is written by an update of its object -/
theorem Inv.lstUpd {pins : List (Addr × Obj)} {σ : St} {H : Hp} {s : Shared} {p : Addr} {xs ys : List V} {its its' : List Value} {n n' : Nat} {f : Obj → Obj} (I : Inv X pins σ H s) (h : H p = some (.lst xs))
    (ho : s.heap.get? p = some { cls := .type "list", data := .seq its.toArray n }) (hf : f { cls := .type "list", data := .seq its.toArray n } = { cls := .type "list", data := .seq its'.toArray n' }) (r : Vals ys its') (hz : ys.length ≤ sizeLine) (t : Nat) :
    Inv X pins σ (upd H p (.lst ys)) { s with heap := s.heap.update p f, toks := t } := by
  have e : (s.heap.update p f).get? p = some { cls := .type "list", data := .seq its'.toArray n' } := by
    rw [Heap.get?_update_self f ho (by rw [hf] <;> rfl), hf]
  refine I.write (x := p) (e := p) (by rw [h]; trivial) (.inl rfl) (fun b u hb q => (Heap.get?_update_other _ _ (Ne.symm hb)).trans q) ⟨_, e⟩ ?_
  exact ⟨hz, its', n', r, e⟩
def rSetL : V → V → V → Hp → (Hp → Prop) → Prop := fun o i v H Q => ∃ p xs k j, o = .ref p ∧ i = .int k ∧ H p = some (.lst xs) ∧ ixN xs.length k = some j ∧ Q (upd H p (.lst (xs.set j v)))
theorem set_list : PSet X rSetL := by
  intro pins s σ H o i v ov iv u Q I ro ri rv h
  obtain ⟨p, xs, k, j, rfl, rfl, hp, hj, q⟩ := h
  cases ro
  obtain ⟨t, rfl⟩ := ri
  obtain ⟨its, n, r, ho, hz⟩ := I.lst hp
  obtain ⟨h1, h2, h3, h4⟩ := ixN_seq hj
  have hl := r.length
  have hn := line63
  have I' : Inv X pins σ (upd H p (.lst (xs.set j v))) { s with heap := s.heap.update p (Obj.mapSeq (·.setIfInBounds j u)) } :=
    I.lstUpd hp ho (mapSeq_set its n j u) (r.set rv j) (by rw [List.length_set]; exact hz) s.toks
  by_cases h0 : 0 ≤ k
  · have hk : k.toNat = j := by
      rw [seqIndex_of h0 h4] at h1
      exact Option.some.inj h1
    exact PySem.W.ki_setAt ho h0 (by omega) (by rw [List.size_toArray, ← hl]; exact h4) (by rw [hk]; exact ⟨_, I', q⟩)
  · have hk : (k + (its.toArray.size : Int)).toNat = j := by
      rw [seqIndex_neg (by omega) h3] at h1
      rw [List.size_toArray, ← hl]
      exact Option.some.inj h1
    exact PySem.W.ki_setBack ho (by omega) (by rw [List.size_toArray, ← hl]; exact h3) (by omega) (by rw [hk]; exact ⟨_, I', q⟩)

/-! ### slices -/
theorem slice_bounds (lo hi : Option Int) (n : Nat) : (sliceBounds lo hi none n).1 = ((HT.sIx n 0 lo : Nat) : Int) ∧ (sliceBounds lo hi none n).2.1 = ((HT.sIx n n hi : Nat) : Int) ∧ (sliceBounds lo hi none n).2.2 = 1 := by
  refine ⟨?_, ?_, rfl⟩
  · cases lo with
    | none => simp [sliceBounds, HT.sIx]
    | some i =>
      simp only [sliceBounds, HT.sIx, Option.getD_none, show (1 : Int) > 0 by decide, if_true]
      by_cases h : i < 0
      · simp only [h, if_true] <;> omega
      · simp only [h, if_false] <;> omega
  · cases hi with
    | none => simp [sliceBounds, HT.sIx]
    | some i =>
      simp only [sliceBounds, HT.sIx, Option.getD_none, show (1 : Int) > 0 by decide, if_true]
      by_cases h : i < 0
      · simp only [h, if_true] <;> omega
      · simp only [h, if_false] <;> omega
theorem slicePick_cut (its : List Value) (lo hi : Option Int) : slicePick its.toArray lo hi none = ((its.drop (HT.sIx its.length 0 lo)).take (HT.sIx its.length its.length hi - HT.sIx its.length 0 lo)).toArray := by
  obtain ⟨h1, h2, h3⟩ := slice_bounds lo hi its.toArray.size
  unfold slicePick
  rw [h1, h2, h3]
  simp only [sliceRange_one, pick_run, List.size_toArray] <;> rfl
/-- xs[lo:hi] of a list: a new list -/
def rSlL (K : PySem.W.Frag) : V → Option Int → Option Int → Hp → VK → Prop := fun x lo hi H Q => ∃ a xs, x = .ref a ∧ SqL K H a xs ∧ ∀ p, H p = none → Q (.ref p) (upd H p (.lst (cutV xs lo hi)))
theorem sl_list : SlR X (rSlL X.K) := by
  intro pins s σ H x v vl vu lo hi sl Q I rx hs pl pu h
  obtain ⟨a, xs, rfl, hx, q⟩ := h
  cases rx
  obtain ⟨its, r, ht, hz⟩ := I.list hx
  have hlen := r.length
  refine ⟨"list", _, slot_list_getitem.lookup, ht.isList.typeIs, ?_⟩
  refine wpAny_getItem_list_slice ht.isList hs pl pu .none (by simp) ?_ (by rw [List.size_toArray] <;> omega)
  rw [slicePick_cut, ← hlen]
  refine ⟨.ref s.heap.objs.size, _, I.laid (t' := s.toks) (o := .lst (cutV xs lo hi)) (fun b ob q => Heap.get?_push_of_some _ q) (Nat.le_refl _) ?_, rfl, q _ (I.hok.fresh (Nat.le_refl _))⟩
  exact ⟨Nat.le_trans (cutV_length xs lo hi) hz, _, 0, (r.drop (HT.sIx xs.length 0 lo)).take (HT.sIx xs.length xs.length hi - HT.sIx xs.length 0 lo), Heap.get?_push_size _ rfl⟩

/-! ### in, not in: flat items -/
def flatV : V → Bool
  | .non => true
  | .bl _ => true
  | .int _ => true
  | .str _ => true
  | _ => false
/-- == of flat values -/
def eqV : V → V → Bool
  | .non, .non => true
  | .bl a, .bl b => a == b
  | .bl a, .int b => (if a then 1 else 0) == b
  | .int a, .bl b => a == (if b then 1 else 0)
  | .int a, .int b => a == b
  | .str a, .str b => a == b
  | _, _ => false
theorem eqAt_V {A : Around} {s : Shared} {y x : V} {u v : Value} (ry : RelV y u) (rx : RelV x v) (fy : flatV y = true) (fx : flatV x = true) : SeqAt.EqAt A s u v (eqV y x) := by
  cases y with
  | non =>
    cases ry
    cases x with
    | non => cases rx; exact SeqAt.EqAt.same _
    | bl b => cases rx; exact SeqAt.EqAt.none_bool b
    | int b => obtain ⟨t, rfl⟩ := rx; exact SeqAt.EqAt.none_int b t
    | str b => obtain ⟨t, rfl⟩ := rx; exact SeqAt.EqAt.none_str b t
    | _ => exact absurd (show false = true from fx) Bool.false_ne_true
  | bl a =>
    cases ry
    cases x with
    | non => cases rx; exact SeqAt.EqAt.bool_none a
    | bl b => cases rx; exact SeqAt.EqAt.bool_bool a b
    | int b => obtain ⟨t, rfl⟩ := rx; exact SeqAt.EqAt.bool_int a b t
    | str b => obtain ⟨t, rfl⟩ := rx; exact SeqAt.EqAt.bool_str a b t
    | _ => exact absurd (show false = true from fx) Bool.false_ne_true
  | int a =>
    obtain ⟨t', rfl⟩ := ry
    cases x with
    | non => cases rx; exact SeqAt.EqAt.int_none a t'
    | bl b => cases rx; exact SeqAt.EqAt.int_bool a t' b
    | int b => obtain ⟨t, rfl⟩ := rx; exact SeqAt.EqAt.int_int a t' b t
    | str b => obtain ⟨t, rfl⟩ := rx; exact SeqAt.EqAt.int_str a t' b t
    | _ => exact absurd (show false = true from fx) Bool.false_ne_true
  | str a =>
    obtain ⟨t', rfl⟩ := ry
    cases x with
    | non => cases rx; exact SeqAt.EqAt.str_none a t'
    | bl b => cases rx; exact SeqAt.EqAt.str_bool a t' b
    | int b => obtain ⟨t, rfl⟩ := rx; exact SeqAt.EqAt.str_int a t' b t
    | str b => obtain ⟨t, rfl⟩ := rx; exact SeqAt.EqAt.str_str a t' b t
    | _ => exact absurd (show false = true from fx) Bool.false_ne_true
  | _ => exact absurd (show false = true from fy) Bool.false_ne_true
/-- the items' answers, read off the values (a value's own answer does not lean on its token) -/
def eqU (x : V) (u : Value) : Bool := match u with
  | .none => eqV .non x
  | .bool b => eqV (.bl b) x
  | .int i _ => eqV (.int i) x
  | .str z _ => eqV (.str z) x
  | _ => false
theorem eqU_of {x y : V} {u : Value} (r : RelV y u) (f : flatV y = true) : eqU x u = eqV y x := by
  cases y with
  | non => cases r; rfl
  | bl b => cases r; rfl
  | int i => obtain ⟨t, rfl⟩ := r; rfl
  | str z => obtain ⟨t, rfl⟩ := r; rfl
  | _ => exact absurd (show false = true from f) Bool.false_ne_true
theorem any_eqU {x : V} : ∀ {xs : List V} {us : List Value}, Vals xs us → xs.all flatV = true → us.any (eqU x) = xs.any fun y => eqV y x
  | _, _, .nil, _ => rfl
  | y :: xs, u :: us, .cons r t, f => by
    rw [List.all_cons, Bool.and_eq_true] at f
    rw [List.any_cons, List.any_cons, eqU_of r f.1, any_eqU t f.2]
theorem mem_eqAt {A : Around} {s : Shared} {x : V} {v : Value} (rx : RelV x v) (fx : flatV x = true) : ∀ {xs : List V} {us : List Value}, Vals xs us → xs.all flatV = true → ∀ u ∈ us, SeqAt.EqAt A s u v (eqU x u)
  | _, _, .nil, _ => fun u hu => by cases hu
  | y :: xs, u :: us, .cons r t, f => fun u' hu => by
    rw [List.all_cons, Bool.and_eq_true] at f
    rcases List.mem_cons.mp hu with rfl | hu
    · rw [eqU_of r f.1]; exact eqAt_V r rx f.1 fx
    · exact mem_eqAt rx fx t f.2 u' hu
def inV (x : V) (xs : List V) : Bool := xs.any fun y => eqV y x
/-- x in a list or tuple of flat items -/
def rIn (K : PySem.W.Frag) (neg : Bool) : R2 := fun x y H Q => ∃ p xs, y = .ref p ∧ (SqL K H p xs ∨ SqT K H p xs) ∧ flatV x = true ∧ xs.all flatV = true ∧ Q (.bl (if neg then !inV x xs else inV x xs)) H
theorem op_in_seq : OpR X (compareOp .In) (rIn X.K false) := by
  intro pins s σ H x y v u Q I rx ry h
  obtain ⟨p, xs, rfl, hq, fx, fs, q⟩ := h
  cases ry
  rcases hq with hq | hq
  · obtain ⟨its, r, pl, hz⟩ := I.list hq
    refine SeqAt.in_listAt (eqU x) pl.isList (fun w hw => mem_eqAt rx fx r fs w (by simpa using hw)) ⟨.bl _, H, I, rfl, ?_⟩
    rw [show its.toArray.any (eqU x) = its.any (eqU x) by simp, any_eqU r fs]
    exact q
  · obtain ⟨its, r, pl, hz⟩ := I.tuple hq
    refine SeqAt.in_tupleAt (eqU x) pl (fun w hw => mem_eqAt rx fx r fs w (by simpa using hw)) ⟨.bl _, H, I, rfl, ?_⟩
    rw [show its.toArray.any (eqU x) = its.any (eqU x) by simp, any_eqU r fs]
    exact q
/-! ### len, list(x), tuple(x) of any list or tuple that is read -/
theorem call_len_seq : CallR X (.builtin "len") (fun xs H Q => ∃ p ys, xs = [.ref p] ∧ (SqL X.K H p ys ∨ SqT X.K H p ys) ∧ Q (.int ys.length) H) := by
  intro pins s σ H xs us Q I r h
  obtain ⟨p, ys, rfl, hq, q⟩ := h
  obtain ⟨u, rfl, rx⟩ := vals1 r
  cases rx
  have hn := line63
  rcases hq with hq | hq
  · obtain ⟨its, r', pl, hz⟩ := I.list hq
    have hlen := r'.length
    exact Calls.call_len_list pl.isList (by simp only [List.size_toArray] <;> omega) ⟨.int ys.length, H, I.tok _, ⟨s.toks + 1, by rw [List.size_toArray, hlen]⟩, q⟩
  · obtain ⟨its, r', pl, hz⟩ := I.tuple hq
    have hlen := r'.length
    exact len_tuple pl (by simp only [List.size_toArray] <;> omega) ⟨.int ys.length, H, I.tok _, ⟨s.toks + 1, by rw [List.size_toArray, hlen]⟩, q⟩
theorem call_len_str : CallR X (.builtin "len") (fun xs H Q => ∃ z, xs = [.str z] ∧ z.length ≤ sizeLine ∧ Q (.int z.length) H) := by
  intro pins s σ H xs us Q I r h
  obtain ⟨z, rfl, hz, q⟩ := h
  obtain ⟨u, rfl, t, rfl⟩ := vals1 r
  have hn := line63
  exact len_str (by omega) ⟨.int z.length, H, I.tok _, ⟨_, rfl⟩, q⟩
/-! ### the call of a builtin's method: o.m(..) -/
/-- the value is of that builtin type -/
def tyV (K : PySem.W.Frag) (T : String) (x : V) (H : Hp) : Prop := match x with
  | .str _ => T = "str"
  | .int _ => T = "int"
  | .ref p => (T = "list" ∧ ∃ xs, SqL K H p xs) ∨ (T = "tuple" ∧ ∃ o, K.lookup p = some o ∧ o.cls = .type "tuple" ∧ o.dict = none) ∨
      (T = "dict" ∧ ((∃ kvs, H p = some (.dK kvs)) ∨ ∃ kvs, H p = some (.dT kvs))) ∨ (T = "set" ∧ ∃ S n, H p = some (.set S n))
  | _ => False
theorem tyV_is {pins : List (Addr × Obj)} {σ : St} {H : Hp} {s : Shared} {T : String} {x : V} {v : Value} (I : Inv X pins σ H s) (r : RelV x v) (ty : tyV X.K T x H) :
    s.TypeIs v T ∧ ∀ a, v = .ref a → ∃ ob, s.heap.get? a = some ob ∧ ob.dict = none := by
  cases x with
  | str z =>
    obtain ⟨t, rfl⟩ := r
    cases (show T = "str" from ty)
    exact ⟨typeIs_str s z t, fun _ e => nomatch e⟩
  | int i =>
    obtain ⟨t, rfl⟩ := r
    cases (show T = "int" from ty)
    exact ⟨typeIs_int s i t, fun _ e => nomatch e⟩
  | ref p =>
    cases r
    rcases ty with ⟨rfl, xs, hq⟩ | ⟨rfl, o, hk, hc, hd⟩ | ⟨rfl, hk⟩ | ⟨rfl, S, n, hk⟩
    · obtain ⟨its, _, pl, _⟩ := I.list hq
      refine ⟨pl.isList.typeIs, fun a e => ?_⟩
      cases e
      obtain ⟨o, n, e, c, hd, _⟩ := pl
      exact ⟨o, e, hd⟩
    · refine ⟨⟨o, I.kIn p o hk, hc⟩, fun a e => ?_⟩
      cases e
      exact ⟨o, I.kIn _ o hk, hd⟩
    · have z : ∃ o, s.heap.get? p = some o ∧ o.ExactDict := by
        rcases hk with ⟨kvs, hk⟩ | ⟨kvs, hk⟩
        · obtain ⟨_, _, _, _, o, _, _, e, ex, _⟩ := I.hok p _ hk
          exact ⟨o, e, ex⟩
        · obtain ⟨_, _, _, _, o, _, _, e, ex, _⟩ := I.hok p _ hk
          exact ⟨o, e, ex⟩
      obtain ⟨o, e, ex⟩ := z
      refine ⟨⟨o, e, ex.1⟩, fun a e2 => ?_⟩
      cases e2
      exact ⟨o, e, ex.2.1⟩
    · obtain ⟨o, _, _, _, e, ex, _⟩ := I.hok p _ hk
      refine ⟨⟨o, e, ex.1⟩, fun a e2 => ?_⟩
      cases e2
      exact ⟨o, e, ex.2.1⟩
  | _ => exact False.elim ty
def tBM0 (K : PySem.W.Frag) (T : String) (r : V → List V → Hp → VK → Prop) (to : TE) : TE := fun σ H Q => to σ H fun x H1 => tyV K T x H1 ∧ r x [] H1 Q
def tBM (K : PySem.W.Frag) (T : String) (r : V → List V → Hp → VK → Prop) (to : TE) (t : TA) : TE := fun σ H Q => to σ H fun x H1 => tyV K T x H1 ∧ t σ H1 fun xs H2 => r x xs H2 Q
variable {o e : Expr} {es : List Expr} {to : TE} {t : TA} {name : Str} {apos cpos : Pos} {T id : String} {r : V → List V → Hp → VK → Prop}
theorem pe_bm (pa : PlainAttrs T) (slot : Slot T name id) (hty : typeOf (.builtin id) = pure (.type "method_descriptor")) (hm : MtR X id r) (ho : PE X o to) (ha : PA X (e :: es) t)
    (hbase : attributeBase o name X.env (eval o X.env) = eval o X.env := by rfl)
    (hfew : ((backTo cpos (starEach (e :: es) X.env)).all (fun x => !x.1) && (backToKw cpos (keywordEach [] X.env)).all (fun x => x.1.isSome)
      && decide ((e :: es).length + ([] : List Keyword).length + (if ([] : List Keyword).isEmpty then 0 else 1) < 30)) = true := by rfl)
    (hline : (apos.endLine == cpos.line) = true := by rfl) (hs : starEach (e :: es) X.env = (false, eval e X.env) :: starEach es X.env := by rfl) (hplain : (backTo cpos (starEach es X.env)).any (·.1) = false := by rfl) :
    PE X (.Call (.Attribute o name apos) (e :: es) [] cpos) (tBM X.K T r to t) := by
  intro pins s σ H Q I h
  refine wpAny_Call_method_late hbase hfew hline rfl (thn (ho pins s σ H _ I h) fun v s1 ⟨x, H1, I1, r1, ty, q1⟩ => ?_)
  obtain ⟨h1, h2⟩ := tyV_is I1 r1 ty
  refine ⟨T, id, pa, slot, hty, h1, h2, ?_⟩
  have hA := ha cpos pins s1 σ H1 _ I1 q1
  rw [hs] at hA ⊢
  refine Calls.callWith_builtin (by show (false || (backTo cpos (starEach es X.env)).any (·.1)) = false; rw [hplain] <;> rfl) (Calls.evalArgs_plain ?_)
  exact thn hA fun us s2 ⟨vs, H2, I2, r2, q2⟩ => hm pins s2 σ H2 x vs v us Q I2 r1 r2 q2
/- xs.append(e), list.index on a module's tuple .. are MtR facts of 06m -/
end
end L2

namespace L2
open PySem PySem.Spec PyProof.Rows

def MtM (X : Cx) (id : String) (r : V → List V → Hp → VK → Prop) : Prop :=
  ∀ (pins : List (Addr × Obj)) (s : Shared) (σ : St) (H : Hp) (x : V) (xs : List V) (v : Value) (us : List Value) (Q : VK), Inv X pins σ H s → RelV x v → Vals xs us → r x xs H Q →
    wpAny (model X.prog X.w) X.A (call (.builtin id) (v :: us)) (EP X pins σ Q) X.xe s

/-! ### lists of values -/
theorem Vals.one : ∀ {x : V} {us : List Value}, Vals [x] us → ∃ u, us = [u] ∧ RelV x u
  | _, _, .cons r .nil => ⟨_, rfl, r⟩
theorem Vals.reverse {xs : List V} {us : List Value} (h : Vals xs us) : Vals xs.reverse us.reverse := by
  induction h with
  | nil => exact .nil
  | cons r t ih => rw [List.reverse_cons, List.reverse_cons]; exact Vals.append ih (.cons r .nil)
theorem Vals.rep {xs : List V} {us : List Value} (h : Vals xs us) : ∀ k : Nat, Vals (List.replicate k xs).flatten (List.replicate k us).flatten
  | 0 => .nil
  | k + 1 => by
    rw [List.replicate_succ, List.replicate_succ, List.flatten_cons, List.flatten_cons]
    exact Vals.append h (Vals.rep h k)
theorem foldl_rep (its : List Value) : ∀ (k : Nat) (acc : List Value),
    List.foldl (fun x1 x2 => x1 ++ x2) acc.toArray (List.replicate k its.toArray) = (acc ++ (List.replicate k its).flatten).toArray
  | 0, acc => by simp
  | k + 1, acc => by
    have e : acc.toArray ++ its.toArray = (acc ++ its).toArray := by simp
    have e2 : (acc ++ its) ++ (List.replicate k its).flatten = acc ++ (List.replicate (k + 1) its).flatten := by
      rw [List.replicate_succ, List.flatten_cons, List.append_assoc]
    rw [← e2, ← foldl_rep its k (acc ++ its), ← e, List.replicate_succ, List.foldl_cons]

section
variable {X : Cx} {pins : List (Addr × Obj)} {σ : St} {H : Hp} {s : Shared} {l b : Addr} {xs ys zs : List V}

/-! ### the two steps: a tracked list is rewritten, a new list is laid -/
theorem Inv.lset {its its' : List Value} {n : Nat} {f : Array Value → Array Value} {t' : Nat} (I : Inv X pins σ H s) (hH : H l = some (.lst xs))
    (e : s.heap.get? l = some { cls := .type "list", data := .seq its.toArray n }) (hf : f its.toArray = its'.toArray) (hv : Vals ys its') (hz : ys.length ≤ sizeLine) :
    Inv X pins σ (upd H l (.lst ys)) { s with heap := s.heap.update l (Obj.mapSeq f), toks := t' } := by
  have q := PySem.IsL.update e f
  rw [hf] at q
  refine I.write (x := l) (e := l) (by rw [hH]; exact trivial) (.inl rfl) (fun b' u hb hu => (Heap.get?_update_other s.heap (Obj.mapSeq f) (Ne.symm hb)).trans hu) ⟨_, q⟩ ?_
  exact ⟨hz, its', _, hv, q⟩
theorem Inv.lnew {its : List Value} {t' : Nat} (I : Inv X pins σ H s) (hv : Vals ys its) (hz : ys.length ≤ sizeLine) :
    Inv X pins σ (upd H s.heap.objs.size (.lst ys)) { s with heap := s.heap.push { cls := .type "list", data := .seq its.toArray }, toks := t' } :=
  I.laid (fun _ _ q => Heap.get?_push_of_some _ q) (Nat.le_refl _) ⟨hz, its, 0, hv, Heap.get?_push_size _ rfl⟩
theorem Inv.fresh (I : Inv X pins σ H s) : H s.heap.objs.size = none := I.hok.fresh (Nat.le_refl _)
theorem Inv.lstM (I : Inv X pins σ H s) (hH : H l = some (.lst xs)) : xs.length ≤ sizeLine ∧ ∃ (its : List Value) (n : Nat), Vals xs its ∧ xs.length = its.length ∧ s.heap.get? l = some { cls := .type "list", data := .seq its.toArray n } := by
  obtain ⟨z, its, n, r, e⟩ := I.hok l _ hH
  exact ⟨z, its, n, r, r.length, e⟩

theorem notLongL {n : Nat} (h : n ≤ sizeLine) : Builtin.List.listTooLong n = false := by
  unfold Builtin.List.listTooLong
  exact decide_eq_false (by omega)
end

section
variable {X : Cx}

/-! ### methods -/
def rAppend : V → List V → Hp → VK → Prop := fun x vs H Q => ∃ l xs y, x = .ref l ∧ vs = [y] ∧ H l = some (.lst xs) ∧ xs.length < sizeLine ∧ Q .non (upd H l (.lst (xs ++ [y])))
theorem mt_append : MtM X "list.append" rAppend := by
  intro pins s σ H x vs v us Q I rx rv h
  obtain ⟨l, xs, y, rfl, rfl, hH, hz, q⟩ := h
  cases rx
  obtain ⟨u, rfl, ru⟩ := rv.one
  obtain ⟨z, its, n, r, hl, e⟩ := I.lstM hH
  refine call_meets F.slot_list_append ⟨_, e, rfl⟩ F.entry_list_append (F.args_list_append_2 _ _) (PySem.list_append l its.toArray n u (by rw [List.size_toArray]; omega)) ⟨e, ?_⟩
  refine ⟨.non, _, I.lset (its' := its ++ [u]) hH e (by simp) (r.append (.cons ru .nil)) ?_, rfl, q⟩
  rw [List.length_append, List.length_singleton]
  omega

def rExtend : V → List V → Hp → VK → Prop := fun x vs H Q => ∃ l b xs zs, x = .ref l ∧ vs = [.ref b] ∧ H l = some (.lst xs) ∧ H b = some (.lst zs) ∧ xs.length + zs.length ≤ sizeLine ∧ Q .non (upd H l (.lst (xs ++ zs)))
def rPop : V → List V → Hp → VK → Prop := fun x vs H Q => ∃ l xs y, x = .ref l ∧ vs = [] ∧ H l = some (.lst xs) ∧ xs[xs.length - 1]? = some y ∧ Q y (upd H l (.lst xs.dropLast))
def rPopAt : V → List V → Hp → VK → Prop := fun x vs H Q => ∃ l xs i k y, x = .ref l ∧ vs = [.int i] ∧ H l = some (.lst xs) ∧ -(2 ^ 63) ≤ i ∧ i < 2 ^ 63 ∧ seqIndex? i xs.length = some k ∧ xs[k]? = some y ∧ Q y (upd H l (.lst (xs.eraseIdx k)))
def rReverse : V → List V → Hp → VK → Prop := fun x vs H Q => ∃ l xs, x = .ref l ∧ vs = [] ∧ H l = some (.lst xs) ∧ Q .non (upd H l (.lst xs.reverse))
def rClear : V → List V → Hp → VK → Prop := fun x vs H Q => ∃ l xs, x = .ref l ∧ vs = [] ∧ H l = some (.lst xs) ∧ Q .non (upd H l (.lst []))
/-! ### list + list, list += list, list * int -/
def rCat : R2 := fun x y H Q => ∃ l b xs zs, x = .ref l ∧ y = .ref b ∧ H l = some (.lst xs) ∧ H b = some (.lst zs) ∧ xs.length + zs.length ≤ sizeLine ∧ ∀ p, H p = none → Q (.ref p) (upd H p (.lst (xs ++ zs)))
theorem op_cat : OpR X (binaryOp .Add) rCat := by
  intro pins s σ H x y v u Q I rx ry h
  obtain ⟨l, b, xs, zs, rfl, rfl, hH, hB, hz, q⟩ := h
  cases rx
  cases ry
  obtain ⟨z, its, n, r, hl, e⟩ := I.lstM hH
  obtain ⟨z2, its2, n2, r2, hl2, e2⟩ := I.lstM hB
  refine PySem.P.add_list e e2 ?_ (by rw [List.size_toArray, List.size_toArray]; omega)
  have ea : its.toArray ++ its2.toArray = (its ++ its2).toArray := by simp
  rw [ea]
  exact ⟨.ref _, _, I.lnew (t' := s.toks) (r.append r2) (by rw [List.length_append]; omega), rfl, q _ I.fresh⟩
/-- a list times an int (a negative one is nothing) -/
def rRep : R2 := fun x y H Q => ∃ l k xs, x = .ref l ∧ y = .int k ∧ H l = some (.lst xs) ∧ -(2 ^ 63) ≤ k ∧ k < 2 ^ 63 ∧ xs.length * k.toNat ≤ sizeLine ∧
  ∀ p, H p = none → Q (.ref p) (upd H p (.lst (List.replicate k.toNat xs).flatten))
theorem len_rep {α : Type} (xs : List α) (k : Nat) : (List.replicate k xs).flatten.length = k * xs.length := by
  induction k with
  | zero => simp
  | succ k ih => rw [List.replicate_succ, List.flatten_cons, List.length_append, ih, Nat.succ_mul, Nat.add_comm]
theorem op_rep : OpR X (binaryOp .Mult) rRep := by
  intro pins s σ H x y v u Q I rx ry h
  obtain ⟨l, k, xs, rfl, rfl, hH, h1, h2, hz, q⟩ := h
  cases rx
  obtain ⟨t, rfl⟩ := ry
  obtain ⟨z, its, n, r, hl, e⟩ := I.lstM hH
  have hlen : its.toArray.size * k.toNat ≤ sizeLine := by rw [List.size_toArray, ← hl]; exact hz
  have hcap : ¬ its.toArray.size * k.toNat > (2 ^ 63 - 1) / 8 := by
    have : (sizeLine : Nat) ≤ (2 ^ 63 - 1) / 8 := by decide
    omega
  have hfit : ¬ (!Builtin.List.listFitsIndex k) = true := by
    rw [fitsIndex_both h1 h2]
    exact Bool.false_ne_true
  have hlong : ¬ Builtin.List.listTooLong (its.toArray.size * k.toNat) = true := by
    rw [notLongL hlen]
    exact Bool.false_ne_true
  have hnew : List.foldl (fun x1 x2 => x1 ++ x2) #[] (List.replicate (if its.toArray.isEmpty = true then 0 else k.toNat) its.toArray) = (List.replicate k.toNat its).flatten.toArray := by
    have f0 : ∀ m : Nat, List.foldl (fun x1 x2 => x1 ++ x2) #[] (List.replicate m its.toArray) = (List.replicate m its).flatten.toArray := fun m => by
      have := foldl_rep its m []
      rw [List.nil_append] at this
      exact this
    rw [f0]
    cases its with
    | nil => simp
    | cons a r' => rw [if_neg (by simp)]
  refine wpAny_binaryOp_repeat_ref (T := "list") (U := "int") (by decide) ⟨_, e, rfl⟩ (fun s' => typeIs_int s' k t) noFill_list_mul F.fills_int_mul F.slot_int_rmul repeat_list F.slot_int_index.lookup
    (call_meets F.slot_int_rmul (typeIs_int s k t) F.entry_int_rmul (F.args_int_rmul_2 _ _) (int___rmul___int_list k t l its.toArray n)
      ⟨e, rfl, ⟨_, e, rfl⟩, call_meets F.slot_list_mul ⟨_, e, rfl⟩ F.entry_list_mul (F.args_list_mul_2 _ _) (AutoListH.list___mul___list_int_3 l its.toArray n k t hfit hcap hlong) ⟨e, ?_⟩⟩)
  rw [hnew]
  exact ⟨.ref _, _, I.lnew (t' := s.toks) (r.rep k.toNat) (by rw [len_rep, Nat.mul_comm]; exact hz), rfl, q _ I.fresh⟩

/-! ### del xs[i] -/
end

/-! ### xs[a:b] = ys -/
section
variable {prog : Program} {w : World} {A : Around} {E : Value → Shared → Prop} {s : Shared}
set_option maxRecDepth 100000 in
end

section
variable {X : Cx}
end
end L2

namespace Att
open PySem PySem.W PySem.Calls PyProof.Rows

/-! ### the script -/
theorem ints_of_wellAll {P : Params} {h : Heap} : ∀ (ns : List Int) (vs : List Value), WellAll P h vs (ns.map WData.int) → IntsAre vs ns := by
  intro ns
  induction ns with
  | nil =>
    intro vs w
    rw [List.map_nil] at w
    cases w
    exact .nil
  | cons n ns ih =>
    intro vs w
    rw [List.map_cons] at w
    cases w with
    | cons a b =>
      cases a
      exact .cons _ _ (ih _ b)

theorem script_of {l : OpenLaw} {n : Nat} (hn : l.most = some n) {P : Params} {h : Heap} {args : List WData} {vals : List Value}
    (hpre : l.row.toRowW.claim.pre args = true) (hwl : WellAll P h vals args) :
    ∃ a vs ns, vals = [Value.ref a] ∧ args = [WData.list (ns.map WData.int)] ∧ h.get? a = some { cls := .type "list", data := .seq vs.toArray } ∧ IntsAre vs ns ∧ ns.length ≤ n := by
  have hsh : WShape.hasAll [] args [.list .int] = true := (pre_splitW hpre).1
  have hc : l.pre.holds [] { args := args } = true := (pre_splitW hpre).2
  obtain ⟨d, r, rfl, h1, h2⟩ := hasAllW_cons hsh
  obtain rfl := hasAllW_nil h2
  obtain ⟨xs, rfl, h3⟩ := hasW_list h1
  obtain ⟨ns, rfl⟩ := items_int h3
  have hlen : ns.length ≤ n := by
    unfold OpenLaw.pre at hc
    have h4 : (WTm.not (.lt (.lit (.int (n : Int))) (.len (.arg 0)))).holds [] { args := [.list (ns.map .int)] } = true := by
      have h4 := (holds_andW hc).1
      rw [hn] at h4
      exact h4
    have h5 := condW_of h4 (w_not (w_lt w_lit (w_len_list (w_arg rfl))))
    rw [List.length_map] at h5
    refine Nat.le_of_not_lt fun q => ?_
    have q' : (n : Int) < ((ns.length : Nat) : Int) := by omega
    first
      | (rw [decide_eq_true q'] at h5; exact absurd h5 (by decide))
      | (simp at h5; omega)
  cases hwl with
  | cons w1 w2 =>
    cases w2
    cases w1 with
    | list ho hall => exact ⟨_, _, ns, rfl, rfl, ho, ints_of_wellAll ns _ hall, hlen⟩

theorem post_true (l : OpenLaw) (args : List WData) : l.row.toRowW.claim.post args (.bool true) args = true :=
  postW_of (r := l.row.toRowW) (X := (true == true))
    (show WShape.has [] (.bool true) .bool = true by first | rfl | decide | simp [WShape.has, WShape.arms, WShape.armsAll])
    (show (WTm.eq .res (.lit (.bool true))).value [] { args := args, res := some (.bool true), after := args } = some (.bool (true == true)) from w_eq_bool (w_res rfl) w_lit) rfl

/-! ### the attachment: holds_open's last premise (the goal 'hc' behind k_head) from a wpAny of the law's body -/
/-- the same from a codeAny of the CALL (for a layer whose function contracts speak of calls) -/
theorem attach_call {l : OpenLaw} {n : Nat} {q : Program} {loose : List Str} {XP : (Str → Option Value) → Heap → Prop} {YP : World → Heap → Prop} {d : DefRec}
    (hn : l.most = some n) (hdf : d.params.defaults = [])
    (call : ∀ (w : World) (s₀ s₁ : Shared) (mg mb : Str → Option Value) (fa : Addr) (o : Obj) (pm cd doc : Value) (a : Addr) (vs : List Value) (ns : List Int),
      Ground q loose [] XP w s₀ mg mb s₁.heap → YP w s₁.heap →
      s₁.heap.get? fa = some o → o.data = .func (docDef d.name d.params d.body d.scope pm cd doc) → s₁.heap.CodeRec cd d.name → mg d.name = some (.ref fa) →
      s₁.heap.get? a = some { cls := .type "list", data := .seq vs.toArray } → IntsAre vs ns → ns.length ≤ n → s₁.gens = #[] →
      codeAny (model l.prog w) callerA (.call (.ref fa) ⟨[.ref a], []⟩) (fun r s' => r = .ok (.ret (.bool true)) ∧ OldK s₁.heap s'.heap ∧ s'.os = s₁.os ∧ AllBare s'.gens) s₁) :
    WalkO q loose XP YP l.row.toRowW d [] (fun f vs => PySem.call f vs) := by
  intro w s₀ s₁ mg mb G Y fa o pm cd doc dV kV ho hd hcd hD hmg hg args vals as hpre hlay hrd hwl hlo
  obtain rfl : dV = .none := Dflts.none hD hdf
  obtain rfl : kV = .none := Dflts.noKw hD
  obtain ⟨a, vs, ns, rfl, rfl, hobj, hints, hlen⟩ := script_of hn hpre hwl
  refine enter_call (codeAny_mono (call w s₀ s₁ mg mb fa o pm cd doc a vs ns G Y ho (fd_plain hd) hcd hmg hobj hints hlen hg) fun r s' hq => ?_)
  obtain ⟨rfl, h2, h3, h4⟩ := hq
  exact ⟨.inl ⟨.bool true, .bool true, [], rfl, fun _ => rfl, .bool true, post_true l _, fun _ => ⟨List.Pairwise.nil, fun _ hm => (nomatch hm)⟩⟩, h2, h3, h4⟩

/-! ### rules over ANY heap (no ledger) from facts about the written part K: the library's own take a ledger (News) for what they write -/
section
variable {prog : Program} {w : World} {A : Around} {E : Value → Shared → Prop} {s : Shared} {K : Frag}

/-! the whole heap as the ledger: makes every rule that writes through a ledger a rule over any heap -/
def noObjs (h : Heap) : Heap := { h with objs := #[] }
def ledger (h : Heap) (L d : Addr) : List (Addr × Obj) := (List.range h.objs.size).filterMap fun a => if a = L ∨ a = d then none else (h.get? a).map fun o => (a, o)
end
end Att

namespace L2
open PySem PySem.Spec PyProof.Rows

theorem vals_ints : ∀ {vs : List Value} {ns : List Int}, IntsAre vs ns → Vals (ns.map V.int) vs
  | _, _, .nil => .nil
  | _, _, .cons n t h => .cons ⟨t, rfl⟩ (vals_ints h)

/-- nothing is tracked but the script, known to the object (or it is an object of the module) -/
def Only (H : Hp) : Prop := ∀ b, H b = none ∨ ∃ o xs, H b = some (.frz o (.lst xs))

/-- THE HEAD: the law's promise, at the heap behind the top. F, the promise of the law's def, may use that base is part of the heap (so K.In base, base.Ns mainGlobals mg stand in Mod) -/
theorem law_call {P : Program} {w : World} {K : PySem.W.Frag} {mg mb : Str → Option Value} {CX : CXT} {k : Nat} {fa a : Addr} {fd : FuncData} {x : Str} {sp : Sp} {s₁ : Shared} {vs : List Value} {ns : List Int}
    (KX : K.In s₁.heap) (hns : s₁.heap.Ns mainGlobals mg) (hb : s₁.heap.Ns builtinsNs mb) (hbb : ∀ x : Str, x ≠ "__name__" → mb x = bootBuiltins x) (hlim : s₁.heap.NoLimit) (hg : s₁.gens = #[])
    (ha : s₁.heap.get? a = some { cls := .type "list", data := .seq vs.toArray }) (hi : IntsAre vs ns) (hl : ns.length ≤ sizeLine) (hr : Room k callerA)
    (F : ∀ base : Heap, K.In base → base.Ns mainGlobals mg → FnOk P w K mg base CX k fa fd [x] sp) (hbind : ∀ (s : Shared) (u : Value), BindsTo s fd ⟨[u], []⟩ [(x, u)])
    (hsp : ∀ H : Hp, Only H → SqL K H a (ns.map V.int) → sp [.ref a] H (fun v _ => v = .bl true) fun _ _ _ => False)
    (hCX : ∀ H e s', CX [] H s₁ (fun _ _ _ => False) e s' → False) :
    codeAny (model P w) callerA (.call (.ref fa) ⟨[.ref a], []⟩) (fun r s' => r = .ok (.ret (.bool true)) ∧ OldK s₁.heap s'.heap ∧ s'.os = s₁.os ∧ AllBare s'.gens) s₁ := by
  have rv := vals_ints hi
  have lenV := hi.length
  -- from an abstract heap in which nothing but the script may be tracked
  have core : ∀ H : Hp, Only H → SqL K H a (ns.map V.int) → HOk P w H s₁.heap → (∀ b, H b ≠ none → b = a) → (H a ≠ none → K.lookup a = none) →
      codeAny (model P w) callerA (.call (.ref fa) ⟨[.ref a], []⟩) (fun r s' => r = .ok (.ret (.bool true)) ∧ OldK s₁.heap s'.heap ∧ s'.os = s₁.os ∧ AllBare s'.gens) s₁ := by
    intro H hO hS hok hA hK
    have base_of : ∀ {b : Addr} {o : Obj}, s₁.heap.get? b = some o → H b = none → (hidT s₁.heap H).get? b = some o := fun e n => hidT_get e n
    have noA : ∀ {b : Addr} {o : Obj} {es : Array DictEntry} {ep : Nat}, s₁.heap.get? b = some o → o.data = .dict es ep → H b = none := fun {b o es ep} e d => by
      cases q : H b with
      | none => rfl
      | some u =>
        have e' : b = a := hA b (by rw [q]; simp)
        subst e'
        rw [ha] at e; cases e
        have d' : Data.seq vs.toArray _ = Data.dict es ep := d
        cases d'
    have nsK : ∀ {b : Addr} {m : Str → Option Value}, s₁.heap.Ns b m → (hidT s₁.heap H).Ns b m := fun {b m} ⟨o, es, ep, e, d, r⟩ => ⟨o, es, ep, base_of e (noA e d), d, r⟩
    have hKb : K.In (hidT s₁.heap H) := fun b o e => base_of (KX b o e) (by
      cases q : H b with
      | none => rfl
      | some u =>
        have e' : b = a := hA b (by rw [q]; simp)
        subst e'
        rw [hK (by rw [q]; simp)] at e; cases e)
    have hM : Mod K mg (hidT s₁.heap H) := ⟨hKb, nsK hns, ⟨mb, nsK hb, hbb⟩, let ⟨mc, h1, h2⟩ := hlim; ⟨mc, nsK h1, h2⟩⟩
    have e0 : Env0 P w K mg (hidT s₁.heap H) callerA [] s₁ H := ⟨rfl, hM, fun b o e => of_hidT e, Nat.le_of_eq (hidT_size _ _), trivial, fun b hb => absurd (show b ∈ ([] : List Addr) from hb) (by simp), hok, .of_eq hg⟩
    refine codeAny_mono ((F _ hKb (nsK hns)).run callerA [] s₁ H ⟨[.ref a], []⟩ [.ref a] [.ref a] _ _ hr e0 (hbind s₁ (.ref a)) (.cons rfl .nil) (hsp H hO hS)) fun r s' h => ?_
    cases r with
    | error e => exact (hCX H e s' h).elim
    | ok fl =>
      cases fl with
      | next => exact False.elim h
      | brk => exact False.elim h
      | cont => exact False.elim h
      | ret u =>
        obtain ⟨v, H', os, bare, un, hok', r', q⟩ := h
        have q' : v = .bl true := q
        subst q'
        obtain rfl : u = Value.bool true := r'
        refine ⟨rfl, OldK.of_keep fun b o e => ?_, os, bare⟩
        cases q : H b with
        | none => exact un.keep b o e q (by intro z; exact absurd (show b ∈ ([] : List Addr) from z) (by simp)) (by simp)
        | some u =>
          rcases hO b with z | ⟨ob, xs, z⟩
          · rw [q] at z; cases z
          · have z2 := un.frzs b ob _ z
            obtain ⟨e1, _⟩ := hok b _ z
            obtain ⟨e2, _⟩ := hok' b _ z2
            rw [e] at e1; cases e1
            exact e2
  cases hk : K.lookup a with
  | some o =>
    -- the script is one of the module's own objects
    have e := KX a o hk
    rw [ha] at e
    cases e
    refine core (fun _ => none) (fun _ => .inl rfl) (.inr ⟨_, vs.toArray, _, hk, rfl, rfl, rfl, by rw [List.size_toArray, lenV]; exact hl, by simpa using rv⟩) (fun b u z => by have z' : (none : Option HO) = some u := z; cases z') (fun b z => absurd rfl z) fun z => absurd rfl z
  | none =>
    refine core (fun b => if b = a then some (.frz { cls := .type "list", data := .seq vs.toArray } (.lst (ns.map V.int))) else none) (fun b => ?_) (.inl (.inr ⟨{ cls := .type "list", data := .seq vs.toArray }, if_pos rfl⟩)) (fun b u z => ?_) (fun b z => ?_) fun _ => hk
    · by_cases hb : b = a
      · exact .inr ⟨_, _, if_pos hb⟩
      · exact .inl (if_neg hb)
    · by_cases hb : b = a
      · have z' := (if_pos hb).symm.trans z
        cases z'
        subst hb
        exact ⟨ha, by rw [List.length_map]; exact hl, vs, _, rv, ha⟩
      · have z' := (if_neg hb).symm.trans z
        cases z'
    · by_cases hb : b = a
      · exact hb
      · exact absurd (if_neg hb) z
end L2

namespace L2
open PySem PySem.Spec PyProof.Rows

abbrev KOf {K : PySem.W.Frag} {h : Heap} (_ : K.In h) : PySem.W.Frag := K

/-- the goal that k_head leaves (case hc), from the law's promise. F gives the function object fd (K's own) once, then the promise over every base -/
theorem walk_of {l : PySem.W.OpenLaw} {n k : Nat} {q : Program} {loose : List Str} {XP : (Str → Option Value) → Heap → Prop} {YP : World → Heap → Prop} {d : DefRec} {K : Params → PySem.W.Frag} {CX : World → CXT} {sp : World → Sp} {x : Str}
    (hn : l.most = some n) (hn2 : n ≤ sizeLine) (hdf : d.params.defaults = []) (hr : Room k callerA)
    (hY : ∀ (w : World) (h : Heap), YP w h → (K w.params).In h)
    (F : ∀ (w : World) (mg : Str → Option Value) (fa : Addr) (h : Heap), (K w.params).In h → h.Ns mainGlobals mg → mg d.name = some (.ref fa) →
      ∃ fd : FuncData, (∀ (s : Shared) (u : Value), BindsTo s fd ⟨[u], []⟩ [(x, u)]) ∧
        ∀ base : Heap, (K w.params).In base → base.Ns mainGlobals mg → FnOk l.prog w (K w.params) mg base (CX w) k fa fd [x] (sp w))
    (hsp : ∀ (w : World) (H : Hp) (a : Addr) (ns : List Int), ns.length ≤ n → Only H → SqL (K w.params) H a (ns.map V.int) → sp w [.ref a] H (fun v _ => v = .bl true) fun _ _ _ => False)
    (hCX : ∀ (w : World) (H : Hp) (s : Shared) (e : Value) (s' : Shared), CX w [] H s (fun _ _ _ => False) e s' → False) :
    PySem.W.WalkO q loose XP YP l.row.toRowW d [] (fun f vs => PySem.call f vs) := by
  refine Att.attach_call hn hdf fun w s₀ s₁ mg mb fa o pm cd doc a vs ns G Y ho hd hcd hmg hobj hints hlen hg => ?_
  have KX := hY w _ Y
  obtain ⟨fd, hb, hF⟩ := F w mg fa _ KX G.T.g hmg
  exact law_call KX G.T.g G.T.b G.T.builtins G.T.nolimit hg hobj hints (Nat.le_trans hlen hn2) hr hF hb (fun H hO hS => hsp w H a ns hlen hO hS) fun H e s' => hCX w H s₁ e s'
end L2

/- THE LAST THEOREM (shape; LID, My.* are yours):
   My.Adr: a structure of the addresses that your layer names (classes, functions); My.Txt K t: a structure (Prop) of the equations over K;
   My.txt_mk : {K} {implicit addresses ..} (e1 : nsIn K mainGlobals "law" = some (some (.ref f))) (e2 : K.lookup f = some ⟨oc, od, .func (fnOf "law" "law" params body scope dV kV doc pm an cdv ct), sl⟩) (e3 : codeIn K cdv "law" = true) .. : ∃ t, My.Txt K t

set_option maxRecDepth 100000 in
set_option maxHeartbeats 0 in
theorem PySem.Challenge.cw_LID_holds : PySem.Challenge.rw_LID.Holds := by
  w_on; o_law; k_head; (case hw => w_witness2)
  k_fill
  refine L2.walk_of (l := PySem.Challenge.rw_LID) (n := 63) (k := 40) (x := "script") (CX := fun w => ..) (sp := fun _ => My.sp_law) rfl (by decide) rfl ⟨rfl, by decide, by decide⟩ (fun w h Y => PySem.W.kIn_of Y) ?F ?S ?C
  case F =>
    intro w mg fa h KX G hmg
    have T : ∃ t, My.Txt (L2.KOf KX) t := by
      dsimp only [L2.KOf]                          -- K must stand as «<heap const> w.params» for k_is
      refine' My.txt_mk ?e1 ?e2 ?e3 ..
      (case e1 => PySem.W.k_is)                    -- in the order: a name -> its address -> its object -> its parts
      (case e2 => PySem.W.k_is)
      ..
    obtain ⟨t, T⟩ := T
    have e0 := hmg.symm.trans (PySem.W.mg_of KX G T.law)
    cases e0                                       -- fa is the law's own address
    exact ⟨_, fun s u => .of_eq rfl, fun base kb nb => My.law_fn T kb nb⟩     -- if «.of_eq rfl» comes too early: refine' ⟨_, ?b, fun base kb nb => My.law_fn T kb nb⟩; exact fun s u => .of_eq rfl
  case S => exact fun w H a ns hl hO hS => ..
  case C => exact ..
(the tactic k_is has no namespace: write k_is) -/

/-! SHORT WORDS over the layer: a def of the text, its body, what a loop and a test want. -/
namespace L2
open PySem PySem.Spec PyProof.Rows

/-! ### the text by places -/
/-- the j-th statement of a class's body -/
def inClass (s : Stmt) (j : Nat) : Stmt := match s with
  | .ClassDef _ _ _ body _ _ _ _ _ _ _ => body.getD j (.Pass ⟨0, 0, 0, 0⟩)
  | _ => .Pass ⟨0, 0, 0, 0⟩
def defArgs (s : Stmt) : Arguments := match s with
  | .FunctionDef _ a _ _ _ _ _ _ _ _ => a
  | _ => { posonlyargs := [], args := [], vararg := none, kwonlyargs := [], kw_defaults := [], kwarg := none, defaults := [] }
def defBody (s : Stmt) : List Stmt := match s with
  | .FunctionDef _ _ b _ _ _ _ _ _ _ => b
  | _ => []
def defScope (s : Stmt) : Scope := match s with
  | .FunctionDef _ _ _ _ _ _ sc _ _ _ => sc
  | _ => { kind := .function, names := [], isGenerator := false, isCoroutine := false }

/-! ### no exception leaves a def -/
abbrev CX0 : CXT := fun _ _ _ _ _ _ => False
abbrev E0 : XK := fun _ _ _ => False
theorem pass0 {X : Cx} : Passes CX0 X E0 := fun _ _ _ _ _ _ _ h => h.elim

/-! ### a def (or method) of the text as it stands behind the top -/
structure Fun (K : PySem.W.Frag) (x qual : Str) (st : Stmt) (f : Addr) (fd : FuncData) : Prop where
  ex : ∃ (oc : Value) (od : Option Addr) (kV doc pm : Value) (an : Option Addr) (cdv ct : Value) (osl : Array (Option Value)),
    fd = PySem.W.fnOf x qual (defArgs st) (defBody st) (defScope st) .none kV doc pm an cdv ct ∧ K.lookup f = some ⟨oc, od, .func fd, osl⟩ ∧ PySem.W.codeIn K cdv qual = true
  kp : PySem.W.keepIn K (.ref f) = true
section
variable {P : Program} {w : World} {K : PySem.W.Frag} {mg : Str → Option Value} {base : Heap}
/-- THE RULE for a def: its body as a term of rules, and the reading of that term -/
theorem Fun.ok {x qual : Str} {st : Stmt} {f : Addr} {fd : FuncData} {N ps : List Str} {k : Nat} {sp : Sp} (F : Fun K x qual st f fd) (S : FnScope N ps (defScope st)) (len : ∀ vs H Q E, sp vs H Q E → vs.length = ps.length)
    (hbody : ∀ (cdv : Value) (A : Around) (outer : List Env) (s : Shared) (H : Hp) (vs : List V) (Q : VK) (E : XK), Room k (A.deeper (envOfC qual (defScope st) s.heap.objs.size f cdv)) → sp vs H Q E →
      ∃ t, PSs (cxOf CX0 P w K mg base N qual (defScope st) f cdv A outer s H E).nox (defBody st) t ∧ t { nx := fun _ H' => Q .non H', rt := Q } (start N vs) H) : FnOk P w K mg base CX0 (k + 1) f fd ps sp := by
  obtain ⟨oc, od, kV, doc, pm, an, cdv, ct, osl, rfl, lk, hcd⟩ := F.ex
  refine fn_of lk hcd S len fun A outer s H vs Q E hr hsp => ?_
  obtain ⟨t, h, q⟩ := hbody cdv A outer s H vs Q E hr hsp
  exact ⟨t, h.nox, q⟩
theorem fun_mk {x qual : Str} {st : Stmt} {f : Addr} {oc : Value} {od an : Option Addr} {osl : Array (Option Value)} {kV doc pm cdv ct : Value} (l : K.lookup f = some ⟨oc, od, .func (PySem.W.fnOf x qual (defArgs st) (defBody st) (defScope st) .none kV doc pm an cdv ct), osl⟩)
    (c : PySem.W.codeIn K cdv qual = true) (k : PySem.W.keepIn K (.ref f) = true) : Fun K x qual st f (PySem.W.fnOf x qual (defArgs st) (defBody st) (defScope st) .none kV doc pm an cdv ct) := ⟨⟨oc, od, kV, doc, pm, an, cdv, ct, osl, rfl, l, c⟩, k⟩
end
theorem small1000 {n : Nat} (h : n ≤ 1000) : n < sizeLine := Nat.lt_of_le_of_lt h (by decide)

/-! ### expressions in short: the name that stands in the i-th slot -/
section
variable {X : Cx}
theorem pv (i : Nat) {x : Str} {pos : Pos} (hN : X.N[i]? = some x := by rfl) (hv : Vis X.env.scope x := by first | exact Or.inl rfl | exact Or.inr (Or.inl rfl) | exact Or.inr (Or.inr rfl)) (hd : (x == ("__debug__" : Str)) = false := by decide)
    (hcd : (x == ("__classdict__" : Str)) = false := by decide) : PE X (.Name x pos) (tVar i) := pe_var hN hv hd hcd
end

/-! ### tests -/
theorem iteF {A B : Prop} (h : B) : if false = true then A else B := by
  rw [if_neg Bool.false_ne_true]
  exact h
theorem iteT {A B : Prop} (h : A) : if true = true then A else B := by
  rw [if_pos rfl]
  exact h
theorem ite2 {c A B : Prop} [Decidable c] (h1 : c → A) (h2 : ¬ c → B) : if c then A else B := by
  by_cases h : c
  · rw [if_pos h]
    exact h1 h
  · rw [if_neg h]
    exact h2 h
theorem iteNS {c A B : Prop} [Decidable c] (hc : c) (h : B) : if (!decide c) = true then A else B := by
  rw [decide_eq_true hc]
  exact iteF h

/-! ### heaps -/
/-- all that was tracked is as it was -/
def Same (H H' : Hp) : Prop := ∀ b o, H b = some o → H' b = some o
theorem Same.refl (H : Hp) : Same H H := fun _ _ h => h
theorem Same.trans {H H1 H2 : Hp} (a : Same H H1) (b : Same H1 H2) : Same H H2 := fun c o h => b c o (a c o h)
theorem Same.free {H H' : Hp} (e : Same H H') {l : Addr} (h : H' l = Option.none) : H l = Option.none := by
  cases q : H l with
  | none => rfl
  | some o =>
    rw [e l o q] at h
    cases h
theorem Same.seq {K : PySem.W.Frag} {H H' : Hp} {a : Addr} {xs : List V} (e : Same H H') (h : SqL K H a xs) : SqL K H' a xs := by
  rcases h with (h | ⟨o, h⟩) | h
  · exact .inl (.inl (e _ _ h))
  · exact .inl (.inr ⟨o, e _ _ h⟩)
  · exact .inr h

end L2

namespace L2
open PySem PySem.Spec PyProof.Rows

/-! ### lists of pairs as tables -/
section
variable {κ : Type} [DecidableEq κ]
def valV (kvs : List (κ × V)) (k : κ) : Option V := (kvs.find? fun kv => decide (kv.1 = k)).map (·.2)
/-- in its place, or at the end -/
def putK (kvs : List (κ × V)) (k : κ) (v : V) : List (κ × V) :=
  if (kvs.any fun kv => decide (kv.1 = k)) = true then kvs.map (fun kv => if kv.1 = k then (kv.1, v) else kv) else kvs ++ [(k, v)]
def dropK (kvs : List (κ × V)) (k : κ) : List (κ × V) := kvs.filter fun kv => decide (kv.1 ≠ k)

end


/-! ### a tracked dict, its keys ints and texts or tuples of these -/
/-- raw entries of a dict with tuple keys -/
abbrev KT (H : Hp) : List (List Key × V) → List (List Key × Addr × Value) → Prop := Paired fun p q => p.1 = q.1 ∧ H q.2.1 = some (.tup (p.1.map kV)) ∧ RelV p.2 q.2.2
section
variable {P : Program} {w : World} {H : Hp} {h : Heap} {a : Addr}
end

/-- what the dict at a holds at the key y -/
def DGet (H : Hp) (a : Addr) (y : V) (r : Option V) : Prop :=
  (∃ kvs k, Rd H a (.dK kvs) ∧ y = kV k ∧ r = valV kvs k) ∨ ∃ kvs k b, Rd H a (.dT kvs) ∧ y = .ref b ∧ H b = some (.tup (k.map kV)) ∧ r = valV kvs k
/-- the heap behind a[y] = v -/
def DPut (H : Hp) (a : Addr) (y v : V) (H' : Hp) : Prop :=
  (∃ kvs k, H a = some (.dK kvs) ∧ y = kV k ∧ kvs.length < sizeLine ∧ H' = upd H a (.dK (putK kvs k v))) ∨
  ∃ kvs k b, H a = some (.dT kvs) ∧ y = .ref b ∧ H b = some (.tup (k.map kV)) ∧ kvs.length < sizeLine ∧ H' = upd H a (.dT (putK kvs k v))
section
variable {X : Cx} {pins : List (Addr × Obj)} {σ : St} {H : Hp} {s : Shared} {a : Addr} {y v : V} {u r : Value} {o : Option V} {A : Around} {E : Value → Shared → Prop}

end

section
variable {X : Cx} {pins : List (Addr × Obj)} {σ : St} {H : Hp} {s : Shared} {a : Addr} {kvs : List (Key × V)} {k : Key} {u : Value} {A : Around} {E : Value → Shared → Prop}
end


/-! ### readings and rules -/
/-- the element of a subscription, not a slice -/
def NoSl (i : Expr) : Prop := ∀ ov iv, subscripted i false ov iv = operate [ov, iv] (getItem ov iv)
/-- d[y] -/
def tDGet (td ty : TE) : TE := fun σ H Q => td σ H fun x H1 => ty σ H1 fun y H2 => ∃ a v, x = .ref a ∧ DGet H2 a y (some v) ∧ Q v H2
/-- y in d, y not in d -/
def tDIn (ty td : TE) : TE := fun σ H Q => ty σ H fun y H1 => td σ H1 fun x H2 => ∃ a o, x = .ref a ∧ DGet H2 a y o ∧ Q (.bl o.isSome) H2
def tDNotIn (ty td : TE) : TE := fun σ H Q => ty σ H fun y H1 => td σ H1 fun x H2 => ∃ a o, x = .ref a ∧ DGet H2 a y o ∧ Q (.bl (!o.isSome)) H2
/-- d[y] = v -/
def sDPut (td ty tv : TE) : TS := fun D σ H => tv σ H fun v H1 => td σ H1 fun x H2 => ty σ H2 fun y H3 => ∃ a H4, x = .ref a ∧ DPut H3 a y v H4 ∧ D.nx σ H4
/-- d[y] op= v -/
def sDAug (td ty tv : TE) (rd : V → V → Hp → VK → Prop) : TS := fun D σ H => td σ H fun x H1 => ty σ H1 fun y H2 => ∃ a v, x = .ref a ∧ DGet H2 a y (some v) ∧
  tv σ H2 fun y2 H3 => rd v y2 H3 fun z H4 => ∃ H5, DPut H4 a y z H5 ∧ D.nx σ H5
/-- del d[y] -/
def sDDel (td ty : TE) : TS := fun D σ H => td σ H fun x H1 => ty σ H1 fun y H2 => ∃ a kvs k, x = .ref a ∧ H2 a = some (.dK kvs) ∧ y = kV k ∧ (valV kvs k).isSome = true ∧ D.nx σ (upd H2 a (.dK (dropK kvs k)))

section
variable {X : Cx} {o i e value : Expr} {pos pos' tpos : Pos} {td ty tv : TE}
end


/-! ### displays -/
/-- {}, to be a dict of the kind that is wanted -/
def tDNewK : TE := fun _ H Q => ∀ p, H p = none → Q (.ref p) (upd H p (.dK []))
def tDNewT : TE := fun _ H Q => ∀ p, H p = none → Q (.ref p) (upd H p (.dT []))
section
variable {X : Cx} {pos : Pos}
end

/-- the pairs of a display, from the left -/
def tPairs : List (TE × TE) → St → Hp → (List (V × V) → Hp → Prop) → Prop
  | [], _, H, Q => Q [] H
  | (tk, tv) :: r, σ, H, Q => tk σ H fun x H1 => tv σ H1 fun y H2 => tPairs r σ H2 fun ps H3 => Q ((x, y) :: ps) H3
abbrev VV : List (V × V) → List (Value × Value) → Prop := Paired fun p q => RelV p.1 q.1 ∧ RelV p.2 q.2
def PPs (X : Cx) (pos : Pos) (keys : List (Option Expr)) (values : List Expr) (trs : List (TE × TE)) : Prop :=
  ∀ (pins : List (Addr × Obj)) (s : Shared) (σ : St) (H : Hp) (Q : List (V × V) → Hp → Prop), Inv X pins σ H s → tPairs trs σ H Q →
    wpAny (model X.prog X.w) X.A (evalPairs (pairTrees keys values X.env pos)) (fun vs s' => ∃ ps H', Inv X pins σ H' s' ∧ VV ps vs ∧ Q ps H') X.xe s
def mergeK (kvs more : List (Key × V)) : List (Key × V) := more.foldl (fun acc kv => putK acc kv.1 kv.2) kvs
/-- {k: v, ..} with keys ints and texts; the new dict stands empty while the pairs are made -/
def tDisp (trs : List (TE × TE)) : TE := fun σ H Q => ∀ p, H p = none → tPairs trs σ (upd H p (.dK [])) fun ps H2 => H2 p = some (.dK []) ∧ ∃ kvs : List (Key × V), ps = kvs.map (fun kv => (kV kv.1, kv.2)) ∧ kvs.length ≤ 15 ∧ Q (.ref p) (upd H2 p (.dK (mergeK [] kvs)))
end L2
/-! my own rules over the layer: the glue of defs, floor division by great numbers, isinstance, is, tuples -/
namespace L2
open PySem PySem.Spec PyProof.Rows

theorem same_new {H : Hp} {p : Addr} (h : H p = none) (o : HO) : Same H (upd H p o) := fun b u q => by rw [upd_ne (ne_of_none q h)]; exact q
/-- a def of the top, by its name -/
structure Def (K : PySem.W.Frag) (mg : Str → Option Value) (x : Str) (st : Stmt) (ps : List Str) : Prop where
  ex : ∃ (f : Addr) (fd : FuncData), Fun K x x st f fd ∧ (∀ us : List Value, us.length = ps.length → bindArgs fd ⟨us, []⟩ = pure (ps.zip us)) ∧ mg x = some (.ref f)
theorem def_mk {K : PySem.W.Frag} {h : Heap} {mg : Str → Option Value} {x : Str} {st : Stmt} {ps : List Str} {f : Addr} {oc : Value} {od an : Option Addr} {osl : Array (Option Value)} {kV doc pm cdv ct : Value}
    (KX : K.In h) (G : h.Ns mainGlobals mg) (a : PySem.W.nsIn K mainGlobals x = some (some (.ref f)))
    (l : K.lookup f = some ⟨oc, od, .func (PySem.W.fnOf x x (defArgs st) (defBody st) (defScope st) .none kV doc pm an cdv ct), osl⟩)
    (c : PySem.W.codeIn K cdv x = true) (k : PySem.W.keepIn K (.ref f) = true)
    (b : ∀ (kV doc pm : Value) (an : Option Addr) (cdv ct : Value) (us : List Value), us.length = ps.length → bindArgs (PySem.W.fnOf x x (defArgs st) (defBody st) (defScope st) .none kV doc pm an cdv ct) ⟨us, []⟩ = pure (ps.zip us)) :
    Def K mg x st ps := ⟨f, _, fun_mk l c k, b kV doc pm an cdv ct, PySem.W.mg_of KX G a⟩

/-- what a caller knows of a def -/
structure Cal (P : Program) (w : World) (K : PySem.W.Frag) (mg : Str → Option Value) (base : Heap) (k : Nat) (x : Str) (ps : List Str) (sp : Sp) : Prop where
  ex : ∃ (f : Addr) (fd : FuncData), FnOk P w K mg base CX0 k f fd ps sp ∧ Binds K fd ps [] ∧ PySem.W.keepIn K (.ref f) = true ∧ mg x = some (.ref f)
theorem Def.cal {P : Program} {w : World} {K : PySem.W.Frag} {mg : Str → Option Value} {base : Heap} {k : Nat} {x : Str} {st : Stmt} {ps : List Str} {sp : Sp} (d : Def K mg x st ps)
    (F : ∀ (f : Addr) (fd : FuncData), Fun K x x st f fd → FnOk P w K mg base CX0 k f fd ps sp) : Cal P w K mg base k x ps sp := by
  obtain ⟨f, fd, h1, h2, h3⟩ := d.ex
  exact ⟨f, fd, F f fd h1, .all h2, h1.kp, h3⟩
section
variable {X : Cx} {k : Nat} {x : Str} {ps : List Str} {sp : Sp} {p pos : Pos} {e : Expr} {es : List Expr} {t : TA}
/-- f(..), f a def of the top -/
theorem pe_fn (c : Cal X.prog X.w X.K X.mg X.base k x ps sp) (hr : Room k X.A) (hg : Gl X x) (ha : PA X (e :: es) t) (hdb : (x == ("__debug__" : Str)) = false := by decide)
    (he : starEach (e :: es) X.env = (false, eval e X.env) :: starEach es X.env := by rfl) (hpl : (backTo pos (starEach es X.env)).any (·.1) = false := by rfl) :
    PE X (.Call (.Name x p) (e :: es) [] pos) (tCall sp [] E0 t) := by
  obtain ⟨f, fd, F, B, kp, m⟩ := c.ex
  exact pe_call F hr hg m kp B .nil pass0 ha hdb he hpl
end

/-- the law's own promise -/
def spLaw (K : PySem.W.Frag) : Sp := fun vs H Q _ => ∃ (a : Addr) (ns : List Int), vs = [.ref a] ∧ SqL K H a (ns.map V.int) ∧ ns.length ≤ 63 ∧ Only H ∧ ∀ H', Q (.bl true) H'
theorem law_mk {P : Program} {w : World} {K : PySem.W.Frag} {mg : Str → Option Value} {k : Nat} {st : Stmt} {fa : Addr} (d : Def K mg "law" st ["_law_script"])
    (F : ∀ (base : Heap) (f : Addr) (fd : FuncData), Fun K "law" "law" st f fd → FnOk P w K mg base CX0 k f fd ["_law_script"] (spLaw K)) (hmg : mg "law" = some (.ref fa)) :
    ∃ fd : FuncData, (∀ (s : Shared) (u : Value), BindsTo s fd ⟨[u], []⟩ [("_law_script", u)]) ∧ ∀ base : Heap, K.In base → base.Ns mainGlobals mg → FnOk P w K mg base CX0 k fa fd ["_law_script"] (spLaw K) := by
  obtain ⟨f, fd, h1, h2, h3⟩ := d.ex
  have e := hmg.symm.trans h3
  cases e
  exact ⟨fd, fun s u => .of_eq (h2 [u] rfl), fun base _ _ => F base _ _ h1⟩
theorem walkL {l : PySem.W.OpenLaw} {k : Nat} {q : Program} {loose : List Str} {XP : (Str → Option Value) → Heap → Prop} {YP : World → Heap → Prop} {d : DefRec} {K : Params → PySem.W.Frag} (hr : Room k callerA) (hn : l.most = some 63) (hdf : d.params.defaults = [])
    (hY : ∀ (w : World) (h : Heap), YP w h → (K w.params).In h)
    (F : ∀ (w : World) (mg : Str → Option Value) (fa : Addr) (h : Heap), (K w.params).In h → h.Ns mainGlobals mg → mg d.name = some (.ref fa) →
      ∃ fd : FuncData, (∀ (s : Shared) (u : Value), BindsTo s fd ⟨[u], []⟩ [("_law_script", u)]) ∧ ∀ base : Heap, (K w.params).In base → base.Ns mainGlobals mg → FnOk l.prog w (K w.params) mg base CX0 k fa fd ["_law_script"] (spLaw (K w.params))) :
    PySem.W.WalkO q loose XP YP l.row.toRowW d [] (fun f vs => PySem.call f vs) :=
  walk_of (n := 63) (k := k) (x := "_law_script") (CX := fun _ => CX0) (sp := fun w => spLaw (K w.params)) hn (by decide) hdf hr hY F (fun _ _ a ns hl hO hS => ⟨a, ns, rfl, hS, hl, hO, fun _ => rfl⟩) fun _ _ _ _ _ z => z

section
variable {X : Cx}
theorem log2_small {n : Nat} (h : n < 10 ^ 60) : n.log2 < 9000 := by
  by_cases h0 : n = 0
  · subst h0; decide
  · have h1 : n.log2 < 200 := (Nat.log2_lt h0).mpr (Nat.lt_of_lt_of_le h (by decide))
    omega
/-- // by a positive number of at most sixty digits -/
theorem op_fdivB : OpR X (binaryOp .FloorDiv) (rI (fun _ j => 0 < j ∧ j < 10 ^ 60) fun i j => .int (i / j)) := opI fun i j _ _ _ _ _ hc q => by
  have h1 : (0 : Int) < j := hc.1
  have h2 : j < 10 ^ 60 := hc.2
  exact floordiv_int (by omega) (by rw [Int.fdiv_eq_ediv_of_nonneg i (by omega)]; exact q) (.inl (PyProof.noPylong_of_log2 (log2_small (by omega))))
/-- isinstance(x, T), T a built-in's name -/
theorem call_isi : CallR X (.builtin "isinstance") (fun xs H Q => ∃ x c t b, xs = [x, .ty c] ∧ TyOf X.K H x t ∧ PySem.W.kitOne X.K t (.type c) = some b ∧ Q (.bl b) H) := by
  intro pins s σ H xs us Q I r h
  obtain ⟨x, c, t, b, rfl, ty, e, q⟩ := h
  obtain ⟨u, w', rfl, ru, rw'⟩ := vals2 r
  cases rw'
  exact isinst_ok I ru ty e fun tk => ⟨.bl b, H, I.tok tk, rfl, q⟩
end
section
theorem bt_int : bootBuiltins "int" = some (.type "int") := by decide +kernel
theorem bt_str : bootBuiltins "str" = some (.type "str") := by decide +kernel
theorem bt_tuple : bootBuiltins "tuple" = some (.type "tuple") := by decide +kernel
theorem bt_len : bootBuiltins "len" = some (.builtin "len") := by decide +kernel
theorem bt_isinstance : bootBuiltins "isinstance" = some (.builtin "isinstance") := by decide +kernel
theorem bt_max : bootBuiltins "max" = some (.builtin "max") := by decide +kernel
theorem bt_min : bootBuiltins "min" = some (.builtin "min") := by decide +kernel
theorem bt_all : bootBuiltins "all" = some (.builtin "all") := by decide +kernel
end
section
variable {K : PySem.W.Frag}
theorem kit_str_str : PySem.W.kitOne K (.type "str") (.type "str") = some true := by kernel_rfl
end

/-! ### heaps: all kept but one -/
def Keep (p : Addr) (H H' : Hp) : Prop := ∀ b o, b ≠ p → H b = some o → H' b = some o
theorem Keep.trans {p : Addr} {H H1 H2 : Hp} (a : Keep p H H1) (b : Keep p H1 H2) : Keep p H H2 := fun c o n h => b c o n (a c o n h)
theorem Keep.same {p : Addr} {H H' : Hp} (s : Same H H') : Keep p H H' := fun b o _ h => s b o h
theorem Keep.set (p : Addr) (H : Hp) (o : HO) : Keep p H (upd H p o) := fun b u n h => by rw [upd_ne n]; exact h
theorem Keep.new {p q : Addr} {H : Hp} (h : H q = none) (o : HO) : Keep p H (upd H q o) := .same (same_new h o)
theorem Same.seqT {K : PySem.W.Frag} {H H' : Hp} {a : Addr} {xs : List V} (e : Same H H') (h : SqT K H a xs) : SqT K H' a xs := by
  rcases h with (h | ⟨o, h⟩) | h
  · exact .inl (.inl (e _ _ h))
  · exact .inl (.inr ⟨o, e _ _ h⟩)
  · exact .inr h
theorem sz {n : Nat} (h : n ≤ 1000) : n ≤ sizeLine := Nat.le_of_lt (small1000 h)
theorem szb {n : Nat} (h : Nat.ble n 1000 = true) : n ≤ sizeLine := sz (Nat.le_of_ble_eq_true h)
theorem atI_ints {l : List Int} {i : Int} (h0 : 0 ≤ i) (h1 : i < (l.length : Int)) : ∃ v, v ∈ l ∧ atI (l.map V.int) i = some (.int v) := by
  have hk : i.toNat < l.length := by omega
  have ek : i = ((i.toNat : Nat) : Int) := by omega
  have q : atI (l.map V.int) ((i.toNat : Nat) : Int) = some (.int l[i.toNat]) := atI_nat (by rw [List.getElem?_map, List.getElem?_eq_getElem hk] <;> rfl)
  rw [← ek] at q
  exact ⟨l[i.toNat], List.getElem_mem hk, q⟩
end L2
/-! my own rules over the layer: a list comprehension whose element may change things -/
namespace L2
open PySem PySem.Spec PyProof.Rows

/-- the kinds of the names of a comprehension's block within a def of that scope -/
def relN (scope sc0 : Scope) : List (Str × NameKind) := scope.names.map fun (n, k) => if (k == .free && sc0.kind == .function && sc0.names.lookup n == some .cell) then (n, .cell) else (n, k)
def CellsIn (env : Env) : List (Str × Addr) → Prop
  | [] => True
  | (n, c) :: r => env.cells.lookup n = some c ∧ CellsIn env r
theorem CellsIn.look {env : Env} : ∀ {cl : List (Str × Addr)} {n : Str} {c : Addr}, CellsIn env cl → cl.lookup n = some c → env.cells.lookup n = some c
  | [], _, _, _, h => by cases h
  | (m, d) :: r, n, c, hc, h => by
    rw [List.lookup_cons] at h
    cases hx : n == m with
    | true =>
      rw [hx] at h
      cases h
      rw [eq_of_beq hx]
      exact hc.1
    | false =>
      rw [hx] at h
      exact CellsIn.look hc.2 h
theorem look_of_mem {cl : List (Str × Addr)} {n : Str} (h : n ∈ cl.map (·.1)) : ∃ c, cl.lookup n = some c := by
  induction cl with
  | nil => cases h
  | cons p r ih =>
    obtain ⟨m, d⟩ := p
    rw [List.lookup_cons]
    cases hx : n == m with
    | true => exact ⟨d, rfl⟩
    | false =>
      rcases List.mem_cons.mp h with e | e
      · have e' : n = m := e
        rw [e', beq_self_eq_true] at hx
        cases hx
      · exact ih e
structure CompOk (scope sc0 : Scope) (x : Str) (N cn : List Str) : Prop where
  has : ∀ p ∈ relN scope sc0, (p.2 = .cell ∨ p.2 = .free) → p.1 ∈ cn
  nc : ∀ p ∈ scope.names, p.2 ≠ .cell
  names : ∀ p ∈ scope.names, p.2 = .local → scope.names.lookup p.1 = some .local
  hx : scope.names.lookup x = some .local
  hx' : (relN scope sc0).lookup x = some .local
  nd : (x :: N).Nodup
  frs : ∀ y ∈ N, (relN scope sc0).lookup y = some .cell ∧ sc0.names.lookup y = some .cell ∧ y ∈ cn

/-- the context of a comprehension's block -/
def compCx (X : Cx) (scope : Scope) (cl : List (Str × Addr)) (C : Addr) (x : Str) (N : List Str) (s₂ : Shared) (H₂ : Hp) (fp : List Addr) : Cx where
  prog := X.prog
  w := X.w
  K := X.K
  mg := X.mg
  base := X.base
  A := X.A
  N := x :: N
  s₀ := s₂
  H₀ := H₂
  env := compEnvC scope cl C X.env
  outer := X.stack
  stack := X.stack
  ex := fp
  fn := fun _ => false
  calm := X.calm
  pn := []
  xe := fun _ _ => False

/-- the reading: W the invariant by the turn, a measure, the items so far -/
def tComp (wi : TI) (te : TE) (fr : List Nat) : TE := fun σ H Q => wi σ H fun J H1 => ∀ D, H1 D = none → ∃ W : Nat → Nat → List V → Hp → Prop, (∃ m, W 0 m [] (upd H1 D (.lst []))) ∧
  ∀ i m ys H2, W i m ys H2 → H2 D = some (.lst ys) ∧ ((J.stop i H2 ∧ Q (.ref D) H2) ∨ (J.go i H2 ∧ ys.length < sizeLine ∧ ∃ N : V → Hp → Prop, (∀ y H3, N y H3 → H3 D = some (.lst ys) ∧ ∃ m', m' < m ∧ W (i + 1) m' (ys ++ [y]) (upd H3 D (.lst (ys ++ [y])))) ∧
    ∀ x H', J.yld i H2 x H' → te (some x :: fr.map fun j => (σ[j]?).getD none) H' N))

section
variable {prog : Program} {w : World} {A : Around} {R : Result → Shared → Prop} {s : Shared}
theorem compLoop_any {elt target iter : Expr} {scope : Scope} {pos : Pos} {it acc : Value} {env : Env} (I : Nat → Shared → Prop)
    (turn : ∀ n s, I n s → wpAny (model prog w) A (pyNext it) (fun r s₁ => match r with
      | none => R (.ok .next) s₁
      | some v => wpAny (model prog w) A (letOwnedTupleGo target it v) (fun _ s₁' => wpAny (model prog w) A (assign target env v) (fun _ s₂ => wpAny (model prog w) A (eval elt env) (fun x s₃ =>
          wpAny (model prog w) A (call (.builtin "list.append") [acc, x]) (fun _ s₄ => ∃ m, m < n ∧ I m s₄) (notedBy (model prog w) A env fun e s' => R (.error e) s') s₃)
          (notedBy (model prog w) A env fun e s' => R (.error e) s') s₂) (notedBy (model prog w) A env fun e s' => R (.error e) s') s₁') (notedBy (model prog w) A env fun e s' => R (.error e) s') s₁) (notedBy (model prog w) A env fun e s' => R (.error e) s') s)
    (n : Nat) (h : I n s) :
    codeAny (model prog w) A (.compLoop (.ListComp elt [⟨target, iter, [], 0⟩] scope pos) 0 it acc env) R s := by
  refine codeAny_loop rfl I (fun n s hI => ?_) n h
  show wpAny _ _ ((compTurn (.ListComp elt [⟨target, iter, [], 0⟩] scope pos) 0 it acc env).onRaise (fun x => do noteFrame x env; theTreesLotGoes x)) _ _ s
  refine wpAny_noted ?_
  rw [compTurn_list1]
  refine wpAny_bind (wpAny_standAt (wpAny_bind (wpAny_mono (turn n s hI) (fun r s₁ h₁ => ?_) fun _ _ h' => h')))
  cases r with
  | none => exact wpAny_pure h₁
  | some v =>
    exact wpAny_bind (wpAny_mono h₁ (fun _ s₁' h₁' => wpAny_bind (wpAny_mono h₁' (fun _ s₂ h₂ => wpAny_bind (wpAny_bind (wpAny_mono h₂ (fun x s₃ h₃ => wpAny_bind (wpAny_mono h₃
      (fun _ s₄ h₄ => wpAny_pure (wpAny_pure ⟨rfl, h₄⟩)) fun _ _ h' => h')) fun _ _ h' => h'))) fun _ _ h' => h')) fun _ _ h' => h')
end

theorem lookup_mem {α : Type} : ∀ {l : List (Str × α)} {x : Str} {a : α}, l.lookup x = some a → (x, a) ∈ l := fun h => PySem.mem_of_lookup h

theorem comp_core {X : Cx} {elt iter : Expr} {x : Str} {px pos : Pos} {scope sc0 : Scope} {cl : List (Str × Addr)} {cn N : List Str} {fr : List Nat} {te : TE} {pins : List (Addr × Obj)} {σ : St} {H2 : Hp} {s2 : Shared} {it : Addr} {fp : List Addr}
    {tn : Nat → Heap → Prop} {J : It} {RR : Value → Addr → Result → Shared → Prop} {R : Hp → Prop} {E : Value → Shared → Prop} {W : Nat → Nat → List V → Hp → Prop} {m0 : Nat}
    (hc : X.calm = true) (he : ∀ (C : Addr) (s₂ : Shared) (H₂ : Hp) (fp : List Addr), PE (compCx X scope cl C x N s₂ H₂ fp) elt te)
    (hcl : CellsIn X.env cl) (hcn : cl.map (·.1) = cn) (hsc : X.env.scope = sc0) (hk : scope.kind = .function) (hok : CompOk scope sc0 x N cn) (hfr : fr.map (fun j => X.N[j]?) = N.map some)
    (I2 : Inv X pins σ H2 s2) (T : Turn X.prog X.w X.K (.Name x px) J fp it tn) (st2 : tn 0 s2.heap) (f2 : ∀ b ∈ fp, FpOk X pins H2 b)
    (w0 : W 0 m0 [] (upd H2 s2.heap.objs.size (.lst [])))
    (turn : ∀ i m ys H, W i m ys H → H s2.heap.objs.size = some (.lst ys) ∧ ((J.stop i H ∧ R H) ∨ (J.go i H ∧ ys.length < sizeLine ∧ ∃ N : V → Hp → Prop,
      (∀ y H3, N y H3 → H3 s2.heap.objs.size = some (.lst ys) ∧ ∃ m', m' < m ∧ W (i + 1) m' (ys ++ [y]) (upd H3 s2.heap.objs.size (.lst (ys ++ [y])))) ∧
      ∀ x H', J.yld i H x H' → te (some x :: fr.map fun j => (σ[j]?).getD none) H' N)))
    (hRR : ∀ (C : Addr) (H6 : Hp) (s6 : Shared) (m6 : Str → Option Value), s6.heap.Ns C m6 → Inv X pins σ H6 s6 → FpOk X pins H6 C → R H6 → RR (.ref s2.heap.objs.size) C (.ok .next) s6) :
    wpAny (model X.prog X.w) X.A (newList []) (fun acc s₃ => wpAny (model X.prog X.w) X.A (newFunctionEnv scope X.env.globals cl [] X.env.qual none .none (some X.env)) (fun cenv s₄ =>
      codeAny (model X.prog X.w) X.A (.compStart (.ListComp elt [⟨.Name x px, iter, [], 0⟩] scope pos) 0 (.ref it) acc { cenv with scope := relabel scope X.env }) (RR acc cenv.locals) s₄) E s₃) E s2 := by
  refine wpAny_newObj_type (wpAny_newFunctionEnv hok.nc (by intro y hy; simp at hy) (fun h4 hns hsb => ?_) hk)
  dsimp only at hns hsb ⊢
  have rel : ∀ y, (compEnvC scope cl 0 X.env).scope.names.lookup y = (relN scope sc0).lookup y := fun y => by
    show (relabel scope X.env).names.lookup y = _
    unfold relabel relN Env.kindOf
    rw [hsc]
  generalize hD : s2.heap.objs.size = D at *
  have I3 : Inv X pins σ (upd H2 D (.lst [])) { s2 with heap := s2.heap.push { cls := .type "list", dict := none, data := .seq ([] : List Value).toArray } } :=
    I2.laid (t' := s2.toks) (fun b u e => Heap.get?_push_of_some _ e) (Nat.le_of_eq hD) ⟨Nat.zero_le _, [], 0, .nil, by rw [← hD]; exact Heap.get?_push_size _ rfl⟩
  have k23 : ∀ b u, s2.heap.get? b = some u → (s2.heap.push { cls := .type "list", dict := none, data := .seq ([] : List Value).toArray }).get? b = some u := fun b u e => Heap.get?_push_of_some _ e
  have hsz : s2.heap.objs.size ≤ (s2.heap.push { cls := .type "list", dict := none, data := .seq ([] : List Value).toArray }).objs.size := by rw [Heap.size_push]; exact Nat.le_succ _
  generalize hh3 : s2.heap.push { cls := .type "list", dict := none, data := .seq ([] : List Value).toArray } = h3 at *
  have k34 : ∀ b u, h3.get? b = some u → h4.get? b = some u := fun b u e => (hsb.2 b (Nat.ne_of_lt (Heap.lt_size e))).trans (Heap.get?_push_of_some _ e)
  generalize hC : h3.objs.size = C at *
  have I4 : Inv X pins σ (upd H2 D (.lst [])) { s2 with heap := h4, toks := s2.toks + ([] : List (Str × Value)).length } := I3.kept (t' := s2.toks + 0) k34
  generalize hH3 : upd H2 D (.lst []) = H3 at *
  have ltC : ∀ b o, s2.heap.get? b = some o → b < C := fun b o e => Nat.lt_of_lt_of_le (Heap.lt_size e) hsz
  have lenF : fr.length = N.length := by simpa using congrArg List.length hfr
  have fpo : ∀ b ∈ fp, b ≠ C ∧ b ∉ frs X.stack := fun b hb => by
    obtain ⟨o, e, _⟩ := T.obj 0 s2.heap st2 b hb
    refine ⟨Nat.ne_of_lt (ltC b o e), fun z => ?_⟩
    obtain ⟨_, n1, n2, _⟩ := f2 b hb
    rcases List.mem_cons.mp (I2.stkSub b z) with q | q
    · exact n1 q
    · exact n2 q
  have H3C : H3 C = none := I3.hok.fresh (Nat.le_of_eq hC)
  have okX : (compCx X scope cl C x N { s2 with heap := h3 } H3 fp).Ok := by
    refine ⟨I2.ok.mod, hk, I2.ok.glob, I2.ok.blt, Nat.le_of_eq hC, fun y z c e1 e2 => I2.ok.inj y z c (hcl.look e1) (hcl.look e2), fun y hy => ?_, fun y c z => (Bool.false_ne_true z).elim, fun z => I2.ok.hd z, I2.ok.frames, .inl rfl,
      fun b hb => ⟨(fpo b hb).1, fun y c e => (f2 b hb).2.2.2.2.1 y c (hcl.look e)⟩, fun b o e => I3.bs b o e, Nat.le_trans I2.ok.bsz I3.sz, fun b o e hb => ?_, fun b hb => (fpo b hb).2, I3.stack, I3.stkFree⟩
    · have hy' : (relN scope sc0).lookup y = some .cell ∨ (relN scope sc0).lookup y = some .free := by
        rcases hy with hy | hy
        · exact .inl ((rel y).symm.trans hy)
        · exact .inr ((rel y).symm.trans hy)
      have hm : y ∈ cn := by
        rcases hy' with q | q
        · exact hok.has (y, .cell) (lookup_mem q) (.inl rfl)
        · exact hok.has (y, .free) (lookup_mem q) (.inr rfl)
      exact look_of_mem (cl := cl) (n := y) (by rw [hcn]; exact hm)
    · rcases (f2 b hb).2.2.2.1 with z | z
      · exact I2.ok.noex b o e z
      · exact absurd (Nat.lt_of_lt_of_le (Heap.lt_size e) (Nat.le_trans I2.ok.bsz z)) (Nat.lt_irrefl _)
  have I5 : Inv (compCx X scope cl C x N { s2 with heap := h3 } H3 fp) [] (none :: fr.map fun j => (σ[j]?).getD none) H3 { s2 with heap := h4, toks := s2.toks + ([] : List (Str × Value)).length } := by
    refine ⟨okX, rfl, I4.bare, Un.kept k34, ⟨_, hns, fun i y v e1 e2 e3 => ?_⟩, fun y c e => I4.cell y c (hcl.look e), H3C, fun y c e => I4.freeC y c (hcl.look e), fun p hp => absurd (show p ∈ ([] : List (Addr × Obj)) from hp) (by simp), I4.hok, by simp [compCx, lenF]⟩
    cases i with
    | zero => cases e2
    | succ j =>
      have e1' : N[j]? = some y := e1
      have e2' : (fr.map fun j => (σ[j]?).getD none)[j]? = some (some v) := e2
      obtain ⟨k, ek⟩ : ∃ k, fr[j]? = some k := by
        have : j < fr.length := by rw [lenF]; exact (List.getElem?_eq_some_iff.mp e1').1
        exact ⟨fr[j], List.getElem?_eq_getElem this⟩
      rw [List.getElem?_map, ek] at e2'
      have e2'' : (σ[k]?).getD none = some v := Option.some.inj e2'
      have eσ : σ[k]? = some (some v) := by
        cases q : σ[k]? with
        | none => rw [q] at e2''; cases e2''
        | some o => rw [q] at e2''; exact congrArg some e2''
      have eN : X.N[k]? = some y := by
        have z := congrArg (fun l => l[j]?) hfr
        simp only [List.getElem?_map, ek, e1', Option.map_some] at z
        exact Option.some.inj z
      obtain ⟨r1, r2, r3⟩ := hok.frs y (List.mem_of_getElem? e1')
      obtain ⟨m, _, hl⟩ := I4.loc
      obtain ⟨u, ru, look⟩ := hl k y v eN eσ (.inr (.inl (by rw [hsc]; exact r2)))
      refine ⟨u, ru, .inr ⟨.inl ((rel y).trans r1), ?_⟩⟩
      rcases look with ⟨l1, _⟩ | ⟨_, c, l1, l2⟩
      · exfalso
        have l1' : X.env.scope.names.lookup y = some .local := l1
        rw [hsc, r2] at l1'
        cases l1'
      · obtain ⟨c', l3⟩ := look_of_mem (cl := cl) (n := y) (by rw [hcn]; exact r3)
        have l4 := hcl.look l3
        rw [l1] at l4
        cases l4
        exact ⟨c, l3, l2⟩
  have st4 : tn 0 h4 := T.keep 0 s2.heap h4 st2 fun b hb o e => k34 b o (k23 b o e)
  have fp5 : ∀ {H' : Hp}, (∀ b ∈ fp, H' b = none) → ∀ b ∈ fp, FpOk (compCx X scope cl C x N { s2 with heap := h3 } H3 fp) [] H' b := fun hn b hb =>
    ⟨hn b hb, (fpo b hb).1, (fpo b hb).2, .inl hb, fun y c e => (f2 b hb).2.2.2.2.1 y c (hcl.look e), fun p hp => absurd (show p ∈ ([] : List (Addr × Obj)) from hp) (by simp)⟩
  have fr3 : ∀ b ∈ fp, H3 b = none := fun b hb => by
    obtain ⟨o, e, _⟩ := T.obj 0 s2.heap st2 b hb
    have : b ≠ D := Nat.ne_of_lt (hD ▸ Heap.lt_size e)
    rw [← hH3, upd_ne this]
    exact (f2 b hb).1
  have hx' : Loc (compCx X scope cl C x N { s2 with heap := h3 } H3 fp).env.scope x := .inl ((rel x).trans hok.hx')
  have fin : ∀ (H6 : Hp) (s6 : Shared) (σ6 : St), Inv (compCx X scope cl C x N { s2 with heap := h3 } H3 fp) [] σ6 H6 s6 → Inv X pins σ H6 s6 ∧ FpOk X pins H6 C := by
    intro H6 s6 σ6 I6
    refine ⟨I3.call' (s' := s6) (ch := fp) I6.os ⟨I6.base.keep, I6.base.slot, I6.base.free, I6.base.there, I6.base.tups, I6.base.frzs, I6.base.tbls⟩ I6.hok I6.bare (fun b hb => ?_), I3.fpOk (Nat.le_of_eq hC) I6.free⟩
    obtain ⟨_, n1, _, n3, n4, n5⟩ := f2 b hb
    exact ⟨n3, n1, n4, n5⟩
  have loop : codeAny (model X.prog X.w) X.A (.compLoop (.ListComp elt [⟨.Name x px, iter, [], 0⟩] scope pos) 0 (.ref it) (.ref D) (compEnvC scope cl C X.env))
      (RR (.ref D) C) { s2 with heap := h4, toks := s2.toks + ([] : List (Str × Value)).length } := by
    refine compLoop_any (fun n s' => ∃ i v0 ys H', Inv (compCx X scope cl C x N { s2 with heap := h3 } H3 fp) [] (v0 :: fr.map fun j => (σ[j]?).getD none) H' s' ∧ tn i s'.heap ∧ (∀ b ∈ fp, H' b = none) ∧ W i n ys H') ?_ m0
      ⟨0, none, [], H3, I5, st4, fr3, w0⟩
    rintro n s6 ⟨i, v0, ys, H6, I6, st6, fr6, w6⟩
    obtain ⟨hDl, hw⟩ := turn i n ys H6 w6
    rcases hw with ⟨stop, qn⟩ | ⟨go, hlen, N', hN', step⟩
    · refine thn (T.done (compCx X scope cl C x N { s2 with heap := h3 } H3 fp) rfl rfl rfl hc i [] s6 _ H6 _ I6 (fp5 fr6) st6 stop) fun r s7 ⟨hr, I7⟩ => ?_
      subst hr
      obtain ⟨m7, hn7, _⟩ := I7.loc
      obtain ⟨J7, F7⟩ := fin H6 s7 _ I7
      exact hRR C H6 s7 m7 hn7 J7 F7 qn
    · refine thn (T.item (compCx X scope cl C x N { s2 with heap := h3 } H3 fp) rfl rfl rfl hc i [] s6 _ H6 _ I6 (fp5 fr6) st6 go) fun r s7 ⟨u, hr, h7⟩ => ?_
      subst hr
      refine thn h7 fun _ s8 ⟨x8, H8, I8, r8, y8, st8, fr8⟩ => ?_
      have I8' := I8.pinned (fp5 fr8) (T.obj _ _ st8)
      refine wpAny_assign_Name (store_ok (i := 0) I8' hok.nd rfl hx' r8 (fun s9 I9 => ?_) (.inr ((rel x).trans hok.hx')))
      have I9' : Inv (compCx X scope cl C x N { s2 with heap := h3 } H3 fp) ([] ++ pinsAt fp s8.heap) (some x8 :: fr.map fun j => (σ[j]?).getD none) H8 s9 := I9
      refine wpAny_mono (he C { s2 with heap := h3 } H3 fp _ s9 _ H8 _ I9' (step x8 H8 y8)) (fun y s10 h10 => ?_) fun _ _ z => False.elim z
      obtain ⟨y10, H10, I10, r10, n10⟩ := h10
      obtain ⟨hD10, m', hm, w10⟩ := hN' y10 H10 n10
      refine wpAny_mono (mt_append (X := compCx X scope cl C x N { s2 with heap := h3 } H3 fp) _ s10 _ H10 (.ref D) [y10] (.ref D) [y] (fun _ H' => H' = upd H10 D (.lst (ys ++ [y10]))) I10 rfl (.cons r10 .nil) ⟨D, ys, y10, rfl, rfl, hD10, hlen, rfl⟩) (fun _ s11 h11 => ?_) fun _ _ z => False.elim z
      obtain ⟨_, H11, I11, _, e11⟩ := h11
      subst e11
      refine ⟨m', hm, i + 1, some x8, ys ++ [y10], _, I11.unpinned, T.keep _ _ _ st8 fun b hb o e => (I11.pin (b, o) (List.mem_append_right _ (List.mem_append_right _ (mem_pinsAt hb e)))).1, fun b hb => ?_, w10⟩
      obtain ⟨o, e, d⟩ := T.obj _ _ st8 b hb
      exact (I11.pin (b, o) (List.mem_append_right _ (List.mem_append_right _ (mem_pinsAt hb e)))).2.1
  exact codeAny_compStart_list loop (T.self _ 0 _ _ _ st4 loop)

theorem Inv.let_go {X : Cx} {pins : List (Addr × Obj)} {σ : St} {H : Hp} {s : Shared} {C : Addr} {h' : Heap} (I : Inv X pins σ H s) (F : FpOk X pins H C) (sb : Heap.SameBut C s.heap h') : Inv X pins σ H { s with heap := h' } := by
  obtain ⟨f0, f1, _, f3, f4, f5⟩ := F
  exact I.turned (t' := s.toks) (fun b o hb e => (sb.2 b hb).trans e) f0 f1 f3 f4 f5
theorem pe_comp {X : Cx} {elt iter : Expr} {x : Str} {px pos : Pos} {scope sc0 : Scope} {cl : List (Str × Addr)} {cn N : List Str} {fr : List Nat} {wi : TI} {te : TE}
    (hc : X.calm = true) (hi : PI X (.Name x px) iter wi) (he : ∀ (C : Addr) (s₂ : Shared) (H₂ : Hp) (fp : List Addr), PE (compCx X scope cl C x N s₂ H₂ fp) elt te)
    (hclos : closureFor scope X.env = pure cl) (hcl : CellsIn X.env cl) (hcn : cl.map (·.1) = cn) (hsc : X.env.scope = sc0) (hk : scope.kind = .function) (hok : CompOk scope sc0 x N cn)
    (hfr : fr.map (fun j => X.N[j]?) = N.map some) (hs : ∀ v, foldedSetIterable iter X.env v = pure v := by intro _; rfl) :
    PE X (.ListComp elt [⟨.Name x px, iter, [], 0⟩] scope pos) (tComp wi te fr) := by
  intro pins s σ H Q I h
  rw [eval_ListComp]
  refine wpAny_comprehension_free (use := none) rfl hs hclos hk hok.names (thn (hi pins s σ H _ I h) fun v s1 h1 => thn h1 fun itv s2 h2 => ?_)
  obtain ⟨it, fp, tn, J, H2, e, I2, T, st2, f2, hq⟩ := h2
  subst e
  obtain ⟨W, ⟨m0, w0⟩, turn⟩ := hq s2.heap.objs.size (I2.hok.fresh (Nat.le_refl _))
  exact comp_core (RR := fun acc C => compPost (model X.prog X.w) X.A X.xe none (EP X pins σ Q) acc C) (R := fun H6 => Q (.ref s2.heap.objs.size) H6) hc he hcl hcn hsc hk hok hfr I2 T st2 f2 w0 turn
    fun C H6 s6 m6 hn I6 F6 q => ⟨m6, hn, fun h' sb => ⟨.ref s2.heap.objs.size, H6, I6.let_go F6 sb, rfl, q⟩⟩
/-- y = [.. for x in ..], straight to a local name -/
def tSetComp (i : Nat) (wi : TI) (te : TE) (fr : List Nat) : TS := fun D σ H => tComp wi te fr σ H fun v H1 => D.nx (σ.set i (some v)) H1
theorem ps_setComp {X : Cx} {i : Nat} {y : Str} {py spos : Pos} {elt iter : Expr} {x : Str} {px pos : Pos} {scope sc0 : Scope} {cl : List (Str × Addr)} {cn N : List Str} {fr : List Nat} {wi : TI} {te : TE}
    (hN : X.N.Nodup) (hiN : X.N[i]? = some y) (hy : Loc X.env.scope y)
    (hc : X.calm = true) (hi : PI X (.Name x px) iter wi) (he : ∀ (C : Addr) (s₂ : Shared) (H₂ : Hp) (fp : List Addr), PE (compCx X scope cl C x N s₂ H₂ fp) elt te)
    (hclos : closureFor scope X.env = pure cl) (hcl : CellsIn X.env cl) (hcn : cl.map (·.1) = cn) (hsc : X.env.scope = sc0) (hk : scope.kind = .function) (hok : CompOk scope sc0 x N cn)
    (hfr : fr.map (fun j => X.N[j]?) = N.map some) (hsw : swapsWith (.ListComp elt [⟨.Name x px, iter, [], 0⟩] scope pos) (some (.Name y py)) spos.line X.env = pure true)
    (hf : X.fn y = true ∨ X.env.scope.names.lookup y = some .local) (hs : ∀ v, foldedSetIterable iter X.env v = pure v := by intro _; rfl) :
    PS X (.Assign [.Name y py] (.ListComp elt [⟨.Name x px, iter, [], 0⟩] scope pos) spos) (tSetComp i wi te fr) := by
  intro pins s σ H D I h
  rw [exec_Assign_Name_used _ _ _ _ hsw]
  refine wpAny_bind (wpAny_standAt (wpAny_bind ?_))
  show wpAny _ X.A (do let _ ← comprehension (.ListComp elt [⟨.Name x px, iter, [], 0⟩] scope pos) scope X.env _ (newList []) false (eval iter X.env) (some (assign (.Name y py) X.env))) _ _ s
  refine wpAny_bind (wpAny_mono (wpAny_comprehension_free (use := some (assign (.Name y py) X.env)) (Q := fun _ s' => SP X pins D .next s') rfl hs hclos hk hok.names
    (thn (hi pins s σ H _ I h) fun v s1 h1 => thn h1 fun itv s2 h2 => ?_)) (fun _ s' hq => wpAny_pure (wpAny_pure hq)) fun _ _ e => e)
  obtain ⟨it, fp, tn, J, H2, e, I2, T, st2, f2, hq⟩ := h2
  subst e
  obtain ⟨W, ⟨m0, w0⟩, turn⟩ := hq s2.heap.objs.size (I2.hok.fresh (Nat.le_refl _))
  refine comp_core (RR := fun acc C => compPost (model X.prog X.w) X.A X.xe (some (assign (.Name y py) X.env)) (fun _ s' => SP X pins D .next s') acc C) (R := fun H6 => D.nx (σ.set i (some (.ref s2.heap.objs.size))) H6) hc he hcl hcn hsc hk hok hfr I2 T st2 f2 w0 turn
    fun C H6 s6 m6 hn I6 F6 q => ?_
  show wpAny _ X.A (assign (.Name y py) X.env (.ref s2.heap.objs.size)) _ _ _
  refine wpAny_assign_Name (store_ok2 (v := .ref s2.heap.objs.size) I6 hN hiN hy rfl (fun s7 I7 ⟨a, sb, ha⟩ => ?_) hf)
  have neC : C ≠ a := by
    rcases ha with ha | ha
    · rw [ha]; exact F6.2.1
    · exact Ne.symm (F6.2.2.2.2.1 y a ha)
  exact ⟨m6, hn.sameBut sb neC, fun h' sb' => ⟨_, H6, I7.let_go F6 sb', q⟩⟩

/-- [.. for x in range(n)] -/
theorem comp_range {lo : Int} {n : Nat} {T : V → Hp → (V → Hp → Prop) → Prop} {D : Addr} {H1 : Hp} {R : Hp → Prop} (hn : n ≤ sizeLine) (Pv : Nat → List V → Hp → Prop) (h0 : Pv 0 [] (upd H1 D (.lst [])))
    (hD : ∀ i ys H, Pv i ys H → H D = some (.lst ys) ∧ ys.length = i)
    (hs : ∀ i ys H, i < n → Pv i ys H → T (.int (lo + i)) H fun y H3 => H3 D = some (.lst ys) ∧ Pv (i + 1) (ys ++ [y]) (upd H3 D (.lst (ys ++ [y]))))
    (hd : ∀ ys H, Pv n ys H → R H) :
    ∃ W : Nat → Nat → List V → Hp → Prop, (∃ m, W 0 m [] (upd H1 D (.lst []))) ∧
      ∀ i m ys H2, W i m ys H2 → H2 D = some (.lst ys) ∧ (((Itr lo n).stop i H2 ∧ R H2) ∨ ((Itr lo n).go i H2 ∧ ys.length < sizeLine ∧ ∃ N : V → Hp → Prop, (∀ y H3, N y H3 → H3 D = some (.lst ys) ∧ ∃ m', m' < m ∧ W (i + 1) m' (ys ++ [y]) (upd H3 D (.lst (ys ++ [y])))) ∧
        ∀ x H', (Itr lo n).yld i H2 x H' → T x H' N)) := by
  refine ⟨fun i m ys H => m = n - i ∧ i ≤ n ∧ Pv i ys H, ⟨n, by simp, Nat.zero_le _, h0⟩, ?_⟩
  rintro i m ys H2 ⟨rfl, hi, p⟩
  obtain ⟨d1, d2⟩ := hD i ys H2 p
  refine ⟨d1, ?_⟩
  by_cases hlt : i < n
  · refine .inr ⟨hlt, by omega, fun y H3 => H3 D = some (.lst ys) ∧ Pv (i + 1) (ys ++ [y]) (upd H3 D (.lst (ys ++ [y]))), fun y H3 ⟨z1, z2⟩ => ⟨z1, n - (i + 1), by omega, rfl, hlt, z2⟩, fun x H' y => ?_⟩
    obtain ⟨e, y⟩ := y
    subst e y
    exact hs i ys _ hlt p
  · have e : i = n := by omega
    subst e
    exact .inl ⟨Nat.le_refl _, hd ys H2 p⟩
/-- [.. for x in t], t a tuple that stays -/
theorem comp_tup {K : PySem.W.Frag} {a : Addr} {xs : List V} {T : V → Hp → (V → Hp → Prop) → Prop} {D : Addr} {H1 : Hp} {R : Hp → Prop} (hn : xs.length ≤ sizeLine) (Pv : Nat → List V → Hp → Prop) (h0 : Pv 0 [] (upd H1 D (.lst [])))
    (hl : ∀ i ys H, Pv i ys H → SqT K H a xs) (hD : ∀ i ys H, Pv i ys H → H D = some (.lst ys) ∧ ys.length = i)
    (hs : ∀ i x ys H, xs[i]? = some x → Pv i ys H → T x H fun y H3 => H3 D = some (.lst ys) ∧ Pv (i + 1) (ys ++ [y]) (upd H3 D (.lst (ys ++ [y]))))
    (hd : ∀ ys H, Pv xs.length ys H → R H) :
    ∃ W : Nat → Nat → List V → Hp → Prop, (∃ m, W 0 m [] (upd H1 D (.lst []))) ∧
      ∀ i m ys H2, W i m ys H2 → H2 D = some (.lst ys) ∧ (((Itt K a).stop i H2 ∧ R H2) ∨ ((Itt K a).go i H2 ∧ ys.length < sizeLine ∧ ∃ N : V → Hp → Prop, (∀ y H3, N y H3 → H3 D = some (.lst ys) ∧ ∃ m', m' < m ∧ W (i + 1) m' (ys ++ [y]) (upd H3 D (.lst (ys ++ [y])))) ∧
        ∀ x H', (Itt K a).yld i H2 x H' → T x H' N)) := by
  refine ⟨fun i m ys H => m = xs.length - i ∧ i ≤ xs.length ∧ Pv i ys H, ⟨xs.length, by simp, Nat.zero_le _, h0⟩, ?_⟩
  rintro i m ys H2 ⟨rfl, hi, p⟩
  obtain ⟨d1, d2⟩ := hD i ys H2 p
  have q := hl i ys H2 p
  refine ⟨d1, ?_⟩
  by_cases hlt : i < xs.length
  · refine .inr ⟨⟨xs, xs[i], q, by simp [hlt]⟩, by omega, fun y H3 => H3 D = some (.lst ys) ∧ Pv (i + 1) (ys ++ [y]) (upd H3 D (.lst (ys ++ [y]))), fun y H3 ⟨z1, z2⟩ => ⟨z1, xs.length - (i + 1), by omega, rfl, hlt, z2⟩, fun x H' y => ?_⟩
    obtain ⟨e, y⟩ := y
    subst e
    exact hs i x ys _ (y xs q) p
  · have e : i = xs.length := by omega
    subst e
    exact .inl ⟨⟨xs, q, Nat.le_refl _⟩, hd ys H2 p⟩
end L2
/-! my own rules over the layer: tuples known to the object: slices, the whole among them, and count -/
namespace HT
open PySem PySem.Spec PyProof.Rows
section
variable {prog : Program} {w : World} {A : Around} {E : Value → Shared → Prop} {s : Shared}
theorem getItem_tuple_all {t sl : Addr} {items : Array Value} {vl vu : Value} {lo hi : Option Int} {Q : Value → Shared → Prop} (ht : IsTup s.heap t items) (hs : s.heap.IsSliceOf sl vl vu .none) (pl : IsPart vl lo) (pu : IsPart vu hi)
    (h0 : sIx items.size 0 lo = 0) (h1 : sIx items.size items.size hi = items.size) (h : Q (.ref t) s) : wpAny (model prog w) A (getItem (.ref t) (.ref sl)) Q E s := by
  obtain ⟨os, hos, hcs, hds⟩ := id hs
  have hTs : s.TypeIs (.ref sl) "slice" := ⟨os, hos, hcs⟩
  have hT : s.TypeIs (.ref t) "tuple" := ht.typeIs
  unfold getItem
  try with_reducible refine wpAny_holding ?_
  first | refine wpAny_bind (wpAny_pure ?_) | skip
  refine wpAny_bind (wpAny_sequenceKey ht.typeIs (by decide) ?_)
  refine wpAny_bind (wpAny_callSpecial?_slot (name := Str.ofString "__getitem__") ht.typeIs PyProof.Rows.slot_tuple_getitem
    (wpAny_call_entry PyProof.Rows.slot_tuple_getitem ht.typeIs entry_tuple_getitem ?_ (args_tuple_getitem _ _)))
  show wpAny _ _ (Builtin.Tuple.tupleItemsOf (.ref t) >>= _) _ _ s
  refine wpAny_bind (tupleItemsOf_ ht ?_)
  refine wpAny_bind (wpAny_typeOf hTs ?_)
  rw [if_pos (by decide)]
  refine wpAny_bind (sliceApplied_gen hs pl pu ?_)
  have hyes : ((((sIx items.size 0 lo : Nat) : Int) == 0 && (1 : Int) == 1 && (sIx items.size items.size hi - sIx items.size 0 lo) == items.size) = true) := by
    rw [h0, h1]; simp
  show wpAny _ _ (if (((sIx items.size 0 lo : Nat) : Int) == 0 && (1 : Int) == 1 && (sIx items.size items.size hi - sIx items.size 0 lo) == items.size) = true then _ else _) _ _ s
  rw [if_pos hyes]
  first
    | exact wpAny_bind (wpAny_typeOf hT (wpAny_pure ⟨_, rfl, wpAny_pure h⟩))
    | exact wpAny_pure ⟨_, rfl, wpAny_pure h⟩
    | exact wpAny_bind (wpAny_pure ⟨_, rfl, wpAny_pure h⟩)
    | (wp_walk; exact ⟨_, rfl, wpAny_pure h⟩)
    | (wp_walk; exact ⟨_, rfl, h⟩)
end
end HT
namespace L2
open PySem PySem.Spec PyProof.Rows
/-- a tuple known to the object -/
def TupF (H : Hp) (a : Addr) (xs : List V) : Prop := ∃ o : Obj, H a = some (.frz o (.tup xs)) ∧ o.cls = .type "tuple" ∧ o.dict = none
theorem TupF.sq {K : PySem.W.Frag} {H : Hp} {a : Addr} {xs : List V} (h : TupF H a xs) : SqT K H a xs := by
  obtain ⟨o, h, _⟩ := h
  exact .inl (.inr ⟨o, h⟩)
theorem TupF.same {H H' : Hp} {a : Addr} {xs : List V} (h : TupF H a xs) (s : Same H H') : TupF H' a xs := by
  obtain ⟨o, h, c⟩ := h
  exact ⟨o, s _ _ h, c⟩
section
variable {X : Cx}
/-- tuple(xs) of a list -/
theorem call_tupleF : CallR X (.type "tuple") (fun xs H Q => ∃ p ys, xs = [.ref p] ∧ SqL X.K H p ys ∧ ∀ l H', Same H H' → TupF H' l ys → Q (.ref l) H') := by
  intro pins s σ H xs us Q I r h
  obtain ⟨p, ys, rfl, hq, q⟩ := h
  obtain ⟨u, rfl, rx⟩ := vals1 r
  cases rx
  obtain ⟨its, r', pl, hz⟩ := I.list hq
  have hlen := r'.length
  refine call_tuple_list pl.isList (fun h' kp => ?_) (by simp only [List.size_toArray] <;> omega)
  have I1 : Inv X pins σ H { s with heap := h' } := I.kept (t' := s.toks) kp
  have I2 : Inv X pins σ (upd H h'.objs.size (.frz { cls := .type "tuple", data := .seq its.toArray } (.tup ys))) { s with heap := h'.push { cls := .type "tuple", data := .seq its.toArray } } :=
    I1.laid (t' := s.toks) (fun b o e => Heap.get?_push_of_some _ e) (Nat.le_refl _) (show ObjOk X.prog X.w _ _ _ (.frz _ (.tup ys)) from ⟨Heap.get?_push_size _ rfl, hz, its, r', IsTup.new _ _⟩)
  exact ⟨.ref h'.objs.size, _, I2, rfl, q _ _ (same_new (I1.hok.fresh (Nat.le_refl _)) _) ⟨_, upd_same, rfl, rfl⟩⟩
theorem cutV_all {xs : List V} {lo hi : Option Int} (h0 : HT.sIx xs.length 0 lo = 0) (h1 : HT.sIx xs.length xs.length hi = xs.length) : cutV xs lo hi = xs := by
  unfold cutV
  rw [h0, h1, List.drop_zero, Nat.sub_zero, List.take_length]
/-- t[lo:hi], the whole too -/
theorem sl_tupF : SlR X (fun x lo hi H Q => ∃ a xs, x = .ref a ∧ TupF H a xs ∧ ∀ p H', Same H H' → TupF H' p (cutV xs lo hi) → Q (.ref p) H') := by
  intro pins s σ H x v vl vu lo hi sl Q I rx hs pl pu h
  obtain ⟨a, xs, rfl, hx, q⟩ := h
  cases rx
  obtain ⟨its, r, ht, hz⟩ := I.tuple (hx.sq (K := X.K))
  have hlen : its.toArray.size = xs.length := by rw [List.size_toArray]; exact r.length.symm
  refine ⟨"tuple", _, PyProof.Rows.slot_tuple_getitem.lookup, ht.typeIs, ?_⟩
  by_cases hw : HT.sIx xs.length 0 lo = 0 ∧ HT.sIx xs.length xs.length hi = xs.length
  · refine HT.getItem_tuple_all ht hs pl pu (by rw [hlen]; exact hw.1) (by rw [hlen]; exact hw.2) ⟨.ref a, H, I, rfl, q a H (Same.refl H) ?_⟩
    rw [cutV_all hw.1 hw.2]
    exact hx
  · refine HT.getItem_tuple_cut ht hs pl pu (by rw [hlen]; exact hw) ?_ (by rw [hlen]; exact hz)
    rw [hlen]
    refine ⟨.ref s.heap.objs.size, _, I.laid (t' := s.toks) (o := .frz { cls := .type "tuple", data := .seq ((its.toArray.toList.drop (HT.sIx xs.length 0 lo)).take (HT.sIx xs.length xs.length hi - HT.sIx xs.length 0 lo)).toArray } (.tup (cutV xs lo hi))) (fun b ob q => Heap.get?_push_of_some _ q) (Nat.le_refl _) ?_, rfl,
      q _ _ (same_new (I.hok.fresh (Nat.le_refl _)) _) ⟨_, upd_same, rfl, rfl⟩⟩
    exact ⟨Heap.get?_push_size _ rfl, Nat.le_trans (cutV_length xs lo hi) hz, _, (r.drop (HT.sIx xs.length 0 lo)).take (HT.sIx xs.length xs.length hi - HT.sIx xs.length 0 lo), IsTup.new _ _⟩
theorem countP_eqU {x : V} : ∀ {xs : List V} {us : List Value}, Vals xs us → xs.all flatV = true → us.countP (eqU x) = xs.countP fun y => eqV y x
  | _, _, .nil, _ => rfl
  | y :: xs, u :: us, .cons r t, f => by
    rw [List.all_cons, Bool.and_eq_true] at f
    rw [List.countP_cons, List.countP_cons, eqU_of r f.1, countP_eqU t f.2]
/-- t.count(x), flat things -/
theorem mt_countT : MtR X "tuple.count" (fun x xs H Q => ∃ a ys v, x = .ref a ∧ xs = [v] ∧ SqT X.K H a ys ∧ flatV v = true ∧ ys.all flatV = true ∧ Q (.int (ys.countP fun y => eqV y v : Nat)) H) := by
  intro pins s σ H x xs v us Q I rx rv h
  obtain ⟨a, ys, y, rfl, rfl, ha, f1, f2, q⟩ := h
  cases rx
  obtain ⟨u, rfl, ru⟩ := rv.one
  obtain ⟨its, r, p, hz⟩ := I.tuple ha
  obtain ⟨⟨cls, dd, data, sl⟩, ho, hc, n, hd⟩ := id p
  simp only at hc hd
  subst hc hd
  refine call_meets F.slot_tuple_count ⟨_, ho, rfl⟩ F.entry_tuple_count (F.args_tuple_count_2 _ _) (SeqAt.tuple_countAt a its.toArray n dd sl u (eqU y)) ⟨ho, fun z hz => mem_eqAt ru f1 r f2 z (by simpa using hz), ?_⟩
  refine ⟨.int (ys.countP fun y' => eqV y' y : Nat), H, I.tok _, ?_, q⟩
  rw [← countP_eqU r f2]
  exact ⟨_, rfl⟩
def tBMF (T : String) (r : V → List V → Hp → VK → Prop) (to : TE) (t : TA) : TE := fun σ H Q => to σ H fun x H1 => (∃ a o u, x = .ref a ∧ H1 a = some (.frz o u) ∧ o.cls = .type T ∧ o.dict = none) ∧ t σ H1 fun xs H2 => r x xs H2 Q
variable {o e : Expr} {es : List Expr} {to : TE} {t : TA} {name : Str} {apos cpos : Pos} {T id : String} {r : V → List V → Hp → VK → Prop}
/-- a method of a thing known to the object -/
theorem pe_bmF (pa : PlainAttrs T) (slot : Slot T name id) (hty : typeOf (.builtin id) = pure (.type "method_descriptor")) (hm : MtR X id r) (ho : PE X o to) (ha : PA X (e :: es) t)
    (hbase : attributeBase o name X.env (eval o X.env) = eval o X.env := by rfl)
    (hfew : ((backTo cpos (starEach (e :: es) X.env)).all (fun x => !x.1) && (backToKw cpos (keywordEach [] X.env)).all (fun x => x.1.isSome)
      && decide ((e :: es).length + ([] : List Keyword).length + (if ([] : List Keyword).isEmpty then 0 else 1) < 30)) = true := by rfl)
    (hline : (apos.endLine == cpos.line) = true := by rfl) (hs : starEach (e :: es) X.env = (false, eval e X.env) :: starEach es X.env := by rfl) (hplain : (backTo cpos (starEach es X.env)).any (·.1) = false := by rfl) :
    PE X (.Call (.Attribute o name apos) (e :: es) [] cpos) (tBMF T r to t) := by
  intro pins s σ H Q I h
  refine wpAny_Call_method_late hbase hfew hline rfl (thn (ho pins s σ H _ I h) fun v s1 ⟨x, H1, I1, r1, ty, q1⟩ => ?_)
  obtain ⟨a, ob, u, rfl, hH, hc, hd⟩ := ty
  cases r1
  obtain ⟨hg, _⟩ := I1.hok a _ hH
  refine ⟨T, id, pa, slot, hty, ⟨ob, hg, hc⟩, fun b eb => ?_, ?_⟩
  · cases eb
    exact ⟨ob, hg, hd⟩
  have hA := ha cpos pins s1 σ H1 _ I1 q1
  rw [hs] at hA ⊢
  refine Calls.callWith_builtin (by show (false || (backTo cpos (starEach es X.env)).any (·.1)) = false; rw [hplain] <;> rfl) (Calls.evalArgs_plain ?_)
  exact thn hA fun us s2 ⟨vs, H2, I2, r2, q2⟩ => hm pins s2 σ H2 (.ref a) vs (.ref a) us Q I2 rfl r2 q2
end
end L2
/-! my own rules over the layer: all(..) of a list of truths, xs != ys of lists of ints -/
namespace L2
open PySem PySem.Spec PyProof.Rows
section
variable {X : Cx}
theorem all_range (bs : List Bool) : ((List.range bs.length).all fun i => bs.getD i true) = bs.all id := by
  rw [Bool.eq_iff_iff, List.all_eq_true, List.all_eq_true]
  constructor
  · intro h b hb
    obtain ⟨i, hi, rfl⟩ := List.mem_iff_getElem.mp hb
    have := h i (List.mem_range.mpr hi)
    simpa [List.getD_eq_getElem?_getD, hi] using this
  · intro h i hi
    have hi' := List.mem_range.mp hi
    have := h bs[i] (List.getElem_mem hi')
    simpa [List.getD_eq_getElem?_getD, hi'] using this
/-- all(xs) of a list of truths -/
theorem call_all (hc : X.calm = true) : CallR X (.builtin "all") (fun xs H Q => ∃ (p : Addr) (bs : List Bool), xs = [.ref p] ∧ SqL X.K H p (bs.map V.bl) ∧ Q (.bl (bs.all id)) H) := by
  intro pins s σ H xs us Q I r h
  obtain ⟨p, bs, rfl, hq, q⟩ := h
  obtain ⟨u, rfl, rx⟩ := vals1 r
  cases rx
  obtain ⟨its, r', pl, hz⟩ := I.list hq
  have hl := r'.length
  rw [List.length_map] at hl
  obtain ⟨o, n, ho, _⟩ := id pl
  have hlt : p < s.heap.objs.size := Heap.lt_size ho
  refine call_all_walk (wpAny_pyIter_list pl.isList ⟨s.heap.objs.size, _, _, _, _, _, fun i => bs.getD i true, rfl, Walks.list (A := X.A.in1) (show X.A.in1.handled = none from I.ok.hd hc) s.heap.objs.size p (Nat.ne_of_lt hlt) its.toArray, ⟨⟨_, Heap.get?_push_size _ rfl, rfl, rfl⟩, pl.isList.at fun o e => Heap.get?_push_of_some _ e⟩, ?_, ?_⟩)
  · intro i v s' Q' E' hv hQ'
    have hv' : its[i]? = some v := by simpa using hv
    have hi : i < bs.length := by rw [hl]; exact (List.getElem?_eq_some_iff.mp hv').1
    obtain ⟨u', hu', ru'⟩ := r'.get (i := i) (x := .bl bs[i]) (by rw [List.getElem?_map, List.getElem?_eq_getElem hi] <;> rfl)
    rw [hv'] at hu'
    cases hu'
    cases ru'
    refine wpAny_truthy_bool ?_
    have e : bs.getD i true = bs[i] := by simp [List.getD_eq_getElem?_getD, hi]
    rw [← e]
    exact hQ'
  · intro h' tk hk
    refine ⟨.bl (bs.all id), H, I.kept (t' := tk) fun b ob e => hk b ob (by simp; exact Nat.ne_of_lt (Heap.lt_size e)) (Heap.get?_push_of_some _ e), ?_, q⟩
    show Value.bool _ = Value.bool _
    congr 1
    rw [List.size_toArray, ← hl]
    exact all_range bs
end
end L2
/-! exceptions: how one is noted, leaves a frame, lands -/
namespace L2
open PySem PySem.Spec PyProof.Rows

/-- an exception under way at x: its class, its own dict, its newest note at or above n, whose mark is fl -/
def Exc (n : Nat) (h : Heap) (x : Addr) (cls : Value) (dd : Option Addr) (fl : Value) : Prop :=
  ∃ (oe : Obj) (vs : Array Value) (T : Addr) (oT : Obj) (ts : Array Value), (h.get? x = some oe ∧ oe.cls = cls ∧ oe.dict = dd ∧ oe.data = .fields vs ∧ vs[1]? = some (.ref T)) ∧
    (n ≤ T ∧ T ≠ x) ∧ h.get? T = some oT ∧ oT.data = .fields ts ∧ ts[3]? = some fl
/-- what a note leaves as it was -/
structure Fly (n : Nat) (fs : List Addr) (x : Addr) (h h' : Heap) : Prop where
  keep : ∀ b o, h.get? b = some o → b < n → b ≠ x → b ∉ fs → h'.get? b = some o
  slot : ∀ b o, h.get? b = some o → b ∈ fs → ∃ sl, h'.get? b = some { o with slots := sl }
  there : ∀ b o, h.get? b = some o → ∃ o', h'.get? b = some o'
section
variable {n : Nat} {fs : List Addr} {x y : Addr} {h h1 h' : Heap}
end

section
variable {M : Model} {A : Around} {E : Value → Shared → Prop} {s : Shared} {base : Heap} {env : Env} {outer : List Env} {L x : Addr} {n : Nat} {Q : Unit → Shared → Prop}
end
end L2
/-! exceptions: what a caller knows of one that comes out of a call; raise -/
namespace L2
open PySem PySem.Spec PyProof.Rows
section
variable {P : Program} {w : World} {fs fs' : List Addr} {H₀ H : Hp} {h₀ h h' : Heap} {x : Addr} {n : Nat}
end

/-- an exception out of a call -/
structure Out (P : Program) (w : World) (outer : List Env) (H : Hp) (s : Shared) (x : Addr) (cls : Value) (dd : Option Addr) (n : Nat) (H' : Hp) (fl : Value) (s' : Shared) : Prop where
  os : s'.os = s.os
  bare : AllBare s'.gens
  un : Un (frs outer) [] H H' s.heap s'.heap
  hok : HOk P w H' s'.heap
  exc : Exc n s'.heap x cls dd fl
  free : H' x = none
  new : s.heap.get? x = none
  old : s.heap.objs.size ≤ n
  low : ∀ b u, H' b = some u → b < n
def CX1 (P : Program) (w : World) : CXT := fun outer H s E e s' => ∃ (x : Addr) (cls : Value) (dd : Option Addr) (n : Nat) (H' : Hp), e = .ref x ∧ Out P w outer H s x cls dd n H' .none s' ∧ E cls dd H'

section
variable {X : Cx} {pins : List (Addr × Obj)} {σ : St} {H H' : Hp} {s s' : Shared} {x : Addr} {cls fl : Value} {dd : Option Addr} {n : Nat}
/-- from inside the body: an exception under way, the invariant as it is -/
structure Away (X : Cx) (pins : List (Addr × Obj)) (σ : St) (H : Hp) (s : Shared) (x : Addr) (cls : Value) (dd : Option Addr) (n : Nat) (fl : Value) : Prop where
  inv : Inv X pins σ H s
  exc : Exc n s.heap x cls dd fl
  free : H x = none
  new : X.s₀.heap.get? x = none
  old : X.s₀.heap.objs.size ≤ n
  low : ∀ b u, H b = some u → b < n
  loc : X.env.locals < n
end
end L2
/-! exceptions: raise, and how one passes through a body -/
namespace L2
open PySem PySem.Spec PyProof.Rows
/-- a body whose exceptions leave by CX1 -/
structure Lv (X : Cx) (E : XK) : Prop where
  xe : X.xe = fun e s' => wpAny (model X.prog X.w) X.A (leaving X.env e) (fun _ s'' => CX1 X.prog X.w X.outer X.H₀ X.s₀ E e s'') (fun e' s'' => CX1 X.prog X.w X.outer X.H₀ X.s₀ E e' s'') s'
  ex : X.ex = []
  stack : X.stack = X.env :: X.outer
  frame : X.env.frame = some X.env.locals
  calm : X.calm = true
section
variable {X : Cx} {E : XK} {x : Str} {C : Addr} {e : Expr} {es : List Expr} {t : TA} {np cpos pos : Pos} {B nw it : String} {tl : List Value}
/-- what a body wants of its own exception -/
def tRaise (C : Addr) (E : XK) (t : TA) : TS := fun _ σ H => t σ H fun vs H1 => vs.length ≤ sizeLine ∧ E (.ref C) none H1
end
end L2
/-! exceptions: try f(..) except C as n; isinstance of what was caught -/
namespace L2
open PySem PySem.Spec PyProof.Rows

/-- what is known of a caught exception -/
def ExcO (x : Addr) (cls : Value) (dd : Option Addr) : HO := .ext fun h => ∃ o vs, h.get? x = some o ∧ o.cls = cls ∧ o.dict = dd ∧ o.data = .fields vs
section
variable {P : Program} {w : World} {fs : List Addr} {H H' : Hp} {h h' : Heap} {x : Addr} {o : HO}
end
/-- within an except suite -/
abbrev Cx.hand (X : Cx) (x : Addr) : Cx := { X with A := X.A.mark (some (.ref x)), calm := false, xe := fun _ _ => False }
section
variable {X : Cx} {pins : List (Addr × Obj)} {σ : St} {H : Hp} {s : Shared} {x : Addr}
end

section
variable {X : Cx} {k i : Nat} {f C2 : Addr} {fd : FuncData} {ps : List Str} {sp : Sp} {fx cx n : Str} {p p2 pos cpos epos hpos : Pos} {e : Expr} {es : List Expr} {t : TA} {b₀ : Stmt} {suite : List Stmt} {u : TS}
/-- the reading of try f(..) except C as n: suite -/
def tTry (K : PySem.W.Frag) (sp : Sp) (C2 : Addr) (i : Nat) (t : TA) (u : TS) : TS := fun D σ H => t σ H fun vs H1 => sp vs H1 (fun _ H2 => D.nx σ H2) fun cls dd H2 =>
  PySem.W.exmOne K cls (.ref C2) = some true ∧ ∀ x, H2 x = none → u { nx := fun σ' H' => D.nx (σ'.set i none) H', rt := D.rt, bk := fun σ' H' => D.bk (σ'.set i none) H', ct := fun σ' H' => D.ct (σ'.set i none) H' } (σ.set i (some (.ref x))) (upd H2 x (ExcO x cls dd))
end
end L2
/-! isinstance of a caught exception -/
namespace L2
open PySem PySem.Spec PyProof.Rows
/-- an own class of errors, as isinstance reads it -/
structure ECls (K : PySem.W.Frag) (C : Addr) : Prop where
  ga : PySem.W.findIn K (.ref C) "__getattribute__" = some (some (.builtin "BaseException.__getattribute__"))
  gh : PySem.W.findIn K (.ref C) "__getattr__" = some none
  sb : PySem.W.subIn K (.ref C) (.type "BaseException") = some true
  cl : PySem.W.isClsIn K C = true
  fi : PySem.W.findIn K (.ref C) "__class__" = some (some (.builtin "object.__class__"))
  sp : PySem.W.specialIn K (.builtin "object.__class__") "__get__" = some (some (.builtin "getset_descriptor.__get__"))
  tk : PySem.W.takesIn K (.builtin "object.__class__") = some true
  mr : PySem.W.mroIn K C (.type "object") = some true
section
variable {prog : Program} {w : World} {A : Around} {E : Value → Shared → Prop} {s : Shared} {K : PySem.W.Frag} {x C : Addr} {ox : Obj} {od : Option Obj}
end
/-- a caught exception of the class at C -/
def EAt (K : PySem.W.Frag) (H : Hp) (x C : Addr) : Prop := ECls K C ∧ ∃ dd, H x = some (ExcO x (.ref C) dd) ∧ ∀ dx, dd = some dx → ∃ o, H dx = some o
/-- a class as a value -/
inductive ClsV : V → Value → Prop where
  | own (D : Addr) : ClsV (.ref D) (.ref D)
  | ty (T : String) : ClsV (.ty T) (.type T)
section
variable {X : Cx}
end
end L2
/-! enumerate over a tuple -/
namespace L2
open PySem PySem.Spec PyProof.Rows
section
variable {prog : Program} {w : World} {A : Around} {E : Value → Shared → Prop} {s : Shared}
theorem nextT_item {ia tp : Addr} {i : Nat} {us : Array Value} {u : Value} {Q : Value → Shared → Prop} (a1 : s.heap.IsTupleIter ia tp i) (a2 : s.heap.IsTuple tp us) (a3 : us[i]? = some u)
    (k : ∀ h', h'.IsTupleIter ia tp (i + 1) → Heap.SameBut ia s.heap h' → Q u { s with heap := h' }) : wpAny (model prog w) A (Builtin.SmallTypes.nextOf (.ref ia)) Q E s := by
  obtain ⟨o, b1, b2, b3⟩ := id a1
  obtain ⟨ot, c1, _, nt, c2⟩ := a2
  unfold Builtin.SmallTypes.nextOf
  refine wpAny_bind (wpAny_callSpecial?_slot (name := Str.ofString "__next__") a1.typeIs F.slot_tuple_iterator_next (wpAny_call_entry F.slot_tuple_iterator_next a1.typeIs F.entry_tuple_iterator_next ?_ (F.args_tuple_iterator_next_1 _)))
  show wpAny _ _ (field (.ref ia) 0 >>= _) _ _ s
  refine wpAny_bind (wpAny_field b1 b3 (x := .ref tp) rfl ?_)
  show wpAny _ _ (if (Value.ref tp == Value.none) = true then _ else _) _ _ s
  rw [if_neg (show ¬ ((Value.ref tp == Value.none) = true) from Bool.false_ne_true)]
  show wpAny _ _ (field (.ref ia) 1 >>= _) _ _ s
  refine wpAny_bind (wpAny_field b1 b3 (x := .int i 0) rfl ?_)
  show wpAny _ _ (seqItems? (.ref tp) >>= _) _ _ s
  refine wpAny_bind (wpAny_seqItems c1 c2 ?_)
  simp only [Int.toNat_natCast, a3]
  refine wpAny_bind (wpAny_setField b1 b3 (by simp) (wpAny_pure ⟨u, rfl, wpAny_pure (k _ ?_ (Heap.SameBut.update ..))⟩))
  exact ⟨_, Heap.get?_update_self _ b1 (Obj.isFreed_of_fields (Obj.data_mapFields b3 _)), (Obj.cls_mapFields ..).trans b2, by rw [Obj.data_mapFields b3]; simp [rawInt]⟩
theorem nextT_end {ia tp : Addr} {i : Nat} {us : Array Value} {Q : Value → Shared → Prop} (hh : A.handled = none) (a1 : s.heap.IsTupleIter ia tp i) (a2 : s.heap.IsTuple tp us) (a3 : us[i]? = none)
    (k : ∀ h' x, Heap.ExtBut ia s.heap h' → (∃ o, h'.get? x = some o ∧ o.cls = .type "StopIteration") → E (.ref x) { s with heap := h' }) : wpAny (model prog w) A (Builtin.SmallTypes.nextOf (.ref ia)) Q E s := by
  obtain ⟨o, b1, b2, b3⟩ := id a1
  obtain ⟨ot, c1, _, nt, c2⟩ := a2
  unfold Builtin.SmallTypes.nextOf
  refine wpAny_bind (wpAny_callSpecial?_slot (name := Str.ofString "__next__") a1.typeIs F.slot_tuple_iterator_next (wpAny_call_entry F.slot_tuple_iterator_next a1.typeIs F.entry_tuple_iterator_next ?_ (F.args_tuple_iterator_next_1 _)))
  show wpAny _ _ (field (.ref ia) 0 >>= _) _ _ s
  refine wpAny_bind (wpAny_field b1 b3 (x := .ref tp) rfl ?_)
  show wpAny _ _ (if (Value.ref tp == Value.none) = true then _ else _) _ _ s
  rw [if_neg (show ¬ ((Value.ref tp == Value.none) = true) from Bool.false_ne_true)]
  show wpAny _ _ (field (.ref ia) 1 >>= _) _ _ s
  refine wpAny_bind (wpAny_field b1 b3 (x := .int i 0) rfl ?_)
  show wpAny _ _ (seqItems? (.ref tp) >>= _) _ _ s
  refine wpAny_bind (wpAny_seqItems c1 c2 ?_)
  simp only [Int.toNat_natCast, a3]
  refine wpAny_bind (wpAny_rule (wpAny_bind (wpAny_setField b1 b3 (by simp) ?_)))
  show wpAny _ _ (newExc (.type "StopIteration") [] >>= fun _ => _) _ _ _
  refine wpAny_bind ?_
  simp only [newExc, newTuple]
  refine wpAny_bind (wpAny_newObj_type ?_ (by size_fits))
  refine wpAny_bind (m := firstArgMember _ _) (wpAny_of_eq (a := Value.none) (by first | rfl | simp [firstArgMember]) (wpAny_newObj_type ?_ (by size_fits)))
  simp only [raiseNew]
  refine wpAny_bind (wpAny_handled ?_)
  first | rw [show A.in1.handled = none from hh] | (rw [hh]; skip)
  exact wpAny_bind (wpAny_pure (wpAny_throw (k _ _ (((Heap.SameBut.update ..).extBut.push _).push _) ⟨_, Heap.get?_push_size _ rfl, rfl⟩)))
/-- one turn of an enumerate -/
theorem enumT_item {en ia tp : Addr} {i : Nat} {us : Array Value} {u was : Value} {Q : Option Value → Shared → Prop} (e0 : IsEnum s.heap en ia i was) (a1 : s.heap.IsTupleIter ia tp i) (a2 : s.heap.IsTuple tp us) (a3 : us[i]? = some u) (ne : en ≠ ia)
    (k : ∀ h', IsEnumOut h' en ia ((i : Int) + 1) u s.heap.objs.size → h'.IsTupleIter ia tp (i + 1) → h'.get? s.heap.objs.size = some { cls := .type "tuple", data := .seq #[.int i s.toks, u] } →
      (∀ b o, b ≠ en → b ≠ ia → s.heap.get? b = some o → h'.get? b = some o) → Q (some (.ref s.heap.objs.size)) { s with heap := h', toks := s.toks + 1 }) :
    wpAny (model prog w) A (pyNext (.ref en)) Q E s := by
  have ty : s.TypeIs (.ref en) "enumerate" := ⟨_, e0, rfl⟩
  unfold pyNext
  refine wpAny_bind (wpAny_attempt (wpAny_callSpecial?_slot (name := Str.ofString "__next__") ty F.slot_enumerate_next (wpAny_call_entry F.slot_enumerate_next ty F.entry_enumerate_next ?_ (F.args_enumerate_next_1 _))))
  obtain ⟨h0, g, d, tk, os⟩ := s
  show wpAny _ _ (field (.ref en) 2 >>= _) _ _ _
  refine wpAny_bind (wpAny_field e0 rfl (x := .ref ia) rfl (wpAny_bind (nextT_item a1 a2 a3 fun h1 n1 s1 => ?_)))
  replace s1 : Heap.SameBut ia h0 h1 := s1
  have e1 : IsEnum h1 en ia i was := (s1.2 en ne).trans e0
  show wpAny _ _ (field (.ref en) 3 >>= _) _ _ ⟨h1, g, d, tk, os⟩
  refine wpAny_bind (wpAny_field e1 rfl (x := rawInt i) rfl ?_)
  show wpAny _ _ (field (.ref en) 4 >>= _) _ _ ⟨h1, g, d, tk, os⟩
  refine wpAny_bind (wpAny_field e1 rfl (x := .none) rfl ?_)
  show wpAny _ _ (mkInt i >>= _) _ _ ⟨h1, g, d, tk, os⟩
  refine wpAny_bind (wpAny_mkInt ?_)
  show wpAny _ _ (setField (.ref en) 3 (rawInt ((i : Int) + 1)) >>= _) _ _ ⟨h1, g, d, tk + 1, os⟩
  refine wpAny_bind (wpAny_setField_rec e1 (by simp) fun h2 e2 s2 => ?_)
  replace s2 : Heap.SameBut en h1 h2 := s2
  replace e2 : IsEnum h2 en ia ((i : Int) + 1) was := e2
  show wpAny _ _ (setField (.ref en) 4 .none >>= _) _ _ ⟨h2, g, d, tk + 1, os⟩
  refine wpAny_bind (wpAny_setField_rec e2 (by simp) fun h3 e3 s3 => ?_)
  replace s3 : Heap.SameBut en h2 h3 := s3
  replace e3 : IsEnum h3 en ia ((i : Int) + 1) was := e3
  show wpAny _ _ (newTuple [.int i tk, u] >>= _) _ _ ⟨h3, g, d, tk + 1, os⟩
  refine wpAny_bind (wpAny_newTuple ?_)
  have z3 : h3.objs.size = h0.objs.size := by rw [s3.1, s2.1, s1.1]
  have l0 : en < h0.objs.size := Heap.lt_size e0
  have ni : ia ≠ en := Ne.symm ne
  generalize hh4 : h3.push { cls := .type "tuple", data := .seq #[.int i tk, u] } = h4
  have e4 : IsEnum h4 en ia ((i : Int) + 1) was := by rw [← hh4]; exact Heap.get?_push_of_some _ e3
  have t4 : h4.get? h0.objs.size = some { cls := .type "tuple", data := .seq #[.int i tk, u] } := by rw [← hh4, ← z3]; exact Heap.get?_push_size _ rfl
  have k4 : ∀ b o, b ≠ en → b ≠ ia → h0.get? b = some o → h4.get? b = some o := fun b o m1 m2 q => by
    rw [← hh4]
    exact Heap.get?_push_of_some _ (s3.extBut b o m1 (s2.extBut b o m1 (s1.extBut b o m2 q)))
  have n4 : h4.IsTupleIter ia tp (i + 1) := by
    rw [← hh4]
    obtain ⟨o, q, r⟩ := (n1.extBut s2.extBut ni).extBut s3.extBut ni
    exact ⟨o, Heap.get?_push_of_some _ q, r⟩
  show wpAny _ _ (Builtin.SmallTypes.ownedTupleIsFree (.ref en) >>= _) _ _ ⟨h4, g, d, tk + 1, os⟩
  rw [z3]
  clear hh4
  refine wpAny_bind ?_
  unfold Builtin.SmallTypes.ownedTupleIsFree
  refine wpAny_bind (wpAny_field e4 rfl (x := .none) rfl (wpAny_pure ?_))
  simp only [if_true]
  refine wpAny_bind (wpAny_rule (wpAny_bind (wpAny_field e4 rfl (x := was) rfl (wpAny_bind (wpAny_setField_rec e4 (by simp) fun h5 e5 s5 => ?_)))))
  replace s5 : Heap.SameBut en h4 h5 := s5
  replace e5 : IsEnum h5 en ia ((i : Int) + 1) u := e5
  show wpAny _ _ (Builtin.SmallTypes.ownedTupleHandOut (.ref en) (.ref h0.objs.size) >>= _) _ _ ⟨h5, g, d, tk + 1, os⟩
  refine wpAny_bind ?_
  unfold Builtin.SmallTypes.ownedTupleHandOut
  refine wpAny_bind (wpAny_setField_rec e5 (by simp) fun h6 e6 s6 => ?_)
  replace s6 : Heap.SameBut en h5 h6 := s6
  replace e6 : IsEnumOut h6 en ia ((i : Int) + 1) u h0.objs.size := e6
  refine wpAny_setField_rec e6 (by simp) fun h7 e7 s7 => ?_
  replace s7 : Heap.SameBut en h6 h7 := s7
  replace e7 : IsEnumOut h7 en ia ((i : Int) + 1) u h0.objs.size := e7
  have up : ∀ b o, b ≠ en → h4.get? b = some o → h7.get? b = some o := fun b o m q => s7.extBut b o m (s6.extBut b o m (s5.extBut b o m q))
  refine wpAny_bind (wpAny_letGo (wpAny_pure ⟨_, rfl, wpAny_pure (k h7 e7 ?_ (up _ _ (Nat.ne_of_gt l0) t4) fun b o m1 m2 q => up b o m1 (k4 b o m1 m2 q))⟩))
  obtain ⟨o, q, r⟩ := n4
  exact ⟨o, up _ _ ni q, r⟩
theorem enumT_end {en ia tp : Addr} {i : Nat} {us : Array Value} {was : Value} {Q : Option Value → Shared → Prop} (hh : A.handled = none) (e0 : IsEnum s.heap en ia i was) (a1 : s.heap.IsTupleIter ia tp i) (a2 : s.heap.IsTuple tp us) (a3 : us[i]? = none)
    (k : ∀ h', Heap.ExtBut ia s.heap h' → Q none { s with heap := h' }) : wpAny (model prog w) A (pyNext (.ref en)) Q E s := by
  have ty : s.TypeIs (.ref en) "enumerate" := ⟨_, e0, rfl⟩
  unfold pyNext
  refine wpAny_bind (wpAny_attempt (wpAny_callSpecial?_slot (name := Str.ofString "__next__") ty F.slot_enumerate_next (wpAny_call_entry F.slot_enumerate_next ty F.entry_enumerate_next ?_ (F.args_enumerate_next_1 _))))
  show wpAny _ _ (field (.ref en) 2 >>= _) _ _ _
  refine wpAny_bind (wpAny_field e0 rfl (x := .ref ia) rfl (wpAny_bind (nextT_end hh a1 a2 a3 fun h' x q1 q2 => ?_)))
  obtain ⟨o, o1, o2⟩ := q2
  exact wpAny_bind (wpAny_isInstance (T := "StopIteration") (b := true) ⟨o, o1, o2⟩ isSubtype_stop (wpAny_pure (k _ q1)))
end
end L2
/-! for a, b in enumerate(a tuple) -/
namespace L2
open PySem PySem.Spec PyProof.Rows
/-- the pairs (0, x0), (1, x1), .. of the tuple at a -/
def Ite (K : PySem.W.Frag) (a : Addr) : It :=
  ⟨fun i H => ∃ xs x, SqT K H a xs ∧ xs[i]? = some x, fun i H x H' => ∃ p y, x = .ref p ∧ H p = none ∧ H' = upd H p (.tup [.int i, y]) ∧ ∀ xs, SqT K H a xs → xs[i]? = some y, fun i H => ∃ xs, SqT K H a xs ∧ xs.length ≤ i⟩
theorem two_small : 2 ≤ sizeLine := szb rfl
theorem turn_enumT {P : Program} {w : World} {K : PySem.W.Frag} {es : List Expr} {x1 : Nat} {pos : Pos} (a en ia : Addr) (ne : en ≠ ia) :
    Turn P w K (.Tuple es x1 pos) (Ite K a) [en, ia] en (fun i h => (∃ was, IsEnum h en ia (i : Nat) was) ∧ h.IsTupleIter ia a i) where
  mem := by simp
  obj := fun i h st b hb => by
    obtain ⟨⟨was, q1⟩, o, q2, q3, q4⟩ := st
    rcases List.mem_cons.mp hb with z | z
    · subst z
      exact ⟨_, q1, fun v y => by cases y⟩
    · have z' : b = ia := by simpa using z
      subst z'
      exact ⟨o, q2, fun v y => by rw [q4] at y; cases y⟩
  keep := fun i h h' st k => by
    obtain ⟨⟨was, q1⟩, o, q2, q3⟩ := st
    exact ⟨⟨was, k en (by simp) _ q1⟩, o, k ia (by simp) _ q2, q3⟩
  item := by
    intro X hP hw hK hc i pins s σ H E I hf st hg
    subst hP hw hK
    obtain ⟨⟨was, q1⟩, q2⟩ := st
    obtain ⟨xs, x, hq, hx⟩ := hg
    obtain ⟨its, rv, p, hz⟩ := I.tuple hq
    obtain ⟨u, hu, ru⟩ := rv.get hx
    refine enumT_item q1 q2 (show s.heap.IsTuple a its.toArray from p) (u := u) (by simpa using hu) ne fun h1 e1 n1 t1 k1 => ⟨_, rfl, ?_⟩
    refine wpAny_letOwnedTupleGo_enum e1 fun h2 e2 s2 => ?_
    replace s2 : Heap.SameBut en h1 h2 := s2
    have len : en < s.heap.objs.size := Heap.lt_size q1
    have t2 : h2.get? s.heap.objs.size = some { cls := .type "tuple", data := .seq #[.int i s.toks, u] } := (s2.2 _ (Nat.ne_of_gt len)).trans t1
    have kk : ∀ b o, b ≠ en → b ≠ ia → s.heap.get? b = some o → h2.get? b = some o := fun b o m1 m2 q => (s2.2 b m1).trans (k1 b o m1 m2 q)
    have fr : H s.heap.objs.size = none := I.hok.fresh (Nat.le_refl _)
    have f1 := hf en (by simp)
    have f2 := hf ia (by simp)
    have neq : ∀ b, H b ≠ none → b ≠ en ∧ b ≠ ia := fun b m => ⟨fun z => m (z ▸ f1.1), fun z => m (z ▸ f2.1)⟩
    have un : Un (frs X.stack) [en, ia] H (upd H s.heap.objs.size (.tup [.int i, x])) s.heap h2 := by
      have nn : ∀ b, b ∉ [en, ia] → b ≠ en ∧ b ≠ ia := fun b m => ⟨fun z => m (by simp [z]), fun z => m (by simp [z])⟩
      have np : ∀ b o, s.heap.get? b = some o → b ≠ s.heap.objs.size := fun b o q => Nat.ne_of_lt (Heap.lt_size q)
      exact ⟨fun b o q _ _ m => kk b o (nn b m).1 (nn b m).2 q, fun b o q _ _ m => ⟨o.slots, kk b o (nn b m).1 (nn b m).2 q⟩, fun b o q m _ => by rw [upd_ne (np b o q)]; exact m, fun b o q m => ⟨o, kk b o (nn b m).1 (nn b m).2 q⟩,
        fun b ys q => by rw [upd_ne (ne_of_none q fr)]; exact q, fun b o v q => by rw [upd_ne (ne_of_none q fr)]; exact q, fun b ps q => ⟨#[], by rw [upd_ne (ne_of_none q fr), q]; simp⟩⟩
    have hok : HOk X.prog X.w (upd H s.heap.objs.size (.tup [.int i, x])) h2 := fun b ob e => by
      by_cases hb : b = s.heap.objs.size
      · subst hb
        rw [upd_same] at e
        cases e
        exact ⟨two_small, [.int i s.toks, u], .cons ⟨_, rfl⟩ (.cons ru .nil), ⟨_, t2, rfl, _, rfl⟩⟩
      · rw [upd_ne hb] at e
        refine (I.hok b ob e).stay (fun c v z q => ?_) (fun c q => by rw [upd_ne (ne_of_none q fr)]; exact q) fun c ys q => by rw [upd_ne (ne_of_none q fr)]; exact q
        have m : H c ≠ none := by
          rcases z with rfl | z
          · rw [e]; exact fun y => nomatch y
          · rw [z]; exact fun y => nomatch y
        exact kk c v (neq c m).1 (neq c m).2 q
    have J : Inv X pins σ (upd H s.heap.objs.size (.tup [.int i, x])) { s with heap := h2, toks := s.toks + 1 } := by
      refine I.call' (s' := { s with heap := h2, toks := s.toks + 1 }) (ch := [en, ia]) rfl un hok I.bare fun b hb => ?_
      rcases List.mem_cons.mp hb with z | z
      · subst z
        exact ⟨f1.2.2.2.1, f1.2.1, f1.2.2.2.2.1, f1.2.2.2.2.2⟩
      · have z' : b = ia := by simpa using z
        subst z'
        exact ⟨f2.2.2.2.1, f2.2.1, f2.2.2.2.2.1, f2.2.2.2.2.2⟩
    refine ⟨.ref s.heap.objs.size, _, J, rfl, ⟨s.heap.objs.size, x, rfl, fr, rfl, fun ys hy => by rw [I.tuple_inj hy hq]; exact hx⟩, ⟨⟨u, ?_⟩, ?_⟩, fun b hb => ?_⟩
    · have : ((i + 1 : Nat) : Int) = (i : Int) + 1 := by omega
      rw [this]
      exact e2
    · obtain ⟨o, q, r⟩ := n1
      exact ⟨o, (s2.2 ia (Ne.symm ne)).trans q, r⟩
    · have hb' : b = en ∨ b = ia := by simpa using hb
      have lb : b < s.heap.objs.size := by
        rcases hb' with z | z
        · rw [z]; exact len
        · obtain ⟨o, q, _⟩ := q2
          rw [z]; exact Heap.lt_size q
      rw [upd_ne (Nat.ne_of_lt lb)]
      exact (hf b hb).1
  done := by
    intro X hP hw hK hc i pins s σ H E I hf st hg
    subst hP hw hK
    obtain ⟨⟨was, q1⟩, q2⟩ := st
    obtain ⟨xs, hq, hx⟩ := hg
    obtain ⟨its, rv, p, hz⟩ := I.tuple hq
    obtain ⟨f0, f1, f2, f3, f4, f5⟩ := hf ia (by simp)
    have hl := rv.length
    exact enumT_end (I.ok.hd hc) q1 q2 (show s.heap.IsTuple a its.toArray from p) (by simp; omega) fun h' eb => ⟨rfl, I.turned (t' := s.toks) (fun b o hb e => eb b o hb e) f0 f1 f3 f4 f5⟩
  self := fun _ _ _ _ _ st h => by
    obtain ⟨⟨was, q1⟩, _⟩ := st
    exact wpAny_pyIter_enum q1 h

theorem enum_newT (tp : Addr) (us : Array Value) (n : Nat) (dct : Option Addr) (sl : Array (Option Value)) :
    Meets (Builtin.«enumerate.__new__» ⟨[.type "enumerate", .ref tp], []⟩) (fun _ R s => s.heap.get? tp = some { cls := .type "tuple", dict := dct, data := .seq us n, slots := sl } ∧
      R (.ok (.ret (.ref (s.heap.push { cls := .type "tuple_iterator", data := .fields #[.ref tp, .int 0 0] }).objs.size)))
        { s with heap := (s.heap.push { cls := .type "tuple_iterator", data := .fields #[.ref tp, .int 0 0] }).push { cls := .type "enumerate", data := .fields #[.none, .bool false, .ref s.heap.objs.size, rawInt 0, .none, .none] } }) :=
  .of_wp fun prog w A R s z => by
    obtain ⟨hp, g, d, tk, os⟩ := s
    obtain ⟨z1, z2⟩ := z
    have sb := sub_enumerate
    have T : Heap.IsTuple (Shared.heap ⟨hp, g, d, tk, os⟩) tp us := ⟨_, z1, rfl, n, rfl⟩
    wp_walk using AutoSeq1.wpAny_loadPart' z1
    refine wpAny_stack_any fun st => wpAny_pure ?_
    split
    · rename_i c _ _ _ _ _
      cases (c == Value.type "enumerate")
      all_goals
        wp_walk using AutoSeq1.wpAny_loadPart' z1, wpAny_pyIter_tuple T
        exact ⟨_, rfl, z2⟩
    · wp_walk using AutoSeq1.wpAny_loadPart' z1, wpAny_pyIter_tuple T
      exact ⟨_, rfl, z2⟩
section
variable {prog : Program} {w : World} {A : Around} {E : Value → Shared → Prop} {s : Shared}
theorem call_enumT {tp : Addr} {us : Array Value} {Q : Value → Shared → Prop} (T : s.heap.IsTuple tp us)
    (k : ∀ h', IsEnum h' (s.heap.objs.size + 1) s.heap.objs.size 0 .none → h'.IsTupleIter s.heap.objs.size tp 0 → (∀ b o, s.heap.get? b = some o → h'.get? b = some o) → Q (.ref (s.heap.objs.size + 1)) { s with heap := h' }) :
    wpAny (model prog w) A (call (.type "enumerate") [.ref tp]) Q E s := by
  obtain ⟨⟨c, dct, dt, sl⟩, z1, z2, n, z3⟩ := T
  simp only at z2 z3
  subst z2 z3
  refine callType_new F.called_enumerate (by decide) (F.typeCall_enumerate_1 _) (F.newCall_enumerate_1 _) (fun obj => F.args_object_init_2 obj _) F.entry_enumerate_new (enum_newT tp us n dct sl) ⟨z1, ?_⟩
  generalize ho : ({ cls := .type "tuple_iterator", data := .fields #[.ref tp, .int 0 0] } : Obj) = o1
  have y1 : (s.heap.push o1).objs.size = s.heap.objs.size + 1 := Heap.size_push ..
  have y2 : ∀ o2 : Obj, o2.isFreed = false → ((s.heap.push o1).push o2).get? (s.heap.objs.size + 1) = some o2 := fun o2 f => by
    have := Heap.get?_push_size (s.heap.push o1) (o := o2) f
    rwa [y1] at this
  show _ ∧ _
  rw [y1]
  have y3 := y2 { cls := .type "enumerate", data := .fields #[.none, .bool false, .ref s.heap.objs.size, rawInt 0, .none, .none] } rfl
  refine ⟨⟨_, y3, rfl⟩, k _ y3 ⟨o1, Heap.get?_push_of_some _ (Heap.get?_push_size _ (by rw [← ho]; rfl)), by rw [← ho], by rw [← ho]; rfl⟩ fun b o q => Heap.get?_push_of_some _ (Heap.get?_push_of_some _ q)⟩
end
section
variable {X : Cx} {es : List Expr} {x1 : Nat} {tpos : Pos}
def iEnum (K : PySem.W.Frag) (ta : TA) : TI := fun σ H R => ta σ H fun vs H1 => ∃ a, vs = [.ref a] ∧ (∃ xs, SqT K H1 a xs) ∧ R (Ite K a) H1
theorem pi_enum {l : Expr} {ta : TA} {p pos : Pos} (hg : Gl X "enumerate") (hm : X.mg "enumerate" = none) (ha : PA X [l] ta) (hs : starEach [l] X.env = [(false, eval l X.env)] := by rfl) :
    PI X (.Tuple es x1 tpos) (.Call (.Name "enumerate" p) [l] [] pos) (iEnum X.K ta) := by
  intro pins s σ H R I h
  refine Call_ (ld_blt I hg hm boot_enumerate (PyProof.Rows.callWith_type1 (thn (ha pos pins s σ H _ I h) fun us s1 ⟨vs, H1, I1, r1, q1⟩ => ?_) hs rfl))
  obtain ⟨a, e, ⟨xs, hq⟩, q⟩ := q1
  subst e
  cases r1 with
  | cons r rr =>
    cases rr
    cases r
    obtain ⟨its, rv, p, hz⟩ := I1.tuple hq
    refine call_enumT (show s1.heap.IsTuple a its.toArray from p) fun h' e1 e2 k => wpAny_pyIter_enum e1 ?_
    have I2 : Inv X pins σ H1 { s1 with heap := h' } := I1.kept (t' := s1.toks) k
    refine ⟨s1.heap.objs.size + 1, [s1.heap.objs.size + 1, s1.heap.objs.size], _, _, H1, rfl, I2, turn_enumT a _ _ (Nat.succ_ne_self _), ⟨⟨_, e1⟩, e2⟩, fun b hb => ?_, q⟩
    have hb' : s1.heap.objs.size ≤ b := by
      have z : b = s1.heap.objs.size + 1 ∨ b = s1.heap.objs.size := by simpa using hb
      rcases z with z | z
      · rw [z]; exact Nat.le_succ _
      · rw [z]; exact Nat.le_refl _
    exact I1.fpOk hb' (I1.hok.fresh hb')
theorem for_enum {K : PySem.W.Frag} {a : Addr} {xs : List V} {g : TG} {tb : TS} {D : Ends} {σ : St} {H : Hp} (Pv : Nat → St → Hp → Prop) (h0 : Pv 0 σ H) (hl : ∀ i σ H, i ≤ xs.length → Pv i σ H → SqT K H a xs)
    (hs : ∀ i x σ H p, xs[i]? = some x → Pv i σ H → H p = none → g (.ref p) σ (upd H p (.tup [.int i, x])) fun σ2 H2 => tb { D with nx := Pv (i + 1), ct := Pv (i + 1), bk := D.nx } σ2 H2) (hd : ∀ σ H, Pv xs.length σ H → D.nx σ H) :
    ∃ W : Nat → Nat → St → Hp → Prop, (∃ m, W 0 m σ H) ∧ ∀ i m σ H, W i m σ H →
      ((Ite K a).stop i H ∧ D.nx σ H) ∨ ((Ite K a).go i H ∧ ∃ N : St → Hp → Prop, (∀ σ' H', N σ' H' → ∃ m', m' < m ∧ W (i + 1) m' σ' H') ∧ ∀ x H', (Ite K a).yld i H x H' → g x σ H' fun σ2 H2 => tb { D with nx := N, ct := N, bk := D.nx } σ2 H2) := by
  refine ⟨fun i m σ H => m = xs.length - i ∧ i ≤ xs.length ∧ Pv i σ H, ⟨xs.length, by simp, Nat.zero_le _, h0⟩, ?_⟩
  rintro i m σ H ⟨rfl, hi, p⟩
  have q := hl i σ H hi p
  by_cases hlt : i < xs.length
  · refine .inr ⟨⟨xs, xs[i], q, by simp [hlt]⟩, Pv (i + 1), fun σ' H' p' => ⟨xs.length - (i + 1), by omega, rfl, hlt, p'⟩, fun x H' y => ?_⟩
    obtain ⟨pp, yv, rfl, e2, rfl, y⟩ := y
    exact hs i yv σ _ pp (y xs q) p e2
  · have e : i = xs.length := by omega
    subst e
    exact .inl ⟨⟨xs, q, Nat.le_refl _⟩, hd σ H p⟩
end
end L2
/-! defs that raise, as callers know them -/
namespace L2
open PySem PySem.Spec PyProof.Rows
structure CalX (P : Program) (w : World) (K : PySem.W.Frag) (mg : Str → Option Value) (base : Heap) (k : Nat) (x : Str) (ps : List Str) (sp : Sp) : Prop where
  ex : ∃ (f : Addr) (fd : FuncData), FnOk P w K mg base (CX1 P w) k f fd ps sp ∧ Binds K fd ps [] ∧ PySem.W.keepIn K (.ref f) = true ∧ mg x = some (.ref f)
section
variable {P : Program} {w : World} {K : PySem.W.Frag} {mg : Str → Option Value} {base : Heap} {k : Nat} {x : Str} {st : Stmt} {ps : List Str} {sp : Sp}
end
section
variable {X : Cx} {E : XK} {x : Str} {C : Addr} {e : Expr} {es : List Expr} {t : TA} {np cpos pos : Pos}
abbrev bmVE : List Value := [.type "ValueError", .type "Exception", .type "BaseException", .type "object"]
variable {k i : Nat} {C2 : Addr} {ps : List Str} {sp : Sp} {fx cx n : Str} {p p2 epos hpos : Pos} {b₀ : Stmt} {suite : List Stmt} {u : TS}
end
end L2
/-! an own class of errors with an __init__ of its own: made, raised -/
namespace L2
open PySem PySem.Spec PyProof.Rows
/-- the class at C over ValueError's line, its __init__ the def at f -/
def excInI (K : PySem.W.Frag) (C : Addr) (tl : List Value) (nw : String) (f : Addr) : Bool := match K.lookup C with
  | some ⟨.type "type", _, .cls cd, sl⟩ => (match cd.mro, sl.toList with
    | .ref C2 :: bm, [_, _, _, _, some (.builtin n), _] => (C2 == C) && (n == nw) && !cd.hasDel && PySem.W.tailIn K tl bm && PySem.W.nsOkIn K cd.ns && (PySem.W.nsIn K cd.ns "__init__" == some (some (.ref f))) && PySem.W.isFn K (.ref f)
    | _, _ => false)
  | _ => false
section
variable {prog : Program} {w : World} {A : Around} {E : Value → Shared → Prop} {h : Heap} {g : Array GenState} {d : Drawn} {t : Nat} {os : OsState}
variable {nm qn : Str} {C N : Addr} {bs bm tl : List Value} {hdct : Bool} {sn : List Str} {sub : List Value} {ab : Bool} {col : Option Bool} {dd : Option Addr} {k0 k1 k2 k3 k5 : Option Value} {B nw it : String}
end
end L2
/-! raise C(..), C with an __init__ of its own -/
namespace L2
open PySem PySem.Spec PyProof.Rows
/-- an exception that is being made: no note yet -/
def ExcN (x : Addr) (cls : Value) (dd : Option Addr) : HO := .ext fun h => ∃ o vs, h.get? x = some o ∧ o.cls = cls ∧ o.dict = dd ∧ o.data = .fields vs ∧ vs[1]? = some .none ∧ vs.size = 6
def del (H : Hp) (x : Addr) : Hp := fun b => if b = x then none else H b
section
variable {P : Program} {w : World} {fs : List Addr} {H H' : Hp} {h0 h h' : Heap} {x : Addr} {o : HO}
end
section
variable {X : Cx} {E : XK} {x : Str} {C f : Addr} {fd : FuncData} {ps : List Str} {sp : Sp} {k : Nat} {e : Expr} {es : List Expr} {t : TA} {np cpos pos : Pos}
def tRaiseI (C : Addr) (sp : Sp) (E : XK) (t : TA) : TS := fun _ σ H => t σ H fun vs H1 => vs.length ≤ sizeLine ∧ ∀ ex, H1 ex = none →
  sp (.ref ex :: vs) (upd H1 ex (ExcN ex (.ref C) none)) (fun v H2 => v = .non ∧ ∃ dd, H2 ex = some (ExcN ex (.ref C) dd) ∧ E (.ref C) dd (del H2 ex)) E0
end
end L2
/-! Base.__init__(self, ..) within the __init__ of an own class of errors -/
namespace L2
open PySem PySem.Spec PyProof.Rows
section
variable {prog : Program} {w : World} {A : Around} {E : Value → Shared → Prop} {s : Shared} {K : PySem.W.Frag} {L : Addr} {v : Value} {name : Str} {pl : Sem Bool}
end
section
variable {prog : Program} {w : World} {A : Around} {E : Value → Shared → Prop} {h : Heap} {g : Array GenState} {d : Drawn} {t : Nat} {os : OsState}
variable {nm qn : Str} {C N x : Addr} {bs bm tl : List Value} {hdct : Bool} {sn : List Str} {sub : List Value} {ab : Bool} {col : Option Bool} {dd : Option Addr} {k0 k1 k2 k3 k5 : Option Value} {B nw it : String}
end
section
variable {X : Cx} {cx : Str} {C L f : Addr} {e : Expr} {es : List Expr} {t : TA} {p apos pos : Pos} {pl : Sem Bool}
def tInitB (C : Addr) (t : TA) : TE := fun σ H Q => t σ H fun vs H1 => ∃ x dd r, vs = .ref x :: r ∧ r.length ≤ 1000 ∧ H1 x = some (ExcN x (.ref C) dd) ∧ Q .non H1
end
end L2
/-! x.f = v and x.f of an exception -/
namespace L2
open PySem PySem.Spec PyProof.Rows
open PySem.Builtin.ObjectAttr in
/-- a name that the class at C does not have and its things may have -/
structure XFld (K : PySem.W.Frag) (C : Addr) (f : Str) : Prop where
  sa : PySem.W.findIn K (.ref C) "__setattr__" = some (some (.builtin "object.__setattr__"))
  na : PySem.W.findIn K (.ref C) f = some none
  hd : PySem.W.hasDictIn K C = true
section
variable {prog : Program} {w : World} {A : Around} {E : Value → Shared → Prop} {s : Shared} {K : PySem.W.Frag} {x C fI : Addr} {oe : Obj} {vs : Array Value} {name : Str} {v : Value}
end
end L2
/-! self.f = v within the __init__ of an own class of errors; e.f of a caught one -/
namespace L2
open PySem PySem.Spec PyProof.Rows
section
variable {X : Cx} {o e value : Expr} {ta tv : TE} {C fI : Addr} {f : Str} {pos pos' : Pos}
def sFldE (C : Addr) (ta tv : TE) (f : Str) : TS := fun D σ H => tv σ H fun y H1 => ta σ H1 fun xv H2 => ∃ x, xv = .ref x ∧ H2 x = some (ExcN x (.ref C) none) ∧
  ∀ d, H2 d = none → d ≠ x → D.nx σ (upd (upd H2 d (.xd [(f, y)])) x (ExcN x (.ref C) (some d)))
def tFldE (K : PySem.W.Frag) (ta : TE) (f : Str) : TE := fun σ H Q => ta σ H fun xv H1 => ∃ x C dx fs i, xv = .ref x ∧ ECls K C ∧ XFld K C f ∧ H1 x = some (ExcO x (.ref C) (some dx)) ∧ H1 dx = some (.xd fs) ∧ fs.lookup f = some (.int i) ∧ Q (.int i) H1
end
end L2
/-! xs != ys of two lists of three truths -/
namespace L2
open PySem PySem.Spec PyProof.Rows
end L2
/-! my own rules over the layer: a list comprehension with one test -/
namespace L2
open PySem PySem.Spec PyProof.Rows
/-- the reading: as tComp's, and what passes the test alone is kept -/
def tCompIf (wi : TI) (tt : TT) (te : TE) (fr : List Nat) : TE := fun σ H Q => wi σ H fun J H1 => ∀ D, H1 D = none → ∃ W : Nat → Nat → List V → Hp → Prop, (∃ m, W 0 m [] (upd H1 D (.lst []))) ∧
  ∀ i m ys H2, W i m ys H2 → H2 D = some (.lst ys) ∧ ((J.stop i H2 ∧ Q (.ref D) H2) ∨ (J.go i H2 ∧ ys.length < sizeLine ∧ ∃ N : V → Hp → Prop, (∀ y H3, N y H3 → H3 D = some (.lst ys) ∧ ∃ m', m' < m ∧ W (i + 1) m' (ys ++ [y]) (upd H3 D (.lst (ys ++ [y])))) ∧
    ∀ x H', J.yld i H2 x H' → tt (some x :: fr.map fun j => (σ[j]?).getD none) H' fun b H3 => if b = true then te (some x :: fr.map fun j => (σ[j]?).getD none) H3 N else ∃ m', m' < m ∧ W (i + 1) m' ys H3))
section
variable {prog : Program} {w : World} {A : Around} {R : Result → Shared → Prop} {s : Shared}
abbrev nbOf (prog : Program) (w : World) (A : Around) (env : Env) (R : Result → Shared → Prop) : Value → Shared → Prop := notedBy (model prog w) A env fun e s' => R (.error e) s'
theorem compLoop_if {elt target iter cc : Expr} {scope : Scope} {pos : Pos} {it acc : Value} {env : Env} (I : Nat → Shared → Prop)
    (turn : ∀ n s, I n s → wpAny (model prog w) A (pyNext it) (fun r s₁ => match r with
      | none => R (.ok .next) s₁
      | some v => wpAny (model prog w) A (letOwnedTupleGo target it v) (fun _ s₁' => wpAny (model prog w) A (assign target env v) (fun _ s₂ => wpAny (model prog w) A (isTrue cc env (eval cc env)) (fun okb s₂' => if okb = true then
          wpAny (model prog w) A (eval elt env) (fun x s₃ => wpAny (model prog w) A (call (.builtin "list.append") [acc, x]) (fun _ s₄ => ∃ m, m < n ∧ I m s₄) (nbOf prog w A env R) s₃) (nbOf prog w A env R) s₂'
          else ∃ m, m < n ∧ I m s₂') (nbOf prog w A env R) s₂) (nbOf prog w A env R) s₁') (nbOf prog w A env R) s₁) (nbOf prog w A env R) s)
    (n : Nat) (h : I n s) :
    codeAny (model prog w) A (.compLoop (.ListComp elt [⟨target, iter, [cc], 0⟩] scope pos) 0 it acc env) R s := by
  refine codeAny_loop rfl I (fun n s hI => ?_) n h
  show wpAny _ _ ((compTurn (.ListComp elt [⟨target, iter, [cc], 0⟩] scope pos) 0 it acc env).onRaise (fun x => do noteFrame x env; theTreesLotGoes x)) _ _ s
  refine wpAny_noted ?_
  rw [compTurn_list]
  refine wpAny_bind (wpAny_standAt (wpAny_bind (wpAny_mono (turn n s hI) (fun r s₁ h₁ => ?_) fun _ _ h' => h')))
  cases r with
  | none => exact wpAny_pure h₁
  | some v =>
    refine wpAny_bind (wpAny_mono h₁ (fun _ s₁' h₁' => wpAny_bind (wpAny_mono h₁' (fun _ s₂ h₂ => wpAny_bind (wpAny_tests_one (wpAny_mono h₂ (fun okb s₂' h₂' => ?_) fun _ _ h' => h'))) fun _ _ h' => h')) fun _ _ h' => h')
    cases okb with
    | false => exact wpAny_pure ⟨rfl, h₂'⟩
    | true => exact wpAny_bind (wpAny_bind (wpAny_mono h₂' (fun x s₃ h₃ => wpAny_bind (wpAny_mono h₃ (fun _ s₄ h₄ => wpAny_pure (wpAny_pure ⟨rfl, h₄⟩)) fun _ _ h' => h')) fun _ _ h' => h'))
end
theorem comp_coreIf {X : Cx} {elt iter cc : Expr} {x : Str} {px pos : Pos} {scope sc0 : Scope} {cl : List (Str × Addr)} {cn N : List Str} {fr : List Nat} {tt : TT} {te : TE} {pins : List (Addr × Obj)} {σ : St} {H2 : Hp} {s2 : Shared} {it : Addr} {fp : List Addr}
    {tn : Nat → Heap → Prop} {J : It} {RR : Value → Addr → Result → Shared → Prop} {R : Hp → Prop} {E : Value → Shared → Prop} {W : Nat → Nat → List V → Hp → Prop} {m0 : Nat}
    (hc : X.calm = true) (he : ∀ (C : Addr) (s₂ : Shared) (H₂ : Hp) (fp : List Addr), PE (compCx X scope cl C x N s₂ H₂ fp) elt te) (hct : ∀ (C : Addr) (s₂ : Shared) (H₂ : Hp) (fp : List Addr), PT (compCx X scope cl C x N s₂ H₂ fp) cc tt)
    (hcl : CellsIn X.env cl) (hcn : cl.map (·.1) = cn) (hsc : X.env.scope = sc0) (hk : scope.kind = .function) (hok : CompOk scope sc0 x N cn) (hfr : fr.map (fun j => X.N[j]?) = N.map some)
    (I2 : Inv X pins σ H2 s2) (T : Turn X.prog X.w X.K (.Name x px) J fp it tn) (st2 : tn 0 s2.heap) (f2 : ∀ b ∈ fp, FpOk X pins H2 b)
    (w0 : W 0 m0 [] (upd H2 s2.heap.objs.size (.lst [])))
    (turn : ∀ i m ys H, W i m ys H → H s2.heap.objs.size = some (.lst ys) ∧ ((J.stop i H ∧ R H) ∨ (J.go i H ∧ ys.length < sizeLine ∧ ∃ N : V → Hp → Prop,
      (∀ y H3, N y H3 → H3 s2.heap.objs.size = some (.lst ys) ∧ ∃ m', m' < m ∧ W (i + 1) m' (ys ++ [y]) (upd H3 s2.heap.objs.size (.lst (ys ++ [y])))) ∧
      ∀ x H', J.yld i H x H' → tt (some x :: fr.map fun j => (σ[j]?).getD none) H' fun b H3 => if b = true then te (some x :: fr.map fun j => (σ[j]?).getD none) H3 N else ∃ m', m' < m ∧ W (i + 1) m' ys H3)))
    (hRR : ∀ (C : Addr) (H6 : Hp) (s6 : Shared) (m6 : Str → Option Value), s6.heap.Ns C m6 → Inv X pins σ H6 s6 → FpOk X pins H6 C → R H6 → RR (.ref s2.heap.objs.size) C (.ok .next) s6) :
    wpAny (model X.prog X.w) X.A (newList []) (fun acc s₃ => wpAny (model X.prog X.w) X.A (newFunctionEnv scope X.env.globals cl [] X.env.qual none .none (some X.env)) (fun cenv s₄ =>
      codeAny (model X.prog X.w) X.A (.compStart (.ListComp elt [⟨.Name x px, iter, [cc], 0⟩] scope pos) 0 (.ref it) acc { cenv with scope := relabel scope X.env }) (RR acc cenv.locals) s₄) E s₃) E s2 := by
  refine wpAny_newObj_type (wpAny_newFunctionEnv hok.nc (by intro y hy; simp at hy) (fun h4 hns hsb => ?_) hk)
  dsimp only at hns hsb ⊢
  have rel : ∀ y, (compEnvC scope cl 0 X.env).scope.names.lookup y = (relN scope sc0).lookup y := fun y => by
    show (relabel scope X.env).names.lookup y = _
    unfold relabel relN Env.kindOf
    rw [hsc]
  generalize hD : s2.heap.objs.size = D at *
  have I3 : Inv X pins σ (upd H2 D (.lst [])) { s2 with heap := s2.heap.push { cls := .type "list", dict := none, data := .seq ([] : List Value).toArray } } :=
    I2.laid (t' := s2.toks) (fun b u e => Heap.get?_push_of_some _ e) (Nat.le_of_eq hD) ⟨Nat.zero_le _, [], 0, .nil, by rw [← hD]; exact Heap.get?_push_size _ rfl⟩
  have k23 : ∀ b u, s2.heap.get? b = some u → (s2.heap.push { cls := .type "list", dict := none, data := .seq ([] : List Value).toArray }).get? b = some u := fun b u e => Heap.get?_push_of_some _ e
  have hsz : s2.heap.objs.size ≤ (s2.heap.push { cls := .type "list", dict := none, data := .seq ([] : List Value).toArray }).objs.size := by rw [Heap.size_push]; exact Nat.le_succ _
  generalize hh3 : s2.heap.push { cls := .type "list", dict := none, data := .seq ([] : List Value).toArray } = h3 at *
  have k34 : ∀ b u, h3.get? b = some u → h4.get? b = some u := fun b u e => (hsb.2 b (Nat.ne_of_lt (Heap.lt_size e))).trans (Heap.get?_push_of_some _ e)
  generalize hC : h3.objs.size = C at *
  have I4 : Inv X pins σ (upd H2 D (.lst [])) { s2 with heap := h4, toks := s2.toks + ([] : List (Str × Value)).length } := I3.kept (t' := s2.toks + 0) k34
  generalize hH3 : upd H2 D (.lst []) = H3 at *
  have ltC : ∀ b o, s2.heap.get? b = some o → b < C := fun b o e => Nat.lt_of_lt_of_le (Heap.lt_size e) hsz
  have lenF : fr.length = N.length := by simpa using congrArg List.length hfr
  have fpo : ∀ b ∈ fp, b ≠ C ∧ b ∉ frs X.stack := fun b hb => by
    obtain ⟨o, e, _⟩ := T.obj 0 s2.heap st2 b hb
    refine ⟨Nat.ne_of_lt (ltC b o e), fun z => ?_⟩
    obtain ⟨_, n1, n2, _⟩ := f2 b hb
    rcases List.mem_cons.mp (I2.stkSub b z) with q | q
    · exact n1 q
    · exact n2 q
  have H3C : H3 C = none := I3.hok.fresh (Nat.le_of_eq hC)
  have okX : (compCx X scope cl C x N { s2 with heap := h3 } H3 fp).Ok := by
    refine ⟨I2.ok.mod, hk, I2.ok.glob, I2.ok.blt, Nat.le_of_eq hC, fun y z c e1 e2 => I2.ok.inj y z c (hcl.look e1) (hcl.look e2), fun y hy => ?_, fun y c z => (Bool.false_ne_true z).elim, fun z => I2.ok.hd z, I2.ok.frames, .inl rfl,
      fun b hb => ⟨(fpo b hb).1, fun y c e => (f2 b hb).2.2.2.2.1 y c (hcl.look e)⟩, fun b o e => I3.bs b o e, Nat.le_trans I2.ok.bsz I3.sz, fun b o e hb => ?_, fun b hb => (fpo b hb).2, I3.stack, I3.stkFree⟩
    · have hy' : (relN scope sc0).lookup y = some .cell ∨ (relN scope sc0).lookup y = some .free := by
        rcases hy with hy | hy
        · exact .inl ((rel y).symm.trans hy)
        · exact .inr ((rel y).symm.trans hy)
      have hm : y ∈ cn := by
        rcases hy' with q | q
        · exact hok.has (y, .cell) (lookup_mem q) (.inl rfl)
        · exact hok.has (y, .free) (lookup_mem q) (.inr rfl)
      exact look_of_mem (cl := cl) (n := y) (by rw [hcn]; exact hm)
    · rcases (f2 b hb).2.2.2.1 with z | z
      · exact I2.ok.noex b o e z
      · exact absurd (Nat.lt_of_lt_of_le (Heap.lt_size e) (Nat.le_trans I2.ok.bsz z)) (Nat.lt_irrefl _)
  have I5 : Inv (compCx X scope cl C x N { s2 with heap := h3 } H3 fp) [] (none :: fr.map fun j => (σ[j]?).getD none) H3 { s2 with heap := h4, toks := s2.toks + ([] : List (Str × Value)).length } := by
    refine ⟨okX, rfl, I4.bare, Un.kept k34, ⟨_, hns, fun i y v e1 e2 e3 => ?_⟩, fun y c e => I4.cell y c (hcl.look e), H3C, fun y c e => I4.freeC y c (hcl.look e), fun p hp => absurd (show p ∈ ([] : List (Addr × Obj)) from hp) (by simp), I4.hok, by simp [compCx, lenF]⟩
    cases i with
    | zero => cases e2
    | succ j =>
      have e1' : N[j]? = some y := e1
      have e2' : (fr.map fun j => (σ[j]?).getD none)[j]? = some (some v) := e2
      obtain ⟨k, ek⟩ : ∃ k, fr[j]? = some k := by
        have : j < fr.length := by rw [lenF]; exact (List.getElem?_eq_some_iff.mp e1').1
        exact ⟨fr[j], List.getElem?_eq_getElem this⟩
      rw [List.getElem?_map, ek] at e2'
      have e2'' : (σ[k]?).getD none = some v := Option.some.inj e2'
      have eσ : σ[k]? = some (some v) := by
        cases q : σ[k]? with
        | none => rw [q] at e2''; cases e2''
        | some o => rw [q] at e2''; exact congrArg some e2''
      have eN : X.N[k]? = some y := by
        have z := congrArg (fun l => l[j]?) hfr
        simp only [List.getElem?_map, ek, e1', Option.map_some] at z
        exact Option.some.inj z
      obtain ⟨r1, r2, r3⟩ := hok.frs y (List.mem_of_getElem? e1')
      obtain ⟨m, _, hl⟩ := I4.loc
      obtain ⟨u, ru, look⟩ := hl k y v eN eσ (.inr (.inl (by rw [hsc]; exact r2)))
      refine ⟨u, ru, .inr ⟨.inl ((rel y).trans r1), ?_⟩⟩
      rcases look with ⟨l1, _⟩ | ⟨_, c, l1, l2⟩
      · exfalso
        have l1' : X.env.scope.names.lookup y = some .local := l1
        rw [hsc, r2] at l1'
        cases l1'
      · obtain ⟨c', l3⟩ := look_of_mem (cl := cl) (n := y) (by rw [hcn]; exact r3)
        have l4 := hcl.look l3
        rw [l1] at l4
        cases l4
        exact ⟨c, l3, l2⟩
  have st4 : tn 0 h4 := T.keep 0 s2.heap h4 st2 fun b hb o e => k34 b o (k23 b o e)
  have fp5 : ∀ {H' : Hp}, (∀ b ∈ fp, H' b = none) → ∀ b ∈ fp, FpOk (compCx X scope cl C x N { s2 with heap := h3 } H3 fp) [] H' b := fun hn b hb =>
    ⟨hn b hb, (fpo b hb).1, (fpo b hb).2, .inl hb, fun y c e => (f2 b hb).2.2.2.2.1 y c (hcl.look e), fun p hp => absurd (show p ∈ ([] : List (Addr × Obj)) from hp) (by simp)⟩
  have fr3 : ∀ b ∈ fp, H3 b = none := fun b hb => by
    obtain ⟨o, e, _⟩ := T.obj 0 s2.heap st2 b hb
    have : b ≠ D := Nat.ne_of_lt (hD ▸ Heap.lt_size e)
    rw [← hH3, upd_ne this]
    exact (f2 b hb).1
  have hx' : Loc (compCx X scope cl C x N { s2 with heap := h3 } H3 fp).env.scope x := .inl ((rel x).trans hok.hx')
  have fin : ∀ (H6 : Hp) (s6 : Shared) (σ6 : St), Inv (compCx X scope cl C x N { s2 with heap := h3 } H3 fp) [] σ6 H6 s6 → Inv X pins σ H6 s6 ∧ FpOk X pins H6 C := by
    intro H6 s6 σ6 I6
    refine ⟨I3.call' (s' := s6) (ch := fp) I6.os ⟨I6.base.keep, I6.base.slot, I6.base.free, I6.base.there, I6.base.tups, I6.base.frzs, I6.base.tbls⟩ I6.hok I6.bare (fun b hb => ?_), I3.fpOk (Nat.le_of_eq hC) I6.free⟩
    obtain ⟨_, n1, _, n3, n4, n5⟩ := f2 b hb
    exact ⟨n3, n1, n4, n5⟩
  have loop : codeAny (model X.prog X.w) X.A (.compLoop (.ListComp elt [⟨.Name x px, iter, [cc], 0⟩] scope pos) 0 (.ref it) (.ref D) (compEnvC scope cl C X.env))
      (RR (.ref D) C) { s2 with heap := h4, toks := s2.toks + ([] : List (Str × Value)).length } := by
    refine compLoop_if (fun n s' => ∃ i v0 ys H', Inv (compCx X scope cl C x N { s2 with heap := h3 } H3 fp) [] (v0 :: fr.map fun j => (σ[j]?).getD none) H' s' ∧ tn i s'.heap ∧ (∀ b ∈ fp, H' b = none) ∧ W i n ys H') ?_ m0
      ⟨0, none, [], H3, I5, st4, fr3, w0⟩
    rintro n s6 ⟨i, v0, ys, H6, I6, st6, fr6, w6⟩
    obtain ⟨hDl, hw⟩ := turn i n ys H6 w6
    rcases hw with ⟨stop, qn⟩ | ⟨go, hlen, N', hN', step⟩
    · refine thn (T.done (compCx X scope cl C x N { s2 with heap := h3 } H3 fp) rfl rfl rfl hc i [] s6 _ H6 _ I6 (fp5 fr6) st6 stop) fun r s7 ⟨hr, I7⟩ => ?_
      subst hr
      obtain ⟨m7, hn7, _⟩ := I7.loc
      obtain ⟨J7, F7⟩ := fin H6 s7 _ I7
      exact hRR C H6 s7 m7 hn7 J7 F7 qn
    · refine thn (T.item (compCx X scope cl C x N { s2 with heap := h3 } H3 fp) rfl rfl rfl hc i [] s6 _ H6 _ I6 (fp5 fr6) st6 go) fun r s7 ⟨u, hr, h7⟩ => ?_
      subst hr
      refine thn h7 fun _ s8 ⟨x8, H8, I8, r8, y8, st8, fr8⟩ => ?_
      have I8' := I8.pinned (fp5 fr8) (T.obj _ _ st8)
      refine wpAny_assign_Name (store_ok (i := 0) I8' hok.nd rfl hx' r8 (fun s9 I9 => ?_) (.inr ((rel x).trans hok.hx')))
      have I9' : Inv (compCx X scope cl C x N { s2 with heap := h3 } H3 fp) ([] ++ pinsAt fp s8.heap) (some x8 :: fr.map fun j => (σ[j]?).getD none) H8 s9 := I9
      refine wpAny_mono (hct C { s2 with heap := h3 } H3 fp _ s9 _ H8 _ I9' (step x8 H8 y8)) (fun okb s9b h9b => ?_) fun _ _ z => False.elim z
      obtain ⟨H9, I9b, n9⟩ := h9b
      cases okb with
      | false =>
        rw [if_neg Bool.false_ne_true] at n9 ⊢
        obtain ⟨m', hm, w9⟩ := n9
        refine ⟨m', hm, i + 1, some x8, ys, _, I9b.unpinned, T.keep _ _ _ st8 fun b hb o e => (I9b.pin (b, o) (List.mem_append_right _ (List.mem_append_right _ (mem_pinsAt hb e)))).1, fun b hb => ?_, w9⟩
        obtain ⟨o, e, d⟩ := T.obj _ _ st8 b hb
        exact (I9b.pin (b, o) (List.mem_append_right _ (List.mem_append_right _ (mem_pinsAt hb e)))).2.1
      | true =>
        rw [if_pos rfl] at n9 ⊢
        refine wpAny_mono (he C { s2 with heap := h3 } H3 fp _ s9b _ H9 _ I9b n9) (fun y s10 h10 => ?_) fun _ _ z => False.elim z
        obtain ⟨y10, H10, I10, r10, n10⟩ := h10
        obtain ⟨hD10, m', hm, w10⟩ := hN' y10 H10 n10
        refine wpAny_mono (mt_append (X := compCx X scope cl C x N { s2 with heap := h3 } H3 fp) _ s10 _ H10 (.ref D) [y10] (.ref D) [y] (fun _ H' => H' = upd H10 D (.lst (ys ++ [y10]))) I10 rfl (.cons r10 .nil) ⟨D, ys, y10, rfl, rfl, hD10, hlen, rfl⟩) (fun _ s11 h11 => ?_) fun _ _ z => False.elim z
        obtain ⟨_, H11, I11, _, e11⟩ := h11
        subst e11
        refine ⟨m', hm, i + 1, some x8, ys ++ [y10], _, I11.unpinned, T.keep _ _ _ st8 fun b hb o e => (I11.pin (b, o) (List.mem_append_right _ (List.mem_append_right _ (mem_pinsAt hb e)))).1, fun b hb => ?_, w10⟩
        obtain ⟨o, e, d⟩ := T.obj _ _ st8 b hb
        exact (I11.pin (b, o) (List.mem_append_right _ (List.mem_append_right _ (mem_pinsAt hb e)))).2.1
  exact codeAny_compStart_list loop (T.self _ 0 _ _ _ st4 loop)

theorem pe_compIf {X : Cx} {elt iter cc : Expr} {x : Str} {px pos : Pos} {scope sc0 : Scope} {cl : List (Str × Addr)} {cn N : List Str} {fr : List Nat} {wi : TI} {tt : TT} {te : TE}
    (hc : X.calm = true) (hi : PI X (.Name x px) iter wi) (he : ∀ (C : Addr) (s₂ : Shared) (H₂ : Hp) (fp : List Addr), PE (compCx X scope cl C x N s₂ H₂ fp) elt te) (hct : ∀ (C : Addr) (s₂ : Shared) (H₂ : Hp) (fp : List Addr), PT (compCx X scope cl C x N s₂ H₂ fp) cc tt)
    (hclos : closureFor scope X.env = pure cl) (hcl : CellsIn X.env cl) (hcn : cl.map (·.1) = cn) (hsc : X.env.scope = sc0) (hk : scope.kind = .function) (hok : CompOk scope sc0 x N cn)
    (hfr : fr.map (fun j => X.N[j]?) = N.map some) (hs : ∀ v, foldedSetIterable iter X.env v = pure v := by intro _; rfl) :
    PE X (.ListComp elt [⟨.Name x px, iter, [cc], 0⟩] scope pos) (tCompIf wi tt te fr) := by
  intro pins s σ H Q I h
  rw [eval_ListComp]
  refine wpAny_comprehension_free (use := none) rfl hs hclos hk hok.names (thn (hi pins s σ H _ I h) fun v s1 h1 => thn h1 fun itv s2 h2 => ?_)
  obtain ⟨it, fp, tn, J, H2, e, I2, T, st2, f2, hq⟩ := h2
  subst e
  obtain ⟨W, ⟨m0, w0⟩, turn⟩ := hq s2.heap.objs.size (I2.hok.fresh (Nat.le_refl _))
  exact comp_coreIf (RR := fun acc C => compPost (model X.prog X.w) X.A X.xe none (EP X pins σ Q) acc C) (R := fun H6 => Q (.ref s2.heap.objs.size) H6) hc he hct hcl hcn hsc hk hok hfr I2 T st2 f2 w0 turn
    fun C H6 s6 m6 hn I6 F6 q => ⟨m6, hn, fun h' sb => ⟨.ref s2.heap.objs.size, H6, I6.let_go F6 sb, rfl, q⟩⟩
/-- y = [.. for x in ..], straight to a local name -/
def tSetCompIf (i : Nat) (wi : TI) (tt : TT) (te : TE) (fr : List Nat) : TS := fun D σ H => tCompIf wi tt te fr σ H fun v H1 => D.nx (σ.set i (some v)) H1
/-- gone through a list of ints, those kept that pass, each told by g -/
theorem compIf_list {K : PySem.W.Frag} {a : Addr} {xs : List V} {p : V → Bool} {g : V → V} {Tt : V → Hp → (Bool → Hp → Prop) → Prop} {Te : V → Hp → (V → Hp → Prop) → Prop} {D : Addr} {H1 : Hp} {R : Hp → Prop}
    (ha : SqL K H1 a xs) (hD : H1 D = none) (hn : xs.length ≤ sizeLine) (hT : ∀ x ∈ xs, ∀ (H : Hp) (Q : Bool → Hp → Prop), Same H1 H → Q (p x) H → Tt x H Q) (hE : ∀ x ∈ xs, p x = true → ∀ (H : Hp) (Q : V → Hp → Prop), Same H1 H → Q (g x) H → Te x H Q)
    (hR : R (upd H1 D (.lst ((xs.filter p).map g)))) :
    ∃ W : Nat → Nat → List V → Hp → Prop, (∃ m, W 0 m [] (upd H1 D (.lst []))) ∧
      ∀ i m ys H2, W i m ys H2 → H2 D = some (.lst ys) ∧ (((Itl K a).stop i H2 ∧ R H2) ∨ ((Itl K a).go i H2 ∧ ys.length < sizeLine ∧ ∃ N : V → Hp → Prop, (∀ y H3, N y H3 → H3 D = some (.lst ys) ∧ ∃ m', m' < m ∧ W (i + 1) m' (ys ++ [y]) (upd H3 D (.lst (ys ++ [y])))) ∧
        ∀ x H', (Itl K a).yld i H2 x H' → Tt x H' fun b H3 => if b = true then Te x H3 N else ∃ m', m' < m ∧ W (i + 1) m' ys H3)) := by
  refine ⟨fun i m ys H => m = xs.length - i ∧ i ≤ xs.length ∧ ys = ((xs.take i).filter p).map g ∧ H = upd H1 D (.lst ys), ⟨xs.length, by simp, Nat.zero_le _, by simp, rfl⟩, ?_⟩
  rintro i m ys H2 ⟨rfl, hi, hy, rfl⟩
  have sm : Same H1 (upd H1 D (.lst ys)) := same_new hD _
  have q := sm.seq ha
  have hyl : ys.length ≤ i := by
    rw [hy, List.length_map]
    exact Nat.le_trans (List.length_filter_le _ _) (by rw [List.length_take]; exact Nat.min_le_left _ _)
  refine ⟨upd_same, ?_⟩
  by_cases hlt : i < xs.length
  · refine .inr ⟨⟨xs, xs[i], q, by simp [hlt]⟩, by omega, fun y H3 => H3 = upd H1 D (.lst ys) ∧ y = g xs[i] ∧ p xs[i] = true, fun y H3 ⟨z1, z2, z3⟩ => ⟨by rw [z1]; exact upd_same, xs.length - (i + 1), by omega, rfl, hlt, ?eq, by rw [z1, upd_upd]⟩, fun x H' y => ?st⟩
    case eq =>
      rw [List.take_succ_eq_append_getElem hlt, List.filter_append, List.map_append, ← hy, z2]
      simp [z3]
    case st =>
      obtain ⟨e, y⟩ := y
      subst e
      have hx : xs[i]? = some x := y xs q
      have hx' : xs[i] = x := by simpa [hlt] using hx
      have hm : x ∈ xs := by rw [← hx']; exact List.getElem_mem hlt
      refine hT x hm _ _ sm ?_
      by_cases hp : p x = true
      · rw [if_pos hp]
        exact hE x hm hp _ _ sm ⟨rfl, by rw [hx'], by rw [hx']; exact hp⟩
      · rw [if_neg hp]
        refine ⟨xs.length - (i + 1), by omega, rfl, hlt, ?_, rfl⟩
        rw [List.take_succ_eq_append_getElem hlt, List.filter_append, List.map_append, ← hy, hx']
        simp [hp]
  · have e : i = xs.length := by omega
    subst e
    refine .inl ⟨⟨xs, q, Nat.le_refl _⟩, ?_⟩
    rw [hy, List.take_length]
    exact hR
end L2
/-! my own rules over the layer: a def that calls itself; gone through by a map; sorted ints; xs[::-1]; trees of tuples -/
namespace L2
open PySem PySem.Spec PyProof.Rows
section
variable {P : Program} {w : World} {K : PySem.W.Frag} {mg : Str → Option Value} {base : Heap}
/-- what the call below promises: nothing at 0 -/
def prevSp (sp : Nat → Sp) : Nat → Sp
  | 0 => fun _ _ _ _ => False
  | e + 1 => sp e
/-- a def that calls itself, by a measure -/
theorem Def.recur {sp : Nat → Sp} {x : Str} {st : Stmt} {ps : List Str} (d : Def K mg x st ps) {k : Nat} (n : Nat)
    (step : ∀ e, e ≤ n → Cal P w K mg base (e + k) x ps (prevSp sp e) → ∀ (f : Addr) (fd : FuncData), Fun K x x st f fd → FnOk P w K mg base CX0 (e + (k + 1)) f fd ps (sp e)) :
    Cal P w K mg base (n + (k + 1)) x ps (fun vs H Q E => ∃ e, e ≤ n ∧ sp e vs H Q E) := by
  obtain ⟨f, fd, h1, h2, h3⟩ := d.ex
  have all : ∀ e, e ≤ n → FnOk P w K mg base CX0 (e + (k + 1)) f fd ps (sp e) := by
    intro e
    induction e with
    | zero => exact fun he => step 0 he ⟨f, fd, ⟨fun _ _ _ _ h => h.elim, fun _ _ _ _ _ _ _ _ _ _ _ _ _ h => h.elim⟩, .all h2, h1.kp, h3⟩ f fd h1
    | succ e ih => exact fun he => step (e + 1) he ⟨f, fd, (ih (by omega)).mono (by omega), .all h2, h1.kp, h3⟩ f fd h1
  refine ⟨f, fd, ⟨?_, ?_⟩, .all h2, h1.kp, h3⟩
  · rintro vs H Q E ⟨e, he, h⟩
    exact (all e he).len vs H Q E h
  · rintro A outer s H args us vs Q E hr he hb hv ⟨e, hle, h⟩
    exact (all e hle).run A outer s H args us vs Q E (hr.mono (by omega)) he hb hv h
end
/-- gone through a list, each told by g -/
theorem comp_listM {K : PySem.W.Frag} {a : Addr} {xs : List V} {g : V → V} {Te : V → Hp → (V → Hp → Prop) → Prop} {D : Addr} {H1 : Hp} {R : Hp → Prop}
    (ha : SqL K H1 a xs) (hD : H1 D = none) (hn : xs.length ≤ sizeLine) (hE : ∀ x ∈ xs, ∀ (H : Hp) (Q : V → Hp → Prop), Same H1 H → Q (g x) H → Te x H Q) (hR : R (upd H1 D (.lst (xs.map g)))) :
    ∃ W : Nat → Nat → List V → Hp → Prop, (∃ m, W 0 m [] (upd H1 D (.lst []))) ∧
      ∀ i m ys H2, W i m ys H2 → H2 D = some (.lst ys) ∧ (((Itl K a).stop i H2 ∧ R H2) ∨ ((Itl K a).go i H2 ∧ ys.length < sizeLine ∧ ∃ N : V → Hp → Prop, (∀ y H3, N y H3 → H3 D = some (.lst ys) ∧ ∃ m', m' < m ∧ W (i + 1) m' (ys ++ [y]) (upd H3 D (.lst (ys ++ [y])))) ∧
        ∀ x H', (Itl K a).yld i H2 x H' → Te x H' N)) := by
  refine ⟨fun i m ys H => m = xs.length - i ∧ i ≤ xs.length ∧ ys = (xs.take i).map g ∧ H = upd H1 D (.lst ys), ⟨xs.length, by simp, Nat.zero_le _, by simp, rfl⟩, ?_⟩
  rintro i m ys H2 ⟨rfl, hi, hy, rfl⟩
  have sm : Same H1 (upd H1 D (.lst ys)) := same_new hD _
  have q := sm.seq ha
  have hyl : ys.length ≤ i := by
    rw [hy, List.length_map, List.length_take]; exact Nat.min_le_left _ _
  refine ⟨upd_same, ?_⟩
  by_cases hlt : i < xs.length
  · refine .inr ⟨⟨xs, xs[i], q, by simp [hlt]⟩, by omega, fun y H3 => H3 = upd H1 D (.lst ys) ∧ y = g xs[i], fun y H3 ⟨z1, z2⟩ => ⟨by rw [z1]; exact upd_same, xs.length - (i + 1), by omega, rfl, hlt, ?eq, by rw [z1, upd_upd]⟩, fun x H' y => ?st⟩
    case eq =>
      rw [List.take_succ_eq_append_getElem hlt, List.map_append, ← hy, z2]
      rfl
    case st =>
      obtain ⟨e, y⟩ := y
      subst e
      have hx : xs[i]? = some x := y xs q
      have hx' : xs[i] = x := by simpa [hlt] using hx
      have hm : x ∈ xs := by rw [← hx']; exact List.getElem_mem hlt
      exact hE x hm _ _ sm ⟨rfl, by rw [hx']⟩
  · have e : i = xs.length := by omega
    subst e
    refine .inl ⟨⟨xs, q, Nat.le_refl _⟩, ?_⟩
    rw [hy, List.take_length]
    exact hR
section
variable {X : Cx}
/-- xs[::-1] of a list -/
def tRev (K : PySem.W.Frag) (te : TE) : TE := fun σ H Q => te σ H fun x H1 => ∃ a xs, x = .ref a ∧ SqL K H1 a xs ∧ ∀ p, H1 p = none → Q (.ref p) (upd H1 p (.lst xs.reverse))
theorem pe_rev {e : Expr} {te : TE} {p1 p2 p3 pos : Pos} {k : Nat} (he : PE X e te) : PE X (.Subscript e (.Slice none none (some (.UnaryOp .USub (.Constant (.int 1) k p1) p3)) p2) pos) (tRev X.K te) := by
  intro pins s σ H Q I h
  refine Subscript_ (thn (he pins s σ H _ I h) fun v s1 ⟨x, H1, I1, r1, q1⟩ => ?_)
  obtain ⟨a, xs, rfl, hx, q⟩ := q1
  cases r1
  have hst : PO X (some (.UnaryOp .USub (.Constant (.int 1) k p1) p3)) (tPart (tUn (rU fun i => .int (-i)) fun _ H Q => Q (.int 1) H)) := po_some (pe_un un_neg pe_int)
  refine wpAny_Slice (thn (po_none (X := X) pins s1 σ H1 (fun o H' => o = none ∧ H' = H1) I1 ⟨rfl, rfl⟩) fun vl s2 ⟨l, H2, I2, pl, el, e2⟩ => thn (po_none (X := X) pins s2 σ H2 (fun o H' => o = none ∧ H' = H1) I2 ⟨rfl, e2⟩) fun vu s3 ⟨u, H3, I3, pu, eu, e3⟩ =>
    thn (hst pins s3 σ H3 (fun o H' => o = some (-1) ∧ H' = H1) I3 ⟨_, rfl, ⟨_, rfl, rfl, e3⟩⟩) fun vk s4 ⟨kk, H4, I4, pk, ek, e4⟩ => ?_)
  subst el eu ek e4
  have I5 : Inv X pins σ H4 { s4 with heap := s4.heap.push { cls := .type "slice", data := .fields #[vl, vu, vk] } } := I4.kept (t' := s4.toks) fun b ob q => Heap.get?_push_of_some _ q
  obtain ⟨its, r, ht, hz⟩ := I5.list hx
  have hlen := r.length
  show wpAny (model X.prog X.w) X.A (subscriptTail e _ (.ref a) (.ref s4.heap.objs.size)) (EP X pins σ Q) X.xe { s4 with heap := s4.heap.push { cls := .type "slice", data := .fields #[vl, vu, vk] } }
  refine tail_any (ops := [.ref a, .ref s4.heap.objs.size]) ht.isList.typeIs slot_list_getitem.lookup ?_ (by with_unfolding_all rfl)
  refine wpAny_getItem_list_slice ht.isList (Heap.IsSliceOf.new ..) pl pu pk (by simp) ?_ (by rw [List.size_toArray] <;> omega)
  rw [PySem.W.krv_pick]
  refine ⟨.ref _, _, I5.laid (t' := s4.toks) (o := .lst xs.reverse) (fun b ob q => Heap.get?_push_of_some _ q) (Nat.le_refl _) ?_, rfl, q _ (I5.hok.fresh (Nat.le_refl _))⟩
  exact ⟨by rw [List.length_reverse]; exact hz, _, 0, r.reverse, Heap.get?_push_size _ rfl⟩
end

section
variable {X : Cx} {K : PySem.W.Frag}
end
/-! ### trees -/
inductive Tr where
  | non
  | many (n : Int)
  | part (ms : List Int) (l r : Tr)
def Tr.deep : Tr → Nat
  | .non => 0
  | .many _ => 0
  | .part _ l r => max l.deep r.deep + 1
/-- a value that is this tree -/
def TreeAt (H : Hp) : V → Tr → Prop
  | v, .non => v = .non
  | v, .many n => ∃ a, v = .ref a ∧ H a = some (.tup [.str "many", .int n])
  | v, .part ms l r => ∃ a m x y, v = .ref a ∧ H a = some (.tup [.str "part", .ref m, x, y]) ∧ TupF H m (ms.map V.int) ∧ TreeAt H x l ∧ TreeAt H y r
/-- what tuples there are stays -/
def TKeep (H H' : Hp) : Prop := ∀ b xs, (H b = some (.tup xs) → H' b = some (.tup xs)) ∧ ∀ o, H b = some (.frz o (.tup xs)) → H' b = some (.frz o (.tup xs))
theorem TKeep.same {H H' : Hp} (s : Same H H') : TKeep H H' := fun _ _ => ⟨s _ _, fun _ => s _ _⟩
theorem TKeep.keep {H H' : Hp} {p : Addr} {ys : List V} (s : Keep p H H') (e : H p = some (.lst ys)) : TKeep H H' := fun _ _ => ⟨fun h => s _ _ (ne_of h e (by intro z; cases z)) h, fun _ h => s _ _ (ne_of h e (by intro z; cases z)) h⟩
theorem TKeep.set {H : Hp} {p : Addr} {ys zs : List V} (e : H p = some (.lst ys)) : TKeep H (upd H p (.lst zs)) := .keep (Keep.set p H _) e
theorem TupF.tk {H H' : Hp} {a : Addr} {xs : List V} (h : TupF H a xs) (s : TKeep H H') : TupF H' a xs := by
  obtain ⟨o, h, c⟩ := h
  exact ⟨o, (s _ _).2 o h, c⟩
theorem TreeAt.tk {H H' : Hp} (s : TKeep H H') : ∀ {t : Tr} {v : V}, TreeAt H v t → TreeAt H' v t
  | .non, _, h => h
  | .many _, _, ⟨a, e, h⟩ => ⟨a, e, (s _ _).1 h⟩
  | .part _ _ _, _, ⟨a, m, x, y, e, h, hm, hl, hr⟩ => ⟨a, m, x, y, e, (s _ _).1 h, hm.tk s, TreeAt.tk s hl, TreeAt.tk s hr⟩
theorem TreeAt.same {H H' : Hp} (s : Same H H') {t : Tr} {v : V} (h : TreeAt H v t) : TreeAt H' v t := h.tk (.same s)
section
variable {X : Cx}
end
end L2
/-! my own rules over the layer: gone through a list or a tuple of ints; heaps kept -/
namespace L2
open PySem PySem.Spec PyProof.Rows
def onI {α : Type} (f : Int → α) (d : α) : V → α
  | .int n => f n
  | _ => d
theorem filt_onI {p : Int → Bool} {g : Int → V} (ns : List Int) : (((ns.map V.int).filter (onI p false)).map (onI g .non)) = (ns.filter p).map g := by
  induction ns with
  | nil => rfl
  | cons n ns ih =>
    rw [List.map_cons, List.filter_cons, List.filter_cons]
    have e : onI p false (.int n) = p n := rfl
    rw [e]
    by_cases h : p n = true
    · rw [if_pos h, if_pos h, List.map_cons, List.map_cons, ih]; rfl
    · rw [if_neg h, if_neg h]; exact ih
section
variable {K : PySem.W.Frag} {a : Addr} {ns : List Int} {p : Int → Bool} {g : Int → V} {Tt : V → Hp → (Bool → Hp → Prop) → Prop} {Te : V → Hp → (V → Hp → Prop) → Prop} {D : Addr} {H1 : Hp} {R : Hp → Prop}
theorem compIf_ints (ha : SqL K H1 a (ns.map V.int)) (hD : H1 D = none) (hn : ns.length ≤ sizeLine) (hT : ∀ n ∈ ns, ∀ (H : Hp) (Q : Bool → Hp → Prop), Same H1 H → Q (p n) H → Tt (.int n) H Q)
    (hE : ∀ n ∈ ns, p n = true → ∀ (H : Hp) (Q : V → Hp → Prop), Same H1 H → Q (g n) H → Te (.int n) H Q) (hR : R (upd H1 D (.lst ((ns.filter p).map g)))) :
    ∃ W : Nat → Nat → List V → Hp → Prop, (∃ m, W 0 m [] (upd H1 D (.lst []))) ∧
      ∀ i m ys H2, W i m ys H2 → H2 D = some (.lst ys) ∧ (((Itl K a).stop i H2 ∧ R H2) ∨ ((Itl K a).go i H2 ∧ ys.length < sizeLine ∧ ∃ N : V → Hp → Prop, (∀ y H3, N y H3 → H3 D = some (.lst ys) ∧ ∃ m', m' < m ∧ W (i + 1) m' (ys ++ [y]) (upd H3 D (.lst (ys ++ [y])))) ∧
        ∀ x H', (Itl K a).yld i H2 x H' → Tt x H' fun b H3 => if b = true then Te x H3 N else ∃ m', m' < m ∧ W (i + 1) m' ys H3)) := by
  refine compIf_list (p := onI p false) (g := onI g .non) ha hD (by rw [List.length_map]; exact hn) (fun x hx H Q s q => ?_) (fun x hx hp H Q s q => ?_) (by rw [filt_onI]; exact hR)
  · obtain ⟨n, hm, rfl⟩ := List.mem_map.mp hx
    exact hT n hm H Q s q
  · obtain ⟨n, hm, rfl⟩ := List.mem_map.mp hx
    exact hE n hm hp H Q s q
theorem comp_ints (ha : SqL K H1 a (ns.map V.int)) (hD : H1 D = none) (hn : ns.length ≤ sizeLine) (hE : ∀ n ∈ ns, ∀ (H : Hp) (Q : V → Hp → Prop), Same H1 H → Q (g n) H → Te (.int n) H Q) (hR : R (upd H1 D (.lst (ns.map g)))) :
    ∃ W : Nat → Nat → List V → Hp → Prop, (∃ m, W 0 m [] (upd H1 D (.lst []))) ∧
      ∀ i m ys H2, W i m ys H2 → H2 D = some (.lst ys) ∧ (((Itl K a).stop i H2 ∧ R H2) ∨ ((Itl K a).go i H2 ∧ ys.length < sizeLine ∧ ∃ N : V → Hp → Prop, (∀ y H3, N y H3 → H3 D = some (.lst ys) ∧ ∃ m', m' < m ∧ W (i + 1) m' (ys ++ [y]) (upd H3 D (.lst (ys ++ [y])))) ∧
        ∀ x H', (Itl K a).yld i H2 x H' → Te x H' N)) := by
  refine comp_listM (g := onI g .non) ha hD (by rw [List.length_map]; exact hn) (fun x hx H Q s q => ?_) (by rw [List.map_map]; exact hR)
  obtain ⟨n, hm, rfl⟩ := List.mem_map.mp hx
  exact hE n hm H Q s q
end
theorem Keep.free {p l : Addr} {H H' : Hp} {o : HO} (k : Keep p H H') (hl : H' l = none) (hp : H' p = some o) : H l = none := by
  cases e : H l with
  | none => rfl
  | some u =>
    have n : l ≠ p := fun z => by rw [z, hp] at hl; cases hl
    rw [k l u n e] at hl
    cases hl
/-- a list of ours that was not there before is written: all else is kept -/
theorem Keep.own {p r : Addr} {H H' : Hp} {o : HO} (k : Keep p H H') (hr : H r = none) : Keep p H (upd H' r o) := fun c u hc z => by
  rw [upd_ne (ne_of_none z hr)]
  exact k c u hc z
theorem p2pos (L : Nat) : (0 : Int) < 2 ^ L := by
  induction L with
  | zero => decide
  | succ L ih => rw [Int.pow_succ]; omega
theorem p2le {L : Nat} (h : L ≤ 40) : (2 : Int) ^ L ≤ 1099511627776 := by
  have e : (2 : Int) ^ L = ((2 ^ L : Nat) : Int) := by simp
  have : 2 ^ L ≤ 2 ^ 40 := Nat.pow_le_pow_right (by decide) h
  rw [e]
  have e2 : (2 : Nat) ^ 40 = 1099511627776 := by decide
  omega
theorem p2half (e : Nat) : (2 : Int) ^ (e + 1) / 2 = 2 ^ e := by rw [Int.pow_succ]; omega
theorem p2succ (e : Nat) : (2 : Int) ^ (e + 1) = 2 ^ e + 2 ^ e := by rw [Int.pow_succ]; omega
theorem p2one {e : Nat} (h : (2 : Int) ^ e = 1) : e = 0 := by
  cases e with
  | zero => rfl
  | succ e => have := p2pos e; rw [p2succ] at h; omega
theorem shlOne (L : Nat) : (1 : Int) * 2 ^ ((L : Int)).toNat = 2 ^ L := by rw [Int.one_mul]; rfl
end L2
/-! my own rules over the layer: things alike, however deep; list.insert -/
namespace L2
open PySem PySem.Spec PyProof.Rows
/-- two values that are alike, so deep at most: flat ones, tuples and lists of such -/
inductive Alk (K : PySem.W.Frag) (H : Hp) : Nat → V → V → Prop where
  | flat {n : Nat} {x : V} (h : flatV x = true) : Alk K H n x x
  | tup {n : Nat} {a b : Addr} {xs ys : List V} (ha : SqT K H a xs) (hb : SqT K H b ys) (hl : xs.length = ys.length) (h : ∀ (j : Nat) (x y : V), xs[j]? = some x → ys[j]? = some y → Alk K H n x y) : Alk K H (n + 1) (.ref a) (.ref b)
  | lst {n : Nat} {a b : Addr} {xs ys : List V} (ha : SqL K H a xs) (hb : SqL K H b ys) (hl : xs.length = ys.length) (h : ∀ (j : Nat) (x y : V), xs[j]? = some x → ys[j]? = some y → Alk K H n x y) : Alk K H (n + 1) (.ref a) (.ref b)
section
variable {X : Cx}
end
end L2
/-! my own rules over the layer: a list comprehension of any target, with tests or without -/
namespace L2
open PySem PySem.Spec PyProof.Rows
/-- tests of a comprehension -/
def PTs (X : Cx) (ifs : List Expr) (tt : TT) : Prop :=
  ∀ (pins : List (Addr × Obj)) (s : Shared) (σ : St) (H : Hp) (Q : Bool → Hp → Prop), Inv X pins σ H s → tt σ H Q →
    wpAny (model X.prog X.w) X.A (forIn ifs true fun c r => if r = true then do let ok ← isTrue c X.env (eval c X.env); pure (ForInStep.yield ok) else pure (ForInStep.yield r)) (TP X pins σ Q) X.xe s
theorem pts_nil {X : Cx} : PTs X [] (fun _ H Q => Q true H) := fun _ _ _ H _ I h => wpAny_tests_nil ⟨H, I, h⟩
structure CompOkG (scope sc0 : Scope) (N cn : List Str) : Prop where
  has : ∀ p ∈ relN scope sc0, (p.2 = .cell ∨ p.2 = .free) → p.1 ∈ cn
  nc : ∀ p ∈ scope.names, p.2 ≠ .cell
  names : ∀ p ∈ scope.names, p.2 = .local → scope.names.lookup p.1 = some .local
  frs : ∀ y ∈ N, (relN scope sc0).lookup y = some .cell ∧ sc0.names.lookup y = some .cell ∧ y ∈ cn
/-- the reading: any target, tests, what passes alone is kept -/
def tCompG (k : Nat) (wi : TI) (gt : TG) (tt : TT) (te : TE) (fr : List Nat) : TE := fun σ H Q => wi σ H fun J H1 => ∀ D, H1 D = none → ∃ W : Nat → Nat → List V → Hp → Prop, (∃ m, W 0 m [] (upd H1 D (.lst []))) ∧
  ∀ i m ys H2, W i m ys H2 → H2 D = some (.lst ys) ∧ ((J.stop i H2 ∧ Q (.ref D) H2) ∨ (J.go i H2 ∧ ys.length < sizeLine ∧ ∃ (N : V → Hp → Prop) (Z : Hp → Prop), (∀ y H3, N y H3 → H3 D = some (.lst ys) ∧ ∃ m', m' < m ∧ W (i + 1) m' (ys ++ [y]) (upd H3 D (.lst (ys ++ [y])))) ∧ (∀ H3, Z H3 → ∃ m', m' < m ∧ W (i + 1) m' ys H3) ∧
    ∀ x H', J.yld i H2 x H' → ∀ vs : St, vs.length = k → gt x (vs ++ fr.map fun j => (σ[j]?).getD none) H' fun σ' H3 => (∃ vs' : St, vs'.length = k ∧ σ' = vs' ++ fr.map fun j => (σ[j]?).getD none) ∧ tt σ' H3 fun b H4 => if b = true then te σ' H4 N else Z H4))
section
variable {prog : Program} {w : World} {A : Around} {R : Result → Shared → Prop} {s : Shared}
theorem compLoop_G {elt target iter : Expr} {ifs : List Expr} {scope : Scope} {pos : Pos} {it acc : Value} {env : Env} (I : Nat → Shared → Prop)
    (turn : ∀ n s, I n s → wpAny (model prog w) A (pyNext it) (fun r s₁ => match r with
      | none => R (.ok .next) s₁
      | some v => wpAny (model prog w) A (letOwnedTupleGo target it v) (fun _ s₁' => wpAny (model prog w) A (assign target env v) (fun _ s₂ =>
          wpAny (model prog w) A (forIn ifs true fun c r => if r = true then do let ok ← isTrue c env (eval c env); pure (ForInStep.yield ok) else pure (ForInStep.yield r)) (fun okb s₂' => if okb = true then
          wpAny (model prog w) A (eval elt env) (fun x s₃ => wpAny (model prog w) A (call (.builtin "list.append") [acc, x]) (fun _ s₄ => ∃ m, m < n ∧ I m s₄) (nbOf prog w A env R) s₃) (nbOf prog w A env R) s₂'
          else ∃ m, m < n ∧ I m s₂') (nbOf prog w A env R) s₂) (nbOf prog w A env R) s₁') (nbOf prog w A env R) s₁) (nbOf prog w A env R) s)
    (n : Nat) (h : I n s) :
    codeAny (model prog w) A (.compLoop (.ListComp elt [⟨target, iter, ifs, 0⟩] scope pos) 0 it acc env) R s := by
  refine codeAny_loop rfl I (fun n s hI => ?_) n h
  show wpAny _ _ ((compTurn (.ListComp elt [⟨target, iter, ifs, 0⟩] scope pos) 0 it acc env).onRaise (fun x => do noteFrame x env; theTreesLotGoes x)) _ _ s
  refine wpAny_noted ?_
  rw [compTurn_list]
  refine wpAny_bind (wpAny_standAt (wpAny_bind (wpAny_mono (turn n s hI) (fun r s₁ h₁ => ?_) fun _ _ h' => h')))
  cases r with
  | none => exact wpAny_pure h₁
  | some v =>
    refine wpAny_bind (wpAny_mono h₁ (fun _ s₁' h₁' => wpAny_bind (wpAny_mono h₁' (fun _ s₂ h₂ => wpAny_bind (wpAny_mono h₂ (fun okb s₂' h₂' => ?_) fun _ _ h' => h')) fun _ _ h' => h')) fun _ _ h' => h')
    cases okb with
    | false => exact wpAny_pure ⟨rfl, h₂'⟩
    | true => exact wpAny_bind (wpAny_bind (wpAny_mono h₂' (fun x s₃ h₃ => wpAny_bind (wpAny_mono h₃ (fun _ s₄ h₄ => wpAny_pure (wpAny_pure ⟨rfl, h₄⟩)) fun _ _ h' => h')) fun _ _ h' => h'))
end
theorem comp_coreG {X : Cx} {elt iter tg : Expr} {ifs : List Expr} {x : Str} {pos : Pos} {scope sc0 : Scope} {cl : List (Str × Addr)} {cn TN N : List Str} {fr : List Nat} {gt : TG} {tt : TT} {te : TE} {pins : List (Addr × Obj)} {σ : St} {H2 : Hp} {s2 : Shared} {it : Addr} {fp : List Addr}
    {tn : Nat → Heap → Prop} {J : It} {RR : Value → Addr → Result → Shared → Prop} {R : Hp → Prop} {E : Value → Shared → Prop} {W : Nat → Nat → List V → Hp → Prop} {m0 : Nat}
    (hc : X.calm = true) (he : ∀ (C : Addr) (s₂ : Shared) (H₂ : Hp) (fp : List Addr), PE (compCx X scope cl C x (TN ++ N) s₂ H₂ fp) elt te) (hct : ∀ (C : Addr) (s₂ : Shared) (H₂ : Hp) (fp : List Addr), PTs (compCx X scope cl C x (TN ++ N) s₂ H₂ fp) ifs tt) (hgt : ∀ (C : Addr) (s₂ : Shared) (H₂ : Hp) (fp : List Addr), PG (compCx X scope cl C x (TN ++ N) s₂ H₂ fp) tg gt)
    (hcl : CellsIn X.env cl) (hcn : cl.map (·.1) = cn) (hsc : X.env.scope = sc0) (hk : scope.kind = .function) (hok : CompOkG scope sc0 N cn) (hfr : fr.map (fun j => X.N[j]?) = N.map some)
    (I2 : Inv X pins σ H2 s2) (T : Turn X.prog X.w X.K tg J fp it tn) (st2 : tn 0 s2.heap) (f2 : ∀ b ∈ fp, FpOk X pins H2 b)
    (w0 : W 0 m0 [] (upd H2 s2.heap.objs.size (.lst [])))
    (turn : ∀ i m ys H, W i m ys H → H s2.heap.objs.size = some (.lst ys) ∧ ((J.stop i H ∧ R H) ∨ (J.go i H ∧ ys.length < sizeLine ∧ ∃ (N : V → Hp → Prop) (Z : Hp → Prop),
      (∀ y H3, N y H3 → H3 s2.heap.objs.size = some (.lst ys) ∧ ∃ m', m' < m ∧ W (i + 1) m' (ys ++ [y]) (upd H3 s2.heap.objs.size (.lst (ys ++ [y])))) ∧ (∀ H3, Z H3 → ∃ m', m' < m ∧ W (i + 1) m' ys H3) ∧
      ∀ x H', J.yld i H x H' → ∀ vs : St, vs.length = TN.length + 1 → gt x (vs ++ fr.map fun j => (σ[j]?).getD none) H' fun σ' H3 => (∃ vs' : St, vs'.length = TN.length + 1 ∧ σ' = vs' ++ fr.map fun j => (σ[j]?).getD none) ∧ tt σ' H3 fun b H4 => if b = true then te σ' H4 N else Z H4)))
    (hRR : ∀ (C : Addr) (H6 : Hp) (s6 : Shared) (m6 : Str → Option Value), s6.heap.Ns C m6 → Inv X pins σ H6 s6 → FpOk X pins H6 C → R H6 → RR (.ref s2.heap.objs.size) C (.ok .next) s6) :
    wpAny (model X.prog X.w) X.A (newList []) (fun acc s₃ => wpAny (model X.prog X.w) X.A (newFunctionEnv scope X.env.globals cl [] X.env.qual none .none (some X.env)) (fun cenv s₄ =>
      codeAny (model X.prog X.w) X.A (.compStart (.ListComp elt [⟨tg, iter, ifs, 0⟩] scope pos) 0 (.ref it) acc { cenv with scope := relabel scope X.env }) (RR acc cenv.locals) s₄) E s₃) E s2 := by
  refine wpAny_newObj_type (wpAny_newFunctionEnv hok.nc (by intro y hy; simp at hy) (fun h4 hns hsb => ?_) hk)
  dsimp only at hns hsb ⊢
  have rel : ∀ y, (compEnvC scope cl 0 X.env).scope.names.lookup y = (relN scope sc0).lookup y := fun y => by
    show (relabel scope X.env).names.lookup y = _
    unfold relabel relN Env.kindOf
    rw [hsc]
  generalize hD : s2.heap.objs.size = D at *
  have I3 : Inv X pins σ (upd H2 D (.lst [])) { s2 with heap := s2.heap.push { cls := .type "list", dict := none, data := .seq ([] : List Value).toArray } } :=
    I2.laid (t' := s2.toks) (fun b u e => Heap.get?_push_of_some _ e) (Nat.le_of_eq hD) ⟨Nat.zero_le _, [], 0, .nil, by rw [← hD]; exact Heap.get?_push_size _ rfl⟩
  have k23 : ∀ b u, s2.heap.get? b = some u → (s2.heap.push { cls := .type "list", dict := none, data := .seq ([] : List Value).toArray }).get? b = some u := fun b u e => Heap.get?_push_of_some _ e
  have hsz : s2.heap.objs.size ≤ (s2.heap.push { cls := .type "list", dict := none, data := .seq ([] : List Value).toArray }).objs.size := by rw [Heap.size_push]; exact Nat.le_succ _
  generalize hh3 : s2.heap.push { cls := .type "list", dict := none, data := .seq ([] : List Value).toArray } = h3 at *
  have k34 : ∀ b u, h3.get? b = some u → h4.get? b = some u := fun b u e => (hsb.2 b (Nat.ne_of_lt (Heap.lt_size e))).trans (Heap.get?_push_of_some _ e)
  generalize hC : h3.objs.size = C at *
  have I4 : Inv X pins σ (upd H2 D (.lst [])) { s2 with heap := h4, toks := s2.toks + ([] : List (Str × Value)).length } := I3.kept (t' := s2.toks + 0) k34
  generalize hH3 : upd H2 D (.lst []) = H3 at *
  have ltC : ∀ b o, s2.heap.get? b = some o → b < C := fun b o e => Nat.lt_of_lt_of_le (Heap.lt_size e) hsz
  have lenF : fr.length = N.length := by simpa using congrArg List.length hfr
  have fpo : ∀ b ∈ fp, b ≠ C ∧ b ∉ frs X.stack := fun b hb => by
    obtain ⟨o, e, _⟩ := T.obj 0 s2.heap st2 b hb
    refine ⟨Nat.ne_of_lt (ltC b o e), fun z => ?_⟩
    obtain ⟨_, n1, n2, _⟩ := f2 b hb
    rcases List.mem_cons.mp (I2.stkSub b z) with q | q
    · exact n1 q
    · exact n2 q
  have H3C : H3 C = none := I3.hok.fresh (Nat.le_of_eq hC)
  have okX : (compCx X scope cl C x (TN ++ N) { s2 with heap := h3 } H3 fp).Ok := by
    refine ⟨I2.ok.mod, hk, I2.ok.glob, I2.ok.blt, Nat.le_of_eq hC, fun y z c e1 e2 => I2.ok.inj y z c (hcl.look e1) (hcl.look e2), fun y hy => ?_, fun y c z => (Bool.false_ne_true z).elim, fun z => I2.ok.hd z, I2.ok.frames, .inl rfl,
      fun b hb => ⟨(fpo b hb).1, fun y c e => (f2 b hb).2.2.2.2.1 y c (hcl.look e)⟩, fun b o e => I3.bs b o e, Nat.le_trans I2.ok.bsz I3.sz, fun b o e hb => ?_, fun b hb => (fpo b hb).2, I3.stack, I3.stkFree⟩
    · have hy' : (relN scope sc0).lookup y = some .cell ∨ (relN scope sc0).lookup y = some .free := by
        rcases hy with hy | hy
        · exact .inl ((rel y).symm.trans hy)
        · exact .inr ((rel y).symm.trans hy)
      have hm : y ∈ cn := by
        rcases hy' with q | q
        · exact hok.has (y, .cell) (lookup_mem q) (.inl rfl)
        · exact hok.has (y, .free) (lookup_mem q) (.inr rfl)
      exact look_of_mem (cl := cl) (n := y) (by rw [hcn]; exact hm)
    · rcases (f2 b hb).2.2.2.1 with z | z
      · exact I2.ok.noex b o e z
      · exact absurd (Nat.lt_of_lt_of_le (Heap.lt_size e) (Nat.le_trans I2.ok.bsz z)) (Nat.lt_irrefl _)
  have I5 : Inv (compCx X scope cl C x (TN ++ N) { s2 with heap := h3 } H3 fp) [] (List.replicate (TN.length + 1) none ++ fr.map fun j => (σ[j]?).getD none) H3 { s2 with heap := h4, toks := s2.toks + ([] : List (Str × Value)).length } := by
    refine ⟨okX, rfl, I4.bare, Un.kept k34, ⟨_, hns, fun i y v e1 e2 e3 => ?_⟩, fun y c e => I4.cell y c (hcl.look e), H3C, fun y c e => I4.freeC y c (hcl.look e), fun p hp => absurd (show p ∈ ([] : List (Addr × Obj)) from hp) (by simp), I4.hok, by simp [compCx, lenF]; omega⟩
    by_cases hiT : i < TN.length + 1
    · exfalso
      rw [List.getElem?_append_left (by rw [List.length_replicate]; exact hiT), List.getElem?_replicate, if_pos hiT] at e2
      cases e2
    · obtain ⟨j, rfl⟩ : ∃ j, i = TN.length + 1 + j := ⟨i - (TN.length + 1), by omega⟩
      have e1' : N[j]? = some y := by
        have e1b : (x :: (TN ++ N))[TN.length + 1 + j]? = some y := e1
        rw [show TN.length + 1 + j = (TN.length + j) + 1 by omega, List.getElem?_cons_succ, List.getElem?_append_right (by omega), show TN.length + j - TN.length = j by omega] at e1b
        exact e1b
      have e2' : (fr.map fun j => (σ[j]?).getD none)[j]? = some (some v) := by
        rw [List.getElem?_append_right (by rw [List.length_replicate]; omega), List.length_replicate, show TN.length + 1 + j - (TN.length + 1) = j by omega] at e2
        exact e2
      obtain ⟨k, ek⟩ : ∃ k, fr[j]? = some k := by
        have : j < fr.length := by rw [lenF]; exact (List.getElem?_eq_some_iff.mp e1').1
        exact ⟨fr[j], List.getElem?_eq_getElem this⟩
      rw [List.getElem?_map, ek] at e2'
      have e2'' : (σ[k]?).getD none = some v := Option.some.inj e2'
      have eσ : σ[k]? = some (some v) := by
        cases q : σ[k]? with
        | none => rw [q] at e2''; cases e2''
        | some o => rw [q] at e2''; exact congrArg some e2''
      have eN : X.N[k]? = some y := by
        have z := congrArg (fun l => l[j]?) hfr
        simp only [List.getElem?_map, ek, e1', Option.map_some] at z
        exact Option.some.inj z
      obtain ⟨r1, r2, r3⟩ := hok.frs y (List.mem_of_getElem? e1')
      obtain ⟨m, _, hl⟩ := I4.loc
      obtain ⟨u, ru, look⟩ := hl k y v eN eσ (.inr (.inl (by rw [hsc]; exact r2)))
      refine ⟨u, ru, .inr ⟨.inl ((rel y).trans r1), ?_⟩⟩
      rcases look with ⟨l1, _⟩ | ⟨_, c, l1, l2⟩
      · exfalso
        have l1' : X.env.scope.names.lookup y = some .local := l1
        rw [hsc, r2] at l1'
        cases l1'
      · obtain ⟨c', l3⟩ := look_of_mem (cl := cl) (n := y) (by rw [hcn]; exact r3)
        have l4 := hcl.look l3
        rw [l1] at l4
        cases l4
        exact ⟨c, l3, l2⟩
  have st4 : tn 0 h4 := T.keep 0 s2.heap h4 st2 fun b hb o e => k34 b o (k23 b o e)
  have fp5 : ∀ {H' : Hp}, (∀ b ∈ fp, H' b = none) → ∀ b ∈ fp, FpOk (compCx X scope cl C x (TN ++ N) { s2 with heap := h3 } H3 fp) [] H' b := fun hn b hb =>
    ⟨hn b hb, (fpo b hb).1, (fpo b hb).2, .inl hb, fun y c e => (f2 b hb).2.2.2.2.1 y c (hcl.look e), fun p hp => absurd (show p ∈ ([] : List (Addr × Obj)) from hp) (by simp)⟩
  have fr3 : ∀ b ∈ fp, H3 b = none := fun b hb => by
    obtain ⟨o, e, _⟩ := T.obj 0 s2.heap st2 b hb
    have : b ≠ D := Nat.ne_of_lt (hD ▸ Heap.lt_size e)
    rw [← hH3, upd_ne this]
    exact (f2 b hb).1
  have fin : ∀ (H6 : Hp) (s6 : Shared) (σ6 : St), Inv (compCx X scope cl C x (TN ++ N) { s2 with heap := h3 } H3 fp) [] σ6 H6 s6 → Inv X pins σ H6 s6 ∧ FpOk X pins H6 C := by
    intro H6 s6 σ6 I6
    refine ⟨I3.call' (s' := s6) (ch := fp) I6.os ⟨I6.base.keep, I6.base.slot, I6.base.free, I6.base.there, I6.base.tups, I6.base.frzs, I6.base.tbls⟩ I6.hok I6.bare (fun b hb => ?_), I3.fpOk (Nat.le_of_eq hC) I6.free⟩
    obtain ⟨_, n1, _, n3, n4, n5⟩ := f2 b hb
    exact ⟨n3, n1, n4, n5⟩
  have loop : codeAny (model X.prog X.w) X.A (.compLoop (.ListComp elt [⟨tg, iter, ifs, 0⟩] scope pos) 0 (.ref it) (.ref D) (compEnvC scope cl C X.env))
      (RR (.ref D) C) { s2 with heap := h4, toks := s2.toks + ([] : List (Str × Value)).length } := by
    refine compLoop_G (fun n s' => ∃ (i : Nat) (vs : St) (ys : List V) (H' : Hp), vs.length = TN.length + 1 ∧ Inv (compCx X scope cl C x (TN ++ N) { s2 with heap := h3 } H3 fp) [] (vs ++ fr.map fun j => (σ[j]?).getD none) H' s' ∧ tn i s'.heap ∧ (∀ b ∈ fp, H' b = none) ∧ W i n ys H') ?_ m0
      ⟨0, List.replicate (TN.length + 1) none, [], H3, by simp, I5, st4, fr3, w0⟩
    rintro n s6 ⟨i, vs, ys, H6, hvs, I6, st6, fr6, w6⟩
    obtain ⟨hDl, hw⟩ := turn i n ys H6 w6
    rcases hw with ⟨stop, qn⟩ | ⟨go, hlen, N', Z', hN', hZ', step⟩
    · refine thn (T.done (compCx X scope cl C x (TN ++ N) { s2 with heap := h3 } H3 fp) rfl rfl rfl hc i [] s6 _ H6 _ I6 (fp5 fr6) st6 stop) fun r s7 ⟨hr, I7⟩ => ?_
      subst hr
      obtain ⟨m7, hn7, _⟩ := I7.loc
      obtain ⟨J7, F7⟩ := fin H6 s7 _ I7
      exact hRR C H6 s7 m7 hn7 J7 F7 qn
    · refine thn (T.item (compCx X scope cl C x (TN ++ N) { s2 with heap := h3 } H3 fp) rfl rfl rfl hc i [] s6 _ H6 _ I6 (fp5 fr6) st6 go) fun r s7 ⟨u, hr, h7⟩ => ?_
      subst hr
      refine thn h7 fun _ s8 ⟨x8, H8, I8, r8, y8, st8, fr8⟩ => ?_
      have I8' := I8.pinned (fp5 fr8) (T.obj _ _ st8)
      refine wpAny_mono (hgt C { s2 with heap := h3 } H3 fp _ s8 _ H8 x8 u _ I8' r8 (step x8 H8 y8 vs hvs)) (fun _ s9 h9 => ?_) fun _ _ z => False.elim z
      obtain ⟨σ9, H9a, I9, ⟨vs9, hl9, e9⟩, n9a⟩ := h9
      subst e9
      refine wpAny_mono (hct C { s2 with heap := h3 } H3 fp _ s9 _ H9a _ I9 n9a) (fun okb s9b h9b => ?_) fun _ _ z => False.elim z
      obtain ⟨H9, I9b, n9⟩ := h9b
      cases okb with
      | false =>
        rw [if_neg Bool.false_ne_true] at n9 ⊢
        obtain ⟨m', hm, w9⟩ := hZ' _ n9
        refine ⟨m', hm, i + 1, vs9, ys, _, hl9, I9b.unpinned, T.keep _ _ _ st8 fun b hb o e => (I9b.pin (b, o) (List.mem_append_right _ (List.mem_append_right _ (mem_pinsAt hb e)))).1, fun b hb => ?_, w9⟩
        obtain ⟨o, e, d⟩ := T.obj _ _ st8 b hb
        exact (I9b.pin (b, o) (List.mem_append_right _ (List.mem_append_right _ (mem_pinsAt hb e)))).2.1
      | true =>
        rw [if_pos rfl] at n9 ⊢
        refine wpAny_mono (he C { s2 with heap := h3 } H3 fp _ s9b _ H9 _ I9b n9) (fun y s10 h10 => ?_) fun _ _ z => False.elim z
        obtain ⟨y10, H10, I10, r10, n10⟩ := h10
        obtain ⟨hD10, m', hm, w10⟩ := hN' y10 H10 n10
        refine wpAny_mono (mt_append (X := compCx X scope cl C x (TN ++ N) { s2 with heap := h3 } H3 fp) _ s10 _ H10 (.ref D) [y10] (.ref D) [y] (fun _ H' => H' = upd H10 D (.lst (ys ++ [y10]))) I10 rfl (.cons r10 .nil) ⟨D, ys, y10, rfl, rfl, hD10, hlen, rfl⟩) (fun _ s11 h11 => ?_) fun _ _ z => False.elim z
        obtain ⟨_, H11, I11, _, e11⟩ := h11
        subst e11
        refine ⟨m', hm, i + 1, vs9, ys ++ [y10], _, hl9, I11.unpinned, T.keep _ _ _ st8 fun b hb o e => (I11.pin (b, o) (List.mem_append_right _ (List.mem_append_right _ (mem_pinsAt hb e)))).1, fun b hb => ?_, w10⟩
        obtain ⟨o, e, d⟩ := T.obj _ _ st8 b hb
        exact (I11.pin (b, o) (List.mem_append_right _ (List.mem_append_right _ (mem_pinsAt hb e)))).2.1
  exact codeAny_compStart_list loop (T.self _ 0 _ _ _ st4 loop)

theorem pe_compG {X : Cx} {elt iter tg : Expr} {ifs : List Expr} {x : Str} {pos : Pos} {scope sc0 : Scope} {cl : List (Str × Addr)} {cn TN N : List Str} {fr : List Nat} {wi : TI} {gt : TG} {tt : TT} {te : TE}
    (hc : X.calm = true) (hi : PI X tg iter wi) (he : ∀ (C : Addr) (s₂ : Shared) (H₂ : Hp) (fp : List Addr), PE (compCx X scope cl C x (TN ++ N) s₂ H₂ fp) elt te) (hct : ∀ (C : Addr) (s₂ : Shared) (H₂ : Hp) (fp : List Addr), PTs (compCx X scope cl C x (TN ++ N) s₂ H₂ fp) ifs tt) (hgt : ∀ (C : Addr) (s₂ : Shared) (H₂ : Hp) (fp : List Addr), PG (compCx X scope cl C x (TN ++ N) s₂ H₂ fp) tg gt)
    (hclos : closureFor scope X.env = pure cl) (hcl : CellsIn X.env cl) (hcn : cl.map (·.1) = cn) (hsc : X.env.scope = sc0) (hk : scope.kind = .function) (hok : CompOkG scope sc0 N cn)
    (hfr : fr.map (fun j => X.N[j]?) = N.map some) (hs : ∀ v, foldedSetIterable iter X.env v = pure v := by intro _; rfl) :
    PE X (.ListComp elt [⟨tg, iter, ifs, 0⟩] scope pos) (tCompG (TN.length + 1) wi gt tt te fr) := by
  intro pins s σ H Q I h
  rw [eval_ListComp]
  refine wpAny_comprehension_free (use := none) rfl hs hclos hk hok.names (thn (hi pins s σ H _ I h) fun v s1 h1 => thn h1 fun itv s2 h2 => ?_)
  obtain ⟨it, fp, tn, J, H2, e, I2, T, st2, f2, hq⟩ := h2
  subst e
  obtain ⟨W, ⟨m0, w0⟩, turn⟩ := hq s2.heap.objs.size (I2.hok.fresh (Nat.le_refl _))
  exact comp_coreG (RR := fun acc C => compPost (model X.prog X.w) X.A X.xe none (EP X pins σ Q) acc C) (R := fun H6 => Q (.ref s2.heap.objs.size) H6) hc he hct hgt hcl hcn hsc hk hok hfr I2 T st2 f2 w0 turn
    fun C H6 s6 m6 hn I6 F6 q => ⟨m6, hn, fun h' sb => ⟨.ref s2.heap.objs.size, H6, I6.let_go F6 sb, rfl, q⟩⟩
/-- y = [.. for x in ..], straight to a local name -/
def tSetCompG (i k : Nat) (wi : TI) (gt : TG) (tt : TT) (te : TE) (fr : List Nat) : TS := fun D σ H => tCompG k wi gt tt te fr σ H fun v H1 => D.nx (σ.set i (some v)) H1
end L2
/-! my own rules over the layer: gone through a range, each told by g, those alone that pass -/
namespace L2
open PySem PySem.Spec PyProof.Rows
section
variable {n : Nat} {lo : Int} {p : Nat → Bool} {g : Nat → V} {Tt : V → Hp → (Bool → Hp → Prop) → Prop} {Te : V → Hp → (V → Hp → Prop) → Prop} {D : Addr} {H1 : Hp} {R : Hp → Prop}
end
end L2
/-! my own rules over the layer: sum of ints; gone through a list, things made on the way; a tuple's names in a comprehension; trees alike -/
namespace L2
open PySem PySem.Spec PyProof.Rows
section
variable {X : Cx}
theorem pg_tupK {K : PySem.W.Frag} {es : List Expr} {k : Nat} {t : TGs} {n : Nat} {pos : Pos} (hK : X.K = K) (hc : X.calm = true) (h : PGs X es t)
    (hn : (assignEach es X.env).length = n := by rfl) (hst : (assignEach es X.env).findIdx? (·.1) = none := by rfl) : PG X (.Tuple es k pos) (gTup K n t) := by subst hK; exact pg_tup hc h hn hst
end
end L2
/-! my own rules over the layer: t >= u, t * n of tuples, xs != [] -/
namespace HT
open PySem PySem.Spec PyProof.Rows
section
open PySem.SeqAt
open PySem.AutoSeq1 (wpAny_loadPart')
open PySem.MeetsSeq PySem.MeetsSeq2 PySem.MeetsSeq3
theorem int_rmul_tuple (a : Int) (t : Tok) (l : Addr) (items : Array Value) (n : Nat) (dd : Option Addr) (sl : Array (Option Value)) :
    Meets (Builtin.«int.__rmul__» ⟨[.int a t, .ref l], []⟩) (fun _ R s => s.heap.get? l = some { cls := .type "tuple", dict := dd, data := .seq items n, slots := sl } ∧ R (.ok (.ret .notImplemented)) s) :=
  .of_wp fun prog w A R s h => by
    obtain ⟨hp, g, d, tk, os⟩ := s; obtain ⟨hl, h⟩ := h
    have f2 := PyProof.Rows.sub_tuple_int
    wp_walk using wpAny_loadPart' hl
    exact ⟨_, rfl, h⟩
theorem tuple_mul_one (l : Addr) (items : Array Value) (n : Nat) (dd : Option Addr) (sl : Array (Option Value)) (t : Tok) :
    Meets (Builtin.«tuple.__mul__» ⟨[.ref l, .int 1 t], []⟩) (fun _ R s => s.heap.get? l = some { cls := .type "tuple", dict := dd, data := .seq items n, slots := sl } ∧ R (.ok (.ret (.ref l))) s) :=
  .of_wp fun prog w A R s h => by
    obtain ⟨hp, g, d, tk, os⟩ := s; obtain ⟨hl, h⟩ := h
    wp_walk using wpAny_loadPart' hl
    exact ⟨_, rfl, h⟩
theorem tuple_mul_many (l : Addr) (items : Array Value) (n : Nat) (dd : Option Addr) (sl : Array (Option Value)) (k : Int) (t : Tok) (h0 : items.isEmpty = false) (h1 : (k == 1) = false) (k0 : 0 ≤ k) (k1 : k < 2 ^ 62) (hz : (items.size : Int) * k ≤ (sizeLine : Nat)) (hz2 : ¬ (List.foldl (fun x1 x2 => x1 ++ x2) #[] (List.replicate k.toNat items)).size > sizeLine) :
    Meets (Builtin.«tuple.__mul__» ⟨[.ref l, .int k t], []⟩) (fun _ R s => s.heap.get? l = some { cls := .type "tuple", dict := dd, data := .seq items n, slots := sl } ∧
      R (.ok (.ret (.ref s.heap.objs.size))) { s with heap := s.heap.push { cls := .type "tuple", data := .seq (List.foldl (fun x1 x2 => x1 ++ x2) #[] (List.replicate k.toNat items)) } }) :=
  .of_wp fun prog w A R s h => by
    obtain ⟨hp, g, d, tk, os⟩ := s; obtain ⟨hl, h⟩ := h
    have e1 : (items.isEmpty || k == 1) = false := by rw [h0, h1]; rfl
    have hfit : ¬ (decide (k < -2 ^ 63) || decide (k ≥ 2 ^ 63)) = true := by
      rw [decide_eq_false (by omega), decide_eq_false (by omega)]; decide
    have hbig : ¬ ((items.size : Int) * k > (2 ^ 63 - 1) / 8) := by
      have : ((sizeLine : Nat) : Int) ≤ (2 ^ 63 - 1) / 8 := by decide
      omega
    have hlong : ¬ Builtin.Tuple.tupleTooMany ((items.size : Int) * k) = true := by
      unfold Builtin.Tuple.tupleTooMany
      rw [decide_eq_false (by omega)]
      exact Bool.false_ne_true
    by_cases hk : k ≤ 0
    · have e2 : (decide (k ≤ 0) || items.isEmpty) = true := by rw [decide_eq_true hk]; rfl
      have e3 : k.toNat = 0 := by omega
      rw [e3] at h
      wp_walk using wpAny_loadPart' hl
      rw [if_neg hfit]
      wp_walk using wpAny_loadPart' hl
      exact ⟨_, rfl, h⟩
    · have e2 : ¬ (decide (k ≤ 0) || items.isEmpty) = true := by rw [decide_eq_false hk, h0]; decide
      wp_walk using wpAny_loadPart' hl
      rw [if_neg hfit]
      wp_walk using wpAny_loadPart' hl
      rw [if_neg hbig]
      wp_walk using wpAny_loadPart' hl
      exact ⟨_, rfl, h⟩
end
theorem noFill_tuple_mul : fillsNumberSlot (Value.type "tuple") "mul" = pure false := by with_unfolding_all rfl
theorem repeat_tuple : seqRepeat? (Value.type "tuple") = pure (some (Value.builtin "tuple.__mul__")) := by with_unfolding_all rfl
section
variable {prog : Program} {w : World} {A : Around} {E : Value → Shared → Prop} {s : Shared}
end
end HT
namespace L2
open PySem PySem.Spec PyProof.Rows
section
variable {X : Cx}
/-- (x,) * n -/
theorem op_repT : OpR X (binaryOp .Mult) (fun x y H Q => ∃ (a : Addr) (z : V) (k : Nat), x = .ref a ∧ y = .int k ∧ H a = some (.tup [z]) ∧ k ≤ 1000 ∧ ∀ p H', Same H H' → SqT X.K H' p (List.replicate k z) → Q (.ref p) H') := by
  intro pins s σ H x y v u Q I rx ry h
  obtain ⟨a, z, k, rfl, rfl, ha, hk, q⟩ := h
  cases rx
  obtain ⟨t, rfl⟩ := ry
  have hq : SqT X.K H a [z] := SqT.of ha
  obtain ⟨its, r1, p1, _⟩ := I.tuple hq
  have hl1 : its.length = 1 := r1.length.symm
  obtain ⟨⟨cls, dd, data, sl⟩, ho, hc, n, hd⟩ := id p1
  simp only at hc hd
  subst hc hd
  have hT : s.TypeIs (.ref a) "tuple" := ⟨_, ho, rfl⟩
  by_cases h1 : k = 1
  · subst h1
    refine wpAny_binaryOp_repeat_ref (T := "tuple") (U := "int") (by decide) hT (fun s' => typeIs_int s' _ t) HT.noFill_tuple_mul F.fills_int_mul F.slot_int_rmul HT.repeat_tuple F.slot_int_index.lookup
      (call_meets F.slot_int_rmul (typeIs_int s _ t) F.entry_int_rmul (F.args_int_rmul_2 _ _) (HT.int_rmul_tuple _ t a its.toArray n dd sl)
        ⟨ho, rfl, hT, call_meets F.slot_tuple_mul hT F.entry_tuple_mul (F.args_tuple_mul_2 _ _) (HT.tuple_mul_one a its.toArray n dd sl t) ⟨ho, ?_⟩⟩)
    exact ⟨.ref a, H, I, rfl, q _ _ (Same.refl H) hq⟩
  · have e1 : ((k : Int) == 1) = false := by
      rw [beq_eq_false_iff_ne]
      omega
    have e0 : its.toArray.isEmpty = false := by
      cases its with
      | nil => cases hl1
      | cons _ _ => rfl
    have hnew : List.foldl (fun x1 x2 => x1 ++ x2) #[] (List.replicate k its.toArray) = (List.replicate k its).flatten.toArray := by
      have := foldl_rep its k []
      rw [List.nil_append] at this
      exact this
    have hzl : (sizeLine : Nat) ≥ 1000 := by decide
    refine wpAny_binaryOp_repeat_ref (T := "tuple") (U := "int") (by decide) hT (fun s' => typeIs_int s' _ t) HT.noFill_tuple_mul F.fills_int_mul F.slot_int_rmul HT.repeat_tuple F.slot_int_index.lookup
      (call_meets F.slot_int_rmul (typeIs_int s _ t) F.entry_int_rmul (F.args_int_rmul_2 _ _) (HT.int_rmul_tuple _ t a its.toArray n dd sl)
        ⟨ho, rfl, hT, call_meets F.slot_tuple_mul hT F.entry_tuple_mul (F.args_tuple_mul_2 _ _) (HT.tuple_mul_many a its.toArray n dd sl k t e0 e1 (by omega) (by omega) (by rw [List.size_toArray, hl1]; omega) (by rw [Int.toNat_natCast, hnew, List.size_toArray, len_rep, hl1]; omega)) ⟨ho, ?_⟩⟩)
    have er : (List.replicate k [z]).flatten = List.replicate k z := by
      induction k with
      | zero => rfl
      | succ m ih => simp [List.replicate_succ]
    rw [Int.toNat_natCast, hnew]
    have hr : Vals (List.replicate k z) (List.replicate k its).flatten := by
      rw [← er]
      exact r1.rep k
    refine ⟨.ref s.heap.objs.size, _, I.laid (t' := s.toks) (o := .tup (List.replicate k z)) (fun b ob q => Heap.get?_push_of_some _ q) (Nat.le_refl _) ?_, rfl, q _ _ (same_new (I.hok.fresh (Nat.le_refl _)) _) (SqT.of upd_same)⟩
    exact ⟨by rw [List.length_replicate]; omega, _, hr, IsTup.new _ _⟩
end
end L2
/-! my own rules over the layer: t == () of any tuple; sum of a tuple of ints; tuples written or joined that are known to the object -/
namespace L2
open PySem PySem.Spec PyProof.Rows
section
variable {X : Cx}
/-- a written tuple, known to the object -/
def tTupF (t : TA) : TE := fun σ H Q => t σ H fun xs H1 => xs.length ≤ sizeLine ∧ ∀ p H', Same H1 H' → TupF H' p xs → Q (.ref p) H'
theorem pe_tupF {es : List Expr} {t : TA} {pos : Pos} {x1} (h : PA X es t) : PE X (.Tuple es x1 pos) (tTupF t) := by
  intro pins s σ H Q I hq
  refine wpAny_Tuple_spliced (thn (h pos pins s σ H _ I hq) fun us s1 ⟨xs, H1, I1, r, z, q⟩ => ⟨by rw [← r.length]; exact z, ?_⟩)
  have hf : H1 s1.heap.objs.size = none := I1.hok.fresh (Nat.le_refl _)
  refine ⟨.ref s1.heap.objs.size, upd H1 s1.heap.objs.size (.frz { cls := .type "tuple", data := .seq us.toArray } (.tup xs)), I1.laid (t' := s1.toks) (fun b u e => Heap.get?_push_of_some _ e) (Nat.le_refl _) ?_, rfl, q _ _ (same_new hf _) ⟨_, upd_same, rfl, rfl⟩⟩
  exact ⟨Heap.get?_push_size _ rfl, z, us, r, ⟨_, Heap.get?_push_size _ rfl, rfl, _, rfl⟩⟩
/-- t + u of two tuples known to the object -/
theorem op_catF : OpR X (binaryOp .Add) (fun x y H Q => ∃ a b xs ys, x = .ref a ∧ y = .ref b ∧ TupF H a xs ∧ TupF H b ys ∧ xs.length + ys.length ≤ sizeLine ∧
    ∀ p H', Same H H' → TupF H' p (xs ++ ys) → Q (.ref p) H') := by
  intro pins s σ H x y v u Q I rx ry h
  obtain ⟨a, b, xs, ys, rfl, rfl, ha, hb, hz, q1⟩ := h
  cases rx
  cases ry
  obtain ⟨its, r1, p1, _⟩ := I.tuple (ha.sq (K := X.K))
  obtain ⟨its2, r2, p2, _⟩ := I.tuple (hb.sq (K := X.K))
  have hz' : its.length + its2.length ≤ sizeLine := by rw [← r1.length, ← r2.length]; exact hz
  obtain ⟨⟨cls, dd, data, sl⟩, ho, hc, n, hd⟩ := id p1
  obtain ⟨⟨cls2, dd2, data2, sl2⟩, ho2, hc2, n2, hd2⟩ := id p2
  simp only at hc hd hc2 hd2
  subst hc hd hc2 hd2
  have e : its.toArray ++ its2.toArray = (its ++ its2).toArray := by simp
  by_cases hv : its = []
  · have hx : xs = [] := r1.nil_iff.mp hv
    subst hx
    exact concat_meets ⟨_, ho, rfl⟩ ⟨_, ho2, rfl⟩ noFill_tuple_add seq_tuple_add PySem.F.slot_tuple_add PySem.F.entry_tuple_add (PySem.F.args_tuple_add_2 _ _)
      (tuple_addW0 a b its.toArray its2.toArray n n2 dd dd2 sl sl2 (by simp [hv])) ⟨ho, ho2, ⟨.ref b, H, I, rfl, q1 b H (Same.refl H) (by simpa using hb)⟩⟩
  · by_cases hw : its2 = []
    · have hy : ys = [] := r2.nil_iff.mp hw
      subst hy
      exact concat_meets ⟨_, ho, rfl⟩ ⟨_, ho2, rfl⟩ noFill_tuple_add seq_tuple_add PySem.F.slot_tuple_add PySem.F.entry_tuple_add (PySem.F.args_tuple_add_2 _ _)
        (tuple_addW1 a b its.toArray its2.toArray n n2 dd dd2 sl sl2 (by simpa using hv) (by simp [hw])) ⟨ho, ho2, ⟨.ref a, H, I, rfl, q1 a H (Same.refl H) (by simpa using ha)⟩⟩
    · refine concat_meets ⟨_, ho, rfl⟩ ⟨_, ho2, rfl⟩ noFill_tuple_add seq_tuple_add PySem.F.slot_tuple_add PySem.F.entry_tuple_add (PySem.F.args_tuple_add_2 _ _)
        (tuple_addW2 a b its.toArray its2.toArray n n2 dd dd2 sl sl2 (by simpa using hv) (by simpa using hw) (by rw [List.size_toArray, List.size_toArray]; exact hz')) ⟨ho, ho2, ?_⟩
      rw [e]
      refine ⟨.ref s.heap.objs.size, upd H s.heap.objs.size (.frz { cls := .type "tuple", data := .seq (its ++ its2).toArray } (.tup (xs ++ ys))), I.laid (t' := s.toks) (fun b ob q => Heap.get?_push_of_some _ q) (Nat.le_refl _) ?_, rfl, q1 _ _ (same_new (I.hok.fresh (Nat.le_refl _)) _) ⟨_, upd_same, rfl, rfl⟩⟩
      exact ⟨Heap.get?_push_size _ rfl, by rw [List.length_append]; exact hz, _, r1.append r2, IsTup.new _ _⟩
end
end L2
/-! my own rules over the layer: a pair in a list of pairs; xs == []; a <= b <= c < d -/
namespace L2
open PySem PySem.Spec PyProof.Rows
def pairV (H : Hp) : Value → Option (Int × Int)
  | .ref b => match H b with
    | some (.tup [.int i, .int j]) => some (i, j)
    | _ => none
  | _ => none
section
variable {X : Cx}
def PairsIn (H : Hp) (xs : List V) (ps : List (Int × Int)) : Prop := xs.length = ps.length ∧ ∀ (j : Nat) (x : V) (q : Int × Int), xs[j]? = some x → ps[j]? = some q → ∃ b, x = .ref b ∧ H b = some (.tup [.int q.1, .int q.2])
/-- a op1 b op2 c op3 d, as a test -/
def tChain3 (r r' r'' : R2) (ta tb tc td : TE) : TE := fun σ H Q => ta σ H fun x H1 => tb σ H1 fun y H2 => r x y H2 fun z H3 => ∃ k, z = .bl k ∧
  (if k = true then tc σ H3 fun w' H4 => r' y w' H4 fun z2 H5 => ∃ k2, z2 = .bl k2 ∧ (if k2 = true then td σ H5 fun w'' H6 => r'' w' w'' H6 Q else Q (.bl false) H5) else Q (.bl false) H3)
variable {a b c d : Expr} {ta tb tc td : TE} {pos : Pos}
theorem pt_chain3 {op op' op'' : CmpOp} {r r' r'' : R2} (ho : OpR X (compareOp op) r) (ho' : OpR X (compareOp op') r') (ho'' : OpR X (compareOp op'') r'') (ha : PE X a ta) (hb : PE X b tb) (hc : PE X c tc) (hd : PE X d td)
    (hm : lastMarks [op, op', op''] [b, c, d] = false := by with_unfolding_all rfl) : PT X (.Compare a [op, op', op''] [b, c, d] pos) (tTest (tChain3 r r' r'' ta tb tc td)) := by
  intro pins s σ H Q I h
  refine isTrue_chain (thn (ha pins s σ H _ I h) fun v s1 ⟨x, H1, I1, r1, q1⟩ => test_link (thn (hb pins s1 σ H1 _ I1 q1) fun u s2 ⟨y, H2, I2, r2, q2⟩ =>
    thn (ho pins s2 σ H2 x y v u _ I2 r1 r2 q2) fun d' s3 ⟨z, H3, I3, r3, k, e, q3⟩ => ?_)) hm
  subst e
  cases r3
  refine wpAny_truthy_bool ?_
  cases k with
  | false =>
    obtain ⟨k', e', q'⟩ := q3
    cases e'
    exact ite_ff ⟨H3, I3, q'⟩
  | true =>
    refine ite_tt (test_link (thn (hc pins s3 σ H3 _ I3 q3) fun w' s4 ⟨z', H4, I4, r4, q4⟩ => thn (ho' pins s4 σ H4 y z' u w' _ I4 r2 r4 q4) fun d2 s5 ⟨z2, H5, I5, r5, k2, e2, q5⟩ => ?_))
    subst e2
    cases r5
    refine wpAny_truthy_bool ?_
    cases k2 with
    | false =>
      obtain ⟨k', e', q'⟩ := q5
      cases e'
      exact ite_ff ⟨H5, I5, q'⟩
    | true =>
      refine ite_tt (test_last (thn (hd pins s5 σ H5 _ I5 q5) fun w'' s6 ⟨z'', H6, I6, r6, q6⟩ => thn (ho'' pins s6 σ H6 z' z'' w' w'' _ I6 r4 r6 q6) fun d3 s7 ⟨z3, H7, I7, r7, k3, e3, q7⟩ => ?_))
      subst e3
      cases r7
      exact wpAny_truthy_bool ⟨H7, I7, q7⟩
end
end L2
/-! my own rules over the layer: isinstance of any tuple; isinstance(x, (int, str)) of a number or a text -/
namespace L2
open PySem PySem.Spec PyProof.Rows
section
variable {X : Cx} {K : PySem.W.Frag}
end
end L2
/-! (x,) * n -/
namespace L2
open PySem PySem.Spec PyProof.Rows
section
variable {X : Cx}
end
end L2
namespace RV
open PySem PyProof.Rows
theorem owner_rv : Manifest.owners.lookup (String.ofList ['d', 'e', 's', 'r', 'e', 'v', 'e', 'r'].reverse) = some Manifest.sig_reversed := by kernel_rfl
theorem slot_next : Slot "reversed" "__next__" "reversed.__next__" :=
  .of (owner := "reversed") (n := "__next__") (by rw [typeLookup_type, builtinLookup_eq_fast]; kernel_rfl) (by decide +kernel) (by decide +kernel) (by decide +kernel)
    (by first | exact .inl (by decide +kernel) | exact .inr (by decide +kernel)) (by rw [isSubtype_type]; kernel_rfl)
theorem entry_next : entryFor table "reversed.__next__" = some Builtin.«reversed.__next__» := entryFor_of_tree (by kernel_rfl)
theorem args_next (a : Value) : argsOk "reversed.__next__" ⟨[a], []⟩ := by
  unfold argsOk; rw [signature?_of (id := "reversed.__next__") (n := ['_', '_', 't', 'x', 'e', 'n', '_', '_']) (o := ['d', 'e', 's', 'r', 'e', 'v', 'e', 'r']) (by kernel_rfl) owner_rv]; kernel_rfl
theorem slot_iter : Slot "reversed" "__iter__" "reversed.__iter__" :=
  .of (owner := "reversed") (n := "__iter__") (by rw [typeLookup_type, builtinLookup_eq_fast]; kernel_rfl) (by decide +kernel) (by decide +kernel) (by decide +kernel)
    (by first | exact .inl (by decide +kernel) | exact .inr (by decide +kernel)) (by rw [isSubtype_type]; kernel_rfl)
theorem no_reversed : typeLookup (.type "tuple") "__reversed__" = pure none := by rw [typeLookup_type, builtinLookup_eq_fast]; kernel_rfl
section
variable {prog : Program} {w : World} {A : Around} {E : Value → Shared → Prop} {s : Shared}
def rvObj (l : Addr) (i : Int) : Obj := { cls := .type "reversed", data := .fields #[.ref l, rawInt i] }
def IsRv (h : Heap) (a l : Addr) (i : Int) : Prop := ∃ o, h.get? a = some o ∧ o.cls = .type "reversed" ∧ o.data = .fields #[.ref l, rawInt i]
theorem IsRv.typeIs {a l : Addr} {i : Int} (x : IsRv s.heap a l i) : s.TypeIs (.ref a) "reversed" := let ⟨o, ho, hc, _⟩ := x; ⟨o, ho, hc⟩
/-- reversed(t) of a tuple -/
theorem code_new {l : Addr} {items : Array Value} {Q₁ : Value → Shared → Prop} (hl : s.heap.IsTuple l items) (hz : items.size ≤ 1000)
    (h : ∀ tk, Q₁ (.ref s.heap.objs.size) { s with heap := s.heap.push (rvObj l ((items.size : Int) - 1)), toks := tk }) :
    codeAny (model prog w) A (.call (.builtin "reversed.__new__") ⟨[.type "reversed", .ref l], []⟩) (wants Q₁ E) s := by
  refine codeAny_of_tree ?_
  show wpAny _ A.in1 (do checkBuiltinCall "reversed.__new__" ⟨[.type "reversed", .ref l], []⟩; again (.builtin "reversed.__new__" ⟨[.type "reversed", .ref l], []⟩)) _ _ s
  refine wpAny_bind (wpAny_of_eq (F.newCall_reversed_1 _) (wpAny_pure ⟨plainId_quiet F.plain_reversed_new _, codeAny_builtin F.entry_reversed_new ?_⟩))
  rw [Around.under_plainId F.plain_reversed_new _]
  unfold Builtin.«reversed.__new__»
  refine wpAny_bind (wpAny_of_eq (newClass_reversed _) ?_)
  try dsimp only
  refine wpAny_bind (wpAny_of_eq (a := ()) (by first | rfl | kernel_rfl) ?_)
  refine wpAny_bind (wpAny_of_eq (a := ()) (by first | rfl | kernel_rfl) ?_)
  try dsimp only
  refine wpAny_bind (wpAny_specialOf hl.typeIs no_reversed ?_)
  try dsimp only
  refine wpAny_bind (wpAny_bind (wpAny_isInstance (T := "tuple") (b := false) hl.typeIs (by rw [isSubtype_type]; kernel_rfl) ?_))
  try dsimp only
  rw [if_neg Bool.false_ne_true]
  refine wpAny_bind (wpAny_specialOf hl.typeIs F.slot_tuple_getitem.lookup ?_)
  try dsimp only
  rw [if_pos (show (["tuple.__getitem__", "str.__getitem__", "bytes.__getitem__", "bytearray.__getitem__", "memoryview.__getitem__", "numpy.ndarray.__getitem__", "sqlite3.Row.__getitem__"].contains "tuple.__getitem__") = true by decide +kernel)]
  refine wpAny_pure ?_
  rw [if_neg (by decide)]
  obtain ⟨o, ho, hc, n, hd⟩ := id hl
  refine wpAny_bind (PyProof.Rows.len_tuple ⟨o, ho, hc, n, hd⟩ (by omega) ?_)
  refine wpAny_bind (m := asInt? _) (wpAny_pure ?_)
  try dsimp only
  refine wpAny_bind ?_
  show wpAny _ _ (newObj (.type "reversed") (.fields #[.ref l, rawInt ((items.size : Int) - 1)])) _ _ _
  exact wpAny_newObj_type (wpAny_pure (h _))
theorem next_item {it l : Addr} {i : Nat} {items : Array Value} {x : Value} {Q : Option Value → Shared → Prop} (hit : IsRv s.heap it l (i : Int)) (hl : s.heap.IsTuple l items) (hz : items.size ≤ 1000) (hx : items[i]? = some x)
    (hQ : ∀ h' tk, IsRv h' it l ((i : Int) - 1) → Heap.SameBut it s.heap h' → Q (some x) { s with heap := h', toks := tk }) : wpAny (model prog w) A (pyNext (.ref it)) Q E s := by
  obtain ⟨o, ho, hc, hd⟩ := id hit
  unfold pyNext
  refine wpAny_bind (wpAny_attempt (wpAny_callSpecial?_slot (name := Str.ofString "__next__") hit.typeIs slot_next
    (wpAny_call_entry slot_next hit.typeIs entry_next ?_ (args_next _))))
  unfold Builtin.«reversed.__next__»
  refine wpAny_bind (wpAny_of_eq (a := (Value.ref it, [])) rfl ?_)
  try dsimp only
  refine wpAny_bind (wpAny_field ho hd (x := .ref l) rfl ?_)
  refine wpAny_bind (wpAny_field ho hd (x := rawInt (i : Int)) rfl ?_)
  show wpAny _ _ (if (i : Int) < 0 then _ else _) _ _ s
  rw [if_neg (by omega)]
  refine wpAny_bind (wpAny_specialOf hl.typeIs F.slot_tuple_getitem.lookup ?_)
  try dsimp only
  rw [if_neg (by decide)]
  obtain ⟨ol, hol, hcl, nl, hdl⟩ := id hl
  refine wpAny_bind (wpAny_mkInt ?_)
  have hi : i < items.size := (Array.getElem?_eq_some_iff.mp hx).1
  refine wpAny_bind (wpAny_attempt (PyProof.Rows.getItem_tuple (j := i) ⟨ol, hol, hcl, nl, hdl⟩ (by omega) (by omega) ?_ hx ?_))
  · unfold seqIndex?
    simp
    omega
  try dsimp only
  refine wpAny_bind (wpAny_field ho hd (x := rawInt (i : Int)) rfl ?_)
  show wpAny _ _ (setField (Value.ref it) 1 (rawInt ((i : Int) - 1)) >>= _) _ _ _
  refine wpAny_bind (wpAny_setField ho hd (by simp) ?_)
  refine wpAny_pure ⟨x, rfl, wpAny_pure (hQ _ _ ?_ (Heap.SameBut.update ..))⟩
  exact ⟨_, Heap.get?_update_self _ ho (Obj.isFreed_of_fields (Obj.data_mapFields hd _)), (Obj.cls_mapFields ..).trans hc, by
    rw [Obj.data_mapFields hd]; simp⟩
theorem stop_rv {α : Type} (hh : A.handled = none) {Q : α → Shared → Prop} {E' : Value → Shared → Prop} (h : ∀ (h' : Heap) (e : Addr), (∀ b o, s.heap.get? b = some o → h'.get? b = some o) → (∃ o, h'.get? e = some o ∧ o.cls = .type "StopIteration") → E' (.ref e) { s with heap := h' }) :
    wpAny (model prog w) A (Builtin.SmallTypes.stopIteration : Sem α) Q E' s := by
  unfold Builtin.SmallTypes.stopIteration
  refine wpAny_bind ?_
  simp only [newExc, newTuple]
  refine wpAny_bind (wpAny_newObj_type ?_ (by size_fits))
  refine wpAny_bind (m := firstArgMember _ _) (wpAny_of_eq (a := Value.none) (by first | rfl | (simp only [firstArgMember]; rfl)) ?_)
  refine wpAny_newObj_type ?_ (by size_fits)
  simp only [raiseNew]
  refine wpAny_bind (wpAny_handled ?_)
  rw [hh]
  exact wpAny_bind (wpAny_pure (wpAny_throw (h _ _ (fun b o e => Heap.get?_push_of_some _ (Heap.get?_push_of_some _ e)) ⟨_, Heap.get?_push_size _ rfl, rfl⟩)))
theorem next_done {it l : Addr} {Q : Option Value → Shared → Prop} (hh : A.handled = none) (hit : IsRv s.heap it l (-1)) (hQ : ∀ h', (∀ b o, b ≠ it → s.heap.get? b = some o → h'.get? b = some o) → Q none { s with heap := h' }) : wpAny (model prog w) A (pyNext (.ref it)) Q E s := by
  obtain ⟨o, ho, hc, hd⟩ := id hit
  unfold pyNext
  refine wpAny_bind (wpAny_attempt (wpAny_callSpecial?_slot (name := Str.ofString "__next__") hit.typeIs slot_next
    (wpAny_call_entry slot_next hit.typeIs entry_next ?_ (args_next _))))
  unfold Builtin.«reversed.__next__»
  refine wpAny_bind (wpAny_of_eq (a := (Value.ref it, [])) rfl ?_)
  try dsimp only
  refine wpAny_bind (wpAny_field ho hd (x := .ref l) rfl ?_)
  refine wpAny_bind (wpAny_field ho hd (x := rawInt (-1)) rfl ?_)
  show wpAny _ _ (if (-1 : Int) < 0 then _ else _) _ _ s
  rw [if_pos (by decide)]
  refine wpAny_bind (wpAny_rule (wpAny_bind ?_))
  show wpAny _ _ (setField (Value.ref it) 1 (rawInt (-1)) >>= fun _ => setField (Value.ref it) 0 .none) _ _ _
  refine wpAny_bind (wpAny_setField ho hd (by simp) ?_)
  have ho2 := Heap.get?_update_self (Obj.mapFields (·.setIfInBounds 1 (rawInt (-1)))) ho (Obj.isFreed_of_fields (Obj.data_mapFields hd _))
  refine wpAny_setField ho2 (Obj.data_mapFields hd _) (by simp) ?_
  refine wpAny_bind (stop_rv (A := A.in1) (show A.in1.handled = none from hh) fun h' e kp he => ?_)
  obtain ⟨u, hu, hcu⟩ := he
  refine wpAny_bind (wpAny_isInstance (T := "StopIteration") (b := true) ⟨u, hu, hcu⟩ isSubtype_stop (wpAny_pure (hQ h' fun b o hb e => kp b o ?_)))
  exact ((Heap.SameBut.update ..).2 b hb).trans (((Heap.SameBut.update ..).2 b hb).trans e)
theorem rv_self {it l : Addr} {i : Int} {Q : Value → Shared → Prop} (hit : IsRv s.heap it l i) (h : Q (.ref it) s) : wpAny (model prog w) A (pyIter (.ref it)) Q E s := by
  refine wpAny_pyIter_slot hit.typeIs slot_iter (wpAny_call_entry (b := Builtin.«dict_keyiterator.__iter__») slot_iter hit.typeIs (entryFor_alias (id' := "dict_keyiterator.__iter__") (by kernel_rfl) rfl (by decide +kernel) (by kernel_rfl)) ?_ ?_)
  · exact wpAny_pure ⟨_, rfl, "reversed", _, hit.typeIs, slot_next.lookup, h⟩
  · unfold argsOk; rw [signature?_of (id := "reversed.__iter__") (n := ['_', '_', 'r', 'e', 't', 'i', '_', '_']) (o := ['d', 'e', 's', 'r', 'e', 'v', 'e', 'r']) (by kernel_rfl) owner_rv]; kernel_rfl
theorem walk_rv (hh : A.handled = none) (I l : Addr) (hne : l ≠ I) (items : Array Value) (hz : items.size ≤ 1000) :
    Walks prog w A I [I, l] [I] items.size (fun i v => items.toList.reverse[i]? = some v) (fun i h => IsRv h I l ((items.size : Int) - 1 - i) ∧ h.IsTuple l items) where
  sub := fun b hb => by simp at hb; simp [hb]
  frame := fun i h h' st hk => by
    obtain ⟨⟨o, ho, r⟩, ⟨u, hu, q⟩⟩ := st
    exact ⟨⟨o, hk I (by simp) _ ho, r⟩, ⟨u, hk l (by simp) _ hu, q⟩⟩
  item := fun i s Q E hi st hQ => by
    have e : ((items.size : Int) - 1 - i) = ((items.size - 1 - i : Nat) : Int) := by omega
    have h1 := st.1
    rw [e] at h1
    have hj : items.size - 1 - i < items.size := by omega
    refine next_item h1 st.2 hz (x := items[items.size - 1 - i]) (Array.getElem?_eq_getElem hj) fun h' tk hit' hs' => ?_
    refine hQ _ h' tk ?_ ⟨?_, ?_⟩ fun b o hb z => (hs'.2 b (fun q => hb (by simp [q]))).trans z
    · rw [List.getElem?_reverse (by simpa using hi), Array.length_toList, Array.getElem?_toList, Array.getElem?_eq_getElem hj]
    · have e2 : ((items.size : Int) - 1 - ((i + 1 : Nat) : Int)) = ((items.size - 1 - i : Nat) : Int) - 1 := by omega
      rw [e2]
      exact hit'
    · obtain ⟨u, hu, q⟩ := st.2
      exact ⟨u, (hs'.2 l hne).trans hu, q⟩
  done := fun s Q E st hQ => by
    have h1 := st.1
    rw [show ((items.size : Int) - 1 - (items.size : Nat)) = -1 by omega] at h1
    exact next_done hh h1 fun h' kp => hQ h' s.toks fun b o hb z => kp b o (fun q => hb (by simp [q])) z
  self := fun i s Q E st hQ => rv_self st.1 hQ
theorem slot_hint : Slot "reversed" "__length_hint__" "reversed.__length_hint__" :=
  .of (owner := "reversed") (n := "__length_hint__") (by rw [typeLookup_type, builtinLookup_eq_fast]; kernel_rfl) (by decide +kernel) (by decide +kernel) (by decide +kernel)
    (by first | exact .inl (by decide +kernel) | exact .inr (by decide +kernel)) (by rw [isSubtype_type]; kernel_rfl)
theorem entry_hint : entryFor table "reversed.__length_hint__" = some Builtin.«reversed.__length_hint__» := entryFor_of_tree (by kernel_rfl)
theorem no_len : typeLookup (.type "reversed") "__len__" = pure none := by rw [typeLookup_type, builtinLookup_eq_fast]; kernel_rfl
theorem args_hint (a : Value) : argsOk "reversed.__length_hint__" ⟨[a], []⟩ := by
  unfold argsOk; rw [signature?_of (id := "reversed.__length_hint__") (n := ['_', '_', 't', 'n', 'i', 'h', '_', 'h', 't', 'g', 'n', 'e', 'l', '_', '_']) (o := ['d', 'e', 's', 'r', 'e', 'v', 'e', 'r']) (by kernel_rfl) owner_rv]; kernel_rfl
theorem hint_call {I l : Addr} {items : Array Value} {Q : Value → Shared → Prop} (hit : IsRv s.heap I l ((items.size : Int) - 1)) (hl : s.heap.IsTuple l items) (hz : items.size ≤ 1000) (h : ∀ tk t, Q (.int (items.size : Int) t) { s with toks := tk }) :
    wpAny (model prog w) A (call (.builtin "reversed.__length_hint__") [.ref I]) Q E s := by
  obtain ⟨o, ho, hc, hd⟩ := id hit
  refine wpAny_call_entry slot_hint hit.typeIs entry_hint ?_ (args_hint _)
  unfold Builtin.«reversed.__length_hint__»
  refine wpAny_bind (wpAny_of_eq (a := Value.ref I) rfl ?_)
  refine wpAny_bind (wpAny_field ho hd (x := .ref l) rfl ?_)
  rw [if_neg (show ¬ ((Value.ref l == Value.none) = true) from Bool.false_ne_true)]
  refine wpAny_bind (PyProof.Rows.len_tuple hl (by omega) ?_)
  refine wpAny_bind (m := asInt? _) (wpAny_pure ?_)
  try dsimp only
  refine wpAny_bind (wpAny_field (s := { s with toks := _ }) ho hd (x := rawInt ((items.size : Int) - 1)) rfl ?_)
  show wpAny _ _ (if (items.size : Int) < (items.size : Int) - 1 + 1 then _ else retInt ((items.size : Int) - 1 + 1)) _ _ _
  rw [if_neg (by omega), show (items.size : Int) - 1 + 1 = (items.size : Int) by omega]
  exact wpAny_bind (wpAny_mkInt (wpAny_pure ⟨_, rfl, h _ _⟩))
/-- the things of reversed(t), collected -/
theorem collect_rv {I l : Addr} {items : Array Value} {Q : List Value → Shared → Prop} (hh : A.handled = none) (hit : IsRv s.heap I l ((items.size : Int) - 1)) (hl : s.heap.IsTuple l items) (hne : l ≠ I) (hz : items.size ≤ 1000)
    (h : ∀ (h' : Heap) (tk : Nat), (∀ b o, b ≠ I → s.heap.get? b = some o → h'.get? b = some o) → s.heap.objs.size ≤ h'.objs.size → Q items.toList.reverse { s with heap := h', toks := tk }) : wpAny (model prog w) A (collect (.ref I)) Q E s := by
  obtain ⟨oI, hoI, hcI, hdI⟩ := id hit
  obtain ⟨ol, hol, rl⟩ := id hl
  unfold collect
  refine wpAny_bind (wpAny_runValue (codeAny_builtin PySem.F.entry_proto_collect ?_))
  rw [Around.under_plainId PySem.F.plain_proto_collect _]
  show wpAny _ A.in1 (newList [] >>= fun l => again (.builtin "list.__iadd__" ⟨[l, .ref I], []⟩)) _ _ s
  refine wpAny_bind (wpAny_newObj_type (wpAny_pure ⟨plainId_quiet PySem.F.plain_list_iadd _, codeAny_builtin PySem.F.entry_list_iadd ?_⟩))
  rw [Around.under_plainId PySem.F.plain_list_iadd _]
  generalize e0 : s.heap.push { cls := .type "list", data := .seq ([] : List Value).toArray } = h0
  have g0 : h0.get? s.heap.objs.size = some { cls := .type "list", data := .seq ([] : List Value).toArray } := by rw [← e0]; exact Heap.get?_push_size _ rfl
  have k0 : ∀ b o, s.heap.get? b = some o → h0.get? b = some o := fun b o z => by rw [← e0]; exact Heap.get?_push_of_some _ z
  have hit0 : IsRv h0 I l ((items.size : Int) - 1) := ⟨oI, k0 _ _ hoI, hcI, hdI⟩
  have hl0 : h0.IsTuple l items := ⟨ol, k0 _ _ hol, rl⟩
  have hIl : I < s.heap.objs.size := Heap.lt_size hoI
  have hll : l < s.heap.objs.size := Heap.lt_size hol
  have h1 : Builtin.List.listSameRef (.ref s.heap.objs.size) (.ref I) = false := by simp [Builtin.List.listSameRef, Nat.ne_of_gt hIl]
  have hT : Shared.TypeIs { s with heap := h0 } (.ref I) "reversed" := ⟨oI, k0 _ _ hoI, hcI⟩
  show wpAny _ A.in1 (Builtin.List.listExtendWith (.ref s.heap.objs.size) (.ref I) (.ref s.heap.objs.size)) _ _ _
  unfold Builtin.List.listExtendWith
  refine wpAny_bind (wpAny_typeOf hT ?_)
  rw [if_neg (by rw [h1]; decide)]
  refine wpAny_bind (rv_self (s := { s with heap := h0 }) hit0 ?_)
  have W := walk_rv (prog := prog) (w := w) (A := A.in1) (show A.in1.handled = none from hh) I l hne items hz
  have hn : items.size ≤ sizeLine := by rw [sizeLine_eq]; omega
  have hSf : s.heap.objs.size ∉ [I, l] := fun z => by
    rcases List.mem_cons.mp z with q | q
    · exact absurd q (Nat.ne_of_gt hIl)
    · exact absurd (List.mem_singleton.mp q) (Nat.ne_of_gt hll)
  have hend : ∀ (h2 : Heap) (c2 tk2 : Nat), (∀ b o, b ≠ s.heap.objs.size → h0.get? b = some o → h2.get? b = some o) → h2.get? s.heap.objs.size = some { cls := .type "list", data := .seq #[] c2 } → codeAny (model prog w) A (.builtin "list.extend.loop" ⟨[.ref s.heap.objs.size, .ref I, .ref s.heap.objs.size], []⟩) (fun r s' => match r with
      | .ok (.ret (.ref a)) => a = s.heap.objs.size ∧ ∃ acc c, s'.heap.get? s.heap.objs.size = some { cls := .type "list", dict := none, data := .seq acc c, slots := #[] } ∧ Q acc.toList s'
      | _ => False) { s with heap := h2, toks := tk2 } := by
    intro h2 c2 tk2 k2 g2
    have st : IsRv h2 I l ((items.size : Int) - 1 - (0 : Nat)) ∧ h2.IsTuple l items := by
      rw [show (items.size : Int) - 1 - (0 : Nat) = (items.size : Int) - 1 by omega]
      exact ⟨⟨oI, k2 _ _ (Nat.ne_of_lt hIl) (k0 _ _ hoI), hcI, hdI⟩, ⟨ol, k2 _ _ (Nat.ne_of_lt hll) (k0 _ _ hol), rl⟩⟩
    refine codeAny_extend_loopS W.toS hn _ hSf _ items.size 0 _ #[] _ rfl (Nat.zero_le _) st g2 (ItemsOf.nil _) fun s' acc c hm hS' hacc => ?_
    refine ⟨rfl, acc, c, hS', ?_⟩
    have ea : acc.toList = items.toList.reverse := by
      apply List.ext_getElem?
      intro j
      rcases Nat.lt_or_ge j acc.size with z | z
      · rw [hacc.2 j _ (Array.getElem?_eq_getElem z), Array.getElem?_toList, Array.getElem?_eq_getElem z]
      · rw [List.getElem?_eq_none (by simpa using z), List.getElem?_eq_none (by rw [List.length_reverse, Array.length_toList, ← hacc.1]; exact z)]
    obtain ⟨h', g', d', tk', os'⟩ := s'
    have eg : g' = s.gens := hm.gens
    have ed : d' = s.drawn := hm.drawn
    have eo : os' = s.os := hm.os
    subst eg; subst ed; subst eo
    rw [ea]
    refine h h' tk' (fun b u hb z => hm.heap b u (fun q => ?_) (k2 b u (Nat.ne_of_lt (Heap.lt_size z)) (k0 b u z))) (Nat.le_of_lt (Heap.lt_size hS'))
    rcases List.mem_cons.mp q with q | q
    · exact absurd q (Nat.ne_of_lt (Heap.lt_size z))
    · exact hb (List.mem_singleton.mp q)
  refine wpAny_bind (wpAny_holding ?_)
  unfold Builtin.List.listLengthHint
  refine wpAny_bind (wpAny_specialOf hT no_len ?_)
  show wpAny _ A.in1 (specialOf (Value.ref I) (Str.ofString "__length_hint__") >>= _) _ _ _
  refine wpAny_bind (wpAny_specialOf hT slot_hint.lookup ?_)
  generalize hid : ("reversed.__length_hint__" : String) = id0
  wp_delta
  rw [show splitId id0 = some ("reversed", "__length_hint__") from by subst hid; decide +kernel]
  subst hid
  refine wpAny_bind (wpAny_isInstance (T := "reversed") (b := true) hT (by rw [isSubtype_type]; kernel_rfl) ?_)
  refine wpAny_ite_split (fun z => absurd z (by decide)) (fun _ => ?_)
  refine wpAny_ite_split (fun z => absurd z (by decide +kernel)) (fun _ => ?_)
  refine wpAny_bind (wpAny_rule ?_)
  refine wpAny_bind (wpAny_of_eq (slot_hint.bind (.ref I)) ?_)
  refine wpAny_bind (wpAny_attempt (hint_call (s := { s with heap := h0 }) hit0 hl0 hz fun tk t => ?_))
  generalize hn' : (items.size : Int) = n
  show wpAny _ _ (asInt? (.int n t) >>= _) _ _ _
  refine wpAny_bind (wpAny_of_eq (a := some n) rfl ?_)
  show wpAny _ _ (if (!Builtin.List.listFitsIndex n) = true then _ else if n < 0 then _ else if Builtin.List.listTooLong n.toNat = true then _ else pure (n != 0)) _ _ _
  rw [if_neg (by rw [fitsIndex_both (by omega) (by omega)]; decide), if_neg (by omega), if_neg (by simp [Builtin.List.listTooLong, sizeLine_eq]; omega)]
  refine wpAny_pure ?_
  have fin : ∀ (r : Result) (s' : Shared), (match r with
      | .ok (.ret (.ref a)) => a = s.heap.objs.size ∧ ∃ acc c, s'.heap.get? s.heap.objs.size = some { cls := .type "list", dict := none, data := .seq acc c, slots := #[] } ∧ Q acc.toList s'
      | _ => False) → wants (fun v s' => wpAny (model prog w) A (match v with | .ref a => (do match (← load a).data with | .seq xs _ => pure xs.toList | _ => unsupported "internal:collect") | _ => unsupported "internal:collect") Q E s') E r s' := fun r s' hr => by
    match r, hr with
    | .ok (.ret (.ref a)), hr =>
      obtain ⟨rfl, acc, c, e1, e2⟩ := hr
      exact wpAny_bind (wpAny_load e1 (wpAny_pure e2))
  refine wpAny_ite_split (fun _ => ?_) (fun _ => wpAny_pure ⟨plainId_quiet PySem.F.plain_extend_loop _, codeAny_mono (hend h0 0 tk (fun b o _ z => z) g0) fin⟩)
  refine wpAny_bind (wpAny_rule (wpAny_bind ?_))
  show wpAny _ _ (updateSeq s.heap.objs.size (·.push .none) >>= fun _ => updateSeq s.heap.objs.size (·.pop)) _ _ _
  refine wpAny_bind (wpAny_updateSeq g0 rfl ?_)
  have g2 := Heap.get?_update_self (Obj.mapSeq (·.push Value.none)) g0 rfl
  refine wpAny_updateSeq (hz := by seq_fits) g2 rfl ?_
  have g3 := Heap.get?_update_self (Obj.mapSeq (·.pop)) g2 rfl
  exact wpAny_pure ⟨plainId_quiet PySem.F.plain_extend_loop _, codeAny_mono (hend _ _ tk (fun b o hb z => (Heap.get?_update_other _ _ (Ne.symm hb)).trans ((Heap.get?_update_other _ _ (Ne.symm hb)).trans z)) g3) fin⟩
theorem slot_init : Slot "reversed" "__init__" "object.__init__" :=
  .of (owner := "object") (n := "__init__") (by rw [typeLookup_type, builtinLookup_eq_fast]; kernel_rfl) (by decide +kernel) (by decide +kernel) (by decide +kernel)
    (by first | exact .inl (by decide +kernel) | exact .inr (by decide +kernel)) (by rw [isSubtype_type]; kernel_rfl)
theorem called_rv : TypeCalled "reversed" "reversed.__new__" "object.__init__" := ⟨by decide +kernel, by decide +kernel, ⟨_, _, F.mro_reversed⟩, F.made_reversed, by decide +kernel, F.sub_reversed_self, slot_init⟩
/-- reversed(t) of a tuple -/
theorem call_rv {l : Addr} {items : Array Value} {Q : Value → Shared → Prop} (hl : s.heap.IsTuple l items) (hz : items.size ≤ 1000)
    (h : ∀ tk, Q (.ref s.heap.objs.size) { s with heap := s.heap.push (rvObj l ((items.size : Int) - 1)), toks := tk }) : wpAny (model prog w) A (call (.type "reversed") [.ref l]) Q E s := by
  refine callType_codes (Q₁ := fun obj s₁ => s₁.TypeIs obj "reversed" ∧ Q obj s₁) called_rv (F.typeCall_reversed_1 _) F.entry_object_init (code_new hl hz fun tk => ⟨⟨_, Heap.get?_push_size _ rfl, rfl⟩, h tk⟩) fun obj s₁ h₁ => ?_
  exact ⟨h₁.1, F.args_object_init_2 obj _, object_init_meets called_rv.init.lookup called_rv.made (by decide) prog w A.in1 _ s₁ ⟨h₁.1, rfl, h₁.2⟩⟩
/-- tuple(reversed(t)), the last part -/
theorem call_tuple_rv {I l : Addr} {items : Array Value} {Q : Value → Shared → Prop} (hh : A.handled = none) (hit : IsRv s.heap I l ((items.size : Int) - 1)) (hl : s.heap.IsTuple l items) (hne : l ≠ I) (hz : items.size ≤ 1000)
    (h : ∀ (h' : Heap) (tk : Nat), (∀ b o, b ≠ I → s.heap.get? b = some o → h'.get? b = some o) → s.heap.objs.size ≤ h'.objs.size → Q (.ref h'.objs.size) { s with heap := h'.push { cls := .type "tuple", data := .seq items.toList.reverse.toArray }, toks := tk }) : wpAny (model prog w) A (call (.type "tuple") [.ref I]) Q E s := by
  refine callType_codes (Q₁ := fun obj s₁ => s₁.TypeIs obj "tuple" ∧ Q obj s₁) F.called_tuple (F.typeCall_tuple_1 _) F.entry_object_init ?_ fun obj s₁ h₁ =>
    ⟨h₁.1, F.args_object_init_2 obj _, object_init_meets F.called_tuple.init.lookup F.called_tuple.made (by decide) prog w A.in1 _ s₁ ⟨h₁.1, rfl, h₁.2⟩⟩
  refine codeAny_of_tree ?_; show wpAny _ A.in1.in1 (do checkBuiltinCall "tuple.__new__" ⟨[.type "tuple", .ref I], []⟩; again (.builtin "tuple.__new__" ⟨[.type "tuple", .ref I], []⟩)) _ _ s
  refine wpAny_bind (wpAny_of_eq (F.newCall_tuple_1 _) (wpAny_pure ⟨plainId_quiet F.plain_tuple_new _, codeAny_builtin F.entry_tuple_new ?_⟩))
  rw [Around.under_plainId F.plain_tuple_new _]
  have c1 := sub_tuple_self
  have c2 := init_tuple_lookup
  have c3 := madeHere_tuple
  have hTI := hit.typeIs (s := s)
  wp_walk using wpAny_typeOf hTI, collect_rv (A := A.in1.in1) (show A.in1.in1.handled = none from hh) hit hl hne hz
  intro h' tk k1 k2
  show wpAny _ _ (Builtin.Tuple.tupleExact items.toList.reverse.toArray >>= fun v => ret v) _ _ _
  unfold Builtin.Tuple.tupleExact
  exact wpAny_bind (wpAny_newObj_type (wpAny_pure ⟨⟨_, Heap.get?_push_size _ rfl, rfl⟩, h h' tk k1 k2⟩) (by show items.toList.reverse.toArray.size ≤ sizeLine; simp; rw [sizeLine_eq]; omega))
end
end RV
/-! my own rules over the layer: tuple(reversed(t)) of a tuple -/
namespace L2
open PySem PySem.Spec PyProof.Rows
theorem bt_reversed : bootBuiltins "reversed" = some (.type "reversed") := by decide +kernel
theorem bt_tupleT : bootBuiltins "tuple" = some (.type "tuple") := by decide +kernel
section
variable {X : Cx}
/-- tuple(reversed(t)) -/
def tTR (K : PySem.W.Frag) (ta : TA) : TE := fun σ H Q => ta σ H fun vs H1 => ∃ (a : Addr) (xs : List V), vs = [.ref a] ∧ SqT K H1 a xs ∧ xs.length ≤ 1000 ∧ ∀ l H', Same H1 H' → TupF H' l xs.reverse → Q (.ref l) H'
theorem vals_rev {xs : List V} {us : List Value} (h : Vals xs us) : Vals xs.reverse us.reverse := by
  induction h with
  | nil => exact .nil
  | cons r rr ih =>
    rw [List.reverse_cons, List.reverse_cons]
    exact Vals.append ih (.cons r .nil)
theorem pe_tupRev {a : Expr} {ta : TA} {p p' pos pos' : Pos} {K : PySem.W.Frag} (hc : X.calm = true) (hK : X.K = K) (hgl : Gl X "tuple") (hml : X.mg "tuple" = none) (hgr : Gl X "reversed") (hmr : X.mg "reversed" = none) (ha : PA X [a] ta)
    (hs : starEach [a] X.env = [(false, eval a X.env)] := by rfl) (he : starEach [.Call (.Name "reversed" p') [a] [] pos'] X.env = [(false, eval (.Call (.Name "reversed" p') [a] [] pos') X.env)] := by rfl) :
    PE X (.Call (.Name "tuple" p) [.Call (.Name "reversed" p') [a] [] pos'] [] pos) (tTR K ta) := by
  subst hK
  intro pins s σ H Q I h
  refine wpAny_Call_Name_kw (ld_blt I hgl hml bt_tupleT ?_ (by decide) (by decide))
  refine PyProof.Rows.callWith_type1 ?_ he rfl
  rw [he]
  refine Calls.spliced_cons ?_
  refine Call_ (ld_blt I hgr hmr bt_reversed (PyProof.Rows.callWith_type1 (thn (ha pos' pins s σ H _ I h) fun us s1 ⟨vs, H1, I1, r1, q1⟩ => ?_) hs rfl))
  obtain ⟨l, xs, e, hq, hz, q⟩ := q1
  subst e
  cases r1 with
  | cons r rr =>
    cases rr
    cases r
    obtain ⟨its, rv, ht, hzz⟩ := I1.tuple hq
    have hl : its.length = xs.length := rv.length.symm
    have hl2 : its.toArray.size ≤ 1000 := by rw [List.size_toArray, hl]; exact hz
    have hlt : l < s1.heap.objs.size := by
      obtain ⟨o, ho, _⟩ := id ht
      exact Heap.lt_size ho
    refine RV.call_rv ht hl2 fun tk => (Calls.spliced_nil ?_)
    have g0 : (s1.heap.push (RV.rvObj l ((its.toArray.size : Int) - 1))).get? s1.heap.objs.size = some (RV.rvObj l ((its.toArray.size : Int) - 1)) := Heap.get?_push_size _ rfl
    have n0 : (s1.heap.push (RV.rvObj l ((its.toArray.size : Int) - 1))).objs.size = s1.heap.objs.size + 1 := Heap.size_push ..
    have k0 : ∀ b o, s1.heap.get? b = some o → (s1.heap.push (RV.rvObj l ((its.toArray.size : Int) - 1))).get? b = some o := fun b o z => Heap.get?_push_of_some _ z
    generalize s1.heap.push (RV.rvObj l ((its.toArray.size : Int) - 1)) = h0 at *
    have ht0 : h0.IsTuple l its.toArray := by
      obtain ⟨o, ho, z⟩ := id ht
      exact ⟨o, k0 _ _ ho, z⟩
    refine RV.call_tuple_rv (s := { s1 with heap := h0, toks := tk }) (I1.ok.hd hc) ⟨_, g0, rfl, rfl⟩ ht0 (Nat.ne_of_lt hlt) hl2 fun h' tk' kp hsz => ?_
    have kk : ∀ b o, s1.heap.get? b = some o → h'.get? b = some o := fun b o z => kp b o (Nat.ne_of_lt (Heap.lt_size z)) (k0 b o z)
    have hle : s1.heap.objs.size ≤ h'.objs.size := by
      have : h0.objs.size ≤ h'.objs.size := hsz
      omega
    have I2 : Inv X pins σ (upd H1 h'.objs.size (.frz { cls := .type "tuple", data := .seq its.reverse.toArray } (.tup xs.reverse))) { s1 with heap := h'.push { cls := .type "tuple", data := .seq its.reverse.toArray }, toks := tk' } :=
      I1.laid (t' := tk') (fun b o e => Heap.get?_push_of_some _ (kk b o e)) hle (show ObjOk X.prog X.w _ _ _ (.frz _ (.tup xs.reverse)) from ⟨Heap.get?_push_size _ rfl, by rw [List.length_reverse]; exact hzz, its.reverse, vals_rev rv, IsTup.new _ _⟩)
    exact ⟨.ref h'.objs.size, _, I2, rfl, q _ _ (same_new (I1.hok.fresh hle) _) ⟨_, upd_same, rfl, rfl⟩⟩
end
end L2
/-! my own rules over the layer: (a, b, ..) = a list of that length -/
namespace L2
open PySem PySem.Spec PyProof.Rows
section
variable {X : Cx}
def gLst (K : PySem.W.Frag) (n : Nat) (t : TGs) : TG := fun v σ H Q => ∃ a xs, v = .ref a ∧ SqL K H a xs ∧ xs.length = n ∧ t xs σ H Q
end
end L2
namespace L2
open PySem PySem.Spec PyProof.Rows
section
variable {X : Cx} {st : Stmt} {t : TS}
/-- a statement, and what is known behind it, said on its own -/
def tJoin (t : TS) : TS := fun D σ H => ∃ R : St → Hp → Prop, t { D with nx := R } σ H ∧ ∀ σ' H', R σ' H' → D.nx σ' H'
theorem ps_join (h : PS X st t) : PS X st (tJoin t) := by
  intro pins s σ H D I ⟨R, h1, h2⟩
  refine thn (h pins s σ H { D with nx := R } I h1) fun f s1 q => ?_
  cases f with
  | next =>
    obtain ⟨σ', H', I', q⟩ := q
    exact ⟨σ', H', I', h2 _ _ q⟩
  | ret v => exact q
  | brk => exact q
  | cont => exact q
end
end L2
namespace L2
open PySem
end L2
namespace L2
open PySem PySem.Spec PyProof.Rows
section
variable {X : Cx}
end
end L2
/-! my own rules over the layer: texts -/
namespace L2
open PySem PySem.Spec PyProof.Rows
section
variable {X : Cx}
/-- text.startswith(text) -/
theorem mt_starts : MtR X "str.startswith" (fun x xs H Q => ∃ a b, x = .str a ∧ xs = [.str b] ∧ Q (.bl (Txt.startswith a b)) H) := by
  intro pins s σ H x xs v us Q I rx rv h
  obtain ⟨a, b, rfl, rfl, q⟩ := h
  obtain ⟨t, rfl⟩ := rx
  obtain ⟨u, rfl, ru⟩ := rv.one
  obtain ⟨t2, rfl⟩ := ru
  exact SC.startswith ⟨.bl _, H, I, rfl, q⟩
/-- int(text) -/
theorem call_intT : CallR X (.type "int") (fun xs H Q => ∃ x n, xs = [.str x] ∧ x.length ≤ 640 ∧ PySem.intText? x = some n ∧ Q (.int n) H) := by
  intro pins s σ H xs us Q I r h
  obtain ⟨x, n, rfl, hl, hn, q⟩ := h
  obtain ⟨u, rfl, t, rfl⟩ := vals1 r
  exact PySem.W.KIN.call_text hn hl ⟨.int n, H, I.tok _, ⟨_, rfl⟩, q⟩
/-- text[lo:hi] -/
theorem sl_str : SlR X (fun x lo hi H Q => ∃ a, x = .str a ∧ a.length ≤ sizeLine ∧ Q (.str (Txt.slice a lo hi)) H) := by
  intro pins s σ H x v vl vu lo hi sl Q I rx hs pl pu h
  obtain ⟨a, rfl, hz, q⟩ := h
  obtain ⟨t, rfl⟩ := rx
  refine ⟨"str", _, F.slot_str_getitem.lookup, typeIs_str _ _ _, ?_⟩
  have fin : ∀ t' k, EP X pins σ Q (.str (Txt.slice a lo hi) t') { s with toks := k } := fun t' k => ⟨.str _, H, I.tok k, ⟨_, rfl⟩, q⟩
  cases pl with
  | none =>
    cases pu with
    | none => exact wpAny_getItem_str_slice (l := none) (u := none) (st := none) hs rfl (post_val_or_str ⟨Nat.le_trans (Txt.slice_le a _ _) hz, fin⟩)
    | int j uj => exact wpAny_getItem_str_slice (l := none) (u := some (j, uj)) (st := none) hs rfl (post_val_or_str ⟨Nat.le_trans (Txt.slice_le a _ _) hz, fin⟩)
  | int i ui =>
    cases pu with
    | none => exact wpAny_getItem_str_slice (l := some (i, ui)) (u := none) (st := none) hs rfl (post_val_or_str ⟨Nat.le_trans (Txt.slice_le a _ _) hz, fin⟩)
    | int j uj => exact wpAny_getItem_str_slice (l := some (i, ui)) (u := some (j, uj)) (st := none) hs rfl (post_val_or_str ⟨Nat.le_trans (Txt.slice_le a _ _) hz, fin⟩)
theorem strs_of : ∀ {ts : List Str} {its : List Value}, Vals (ts.map V.str) its → ∃ l : List (Str × Tok), strValues l = its ∧ l.map (·.1) = ts
  | [], _, .nil => ⟨[], rfl, rfl⟩
  | x :: ts, _, .cons r rr => by
    obtain ⟨t, rfl⟩ := r
    obtain ⟨l, h1, h2⟩ := strs_of rr
    exact ⟨(x, t) :: l, by rw [← h1]; rfl, by rw [List.map_cons, h2]⟩
/-- text.join(list of texts) -/
theorem mt_join : MtR X "str.join" (fun x xs H Q => ∃ a D ts, x = .str a ∧ xs = [.ref D] ∧ SqL X.K H D (ts.map V.str) ∧ JoinOk a ts = true ∧ Q (.str (Txt.join a ts)) H) := by
  intro pins s σ H x xs v us Q I rx rv h
  obtain ⟨a, D, ts, rfl, rfl, hD, hok, q⟩ := h
  obtain ⟨t, rfl⟩ := rx
  obtain ⟨u, rfl, ru⟩ := rv.one
  cases ru
  obtain ⟨its, r, p, hz⟩ := I.list hD
  obtain ⟨l, h1, h2⟩ := strs_of r
  exact SC.join (l := l) (by rw [h1]; exact p.isList) h2 hok fun t' k => ⟨.str _, H, I.tok k, ⟨_, rfl⟩, q⟩
theorem vals_strs : ∀ (l : List (Str × Tok)), Vals ((l.map (·.1)).map V.str) (strValues l)
  | [] => .nil
  | p :: l => .cons ⟨p.2, rfl⟩ (vals_strs l)
open Builtin Builtin.Str in
/-- text.split(text) -/
theorem mt_split : MtR X "str.split" (fun x xs H Q => ∃ a b, x = .str a ∧ xs = [.str b] ∧ (b.length == 0) = false ∧ a.length ≤ sizeLine ∧ (partsBetween a (occurrences a b 0 a.length (a.length + 1)) b.length).length ≤ sizeLine ∧ (Txt.split a b).length ≤ sizeLine ∧
    ∀ l, H l = none → Q (.ref l) (upd H l (.lst ((Txt.split a b).map V.str)))) := by
  intro pins s σ H x xs v us Q I rx rv h
  obtain ⟨a, b, rfl, rfl, nb, za, zp, zs, q⟩ := h
  obtain ⟨ta, rfl⟩ := rx
  obtain ⟨u, rfl, ru⟩ := rv.one
  obtain ⟨tb, rfl⟩ := ru
  have fin : ∀ (l : List (Str × Tok)) (k : Nat), l.map (·.1) = Txt.split a b → EP X pins σ Q (.ref s.heap.objs.size) { s with heap := s.heap.push { cls := .type "list", data := .seq (strValues l).toArray }, toks := k } := fun l k e => by
    refine ⟨.ref s.heap.objs.size, _, I.laid (t' := k) (a := s.heap.objs.size) (o := .lst ((Txt.split a b).map V.str)) (fun b ob z => Heap.get?_push_of_some _ z) (Nat.le_refl _) ?_, rfl, q _ (I.hok.fresh (Nat.le_refl _))⟩
    refine ⟨by rw [List.length_map]; exact zs, strValues l, 0, ?_, Heap.get?_push_size _ rfl⟩
    rw [← e]
    exact vals_strs l
  have met : ∀ {m}, Meets _ m → _ → wpAny (model X.prog X.w) X.A (call (.builtin "str.split") [.str a ta, .str b tb]) (EP X pins σ Q) X.xe s := fun hm hp => call_meets F.slot_str_split (typeIs_str _ _ _) F.entry_str_split (F.args_str_split_2 _ _) hm hp
  by_cases c1 : (decide (a.length < b.length) || decide (strKind a < strKind b)) = true
  · exact met (meets_str_split_cannot_occur a b ta tb c1) (fin [(a, ta)] s.toks (if_pos c1).symm)
  by_cases c2 : (occurrences a b 0 a.length (a.length + 1)).isEmpty = true
  · exact met (meets_str_split_not_found a b ta tb (eq_false_of_ne_true c1) nb c2) (fin [(a, ta)] s.toks ((if_neg c1).trans (if_pos c2)).symm)
  refine met (meets_str_split_sep a b ta tb (eq_false_of_ne_true c1) nb (eq_false_of_ne_true c2) za zp) ?_
  have z := fin (numbered s.toks (partsBetween a (occurrences a b 0 a.length (a.length + 1)) b.length)) (s.toks + (partsBetween a (occurrences a b 0 a.length (a.length + 1)) b.length).length) ((numbered_texts _ _).trans ((if_neg c1).trans (if_neg c2)).symm)
  rw [← strsFrom_eq] at z
  exact z
/-! ### f'..' -/
abbrev TJ := St → Hp → Str → (Str → Hp → Prop) → Prop
def PJ (X : Cx) (es : List Expr) (t : TJ) : Prop := ∀ (pins : List (Addr × Obj)) (s : Shared) (σ : St) (H : Hp) (acc : Str) (Q : Str → Hp → Prop), Inv X pins σ H s → t σ H acc Q →
  Joins (model X.prog X.w) X.A X.xe (evalEach es X.env) acc (fun out s1 => ∃ H', Inv X pins σ H' s1 ∧ Q out H') s
def tJn : TJ := fun _ H acc Q => Q acc H
def tJc (te : TE) (tr : TJ) : TJ := fun σ H acc Q => te σ H fun v H1 => ∃ y, v = .str y ∧ (acc ++ y).length ≤ sizeLine ∧ tr σ H1 (acc ++ y) Q
def tJ (t : TJ) : TE := fun σ H Q => t σ H Str.empty fun out H' => out.length ≤ sizeLine ∧ Q (.str out) H'
def tFv (te : TE) : TE := fun σ H Q => te σ H fun v H1 => ∃ y, v = .str y ∧ y.length ≤ sizeLine ∧ Q (.str y) H1
end
end L2
/-! my own rules over the layer: a text gone through; things alike however deep; list.extend by a tuple -/
namespace L2
open PySem PySem.Spec PyProof.Rows
def Its (x : Str) : It := ⟨fun i _ => i < x.cps.size, fun i H v H' => H' = H ∧ ∃ c, x.cps[i]? = some c ∧ v = .str ⟨#[c]⟩, fun i _ => x.cps.size ≤ i⟩
theorem turn_ascii {P : Program} {w : World} {K : PySem.W.Frag} {tg : Expr} (x : Str) (t : Tok) (it : Addr) : Turn P w K tg (Its x) [it] it (fun i h => h.IsStrIter it "str_ascii_iterator" x t i) where
  mem := by simp
  obj := fun i h st b hb => by
    have e : b = it := by simpa using hb
    subst e
    obtain ⟨o, e, c, d⟩ := st
    exact ⟨o, e, fun v z => by rw [d] at z; cases z⟩
  keep := fun i h h' st k => by
    obtain ⟨o, e, c, d⟩ := st
    exact ⟨o, k it (by simp) o e, c, d⟩
  item := by
    intro X hP hw hK hc i pins s σ H E I hf st hg
    subst hP hw hK
    obtain ⟨f0, f1, f2, f3, f4, f5⟩ := hf it (by simp)
    have hx : x.cps[i]? = some (x.cps[i]'hg) := Array.getElem?_eq_getElem hg
    refine wpAny_pyNext_ascii_item st hx fun h' st' sb => ?_
    have I1 : Inv X pins σ H { s with heap := h', toks := s.toks + 1 } := I.turned (t' := s.toks + 1) (fun b o hb e => (sb.2 b hb).trans e) f0 f1 f3 f4 f5
    obtain ⟨o, e, c, d⟩ := id st'
    exact ⟨_, rfl, go_of (s := { s with heap := h', toks := s.toks + 1 }) e c d (by decide) ⟨.str ⟨#[x.cps[i]'hg]⟩, H, I1, ⟨_, rfl⟩, ⟨rfl, _, hx, rfl⟩, st', fun b hb => (hf b hb).1⟩⟩
  done := by
    intro X hP hw hK hc i pins s σ H E I hf st hg
    subst hP hw hK
    obtain ⟨f0, f1, f2, f3, f4, f5⟩ := hf it (by simp)
    have hg' : x.cps.size ≤ i := hg
    exact wpAny_pyNext_ascii_end (I.ok.hd hc) st (by simp [hg']) fun h' eb => ⟨rfl, I.turned (t' := s.toks) (fun b o hb e => eb b o hb e) f0 f1 f3 f4 f5⟩
  self := fun _ _ _ _ _ st h => wpAny_pyIter_striter_ascii st h
theorem turn_wide {P : Program} {w : World} {K : PySem.W.Frag} {tg : Expr} (x : Str) (t : Tok) (it : Addr) : Turn P w K tg (Its x) [it] it (fun i h => h.IsStrIter it "str_iterator" x t i) where
  mem := by simp
  obj := fun i h st b hb => by
    have e : b = it := by simpa using hb
    subst e
    obtain ⟨o, e, c, d⟩ := st
    exact ⟨o, e, fun v z => by rw [d] at z; cases z⟩
  keep := fun i h h' st k => by
    obtain ⟨o, e, c, d⟩ := st
    exact ⟨o, k it (by simp) o e, c, d⟩
  item := by
    intro X hP hw hK hc i pins s σ H E I hf st hg
    subst hP hw hK
    obtain ⟨f0, f1, f2, f3, f4, f5⟩ := hf it (by simp)
    have hx : x.cps[i]? = some (x.cps[i]'hg) := Array.getElem?_eq_getElem hg
    refine wpAny_pyNext_wide_item st hx fun h' st' sb => ?_
    have I1 : Inv X pins σ H { s with heap := h', toks := s.toks + 1 } := I.turned (t' := s.toks + 1) (fun b o hb e => (sb.2 b hb).trans e) f0 f1 f3 f4 f5
    obtain ⟨o, e, c, d⟩ := id st'
    exact ⟨_, rfl, go_of (s := { s with heap := h', toks := s.toks + 1 }) e c d (by decide) ⟨.str ⟨#[x.cps[i]'hg]⟩, H, I1, ⟨_, rfl⟩, ⟨rfl, _, hx, rfl⟩, st', fun b hb => (hf b hb).1⟩⟩
  done := by
    intro X hP hw hK hc i pins s σ H E I hf st hg
    subst hP hw hK
    obtain ⟨f0, f1, f2, f3, f4, f5⟩ := hf it (by simp)
    have hg' : x.cps.size ≤ i := hg
    exact wpAny_pyNext_wide_end (I.ok.hd hc) st (by simp [hg']) fun h' eb => ⟨rfl, I.turned (t' := s.toks) (fun b o hb e => eb b o hb e) f0 f1 f3 f4 f5⟩
  self := fun _ _ _ _ _ st h => wpAny_pyIter_striter_wide st h
section
variable {X : Cx} {tg : Expr}
def iStr (tl : TE) : TI := fun σ H R => tl σ H fun v H1 => ∃ x, v = .str x ∧ R (Its x) H1
theorem pi_str {l : Expr} {tl : TE} (hl : PE X l tl) : PI X tg l (iStr tl) := by
  intro pins s σ H R I h
  refine thn (hl pins s σ H _ I h) fun v s1 ⟨v0, H1, I1, r1, q1⟩ => ?_
  obtain ⟨x, e, q⟩ := q1
  subst e
  obtain ⟨t, rfl⟩ := r1
  have hb : ∀ b ∈ [s1.heap.objs.size], FpOk X pins H1 b := fun b hb => by
    have e : b = s1.heap.objs.size := by simpa using hb
    subst e
    exact I1.fpOk (Nat.le_refl _) (I1.hok.fresh (Nat.le_refl _))
  cases ha : x.cps.all (· < 128)
  · refine wpAny_pyIter_wide ha ?_
    exact ⟨s1.heap.objs.size, [s1.heap.objs.size], _, _, H1, rfl, I1.kept (t' := s1.toks) fun b o e => Heap.get?_push_of_some _ e, turn_wide x t _, ⟨_, Heap.get?_push_size _ rfl, rfl, rfl⟩, hb, q⟩
  · refine wpAny_pyIter_ascii ha ?_
    exact ⟨s1.heap.objs.size, [s1.heap.objs.size], _, _, H1, rfl, I1.kept (t' := s1.toks) fun b o e => Heap.get?_push_of_some _ e, turn_ascii x t _, ⟨_, Heap.get?_push_size _ rfl, rfl, rfl⟩, hb, q⟩
end
/-- gone through a text, each told by g -/
theorem comp_str {x : Str} {g : Nat → V} {Te : V → Hp → (V → Hp → Prop) → Prop} {D : Addr} {H1 : Hp} {R : Hp → Prop}
    (hD : H1 D = none) (hn : x.length ≤ sizeLine) (hE : ∀ c ∈ x.cps.toList, ∀ (H : Hp) (Q : V → Hp → Prop), Same H1 H → Q (g c) H → Te (.str ⟨#[c]⟩) H Q) (hR : R (upd H1 D (.lst (x.cps.toList.map g)))) :
    ∃ W : Nat → Nat → List V → Hp → Prop, (∃ m, W 0 m [] (upd H1 D (.lst []))) ∧
      ∀ i m ys H2, W i m ys H2 → H2 D = some (.lst ys) ∧ (((Its x).stop i H2 ∧ R H2) ∨ ((Its x).go i H2 ∧ ys.length < sizeLine ∧ ∃ N : V → Hp → Prop, (∀ y H3, N y H3 → H3 D = some (.lst ys) ∧ ∃ m', m' < m ∧ W (i + 1) m' (ys ++ [y]) (upd H3 D (.lst (ys ++ [y])))) ∧
        ∀ v H', (Its x).yld i H2 v H' → Te v H' N)) := by
  have hl : x.cps.toList.length = x.cps.size := by simp
  have hl2 : x.length = x.cps.size := rfl
  refine ⟨fun i m ys H => m = x.cps.size - i ∧ i ≤ x.cps.size ∧ ys = (x.cps.toList.take i).map g ∧ H = upd H1 D (.lst ys), ⟨x.cps.size, by simp, Nat.zero_le _, by simp, rfl⟩, ?_⟩
  rintro i m ys H2 ⟨rfl, hi, hy, rfl⟩
  refine ⟨upd_same, ?_⟩
  by_cases c : i < x.cps.size
  · right
    refine ⟨c, ?_, fun y H3 => y = g x.cps[i] ∧ H3 = upd H1 D (.lst ys), ?_, ?_⟩
    · rw [hy, List.length_map, List.length_take]
      omega
    · rintro y H3 ⟨rfl, rfl⟩
      refine ⟨upd_same, _, ?_, rfl, c, ?_, upd_upd⟩
      · omega
      · rw [hy, List.take_add_one, List.map_append]
        congr 1
        rw [Array.getElem?_toList]
        simp [c]
    · rintro v H' ⟨rfl, d, hd, rfl⟩
      have e : d = x.cps[i] := by
        rw [Array.getElem?_eq_getElem c] at hd
        exact (Option.some.inj hd).symm
      subst e
      exact hE _ (by simp) _ _ (same_new hD _) ⟨rfl, rfl⟩
  · left
    refine ⟨Nat.le_of_not_lt c, ?_⟩
    have e : i = x.cps.size := by omega
    rw [hy, e, ← hl, List.take_length]
    exact hR
set_option maxRecDepth 8000 in
open Builtin AutoSeq1 in
section
variable {X : Cx}
end
end L2
/-! my own rules over the layer: defs under another name; methods of an own class, as callers know them -/
namespace L2
open PySem PySem.Spec PyProof.Rows
/-- a def of the top that a second name names, too -/
structure DefA (K : PySem.W.Frag) (mg : Str → Option Value) (al x : Str) (st : Stmt) (ps : List Str) : Prop where
  ex : ∃ (f : Addr) (fd : FuncData), Fun K x x st f fd ∧ (∀ us : List Value, us.length = ps.length → bindArgs fd ⟨us, []⟩ = pure (ps.zip us)) ∧ mg al = some (.ref f)
theorem defA_mk {K : PySem.W.Frag} {h : Heap} {mg : Str → Option Value} {al x : Str} {st : Stmt} {ps : List Str} {f : Addr} {oc : Value} {od an : Option Addr} {osl : Array (Option Value)} {kV doc pm cdv ct : Value}
    (KX : K.In h) (G : h.Ns mainGlobals mg) (a : PySem.W.nsIn K mainGlobals al = some (some (.ref f)))
    (l : K.lookup f = some ⟨oc, od, .func (PySem.W.fnOf x x (defArgs st) (defBody st) (defScope st) .none kV doc pm an cdv ct), osl⟩)
    (c : PySem.W.codeIn K cdv x = true) (k : PySem.W.keepIn K (.ref f) = true)
    (b : ∀ (kV doc pm : Value) (an : Option Addr) (cdv ct : Value) (us : List Value), us.length = ps.length → bindArgs (PySem.W.fnOf x x (defArgs st) (defBody st) (defScope st) .none kV doc pm an cdv ct) ⟨us, []⟩ = pure (ps.zip us)) :
    DefA K mg al x st ps := ⟨f, _, fun_mk l c k, b kV doc pm an cdv ct, PySem.W.mg_of KX G a⟩
/-- a method of an own class -/
structure MDef (K : PySem.W.Frag) (C : Addr) (m qual : Str) (st : Stmt) (ps : List Str) : Prop where
  ex : ∃ (f : Addr) (fd : FuncData), Meth K C m f ∧ Fun K m qual st f fd ∧ ∀ us : List Value, us.length = ps.length → bindArgs fd ⟨us, []⟩ = pure (ps.zip us)
structure MCal (P : Program) (w : World) (K : PySem.W.Frag) (mg : Str → Option Value) (base : Heap) (k : Nat) (C : Addr) (m : Str) (ps : List Str) (sp : Sp) : Prop where
  cl : Cls K C
  ex : ∃ (f : Addr) (fd : FuncData), Meth K C m f ∧ FnOk P w K mg base CX0 k f fd ps sp ∧ Binds K fd ps []
/-- an own class, made by its __init__ -/
structure IDef (K : PySem.W.Frag) (C : Addr) (qual : Str) (st : Stmt) (ps : List Str) : Prop where
  ex : ∃ (f : Addr) (fd : FuncData), Mk K C f ∧ Fun K "__init__" qual st f fd ∧ ∀ us : List Value, us.length = ps.length → bindArgs fd ⟨us, []⟩ = pure (ps.zip us)
structure ICal (P : Program) (w : World) (K : PySem.W.Frag) (mg : Str → Option Value) (base : Heap) (k : Nat) (C : Addr) (ps : List Str) (sp : Sp) : Prop where
  ex : ∃ (f : Addr) (fd : FuncData), Mk K C f ∧ FnOk P w K mg base CX0 k f fd ps sp ∧ Binds K fd ps []
section
variable {P : Program} {w : World} {K : PySem.W.Frag} {mg : Str → Option Value} {base : Heap} {k : Nat} {C : Addr} {al x m qual : Str} {st : Stmt} {ps : List Str} {sp : Sp}
theorem DefA.cal (d : DefA K mg al x st ps) (F : ∀ (f : Addr) (fd : FuncData), Fun K x x st f fd → FnOk P w K mg base CX0 k f fd ps sp) : Cal P w K mg base k al ps sp := by
  obtain ⟨f, fd, h1, h2, h3⟩ := d.ex
  exact ⟨f, fd, F f fd h1, .all h2, h1.kp, h3⟩
theorem DefA.recur {sp : Nat → Sp} (d : DefA K mg al x st ps) {k : Nat} (n : Nat)
    (step : ∀ e, e ≤ n → Cal P w K mg base (e + k) al ps (prevSp sp e) → ∀ (f : Addr) (fd : FuncData), Fun K x x st f fd → FnOk P w K mg base CX0 (e + (k + 1)) f fd ps (sp e)) :
    Cal P w K mg base (n + (k + 1)) al ps (fun vs H Q E => ∃ e, e ≤ n ∧ sp e vs H Q E) := by
  obtain ⟨f, fd, h1, h2, h3⟩ := d.ex
  have all : ∀ e, e ≤ n → FnOk P w K mg base CX0 (e + (k + 1)) f fd ps (sp e) := by
    intro e
    induction e with
    | zero => exact fun he => step 0 he ⟨f, fd, ⟨fun _ _ _ _ h => h.elim, fun _ _ _ _ _ _ _ _ _ _ _ _ _ h => h.elim⟩, .all h2, h1.kp, h3⟩ f fd h1
    | succ e ih => exact fun he => step (e + 1) he ⟨f, fd, (ih (by omega)).mono (by omega), .all h2, h1.kp, h3⟩ f fd h1
  refine ⟨f, fd, ⟨?_, ?_⟩, .all h2, h1.kp, h3⟩
  · rintro vs H Q E ⟨e, he, h⟩
    exact (all e he).len vs H Q E h
  · rintro A outer s H args us vs Q E hr he hb hv ⟨e, hle, h⟩
    exact (all e hle).run A outer s H args us vs Q E (hr.mono (by omega)) he hb hv h
theorem MDef.cal (d : MDef K C m qual st ps) (c : Cls K C) (F : ∀ (f : Addr) (fd : FuncData), Fun K m qual st f fd → FnOk P w K mg base CX0 k f fd ps sp) : MCal P w K mg base k C m ps sp := by
  obtain ⟨f, fd, h1, h2, h3⟩ := d.ex
  exact ⟨c, f, fd, h1, F f fd h2, .all h3⟩
theorem IDef.cal (d : IDef K C qual st ps) (F : ∀ (f : Addr) (fd : FuncData), Fun K "__init__" qual st f fd → FnOk P w K mg base CX0 k f fd ps sp) : ICal P w K mg base k C ps sp := by
  obtain ⟨f, fd, h1, h2, h3⟩ := d.ex
  exact ⟨f, fd, h1, F f fd h2, .all h3⟩
end
section
variable {X : Cx} {k : Nat} {C : Addr} {m x : Str} {ps : List Str} {sp : Sp} {p apos pos : Pos} {o e : Expr} {es : List Expr} {to : TE} {t : TA}
/-- o.m(..) -/
theorem pe_mth {pl : Sem Bool} (c : MCal X.prog X.w X.K X.mg X.base k C m ps sp) (hr : Room k X.A) (ho : PE X o to) (ha : PA X (e :: es) t)
    (hst : starEach (e :: es) X.env = (false, eval e X.env) :: starEach es X.env := by rfl) (hpl : (backTo pos (starEach es X.env)).any (·.1) = false := by rfl)
    (ht : eval (.Call (.Attribute o m apos) (e :: es) [] pos) X.env = (do
      let ov ← eval o X.env
      standAt apos.atName
      let (f, first) ← holding [ov] (getMethod ov m pl)
      callWith pos f first (backTo pos (starEach (e :: es) X.env)) (backToKw pos (keywordEach [] X.env))) := by rfl) :
    PE X (.Call (.Attribute o m apos) (e :: es) [] pos) (tMeth C m sp [] E0 to t) := by
  obtain ⟨f, fd, hm, F, B⟩ := c.ex
  exact pe_meth ho c.cl hm F hr B .nil pass0 ha hst hpl ht
/-- C(..) -/
theorem pe_mk (c : ICal X.prog X.w X.K X.mg X.base k C ps sp) (hr : Room (k + 1) X.A) (hg : Gl X x) (hm : X.mg x = some (.ref C)) (ha : PA X (e :: es) t) (hdb : (x == ("__debug__" : Str)) = false := by decide)
    (he : starEach (e :: es) X.env = (false, eval e X.env) :: starEach es X.env := by rfl) (hpl : (backTo pos (starEach es X.env)).any (·.1) = false := by rfl) :
    PE X (.Call (.Name x p) (e :: es) [] pos) (tMake C sp [] E0 t) := by
  obtain ⟨f, fd, M, F, B⟩ := c.ex
  exact pe_make M F hr hg hm B .nil pass0 ha hdb he hpl
end
end L2
/-! a dict of the top, keyed by words -/
namespace L2
open PySem PySem.Spec PyProof.Rows PyProof.Rows.KTD
section
variable {prog : Program} {w : World} {A : Around} {E : Value → Shared → Prop} {s : Shared} {h₀ : Heap} {a : Addr} {δ : Type} {R : δ → Value → Prop} {D : List (Str × δ)} {k : Str} {tk : Tok}
theorem dictGet_tab {Q : Option Value → Shared → Prop} (T : TabOf R h₀ a D) (hk : ∀ b o, h₀.get? b = some o → s.heap.get? b = some o) (h1 : ∀ d v, datumAt k D = some d → R d v → Q (some v) { s with toks := s.toks + 1 })
    (h2 : datumAt k D = none → Q none { s with toks := s.toks + 1 }) : wpAny (model prog w) A (dictGet a (.str k tk)) Q E s := by
  obtain ⟨hm, o, es, ep, ho, hc, hd, hr⟩ := T
  have ho := hk a o ho
  unfold dictGet
  refine wpAny_holding (wpAny_bind (wpAny_pyHash_str (wpAny_bind (kt_dictFind_strs ho hd ?_ ?_))))
  · obtain ⟨l⟩ := es
    simpa using hr.exact
  · have hq : Q (findBy (fun k v => Value.isStr v k) es k) { s with toks := s.toks + 1 } := by
      have hf : findBy (fun k v => Value.isStr v k) es k = Option.map (fun x => DictEntry.val x) (List.find? (fun e => Value.isStr (DictEntry.key e) k) es.toList) := by
        obtain ⟨l⟩ := es
        simp [findBy]
      rw [hf]
      cases hat : datumAt k D with
      | none => rw [hr.find_none hat]; exact h2 hat
      | some d =>
        obtain ⟨v, hv, hfl⟩ := hr.find_some hat
        rw [hv]
        exact h1 d v hat hfl
    rw [findBy_of_findIdx? (fun k v => Value.isStr v k) es k] at hq
    cases hi : Array.findIdx? (fun e => Value.isStr (DictEntry.key e) k) es with
    | none =>
      rw [hi] at hq
      exact wpAny_pure hq
    | some i =>
      rw [hi] at hq
      exact wpAny_bind (wpAny_dictEntries ho hd (wpAny_pure hq))
theorem tab_type (T : TabOf R h₀ a D) (hk : ∀ b o, h₀.get? b = some o → s.heap.get? b = some o) : s.TypeIs (.ref a) "dict" := by
  obtain ⟨hm, o, es, ep, ho, hc, hd, hr⟩ := T
  exact ⟨o, hk a o ho, hc.1⟩
theorem notin_tab {Q : Value → Shared → Prop} (T : TabOf R h₀ a D) (hk : ∀ b o, h₀.get? b = some o → s.heap.get? b = some o) (h : Q (.bool !inKeys k D) { s with toks := s.toks + 1 }) : wpAny (model prog w) A (compareOp .NotIn (.str k tk) (.ref a)) Q E s := by
  have ty := tab_type T hk
  refine id (wpAny_bind (id (wpAny_holding (wpAny_bind (wpAny_specialOf ty (Slot.lookup slot_dict_contains) (id ?_))))))
  rw [if_neg (by rw [beq_builtin_none "dict.__contains__"]; exact Bool.false_ne_true)]
  refine wpAny_bind (wpAny_callSpecialUnlessNone?_slot ty slot_dict_contains (wpAny_call_entry slot_dict_contains ty entry_dict_contains ?body (args_dict_contains (.ref a) (.str k tk))))
  show wpAny (model prog w) _ (bind (dictGet a (.str k tk)) _) _ _ _
  refine wpAny_bind (dictGet_tab T hk (fun d v ha x => ?_) fun hn => ?_)
  · have hb : inKeys k D = true := by rw [← isSome_datumAt, ha]; rfl
    rw [hb] at h
    exact id (wpAny_pure ⟨.bool true, rfl, wpAny_truthy_bool (wpAny_pure h)⟩)
  · have hb : inKeys k D = false := by rw [← isSome_datumAt, hn]; rfl
    rw [hb] at h
    exact id (wpAny_bind (wpAny_pendingKey_other T.1 (wpAny_pure ⟨.bool false, rfl, wpAny_truthy_bool (wpAny_pure h)⟩)))
theorem getItem_tab {Q : Value → Shared → Prop} (T : TabOf R h₀ a D) (hk : ∀ b o, h₀.get? b = some o → s.heap.get? b = some o) {d : δ} (hd : datumAt k D = some d) (h : ∀ v, R d v → Q v { s with toks := s.toks + 1 }) :
    wpAny (model prog w) A (getItem (.ref a) (.str k tk)) Q E s := by
  have ty := tab_type T hk
  refine id (wpAny_holding (wpAny_bind (wpAny_sequenceKey ty (of_decide_eq_true (id (Eq.refl true))) (wpAny_bind (wpAny_callSpecial?_slot ty slot_dict_getitem (wpAny_call_entry slot_dict_getitem ty entry_dict_getitem ?body (args_dict_getitem (.ref a) (.str k tk))))))))
  show wpAny (model prog w) _ (bind (dictGet a (.str k tk)) _) _ _ _
  refine wpAny_bind (dictGet_tab T hk (fun d' v ha hv => ?_) fun hn => ?_)
  · rw [hd] at ha
    obtain rfl := Option.some.inj ha
    exact wpAny_pure ⟨v, rfl, wpAny_pure (h v hv)⟩
  · rw [hd] at hn
    cases hn
end
/-- a dict of the top whose keys are words and whose values are things of the top -/
def TabK (K : PySem.W.Frag) (a : Addr) (D : List (Str × Addr)) : Prop := tabLook (fun (d : Addr) (v : Value) => v == .ref d) (fun b => List.lookup b K) a D = true
section
variable {X : Cx}
theorem TabK.at {pins : List (Addr × Obj)} {σ : St} {H : Hp} {s : Shared} {a : Addr} {D : List (Str × Addr)} (I : Inv X pins σ H s) (t : TabK X.K a D) : TabOf (fun (d : Addr) (v : Value) => v = .ref d) s.heap a D :=
  tab_of_look (L := fun (d : Addr) (v : Value) => v == .ref d) (fun d v h => by simpa using h) (fun b o h => I.kIn b o h) t
theorem op_notInT : OpR X (compareOp .NotIn) (fun x y H Q => ∃ (k : Str) (a : Addr) (D : List (Str × Addr)), x = .str k ∧ y = .ref a ∧ TabK X.K a D ∧ Q (.bl (!inKeys k D)) H) := by
  intro pins s σ H x y v u Q I rx ry h
  obtain ⟨k, a, D, rfl, rfl, t, q⟩ := h
  obtain ⟨tk, rfl⟩ := rx
  cases ry
  exact notin_tab (t.at I) (fun _ _ z => z) ⟨.bl (!inKeys k D), H, I.tok _, rfl, q⟩
theorem ix_tabT : IxR X (fun x y H Q => ∃ (a : Addr) (k : Str) (D : List (Str × Addr)) (d : Addr), x = .ref a ∧ y = .str k ∧ TabK X.K a D ∧ datumAt k D = some d ∧ Q (.ref d) H) := by
  intro value slice pins s σ H x y v u Q I rx ry h hs
  obtain ⟨a, k, D, d, rfl, rfl, t, hd, q⟩ := h
  cases rx
  obtain ⟨tk, rfl⟩ := ry
  exact tail_any (tab_type (t.at I) (fun _ _ z => z)) slot_dict_getitem.lookup (getItem_tab (t.at I) (fun _ _ z => z) hd fun v hv => by
    rw [hv]
    exact ⟨.ref d, H, I.tok _, rfl, q⟩) hs
end
end L2
/-! my own rules over the layer: try that never raises, strip, zip of a tuple and a list -/
namespace L2
open PySem PySem.Spec PyProof.Rows
section
variable {X : Cx}
theorem pt_never {e : Expr} : PT X e (fun _ _ _ => False) := fun _ _ _ _ _ _ h => h.elim
/-- a try whose body does not raise -/
theorem ps_tryN {body : List Stmt} {h0 : ExceptHandler} {hs : List ExceptHandler} {pos : Pos} {u : TS} (hx : X.xe = fun _ _ => False) (hb : PSs X body u) : PS X (.Try body (h0 :: hs) [] [] pos) u := by
  intro pins s σ H D I h
  refine wpAny_Try_except (wpAny_mono (hb pins s σ H D I h) (fun f s1 q => ?_) fun _ _ z => ?_)
  · cases f with
    | next => exact wpAny_execs_nil q
    | ret v => exact q
    | brk => exact q
    | cont => exact q
  · rw [hx] at z
    exact z.elim
/-- text.strip(text) -/
theorem mt_strip : MtR X "str.strip" (fun x xs H Q => ∃ a b, x = .str a ∧ xs = [.str b] ∧ a.length ≤ sizeLine ∧ Q (.str (Txt.stripChars a b)) H) := by
  intro pins s σ H x xs v us Q I rx rv h
  obtain ⟨a, b, rfl, rfl, z, q⟩ := h
  obtain ⟨t, rfl⟩ := rx
  obtain ⟨u, rfl, ru⟩ := rv.one
  obtain ⟨t2, rfl⟩ := ru
  exact SC.stripChars (fun t' k => ⟨.str _, H, I.tok k, ⟨_, rfl⟩, q⟩) z
end
section
variable {prog : Program} {w : World} {A : Around} {E : Value → Shared → Prop} {s : Shared}
theorem zipT_item {z m n i1 i2 l1 l2 : Addr} {k1 k2 : Nat} {us ys : Array Value} {x y a b : Value} {Q : Option Value → Shared → Prop} (D : ZipApart z m n i1 i2 l1 l2) (e0 : IsZip s.heap z m n .none) (em : IsPair s.heap m (.ref i1) (.ref i2)) (en : IsPair s.heap n a b)
    (e1 : s.heap.IsTupleIter i1 l1 k1) (e2 : s.heap.IsListIter i2 l2 k2) (t1 : s.heap.IsTuple l1 us) (t2 : s.heap.IsList l2 ys) (hx : us[k1]? = some x) (hy : ys[k2]? = some y)
    (k : ∀ h', IsZip h' z m n (rawInt s.heap.objs.size) → IsPair h' n x y → h'.IsTupleIter i1 l1 (k1 + 1) → h'.IsListIter i2 l2 (k2 + 1) → IsPair h' s.heap.objs.size x y → (∀ c o, c ≠ z → c ≠ n → c ≠ i1 → c ≠ i2 → s.heap.get? c = some o → h'.get? c = some o) → Q (some (.ref s.heap.objs.size)) { s with heap := h' }) :
    wpAny (model prog w) A (pyNext (.ref z)) Q E s := by
  have ty : s.TypeIs (.ref z) "zip" := ⟨_, e0, rfl⟩
  unfold pyNext
  refine wpAny_bind (wpAny_attempt (wpAny_callSpecial?_slot (name := Str.ofString "__next__") ty F.slot_zip_next (wpAny_call_entry F.slot_zip_next ty F.entry_zip_next ?_ (F.args_zip_next_1 _))))
  obtain ⟨h0, g, d, tk, os⟩ := s
  show wpAny _ _ (field (.ref z) 2 >>= _) _ _ ⟨h0, g, d, tk, os⟩
  refine wpAny_bind (wpAny_field e0 rfl (x := .bool false) rfl ?_)
  show wpAny _ _ (field (.ref z) 3 >>= _) _ _ ⟨h0, g, d, tk, os⟩
  refine wpAny_bind (wpAny_field e0 rfl (x := .ref m) rfl (wpAny_bind (wpAny_seqItems em rfl ?_)))
  show wpAny _ _ (Builtin.SmallTypes.ownedTupleIsFree (.ref z) >>= _) _ _ ⟨h0, g, d, tk, os⟩
  refine wpAny_bind ?_
  unfold Builtin.SmallTypes.ownedTupleIsFree
  refine wpAny_bind (wpAny_field e0 rfl (x := .none) rfl (wpAny_pure ?_))
  simp only [if_true]
  refine wpAny_bind (wpAny_rule (wpAny_bind (wpAny_field e0 rfl (x := .ref n) rfl (wpAny_bind (wpAny_setField_rec e0 (by simp) fun h1 z1 s1 => ?_)))))
  replace s1 : Heap.SameBut z h0 h1 := s1
  replace z1 : IsZip h1 z m n .ellipsis := z1
  refine wpAny_bind ?_
  simp only [List.zipIdx_cons, List.zipIdx_nil, List.forIn_cons, List.forIn_nil]
  refine wpAny_bind (wpAny_bind (wpAny_onRaise ?_))
  show wpAny _ _ (Builtin.SmallTypes.nextOf (.ref i1) >>= _) _ _ ⟨h1, g, d, tk, os⟩
  have f1 : h1.IsTupleIter i1 l1 k1 := by obtain ⟨o, q, r⟩ := e1; exact ⟨o, s1.extBut _ _ D.i1z q, r⟩
  have f2 : h1.IsTuple l1 us := by obtain ⟨o, q, r⟩ := t1; exact ⟨o, s1.extBut _ _ D.l1z q, r⟩
  refine wpAny_bind (nextT_item f1 f2 hx fun h2 n2 s2 => wpAny_pure ?_)
  replace s2 : Heap.SameBut i1 h1 h2 := s2
  have en2 : IsPair h2 n a b := s2.extBut _ _ D.TOi1 (s1.extBut _ _ D.TOz en)
  refine wpAny_bind (wpAny_seqItems en2 rfl (wpAny_bind (wpAny_updateSeq_pair en2 fun h3 en3 s3 => wpAny_bind (wpAny_letGo (wpAny_pure ?_)))))
  replace s3 : Heap.SameBut n h2 h3 := s3
  replace en3 : IsPair h3 n x b := en3
  refine wpAny_bind (wpAny_bind (wpAny_onRaise ?_))
  show wpAny _ _ (Builtin.SmallTypes.nextOf (.ref i2) >>= _) _ _ ⟨h3, g, d, tk, os⟩
  have up : ∀ c o, c ≠ z → c ≠ i1 → c ≠ n → h0.get? c = some o → h3.get? c = some o := fun c o m1 m2 m3 q => s3.extBut _ _ m3 (s2.extBut _ _ m2 (s1.extBut _ _ m1 q))
  have g1 : h3.IsListIter i2 l2 k2 := by obtain ⟨o, q, r⟩ := e2; exact ⟨o, up _ _ D.i2z D.i12.symm D.TOi2.symm q, r⟩
  have g2 : h3.IsList l2 ys := by obtain ⟨o, q, r⟩ := t2; exact ⟨o, up _ _ D.l2z D.l2i1 D.l2TO q, r⟩
  refine wpAny_bind (wpAny_nextOf_list_item g1 g2 hy fun h4 n4 s4 => wpAny_pure ?_)
  replace s4 : Heap.SameBut i2 h3 h4 := s4
  have en4 : IsPair h4 n x b := s4.extBut _ _ D.TOi2 en3
  refine wpAny_bind (wpAny_seqItems en4 rfl (wpAny_bind (wpAny_updateSeq_pair en4 fun h5 en5 s5 => wpAny_bind (wpAny_letGo (wpAny_pure (wpAny_pure ?_))))))
  replace s5 : Heap.SameBut n h4 h5 := s5
  replace en5 : IsPair h5 n x y := en5
  refine wpAny_bind (wpAny_seqItems en5 rfl (wpAny_bind (wpAny_newTuple ?_)))
  have sz : h5.objs.size = h0.objs.size := by rw [s5.1, s4.1, s3.1, s2.1, s1.1]
  have up5 : ∀ c o, c ≠ z → c ≠ n → c ≠ i1 → c ≠ i2 → h0.get? c = some o → h5.get? c = some o := fun c o m1 m2 m3 m4 q => s5.extBut _ _ m2 (s4.extBut _ _ m4 (up c o m1 m3 m2 q))
  have z5 : IsZip h5 z m n .ellipsis := s5.extBut _ _ D.TOz.symm (s4.extBut _ _ D.i2z.symm (s3.extBut _ _ D.TOz.symm (s2.extBut _ _ D.i1z.symm z1)))
  have zl : z < h5.objs.size := Heap.lt_size z5
  show wpAny _ _ (Builtin.SmallTypes.ownedTupleHandOut (.ref z) (.ref h5.objs.size) >>= _) _ _ ⟨h5.push { cls := .type "tuple", data := .seq #[x, y] }, g, d, tk, os⟩
  refine wpAny_bind ?_
  unfold Builtin.SmallTypes.ownedTupleHandOut
  refine wpAny_bind (wpAny_setField_rec (Heap.get?_push_of_some _ z5) (by simp) fun h7 z7 s7 => ?_)
  replace z7 : IsZip h7 z m n (rawInt h5.objs.size) := z7
  refine wpAny_setField_rec z7 (by simp) fun h8 z8 s8 => wpAny_pure ⟨_, rfl, wpAny_pure ?_⟩
  replace z8 : IsZip h8 z m n (rawInt h5.objs.size) := z8
  have up8 : ∀ c o, c ≠ z → h5.get? c = some o → h8.get? c = some o := fun c o m1 q => s8.extBut _ _ m1 (s7.extBut _ _ m1 (Heap.get?_push_of_some _ q))
  have t8 : IsPair h8 h5.objs.size x y := s8.extBut _ _ (Nat.ne_of_gt zl) (s7.extBut _ _ (Nat.ne_of_gt zl) (Heap.get?_push_size _ rfl))
  rw [sz] at z8 t8
  show Q (some (.ref h5.objs.size)) _
  rw [sz]
  refine k h8 z8 (up8 _ _ D.TOz en5) ?_ ?_ t8 fun c o m1 m2 m3 m4 q => up8 c o m1 (up5 c o m1 m2 m3 m4 q)
  · obtain ⟨o, q, r⟩ := n2
    exact ⟨o, up8 _ _ D.i1z (s5.extBut _ _ D.TOi1.symm (s4.extBut _ _ D.i12 (s3.extBut _ _ D.TOi1.symm q))), r⟩
  · obtain ⟨o, q, r⟩ := n4
    exact ⟨o, up8 _ _ D.i2z (s5.extBut _ _ D.TOi2.symm q), r⟩
theorem zipT_end {z m n i1 i2 l1 l2 : Addr} {k1 : Nat} {us : Array Value} {Q : Option Value → Shared → Prop} (hh : A.handled = none) (D : ZipApart z m n i1 i2 l1 l2) (e0 : IsZip s.heap z m n .none) (em : IsPair s.heap m (.ref i1) (.ref i2))
    (e1 : s.heap.IsTupleIter i1 l1 k1) (t1 : s.heap.IsTuple l1 us) (hx : us[k1]? = none)
    (k : ∀ h', (∀ c o, c ≠ z → c ≠ i1 → s.heap.get? c = some o → h'.get? c = some o) → Q none { s with heap := h' }) : wpAny (model prog w) A (pyNext (.ref z)) Q E s := by
  have ty : s.TypeIs (.ref z) "zip" := ⟨_, e0, rfl⟩
  unfold pyNext
  refine wpAny_bind (wpAny_attempt (wpAny_callSpecial?_slot (name := Str.ofString "__next__") ty F.slot_zip_next (wpAny_call_entry F.slot_zip_next ty F.entry_zip_next ?_ (F.args_zip_next_1 _))))
  obtain ⟨h0, g, d, tk, os⟩ := s
  show wpAny _ _ (field (.ref z) 2 >>= _) _ _ ⟨h0, g, d, tk, os⟩
  refine wpAny_bind (wpAny_field e0 rfl (x := .bool false) rfl ?_)
  show wpAny _ _ (field (.ref z) 3 >>= _) _ _ ⟨h0, g, d, tk, os⟩
  refine wpAny_bind (wpAny_field e0 rfl (x := .ref m) rfl (wpAny_bind (wpAny_seqItems em rfl ?_)))
  show wpAny _ _ (Builtin.SmallTypes.ownedTupleIsFree (.ref z) >>= _) _ _ ⟨h0, g, d, tk, os⟩
  refine wpAny_bind ?_
  unfold Builtin.SmallTypes.ownedTupleIsFree
  refine wpAny_bind (wpAny_field e0 rfl (x := .none) rfl (wpAny_pure ?_))
  simp only [if_true]
  refine wpAny_bind (wpAny_rule (wpAny_bind (wpAny_field e0 rfl (x := .ref n) rfl (wpAny_bind (wpAny_setField_rec e0 (by simp) fun h1 z1 s1 => ?_)))))
  replace s1 : Heap.SameBut z h0 h1 := s1
  replace z1 : IsZip h1 z m n .ellipsis := z1
  refine wpAny_bind ?_
  simp only [List.zipIdx_cons, List.zipIdx_nil, List.forIn_cons, List.forIn_nil]
  refine wpAny_bind (wpAny_bind (wpAny_onRaise ?_))
  show wpAny _ _ (Builtin.SmallTypes.nextOf (.ref i1) >>= _) _ _ ⟨h1, g, d, tk, os⟩
  have f1 : h1.IsTupleIter i1 l1 k1 := by obtain ⟨o, q, r⟩ := e1; exact ⟨o, s1.extBut _ _ D.i1z q, r⟩
  have f2 : h1.IsTuple l1 us := by obtain ⟨o, q, r⟩ := t1; exact ⟨o, s1.extBut _ _ D.l1z q, r⟩
  refine wpAny_bind (nextT_end hh f1 f2 hx fun h2 e s2 he => ?_)
  obtain ⟨oe, q1, q2⟩ := he
  have z2 : IsZip h2 z m n .ellipsis := s2 _ _ D.i1z.symm z1
  have ne : e ≠ z := fun x => by subst x; rw [z2] at q1; cases q1; simp at q2
  refine wpAny_setField_rec z2 (by simp) fun h3 _ s3 => wpAny_bind (wpAny_isInstance (T := "StopIteration") (b := true) ⟨oe, s3.extBut _ _ ne q1, q2⟩ isSubtype_stop (wpAny_pure (k h3 fun c o m1 m2 q => s3.extBut _ _ m1 (s2 _ _ m2 (s1.extBut _ _ m1 q)))))
end
/-- the pairs (x0, y0), (x1, y1), .. of the tuple at a and the list at b, which has as many -/
def ItzT (K : PySem.W.Frag) (a b : Addr) : It :=
  ⟨fun i H => ∃ xs ys x y, SqT K H a xs ∧ SqL K H b ys ∧ xs[i]? = some x ∧ ys[i]? = some y,
    fun i H x H' => ∃ p u v, x = .ref p ∧ H p = none ∧ H' = upd H p (.tup [u, v]) ∧ (∀ xs, SqT K H a xs → xs[i]? = some u) ∧ ∀ ys, SqL K H b ys → ys[i]? = some v,
    fun i H => ∃ xs ys, SqT K H a xs ∧ SqL K H b ys ∧ xs.length ≤ i⟩
theorem turn_zipT {P : Program} {w : World} {K : PySem.W.Frag} {es : List Expr} {x1 : Nat} {pos : Pos} (a b z m n i1 i2 : Addr) (Dz : ZipApart z m n i1 i2 a b) :
    Turn P w K (.Tuple es x1 pos) (ItzT K a b) [z, m, n, i1, i2] z (fun i h => IsZip h z m n .none ∧ IsPair h m (.ref i1) (.ref i2) ∧ (∃ c d, IsPair h n c d) ∧ h.IsTupleIter i1 a i ∧ h.IsListIter i2 b i) where
  mem := by simp
  obj := fun i h st c hc => by
    obtain ⟨q1, q2, ⟨_, _, q3⟩, ⟨o4, q4, _, d4⟩, ⟨o5, q5, _, d5⟩⟩ := st
    have hc' : c = z ∨ c = m ∨ c = n ∨ c = i1 ∨ c = i2 := by simpa using hc
    rcases hc' with rfl | rfl | rfl | rfl | rfl
    · exact ⟨_, q1, fun v y => by cases y⟩
    · exact ⟨_, q2, fun v y => by cases y⟩
    · exact ⟨_, q3, fun v y => by cases y⟩
    · exact ⟨o4, q4, fun v y => by rw [d4] at y; cases y⟩
    · exact ⟨o5, q5, fun v y => by rw [d5] at y; cases y⟩
  keep := fun i h h' st k => by
    obtain ⟨q1, q2, ⟨c, d, q3⟩, ⟨o4, q4, r4⟩, ⟨o5, q5, r5⟩⟩ := st
    exact ⟨k z (by simp) _ q1, k m (by simp) _ q2, ⟨c, d, k n (by simp) _ q3⟩, ⟨o4, k i1 (by simp) _ q4, r4⟩, ⟨o5, k i2 (by simp) _ q5, r5⟩⟩
  item := by
    intro X hP hw hK hc i pins s σ H E I hf st hg
    subst hP hw hK
    obtain ⟨q1, q2, ⟨ca, da, q3⟩, q4, q5⟩ := st
    obtain ⟨xs, ys, x, y, hqa, hqb, hx, hy⟩ := hg
    obtain ⟨its, rv, p, hz⟩ := I.tuple hqa
    obtain ⟨its2, rv2, p2, hz2⟩ := I.list hqb
    obtain ⟨u, hu, ru⟩ := rv.get hx
    obtain ⟨v, hv, rv'⟩ := rv2.get hy
    have lz : ∀ c ∈ [z, m, n, i1, i2], c < s.heap.objs.size := fun c hc => by
      have hc' : c = z ∨ c = m ∨ c = n ∨ c = i1 ∨ c = i2 := by simpa using hc
      obtain ⟨o4, w4, _⟩ := q4
      obtain ⟨o5, w5, _⟩ := q5
      rcases hc' with rfl | rfl | rfl | rfl | rfl
      · exact Heap.lt_size q1
      · exact Heap.lt_size q2
      · exact Heap.lt_size q3
      · exact Heap.lt_size w4
      · exact Heap.lt_size w5
    refine zipT_item Dz q1 q2 q3 q4 q5 p p2.isList (x := u) (y := v) (by simpa using hu) (by simpa using hv) fun h1 a1 a2 a3 a4 a5 a7 => ⟨_, rfl, ?_⟩
    refine wpAny_letOwnedTupleGo_zip a1 fun h2 e2 s2 => ?_
    replace s2 : Heap.SameBut z h1 h2 := s2
    have nz : s.heap.objs.size ≠ z := Nat.ne_of_gt (lz z (by simp))
    have t2 : h2.get? s.heap.objs.size = some { cls := .type "tuple", data := .seq #[u, v] } := (s2.2 _ nz).trans a5
    have kk : ∀ c o, c ∉ [z, m, n, i1, i2] → s.heap.get? c = some o → h2.get? c = some o := fun c o w q => by
      have m' : ¬ (c = z ∨ c = m ∨ c = n ∨ c = i1 ∨ c = i2) := by simpa using w
      exact (s2.2 c (fun y => m' (.inl y))).trans (a7 c o (fun y => m' (.inl y)) (fun y => m' (.inr (.inr (.inl y)))) (fun y => m' (.inr (.inr (.inr (.inl y))))) (fun y => m' (.inr (.inr (.inr (.inr y))))) q)
    have fr : H s.heap.objs.size = none := I.hok.fresh (Nat.le_refl _)
    have neq : ∀ c, H c ≠ none → c ∉ [z, m, n, i1, i2] := fun c m hc => m (hf c hc).1
    have un : Un (frs X.stack) [z, m, n, i1, i2] H (upd H s.heap.objs.size (.tup [x, y])) s.heap h2 := by
      have np : ∀ c o, s.heap.get? c = some o → c ≠ s.heap.objs.size := fun c o q => Nat.ne_of_lt (Heap.lt_size q)
      exact ⟨fun c o q _ _ m => kk c o m q, fun c o q _ _ m => ⟨o.slots, kk c o m q⟩, fun c o q m _ => by rw [upd_ne (np c o q)]; exact m, fun c o q m => ⟨o, kk c o m q⟩,
        fun c ys q => by rw [upd_ne (ne_of_none q fr)]; exact q, fun c o v q => by rw [upd_ne (ne_of_none q fr)]; exact q, fun c ps q => ⟨#[], by rw [upd_ne (ne_of_none q fr), q]; simp⟩⟩
    have hok : HOk X.prog X.w (upd H s.heap.objs.size (.tup [x, y])) h2 := fun c ob e => by
      by_cases hb : c = s.heap.objs.size
      · subst hb
        rw [upd_same] at e
        cases e
        exact ⟨szb rfl, [u, v], .cons ru (.cons rv' .nil), ⟨_, t2, rfl, _, rfl⟩⟩
      · rw [upd_ne hb] at e
        refine (I.hok c ob e).stay (fun c' v z q => ?_) (fun c q => by rw [upd_ne (ne_of_none q fr)]; exact q) fun c ys q => by rw [upd_ne (ne_of_none q fr)]; exact q
        have m : H c' ≠ none := by
          rcases z with rfl | z
          · rw [e]; exact fun y => nomatch y
          · rw [z]; exact fun y => nomatch y
        exact kk c' v (neq c' m) q
    have J : Inv X pins σ (upd H s.heap.objs.size (.tup [x, y])) { s with heap := h2 } := by
      refine I.call' (s' := { s with heap := h2 }) (ch := [z, m, n, i1, i2]) rfl un hok I.bare fun c hc => ?_
      obtain ⟨_, g1, _, g3, g4, g5⟩ := hf c hc
      exact ⟨g3, g1, g4, g5⟩
    refine ⟨.ref s.heap.objs.size, _, J, rfl, ⟨s.heap.objs.size, x, y, rfl, fr, rfl, fun zs hz => by rw [I.tuple_inj hz hqa]; exact hx, fun zs hz => by rw [I.list_inj hz hqb]; exact hy⟩, ⟨e2, ?_, ⟨u, v, (s2.2 n Dz.TOz).trans a2⟩, ?_, ?_⟩, fun c hc => ?_⟩
    · exact (s2.2 m Dz.TIz).trans (a7 m _ Dz.TIz Dz.TITO Dz.TIi1 Dz.TIi2 q2)
    · obtain ⟨o, q, r⟩ := a3
      exact ⟨o, (s2.2 i1 Dz.i1z).trans q, r⟩
    · obtain ⟨o, q, r⟩ := a4
      exact ⟨o, (s2.2 i2 Dz.i2z).trans q, r⟩
    · rw [upd_ne (Nat.ne_of_lt (lz c hc))]
      exact (hf c hc).1
  done := by
    intro X hP hw hK hc i pins s σ H E I hf st hg
    subst hP hw hK
    obtain ⟨q1, q2, ⟨ca, da, q3⟩, q4, q5⟩ := st
    obtain ⟨xs, ys, hqa, hqb, hx⟩ := hg
    obtain ⟨its, rv, p, hz⟩ := I.tuple hqa
    have l1 := rv.length
    refine zipT_end (I.ok.hd hc) Dz q1 q2 q4 p (by simp; omega) fun h' a7 => ⟨rfl, ?_⟩
    have kk : ∀ c o, c ∉ [z, m, n, i1, i2] → s.heap.get? c = some o → h'.get? c = some o := fun c o w q => by
      have m' : ¬ (c = z ∨ c = m ∨ c = n ∨ c = i1 ∨ c = i2) := by simpa using w
      exact a7 c o (fun y => m' (.inl y)) (fun y => m' (.inr (.inr (.inr (.inl y))))) q
    have neq : ∀ c, H c ≠ none → c ∉ [z, m, n, i1, i2] := fun c m hc => m (hf c hc).1
    have un : Un (frs X.stack) [z, m, n, i1, i2] H H s.heap h' :=
      ⟨fun c o q _ _ m => kk c o m q, fun c o q _ _ m => ⟨o.slots, kk c o m q⟩, fun c o q m _ => m, fun c o q m => ⟨o, kk c o m q⟩, fun c ys q => q, fun c o v q => q, fun c ps q => ⟨#[], by rw [q]; simp⟩⟩
    have hok : HOk X.prog X.w H h' := fun c ob e => by
      refine (I.hok c ob e).stay (fun c' v z q => ?_) (fun c q => q) fun c ys q => q
      have m : H c' ≠ none := by
        rcases z with rfl | z
        · rw [e]; exact fun y => nomatch y
        · rw [z]; exact fun y => nomatch y
      exact kk c' v (neq c' m) q
    refine I.call' (s' := { s with heap := h' }) (ch := [z, m, n, i1, i2]) rfl un hok I.bare fun c hc => ?_
    obtain ⟨_, g1, _, g3, g4, g5⟩ := hf c hc
    exact ⟨g3, g1, g4, g5⟩
  self := fun _ _ _ _ _ st h => wpAny_pyIter_zip st.1 h
section
variable {X : Cx} {es : List Expr} {x1 : Nat} {tpos : Pos}
abbrev zt1 (h : Heap) (a : Addr) : Heap := h.push { cls := .type "tuple_iterator", data := .fields #[.ref a, .int 0 0] }
abbrev zt2 (h : Heap) (a b : Addr) : Heap := (zt1 h a).push { cls := .type "list_iterator", data := .fields #[.ref b, .int 0 0] }
abbrev zt3 (h : Heap) (a b : Addr) : Heap := (zt2 h a b).push { cls := .type "tuple", data := .seq #[.ref h.objs.size, .ref (zt1 h a).objs.size] }
abbrev zt4 (h : Heap) (a b : Addr) : Heap := (zt3 h a b).push { cls := .type "tuple", data := .seq #[.none, .none] }
abbrev zt5 (h : Heap) (a b : Addr) : Heap := (zt4 h a b).push { cls := .type "zip", data := .fields #[.none, .bool false, .bool false, .ref (zt2 h a b).objs.size, .ref (zt3 h a b).objs.size] }
theorem new_zipT (l1 l2 : Addr) (xs ys : Array Value) : Meets (Builtin.«zip.__new__» ⟨[.type "zip", .ref l1, .ref l2], []⟩) (fun _ R s => s.heap.IsTuple l1 xs ∧ s.heap.IsList l2 ys ∧ R (.ok (.ret (.ref (zt4 s.heap l1 l2).objs.size))) { s with heap := zt5 s.heap l1 l2 }) :=
  .of_wp fun prog w A R s h => by
    obtain ⟨hp, g, d, tk, os⟩ := s
    obtain ⟨a1, a2, h⟩ := h
    have hsub := sub_zip
    have b1 : Heap.IsTuple (Shared.heap ⟨hp, g, d, tk, os⟩) l1 xs := a1
    have b2 : Heap.IsList (Shared.heap ⟨hp.push { cls := .type "tuple_iterator", data := .fields #[.ref l1, .int 0 0] }, g, d, tk, os⟩) l2 ys := Heap.IsList.push a2 _
    wp_walk using wpAny_pyIter_tuple b1, wpAny_pyIter_list b2
    exact ⟨_, rfl, h⟩
theorem call_zipT {prog : Program} {w : World} {A : Around} {E : Value → Shared → Prop} {s : Shared} {a b : Addr} {xs ys : Array Value} {Q : Value → Shared → Prop} (h1 : s.heap.IsTuple a xs) (h2 : s.heap.IsList b ys)
    (k : ∀ h', IsZip h' (s.heap.objs.size + 4) (s.heap.objs.size + 2) (s.heap.objs.size + 3) .none → IsPair h' (s.heap.objs.size + 2) (.ref s.heap.objs.size) (.ref (s.heap.objs.size + 1)) → IsPair h' (s.heap.objs.size + 3) .none .none → h'.IsTupleIter s.heap.objs.size a 0 →
      h'.IsListIter (s.heap.objs.size + 1) b 0 → (∀ c o, s.heap.get? c = some o → h'.get? c = some o) → Q (.ref (s.heap.objs.size + 4)) { s with heap := h' }) : wpAny (model prog w) A (call (.type "zip") [.ref a, .ref b]) Q E s := by
  refine callType_new F.called_zip (by decide) (F.typeCall_zip_2 _ _) (F.newCall_zip_2 _ _) (fun obj => F.args_object_init_3 obj _ _) F.entry_zip_new (new_zipT a b xs ys) ⟨h1, h2, ?_⟩
  have y1 : (zt1 s.heap a).objs.size = s.heap.objs.size + 1 := Heap.size_push ..
  have y2 : (zt2 s.heap a b).objs.size = s.heap.objs.size + 2 := by rw [Heap.size_push, y1]
  have y3 : (zt3 s.heap a b).objs.size = s.heap.objs.size + 3 := by rw [Heap.size_push, y2]
  have y4 : (zt4 s.heap a b).objs.size = s.heap.objs.size + 4 := by rw [Heap.size_push, y3]
  have g5 : (zt5 s.heap a b).get? (zt4 s.heap a b).objs.size = some _ := Heap.get?_push_size _ rfl
  have g4 : (zt5 s.heap a b).get? (zt3 s.heap a b).objs.size = some _ := Heap.get?_push_of_some _ (Heap.get?_push_size _ rfl)
  have g3 : (zt5 s.heap a b).get? (zt2 s.heap a b).objs.size = some _ := Heap.get?_push_of_some _ (Heap.get?_push_of_some _ (Heap.get?_push_size _ rfl))
  have g2 : (zt5 s.heap a b).get? (zt1 s.heap a).objs.size = some _ := Heap.get?_push_of_some _ (Heap.get?_push_of_some _ (Heap.get?_push_of_some _ (Heap.get?_push_size _ rfl)))
  have g1 : (zt5 s.heap a b).get? s.heap.objs.size = some _ := Heap.get?_push_of_some _ (Heap.get?_push_of_some _ (Heap.get?_push_of_some _ (Heap.get?_push_of_some _ (Heap.get?_push_size _ rfl))))
  show _ ∧ _
  rw [y2, y3, y4] at g5
  rw [y1, y2] at g3
  rw [y3] at g4
  rw [y1] at g2
  rw [y4]
  exact ⟨⟨_, g5, rfl⟩, k _ g5 g3 g4 ⟨_, g1, rfl, rfl⟩ ⟨_, g2, rfl, rfl⟩ fun c o x => Heap.get?_push_of_some _ (Heap.get?_push_of_some _ (Heap.get?_push_of_some _ (Heap.get?_push_of_some _ (Heap.get?_push_of_some _ x))))⟩
def iZipT (K : PySem.W.Frag) (ta : TA) : TI := fun σ H R => ta σ H fun vs H1 => ∃ a b, vs = [.ref a, .ref b] ∧ (∃ xs, SqT K H1 a xs) ∧ (∃ ys, SqL K H1 b ys) ∧ R (ItzT K a b) H1
theorem pi_zipT {l l' : Expr} {ta : TA} {p pos : Pos} (hg : Gl X "zip") (hm : X.mg "zip" = none) (ha : PA X [l, l'] ta) (hs : starEach [l, l'] X.env = [(false, eval l X.env), (false, eval l' X.env)] := by rfl) (hs2 : starEach [l'] X.env = [(false, eval l' X.env)] := by rfl) :
    PI X (.Tuple es x1 tpos) (.Call (.Name "zip" p) [l, l'] [] pos) (iZipT X.K ta) := by
  intro pins s σ H R I h
  refine Call_ (ld_blt I hg hm boot_zip (PyProof.Rows.callWith_type1 (thn (ha pos pins s σ H _ I h) fun us s1 ⟨vs, H1, I1, r1, q1⟩ => ?_) (by rw [hs, hs2]) (by rw [hs2]; rfl)))
  obtain ⟨a, b, e, ⟨xs, hqa⟩, ⟨ys, hqb⟩, q⟩ := q1
  subst e
  cases r1 with
  | cons r rr =>
    cases rr with
    | cons r' rr =>
      cases rr
      cases r
      cases r'
      obtain ⟨its, rv, p, hz⟩ := I1.tuple hqa
      obtain ⟨its2, rv2, p2, hz2⟩ := I1.list hqb
      have la : a < s1.heap.objs.size := by obtain ⟨_, e, _⟩ := p; exact Heap.lt_size e
      have lb : b < s1.heap.objs.size := by obtain ⟨_, e, _⟩ := p2.isList; exact Heap.lt_size e
      refine call_zipT p p2.isList fun h' e1 e2 e3 e4 e5 k => wpAny_pyIter_zip e1 ?_
      have I2 : Inv X pins σ H1 { s1 with heap := h' } := I1.kept (t' := s1.toks) k
      refine ⟨s1.heap.objs.size + 4, _, _, _, H1, rfl, I2, turn_zipT a b _ _ _ _ _ (zipApart_new la lb), ⟨e1, e2, ⟨_, _, e3⟩, e4, e5⟩, fun c hc => ?_, q⟩
      have hb' : s1.heap.objs.size ≤ c := by
        have z : c = s1.heap.objs.size + 4 ∨ c = s1.heap.objs.size + 2 ∨ c = s1.heap.objs.size + 3 ∨ c = s1.heap.objs.size ∨ c = s1.heap.objs.size + 1 := by simpa using hc
        rcases z with z | z | z | z | z
        · rw [z]; exact Nat.le_add_right _ _
        · rw [z]; exact Nat.le_add_right _ _
        · rw [z]; exact Nat.le_add_right _ _
        · rw [z]; exact Nat.le_refl _
        · rw [z]; exact Nat.le_add_right _ _
      exact I1.fpOk hb' (I1.hok.fresh hb')
/-- gone through a tuple and a list side by side -/
theorem compG_zipT {K : PySem.W.Frag} {a b : Addr} {xs zs : List V} {Tn : V → Hp → (V → Hp → Prop) → (Hp → Prop) → Prop} {D : Addr} {H1 : Hp} {R : Hp → Prop} (hn : xs.length ≤ sizeLine) (hxz : xs.length = zs.length) (Pv : Nat → List V → Hp → Prop) (h0 : Pv 0 [] (upd H1 D (.lst [])))
    (hl : ∀ i ys H, Pv i ys H → SqT K H a xs ∧ SqL K H b zs) (hD : ∀ i ys H, Pv i ys H → H D = some (.lst ys) ∧ ys.length ≤ i)
    (hs : ∀ i x z ys H p, xs[i]? = some x → zs[i]? = some z → Pv i ys H → H p = none → Tn (.ref p) (upd H p (.tup [x, z])) (fun y H3 => H3 D = some (.lst ys) ∧ Pv (i + 1) (ys ++ [y]) (upd H3 D (.lst (ys ++ [y])))) (Pv (i + 1) ys))
    (hd : ∀ ys H, Pv xs.length ys H → R H) :
    ∃ W : Nat → Nat → List V → Hp → Prop, (∃ m, W 0 m [] (upd H1 D (.lst []))) ∧
      ∀ i m ys H2, W i m ys H2 → H2 D = some (.lst ys) ∧ (((ItzT K a b).stop i H2 ∧ R H2) ∨ ((ItzT K a b).go i H2 ∧ ys.length < sizeLine ∧ ∃ (N : V → Hp → Prop) (Z : Hp → Prop), (∀ y H3, N y H3 → H3 D = some (.lst ys) ∧ ∃ m', m' < m ∧ W (i + 1) m' (ys ++ [y]) (upd H3 D (.lst (ys ++ [y])))) ∧ (∀ H3, Z H3 → ∃ m', m' < m ∧ W (i + 1) m' ys H3) ∧
        ∀ x H', (ItzT K a b).yld i H2 x H' → Tn x H' N Z)) := by
  refine ⟨fun i m ys H => m = xs.length - i ∧ i ≤ xs.length ∧ Pv i ys H, ⟨xs.length, by simp, Nat.zero_le _, h0⟩, ?_⟩
  rintro i m ys H2 ⟨rfl, hi, p⟩
  obtain ⟨d1, d2⟩ := hD i ys H2 p
  obtain ⟨q1, q2⟩ := hl i ys H2 p
  refine ⟨d1, ?_⟩
  by_cases hlt : i < xs.length
  · have hlt2 : i < zs.length := by omega
    refine .inr ⟨⟨xs, zs, xs[i], zs[i], q1, q2, by simp [hlt], by simp [hlt2]⟩, by omega, fun y H3 => H3 D = some (.lst ys) ∧ Pv (i + 1) (ys ++ [y]) (upd H3 D (.lst (ys ++ [y]))), Pv (i + 1) ys, fun y H3 ⟨z1, z2⟩ => ⟨z1, xs.length - (i + 1), by omega, rfl, hlt, z2⟩, fun H3 z => ⟨xs.length - (i + 1), by omega, rfl, hlt, z⟩, fun x H' y => ?_⟩
    obtain ⟨pp, u, v, rfl, e2, rfl, y1, y2⟩ := y
    exact hs i u v ys _ pp (y1 xs q1) (y2 zs q2) p e2
  · have e : i = xs.length := by omega
    subst e
    exact .inl ⟨⟨xs, zs, q1, q2, Nat.le_refl _⟩, hd ys H2 p⟩
end
end L2
namespace My
open PySem L2

def top (i : Nat) : Stmt := PySem.Challenge.pw_manyleast_k59_a_desk_makes.main.body.getD i (.Pass ⟨0, 0, 0, 0⟩)
/-! ### the forms of rows, a dict of the top -/
section
open PySem.W
def strOf : Value → Option Str
  | .str x _ => some x
  | _ => none
def tabD (K : PySem.W.Frag) (a : Addr) : List (Str × Addr) := match List.lookup a K with
  | some o => (match o.data with
    | .dict es _ => es.toList.filterMap fun e => match e.key, e.val with
      | .str x _, .ref d => some (x, d)
      | _, _ => none
    | _ => [])
  | none => []
def tupB (K : PySem.W.Frag) (d : Addr) (ks : List Str) : Bool := match List.lookup d K with
  | some o => o.cls == .type "tuple" && (match o.data with
    | .seq its _ => decide (its.size ≤ 10) && decide (its.toList.map strOf = ks.map some)
    | _ => false)
  | none => false
def forms : List (Str × List Str) := [("put", ["count", "count", "number"]), ("take", ["count", "count"]), ("set", ["count", "count", "number"]), ("cut", ["count", "count", "count"]), ("join", ["count", "count"]), ("turn", ["count"]), ("flip", ["count"]), ("show", ["count"])]
def formB (K : PySem.W.Frag) (D : List (Str × Addr)) (f : Str × List Str) : Bool := match PyProof.Rows.KTD.datumAt f.1 D with
  | some d => tupB K d f.2
  | none => false
def frmB (K : PySem.W.Frag) (a : Addr) : Bool := PyProof.Rows.KTD.tabLook (fun (d : Addr) (v : Value) => v == .ref d) (fun b => List.lookup b K) a (tabD K a) && forms.all (formB K (tabD K a))
theorem strs_vals : ∀ {its : List Value} {ks : List Str}, its.map strOf = ks.map some → Vals (ks.map V.str) its
  | [], [], _ => .nil
  | [], k :: ks, h => by cases h
  | v :: its, [], h => by cases h
  | v :: its, k :: ks, h => by
    obtain ⟨h1, h2⟩ := List.cons.inj h
    refine .cons ?_ (strs_vals h2)
    cases v with
    | str x t =>
      obtain rfl : x = k := Option.some.inj h1
      exact ⟨t, rfl⟩
    | _ => cases h1
theorem tup_sq {K : PySem.W.Frag} {d : Addr} {ks : List Str} (h : tupB K d ks = true) (H : Hp) : SqT K H d (ks.map V.str) := by
  unfold tupB at h
  split at h
  · rename_i o ho
    rw [Bool.and_eq_true] at h
    obtain ⟨h1, h2⟩ := h
    split at h2
    · rename_i its n hd
      rw [Bool.and_eq_true, decide_eq_true_iff, decide_eq_true_iff] at h2
      exact .inr ⟨o, its, n, ho, eq_of_beq h1, hd, Nat.le_trans h2.1 (by decide), strs_vals h2.2⟩
    · cases h2
  · cases h
theorem frm_use {K : PySem.W.Frag} {a : Addr} (h : frmB K a = true) {f : Str × List Str} (hf : f ∈ forms) : TabK K a (tabD K a) ∧ ∃ d, PyProof.Rows.KTD.datumAt f.1 (tabD K a) = some d ∧ PyProof.Rows.KTD.inKeys f.1 (tabD K a) = true ∧ ∀ H, SqT K H d (f.2.map V.str) := by
  unfold frmB at h
  rw [Bool.and_eq_true] at h
  refine ⟨h.1, ?_⟩
  have z := List.all_eq_true.mp h.2 f hf
  unfold formB at z
  split at z
  · rename_i d hd
    exact ⟨d, hd, by rw [← PyProof.Rows.KTD.isSome_datumAt, hd]; rfl, tup_sq z⟩
  · cases z
end
def clsBody : Stmt → List Stmt
  | .ClassDef _ _ _ b _ _ _ _ _ _ _ => b
  | _ => []
abbrev s_many_worths : Stmt := top 10
abbrev s_top_of : Stmt := top 11
abbrev s_where : Stmt := top 12
abbrev s_way_of : Stmt := top 14
abbrev s_ahead : Stmt := top 16
abbrev s_tree_of : Stmt := top 20
abbrev s_grown : Stmt := top 21
abbrev s_half_of : Stmt := top 23
abbrev s_size_of : Stmt := top 24
abbrev s_row_of : Stmt := top 25
abbrev s_row_from : Stmt := top 26
abbrev s_merged : Stmt := top 27
abbrev s_number_at : Stmt := top 28
abbrev s_led_stretch : Stmt := top 33
abbrev s_show_number : Stmt := top 74
abbrev s_show_row : Stmt := top 75
abbrev s_read_number : Stmt := top 77
abbrev s_are_figures : Stmt := top 78
abbrev s_put_in : Stmt := top 90
abbrev s_with_way : Stmt := top 92
abbrev s_with_half : Stmt := top 93
abbrev s_taken_out : Stmt := top 94
abbrev s_without : Stmt := top 96
abbrev s_set_at : Stmt := top 97
abbrev s_cut_out : Stmt := top 100
abbrev s_joined : Stmt := top 102
abbrev s_turned : Stmt := top 104
abbrev s_flipped : Stmt := top 106
abbrev s_not_too_many : Stmt := top 110
abbrev s_number_of : Stmt := top 116
abbrev s_count_of : Stmt := top 117
abbrev s_read_said : Stmt := top 128
abbrev s_kinds_of : Stmt := top 129
abbrev s_values_of : Stmt := top 130
abbrev s_value_of : Stmt := top 131
abbrev s__law_pen : Stmt := top 135
abbrev s__law_mixed : Stmt := top 136
abbrev s__law_take : Stmt := top 137
abbrev s__law_bounds : Stmt := top 138
abbrev s__law_row : Stmt := top 139
abbrev s__law_worth : Stmt := top 140
abbrev s__law_text : Stmt := top 141
abbrev s__law_deed : Stmt := top 142
abbrev s__law_shown : Stmt := top 143
abbrev s_law : Stmt := top 144
abbrev s_I_Makes : Stmt := (clsBody (top 109)).getD 0 (.Pass ⟨0, 0, 0, 0⟩)
abbrev s_M_of_row : Stmt := (clsBody (top 109)).getD 1 (.Pass ⟨0, 0, 0, 0⟩)
abbrev s_M_put_in : Stmt := (clsBody (top 109)).getD 2 (.Pass ⟨0, 0, 0, 0⟩)
abbrev s_M_taken_out : Stmt := (clsBody (top 109)).getD 3 (.Pass ⟨0, 0, 0, 0⟩)
abbrev s_M_set_at : Stmt := (clsBody (top 109)).getD 4 (.Pass ⟨0, 0, 0, 0⟩)
abbrev s_M_cut_out : Stmt := (clsBody (top 109)).getD 5 (.Pass ⟨0, 0, 0, 0⟩)
abbrev s_M_joined : Stmt := (clsBody (top 109)).getD 6 (.Pass ⟨0, 0, 0, 0⟩)
abbrev s_M_turned : Stmt := (clsBody (top 109)).getD 7 (.Pass ⟨0, 0, 0, 0⟩)
abbrev s_M_flipped : Stmt := (clsBody (top 109)).getD 8 (.Pass ⟨0, 0, 0, 0⟩)
abbrev s_M_tree : Stmt := (clsBody (top 109)).getD 10 (.Pass ⟨0, 0, 0, 0⟩)
abbrev s_M_row : Stmt := (clsBody (top 109)).getD 11 (.Pass ⟨0, 0, 0, 0⟩)
abbrev s_M_stretch : Stmt := (clsBody (top 109)).getD 13 (.Pass ⟨0, 0, 0, 0⟩)
abbrev s_M_found : Stmt := (clsBody (top 109)).getD 14 (.Pass ⟨0, 0, 0, 0⟩)
abbrev s_M_keep : Stmt := (clsBody (top 109)).getD 15 (.Pass ⟨0, 0, 0, 0⟩)
abbrev s_I_Desk : Stmt := (clsBody (top 133)).getD 0 (.Pass ⟨0, 0, 0, 0⟩)
abbrev s_M_say : Stmt := (clsBody (top 133)).getD 1 (.Pass ⟨0, 0, 0, 0⟩)
abbrev s_M_made : Stmt := (clsBody (top 133)).getD 3 (.Pass ⟨0, 0, 0, 0⟩)
theorem sc_many_worths : FnScope ["levels", "many", "level"] ["levels"] (defScope s_many_worths) := ⟨rfl, rfl, rfl, by decide +kernel, rfl, by decide +kernel, by decide +kernel⟩
theorem sc_top_of : FnScope ["bounds"] ["bounds"] (defScope s_top_of) := ⟨rfl, rfl, rfl, by decide +kernel, rfl, by decide +kernel, by decide +kernel⟩
theorem sc_where : FnScope ["bounds", "number"] ["bounds", "number"] (defScope s_where) := ⟨rfl, rfl, rfl, by decide +kernel, rfl, by decide +kernel, by decide +kernel⟩
theorem sc_way_of : FnScope ["bounds", "number", "least", "many", "way", "level"] ["bounds", "number"] (defScope s_way_of) := ⟨rfl, rfl, rfl, by decide +kernel, rfl, by decide +kernel, by decide +kernel⟩
theorem sc_ahead : FnScope ["marks", "mark", "place"] ["marks", "mark", "place"] (defScope s_ahead) := ⟨rfl, rfl, rfl, by decide +kernel, rfl, by decide +kernel, by decide +kernel⟩
theorem sc_tree_of : FnScope ["bounds", "row", "number"] ["bounds", "row"] (defScope s_tree_of) := ⟨rfl, rfl, rfl, by decide +kernel, rfl, by decide +kernel, by decide +kernel⟩
theorem sc_grown : FnScope ["least", "many", "row", "half", "middle", "marks", "lower", "upper"] ["least", "many", "row"] (defScope s_grown) := ⟨rfl, rfl, rfl, by decide +kernel, rfl, by decide +kernel, by decide +kernel⟩
theorem sc_half_of : FnScope ["tree", "mark"] ["tree", "mark"] (defScope s_half_of) := ⟨rfl, rfl, rfl, by decide +kernel, rfl, by decide +kernel, by decide +kernel⟩
theorem sc_size_of : FnScope ["tree"] ["tree"] (defScope s_size_of) := ⟨rfl, rfl, rfl, by decide +kernel, rfl, by decide +kernel, by decide +kernel⟩
theorem sc_row_of : FnScope ["bounds", "tree"] ["bounds", "tree"] (defScope s_row_of) := ⟨rfl, rfl, rfl, by decide +kernel, rfl, by decide +kernel, by decide +kernel⟩
theorem sc_row_from : FnScope ["least", "many", "tree", "half", "lower", "upper"] ["least", "many", "tree"] (defScope s_row_from) := ⟨rfl, rfl, rfl, by decide +kernel, rfl, by decide +kernel, by decide +kernel⟩
theorem sc_merged : FnScope ["marks", "lower", "upper", "row", "ones", "place", "mark"] ["marks", "lower", "upper"] (defScope s_merged) := ⟨rfl, rfl, rfl, by decide +kernel, rfl, by decide +kernel, by decide +kernel⟩
theorem sc_number_at : FnScope ["bounds", "tree", "place", "least", "many", "part", "inner", "mark"] ["bounds", "tree", "place"] (defScope s_number_at) := ⟨rfl, rfl, rfl, by decide +kernel, rfl, by decide +kernel, by decide +kernel⟩
theorem sc_led_stretch : FnScope ["stretch", "way", "part", "start", "end", "turn", "half"] ["stretch", "way"] (defScope s_led_stretch) := ⟨rfl, rfl, rfl, by decide +kernel, rfl, by decide +kernel, by decide +kernel⟩
theorem sc_show_number : FnScope ["number"] ["number"] (defScope s_show_number) := ⟨rfl, rfl, rfl, by decide +kernel, rfl, by decide +kernel, by decide +kernel⟩
theorem sc_show_row : FnScope ["row"] ["row"] (defScope s_show_row) := ⟨rfl, rfl, rfl, by decide +kernel, rfl, by decide +kernel, by decide +kernel⟩
theorem sc_read_number : FnScope ["text", "figures"] ["text"] (defScope s_read_number) := ⟨rfl, rfl, rfl, by decide +kernel, rfl, by decide +kernel, by decide +kernel⟩
theorem sc_are_figures : FnScope ["text"] ["text"] (defScope s_are_figures) := ⟨rfl, rfl, rfl, by decide +kernel, rfl, by decide +kernel, by decide +kernel⟩
theorem sc_put_in : FnScope ["bounds", "tree", "place", "number"] ["bounds", "tree", "place", "number"] (defScope s_put_in) := ⟨rfl, rfl, rfl, by decide +kernel, rfl, by decide +kernel, by decide +kernel⟩
theorem sc_with_way : FnScope ["tree", "way", "place", "turn", "marks", "half"] ["tree", "way", "place"] (defScope s_with_way) := ⟨rfl, rfl, rfl, by decide +kernel, rfl, by decide +kernel, by decide +kernel⟩
theorem sc_with_half : FnScope ["marks", "tree", "turn", "half"] ["marks", "tree", "turn", "half"] (defScope s_with_half) := ⟨rfl, rfl, rfl, by decide +kernel, rfl, by decide +kernel, by decide +kernel⟩
theorem sc_taken_out : FnScope ["bounds", "tree", "place", "number"] ["bounds", "tree", "place"] (defScope s_taken_out) := ⟨rfl, rfl, rfl, by decide +kernel, rfl, by decide +kernel, by decide +kernel⟩
theorem sc_without : FnScope ["tree", "place", "marks", "turn", "half"] ["tree", "place"] (defScope s_without) := ⟨rfl, rfl, rfl, by decide +kernel, rfl, by decide +kernel, by decide +kernel⟩
theorem sc_set_at : FnScope ["bounds", "tree", "place", "number"] ["bounds", "tree", "place", "number"] (defScope s_set_at) := ⟨rfl, rfl, rfl, by decide +kernel, rfl, by decide +kernel, by decide +kernel⟩
theorem sc_cut_out : FnScope ["stretch", "tree", "start", "end", "lower", "upper"] ["stretch"] (defScope s_cut_out) := ⟨rfl, rfl, rfl, by decide +kernel, rfl, by decide +kernel, by decide +kernel⟩
theorem sc_joined : FnScope ["one", "other"] ["one", "other"] (defScope s_joined) := ⟨rfl, rfl, rfl, by decide +kernel, rfl, by decide +kernel, by decide +kernel⟩
theorem sc_turned : FnScope ["tree"] ["tree"] (defScope s_turned) := ⟨rfl, rfl, rfl, by decide +kernel, rfl, by decide +kernel, by decide +kernel⟩
theorem sc_flipped : FnScope ["tree"] ["tree"] (defScope s_flipped) := ⟨rfl, rfl, rfl, by decide +kernel, rfl, by decide +kernel, by decide +kernel⟩
theorem sc_not_too_many : FnScope ["tree"] ["tree"] (defScope s_not_too_many) := ⟨rfl, rfl, rfl, by decide +kernel, rfl, by decide +kernel, by decide +kernel⟩
theorem sc_number_of : FnScope ["word"] ["word"] (defScope s_number_of) := ⟨rfl, rfl, rfl, by decide +kernel, rfl, by decide +kernel, by decide +kernel⟩
theorem sc_count_of : FnScope ["word", "number"] ["word"] (defScope s_count_of) := ⟨rfl, rfl, rfl, by decide +kernel, rfl, by decide +kernel, by decide +kernel⟩
theorem sc_read_said : FnScope ["row", "words", "lead", "name"] ["row"] (defScope s_read_said) := ⟨rfl, rfl, rfl, by decide +kernel, rfl, by decide +kernel, by decide +kernel⟩
theorem sc_kinds_of : FnScope ["lead", "name", "many"] ["lead", "name", "many"] (defScope s_kinds_of) := ⟨rfl, rfl, rfl, by decide +kernel, rfl, by decide +kernel, by decide +kernel⟩
theorem sc_values_of : FnScope ["kinds", "words"] ["kinds", "words"] (defScope s_values_of) := ⟨rfl, rfl, rfl, by decide +kernel, rfl, by decide +kernel, by decide +kernel⟩
theorem sc_value_of : FnScope ["kind", "word"] ["kind", "word"] (defScope s_value_of) := ⟨rfl, rfl, rfl, by decide +kernel, rfl, by decide +kernel, by decide +kernel⟩
theorem sc__law_pen : FnScope ["_law_script", "_law_k", "_law_cell"] ["_law_script", "_law_k"] (defScope s__law_pen) := ⟨rfl, rfl, rfl, by decide +kernel, rfl, by decide +kernel, by decide +kernel⟩
theorem sc__law_mixed : FnScope ["_law_pen_here", "_law_number"] ["_law_pen_here"] (defScope s__law_mixed) := ⟨rfl, rfl, rfl, by decide +kernel, rfl, by decide +kernel, by decide +kernel⟩
theorem sc__law_take : FnScope ["_law_pen_here", "_law_size", "_law_found", "_law_wide"] ["_law_pen_here", "_law_size"] (defScope s__law_take) := ⟨rfl, rfl, rfl, by decide +kernel, rfl, by decide +kernel, by decide +kernel⟩
theorem sc__law_bounds : FnScope ["_law_pen_here", "_law_levels", "_law_way", "_law_low"] ["_law_pen_here"] (defScope s__law_bounds) := ⟨rfl, rfl, rfl, by decide +kernel, rfl, by decide +kernel, by decide +kernel⟩
theorem sc__law_row : FnScope ["_law_pen_here", "_law_bounds_here", "_law_longest", "_law_low", "_law_levels", "_law_size", "_law_way", "_law_few", "_law_row_here", "_law_k", "_law_spot"] ["_law_pen_here", "_law_bounds_here", "_law_longest"] (defScope s__law_row) := ⟨rfl, rfl, rfl, by decide +kernel, rfl, by decide +kernel, by decide +kernel⟩
theorem sc__law_worth : FnScope ["_law_pen_here", "_law_bounds_here", "_law_row_here", "_law_number", "_law_at"] ["_law_pen_here", "_law_bounds_here", "_law_row_here"] (defScope s__law_worth) := ⟨rfl, rfl, rfl, by decide +kernel, rfl, by decide +kernel, by decide +kernel⟩
theorem sc__law_text : FnScope ["_law_row_here"] ["_law_row_here"] (defScope s__law_text) := ⟨rfl, rfl, rfl, by decide +kernel, rfl, by decide +kernel, by decide +kernel⟩
theorem sc__law_deed : FnScope ["_law_pen_here", "_law_bounds_here", "_law_rows", "_law_make", "_law_row_here", "_law_way", "_law_place", "_law_number", "_law_word", "_law_start", "_law_other", "_law_both"] ["_law_pen_here", "_law_bounds_here", "_law_rows"] (defScope s__law_deed) := ⟨rfl, rfl, rfl, by decide +kernel, rfl, by decide +kernel, by decide +kernel⟩
theorem sc__law_shown : FnScope ["_law_desk", "_law_rows", "_law_make", "_law_found"] ["_law_desk", "_law_rows", "_law_make"] (defScope s__law_shown) := ⟨rfl, rfl, rfl, by decide +kernel, rfl, by decide +kernel, by decide +kernel⟩
theorem sc_law : FnScope ["_law_script", "_law_pen_here", "_law_bounds_here", "_law_desk", "_law_beside", "_law_rows", "_law_k", "_law_deed_here", "_law_words", "_law_row_here", "_law_make"] ["_law_script"] (defScope s_law) := ⟨rfl, rfl, rfl, by decide +kernel, rfl, by decide +kernel, by decide +kernel⟩
theorem sc_I_Makes : FnScope ["self", "bounds"] ["self", "bounds"] (defScope s_I_Makes) := ⟨rfl, rfl, rfl, by decide +kernel, rfl, by decide +kernel, by decide +kernel⟩
theorem sc_M_of_row : FnScope ["self", "row"] ["self", "row"] (defScope s_M_of_row) := ⟨rfl, rfl, rfl, by decide +kernel, rfl, by decide +kernel, by decide +kernel⟩
theorem sc_M_put_in : FnScope ["self", "make", "place", "number", "tree"] ["self", "make", "place", "number"] (defScope s_M_put_in) := ⟨rfl, rfl, rfl, by decide +kernel, rfl, by decide +kernel, by decide +kernel⟩
theorem sc_M_taken_out : FnScope ["self", "make", "place", "told"] ["self", "make", "place"] (defScope s_M_taken_out) := ⟨rfl, rfl, rfl, by decide +kernel, rfl, by decide +kernel, by decide +kernel⟩
theorem sc_M_set_at : FnScope ["self", "make", "place", "number"] ["self", "make", "place", "number"] (defScope s_M_set_at) := ⟨rfl, rfl, rfl, by decide +kernel, rfl, by decide +kernel, by decide +kernel⟩
theorem sc_M_cut_out : FnScope ["self", "make", "start", "end"] ["self", "make", "start", "end"] (defScope s_M_cut_out) := ⟨rfl, rfl, rfl, by decide +kernel, rfl, by decide +kernel, by decide +kernel⟩
theorem sc_M_joined : FnScope ["self", "one", "other", "tree"] ["self", "one", "other"] (defScope s_M_joined) := ⟨rfl, rfl, rfl, by decide +kernel, rfl, by decide +kernel, by decide +kernel⟩
theorem sc_M_turned : FnScope ["self", "make"] ["self", "make"] (defScope s_M_turned) := ⟨rfl, rfl, rfl, by decide +kernel, rfl, by decide +kernel, by decide +kernel⟩
theorem sc_M_flipped : FnScope ["self", "make"] ["self", "make"] (defScope s_M_flipped) := ⟨rfl, rfl, rfl, by decide +kernel, rfl, by decide +kernel, by decide +kernel⟩
theorem sc_M_tree : FnScope ["self", "make"] ["self", "make"] (defScope s_M_tree) := ⟨rfl, rfl, rfl, by decide +kernel, rfl, by decide +kernel, by decide +kernel⟩
theorem sc_M_row : FnScope ["self", "make"] ["self", "make"] (defScope s_M_row) := ⟨rfl, rfl, rfl, by decide +kernel, rfl, by decide +kernel, by decide +kernel⟩
theorem sc_M_stretch : FnScope ["self", "make", "start", "end", "tree"] ["self", "make", "start", "end"] (defScope s_M_stretch) := ⟨rfl, rfl, rfl, by decide +kernel, rfl, by decide +kernel, by decide +kernel⟩
theorem sc_M_found : FnScope ["self", "make"] ["self", "make"] (defScope s_M_found) := ⟨rfl, rfl, rfl, by decide +kernel, rfl, by decide +kernel, by decide +kernel⟩
theorem sc_M_keep : FnScope ["self", "tree", "sources"] ["self", "tree", "sources"] (defScope s_M_keep) := ⟨rfl, rfl, rfl, by decide +kernel, rfl, by decide +kernel, by decide +kernel⟩
theorem sc_I_Desk : FnScope ["self", "bounds"] ["self", "bounds"] (defScope s_I_Desk) := ⟨rfl, rfl, rfl, by decide +kernel, rfl, by decide +kernel, by decide +kernel⟩
theorem sc_M_say : FnScope ["self", "row", "said", "lead", "name", "values", "gathering"] ["self", "row"] (defScope s_M_say) := ⟨rfl, rfl, rfl, by decide +kernel, rfl, by decide +kernel, by decide +kernel⟩
theorem sc_M_made : FnScope ["self", "name", "values"] ["self", "name", "values"] (defScope s_M_made) := ⟨rfl, rfl, rfl, by decide +kernel, rfl, by decide +kernel, by decide +kernel⟩
structure Bz (K : PySem.W.Frag) (mg : Str → Option Value) (cLeastError cBeyond cNoSuch cTooMany cNoText cNoRow cMakes cDesk : Addr) : Prop where
  all_ : mg "all" = none
  enumerate_ : mg "enumerate" = none
  int_ : mg "int" = none
  isinstance_ : mg "isinstance" = none
  len_ : mg "len" = none
  max_ : mg "max" = none
  min_ : mg "min" = none
  range_ : mg "range" = none
  reversed_ : mg "reversed" = none
  str_ : mg "str" = none
  tuple_ : mg "tuple" = none
  zip_ : mg "zip" = none
  m_LeastError : mg "LeastError" = some (.ref cLeastError)
  m_Beyond : mg "Beyond" = some (.ref cBeyond)
  m_NoSuch : mg "NoSuch" = some (.ref cNoSuch)
  m_TooMany : mg "TooMany" = some (.ref cTooMany)
  m_NoText : mg "NoText" = some (.ref cNoText)
  m_NoRow : mg "NoRow" = some (.ref cNoRow)
  m_Makes : mg "Makes" = some (.ref cMakes)
  m_Desk : mg "Desk" = some (.ref cDesk)
  nB : NoAttr K cMakes "bounds"
  nK : NoAttr K cMakes "kept"
  dB : NoAttr K cDesk "bounds"
  dM : NoAttr K cDesk "makes"
  fig : ∃ x t, mg "FIGURES" = some (.str x t) ∧ x = "0123456789"
  frm : ∃ a, mg "FORMS" = some (.ref a) ∧ frmB K a = true
  o_Desk : Cls K cDesk
  o_Makes : Cls K cMakes
  d_I_Makes : IDef K cMakes "Makes.__init__" s_I_Makes ["self", "bounds"]
  d_M_of_row : MDef K cMakes "of_row" "Makes.of_row" s_M_of_row ["self", "row"]
  d_M_put_in : MDef K cMakes "put_in" "Makes.put_in" s_M_put_in ["self", "make", "place", "number"]
  d_M_taken_out : MDef K cMakes "taken_out" "Makes.taken_out" s_M_taken_out ["self", "make", "place"]
  d_M_set_at : MDef K cMakes "set_at" "Makes.set_at" s_M_set_at ["self", "make", "place", "number"]
  d_M_cut_out : MDef K cMakes "cut_out" "Makes.cut_out" s_M_cut_out ["self", "make", "start", "end"]
  d_M_joined : MDef K cMakes "joined" "Makes.joined" s_M_joined ["self", "one", "other"]
  d_M_turned : MDef K cMakes "turned" "Makes.turned" s_M_turned ["self", "make"]
  d_M_flipped : MDef K cMakes "flipped" "Makes.flipped" s_M_flipped ["self", "make"]
  d_M_tree : MDef K cMakes "tree" "Makes.tree" s_M_tree ["self", "make"]
  d_M_row : MDef K cMakes "row" "Makes.row" s_M_row ["self", "make"]
  d_M_stretch : MDef K cMakes "stretch" "Makes.stretch" s_M_stretch ["self", "make", "start", "end"]
  d_M_found : MDef K cMakes "found" "Makes.found" s_M_found ["self", "make"]
  d_M_keep : MDef K cMakes "keep" "Makes.keep" s_M_keep ["self", "tree", "sources"]
  d_I_Desk : IDef K cDesk "Desk.__init__" s_I_Desk ["self", "bounds"]
  d_M_say : MDef K cDesk "say" "Desk.say" s_M_say ["self", "row"]
  d_M_made : MDef K cDesk "made" "Desk.made" s_M_made ["self", "name", "values"]
variable {cLeastError cBeyond cNoSuch cTooMany cNoText cNoRow cMakes cDesk : Addr}
def Wths (low : Int) (L : Nat) (ns : List Int) : Prop := ∀ x ∈ ns, low ≤ x ∧ x < low + 2 ^ L
theorem Wths.snoc {low : Int} {L : Nat} {ns : List Int} {y : Int} (h : Wths low L ns) (h0 : low ≤ y) (h1 : y < low + 2 ^ L) : Wths low L (ns ++ [y]) := fun x hx => by
  rcases List.mem_append.mp hx with h' | h'
  · exact h x h'
  · cases List.mem_singleton.mp h'
    exact ⟨h0, h1⟩

abbrev k_many_worths : Nat := 1
def sp_many_worths (_ : PySem.W.Frag) : Sp := fun vs H Q _ => ∃ L : Nat, vs = [.int (L : Int)] ∧ L ≤ 40 ∧ Q (.int (2 ^ L)) H
abbrev k_top_of : Nat := 2
def sp_top_of (K : PySem.W.Frag) : Sp := fun vs H Q _ => ∃ (b : Addr) (low : Int) (L : Nat), vs = [.ref b] ∧ SqT K H b [.int low, .int (L : Int)] ∧ L ≤ 40 ∧ Q (.int (low + 2 ^ L - 1)) H
section
variable {P : Program} {w : World} {K : PySem.W.Frag} {mg : Str → Option Value} {base : Heap}
theorem ok_many_worths (d : Def K mg "many_worths" s_many_worths ["levels"]) (z : Bz K mg cLeastError cBeyond cNoSuch cTooMany cNoText cNoRow cMakes cDesk)  : Cal P w K mg base k_many_worths "many_worths" ["levels"] (sp_many_worths K) := by
  have sc := sc_many_worths
  refine d.cal fun f fd F => F.ok sc (fun vs H Q E h => ?_) (fun cdv A outer s H vs Q E hr h => ?_)
  · obtain ⟨L, rfl, _⟩ := h
    rfl
  obtain ⟨L, rfl, hL, q⟩ := h
  refine ⟨_, (pss_cons (ps_set (i := 1) sc.nd rfl (Or.inl rfl) pe_int)
 (pss_cons (ps_for PassesOwn.never rfl (pi_range1 rfl z.range_ (pa_cons (pv 0) pa_nil)) (pg_name (i := 2) sc.nd rfl (Or.inl rfl))
  (pss_one (ps_set (i := 1) sc.nd rfl (Or.inl rfl) (pe_op op_mul (pv 1) pe_int))))
 (pss_one (ps_ret (pv 1))))), ?_⟩
  refine ⟨_, rfl, (L : Int), rfl, by omega, by omega, for_range (n := L) (fun i σ H2 => ∃ v : Option V, σ = [some (.int (L : Int)), some (.int (2 ^ i)), v] ∧ H2 = H) ⟨none, rfl, rfl⟩ ?_ ?_⟩
  · rintro i σ H2 hi ⟨v, rfl, rfl⟩
    refine ⟨_, rfl, _, _, rfl, rfl, .inr ⟨by decide, by decide⟩, ?_⟩
    exact ⟨_, by rw [Int.pow_succ]; rfl, rfl⟩
  · rintro σ H2 ⟨v, rfl, rfl⟩
    exact ⟨_, rfl, q⟩
theorem ok_top_of (d : Def K mg "top_of" s_top_of ["bounds"]) (z : Bz K mg cLeastError cBeyond cNoSuch cTooMany cNoText cNoRow cMakes cDesk) (c_many_worths : Cal P w K mg base k_many_worths "many_worths" ["levels"] (sp_many_worths K)) : Cal P w K mg base k_top_of "top_of" ["bounds"] (sp_top_of K) := by
  have sc := sc_top_of
  refine d.cal fun f fd F => F.ok sc (fun vs H Q E h => ?_) (fun cdv A outer s H vs Q E hr h => ?_)
  · obtain ⟨b, low, L, rfl, _⟩ := h
    rfl
  obtain ⟨b, low, L, rfl, hb, hL, q⟩ := h
  refine ⟨_, (pss_one (ps_ret (pe_op op_sub (pe_op op_add (pe_ix ix_tup (pv 0) pe_int (fun _ _ => rfl)) (pe_fn c_many_worths (hr.mono (by decide)) (by rfl) (pa_cons (pe_ix ix_tup (pv 0) pe_int (fun _ _ => rfl)) pa_nil))) pe_int))), ?_⟩
  exact ⟨_, rfl, b, _, _, _, rfl, rfl, hb, rfl, _, rfl, b, _, _, _, rfl, rfl, hb, rfl, L, rfl, hL, _, _, rfl, rfl, _, _, rfl, rfl, q⟩
end

abbrev k_where : Nat := 3
def whereS (low : Int) (L : Nat) (n : Int) : Str := if n < low then "below" else if low + 2 ^ L - 1 < n then "above" else "within"
theorem whereS_in {low n : Int} {L : Nat} (h : low ≤ n ∧ n < low + 2 ^ L) : whereS low L n = "within" := by
  unfold whereS
  rw [if_neg (by omega), if_neg (by omega)]
def sp_where (K : PySem.W.Frag) : Sp := fun vs H Q _ => ∃ (b : Addr) (low n : Int) (L : Nat), vs = [.ref b, .int n] ∧ SqT K H b [.int low, .int (L : Int)] ∧ L ≤ 40 ∧ Q (.str (whereS low L n)) H
section
variable {P : Program} {w : World} {K : PySem.W.Frag} {mg : Str → Option Value} {base : Heap}
theorem ok_where (d : Def K mg "where" s_where ["bounds", "number"]) (z : Bz K mg cLeastError cBeyond cNoSuch cTooMany cNoText cNoRow cMakes cDesk) (c_top_of : Cal P w K mg base k_top_of "top_of" ["bounds"] (sp_top_of K)) : Cal P w K mg base k_where "where" ["bounds", "number"] (sp_where K) := by
  have sc := sc_where
  refine d.cal fun f fd F => F.ok sc (fun vs H Q E h => ?_) (fun cdv A outer s H vs Q E hr h => ?_)
  · obtain ⟨b, low, n, L, rfl, _⟩ := h
    rfl
  obtain ⟨b, low, n, L, rfl, hb, hL, q⟩ := h
  refine ⟨_, (pss_cons (ps_if (pt_cmpR op_lt (pv 1) (pe_ix ix_tup (pv 0) pe_int (fun _ _ => rfl)) (nomark _))
  (pss_one (ps_ret pe_str))
  pss_nil)
 (pss_cons (ps_if (pt_cmpR op_gt (pv 1) (pe_fn c_top_of (hr.mono (by decide)) (by rfl) (pa_cons (pv 0) pa_nil)) (nomark _))
  (pss_one (ps_ret pe_str))
  pss_nil)
 (pss_one (ps_ret pe_str)))), ?_⟩
  unfold whereS at q
  refine ⟨_, rfl, _, rfl, b, _, _, _, rfl, rfl, hb, rfl, _, _, rfl, rfl, _, rfl, ?_⟩
  refine ite2 (fun c => ?_) (fun c => ?_)
  · rw [if_pos (of_decide_eq_true c)] at q
    exact q
  · rw [if_neg (fun z => c (decide_eq_true z))] at q
    refine ⟨_, rfl, _, rfl, b, low, L, rfl, hb, hL, _, _, rfl, rfl, _, rfl, ?_⟩
    refine ite2 (fun c => ?_) (fun c => ?_)
    · rw [if_pos (of_decide_eq_true c)] at q
      exact q
    · rw [if_neg (fun z => c (decide_eq_true z))] at q
      exact q
end

def wayW : Nat → Int → List Int
  | 0, _ => []
  | e + 1, o => if o < 2 ^ e then 0 :: wayW e o else 1 :: wayW e (o - 2 ^ e)
theorem wayW_lt {e : Nat} {o : Int} (h : o < 2 ^ e) : wayW (e + 1) o = 0 :: wayW e o := by
  show (if o < 2 ^ e then _ else _) = _
  rw [if_pos h]
theorem wayW_ge {e : Nat} {o : Int} (h : ¬ o < 2 ^ e) : wayW (e + 1) o = 1 :: wayW e (o - 2 ^ e) := by
  show (if o < 2 ^ e then _ else _) = _
  rw [if_neg h]
theorem pow2 (e : Nat) : (2 : Int) ^ (e + 1) = 2 ^ e + 2 ^ e := by rw [Int.pow_succ]; omega
theorem wayW_len : ∀ (e : Nat) (o : Int), (wayW e o).length = e
  | 0, _ => rfl
  | e + 1, o => by
    by_cases h : o < 2 ^ e
    · rw [wayW_lt h, List.length_cons, wayW_len e]
    · rw [wayW_ge h, List.length_cons, wayW_len e]
theorem pow_half (e : Nat) : (2 : Int) ^ (e + 1) / 2 = 2 ^ e := by rw [Int.pow_succ]; exact Int.mul_ediv_cancel _ (by decide)
theorem where_in {low n : Int} {L : Nat} : whereS low L n = "within" ↔ (low ≤ n ∧ n ≤ low + 2 ^ L - 1) := by
  unfold whereS
  by_cases h : n < low
  · rw [if_pos h]
    exact ⟨fun z => absurd z (by decide), fun z => by omega⟩
  · rw [if_neg h]
    by_cases h2 : low + 2 ^ L - 1 < n
    · rw [if_pos h2]
      exact ⟨fun z => absurd z (by decide), fun z => by omega⟩
    · rw [if_neg h2]
      exact ⟨fun _ => by omega, fun _ => rfl⟩

/-! ### the tree of a row -/
def grow (low : Int) : Nat → List Int → Tr
  | 0, ns => if ns = [] then .non else .many ns.length
  | e + 1, ns => if ns = [] then .non else .part (ns.map fun n => if n < low + 2 ^ e then 0 else 1) (grow low e (ns.filter fun n => decide (n < low + 2 ^ e))) (grow (low + 2 ^ e) e (ns.filter fun n => decide (low + 2 ^ e ≤ n)))
theorem grow_nil (low : Int) (e : Nat) : grow low e [] = .non := by cases e <;> rfl
theorem grow_zero {low : Int} {ns : List Int} (h : ns ≠ []) : grow low 0 ns = .many ns.length := by unfold grow; rw [if_neg h]
theorem grow_succ {low : Int} {e : Nat} {ns : List Int} (h : ns ≠ []) : grow low (e + 1) ns = .part (ns.map fun n => if n < low + 2 ^ e then 0 else 1) (grow low e (ns.filter fun n => decide (n < low + 2 ^ e))) (grow (low + 2 ^ e) e (ns.filter fun n => decide (low + 2 ^ e ≤ n))) := by
  rw [grow, if_neg h]
/-- no marks are long -/
def Tr.fit (b : Nat) : Tr → Prop
  | .non => True
  | .many _ => True
  | .part ms l r => ms.length ≤ b ∧ Tr.fit b l ∧ Tr.fit b r
abbrev kb_grown : Nat := 0
abbrev kn_grown : Nat := 40
abbrev k_grown : Nat := 41
def spe_grown (K : PySem.W.Frag) (e : Nat) : Sp := fun vs H Q _ => ∃ (least : Int) (a : Addr) (ns : List Int), vs = [.int least, .int (2 ^ e), .ref a] ∧ SqL K H a (ns.map V.int) ∧ ns.length ≤ 1000 ∧ ∀ (H' : Hp) (v : V), Same H H' → TreeAt H' v (grow least e ns) → Q v H'
def sp_grown (K : PySem.W.Frag) : Sp := fun vs H Q E => ∃ e, e ≤ kn_grown ∧ spe_grown K e vs H Q E
section
variable {P : Program} {w : World} {K : PySem.W.Frag} {mg : Str → Option Value} {base : Heap}
theorem ok_grown (d : Def K mg "grown" s_grown ["least", "many", "row"]) (z : Bz K mg cLeastError cBeyond cNoSuch cTooMany cNoText cNoRow cMakes cDesk)  : Cal P w K mg base k_grown "grown" ["least", "many", "row"] (sp_grown K) := by
  have sc := sc_grown
  refine d.recur (k := kb_grown) (sp := spe_grown K) kn_grown fun e hen c_grown f fd F => F.ok sc (fun vs H Q E h => ?_) (fun cdv A outer s H vs Q E hr h => ?_)
  · obtain ⟨least, a, ns, rfl, _⟩ := h
    rfl
  obtain ⟨least, a, ns, rfl, ha, hl, q⟩ := h
  refine ⟨_, (pss_cons (ps_if (pt_cmpR op_eq (pe_callB call_len_seq (by rfl) z.len_ bt_len (pa_cons (pv 2) pa_nil)) pe_int (nomark _))
  (pss_one (ps_ret pe_non))
  pss_nil)
 (pss_cons (ps_if (pt_cmpR op_eq (pv 1) pe_int (nomark _))
  (pss_one (ps_ret (pe_tup (pa_cons pe_str (pa_cons (pe_callB call_len_seq (by rfl) z.len_ bt_len (pa_cons (pv 2) pa_nil)) pa_nil)))))
  pss_nil)
 (pss_cons (ps_set (i := 3) sc.nd rfl (Or.inl rfl) (pe_op op_fdivB (pv 1) pe_int))
 (pss_cons (ps_set (i := 4) sc.nd rfl (Or.inr rfl) (pe_op op_add (pv 0) (pv 3)))
 (pss_cons (ps_set (i := 5) sc.nd rfl (Or.inl rfl) (pe_callTy call_tupleF (by rfl) z.tuple_ bt_tuple (pa_cons (pe_comp (cl := [("middle", s.heap.objs.size + 1 + 0)]) (cn := ["middle"]) (N := ["middle"]) (fr := [4]) (sc0 := defScope s_grown) rfl (pi_list (pv 2)) (fun C s₂ H₂ fp => (pe_ifExp (pt_cmpR op_lt (pv 0) (pv 1) (nomark _)) pe_int pe_int)) (by with_unfolding_all rfl) ⟨by with_unfolding_all rfl, trivial⟩ rfl rfl rfl ⟨by decide +kernel, by decide +kernel, by decide +kernel, by decide +kernel, by decide +kernel, by decide +kernel, by decide +kernel⟩ rfl) pa_nil)))
 (pss_cons (ps_set (i := 6) sc.nd rfl (Or.inl rfl) (pe_fn c_grown (hr.mono (Nat.le_refl _)) (by rfl) (pa_cons (pv 0) (pa_cons (pv 3) (pa_cons (pe_compIf (cl := [("middle", s.heap.objs.size + 1 + 0)]) (cn := ["middle"]) (N := ["middle"]) (fr := [4]) (sc0 := defScope s_grown) rfl (pi_list (pv 2)) (fun C s₂ H₂ fp => (pv 0)) (fun C s₂ H₂ fp => (pt_cmpR op_lt (pv 0) (pv 1) (nomark _))) (by with_unfolding_all rfl) ⟨by with_unfolding_all rfl, trivial⟩ rfl rfl rfl ⟨by decide +kernel, by decide +kernel, by decide +kernel, by decide +kernel, by decide +kernel, by decide +kernel, by decide +kernel⟩ rfl) pa_nil)))))
 (pss_cons (ps_set (i := 7) sc.nd rfl (Or.inl rfl) (pe_fn c_grown (hr.mono (Nat.le_refl _)) (by rfl) (pa_cons (pv 4) (pa_cons (pv 3) (pa_cons (pe_compIf (cl := [("middle", s.heap.objs.size + 1 + 0)]) (cn := ["middle"]) (N := ["middle"]) (fr := [4]) (sc0 := defScope s_grown) rfl (pi_list (pv 2)) (fun C s₂ H₂ fp => (pv 0)) (fun C s₂ H₂ fp => (pt_cmpR op_ge (pv 0) (pv 1) (nomark _))) (by with_unfolding_all rfl) ⟨by with_unfolding_all rfl, trivial⟩ rfl rfl rfl ⟨by decide +kernel, by decide +kernel, by decide +kernel, by decide +kernel, by decide +kernel, by decide +kernel, by decide +kernel⟩ rfl) pa_nil)))))
 (pss_one (ps_ret (pe_tup (pa_cons pe_str (pa_cons (pv 5) (pa_cons (pv 6) (pa_cons (pv 7) pa_nil)))))))))))))), ?_⟩
  have hz : ns.length ≤ sizeLine := sz hl
  refine ⟨_, rfl, a, _, rfl, .inl ha, rfl, _, rfl, ?_⟩
  refine ite2 (fun c => ?_) (fun c => ?_)
  · have c' : (((ns.map V.int).length : Nat) : Int) = 0 := V.int.inj (of_decide_eq_true c)
    rw [List.length_map] at c'
    have e0 : ns = [] := List.eq_nil_of_length_eq_zero (by omega)
    subst e0
    exact q H .non (Same.refl H) (by rw [grow_nil]; rfl)
  · have hne : ns ≠ [] := fun z => c (by rw [z]; exact decide_eq_true rfl)
    refine ⟨_, rfl, rfl, _, rfl, ?_⟩
    refine ite2 (fun c2 => ?_) (fun c2 => ?_)
    · have e0 : e = 0 := p2one (V.int.inj (of_decide_eq_true c2))
      subst e0
      refine ⟨_, rfl, a, _, rfl, .inl ha, szb rfl, fun p hp => q _ _ (same_new hp _) ?_⟩
      rw [grow_zero hne]
      refine ⟨p, rfl, ?_⟩
      rw [upd_same, List.length_map]
    · cases e with
      | zero => exact absurd (decide_eq_true rfl) c2
      | succ e =>
        refine ⟨_, rfl, _, _, rfl, rfl, ⟨by decide, by decide⟩, ?_⟩
        dsimp only
        rw [p2half]
        refine ⟨_, rfl, _, rfl, _, _, rfl, rfl, ?_⟩
        refine ⟨_, rfl, a, rfl, ⟨_, ha⟩, fun D hD => ?_⟩
        refine comp_ints (g := fun n => .int (if n < least + 2 ^ e then 0 else 1)) ha hD hz (fun n _ H1 Q1 _ q1 => ?_) ?_
        · refine ⟨_, rfl, _, rfl, _, _, rfl, rfl, _, rfl, ?_⟩
          refine ite2 (fun c3 => ?_) (fun c3 => ?_)
          · rw [if_pos (of_decide_eq_true c3)] at q1
            exact q1
          · rw [if_neg (fun z => c3 (decide_eq_true z))] at q1
            exact q1
        have s1 : Same H (upd H D (.lst (ns.map fun n => V.int (if n < least + 2 ^ e then 0 else 1)))) := same_new hD _
        refine ⟨D, _, rfl, SqL.of upd_same, fun m H2 s2 hm => ?_⟩
        have s02 : Same H H2 := s1.trans s2
        have hm' : TupF H2 m ((ns.map fun n => if n < least + 2 ^ e then (0 : Int) else 1).map V.int) := by rw [List.map_map]; exact hm
        refine ⟨_, rfl, _, rfl, _, rfl, a, rfl, ⟨_, s02.seq ha⟩, fun D2 hD2 => ?_⟩
        refine compIf_ints (p := fun n => decide (n < least + 2 ^ e)) (g := V.int) (s02.seq ha) hD2 hz (fun n _ H1 Q1 _ q1 => ⟨_, rfl, _, rfl, _, _, rfl, rfl, _, rfl, q1⟩) (fun n _ _ H1 Q1 _ q1 => ⟨_, rfl, q1⟩) ?_
        refine ⟨least, D2, _, rfl, SqL.of upd_same, Nat.le_trans (List.length_filter_le _ _) hl, fun H3 lo s3 hlo => ?_⟩
        have s03 : Same H H3 := s02.trans ((same_new hD2 _).trans s3)
        refine ⟨_, rfl, _, rfl, _, rfl, a, rfl, ⟨_, s03.seq ha⟩, fun D3 hD3 => ?_⟩
        refine compIf_ints (p := fun n => decide (least + 2 ^ e ≤ n)) (g := V.int) (s03.seq ha) hD3 hz (fun n _ H1 Q1 _ q1 => ⟨_, rfl, _, rfl, _, _, rfl, rfl, _, rfl, q1⟩) (fun n _ _ H1 Q1 _ q1 => ⟨_, rfl, q1⟩) ?_
        refine ⟨least + 2 ^ e, D3, _, rfl, SqL.of upd_same, Nat.le_trans (List.length_filter_le _ _) hl, fun H4 hi s4 hhi => ?_⟩
        have s34 : Same H3 H4 := (same_new hD3 _).trans s4
        refine ⟨_, rfl, _, rfl, _, rfl, szb rfl, fun p hp => q _ _ (s03.trans (s34.trans (same_new hp _))) ?_⟩
        rw [grow_succ hne]
        have sp : Same H4 (upd H4 p (.tup [.str "part", .ref m, lo, hi])) := same_new hp _
        have s24 : Same H2 H4 := (same_new hD2 _).trans (s3.trans s34)
        exact ⟨p, m, lo, hi, rfl, upd_same, (hm'.same s24).same sp, (hlo.same s34).same sp, hhi.same sp⟩
end
abbrev k_tree_of : Nat := 42
def sp_tree_of (K : PySem.W.Frag) : Sp := fun vs H Q _ => ∃ (b a : Addr) (low : Int) (L : Nat) (ns : List Int), vs = [.ref b, .ref a] ∧ SqT K H b [.int low, .int (L : Int)] ∧ L ≤ 40 ∧ SqL K H a (ns.map V.int) ∧ ns.length ≤ 1000 ∧ Wths low L ns ∧
  ∀ (H' : Hp) (v : V), Same H H' → TreeAt H' v (grow low L ns) → Q v H'
section
variable {P : Program} {w : World} {K : PySem.W.Frag} {mg : Str → Option Value} {base : Heap}
theorem ok_tree_of (d : Def K mg "tree_of" s_tree_of ["bounds", "row"]) (z : Bz K mg cLeastError cBeyond cNoSuch cTooMany cNoText cNoRow cMakes cDesk) (c_grown : Cal P w K mg base k_grown "grown" ["least", "many", "row"] (sp_grown K)) (c_many_worths : Cal P w K mg base k_many_worths "many_worths" ["levels"] (sp_many_worths K)) (c_where : Cal P w K mg base k_where "where" ["bounds", "number"] (sp_where K)) : Cal P w K mg base k_tree_of "tree_of" ["bounds", "row"] (sp_tree_of K) := by
  have sc := sc_tree_of
  refine d.cal fun f fd F => F.ok sc (fun vs H Q E h => ?_) (fun cdv A outer s H vs Q E hr h => ?_)
  · obtain ⟨b, a, low, L, ns, rfl, _⟩ := h
    rfl
  obtain ⟨b, a, low, L, ns, rfl, hb, hL, ha, hl, hw, q⟩ := h
  refine ⟨_, (pss_cons (ps_for PassesOwn.never rfl (pi_list (pv 1)) (pg_name (i := 2) sc.nd rfl (Or.inl rfl))
  (pss_one (ps_if (pt_cmpR op_ne (pe_fn c_where (hr.mono (by decide)) (by rfl) (pa_cons (pv 0) (pa_cons (pv 2) pa_nil))) pe_str (nomark _))
  (pss_one ps_never)
  pss_nil)))
 (pss_one (ps_ret (pe_fn c_grown (hr.mono (by decide)) (by rfl) (pa_cons (pe_ix ix_tup (pv 0) pe_int (fun _ _ => rfl)) (pa_cons (pe_fn c_many_worths (hr.mono (by decide)) (by rfl) (pa_cons (pe_ix ix_tup (pv 0) pe_int (fun _ _ => rfl)) pa_nil)) (pa_cons (pv 1) pa_nil))))))), ?_⟩
  refine ⟨_, rfl, a, rfl, ⟨_, ha⟩, for_list (K := K) (a := a) (xs := ns.map V.int) (fun i σ H2 => ∃ v : Option V, σ = [some (.ref b), some (.ref a), v] ∧ H2 = H) ⟨none, rfl, rfl⟩ (fun i σ H2 _ ⟨_, _, e⟩ => by rw [e]; exact ha) ?_ ?_⟩
  · rintro i x σ H2 hi ⟨v, rfl, rfl⟩
    obtain ⟨n, hn, rfl⟩ := List.mem_map.mp (List.mem_of_getElem? hi)
    refine ⟨_, rfl, _, rfl, b, low, n, L, rfl, hb, hL, rfl, _, rfl, iteNS (by rw [whereS_in (hw n hn)]) ?_⟩
    exact ⟨_, rfl, rfl⟩
  · rintro σ H2 ⟨v, rfl, rfl⟩
    refine ⟨_, rfl, b, _, _, _, rfl, rfl, hb, rfl, _, rfl, b, _, _, _, rfl, rfl, hb, rfl, L, rfl, hL, ?_⟩
    exact ⟨_, rfl, L, hL, low, a, ns, rfl, ha, hl, q⟩
end

/-! ### sizes, halves, places -/
def trSize : Tr → Int
  | .non => 0
  | .many n => n
  | .part ms _ _ => ms.length
def trHalf : Tr → Int → Tr
  | .part _ l r, mk => if mk = 0 then l else r
  | _, _ => .non
theorem grow_size (low : Int) (e : Nat) (ns : List Int) : trSize (grow low e ns) = ns.length := by
  by_cases h : ns = []
  · rw [h, grow_nil]; rfl
  · cases e with
    | zero => rw [grow_zero h]; rfl
    | succ e =>
      rw [grow_succ h]
      show ((List.map _ ns).length : Int) = _
      rw [List.length_map]
abbrev k_size_of : Nat := 1
def sp_size_of (_ : PySem.W.Frag) : Sp := fun vs H Q _ => ∃ (v : V) (t : Tr), vs = [v] ∧ TreeAt H v t ∧ Q (.int (trSize t)) H
section
variable {P : Program} {w : World} {K : PySem.W.Frag} {mg : Str → Option Value} {base : Heap}
theorem ok_size_of (d : Def K mg "size_of" s_size_of ["tree"]) (z : Bz K mg cLeastError cBeyond cNoSuch cTooMany cNoText cNoRow cMakes cDesk)  : Cal P w K mg base k_size_of "size_of" ["tree"] (sp_size_of K) := by
  have sc := sc_size_of
  refine d.cal fun f fd F => F.ok sc (fun vs H Q E h => ?_) (fun cdv A outer s H vs Q E hr h => ?_)
  · obtain ⟨v, t, rfl, _⟩ := h
    rfl
  obtain ⟨v, t, rfl, ht, q⟩ := h
  refine ⟨_, (pss_cons (ps_if (pt_cmpR op_isN (pv 0) pe_non (nomark _))
  (pss_one (ps_ret pe_int))
  pss_nil)
 (pss_cons (ps_if (pt_cmpR op_eq (pe_ix ix_tup (pv 0) pe_int (fun _ _ => rfl)) pe_str (nomark _))
  (pss_one (ps_ret (pe_ix ix_tup (pv 0) pe_int (fun _ _ => rfl))))
  pss_nil)
 (pss_one (ps_ret (pe_callB call_len_seq (by rfl) z.len_ bt_len (pa_cons (pe_ix ix_tup (pv 0) pe_int (fun _ _ => rfl)) pa_nil)))))), ?_⟩
  refine ⟨_, rfl, rfl, _, rfl, ?_⟩
  cases t with
  | non =>
    cases ht
    exact ite2 (fun c => q) (fun c => absurd (decide_eq_true rfl) c)
  | many n =>
    obtain ⟨a, rfl, ha⟩ := ht
    refine ite2 (fun c => absurd (of_decide_eq_true c) (by intro z; cases z)) (fun c => ?_)
    refine ⟨_, rfl, a, _, _, _, rfl, rfl, SqT.of ha, rfl, rfl, _, rfl, ?_⟩
    refine ite2 (fun c => ?_) (fun c => absurd (decide_eq_true rfl) c)
    exact ⟨_, rfl, a, _, _, _, rfl, rfl, SqT.of ha, rfl, q⟩
  | part ms l r =>
    obtain ⟨a, m, x, y, rfl, ha, hm, hl, hr'⟩ := ht
    refine ite2 (fun c => absurd (of_decide_eq_true c) (by intro z; cases z)) (fun c => ?_)
    refine ⟨_, rfl, a, _, _, _, rfl, rfl, SqT.of ha, rfl, rfl, _, rfl, ?_⟩
    refine ite2 (fun c => absurd (of_decide_eq_true c) (by decide)) (fun c => ?_)
    refine ⟨_, rfl, a, _, _, _, rfl, rfl, SqT.of ha, rfl, m, _, rfl, .inr hm.sq, ?_⟩
    rw [List.length_map]
    exact q
end

abbrev k_half_of : Nat := 1
def sp_half_of (_ : PySem.W.Frag) : Sp := fun vs H Q _ => ∃ (v : V) (t : Tr) (mk : Int), vs = [v, .int mk] ∧ TreeAt H v t ∧ (mk = 0 ∨ mk = 1) ∧ ∀ u, TreeAt H u (trHalf t mk) → Q u H
section
variable {P : Program} {w : World} {K : PySem.W.Frag} {mg : Str → Option Value} {base : Heap}
theorem ok_half_of (d : Def K mg "half_of" s_half_of ["tree", "mark"]) (z : Bz K mg cLeastError cBeyond cNoSuch cTooMany cNoText cNoRow cMakes cDesk)  : Cal P w K mg base k_half_of "half_of" ["tree", "mark"] (sp_half_of K) := by
  have sc := sc_half_of
  refine d.cal fun f fd F => F.ok sc (fun vs H Q E h => ?_) (fun cdv A outer s H vs Q E hr h => ?_)
  · obtain ⟨v, t, mk, rfl, _⟩ := h
    rfl
  obtain ⟨v, t, mk, rfl, ht, hmk, q⟩ := h
  refine ⟨_, (pss_cons (ps_if (PW.pt (pw_or (pt_cmpR op_isN (pv 0) pe_non (nomark _)) (pw_or1 (pt_cmpR op_eq (pe_ix ix_tup (pv 0) pe_int (fun _ _ => rfl)) pe_str (nomark _)))))
  (pss_one (ps_ret pe_non))
  pss_nil)
 (pss_one (ps_ret (pe_ix ix_tup (pv 0) (pe_op op_add pe_int (pv 1)) (fun _ _ => rfl))))), ?_⟩
  refine ⟨_, rfl, rfl, _, rfl, ?_⟩
  cases t with
  | non =>
    cases ht
    exact ite2 (fun c => q .non rfl) (fun c => absurd (decide_eq_true rfl) c)
  | many n =>
    obtain ⟨a, rfl, ha⟩ := ht
    refine ite2 (fun c => absurd (of_decide_eq_true c) (by intro z; cases z)) (fun c => ?_)
    refine ⟨_, rfl, a, _, _, _, rfl, rfl, SqT.of ha, rfl, rfl, _, rfl, ?_⟩
    exact ite2 (fun c => q .non rfl) (fun c => absurd (decide_eq_true rfl) c)
  | part ms l r =>
    obtain ⟨a, m, x, y, rfl, ha, hm, hl, hr'⟩ := ht
    refine ite2 (fun c => absurd (of_decide_eq_true c) (by intro z; cases z)) (fun c => ?_)
    refine ⟨_, rfl, a, _, _, _, rfl, rfl, SqT.of ha, rfl, rfl, _, rfl, ?_⟩
    refine ite2 (fun c => absurd (of_decide_eq_true c) (by decide)) (fun c => ?_)
    refine ⟨_, rfl, _, rfl, _, _, rfl, rfl, ?_⟩
    rcases hmk with rfl | rfl
    · exact ⟨a, _, _, _, rfl, rfl, SqT.of ha, rfl, q x hl⟩
    · exact ⟨a, _, _, _, rfl, rfl, SqT.of ha, rfl, q y hr'⟩
end

theorem all_flat (ms : List Int) : (ms.map V.int).all flatV = true := by
  rw [List.all_eq_true]
  intro x hx
  obtain ⟨i, _, rfl⟩ := List.mem_map.mp hx
  rfl
theorem count_map (ms : List Int) (m : Int) : (ms.map V.int).countP (fun y => eqV y (.int m)) = ms.count m := by
  rw [List.countP_map, List.count_eq_countP]
  rfl
theorem cut_take (ms : List Int) (k : Nat) : cutV (ms.map V.int) none (some (k : Int)) = (ms.take k).map V.int := by
  unfold cutV
  rw [HT.sIx_nat, HT.sIx_none, List.drop_zero, Nat.sub_zero, List.map_take]
  by_cases h : k ≤ (ms.map V.int).length
  · rw [Nat.min_eq_left h]
  · rw [Nat.min_eq_right (by omega), List.take_length, List.take_of_length_le (by omega)]
abbrev k_ahead : Nat := 1
def sp_ahead (_ : PySem.W.Frag) : Sp := fun vs H Q _ => ∃ (t : Addr) (ms : List Int) (mk : Int) (pl : Nat), vs = [.ref t, .int mk, .int (pl : Int)] ∧ TupF H t (ms.map V.int) ∧ ∀ H', Same H H' → Q (.int ((ms.take pl).count mk : Nat)) H'
section
variable {P : Program} {w : World} {K : PySem.W.Frag} {mg : Str → Option Value} {base : Heap}
theorem ok_ahead (d : Def K mg "ahead" s_ahead ["marks", "mark", "place"]) (z : Bz K mg cLeastError cBeyond cNoSuch cTooMany cNoText cNoRow cMakes cDesk)  : Cal P w K mg base k_ahead "ahead" ["marks", "mark", "place"] (sp_ahead K) := by
  have sc := sc_ahead
  refine d.cal fun f fd F => F.ok sc (fun vs H Q E h => ?_) (fun cdv A outer s H vs Q E hr h => ?_)
  · obtain ⟨t, ms, mk, pl, rfl, _⟩ := h
    rfl
  obtain ⟨t, ms, mk, pl, rfl, ht, q⟩ := h
  refine ⟨_, (pss_one (ps_ret (pe_bmF PySem.F.plainAttrs_tuple PySem.F.slot_tuple_count PySem.F.type_tuple_count mt_countT (pe_slice sl_tupF (pv 0) po_none (po_some (pe_callB (call_max2 rfl) (by rfl) z.max_ bt_max (pa_cons (pv 2) (pa_cons pe_int pa_nil))))) (pa_cons (pv 1) pa_nil)))), ?_⟩
  have e1 : (if (0 : Int) > (pl : Int) then (0 : Int) else (pl : Int)) = (pl : Int) := if_neg (by omega)
  refine ⟨_, rfl, _, rfl, _, _, rfl, _, rfl, t, _, rfl, ht, fun p H1 s1 h1 => ?_⟩
  rw [e1, cut_take] at h1
  obtain ⟨o, ho, hc, hd⟩ := id h1
  refine ⟨⟨p, o, _, rfl, ho, hc, hd⟩, _, rfl, p, _, _, rfl, rfl, h1.sq, rfl, all_flat _, ?_⟩
  rw [count_map]
  exact q H1 s1
end

/-! ### the pen of the third kind: a cell, whether it is great, how often it was mixed -/
/-- the script: known to the object, or the module's own -/
def Scr (K : PySem.W.Frag) (H : Hp) (a : Addr) (xs : List V) : Prop :=
  (∃ o, H a = some (.frz o (.lst xs))) ∨
    ∃ (o : Obj) (its : Array Value) (n : Nat), K.lookup a = some o ∧ o.cls = .type "list" ∧ o.dict = none ∧ o.data = .seq its n ∧ its.size ≤ sizeLine ∧ Vals xs its.toList
theorem Scr.sq {K : PySem.W.Frag} {H : Hp} {a : Addr} {xs : List V} (h : Scr K H a xs) : SqL K H a xs := by
  rcases h with h | h
  · exact .inl (.inr h)
  · exact .inr h
theorem Scr.of {K : PySem.W.Frag} {H : Hp} {a : Addr} {xs : List V} (h : SqL K H a xs) (o : Only H) : Scr K H a xs := by
  rcases h with (h | h) | h
  · rcases o a with z | ⟨ob, ys, z⟩
    · rw [z] at h; cases h
    · rw [z] at h; cases h
  · exact .inl h
  · exact .inr h
theorem Scr.same {K : PySem.W.Frag} {H H' : Hp} {a : Addr} {xs : List V} (h : Scr K H a xs) (s : Same H H') : Scr K H' a xs := by
  rcases h with ⟨o, h⟩ | h
  · exact .inl ⟨o, s _ _ h⟩
  · exact .inr h
theorem Scr.keep {K : PySem.W.Frag} {H H' : Hp} {a p : Addr} {xs ys : List V} (h : Scr K H a xs) (k : Keep p H H') (e : H p = some (.lst ys)) : Scr K H' a xs := by
  rcases h with ⟨ob, h⟩ | h
  · exact .inl ⟨ob, k _ _ (ne_of h e (by intro z; cases z)) h⟩
  · exact .inr h
def PenM (H : Hp) (pen : Addr) : Prop := ∃ (c : Int) (b : Bool) (n : Int), H pen = some (.lst [.int c, .bl b, .int n])
theorem PenM.same {H H' : Hp} {pen : Addr} (p : PenM H pen) (s : Same H H') : PenM H' pen := by
  obtain ⟨c, b, n, h⟩ := p
  exact ⟨c, b, n, s _ _ h⟩
theorem PenM.new {H : Hp} {pen q : Addr} (p : PenM H pen) (h : H q = none) (o : HO) : PenM (upd H q o) pen := p.same (same_new h o)
theorem PenM.at {H : Hp} {pen : Addr} (p : PenM H pen) : ∃ xs, H pen = some (.lst xs) := by
  obtain ⟨c, b, n, h⟩ := p
  exact ⟨_, h⟩
theorem PenM.ne {H : Hp} {pen b : Addr} {xs : List V} (p : PenM H pen) (h : H b = some (.tup xs)) : b ≠ pen := by
  obtain ⟨ys, e⟩ := p.at
  exact ne_of h e (by intro z; cases z)
theorem PenM.fresh {H : Hp} {pen b : Addr} (p : PenM H pen) (h : H b = none) : b ≠ pen := by
  obtain ⟨ys, e⟩ := p.at
  exact Ne.symm (ne_of_none e h)
theorem PenM.other {H : Hp} {pen q : Addr} (p : PenM H pen) (hq : q ≠ pen) (o : HO) : PenM (upd H q o) pen := by
  obtain ⟨c, b, n, e⟩ := p
  exact ⟨c, b, n, by rw [upd_ne (Ne.symm hq)]; exact e⟩
theorem PenM.keep {H H' : Hp} {pen q : Addr} (p : PenM H pen) (hq : q ≠ pen) (k : Keep q H H') : PenM H' pen := by
  obtain ⟨c, b, n, e⟩ := p
  exact ⟨c, b, n, k _ _ (Ne.symm hq) e⟩
theorem PenM.free {H H' : Hp} {pen l : Addr} (p : PenM H' pen) (k : Keep pen H H') (h : H' l = none) : H l = none := by
  obtain ⟨xs, e⟩ := p.at
  exact k.free h e
theorem PenM.scr {K : PySem.W.Frag} {H H' : Hp} {pen a : Addr} {xs : List V} (p : PenM H pen) (k : Keep pen H H') (h : Scr K H a xs) : Scr K H' a xs := by
  obtain ⟨ys, e⟩ := p.at
  exact h.keep k e
abbrev k__law_pen : Nat := 1
def sp__law_pen (K : PySem.W.Frag) : Sp := fun vs H Q _ => ∃ (a : Addr) (ns : List Int) (k : Int), vs = [.ref a, .int k] ∧ SqL K H a (ns.map V.int) ∧ ns.length ≤ 63 ∧ 0 ≤ k ∧ k < 1000 ∧
  ∀ (p : Addr) (H' : Hp), H p = none → Same H H' → PenM H' p → Q (.ref p) H'
abbrev k__law_mixed : Nat := 1
def sp__law_mixed (_ : PySem.W.Frag) : Sp := fun vs H Q _ => ∃ (pen : Addr), vs = [.ref pen] ∧ PenM H pen ∧ ∀ (v : Int) (H' : Hp), Keep pen H H' → PenM H' pen → 0 ≤ v → Q (.int v) H'
abbrev k__law_take : Nat := 2
def sp__law_take (_ : PySem.W.Frag) : Sp := fun vs H Q _ => ∃ (pen : Addr) (size : Int), vs = [.ref pen, .int size] ∧ PenM H pen ∧ 0 < size ∧ size < 10 ^ 60 ∧
  ∀ (v : Int) (H' : Hp), Keep pen H H' → PenM H' pen → 0 ≤ v → v < size → Q (.int v) H'
abbrev k__law_bounds : Nat := 3
def sp__law_bounds (_ : PySem.W.Frag) : Sp := fun vs H Q _ => ∃ (pen : Addr), vs = [.ref pen] ∧ PenM H pen ∧
  ∀ (b : Addr) (low : Int) (L : Nat) (H' : Hp), Keep pen H H' → PenM H' pen → H' b = some (.tup [.int low, .int (L : Int)]) → L ≤ 40 → -(10 ^ 40) < low → low < 10 ^ 40 → Q (.ref b) H'
abbrev k__law_row : Nat := 3
def sp__law_row (_ : PySem.W.Frag) : Sp := fun vs H Q _ => ∃ (pen b : Addr) (low g : Int) (L : Nat), vs = [.ref pen, .ref b, .int g] ∧ PenM H pen ∧ H b = some (.tup [.int low, .int (L : Int)]) ∧ L ≤ 40 ∧ 0 ≤ g ∧ g ≤ 60 ∧
  ∀ (r : Addr) (ns : List Int) (H' : Hp), Keep pen H H' → PenM H' pen → H' r = some (.lst (ns.map V.int)) → H r = none → (ns.length : Int) ≤ g → Wths low L ns → Q (.ref r) H'
def muT : St → Nat := fun σ => match σ[3]? with
  | some (some (V.int m)) => m.toNat
  | _ => 0
section
variable {P : Program} {w : World} {K : PySem.W.Frag} {mg : Str → Option Value} {base : Heap}
theorem ok__law_pen (d : Def K mg "_law_pen" s__law_pen ["_law_script", "_law_k"]) (z : Bz K mg cLeastError cBeyond cNoSuch cTooMany cNoText cNoRow cMakes cDesk)  : Cal P w K mg base k__law_pen "_law_pen" ["_law_script", "_law_k"] (sp__law_pen K) := by
  have sc := sc__law_pen
  refine d.cal fun f fd F => F.ok sc (fun vs H Q E h => ?_) (fun cdv A outer s H vs Q E hr h => ?_)
  · obtain ⟨a, ns, k, rfl, _⟩ := h
    rfl
  obtain ⟨a, ns, k, rfl, hS, h63, h0, hk, q⟩ := h
  refine ⟨_, (pss_cons (ps_set (i := 2) sc.nd rfl (Or.inl rfl) (pe_op op_add (pe_op op_mul pe_int (pv 1)) pe_int))
 (pss_cons (ps_if (pt_cmpR op_lt (pv 1) (pe_callB call_len_seq (by rfl) z.len_ bt_len (pa_cons (pv 0) pa_nil)) (nomark _))
  (pss_one (ps_set (i := 2) sc.nd rfl (Or.inl rfl) (pe_ix ix_list (pv 0) (pv 1) (fun _ _ => rfl))))
  (pss_one (ps_if (pt_cmpR op_gt (pe_callB call_len_seq (by rfl) z.len_ bt_len (pa_cons (pv 0) pa_nil)) pe_int (nomark _))
  (pss_one (ps_set (i := 2) sc.nd rfl (Or.inl rfl) (pe_op op_add (pv 2) (pe_op op_mod (pe_ix ix_list (pv 0) (pe_op op_mod (pv 1) (pe_callB call_len_seq (by rfl) z.len_ bt_len (pa_cons (pv 0) pa_nil))) (fun _ _ => rfl)) (pe_op op_pow pe_int pe_int)))))
  pss_nil)))
 (pss_one (ps_ret (pe_lst (pa_cons (pv 2) (pa_cons (pe_cmpR op_ge (pv 2) (pe_op op_pow pe_int pe_int) (nomark _)) (pa_cons pe_int pa_nil)))))))), ?_⟩
  have hl : (ns.map V.int).length = ns.length := List.length_map _
  refine ⟨_, rfl, _, _, rfl, rfl, .inl ⟨by decide, by decide⟩, _, _, rfl, rfl, ?_⟩
  refine ⟨_, rfl, _, rfl, a, _, rfl, .inl hS, _, _, rfl, rfl, _, rfl, ?_⟩
  refine ite2 (fun c => ?_) (fun c => ?_)
  · have c' : k < (((ns.map V.int).length : Nat) : Int) := of_decide_eq_true c
    rw [hl] at c'
    obtain ⟨v, _, hv⟩ := atI_ints h0 c'
    refine ⟨_, rfl, _, rfl, a, _, _, _, rfl, rfl, hS, hv, ?_⟩
    exact ⟨_, rfl, _, rfl, _, _, rfl, rfl, ⟨by decide, by decide, by decide⟩, _, _, rfl, rfl, szb rfl, fun p hp => q p _ hp (same_new hp _) ⟨_, _, _, upd_same⟩⟩
  · refine ⟨_, rfl, a, _, rfl, .inl hS, _, _, rfl, rfl, _, rfl, ?_⟩
    refine ite2 (fun c2 => ?_) (fun c2 => ?_)
    · have c2' : (0 : Int) < (((ns.map V.int).length : Nat) : Int) := of_decide_eq_true c2
      have m0 : 0 ≤ k % (((ns.map V.int).length : Nat) : Int) := Int.emod_nonneg _ (by omega)
      have m1 : k % (((ns.map V.int).length : Nat) : Int) < (((ns.map V.int).length : Nat) : Int) := Int.emod_lt_of_pos _ c2'
      obtain ⟨v, _, hv⟩ := atI_ints (l := ns) m0 (by rw [hl] at m1 ⊢; exact m1)
      refine ⟨_, rfl, _, rfl, _, rfl, _, rfl, a, _, rfl, .inl hS, _, _, rfl, rfl, c2', a, _, _, _, rfl, rfl, hS, hv, _, _, rfl, rfl, ⟨by decide, by decide, by decide⟩, _, _, rfl, rfl, (by show (0 : Int) < 10 ^ 15; decide), _, _, rfl, rfl, ?_⟩
      exact ⟨_, rfl, _, rfl, _, _, rfl, rfl, ⟨by decide, by decide, by decide⟩, _, _, rfl, rfl, szb rfl, fun p hp => q p _ hp (same_new hp _) ⟨_, _, _, upd_same⟩⟩
    · exact ⟨_, rfl, _, rfl, _, _, rfl, rfl, ⟨by decide, by decide, by decide⟩, _, _, rfl, rfl, szb rfl, fun p hp => q p _ hp (same_new hp _) ⟨_, _, _, upd_same⟩⟩
theorem ok__law_mixed (d : Def K mg "_law_mixed" s__law_mixed ["_law_pen_here"]) (z : Bz K mg cLeastError cBeyond cNoSuch cTooMany cNoText cNoRow cMakes cDesk)  : Cal P w K mg base k__law_mixed "_law_mixed" ["_law_pen_here"] (sp__law_mixed K) := by
  have sc := sc__law_mixed
  refine d.cal fun f fd F => F.ok sc (fun vs H Q E h => ?_) (fun cdv A outer s H vs Q E hr h => ?_)
  · obtain ⟨pen, rfl, _⟩ := h
    rfl
  obtain ⟨pen, rfl, ⟨c, b, n, hp⟩, q⟩ := h
  refine ⟨_, (pss_cons (ps_asg (pe_op op_add (pe_ix ix_list (pv 0) pe_int (fun _ _ => rfl)) pe_int) (pg_sub (pv 0) pe_int set_list))
 (pss_cons (ps_set (i := 1) sc.nd rfl (Or.inl rfl) (pe_op op_mod (pe_op op_mul (pe_op op_add (pe_op op_mod (pe_ix ix_list (pv 0) pe_int (fun _ _ => rfl)) pe_int) (pe_op op_mul pe_int (pe_ix ix_list (pv 0) pe_int (fun _ _ => rfl)))) pe_int) pe_int))
 (pss_cons (ps_set (i := 1) sc.nd rfl (Or.inl rfl) (pe_op op_mod (pe_op op_mul (pe_op op_add (pv 1) (pe_op op_mul pe_int (pe_ix ix_list (pv 0) pe_int (fun _ _ => rfl)))) (pe_op op_add (pv 1) pe_int)) pe_int))
 (pss_one (ps_ret (pe_op op_fdivB (pv 1) pe_int)))))), ?_⟩
  refine ⟨_, rfl, pen, _, _, _, rfl, rfl, SqL.of hp, rfl, _, _, rfl, rfl, _, rfl, pen, _, _, 2, rfl, rfl, hp, rfl, ?_⟩
  refine ⟨_, rfl, pen, _, _, _, rfl, rfl, SqL.of upd_same, rfl, _, _, rfl, rfl, (by show (0 : Int) < 2147483647; decide), _, rfl, pen, _, _, _, rfl, rfl, SqL.of upd_same, rfl, _, _, rfl, rfl, .inl ⟨by decide, by decide⟩, _, _, rfl, rfl, _, _, rfl, rfl, .inr ⟨by decide, by decide⟩, _, _, rfl, rfl, (by show (0 : Int) < 2147483629; decide), ?_⟩
  refine ⟨_, rfl, _, rfl, pen, _, _, _, rfl, rfl, SqL.of upd_same, rfl, _, _, rfl, rfl, .inl ⟨by decide, by decide⟩, _, _, rfl, rfl, _, rfl, _, _, rfl, rfl, _, _, rfl, rfl, .inr ⟨by omega, by omega⟩, _, _, rfl, rfl, (by show (0 : Int) < 2147483587; decide), ?_⟩
  refine ⟨_, rfl, _, _, rfl, rfl, ⟨by decide, by decide⟩, ?_⟩
  exact q _ _ (Keep.set pen H _) ⟨_, _, _, upd_same⟩ (Int.ediv_nonneg (Int.emod_nonneg _ (by decide)) (by decide))
theorem ok__law_take (d : Def K mg "_law_take" s__law_take ["_law_pen_here", "_law_size"]) (z : Bz K mg cLeastError cBeyond cNoSuch cTooMany cNoText cNoRow cMakes cDesk) (c__law_mixed : Cal P w K mg base k__law_mixed "_law_mixed" ["_law_pen_here"] (sp__law_mixed K)) : Cal P w K mg base k__law_take "_law_take" ["_law_pen_here", "_law_size"] (sp__law_take K) := by
  have sc := sc__law_take
  refine d.cal fun f fd F => F.ok sc (fun vs H Q E h => ?_) (fun cdv A outer s H vs Q E hr h => ?_)
  · obtain ⟨pen, size, rfl, _⟩ := h
    rfl
  obtain ⟨pen, size, rfl, P0, s0, s1, q⟩ := h
  refine ⟨_, (pss_cons (ps_if (pt_val (pe_ix ix_list (pv 0) pe_int (fun _ _ => rfl)))
  (pss_cons (ps_set (i := 2) sc.nd rfl (Or.inl rfl) (pe_op op_mod (pe_ix ix_list (pv 0) pe_int (fun _ _ => rfl)) (pv 1)))
 (pss_cons (ps_asg (pe_op op_fdivB (pe_ix ix_list (pv 0) pe_int (fun _ _ => rfl)) (pv 1)) (pg_sub (pv 0) pe_int set_list))
 (pss_one (ps_ret (pv 2)))))
  pss_nil)
 (pss_cons (ps_set (i := 2) sc.nd rfl (Or.inl rfl) (pe_fn c__law_mixed (hr.mono (by decide)) (by rfl) (pa_cons (pv 0) pa_nil)))
 (pss_cons (ps_set (i := 3) sc.nd rfl (Or.inl rfl) (pv 1))
 (pss_cons (ps_while PassesOwn.never (pt_cmpR op_gt (pv 3) (pe_op op_pow pe_int pe_int) (nomark _))
  (pss_cons (ps_set (i := 2) sc.nd rfl (Or.inl rfl) (pe_op op_add (pe_op op_mul (pv 2) pe_int) (pe_fn c__law_mixed (hr.mono (by decide)) (by rfl) (pa_cons (pv 0) pa_nil))))
 (pss_one (ps_set (i := 3) sc.nd rfl (Or.inl rfl) (pe_op op_fdivB (pv 3) (pe_op op_pow pe_int pe_int))))))
 (pss_one (ps_ret (pe_op op_mod (pv 2) (pv 1)))))))), ?_⟩
  obtain ⟨c, b, n, hp⟩ := id P0
  refine ⟨_, rfl, pen, _, _, _, rfl, rfl, SqL.of hp, rfl, b, rfl, ?_⟩
  refine ite2 (fun _ => ?_) (fun _ => ?_)
  · refine ⟨_, rfl, pen, _, _, _, rfl, rfl, SqL.of hp, rfl, _, rfl, _, _, rfl, rfl, s0, ?_⟩
    refine ⟨_, rfl, pen, _, _, _, rfl, rfl, SqL.of hp, rfl, _, rfl, _, _, rfl, rfl, ⟨s0, s1⟩, _, rfl, pen, _, _, 0, rfl, rfl, hp, rfl, _, rfl, ?_⟩
    exact q _ _ (Keep.set pen H _) ⟨_, _, _, upd_same⟩ (Int.emod_nonneg _ (by omega)) (Int.emod_lt_of_pos _ s0)
  · refine ⟨_, rfl, pen, rfl, P0, fun v H1 k1 P1 v0 => ?_⟩
    refine ⟨_, rfl, ?_⟩
    refine while_by (fun σ H2 => ∃ (f wd : Int), σ = [some (.ref pen), some (.int size), some (.int f), some (.int wd)] ∧ Keep pen H H2 ∧ PenM H2 pen) (fun σ _ => muT σ) ⟨v, size, rfl, k1, P1⟩ ?_ ?_
    · rintro σ H2 ⟨f, wd, rfl, k2, P2⟩
      refine ⟨_, rfl, _, _, rfl, rfl, ⟨by decide, by decide, by decide⟩, _, _, rfl, rfl, _, rfl, ?_⟩
      refine ite2 (fun c2 => ?_) (fun c2 => ?_)
      · have c2' : (10 : Int) ^ 8 < wd := of_decide_eq_true c2
        refine ⟨_, rfl, _, _, rfl, rfl, .inr ⟨by decide, by decide⟩, _, rfl, pen, rfl, P2, fun v3 H3 k3 P3 _ => ⟨_, _, rfl, rfl, ?_⟩⟩
        refine ⟨_, rfl, _, _, rfl, rfl, ⟨by decide, by decide, by decide⟩, _, _, rfl, rfl, ⟨by decide, by decide⟩, ⟨_, _, rfl, k2.trans k3, P3⟩, ?_⟩
        show (wd / (10 : Int) ^ 8).toNat < wd.toNat
        omega
      · refine ⟨_, rfl, _, rfl, _, _, rfl, rfl, s0, ?_⟩
        exact q _ _ k2 P2 (Int.emod_nonneg _ (by omega)) (Int.emod_lt_of_pos _ s0)
    · rintro σ H2 Q1 Q2 hq ⟨_, e0, i, j, e1, e2, e3, i2, j2, e4, e5, k, e6, h⟩
      exact ⟨_, e0, i, j, e1, e2, e3, i2, j2, e4, e5, k, e6, hq _ _ h⟩
theorem ok__law_bounds (d : Def K mg "_law_bounds" s__law_bounds ["_law_pen_here"]) (z : Bz K mg cLeastError cBeyond cNoSuch cTooMany cNoText cNoRow cMakes cDesk) (c__law_take : Cal P w K mg base k__law_take "_law_take" ["_law_pen_here", "_law_size"] (sp__law_take K)) : Cal P w K mg base k__law_bounds "_law_bounds" ["_law_pen_here"] (sp__law_bounds K) := by
  have sc := sc__law_bounds
  refine d.cal fun f fd F => F.ok sc (fun vs H Q E h => ?_) (fun cdv A outer s H vs Q E hr h => ?_)
  · obtain ⟨pen, rfl, _⟩ := h
    rfl
  obtain ⟨pen, rfl, P0, q⟩ := h
  refine ⟨_, (pss_cons (ps_set (i := 1) sc.nd rfl (Or.inl rfl) (pe_ix ix_list (pe_lst (pa_cons pe_int (pa_cons pe_int (pa_cons pe_int (pa_cons pe_int (pa_cons pe_int (pa_cons pe_int (pa_cons pe_int (pa_cons pe_int pa_nil))))))))) (pe_fn c__law_take (hr.mono (by decide)) (by rfl) (pa_cons (pv 0) (pa_cons pe_int pa_nil))) (fun _ _ => rfl)))
 (pss_cons (ps_set (i := 2) sc.nd rfl (Or.inl rfl) (pe_fn c__law_take (hr.mono (by decide)) (by rfl) (pa_cons (pv 0) (pa_cons pe_int pa_nil))))
 (pss_cons (ps_set (i := 3) sc.nd rfl (Or.inl rfl) (pe_fn c__law_take (hr.mono (by decide)) (by rfl) (pa_cons (pv 0) (pa_cons (pe_ix ix_list (pe_lst (pa_cons pe_int (pa_cons pe_int (pa_cons pe_int (pa_cons (pe_op op_sub (pe_op op_mul pe_int (pe_op op_pow pe_int pe_int)) pe_int) pa_nil))))) (pv 2) (fun _ _ => rfl)) pa_nil))))
 (pss_one (ps_ret (pe_tup (pa_cons (pe_ix ix_list (pe_lst (pa_cons pe_int (pa_cons (pe_op op_sub pe_int (pv 3)) (pa_cons (pe_op op_sub (pe_op op_sub (pe_op op_pow pe_int pe_int) pe_int) (pv 3)) (pa_cons (pe_op op_add (pe_op op_sub (pv 3) (pe_op op_pow pe_int pe_int)) pe_int) pa_nil))))) (pv 2) (fun _ _ => rfl)) (pa_cons (pv 1) pa_nil)))))))), ?_⟩
  refine ⟨szb rfl, fun p hp => ?_⟩
  refine ⟨_, rfl, pen, 8, rfl, P0.new hp _, by decide, by decide, fun v1 H1 k1 P1 a1 b1 => ?_⟩
  obtain ⟨L', hm, hv⟩ := atI_ints (l := [0, 1, 2, 3, 4, 5, 8, 40]) a1 b1
  have hL : 0 ≤ L' ∧ L' ≤ 40 := by
    simp only [List.mem_cons, List.not_mem_nil, or_false] at hm
    omega
  obtain ⟨L, rfl⟩ := Int.eq_ofNat_of_zero_le hL.1
  have hL2 : L ≤ 40 := by omega
  refine ⟨p, _, _, _, rfl, rfl, SqL.of (k1 _ _ (P0.fresh hp) upd_same), hv, ?_⟩
  refine ⟨_, rfl, pen, 4, rfl, P1, by decide, by decide, fun v2 H2 k2 P2 a2 b2 => ?_⟩
  have k02 : Keep pen H H2 := (Keep.new hp _).trans (k1.trans k2)
  obtain ⟨S, hS, S0, S1, hlow⟩ : ∃ S : Int, atI [V.int 1, .int 20, .int 9, .int (2 * 10 ^ (40 : Int).toNat - 1)] v2 = some (.int S) ∧ 0 < S ∧ S < 10 ^ 60 ∧ ∀ x : Int, 0 ≤ x → x < S →
      ∃ y : Int, atI [V.int 0, .int (0 - x), .int (10 ^ (40 : Int).toNat - 1 - x), .int (x - 10 ^ (40 : Int).toNat + 1)] v2 = some (.int y) ∧ -(10 ^ 40) < y ∧ y < 10 ^ 40 := by
    have h4 : v2 = 0 ∨ v2 = 1 ∨ v2 = 2 ∨ v2 = 3 := by omega
    rcases h4 with rfl | rfl | rfl | rfl
    · exact ⟨1, rfl, by decide, by decide, fun x _ _ => ⟨0, rfl, by decide, by decide⟩⟩
    · exact ⟨20, rfl, by decide, by decide, fun x _ _ => ⟨_, rfl, by omega, by omega⟩⟩
    · refine ⟨9, rfl, by decide, by decide, fun x _ _ => ⟨_, rfl, ?_, ?_⟩⟩
      · show -(10 ^ 40) < (10 : Int) ^ 40 - 1 - x
        omega
      · show (10 : Int) ^ 40 - 1 - x < 10 ^ 40
        omega
    · refine ⟨_, rfl, by decide, by decide, fun x x0 x1 => ⟨_, rfl, ?_, ?_⟩⟩
      · show -(10 ^ 40) < x - (10 : Int) ^ 40 + 1
        omega
      · show x - (10 : Int) ^ 40 + 1 < 10 ^ 40
        have x1' : x < 2 * (10 : Int) ^ 40 - 1 := x1
        omega
  refine ⟨_, rfl, _, _, rfl, rfl, ⟨by decide, by decide, by decide⟩, _, _, rfl, rfl, .inl ⟨by decide, by decide⟩, _, _, rfl, rfl, szb rfl, fun p2 hp2 => ?_⟩
  refine ⟨_, rfl, p2, _, _, _, rfl, rfl, SqL.of upd_same, hS, pen, _, rfl, P2.new hp2 _, S0, S1, fun v3 H3 k3 P3 a3 b3 => ?_⟩
  obtain ⟨y, hy, y0, y1⟩ := hlow v3 a3 b3
  refine ⟨_, rfl, _, _, rfl, rfl, _, _, rfl, rfl, ⟨by decide, by decide, by decide⟩, _, _, rfl, rfl, _, rfl, _, _, rfl, rfl, _, rfl, _, _, rfl, rfl, ⟨by decide, by decide, by decide⟩, _, _, rfl, rfl, _, _, rfl, rfl, szb rfl, fun p3 hp3 => ?_⟩
  refine ⟨_, rfl, p3, _, _, _, rfl, rfl, SqL.of upd_same, hy, _, rfl, szb rfl, fun b hb => ?_⟩
  exact q b y L _ (k02.trans ((Keep.new hp2 _).trans (k3.trans ((Keep.new hp3 _).trans (Keep.new hb _))))) ((P3.new hp3 _).new hb _) upd_same hL2 y0 y1
theorem ok__law_row (d : Def K mg "_law_row" s__law_row ["_law_pen_here", "_law_bounds_here", "_law_longest"]) (z : Bz K mg cLeastError cBeyond cNoSuch cTooMany cNoText cNoRow cMakes cDesk) (c__law_take : Cal P w K mg base k__law_take "_law_take" ["_law_pen_here", "_law_size"] (sp__law_take K)) : Cal P w K mg base k__law_row "_law_row" ["_law_pen_here", "_law_bounds_here", "_law_longest"] (sp__law_row K) := by
  have sc := sc__law_row
  refine d.cal fun f fd F => F.ok sc (fun vs H Q E h => ?_) (fun cdv A outer s H vs Q E hr h => ?_)
  · obtain ⟨pen, b, low, g, L, rfl, _⟩ := h
    rfl
  obtain ⟨pen, b, low, g, L, rfl, P0, hb, hL, g0, g1, q⟩ := h
  refine ⟨_, (pss_cons (ps_asg (pv 1) (pg_tup rfl (pgs_cons (pg_name (i := 3) sc.nd rfl (Or.inl rfl)) (pgs_cons (pg_name (i := 4) sc.nd rfl (Or.inl rfl)) pgs_nil))))
 (pss_cons (ps_set (i := 5) sc.nd rfl (Or.inr rfl) (pe_op op_shl pe_int (pv 4)))
 (pss_cons (ps_set (i := 6) sc.nd rfl (Or.inl rfl) (pe_fn c__law_take (hr.mono (by decide)) (by rfl) (pa_cons (pv 0) (pa_cons pe_int pa_nil))))
 (pss_cons (ps_setComp (i := 7) (cl := [("_law_size", s.heap.objs.size + 1 + 1), ("_law_pen_here", s.heap.objs.size + 1 + 0)]) (cn := ["_law_size", "_law_pen_here"]) (N := ["_law_pen_here", "_law_size"]) (fr := [0, 5]) (sc0 := defScope s__law_row) sc.nd rfl (Or.inl rfl) rfl (pi_range1 rfl z.range_ (pa_cons pe_int pa_nil)) (fun C s₂ H₂ fp => (pe_fn c__law_take (hr.mono (by decide)) (by rfl) (pa_cons (pv 1) (pa_cons (pv 2) pa_nil)))) (by with_unfolding_all rfl) ⟨by with_unfolding_all rfl, by with_unfolding_all rfl, trivial⟩ rfl rfl rfl ⟨by decide +kernel, by decide +kernel, by decide +kernel, by decide +kernel, by decide +kernel, by decide +kernel, by decide +kernel⟩ rfl (by with_unfolding_all rfl) (.inl rfl))
 (pss_cons (ps_set (i := 8) sc.nd rfl (Or.inl rfl) (pe_lst pa_nil))
 (pss_cons (ps_for PassesOwn.never rfl (pi_range1 rfl z.range_ (pa_cons (pe_fn c__law_take (hr.mono (by decide)) (by rfl) (pa_cons (pv 0) (pa_cons (pe_op op_add (pv 2) pe_int) pa_nil))) pa_nil)) (pg_name (i := 9) sc.nd rfl (Or.inl rfl))
  (pss_cons (ps_set (i := 10) sc.nd rfl (Or.inl rfl) (pe_fn c__law_take (hr.mono (by decide)) (by rfl) (pa_cons (pv 0) (pa_cons (pe_ix ix_list (pe_lst (pa_cons (pv 5) (pa_cons (pv 5) (pa_cons pe_int (pa_cons (pe_callB (call_min2 rfl) (by rfl) z.min_ bt_min (pa_cons (pv 5) (pa_cons pe_int pa_nil))) pa_nil))))) (pv 6) (fun _ _ => rfl)) pa_nil))))
 (pss_cons (ps_if (pt_cmpR op_eq (pv 6) pe_int (nomark _))
  (pss_one (ps_set (i := 10) sc.nd rfl (Or.inl rfl) (pe_ix ix_list (pv 7) (pv 10) (fun _ _ => rfl))))
  pss_nil)
 (pss_cons (ps_if (pt_cmpR op_eq (pv 6) pe_int (nomark _))
  (pss_one (ps_set (i := 10) sc.nd rfl (Or.inl rfl) (pe_op op_mod (pe_op op_add (pe_ix ix_list (pv 7) pe_int (fun _ _ => rfl)) (pv 10)) (pv 5))))
  pss_nil)
 (pss_one (ps_expr (pe_bm PySem.F.plainAttrs_list PySem.F.slot_list_append PySem.F.type_list_append mt_append (pv 8) (pa_cons (pe_op op_add (pv 3) (pv 10)) pa_nil))))))))
 (pss_one (ps_ret (pv 8))))))))), ?_⟩
  have hp := p2pos L
  have hq := p2le hL
  refine ⟨_, rfl, b, _, rfl, SqT.of hb, rfl, _, _, rfl, _, _, rfl, rfl, ?_⟩
  refine ⟨_, rfl, _, _, rfl, rfl, ⟨by omega, by omega, by decide⟩, ?_⟩
  dsimp only
  rw [shlOne]
  refine ⟨_, rfl, pen, 4, rfl, P0, by decide, by decide, fun wv H1 k1 P1 w0 w1 => ?_⟩
  refine ⟨3, rfl, by decide, by decide, fun D hD => ?_⟩
  have hD0 : H D = none := P1.free k1 hD
  have hDp : D ≠ pen := P1.fresh hD
  refine comp_range (n := 3) (sz (by decide)) (fun j ys H6 => ∃ fs : List Int, ys = fs.map V.int ∧ fs.length = j ∧ (∀ x ∈ fs, 0 ≤ x ∧ x < (2 : Int) ^ L) ∧ H6 D = some (.lst ys) ∧ Keep pen H H6 ∧ PenM H6 pen)
    ⟨[], rfl, rfl, fun x hx => absurd hx (by simp), upd_same, k1.own hD0, P1.new hD _⟩ (fun j ys H6 ⟨fs, e1, e2, _, e3, _⟩ => ⟨e3, by rw [e1, List.length_map]; exact e2⟩) ?_ ?_
  · rintro j ys H6 hj ⟨fs, e1, e2, e4, e3, k6, P6⟩
    refine ⟨_, rfl, _, rfl, pen, _, rfl, P6, hp, by omega, fun u3 H7 k7 P7 z0 z1 => ?_⟩
    have e3' : H7 D = some (.lst ys) := k7 _ _ hDp e3
    refine ⟨e3', fs ++ [u3], by rw [List.map_append, e1] <;> rfl, by rw [List.length_append, e2] <;> rfl, fun x hx => ?_, upd_same, (k6.trans k7).own hD0, P7.other hDp _⟩
    rcases List.mem_append.mp hx with h' | h'
    · exact e4 x h'
    · cases List.mem_singleton.mp h'
      exact ⟨z0, z1⟩
  · rintro ys H6 ⟨fs, e1, e2, e4, e3, k6, P6⟩
    rw [e1] at e3
    refine ⟨szb rfl, fun r hr => ?_⟩
    have hr0 : H r = none := P6.free k6 hr
    have hrD : D ≠ r := ne_of_none e3 hr
    have hrp : r ≠ pen := P6.fresh hr
    have P7 : PenM (upd H6 r (.lst [])) pen := P6.new hr _
    refine ⟨_, rfl, _, rfl, _, _, rfl, rfl, pen, _, rfl, P7, by omega, by omega, fun m H7 k7 P7 m0 m1 => ⟨m, rfl, by omega, by omega, for_range (n := m.toNat) (fun i σ H8 => ∃ (ns : List Int) (v9 v10 : Option V), σ = [some (.ref pen), some (.ref b), some (.int g), some (.int low), some (.int (L : Int)), some (.int (2 ^ L)), some (.int wv), some (.ref D), some (.ref r), v9, v10] ∧ H8 r = some (.lst (ns.map V.int)) ∧ ns.length = i ∧ Wths low L ns ∧
      H8 D = some (.lst (fs.map V.int)) ∧ Keep pen H H8 ∧ PenM H8 pen) ⟨[], _, _, rfl, k7 _ _ hrp upd_same, rfl, fun x hx => absurd hx (by simp), k7 _ _ hDp (by rw [upd_ne hrD]; exact e3), (k6.own hr0).trans k7, P7⟩ ?_ ?_⟩⟩
    · rintro i σ H8 hi ⟨ns, v9, v10, rfl, hr8, hl8, hw8, hD8, k8, P8⟩
      obtain ⟨S, hS, S0, S1, S2, S3⟩ : ∃ S : Int, atI [V.int (2 ^ L), .int (2 ^ L), .int 3, .int (if (5 : Int) < 2 ^ L then 5 else 2 ^ L)] wv = some (.int S) ∧ 0 < S ∧ S < 10 ^ 60 ∧ (wv = 2 → S = 3) ∧ (wv ≠ 2 → S ≤ 2 ^ L) := by
        have h4 : wv = 0 ∨ wv = 1 ∨ wv = 2 ∨ wv = 3 := by omega
        rcases h4 with rfl | rfl | rfl | rfl
        · exact ⟨_, rfl, hp, by omega, fun z => absurd z (by decide), fun _ => Int.le_refl _⟩
        · exact ⟨_, rfl, hp, by omega, fun z => absurd z (by decide), fun _ => Int.le_refl _⟩
        · exact ⟨3, rfl, by decide, by decide, fun _ => rfl, fun z => absurd rfl z⟩
        · refine ⟨_, rfl, ?_, ?_, fun z => absurd z (by decide), fun _ => ?_⟩
          · split <;> omega
          · split <;> omega
          · split <;> omega
      have fin : ∀ (y : Int) (v : Option V) (H9 : Hp), 0 ≤ y → y < 2 ^ L → Keep pen H8 H9 → PenM H9 pen → H9 r = some (.lst (ns.map V.int)) ∧ (ns.map V.int).length < sizeLine ∧
          ∃ (ns' : List Int) (v9' v10' : Option V), [some (V.ref pen), some (.ref b), some (.int g), some (.int low), some (.int (L : Int)), some (.int (2 ^ L)), some (.int wv), some (.ref D), some (.ref r), some (.int (0 + (i : Int))), v] = [some (V.ref pen), some (.ref b), some (.int g), some (.int low), some (.int (L : Int)), some (.int (2 ^ L)), some (.int wv), some (.ref D), some (.ref r), v9', v10'] ∧
            (upd H9 r (.lst (ns.map V.int ++ [.int (low + y)]))) r = some (.lst (ns'.map V.int)) ∧ ns'.length = i + 1 ∧ Wths low L ns' ∧ (upd H9 r (.lst (ns.map V.int ++ [.int (low + y)]))) D = some (.lst (fs.map V.int)) ∧ Keep pen H (upd H9 r (.lst (ns.map V.int ++ [.int (low + y)]))) ∧ PenM (upd H9 r (.lst (ns.map V.int ++ [.int (low + y)]))) pen := by
        intro y v H9 y0 y1 k9 P9
        have hr9 := k9 _ _ hrp hr8
        have hD9 := k9 _ _ hDp hD8
        refine ⟨hr9, by rw [List.length_map, hl8]; exact small1000 (by omega), ns ++ [low + y], _, _, rfl, ?_, by rw [List.length_append, hl8] <;> rfl, hw8.snoc (by omega) (by omega), by rw [upd_ne hrD]; exact hD9, (k8.trans k9).own hr0, P9.other hrp _⟩
        rw [upd_same, List.map_append]
        rfl
      refine ⟨_, rfl, _, rfl, _, rfl, _, rfl, _, _, rfl, szb rfl, fun p2 hp2 => ?_⟩
      refine ⟨_, rfl, p2, _, _, _, rfl, rfl, SqL.of upd_same, hS, pen, _, rfl, P8.new hp2 _, S0, S1, fun u H9 k9 P9 u0 u1 => ?_⟩
      have k89 : Keep pen H8 H9 := (Keep.new hp2 _).trans k9
      refine ⟨_, rfl, rfl, _, rfl, ?_⟩
      refine ite2 (fun c => ?_) (fun c => ?_)
      · have c' : wv = 2 := V.int.inj (of_decide_eq_true c)
        have e3S := S2 c'
        obtain ⟨fv, hm, hv⟩ := atI_ints (l := fs) (i := u) u0 (by omega)
        obtain ⟨y0, y1⟩ := e4 fv hm
        refine ⟨_, rfl, _, rfl, D, _, _, _, rfl, rfl, SqL.of (k89 _ _ hDp hD8), hv, ?_⟩
        refine ⟨_, rfl, rfl, _, rfl, ?_⟩
        refine ite2 (fun c3 => ?_) (fun c3 => ?_)
        · have c3' : wv = 3 := V.int.inj (of_decide_eq_true c3)
          omega
        · obtain ⟨f1, f2, f3⟩ := fin fv (some (.int fv)) H9 y0 y1 k89 P9
          exact ⟨_, rfl, .inl ⟨rfl, _, SqL.of f1⟩, _, rfl, _, rfl, _, _, rfl, rfl, r, _, _, rfl, rfl, f1, f2, f3⟩
      · have c' : wv ≠ 2 := fun z => c (decide_eq_true (by rw [z]))
        have e3S := S3 c'
        refine ⟨_, rfl, rfl, _, rfl, ?_⟩
        refine ite2 (fun c3 => ?_) (fun c3 => ?_)
        · obtain ⟨f0, hm, hv⟩ := atI_ints (l := fs) (i := 0) (by omega) (by omega)
          have b0 : 0 ≤ (f0 + u) % (2 : Int) ^ L := Int.emod_nonneg _ (by omega)
          have b1 : (f0 + u) % (2 : Int) ^ L < 2 ^ L := Int.emod_lt_of_pos _ hp
          refine ⟨_, rfl, D, _, _, _, rfl, rfl, SqL.of (k89 _ _ hDp hD8), hv, _, rfl, _, _, rfl, rfl, _, rfl, _, _, rfl, rfl, hp, ?_⟩
          obtain ⟨f1, f2, f3⟩ := fin ((f0 + u) % (2 : Int) ^ L) (some (.int ((f0 + u) % (2 : Int) ^ L))) H9 b0 b1 k89 P9
          exact ⟨_, rfl, .inl ⟨rfl, _, SqL.of f1⟩, _, rfl, _, rfl, _, _, rfl, rfl, r, _, _, rfl, rfl, f1, f2, f3⟩
        · obtain ⟨f1, f2, f3⟩ := fin u (some (.int u)) H9 u0 (by omega) k89 P9
          exact ⟨_, rfl, .inl ⟨rfl, _, SqL.of f1⟩, _, rfl, _, rfl, _, _, rfl, rfl, r, _, _, rfl, rfl, f1, f2, f3⟩
    · rintro σ H8 ⟨ns, v9, v10, rfl, hr8, hl8, hw8, hD8, k8, P8⟩
      exact ⟨_, rfl, q r ns _ k8 P8 hr8 hr0 (by omega) hw8⟩
end

/-! ### a number put in, a number taken out -/
def mkOf (mid n : Int) : Int := if n < mid then 0 else 1
theorem mk01 (mid n : Int) : mkOf mid n = 0 ∨ mkOf mid n = 1 := by
  unfold mkOf
  split
  · exact .inl rfl
  · exact .inr rfl
theorem mkOf_lt {mid n : Int} (h : n < mid) : mkOf mid n = 0 := if_pos h
theorem mkOf_ge {mid n : Int} (h : ¬ n < mid) : mkOf mid n = 1 := if_neg h
def loI (mid : Int) : Int → Bool := fun n => decide (n < mid)
def hiI (mid : Int) : Int → Bool := fun n => decide (mid ≤ n)
theorem cnt_lo {mid : Int} (l : List Int) : (l.map (mkOf mid)).count 0 = l.countP (loI mid) := by
  induction l with
  | nil => rfl
  | cons n l ih =>
    rw [List.map_cons, List.count_cons, List.countP_cons, ih]
    unfold mkOf loI
    by_cases c : n < mid
    · simp [c]
    · simp [c]
theorem cnt_hi {mid : Int} (l : List Int) : (l.map (mkOf mid)).count 1 = l.countP (hiI mid) := by
  induction l with
  | nil => rfl
  | cons n l ih =>
    rw [List.map_cons, List.count_cons, List.countP_cons, ih]
    unfold mkOf hiI
    by_cases c : n < mid
    · have c2 : ¬ mid ≤ n := by omega
      simp [c, c2]
    · have c2 : mid ≤ n := by omega
      simp [c, c2]
theorem Wths.lower {low : Int} {e : Nat} {ns : List Int} (h : Wths low (e + 1) ns) : Wths low e (ns.filter (loI (low + 2 ^ e))) := fun x hx => by
  obtain ⟨h1, h2⟩ := List.mem_filter.mp hx
  exact ⟨(h x h1).1, of_decide_eq_true h2⟩
theorem Wths.upper {low : Int} {e : Nat} {ns : List Int} (h : Wths low (e + 1) ns) : Wths (low + 2 ^ e) e (ns.filter (hiI (low + 2 ^ e))) := fun x hx => by
  obtain ⟨h1, h2⟩ := List.mem_filter.mp hx
  have := (h x h1).2
  rw [p2succ] at this
  exact ⟨of_decide_eq_true h2, by omega⟩
theorem grow_part {low : Int} {e : Nat} {ns : List Int} (h : ns ≠ []) : grow low (e + 1) ns = .part (ns.map (mkOf (low + 2 ^ e))) (grow low e (ns.filter (loI (low + 2 ^ e)))) (grow (low + 2 ^ e) e (ns.filter (hiI (low + 2 ^ e)))) := grow_succ h
theorem half_lo (low : Int) (e : Nat) (ns : List Int) : trHalf (grow low (e + 1) ns) 0 = grow low e (ns.filter (loI (low + 2 ^ e))) := by
  by_cases h : ns = []
  · rw [h, grow_nil, List.filter_nil, grow_nil]; rfl
  · rw [grow_part h]; rfl
theorem half_hi (low : Int) (e : Nat) (ns : List Int) : trHalf (grow low (e + 1) ns) 1 = grow (low + 2 ^ e) e (ns.filter (hiI (low + 2 ^ e))) := by
  by_cases h : ns = []
  · rw [h, grow_nil, List.filter_nil, grow_nil]; rfl
  · rw [grow_part h]; rfl
theorem filt_parts (p : Int → Bool) (ns : List Int) (pl : Nat) : ns.filter p = (ns.take pl).filter p ++ (ns.drop pl).filter p := by
  rw [← List.filter_append, List.take_append_drop]
theorem filt_take (p : Int → Bool) (ns : List Int) (pl : Nat) : (ns.filter p).take ((ns.take pl).countP p) = (ns.take pl).filter p := by
  rw [filt_parts p ns pl, List.countP_eq_length_filter]
  exact List.take_left
theorem filt_drop (p : Int → Bool) (ns : List Int) (pl : Nat) : (ns.filter p).drop ((ns.take pl).countP p) = (ns.drop pl).filter p := by
  rw [filt_parts p ns pl, List.countP_eq_length_filter]
  exact List.drop_left
def insAt (ns : List Int) (pl : Nat) (x : Int) : List Int := ns.take pl ++ x :: ns.drop pl
theorem ins_ne (ns : List Int) (pl : Nat) (x : Int) : insAt ns pl x ≠ [] := by unfold insAt; simp
theorem ins_len (ns : List Int) (pl : Nat) (x : Int) : (insAt ns pl x).length = ns.length + 1 := by
  unfold insAt
  rw [List.length_append, List.length_cons, List.length_take, List.length_drop]
  omega
theorem ins_map (f : Int → Int) (ns : List Int) (pl : Nat) (x : Int) : (insAt ns pl x).map f = (ns.map f).take pl ++ f x :: (ns.map f).drop pl := by
  unfold insAt
  rw [List.map_append, List.map_cons, List.map_take, List.map_drop]
theorem ins_in {p : Int → Bool} {ns : List Int} {pl : Nat} {x : Int} (h : p x = true) : (insAt ns pl x).filter p = insAt (ns.filter p) ((ns.take pl).countP p) x := by
  unfold insAt
  rw [filt_take, filt_drop, List.filter_append, List.filter_cons, if_pos h]
theorem ins_out {p : Int → Bool} {ns : List Int} {pl : Nat} {x : Int} (h : ¬ p x = true) : (insAt ns pl x).filter p = ns.filter p := by
  unfold insAt
  rw [List.filter_append, List.filter_cons, if_neg h, ← filt_parts]
theorem ins_wths {low : Int} {L : Nat} {ns : List Int} {pl : Nat} {x : Int} (h : Wths low L ns) (h0 : low ≤ x) (h1 : x < low + 2 ^ L) : Wths low L (insAt ns pl x) := fun y hy => by
  unfold insAt at hy
  rcases List.mem_append.mp hy with z | z
  · exact h y (List.mem_of_mem_take z)
  · rcases List.mem_cons.mp z with z | z
    · rw [z]; exact ⟨h0, h1⟩
    · exact h y (List.mem_of_mem_drop z)
def hlf (mid mk : Int) : Int → Bool := if mk = 0 then loI mid else hiI mid
def lowOf (low : Int) (e : Nat) (mk : Int) : Int := if mk = 0 then low else low + 2 ^ e
theorem half_grow {low mk : Int} {e : Nat} {ns : List Int} (h : mk = 0 ∨ mk = 1) : trHalf (grow low (e + 1) ns) mk = grow (lowOf low e mk) e (ns.filter (hlf (low + 2 ^ e) mk)) := by
  rcases h with rfl | rfl
  · exact half_lo low e ns
  · exact half_hi low e ns
theorem cnt_half {mid mk : Int} {ns : List Int} {pl : Nat} (h : mk = 0 ∨ mk = 1) : ((ns.map (mkOf mid)).take pl).count mk = (ns.take pl).countP (hlf mid mk) := by
  rw [← List.map_take]
  rcases h with rfl | rfl
  · exact cnt_lo _
  · exact cnt_hi _
theorem hlf_self (mid x : Int) : hlf mid (mkOf mid x) x = true := by
  by_cases c : x < mid
  · rw [mkOf_lt c]; exact decide_eq_true c
  · rw [mkOf_ge c]; exact decide_eq_true (by omega)
theorem lowOf_eq {low mk : Int} {e : Nat} (h : mk = 0 ∨ mk = 1) : low + mk * 2 ^ e = lowOf low e mk := by
  rcases h with rfl | rfl
  · show low + 0 * 2 ^ e = low
    omega
  · show low + 1 * 2 ^ e = low + 2 ^ e
    omega
theorem Wths.half {low mk : Int} {e : Nat} {ns : List Int} (h : Wths low (e + 1) ns) (hk : mk = 0 ∨ mk = 1) : Wths (lowOf low e mk) e (ns.filter (hlf (low + 2 ^ e) mk)) := by
  rcases hk with rfl | rfl
  · exact h.lower
  · exact h.upper
theorem grow_ins (low : Int) (e : Nat) (ns : List Int) (pl : Nat) (x mk : Int) (hk : mkOf (low + 2 ^ e) x = mk) : grow low (e + 1) (insAt ns pl x) =
    .part ((ns.map (mkOf (low + 2 ^ e))).take pl ++ mk :: (ns.map (mkOf (low + 2 ^ e))).drop pl)
      (if mk = 0 then grow (lowOf low e mk) e (insAt (ns.filter (hlf (low + 2 ^ e) mk)) ((ns.take pl).countP (hlf (low + 2 ^ e) mk)) x) else trHalf (grow low (e + 1) ns) 0)
      (if mk = 0 then trHalf (grow low (e + 1) ns) 1 else grow (lowOf low e mk) e (insAt (ns.filter (hlf (low + 2 ^ e) mk)) ((ns.take pl).countP (hlf (low + 2 ^ e) mk)) x)) := by
  rw [grow_part (ins_ne ns pl x), ins_map, hk]
  by_cases c : x < low + 2 ^ e
  · rw [mkOf_lt c] at hk
    subst hk
    rw [if_pos rfl, if_pos rfl, half_hi, ins_in (p := loI _) (decide_eq_true c), ins_out (p := hiI _) (by intro z; have := of_decide_eq_true z; omega)]
    rfl
  · rw [mkOf_ge c] at hk
    subst hk
    rw [if_neg (by decide), if_neg (by decide), half_lo, ins_in (p := hiI _) (decide_eq_true (by omega)), ins_out (p := loI _) (by intro z; exact c (of_decide_eq_true z))]
    rfl
theorem way_half {low num : Int} {e : Nat} (h0 : low ≤ num) (h1 : num < low + 2 ^ (e + 1)) : wayW (e + 1) (num - low) = mkOf (low + 2 ^ e) num :: wayW e (num - lowOf low e (mkOf (low + 2 ^ e) num)) ∧
    lowOf low e (mkOf (low + 2 ^ e) num) ≤ num ∧ num < lowOf low e (mkOf (low + 2 ^ e) num) + 2 ^ e := by
  have hp := pow2 e
  by_cases c : num < low + 2 ^ e
  · rw [mkOf_lt c, wayW_lt (show num - low < 2 ^ e by omega)]
    exact ⟨rfl, h0, c⟩
  · rw [mkOf_ge c, wayW_ge (show ¬ num - low < 2 ^ e by omega)]
    refine ⟨?_, ?_, ?_⟩
    · show 1 :: wayW e (num - low - 2 ^ e) = 1 :: wayW e (num - (low + 2 ^ e))
      rw [show num - low - 2 ^ e = num - (low + 2 ^ e) by omega]
    · show low + 2 ^ e ≤ num
      omega
    · show num < low + 2 ^ e + 2 ^ e
      omega
def delAt (ns : List Int) (pl : Nat) : List Int := ns.take pl ++ ns.drop (pl + 1)
theorem del_len {ns : List Int} {pl : Nat} (h : pl < ns.length) : (delAt ns pl).length + 1 = ns.length := by
  unfold delAt
  rw [List.length_append, List.length_take, List.length_drop]
  omega
theorem del_map (f : Int → Int) (ns : List Int) (pl : Nat) : (delAt ns pl).map f = (ns.map f).take pl ++ (ns.map f).drop (pl + 1) := by
  unfold delAt
  rw [List.map_append, List.map_take, List.map_drop]
theorem drop_one {ns : List Int} {pl : Nat} {x : Int} (h : ns[pl]? = some x) : ns.drop pl = x :: ns.drop (pl + 1) := by
  obtain ⟨h1, h2⟩ := List.getElem?_eq_some_iff.mp h
  rw [← h2]
  exact List.drop_eq_getElem_cons h1
theorem del_in {p : Int → Bool} {ns : List Int} {pl : Nat} {x : Int} (hx : ns[pl]? = some x) (h : p x = true) : (delAt ns pl).filter p = delAt (ns.filter p) ((ns.take pl).countP p) := by
  have e := filt_drop p ns pl
  rw [drop_one hx, List.filter_cons, if_pos h] at e
  have e2 : (ns.filter p).drop ((ns.take pl).countP p + 1) = (ns.drop (pl + 1)).filter p := by simpa [List.drop_drop, Nat.add_comm] using congrArg (List.drop 1) e
  unfold delAt
  rw [filt_take, List.filter_append, e2]
theorem del_out {p : Int → Bool} {ns : List Int} {pl : Nat} {x : Int} (hx : ns[pl]? = some x) (h : ¬ p x = true) : (delAt ns pl).filter p = ns.filter p := by
  have e := filt_parts p ns pl
  rw [drop_one hx, List.filter_cons, if_neg h] at e
  unfold delAt
  rw [List.filter_append, e]
theorem del_wths {low : Int} {L : Nat} {ns : List Int} {pl : Nat} (h : Wths low L ns) : Wths low L (delAt ns pl) := fun y hy => by
  unfold delAt at hy
  rcases List.mem_append.mp hy with z | z
  · exact h y (List.mem_of_mem_take z)
  · exact h y (List.mem_of_mem_drop z)
theorem filt_get {p : Int → Bool} {ns : List Int} {pl : Nat} {x : Int} (hx : ns[pl]? = some x) (h : p x = true) : (ns.filter p)[(ns.take pl).countP p]? = some x := by
  have e := filt_drop p ns pl
  rw [drop_one hx, List.filter_cons, if_pos h] at e
  have z := congrArg (fun l => l[0]?) e
  simpa [List.getElem?_drop] using z
theorem grow_del {low : Int} {e : Nat} {ns : List Int} {pl : Nat} {x mk : Int} (hx : ns[pl]? = some x) (h2 : delAt ns pl ≠ []) (hk : mkOf (low + 2 ^ e) x = mk) : grow low (e + 1) (delAt ns pl) =
    .part ((ns.map (mkOf (low + 2 ^ e))).take pl ++ (ns.map (mkOf (low + 2 ^ e))).drop (pl + 1))
      (if mk = 0 then grow (lowOf low e mk) e (delAt (ns.filter (hlf (low + 2 ^ e) mk)) ((ns.take pl).countP (hlf (low + 2 ^ e) mk))) else trHalf (grow low (e + 1) ns) 0)
      (if mk = 0 then trHalf (grow low (e + 1) ns) 1 else grow (lowOf low e mk) e (delAt (ns.filter (hlf (low + 2 ^ e) mk)) ((ns.take pl).countP (hlf (low + 2 ^ e) mk)))) := by
  rw [grow_part h2, del_map]
  by_cases c : x < low + 2 ^ e
  · rw [mkOf_lt c] at hk
    subst hk
    rw [if_pos rfl, if_pos rfl, half_hi, del_in (p := loI _) hx (decide_eq_true c), del_out (p := hiI _) hx (by intro z; have := of_decide_eq_true z; omega)]
    rfl
  · rw [mkOf_ge c] at hk
    subst hk
    rw [if_neg (by decide), if_neg (by decide), half_lo, del_in (p := hiI _) hx (decide_eq_true (by omega)), del_out (p := loI _) hx (by intro z; exact c (of_decide_eq_true z))]
    rfl
theorem ins_del {ns : List Int} {pl : Nat} {x : Int} (h : pl < ns.length) : insAt (delAt ns pl) pl x = ns.take pl ++ x :: ns.drop (pl + 1) := by
  have e1 : (ns.take pl).length = pl := by rw [List.length_take]; omega
  unfold insAt delAt
  rw [List.take_append_of_le_length (by omega), List.drop_append_of_le_length (by omega), List.take_of_length_le (by omega), List.drop_of_length_le (by omega)]
  rfl
theorem cut_drop (ms : List Int) (k : Nat) : cutV (ms.map V.int) (some (k : Int)) none = (ms.drop k).map V.int := by
  unfold cutV
  rw [HT.sIx_nat, HT.sIx_none, List.map_drop]
  by_cases h : k ≤ (ms.map V.int).length
  · rw [Nat.min_eq_left h]
    exact List.take_of_length_le (by rw [List.length_drop]; exact Nat.le_refl _)
  · have h' : (ms.map V.int).length ≤ k := by omega
    rw [Nat.min_eq_right h', List.drop_of_length_le h', List.drop_of_length_le (Nat.le_refl _)]
    exact List.take_nil
theorem cut_tail (w : Int) (ws : List Int) : cutV ((w :: ws).map V.int) (some 1) none = ws.map V.int := cut_drop (w :: ws) 1

abbrev k_way_of : Nat := 4
def sp_way_of (K : PySem.W.Frag) : Sp := fun vs H Q _ => ∃ (b : Addr) (low num : Int) (L : Nat), vs = [.ref b, .int num] ∧ SqT K H b [.int low, .int (L : Int)] ∧ L ≤ 40 ∧
  (low ≤ num ∧ num ≤ low + 2 ^ L - 1) ∧ ∀ t H', Same H H' → TupF H' t ((wayW L (num - low)).map V.int) → Q (.ref t) H'
section
variable {P : Program} {w : World} {K : PySem.W.Frag} {mg : Str → Option Value} {base : Heap}
theorem ok_way_of (d : Def K mg "way_of" s_way_of ["bounds", "number"]) (z : Bz K mg cLeastError cBeyond cNoSuch cTooMany cNoText cNoRow cMakes cDesk) (c_many_worths : Cal P w K mg base k_many_worths "many_worths" ["levels"] (sp_many_worths K)) (c_where : Cal P w K mg base k_where "where" ["bounds", "number"] (sp_where K)) : Cal P w K mg base k_way_of "way_of" ["bounds", "number"] (sp_way_of K) := by
  have sc := sc_way_of
  refine d.cal fun f fd F => F.ok sc (fun vs H Q E h => ?_) (fun cdv A outer s H vs Q E hr h => ?_)
  · obtain ⟨b, low, num, L, rfl, _⟩ := h
    rfl
  obtain ⟨b, low, num, L, rfl, hb, hL, c', q⟩ := h
  refine ⟨_, (pss_cons (ps_if (pt_cmpR op_ne (pe_fn c_where (hr.mono (by decide)) (by rfl) (pa_cons (pv 0) (pa_cons (pv 1) pa_nil))) pe_str (nomark _))
  (pss_one ps_never)
  pss_nil)
 (pss_cons (ps_set (i := 2) sc.nd rfl (Or.inl rfl) (pe_ix ix_tup (pv 0) pe_int (fun _ _ => rfl)))
 (pss_cons (ps_set (i := 3) sc.nd rfl (Or.inl rfl) (pe_fn c_many_worths (hr.mono (by decide)) (by rfl) (pa_cons (pe_ix ix_tup (pv 0) pe_int (fun _ _ => rfl)) pa_nil)))
 (pss_cons (ps_set (i := 4) sc.nd rfl (Or.inl rfl) (pe_lst pa_nil))
 (pss_cons (ps_for PassesOwn.never rfl (pi_range1 rfl z.range_ (pa_cons (pe_ix ix_tup (pv 0) pe_int (fun _ _ => rfl)) pa_nil)) (pg_name (i := 5) sc.nd rfl (Or.inl rfl))
  (pss_cons (ps_set (i := 3) sc.nd rfl (Or.inl rfl) (pe_op op_fdivB (pv 3) pe_int))
 (pss_one (ps_if (pt_cmpR op_lt (pv 1) (pe_op op_add (pv 2) (pv 3)) (nomark _))
  (pss_one (ps_expr (pe_bm PySem.F.plainAttrs_list PySem.F.slot_list_append PySem.F.type_list_append mt_append (pv 4) (pa_cons pe_int pa_nil))))
  (pss_cons (ps_expr (pe_bm PySem.F.plainAttrs_list PySem.F.slot_list_append PySem.F.type_list_append mt_append (pv 4) (pa_cons pe_int pa_nil)))
 (pss_one (ps_set (i := 2) sc.nd rfl (Or.inl rfl) (pe_op op_add (pv 2) (pv 3)))))))))
 (pss_one (ps_ret (pe_callTy call_tupleF (by rfl) z.tuple_ bt_tuple (pa_cons (pv 4) pa_nil))))))))), ?_⟩
  refine ⟨_, rfl, _, rfl, b, low, num, L, rfl, hb, hL, rfl, _, rfl, ?_⟩
  refine ite2 (fun c => ?_) (fun c => ?_)
  · rw [where_in.mpr c', decide_eq_true rfl] at c
    cases c
  · skip
    refine ⟨_, rfl, b, _, _, _, rfl, rfl, hb, rfl, _, rfl, b, _, _, _, rfl, rfl, hb, rfl, L, rfl, hL, szb rfl, fun wy hwy => ?_⟩
    have hb2 : ∀ o, SqT K (upd H wy o) b [.int low, .int (L : Int)] := fun o => (same_new hwy o).seqT hb
    refine ⟨_, rfl, b, _, _, _, rfl, rfl, hb2 _, rfl, (L : Int), rfl, by omega, by omega, for_range (n := L) (fun i σ H2 => ∃ (le : Int) (ws : List Int) (v : Option V), σ = [some (.ref b), some (.int num), some (.int le), some (.int (2 ^ (L - i))), some (.ref wy), v] ∧
      H2 = upd H wy (.lst (ws.map V.int)) ∧ ws.length = i ∧ 0 ≤ num - le ∧ num - le < 2 ^ (L - i) ∧ wayW L (num - low) = ws ++ wayW (L - i) (num - le)) ⟨low, [], none, rfl, rfl, rfl, by omega, by show num - low < 2 ^ L; omega, rfl⟩ ?_ ?_⟩
    · rintro i σ H2 hi ⟨le, ws, v, rfl, rfl, hl, h0, h1, hw⟩
      obtain ⟨e, he⟩ : ∃ e, L - i = e + 1 := ⟨L - i - 1, by omega⟩
      have he2 : L - (i + 1) = e := by omega
      have p := pow2 e
      have ph := pow_half e
      rw [he] at h1 hw ⊢
      refine ⟨_, rfl, _, _, rfl, rfl, ⟨by decide, by decide⟩, ?_⟩
      refine ⟨_, rfl, _, rfl, _, rfl, _, _, rfl, rfl, _, _, rfl, rfl, _, rfl, ?_⟩
      rw [ph, he2]
      refine ite2 (fun c => ?_) (fun c => ?_)
      · have c2 : num < le + 2 ^ e := of_decide_eq_true c
        rw [wayW_lt (show num - le < 2 ^ e by omega)] at hw
        refine ⟨_, rfl, .inl ⟨rfl, _, SqL.of upd_same⟩, wy, _, _, rfl, rfl, upd_same, ?_, ?_⟩
        · rw [List.length_map]; exact Nat.lt_of_le_of_lt (show ws.length ≤ 1000 by omega) (small1000 (Nat.le_refl _))
        · exact ⟨le, ws ++ [0], some (.int (0 + (i : Int))), congrArg (fun q : Int => [some (V.ref b), some (V.int num), some (V.int le), some (V.int q), some (V.ref wy), some (V.int (0 + (i : Int)))]) ph, by rw [upd_upd, List.map_append] <;> rfl, by rw [List.length_append, hl] <;> rfl, h0, by omega, by rw [hw, List.append_assoc] <;> rfl⟩
      · have c2 : ¬ num < le + 2 ^ e := fun z => c (decide_eq_true z)
        rw [wayW_ge (show ¬ num - le < 2 ^ e by omega)] at hw
        refine ⟨_, rfl, .inl ⟨rfl, _, SqL.of upd_same⟩, wy, _, _, rfl, rfl, upd_same, ?_, ?_⟩
        · rw [List.length_map]; exact Nat.lt_of_le_of_lt (show ws.length ≤ 1000 by omega) (small1000 (Nat.le_refl _))
        · refine ⟨_, rfl, _, rfl, _, _, rfl, rfl, le + 2 ^ e, ws ++ [1], some (.int (0 + (i : Int))), congrArg (fun q : Int => [some (V.ref b), some (V.int num), some (V.int (le + q)), some (V.int q), some (V.ref wy), some (V.int (0 + (i : Int)))]) ph, by rw [upd_upd, List.map_append] <;> rfl, by rw [List.length_append, hl] <;> rfl, by omega, by omega, ?_⟩
          have e2 : num - (le + 2 ^ e) = num - le - 2 ^ e := by omega
          rw [hw, e2, List.append_assoc]
          rfl
    · rintro σ H2 ⟨le, ws, v, rfl, rfl, hl, h0, h1, hw⟩
      rw [Nat.sub_self] at hw
      have hw2 : wayW L (num - low) = ws := by rw [hw]; exact List.append_nil ws
      refine ⟨_, rfl, wy, _, rfl, SqL.of upd_same, fun t H' s' ht => ?_⟩
      exact q t _ ((same_new hwy _).trans s') (by rw [hw2]; exact ht)
end

abbrev k_with_half : Nat := 2
def sp_with_half (_ : PySem.W.Frag) : Sp := fun vs H Q _ => ∃ (m : Addr) (ms : List Int) (v : V) (t : Tr) (mk : Int) (u : V) (t' : Tr), vs = [.ref m, v, .int mk, u] ∧ TupF H m (ms.map V.int) ∧ TreeAt H v t ∧ (mk = 0 ∨ mk = 1) ∧ TreeAt H u t' ∧
  ∀ (p : Addr) (H' : Hp), Same H H' → TreeAt H' (.ref p) (.part ms (if mk = 0 then t' else trHalf t 0) (if mk = 0 then trHalf t 1 else t')) → Q (.ref p) H'
abbrev kb_with_way : Nat := 2
abbrev kn_with_way : Nat := 40
abbrev k_with_way : Nat := 43
def spe_with_way (_ : PySem.W.Frag) (e : Nat) : Sp := fun vs H Q _ => ∃ (v : V) (wy : Addr) (pl : Nat) (low num : Int) (ns : List Int), vs = [v, .ref wy, .int (pl : Int)] ∧ TreeAt H v (grow low e ns) ∧ TupF H wy ((wayW e (num - low)).map V.int) ∧ low ≤ num ∧ num < low + 2 ^ e ∧ ns.length ≤ 900 ∧
  ∀ (u : V) (H' : Hp), Same H H' → TreeAt H' u (grow low e (insAt ns pl num)) → Q u H'
def sp_with_way (K : PySem.W.Frag) : Sp := fun vs H Q E => ∃ e, e ≤ kn_with_way ∧ spe_with_way K e vs H Q E
abbrev k_put_in : Nat := 44
def sp_put_in (K : PySem.W.Frag) : Sp := fun vs H Q _ => ∃ (b : Addr) (v : V) (pl : Nat) (low num : Int) (L : Nat) (ns : List Int), vs = [.ref b, v, .int (pl : Int), .int num] ∧ SqT K H b [.int low, .int (L : Int)] ∧ L ≤ 40 ∧ TreeAt H v (grow low L ns) ∧ pl ≤ ns.length ∧ ns.length ≤ 900 ∧ low ≤ num ∧ num < low + 2 ^ L ∧
  ∀ (u : V) (H' : Hp), Same H H' → TreeAt H' u (grow low L (insAt ns pl num)) → Q u H'
section
variable {P : Program} {w : World} {K : PySem.W.Frag} {mg : Str → Option Value} {base : Heap}
theorem ok_with_half (d : Def K mg "with_half" s_with_half ["marks", "tree", "turn", "half"]) (z : Bz K mg cLeastError cBeyond cNoSuch cTooMany cNoText cNoRow cMakes cDesk) (c_half_of : Cal P w K mg base k_half_of "half_of" ["tree", "mark"] (sp_half_of K)) : Cal P w K mg base k_with_half "with_half" ["marks", "tree", "turn", "half"] (sp_with_half K) := by
  have sc := sc_with_half
  refine d.cal fun f fd F => F.ok sc (fun vs H Q E h => ?_) (fun cdv A outer s H vs Q E hr h => ?_)
  · obtain ⟨m, ms, v, t, mk, u, t', rfl, _⟩ := h
    rfl
  obtain ⟨m, ms, v, t, mk, u, t', rfl, hm, ht, hmk, hu, q⟩ := h
  refine ⟨_, (pss_cons (ps_if (pt_cmpR op_eq (pv 2) pe_int (nomark _))
  (pss_one (ps_ret (pe_tup (pa_cons pe_str (pa_cons (pv 0) (pa_cons (pv 3) (pa_cons (pe_fn c_half_of (hr.mono (by decide)) (by rfl) (pa_cons (pv 1) (pa_cons pe_int pa_nil))) pa_nil)))))))
  pss_nil)
 (pss_one (ps_ret (pe_tup (pa_cons pe_str (pa_cons (pv 0) (pa_cons (pe_fn c_half_of (hr.mono (by decide)) (by rfl) (pa_cons (pv 1) (pa_cons pe_int pa_nil))) (pa_cons (pv 3) pa_nil)))))))), ?_⟩
  refine ⟨_, rfl, rfl, _, rfl, ?_⟩
  rcases hmk with rfl | rfl
  · refine ite2 (fun c => ?_) (fun c => absurd (decide_eq_true rfl) c)
    refine ⟨_, rfl, _, rfl, _, rfl, v, t, 1, rfl, ht, .inr rfl, fun x hx => ⟨szb rfl, fun p hp => q p _ (same_new hp _) ?_⟩⟩
    have s1 : Same H (upd H p (.tup [.str "part", .ref m, u, x])) := same_new hp _
    exact ⟨p, m, u, x, rfl, upd_same, hm.same s1, hu.same s1, hx.same s1⟩
  · refine ite2 (fun c => absurd (of_decide_eq_true c) (by decide)) (fun c => ?_)
    refine ⟨_, rfl, _, rfl, v, t, 0, rfl, ht, .inl rfl, fun x hx => ⟨_, rfl, szb rfl, fun p hp => q p _ (same_new hp _) ?_⟩⟩
    have s1 : Same H (upd H p (.tup [.str "part", .ref m, x, u])) := same_new hp _
    exact ⟨p, m, x, u, rfl, upd_same, hm.same s1, hx.same s1, hu.same s1⟩
theorem ok_with_way (d : Def K mg "with_way" s_with_way ["tree", "way", "place"]) (z : Bz K mg cLeastError cBeyond cNoSuch cTooMany cNoText cNoRow cMakes cDesk) (c_ahead : Cal P w K mg base k_ahead "ahead" ["marks", "mark", "place"] (sp_ahead K)) (c_half_of : Cal P w K mg base k_half_of "half_of" ["tree", "mark"] (sp_half_of K)) (c_size_of : Cal P w K mg base k_size_of "size_of" ["tree"] (sp_size_of K)) (c_with_half : Cal P w K mg base k_with_half "with_half" ["marks", "tree", "turn", "half"] (sp_with_half K)) : Cal P w K mg base k_with_way "with_way" ["tree", "way", "place"] (sp_with_way K) := by
  have sc := sc_with_way
  refine d.recur (k := kb_with_way) (sp := spe_with_way K) kn_with_way fun e hen c_with_way f fd F => F.ok sc (fun vs H Q E h => ?_) (fun cdv A outer s H vs Q E hr h => ?_)
  · obtain ⟨v, wy, pl, low, num, ns, rfl, _⟩ := h
    rfl
  obtain ⟨v, wy, pl, low, num, ns, rfl, ht, hw, n0, n1, hl, q⟩ := h
  refine ⟨_, (pss_cons (ps_if (pt_cmpR op_eq (pe_callB call_len_seq (by rfl) z.len_ bt_len (pa_cons (pv 1) pa_nil)) pe_int (nomark _))
  (pss_one (ps_ret (pe_tup (pa_cons pe_str (pa_cons (pe_op op_add (pe_fn c_size_of (hr.mono (Nat.le_trans (by decide : k_size_of ≤ kb_with_way) (Nat.le_add_left _ _))) (by rfl) (pa_cons (pv 0) pa_nil)) pe_int) pa_nil)))))
  pss_nil)
 (pss_cons (ps_set (i := 3) sc.nd rfl (Or.inl rfl) (pe_ix ix_tup (pv 1) pe_int (fun _ _ => rfl)))
 (pss_cons (ps_set (i := 4) sc.nd rfl (Or.inl rfl) (pe_ifExp (pt_cmpR op_isN (pv 0) pe_non (nomark _)) (pe_tupF pa_nil) (pe_ix ix_tup (pv 0) pe_int (fun _ _ => rfl))))
 (pss_cons (ps_set (i := 5) sc.nd rfl (Or.inl rfl) (pe_fn c_with_way (hr.mono (Nat.le_refl _)) (by rfl) (pa_cons (pe_fn c_half_of (hr.mono (Nat.le_trans (by decide : k_half_of ≤ kb_with_way) (Nat.le_add_left _ _))) (by rfl) (pa_cons (pv 0) (pa_cons (pv 3) pa_nil))) (pa_cons (pe_slice sl_tupF (pv 1) (po_some pe_int) po_none) (pa_cons (pe_fn c_ahead (hr.mono (Nat.le_trans (by decide : k_ahead ≤ kb_with_way) (Nat.le_add_left _ _))) (by rfl) (pa_cons (pv 4) (pa_cons (pv 3) (pa_cons (pv 2) pa_nil)))) pa_nil)))))
 (pss_one (ps_ret (pe_fn c_with_half (hr.mono (Nat.le_trans (by decide : k_with_half ≤ kb_with_way) (Nat.le_add_left _ _))) (by rfl) (pa_cons (pe_op op_catF (pe_op op_catF (pe_slice sl_tupF (pv 4) po_none (po_some (pv 2))) (pe_tupF (pa_cons (pv 3) pa_nil))) (pe_slice sl_tupF (pv 4) (po_some (pv 2)) po_none)) (pa_cons (pv 0) (pa_cons (pv 3) (pa_cons (pv 5) pa_nil))))))))))), ?_⟩
  refine ⟨_, rfl, wy, _, rfl, .inr hw.sq, rfl, _, rfl, ?_⟩
  cases e with
  | zero =>
    refine ite2 (fun c => ?_) (fun c => absurd (decide_eq_true rfl) c)
    refine ⟨_, rfl, v, _, rfl, ht, _, _, rfl, rfl, szb rfl, fun p hp => q _ _ (same_new hp _) ?_⟩
    rw [grow_zero (ins_ne ns pl num), ins_len]
    refine ⟨p, rfl, ?_⟩
    rw [upd_same, grow_size]
    rfl
  | succ e =>
    obtain ⟨hwy, l0, l1⟩ := way_half n0 n1
    rw [hwy] at hw
    rw [grow_ins low e ns pl num _ rfl] at q
    have hmk := mk01 (low + 2 ^ e) num
    refine ite2 (fun c => ?_) (fun _ => ?_)
    · exfalso
      have := V.int.inj (of_decide_eq_true c)
      rw [List.length_map, wayW_len] at this
      omega
    generalize mkOf (low + 2 ^ e) num = mk at *
    have h0at : atI ((mk :: wayW e (num - lowOf low e mk)).map V.int) 0 = some (.int mk) := by
      show atI _ ((0 : Nat) : Int) = _
      exact atI_nat rfl
    refine ⟨_, rfl, wy, _, _, _, rfl, rfl, hw.sq, h0at, ?_⟩
    by_cases hns : ns = []
    · have hv : v = .non := by
        rw [hns, grow_nil] at ht
        exact ht
      subst hv
      refine ⟨_, rfl, rfl, _, rfl, ?_⟩
      refine ite2 (fun c => ?_) (fun c => absurd (decide_eq_true rfl) c)
      refine ⟨szb rfl, fun m H1 s1 hm0 => ?_⟩
      have hm : TupF H1 m ((ns.map (mkOf (low + 2 ^ e))).map V.int) := by rw [hns]; exact hm0
      generalize V.non = v at *
      have ht1 := ht.same s1
      refine ⟨_, rfl, _, rfl, v, _, mk, rfl, ht1, hmk, fun h hh => ?_⟩
      rw [half_grow hmk] at hh
      refine ⟨_, rfl, 1, rfl, wy, _, rfl, hw.same s1, fun w2 H2 s2 hw2 => ?_⟩
      rw [cut_tail] at hw2
      have hm2 := hm.same s2
      refine ⟨_, rfl, _, rfl, _, rfl, m, ns.map (mkOf (low + 2 ^ e)), mk, pl, rfl, hm2, fun H3 s3 => ?_⟩
      refine ⟨h, w2, (ns.take pl).countP (hlf (low + 2 ^ e) mk), lowOf low e mk, num, ns.filter (hlf (low + 2 ^ e) mk), by rw [cnt_half hmk] <;> rfl, (hh.same s2).same s3, hw2.same s3, l0, l1, Nat.le_trans (List.length_filter_le _ _) hl, fun u H4 s4 hu => ?_⟩
      have hm4 := (hm2.same s3).same s4
      refine ⟨_, rfl, _, rfl, _, rfl, m, _, rfl, hm4, fun p5 H5 s5 h5 => ?_⟩
      rw [cut_take] at h5
      refine ⟨_, rfl, szb rfl, fun p6 H6 s6 h6 => ?_⟩
      refine ⟨p5, p6, _, _, rfl, rfl, h5.same s6, h6, sz (by simp only [List.length_map, List.length_take, List.length_cons, List.length_nil]; omega), fun p7 H7 s7 h7 => ?_⟩
      have hm7 := ((hm4.same s5).same s6).same s7
      refine ⟨_, rfl, _, rfl, _, rfl, m, _, rfl, hm7, fun p8 H8 s8 h8 => ?_⟩
      rw [cut_drop] at h8
      refine ⟨p7, p8, _, _, rfl, rfl, h7.same s8, h8, sz (by simp only [List.length_append, List.length_map, List.length_take, List.length_drop, List.length_cons, List.length_nil]; omega), fun p9 H9 s9 h9 => ?_⟩
      have s49 : Same H4 H9 := s5.trans (s6.trans (s7.trans (s8.trans s9)))
      have s09 : Same H H9 := s1.trans (s2.trans (s3.trans (s4.trans s49)))
      have h9' : TupF H9 p9 (((ns.map (mkOf (low + 2 ^ e))).take pl ++ mk :: (ns.map (mkOf (low + 2 ^ e))).drop pl).map V.int) := by simpa using h9
      exact ⟨_, rfl, _, rfl, _, rfl, p9, _, v, _, mk, u, _, rfl, h9', ht.same s09, hmk, hu.same s49, fun p H10 s10 h10 => q _ _ (s09.trans s10) h10⟩
    · have ht1 := ht
      rw [grow_part hns] at ht1
      obtain ⟨a, m, x, y, hv, ha, hm, _, _⟩ := ht1
      subst hv
      refine ⟨_, rfl, rfl, _, rfl, ?_⟩
      refine ite2 (fun c => absurd (of_decide_eq_true c) (by intro z; cases z)) (fun c => ?_)
      refine ⟨_, rfl, a, _, _, _, rfl, rfl, SqT.of ha, rfl, ?_⟩
      have s1 := Same.refl H
      clear ha
      generalize V.ref a = v at *
      have ht1 := ht.same s1
      refine ⟨_, rfl, _, rfl, v, _, mk, rfl, ht1, hmk, fun h hh => ?_⟩
      rw [half_grow hmk] at hh
      refine ⟨_, rfl, 1, rfl, wy, _, rfl, hw.same s1, fun w2 H2 s2 hw2 => ?_⟩
      rw [cut_tail] at hw2
      have hm2 := hm.same s2
      refine ⟨_, rfl, _, rfl, _, rfl, m, ns.map (mkOf (low + 2 ^ e)), mk, pl, rfl, hm2, fun H3 s3 => ?_⟩
      refine ⟨h, w2, (ns.take pl).countP (hlf (low + 2 ^ e) mk), lowOf low e mk, num, ns.filter (hlf (low + 2 ^ e) mk), by rw [cnt_half hmk] <;> rfl, (hh.same s2).same s3, hw2.same s3, l0, l1, Nat.le_trans (List.length_filter_le _ _) hl, fun u H4 s4 hu => ?_⟩
      have hm4 := (hm2.same s3).same s4
      refine ⟨_, rfl, _, rfl, _, rfl, m, _, rfl, hm4, fun p5 H5 s5 h5 => ?_⟩
      rw [cut_take] at h5
      refine ⟨_, rfl, szb rfl, fun p6 H6 s6 h6 => ?_⟩
      refine ⟨p5, p6, _, _, rfl, rfl, h5.same s6, h6, sz (by simp only [List.length_map, List.length_take, List.length_cons, List.length_nil]; omega), fun p7 H7 s7 h7 => ?_⟩
      have hm7 := ((hm4.same s5).same s6).same s7
      refine ⟨_, rfl, _, rfl, _, rfl, m, _, rfl, hm7, fun p8 H8 s8 h8 => ?_⟩
      rw [cut_drop] at h8
      refine ⟨p7, p8, _, _, rfl, rfl, h7.same s8, h8, sz (by simp only [List.length_append, List.length_map, List.length_take, List.length_drop, List.length_cons, List.length_nil]; omega), fun p9 H9 s9 h9 => ?_⟩
      have s49 : Same H4 H9 := s5.trans (s6.trans (s7.trans (s8.trans s9)))
      have s09 : Same H H9 := s1.trans (s2.trans (s3.trans (s4.trans s49)))
      have h9' : TupF H9 p9 (((ns.map (mkOf (low + 2 ^ e))).take pl ++ mk :: (ns.map (mkOf (low + 2 ^ e))).drop pl).map V.int) := by simpa using h9
      exact ⟨_, rfl, _, rfl, _, rfl, p9, _, v, _, mk, u, _, rfl, h9', ht.same s09, hmk, hu.same s49, fun p H10 s10 h10 => q _ _ (s09.trans s10) h10⟩
theorem ok_put_in (d : DefA K mg "put_in_changes" "put_in" s_put_in ["bounds", "tree", "place", "number"]) (z : Bz K mg cLeastError cBeyond cNoSuch cTooMany cNoText cNoRow cMakes cDesk) (c_size_of : Cal P w K mg base k_size_of "size_of" ["tree"] (sp_size_of K)) (c_way_of : Cal P w K mg base k_way_of "way_of" ["bounds", "number"] (sp_way_of K)) (c_with_way : Cal P w K mg base k_with_way "with_way" ["tree", "way", "place"] (sp_with_way K)) : Cal P w K mg base k_put_in "put_in_changes" ["bounds", "tree", "place", "number"] (sp_put_in K) := by
  have sc := sc_put_in
  refine d.cal fun f fd F => F.ok sc (fun vs H Q E h => ?_) (fun cdv A outer s H vs Q E hr h => ?_)
  · obtain ⟨b, v, pl, low, num, L, ns, rfl, _⟩ := h
    rfl
  obtain ⟨b, v, pl, low, num, L, ns, rfl, hb, hL, ht, hpl, hl, n0, n1, q⟩ := h
  refine ⟨_, (pss_cons (ps_if (PW.pt (pw_or (pt_cmpR op_lt (pv 2) pe_int (nomark _)) (pw_or1 (pt_cmpR op_gt (pv 2) (pe_fn c_size_of (hr.mono (by decide)) (by rfl) (pa_cons (pv 1) pa_nil)) (nomark _)))))
  (pss_one ps_never)
  pss_nil)
 (pss_one (ps_ret (pe_fn c_with_way (hr.mono (by decide)) (by rfl) (pa_cons (pv 1) (pa_cons (pe_fn c_way_of (hr.mono (by decide)) (by rfl) (pa_cons (pv 0) (pa_cons (pv 3) pa_nil))) (pa_cons (pv 2) pa_nil))))))), ?_⟩
  refine ⟨_, rfl, _, _, rfl, rfl, _, rfl, ?_⟩
  refine ite2 (fun c => absurd (of_decide_eq_true c) (by omega)) (fun _ => ?_)
  refine ⟨_, rfl, _, rfl, v, _, rfl, ht, _, _, rfl, rfl, _, rfl, ?_⟩
  rw [grow_size]
  refine ite2 (fun c => absurd (of_decide_eq_true c) (by omega)) (fun _ => ?_)
  exact ⟨_, rfl, _, rfl, _, rfl, b, low, num, L, rfl, hb, hL, ⟨n0, by omega⟩, fun t H1 s1 ht1 => ⟨_, rfl, L, hL, v, t, pl, low, num, ns, rfl, ht.same s1, ht1, n0, n1, hl, fun u H2 s2 hu => q u H2 (s1.trans s2) hu⟩⟩
end

abbrev k_number_at : Nat := 3
def sp_number_at (K : PySem.W.Frag) : Sp := fun vs H Q _ => ∃ (b : Addr) (v : V) (i : Nat) (n low : Int) (L : Nat) (ns : List Int), vs = [.ref b, v, .int (i : Int)] ∧ SqT K H b [.int low, .int (L : Int)] ∧ L ≤ 40 ∧ TreeAt H v (grow low L ns) ∧ Wths low L ns ∧ ns[i]? = some n ∧ ∀ H', Same H H' → Q (.int n) H'
def muN : St → Nat := fun σ => match σ[4]? with
  | some (some (V.int m)) => m.toNat
  | _ => 0
section
variable {P : Program} {w : World} {K : PySem.W.Frag} {mg : Str → Option Value} {base : Heap}
theorem ok_number_at (d : Def K mg "number_at" s_number_at ["bounds", "tree", "place"]) (z : Bz K mg cLeastError cBeyond cNoSuch cTooMany cNoText cNoRow cMakes cDesk) (c_ahead : Cal P w K mg base k_ahead "ahead" ["marks", "mark", "place"] (sp_ahead K)) (c_half_of : Cal P w K mg base k_half_of "half_of" ["tree", "mark"] (sp_half_of K)) (c_many_worths : Cal P w K mg base k_many_worths "many_worths" ["levels"] (sp_many_worths K)) (c_size_of : Cal P w K mg base k_size_of "size_of" ["tree"] (sp_size_of K)) : Cal P w K mg base k_number_at "number_at" ["bounds", "tree", "place"] (sp_number_at K) := by
  have sc := sc_number_at
  refine d.cal fun f fd F => F.ok sc (fun vs H Q E h => ?_) (fun cdv A outer s H vs Q E hr h => ?_)
  · obtain ⟨b, v, i, n, low, L, ns, rfl, _⟩ := h
    rfl
  obtain ⟨b, v, i, n, low, L, ns, rfl, hb, hL, ht, hw, gi, q⟩ := h
  refine ⟨_, (pss_cons (ps_if (PW.pt (pw_or (pt_cmpR op_lt (pv 2) pe_int (nomark _)) (pw_or1 (pt_cmpR op_ge (pv 2) (pe_fn c_size_of (hr.mono (by decide)) (by rfl) (pa_cons (pv 1) pa_nil)) (nomark _)))))
  (pss_one ps_never)
  pss_nil)
 (pss_cons (ps_set (i := 3) sc.nd rfl (Or.inl rfl) (pe_ix ix_tup (pv 0) pe_int (fun _ _ => rfl)))
 (pss_cons (ps_set (i := 4) sc.nd rfl (Or.inl rfl) (pe_fn c_many_worths (hr.mono (by decide)) (by rfl) (pa_cons (pe_ix ix_tup (pv 0) pe_int (fun _ _ => rfl)) pa_nil)))
 (pss_cons (ps_set (i := 5) sc.nd rfl (Or.inl rfl) (pv 1))
 (pss_cons (ps_set (i := 6) sc.nd rfl (Or.inl rfl) (pv 2))
 (pss_cons (ps_while PassesOwn.never (pt_cmpR op_eq (pe_ix ix_tup (pv 5) pe_int (fun _ _ => rfl)) pe_str (nomark _))
  (pss_cons (ps_set (i := 4) sc.nd rfl (Or.inl rfl) (pe_op op_fdivB (pv 4) pe_int))
 (pss_cons (ps_set (i := 7) sc.nd rfl (Or.inl rfl) (pe_ix ix_tup (pe_ix ix_tup (pv 5) pe_int (fun _ _ => rfl)) (pv 6) (fun _ _ => rfl)))
 (pss_cons (ps_set (i := 6) sc.nd rfl (Or.inl rfl) (pe_fn c_ahead (hr.mono (by decide)) (by rfl) (pa_cons (pe_ix ix_tup (pv 5) pe_int (fun _ _ => rfl)) (pa_cons (pv 7) (pa_cons (pv 6) pa_nil)))))
 (pss_cons (ps_set (i := 3) sc.nd rfl (Or.inl rfl) (pe_op op_add (pv 3) (pe_op op_mul (pv 7) (pv 4))))
 (pss_one (ps_set (i := 5) sc.nd rfl (Or.inl rfl) (pe_fn c_half_of (hr.mono (by decide)) (by rfl) (pa_cons (pv 5) (pa_cons (pv 7) pa_nil))))))))))
 (pss_one (ps_ret (pv 3))))))))), ?_⟩
  have hi : i < ns.length := (List.getElem?_eq_some_iff.mp gi).1
  refine ⟨_, rfl, _, _, rfl, rfl, _, rfl, ?_⟩
  refine ite2 (fun c => absurd (of_decide_eq_true c) (by omega)) (fun _ => ?_)
  refine ⟨_, rfl, _, rfl, v, _, rfl, ht, _, _, rfl, rfl, _, rfl, ?_⟩
  rw [grow_size]
  refine ite2 (fun c => absurd (of_decide_eq_true c) (by omega)) (fun _ => ?_)
  refine ⟨_, rfl, b, _, _, _, rfl, rfl, hb, rfl, _, rfl, b, _, _, _, rfl, rfl, hb, rfl, L, rfl, hL, _, rfl, _, rfl, ?_⟩
  refine while_by (fun σ H2 => ∃ (e : Nat) (ls : Int) (u : V) (j : Nat) (ms : List Int) (mv : Option V), σ = [some (.ref b), some v, some (.int (i : Int)), some (.int ls), some (.int (2 ^ e)), some u, some (.int (j : Int)), mv] ∧ e ≤ 40 ∧ Same H H2 ∧ TreeAt H2 u (grow ls e ms) ∧ Wths ls e ms ∧ ms[j]? = some n) (fun σ _ => muN σ)
    ⟨L, low, v, i, ns, none, rfl, hL, Same.refl H, ht, hw, gi⟩ ?_ ?_
  · rintro σ H2 ⟨e, ls, u, j, ms, mv, rfl, he, s2, ht2, hw2, gj⟩
    have hne : ms ≠ [] := fun z => by rw [z] at gj; simp at gj
    cases e with
    | zero =>
      rw [grow_zero hne] at ht2
      obtain ⟨a, rfl, ha⟩ := ht2
      refine ⟨_, rfl, a, _, _, _, rfl, rfl, SqT.of ha, rfl, rfl, _, rfl, ?_⟩
      refine ite2 (fun c => absurd (of_decide_eq_true c) (by decide)) (fun c => ?_)
      have hn := hw2 n (List.mem_of_getElem? gj)
      have e1 : ls = n := by
        have : (2 : Int) ^ 0 = 1 := rfl
        omega
      refine ⟨_, rfl, ?_⟩
      rw [e1]
      exact q H2 s2
    | succ e =>
      have ht2' := ht2
      rw [grow_part hne] at ht2
      obtain ⟨a, m, x, y, rfl, ha, hm, hx, hy⟩ := id ht2
      refine ⟨_, rfl, a, _, _, _, rfl, rfl, SqT.of ha, rfl, rfl, _, rfl, ?_⟩
      refine ite2 (fun c => ?_) (fun c => absurd (decide_eq_true rfl) c)
      refine ⟨_, rfl, _, _, rfl, rfl, ⟨by decide, by decide⟩, ?_⟩
      dsimp only
      rw [p2half]
      have gk : ((ms.map (mkOf (ls + 2 ^ e))).map V.int)[j]? = some (.int (mkOf (ls + 2 ^ e) n)) := by rw [List.getElem?_map, List.getElem?_map, gj]; rfl
      have hk := mk01 (ls + 2 ^ e) n
      refine ⟨_, rfl, a, _, _, _, rfl, rfl, SqT.of ha, rfl, _, rfl, m, _, _, _, rfl, rfl, hm.sq, atI_nat gk, ?_⟩
      refine ⟨_, rfl, a, _, _, _, rfl, rfl, SqT.of ha, rfl, _, rfl, _, rfl, m, ms.map (mkOf (ls + 2 ^ e)), _, j, rfl, hm, fun H3 s3 => ?_⟩
      refine ⟨_, rfl, _, rfl, _, rfl, _, _, rfl, rfl, .inl ⟨by omega, by omega⟩, _, _, rfl, rfl, ?_⟩
      refine ⟨_, rfl, _, rfl, _, _, _, rfl, ht2'.same s3, hk, fun u' hu' => ?_⟩
      rw [half_grow hk] at hu'
      have hh := filt_get gj (hlf_self (ls + 2 ^ e) n)
      rw [← cnt_half hk] at hh
      have el := lowOf_eq (low := ls) (e := e) hk
      refine ⟨⟨e, lowOf ls e (mkOf (ls + 2 ^ e) n), u', _, _, _, by rw [← el] <;> rfl, by omega, s2.trans s3, hu', hw2.half hk, hh⟩, ?_⟩
      show ((2 : Int) ^ e).toNat < ((2 : Int) ^ (e + 1)).toNat
      have := p2pos e
      have := pow2 e
      omega
  · rintro σ H2 Q1 Q2 hq ⟨_, e0, p, xs, i, v, e1, e2, e3, e4, e5, k, e6, h⟩
    exact ⟨_, e0, p, xs, i, v, e1, e2, e3, e4, e5, k, e6, hq _ _ h⟩
end

abbrev kb_without : Nat := 2
abbrev kn_without : Nat := 40
abbrev k_without : Nat := 43
def spe_without (_ : PySem.W.Frag) (e : Nat) : Sp := fun vs H Q _ => ∃ (v : V) (pl : Nat) (low x : Int) (ns : List Int), vs = [v, .int (pl : Int)] ∧ TreeAt H v (grow low e ns) ∧ ns[pl]? = some x ∧ ns.length ≤ 900 ∧
  ∀ (u : V) (H' : Hp), Same H H' → TreeAt H' u (grow low e (delAt ns pl)) → Q u H'
def sp_without (K : PySem.W.Frag) : Sp := fun vs H Q E => ∃ e, e ≤ kn_without ∧ spe_without K e vs H Q E
abbrev k_taken_out : Nat := 44
def sp_taken_out (K : PySem.W.Frag) : Sp := fun vs H Q _ => ∃ (b : Addr) (v : V) (pl : Nat) (low x : Int) (L : Nat) (ns : List Int), vs = [.ref b, v, .int (pl : Int)] ∧ SqT K H b [.int low, .int (L : Int)] ∧ L ≤ 40 ∧ TreeAt H v (grow low L ns) ∧ Wths low L ns ∧ ns[pl]? = some x ∧ ns.length ≤ 900 ∧
  ∀ (p : Addr) (u : V) (H' : Hp), Same H H' → H' p = some (.tup [u, .int x]) → TreeAt H' u (grow low L (delAt ns pl)) → Q (.ref p) H'
section
variable {P : Program} {w : World} {K : PySem.W.Frag} {mg : Str → Option Value} {base : Heap}
theorem ok_without (d : Def K mg "without" s_without ["tree", "place"]) (z : Bz K mg cLeastError cBeyond cNoSuch cTooMany cNoText cNoRow cMakes cDesk) (c_ahead : Cal P w K mg base k_ahead "ahead" ["marks", "mark", "place"] (sp_ahead K)) (c_half_of : Cal P w K mg base k_half_of "half_of" ["tree", "mark"] (sp_half_of K)) (c_size_of : Cal P w K mg base k_size_of "size_of" ["tree"] (sp_size_of K)) (c_with_half : Cal P w K mg base k_with_half "with_half" ["marks", "tree", "turn", "half"] (sp_with_half K)) : Cal P w K mg base k_without "without" ["tree", "place"] (sp_without K) := by
  have sc := sc_without
  refine d.recur (k := kb_without) (sp := spe_without K) kn_without fun e hen c_without f fd F => F.ok sc (fun vs H Q E h => ?_) (fun cdv A outer s H vs Q E hr h => ?_)
  · obtain ⟨v, pl, low, x, ns, rfl, _⟩ := h
    rfl
  obtain ⟨v, pl, low, x, ns, rfl, ht, hx, hl, q⟩ := h
  refine ⟨_, (pss_cons (ps_if (pt_cmpR op_eq (pe_fn c_size_of (hr.mono (Nat.le_trans (by decide : k_size_of ≤ kb_without) (Nat.le_add_left _ _))) (by rfl) (pa_cons (pv 0) pa_nil)) pe_int (nomark _))
  (pss_one (ps_ret pe_non))
  pss_nil)
 (pss_cons (ps_if (pt_cmpR op_eq (pe_ix ix_tup (pv 0) pe_int (fun _ _ => rfl)) pe_str (nomark _))
  (pss_one (ps_ret (pe_tup (pa_cons pe_str (pa_cons (pe_op op_sub (pe_ix ix_tup (pv 0) pe_int (fun _ _ => rfl)) pe_int) pa_nil)))))
  pss_nil)
 (pss_cons (ps_set (i := 2) sc.nd rfl (Or.inl rfl) (pe_ix ix_tup (pv 0) pe_int (fun _ _ => rfl)))
 (pss_cons (ps_set (i := 3) sc.nd rfl (Or.inl rfl) (pe_ix ix_tup (pv 2) (pv 1) (fun _ _ => rfl)))
 (pss_cons (ps_set (i := 4) sc.nd rfl (Or.inl rfl) (pe_fn c_without (hr.mono (Nat.le_refl _)) (by rfl) (pa_cons (pe_fn c_half_of (hr.mono (Nat.le_trans (by decide : k_half_of ≤ kb_without) (Nat.le_add_left _ _))) (by rfl) (pa_cons (pv 0) (pa_cons (pv 3) pa_nil))) (pa_cons (pe_fn c_ahead (hr.mono (Nat.le_trans (by decide : k_ahead ≤ kb_without) (Nat.le_add_left _ _))) (by rfl) (pa_cons (pv 2) (pa_cons (pv 3) (pa_cons (pv 1) pa_nil)))) pa_nil))))
 (pss_one (ps_ret (pe_fn c_with_half (hr.mono (Nat.le_trans (by decide : k_with_half ≤ kb_without) (Nat.le_add_left _ _))) (by rfl) (pa_cons (pe_op op_catF (pe_slice sl_tupF (pv 2) po_none (po_some (pv 1))) (pe_slice sl_tupF (pv 2) (po_some (pe_op op_add (pv 1) pe_int)) po_none)) (pa_cons (pv 0) (pa_cons (pv 3) (pa_cons (pv 4) pa_nil)))))))))))), ?_⟩
  have hpl : pl < ns.length := (List.getElem?_eq_some_iff.mp hx).1
  have hdl := del_len hpl
  have hne : ns ≠ [] := fun z => by rw [z] at hpl; exact absurd hpl (Nat.not_lt_zero _)
  refine ⟨_, rfl, v, _, rfl, ht, rfl, _, rfl, ?_⟩
  rw [grow_size]
  refine ite2 (fun c => ?_) (fun c => ?_)
  · have c' : ((ns.length : Nat) : Int) = 1 := V.int.inj (of_decide_eq_true c)
    have e0 : delAt ns pl = [] := List.eq_nil_of_length_eq_zero (by omega)
    refine q .non H (Same.refl H) ?_
    rw [e0, grow_nil]
    rfl
  · have c' : ns.length ≠ 1 := fun z => c (decide_eq_true (by rw [z]; rfl))
    have hdne : delAt ns pl ≠ [] := fun z => by rw [z, List.length_nil] at hdl; omega
    cases e with
    | zero =>
      have ht1 := ht
      rw [grow_zero hne] at ht1
      obtain ⟨a, rfl, ha⟩ := ht1
      refine ⟨_, rfl, a, _, _, _, rfl, rfl, SqT.of ha, rfl, rfl, _, rfl, ?_⟩
      refine ite2 (fun c => ?_) (fun c => absurd (decide_eq_true rfl) c)
      refine ⟨_, rfl, a, _, _, _, rfl, rfl, SqT.of ha, rfl, _, _, rfl, rfl, szb rfl, fun p hp => q _ _ (same_new hp _) ?_⟩
      rw [grow_zero hdne]
      refine ⟨p, rfl, ?_⟩
      rw [upd_same, show ((delAt ns pl).length : Int) = (ns.length : Int) - 1 by omega]
    | succ e =>
      have ht1 := ht
      rw [grow_part hne] at ht1
      obtain ⟨a, m, xl, xr, rfl, ha, hm, _, _⟩ := ht1
      have gk : ((ns.map (mkOf (low + 2 ^ e))).map V.int)[pl]? = some (.int (mkOf (low + 2 ^ e) x)) := by rw [List.getElem?_map, List.getElem?_map, hx]; rfl
      have hmk := mk01 (low + 2 ^ e) x
      have hself := hlf_self (low + 2 ^ e) x
      rw [grow_del hx hdne rfl] at q
      generalize mkOf (low + 2 ^ e) x = mk at *
      refine ⟨_, rfl, a, _, _, _, rfl, rfl, SqT.of ha, rfl, rfl, _, rfl, ?_⟩
      refine ite2 (fun c => absurd (of_decide_eq_true c) (by decide)) (fun c => ?_)
      refine ⟨_, rfl, a, _, _, _, rfl, rfl, SqT.of ha, rfl, ?_⟩
      refine ⟨_, rfl, _, rfl, m, _, _, _, rfl, rfl, hm.sq, atI_nat gk, ?_⟩
      refine ⟨_, rfl, _, rfl, _, _, mk, rfl, ht, hmk, fun h hh => ?_⟩
      rw [half_grow hmk] at hh
      refine ⟨_, rfl, _, rfl, _, rfl, m, ns.map (mkOf (low + 2 ^ e)), mk, pl, rfl, hm, fun H1 s1 => ?_⟩
      refine ⟨h, (ns.take pl).countP (hlf (low + 2 ^ e) mk), lowOf low e mk, x, ns.filter (hlf (low + 2 ^ e) mk), by rw [cnt_half hmk] <;> rfl, hh.same s1, filt_get hx hself, Nat.le_trans (List.length_filter_le _ _) hl, fun u H2 s2 hu => ?_⟩
      have hm2 := (hm.same s1).same s2
      refine ⟨_, rfl, _, rfl, _, rfl, m, _, rfl, hm2, fun p3 H3 s3 h3 => ?_⟩
      rw [cut_take] at h3
      refine ⟨_, rfl, _, rfl, _, _, rfl, rfl, _, rfl, m, _, rfl, hm2.same s3, fun p4 H4 s4 h4 => ?_⟩
      have h4' : TupF H4 p4 (((ns.map (mkOf (low + 2 ^ e))).drop (pl + 1)).map V.int) := by rw [← cut_drop]; exact h4
      refine ⟨p3, p4, _, _, rfl, rfl, h3.same s4, h4', sz (by simp only [List.length_map, List.length_take, List.length_drop]; omega), fun p5 H5 s5 h5 => ?_⟩
      have s25 : Same H2 H5 := s3.trans (s4.trans s5)
      have s05 : Same H H5 := s1.trans (s2.trans s25)
      rw [← List.map_append] at h5
      exact ⟨_, rfl, _, rfl, _, rfl, p5, _, _, _, mk, u, _, rfl, h5, ht.same s05, hmk, hu.same s25, fun p H6 s6 h6 => q _ _ (s05.trans s6) h6⟩
theorem ok_taken_out (d : DefA K mg "taken_out_changes" "taken_out" s_taken_out ["bounds", "tree", "place"]) (z : Bz K mg cLeastError cBeyond cNoSuch cTooMany cNoText cNoRow cMakes cDesk) (c_number_at : Cal P w K mg base k_number_at "number_at" ["bounds", "tree", "place"] (sp_number_at K)) (c_without : Cal P w K mg base k_without "without" ["tree", "place"] (sp_without K)) : Cal P w K mg base k_taken_out "taken_out_changes" ["bounds", "tree", "place"] (sp_taken_out K) := by
  have sc := sc_taken_out
  refine d.cal fun f fd F => F.ok sc (fun vs H Q E h => ?_) (fun cdv A outer s H vs Q E hr h => ?_)
  · obtain ⟨b, v, pl, low, x, L, ns, rfl, _⟩ := h
    rfl
  obtain ⟨b, v, pl, low, x, L, ns, rfl, hb, hL, ht, hw, hx, hl, q⟩ := h
  refine ⟨_, (pss_cons (ps_set (i := 3) sc.nd rfl (Or.inl rfl) (pe_fn c_number_at (hr.mono (by decide)) (by rfl) (pa_cons (pv 0) (pa_cons (pv 1) (pa_cons (pv 2) pa_nil)))))
 (pss_one (ps_ret (pe_tup (pa_cons (pe_fn c_without (hr.mono (by decide)) (by rfl) (pa_cons (pv 1) (pa_cons (pv 2) pa_nil))) (pa_cons (pv 3) pa_nil)))))), ?_⟩
  refine ⟨_, rfl, _, rfl, _, rfl, b, v, pl, x, low, L, ns, rfl, hb, hL, ht, hw, hx, fun H1 s1 => ?_⟩
  refine ⟨_, rfl, _, rfl, L, hL, v, pl, low, x, ns, rfl, ht.same s1, hx, hl, fun u H2 s2 hu => ⟨_, rfl, szb rfl, fun p hp => ?_⟩⟩
  exact q p u _ (s1.trans (s2.trans (same_new hp _))) upd_same (hu.same (same_new hp _))
end

abbrev k_set_at : Nat := 45
def sp_set_at (K : PySem.W.Frag) : Sp := fun vs H Q _ => ∃ (b : Addr) (v : V) (pl : Nat) (low x num : Int) (L : Nat) (ns : List Int), vs = [.ref b, v, .int (pl : Int), .int num] ∧ SqT K H b [.int low, .int (L : Int)] ∧ L ≤ 40 ∧ TreeAt H v (grow low L ns) ∧ Wths low L ns ∧ ns[pl]? = some x ∧ ns.length ≤ 900 ∧ low ≤ num ∧ num < low + 2 ^ L ∧
  ∀ (u : V) (H' : Hp), Same H H' → TreeAt H' u (grow low L (ns.take pl ++ num :: ns.drop (pl + 1))) → Q u H'
section
variable {P : Program} {w : World} {K : PySem.W.Frag} {mg : Str → Option Value} {base : Heap}
theorem ok_set_at (d : DefA K mg "set_at_changes" "set_at" s_set_at ["bounds", "tree", "place", "number"]) (z : Bz K mg cLeastError cBeyond cNoSuch cTooMany cNoText cNoRow cMakes cDesk) (c_put_in : Cal P w K mg base k_put_in "put_in_changes" ["bounds", "tree", "place", "number"] (sp_put_in K)) (c_taken_out : Cal P w K mg base k_taken_out "taken_out_changes" ["bounds", "tree", "place"] (sp_taken_out K)) : Cal P w K mg base k_set_at "set_at_changes" ["bounds", "tree", "place", "number"] (sp_set_at K) := by
  have sc := sc_set_at
  refine d.cal fun f fd F => F.ok sc (fun vs H Q E h => ?_) (fun cdv A outer s H vs Q E hr h => ?_)
  · obtain ⟨b, v, pl, low, x, num, L, ns, rfl, _⟩ := h
    rfl
  obtain ⟨b, v, pl, low, x, num, L, ns, rfl, hb, hL, ht, hw, hx, hl, n0, n1, q⟩ := h
  refine ⟨_, (pss_one (ps_ret (pe_fn c_put_in (hr.mono (by decide)) (by rfl) (pa_cons (pv 0) (pa_cons (pe_ix ix_tup (pe_fn c_taken_out (hr.mono (by decide)) (by rfl) (pa_cons (pv 0) (pa_cons (pv 1) (pa_cons (pv 2) pa_nil)))) pe_int (fun _ _ => rfl)) (pa_cons (pv 2) (pa_cons (pv 3) pa_nil))))))), ?_⟩
  have hpl : pl < ns.length := (List.getElem?_eq_some_iff.mp hx).1
  have hdl := del_len hpl
  rw [← ins_del hpl] at q
  refine ⟨_, rfl, _, rfl, _, rfl, _, rfl, b, v, pl, low, x, L, ns, rfl, hb, hL, ht, hw, hx, hl, fun p u H1 s1 hp hu => ?_⟩
  exact ⟨p, _, _, _, rfl, rfl, SqT.of hp, rfl, _, rfl, _, rfl, b, u, pl, low, num, L, delAt ns pl, rfl, s1.seqT hb, hL, hu, by omega, by omega, n0, n1, fun u2 H2 s2 hu2 => q u2 H2 (s1.trans s2) hu2⟩
end

abbrev k__law_worth : Nat := 3
def sp__law_worth (_ : PySem.W.Frag) : Sp := fun vs H Q _ => ∃ (pen b r : Addr) (low : Int) (L : Nat) (ns : List Int), vs = [.ref pen, .ref b, .ref r] ∧ PenM H pen ∧ H b = some (.tup [.int low, .int (L : Int)]) ∧ L ≤ 40 ∧ H r = some (.lst (ns.map V.int)) ∧ r ≠ pen ∧ ns.length ≤ 1000 ∧ Wths low L ns ∧
  ∀ (y : Int) (H' : Hp), Keep pen H H' → PenM H' pen → low ≤ y → y < low + 2 ^ L → Q (.int y) H'
section
variable {P : Program} {w : World} {K : PySem.W.Frag} {mg : Str → Option Value} {base : Heap}
theorem ok__law_worth (d : Def K mg "_law_worth" s__law_worth ["_law_pen_here", "_law_bounds_here", "_law_row_here"]) (z : Bz K mg cLeastError cBeyond cNoSuch cTooMany cNoText cNoRow cMakes cDesk) (c__law_take : Cal P w K mg base k__law_take "_law_take" ["_law_pen_here", "_law_size"] (sp__law_take K)) : Cal P w K mg base k__law_worth "_law_worth" ["_law_pen_here", "_law_bounds_here", "_law_row_here"] (sp__law_worth K) := by
  have sc := sc__law_worth
  refine d.cal fun f fd F => F.ok sc (fun vs H Q E h => ?_) (fun cdv A outer s H vs Q E hr h => ?_)
  · obtain ⟨pen, b, r, low, L, ns, rfl, _⟩ := h
    rfl
  obtain ⟨pen, b, r, low, L, ns, rfl, P0, hb, hL, hr0, hrp, hl, hw, q⟩ := h
  refine ⟨_, (pss_cons (ps_set (i := 3) sc.nd rfl (Or.inl rfl) (pe_op op_add (pe_ix ix_tup (pv 1) pe_int (fun _ _ => rfl)) (pe_fn c__law_take (hr.mono (by decide)) (by rfl) (pa_cons (pv 0) (pa_cons (pe_op op_shl pe_int (pe_ix ix_tup (pv 1) pe_int (fun _ _ => rfl))) pa_nil)))))
 (pss_cons (ps_set (i := 4) sc.nd rfl (Or.inl rfl) (pe_fn c__law_take (hr.mono (by decide)) (by rfl) (pa_cons (pv 0) (pa_cons (pe_op op_mul pe_int (pe_op op_add (pe_callB call_len_seq (by rfl) z.len_ bt_len (pa_cons (pv 2) pa_nil)) pe_int)) pa_nil))))
 (pss_cons (ps_if (pt_cmpR op_lt (pv 4) (pe_callB call_len_seq (by rfl) z.len_ bt_len (pa_cons (pv 2) pa_nil)) (nomark _))
  (pss_one (ps_ret (pe_ix ix_list (pv 2) (pv 4) (fun _ _ => rfl))))
  pss_nil)
 (pss_one (ps_ret (pv 3)))))), ?_⟩
  have hp := p2pos L
  have hq := p2le hL
  have hlm : (ns.map V.int).length = ns.length := List.length_map _
  refine ⟨_, rfl, b, _, _, _, rfl, rfl, SqT.of hb, rfl, _, rfl, _, rfl, b, _, _, _, rfl, rfl, SqT.of hb, rfl, _, _, rfl, rfl, ⟨by omega, by omega, by decide⟩, ?_⟩
  dsimp only
  rw [shlOne]
  refine ⟨pen, _, rfl, P0, hp, by omega, fun u1 H1 k1 P1 a1 b1 => ⟨_, _, rfl, rfl, ?_⟩⟩
  have hr1 := k1 _ _ hrp hr0
  refine ⟨_, rfl, _, rfl, r, _, rfl, .inl (SqL.of hr1), _, _, rfl, rfl, _, _, rfl, rfl, .inl ⟨by decide, by decide⟩, pen, _, rfl, P1, by rw [hlm]; omega, by rw [hlm]; omega, fun u2 H2 k2 P2 a2 b2 => ?_⟩
  have hr2 := k2 _ _ hrp hr1
  refine ⟨_, rfl, _, rfl, r, _, rfl, .inl (SqL.of hr2), _, _, rfl, rfl, _, rfl, ?_⟩
  refine ite2 (fun c => ?_) (fun c => ?_)
  · have c' : u2 < (((ns.map V.int).length : Nat) : Int) := of_decide_eq_true c
    rw [hlm] at c'
    obtain ⟨y, hy, hv⟩ := atI_ints (l := ns) a2 c'
    exact ⟨_, rfl, _, rfl, r, _, _, _, rfl, rfl, SqL.of hr2, hv, q y _ (k1.trans k2) P2 (hw y hy).1 (hw y hy).2⟩
  · exact ⟨_, rfl, q _ _ (k1.trans k2) P2 (by omega) (by omega)⟩
end

/-! ### stretches cut out, rows joined -/
def segI (ns : List Int) (st en : Nat) : List Int := (ns.take en).drop st
theorem seg_len {ns : List Int} {st en : Nat} (h : en ≤ ns.length) : (segI ns st en).length = en - st := by
  unfold segI
  rw [List.length_drop, List.length_take]
  omega
theorem seg_map (f : Int → Int) (ns : List Int) (st en : Nat) : (segI ns st en).map f = ((ns.map f).take en).drop st := by
  unfold segI
  rw [List.map_drop, List.map_take]
theorem take_le {ns : List Int} {st en : Nat} (h : st ≤ en) : (ns.take en).take st = ns.take st := by
  rw [List.take_take, Nat.min_eq_left h]
theorem seg_filter (p : Int → Bool) {ns : List Int} {st en : Nat} (h : st ≤ en) : (segI ns st en).filter p = segI (ns.filter p) ((ns.take st).countP p) ((ns.take en).countP p) := by
  have e := filt_drop p (ns.take en) st
  rw [take_le h] at e
  unfold segI
  rw [filt_take, e]
theorem cnt_mono (p : Int → Bool) {ns : List Int} {st en : Nat} (h : st ≤ en) : (ns.take st).countP p ≤ (ns.take en).countP p := by
  rw [← take_le h]
  exact List.Sublist.countP_le (List.take_sublist _ _)
theorem cnt_le (p : Int → Bool) (ns : List Int) (en : Nat) : (ns.take en).countP p ≤ (ns.filter p).length := by
  rw [← List.countP_eq_length_filter]
  exact List.Sublist.countP_le (List.take_sublist _ _)
theorem grow_non {low : Int} {e : Nat} {ns : List Int} {H : Hp} (h : TreeAt H .non (grow low e ns)) : ns = [] := by
  by_cases z : ns = []
  · exact z
  · cases e with
    | zero => rw [grow_zero z] at h; obtain ⟨a, e1, _⟩ := h; cases e1
    | succ e => rw [grow_part z] at h; obtain ⟨a, m, x, y, e1, _⟩ := h; cases e1
theorem cut_seg (ms : List Int) (st en : Nat) (h : st ≤ en) (h2 : en ≤ ms.length) : cutV (ms.map V.int) (some (st : Int)) (some (en : Int)) = ((ms.take en).drop st).map V.int := by
  unfold cutV
  rw [HT.sIx_nat, HT.sIx_nat, List.length_map, Nat.min_eq_left h2, Nat.min_eq_left (Nat.le_trans h h2), List.map_drop, List.map_take, List.drop_take]
abbrev k_led_stretch : Nat := 2
def sp_led_stretch (K : PySem.W.Frag) : Sp := fun vs H Q _ => ∃ (sa wy : Addr) (v : V) (st en : Nat) (low mk : Int) (e : Nat) (ns : List Int), vs = [.ref sa, .ref wy] ∧ SqT K H sa [v, .int (st : Int), .int (en : Int)] ∧ SqT K H wy [.int mk] ∧ (mk = 0 ∨ mk = 1) ∧ TreeAt H v (grow low (e + 1) ns) ∧
  ∀ (p : Addr) (u : V) (H' : Hp), Same H H' → H' p = some (.tup [u, .int ((ns.take st).countP (hlf (low + 2 ^ e) mk) : Nat), .int ((ns.take en).countP (hlf (low + 2 ^ e) mk) : Nat)]) → TreeAt H' u (grow (lowOf low e mk) e (ns.filter (hlf (low + 2 ^ e) mk))) → Q (.ref p) H'
abbrev kb_cut_out : Nat := 2
abbrev kn_cut_out : Nat := 40
abbrev k_cut_out : Nat := 43
def spe_cut_out (K : PySem.W.Frag) (e : Nat) : Sp := fun vs H Q _ => ∃ (sa : Addr) (v : V) (st en : Nat) (low : Int) (ns : List Int), vs = [.ref sa] ∧ SqT K H sa [v, .int (st : Int), .int (en : Int)] ∧ TreeAt H v (grow low e ns) ∧ st ≤ en ∧ en ≤ ns.length ∧ ns.length ≤ 900 ∧
  ∀ (u : V) (H' : Hp), Same H H' → TreeAt H' u (grow low e (segI ns st en)) → Q u H'
def sp_cut_out (K : PySem.W.Frag) : Sp := fun vs H Q E => ∃ e, e ≤ kn_cut_out ∧ spe_cut_out K e vs H Q E
abbrev kb_joined : Nat := 0
abbrev kn_joined : Nat := 40
abbrev k_joined : Nat := 41
def spe_joined (_ : PySem.W.Frag) (e : Nat) : Sp := fun vs H Q _ => ∃ (v w : V) (low : Int) (ns ms : List Int), vs = [v, w] ∧ TreeAt H v (grow low e ns) ∧ TreeAt H w (grow low e ms) ∧ ns.length ≤ 450 ∧ ms.length ≤ 450 ∧
  ∀ (u : V) (H' : Hp), Same H H' → TreeAt H' u (grow low e (ns ++ ms)) → Q u H'
def sp_joined (K : PySem.W.Frag) : Sp := fun vs H Q E => ∃ e, e ≤ kn_joined ∧ spe_joined K e vs H Q E
section
variable {P : Program} {w : World} {K : PySem.W.Frag} {mg : Str → Option Value} {base : Heap}
theorem ok_led_stretch (d : Def K mg "led_stretch" s_led_stretch ["stretch", "way"]) (z : Bz K mg cLeastError cBeyond cNoSuch cTooMany cNoText cNoRow cMakes cDesk) (c_ahead : Cal P w K mg base k_ahead "ahead" ["marks", "mark", "place"] (sp_ahead K)) (c_half_of : Cal P w K mg base k_half_of "half_of" ["tree", "mark"] (sp_half_of K)) : Cal P w K mg base k_led_stretch "led_stretch" ["stretch", "way"] (sp_led_stretch K) := by
  have sc := sc_led_stretch
  refine d.cal fun f fd F => F.ok sc (fun vs H Q E h => ?_) (fun cdv A outer s H vs Q E hr h => ?_)
  · obtain ⟨sa, wy, v, st, en, low, mk, e, ns, rfl, _⟩ := h
    rfl
  obtain ⟨sa, wy, v, st, en, low, mk, e, ns, rfl, hs, hwy, hmk, ht, q⟩ := h
  refine ⟨_, (pss_cons (ps_set (i := 2) sc.nd rfl (Or.inl rfl) (pe_ix ix_tup (pv 0) pe_int (fun _ _ => rfl)))
 (pss_cons (ps_set (i := 3) sc.nd rfl (Or.inl rfl) (pe_ix ix_tup (pv 0) pe_int (fun _ _ => rfl)))
 (pss_cons (ps_set (i := 4) sc.nd rfl (Or.inl rfl) (pe_ix ix_tup (pv 0) pe_int (fun _ _ => rfl)))
 (pss_cons (ps_for PassesOwn.never rfl (pi_tup (pv 1)) (pg_name (i := 5) sc.nd rfl (Or.inl rfl))
  (pss_cons (ps_set (i := 6) sc.nd rfl (Or.inl rfl) (pe_fn c_half_of (hr.mono (by decide)) (by rfl) (pa_cons (pv 2) (pa_cons (pv 5) pa_nil))))
 (pss_cons (ps_if (pt_cmpR op_isN (pv 6) pe_non (nomark _))
  (pss_one (ps_ret (pe_tup (pa_cons pe_non (pa_cons pe_int (pa_cons pe_int pa_nil))))))
  pss_nil)
 (pss_cons (ps_set (i := 3) sc.nd rfl (Or.inl rfl) (pe_fn c_ahead (hr.mono (by decide)) (by rfl) (pa_cons (pe_ix ix_tup (pv 2) pe_int (fun _ _ => rfl)) (pa_cons (pv 5) (pa_cons (pv 3) pa_nil)))))
 (pss_cons (ps_set (i := 4) sc.nd rfl (Or.inl rfl) (pe_fn c_ahead (hr.mono (by decide)) (by rfl) (pa_cons (pe_ix ix_tup (pv 2) pe_int (fun _ _ => rfl)) (pa_cons (pv 5) (pa_cons (pv 4) pa_nil)))))
 (pss_one (ps_set (i := 2) sc.nd rfl (Or.inl rfl) (pv 6))))))))
 (pss_one (ps_ret (pe_tup (pa_cons (pv 2) (pa_cons (pv 3) (pa_cons (pv 4) pa_nil)))))))))), ?_⟩
  refine ⟨_, rfl, sa, _, _, _, rfl, rfl, hs, rfl, ?_⟩
  refine ⟨_, rfl, sa, _, _, _, rfl, rfl, hs, rfl, ?_⟩
  refine ⟨_, rfl, sa, _, _, _, rfl, rfl, hs, rfl, ?_⟩
  refine ⟨_, rfl, wy, rfl, ⟨_, hwy⟩, for_tup (K := K) (a := wy) (xs := [V.int mk]) (fun i σ H2 => (i = 0 → H2 = H ∧ σ = [some (.ref sa), some (.ref wy), some v, some (.int (st : Int)), some (.int (en : Int)), none, none]) ∧
      (i ≠ 0 → ∃ (u : V) (v5 v6 : Option V), σ = [some (.ref sa), some (.ref wy), some u, some (.int ((ns.take st).countP (hlf (low + 2 ^ e) mk) : Nat)), some (.int ((ns.take en).countP (hlf (low + 2 ^ e) mk) : Nat)), v5, v6] ∧ Same H H2 ∧ TreeAt H2 u (grow (lowOf low e mk) e (ns.filter (hlf (low + 2 ^ e) mk)))) ∧ Same H H2)
    ⟨fun _ => ⟨rfl, rfl⟩, fun z => absurd rfl z, Same.refl H⟩ (fun i σ H2 _ ⟨_, _, s2⟩ => s2.seqT hwy) ?_ ?_⟩
  · rintro i x σ H2 hi ⟨h0, _, _⟩
    cases i with
    | succ i => cases hi
    | zero =>
      obtain ⟨rfl, rfl⟩ := h0 rfl
      cases hi
      refine ⟨_, rfl, _, rfl, v, _, mk, rfl, ht, hmk, fun h hh => ?_⟩
      rw [half_grow hmk] at hh
      refine ⟨_, rfl, rfl, _, rfl, ?_⟩
      refine ite2 (fun c => ?_) (fun c => ?_)
      · have c' : h = .non := of_decide_eq_true c
        subst c'
        have e0 := grow_non hh
        have z1 : (ns.take st).countP (hlf (low + 2 ^ e) mk) = 0 := by
          have := cnt_le (hlf (low + 2 ^ e) mk) ns st
          rw [e0, List.length_nil] at this
          omega
        have z2 : (ns.take en).countP (hlf (low + 2 ^ e) mk) = 0 := by
          have := cnt_le (hlf (low + 2 ^ e) mk) ns en
          rw [e0, List.length_nil] at this
          omega
        refine ⟨szb rfl, fun p hp => q p .non _ (same_new hp _) ?_ (hh.same (same_new hp _))⟩
        rw [z1, z2]
        exact upd_same
      · have hne : ns ≠ [] := fun z => c (by
          rw [z, List.filter_nil, grow_nil] at hh
          exact decide_eq_true hh)
        have ht1 := ht
        rw [grow_part hne] at ht1
        obtain ⟨a, m, x, y, rfl, ha, hm, _, _⟩ := ht1
        refine ⟨_, rfl, a, _, _, _, rfl, rfl, SqT.of ha, rfl, _, rfl, _, rfl, m, ns.map (mkOf (low + 2 ^ e)), mk, st, rfl, hm, fun H3 s3 => ?_⟩
        refine ⟨_, rfl, a, _, _, _, rfl, rfl, SqT.of (s3 _ _ ha), rfl, _, rfl, _, rfl, m, ns.map (mkOf (low + 2 ^ e)), mk, en, rfl, hm.same s3, fun H4 s4 => ?_⟩
        have s04 := s3.trans s4
        exact ⟨_, rfl, fun z => absurd z (by omega), fun _ => ⟨h, _, _, by rw [cnt_half hmk, cnt_half hmk] <;> rfl, s04, hh.same s04⟩, s04⟩
  · rintro σ H2 ⟨_, h1, _⟩
    obtain ⟨u, v5, v6, rfl, s2, hu⟩ := h1 (by intro z; cases z)
    refine ⟨_, rfl, _, rfl, _, rfl, szb rfl, fun p hp => q p u _ (s2.trans (same_new hp _)) upd_same (hu.same (same_new hp _))⟩
theorem ok_cut_out (d : DefA K mg "cut_out_joins" "cut_out" s_cut_out ["stretch"]) (z : Bz K mg cLeastError cBeyond cNoSuch cTooMany cNoText cNoRow cMakes cDesk) (c_led_stretch : Cal P w K mg base k_led_stretch "led_stretch" ["stretch", "way"] (sp_led_stretch K)) : Cal P w K mg base k_cut_out "cut_out_joins" ["stretch"] (sp_cut_out K) := by
  have sc := sc_cut_out
  refine d.recur (k := kb_cut_out) (sp := spe_cut_out K) kn_cut_out fun e hen c_cut_out f fd F => F.ok sc (fun vs H Q E h => ?_) (fun cdv A outer s H vs Q E hr h => ?_)
  · obtain ⟨sa, v, st, en, low, ns, rfl, _⟩ := h
    rfl
  obtain ⟨sa, v, st, en, low, ns, rfl, hs, ht, h1, h2, hl, q⟩ := h
  refine ⟨_, (pss_cons (ps_set (i := 1) sc.nd rfl (Or.inl rfl) (pe_ix ix_tup (pv 0) pe_int (fun _ _ => rfl)))
 (pss_cons (ps_set (i := 2) sc.nd rfl (Or.inl rfl) (pe_ix ix_tup (pv 0) pe_int (fun _ _ => rfl)))
 (pss_cons (ps_set (i := 3) sc.nd rfl (Or.inl rfl) (pe_ix ix_tup (pv 0) pe_int (fun _ _ => rfl)))
 (pss_cons (ps_if (pt_cmpR op_eq (pv 2) (pv 3) (nomark _))
  (pss_one (ps_ret pe_non))
  pss_nil)
 (pss_cons (ps_if (pt_cmpR op_eq (pe_ix ix_tup (pv 1) pe_int (fun _ _ => rfl)) pe_str (nomark _))
  (pss_one (ps_ret (pe_tup (pa_cons pe_str (pa_cons (pe_op op_sub (pv 3) (pv 2)) pa_nil)))))
  pss_nil)
 (pss_cons (ps_set (i := 4) sc.nd rfl (Or.inl rfl) (pe_fn c_cut_out (hr.mono (Nat.le_refl _)) (by rfl) (pa_cons (pe_fn c_led_stretch (hr.mono (Nat.le_trans (by decide : k_led_stretch ≤ kb_cut_out) (Nat.le_add_left _ _))) (by rfl) (pa_cons (pv 0) (pa_cons (pe_tup (pa_cons pe_int pa_nil)) pa_nil))) pa_nil)))
 (pss_cons (ps_set (i := 5) sc.nd rfl (Or.inl rfl) (pe_fn c_cut_out (hr.mono (Nat.le_refl _)) (by rfl) (pa_cons (pe_fn c_led_stretch (hr.mono (Nat.le_trans (by decide : k_led_stretch ≤ kb_cut_out) (Nat.le_add_left _ _))) (by rfl) (pa_cons (pv 0) (pa_cons (pe_tup (pa_cons pe_int pa_nil)) pa_nil))) pa_nil)))
 (pss_one (ps_ret (pe_tup (pa_cons pe_str (pa_cons (pe_slice sl_tupF (pe_ix ix_tup (pv 1) pe_int (fun _ _ => rfl)) (po_some (pv 2)) (po_some (pv 3))) (pa_cons (pv 4) (pa_cons (pv 5) pa_nil)))))))))))))), ?_⟩
  refine ⟨_, rfl, sa, _, _, _, rfl, rfl, hs, rfl, ?_⟩
  refine ⟨_, rfl, sa, _, _, _, rfl, rfl, hs, rfl, ?_⟩
  refine ⟨_, rfl, sa, _, _, _, rfl, rfl, hs, rfl, ?_⟩
  have hsl := seg_len (st := st) h2
  refine ⟨_, rfl, _, rfl, rfl, _, rfl, ?_⟩
  refine ite2 (fun c => ?_) (fun c => ?_)
  · have c' : (st : Int) = (en : Int) := V.int.inj (of_decide_eq_true c)
    have e0 : segI ns st en = [] := List.eq_nil_of_length_eq_zero (by omega)
    refine q .non H (Same.refl H) ?_
    rw [e0, grow_nil]
    rfl
  · have c' : st ≠ en := fun z => c (decide_eq_true (by rw [z]))
    have hne : ns ≠ [] := fun z => by rw [z, List.length_nil] at h2; omega
    have hsne : segI ns st en ≠ [] := fun z => by rw [z, List.length_nil] at hsl; omega
    cases e with
    | zero =>
      have ht1 := ht
      rw [grow_zero hne] at ht1
      obtain ⟨a, rfl, ha⟩ := ht1
      refine ⟨_, rfl, a, _, _, _, rfl, rfl, SqT.of ha, rfl, rfl, _, rfl, ?_⟩
      refine ite2 (fun c => ?_) (fun c => absurd (decide_eq_true rfl) c)
      refine ⟨_, rfl, _, rfl, _, _, rfl, rfl, szb rfl, fun p hp => q _ _ (same_new hp _) ?_⟩
      rw [grow_zero hsne]
      refine ⟨p, rfl, ?_⟩
      rw [upd_same, hsl, show ((en - st : Nat) : Int) = (en : Int) - (st : Int) by omega]
    | succ e =>
      have ht1 := ht
      rw [grow_part hne] at ht1
      obtain ⟨a, m, xl, xr, hv, ha, hm, _, _⟩ := ht1
      have hseg : grow low (e + 1) (segI ns st en) = .part (((ns.map (mkOf (low + 2 ^ e))).take en).drop st) (grow (lowOf low e 0) e (segI (ns.filter (hlf (low + 2 ^ e) 0)) ((ns.take st).countP (hlf (low + 2 ^ e) 0)) ((ns.take en).countP (hlf (low + 2 ^ e) 0)))) (grow (lowOf low e 1) e (segI (ns.filter (hlf (low + 2 ^ e) 1)) ((ns.take st).countP (hlf (low + 2 ^ e) 1)) ((ns.take en).countP (hlf (low + 2 ^ e) 1)))) := by
        rw [grow_part hsne, seg_map, ← seg_filter _ h1, ← seg_filter _ h1]
        rfl
      rw [hseg] at q
      refine ⟨_, rfl, a, _, _, _, (by rw [hv]), rfl, SqT.of ha, rfl, rfl, _, rfl, ?_⟩
      refine ite2 (fun c => absurd (of_decide_eq_true c) (by decide)) (fun c => ?_)
      refine ⟨_, rfl, szb rfl, fun w0 hw0 => ?_⟩
      have s1 : Same H (upd H w0 (.tup [.int 0])) := same_new hw0 _
      refine ⟨sa, w0, v, st, en, low, 0, e, ns, rfl, s1.seqT hs, SqT.of upd_same, .inl rfl, ht.same s1, fun p2 u2 H2 s2 hp2 hu2 => ?_⟩
      refine ⟨p2, u2, _, _, lowOf low e 0, _, rfl, SqT.of hp2, hu2, cnt_mono _ h1, cnt_le _ _ _, Nat.le_trans (List.length_filter_le _ _) hl, fun u3 H3 s3 hu3 => ?_⟩
      have s03 : Same H H3 := s1.trans (s2.trans s3)
      refine ⟨_, rfl, szb rfl, fun w4 hw4 => ?_⟩
      have s4 : Same H3 (upd H3 w4 (.tup [.int 1])) := same_new hw4 _
      have s04 := s03.trans s4
      refine ⟨sa, w4, v, st, en, low, 1, e, ns, rfl, s04.seqT hs, SqT.of upd_same, .inr rfl, ht.same s04, fun p5 u5 H5 s5 hp5 hu5 => ?_⟩
      refine ⟨p5, u5, _, _, lowOf low e 1, _, rfl, SqT.of hp5, hu5, cnt_mono _ h1, cnt_le _ _ _, Nat.le_trans (List.length_filter_le _ _) hl, fun u6 H6 s6 hu6 => ?_⟩
      have s46 : Same H3 H6 := s4.trans (s5.trans s6)
      have s06 := s03.trans s46
      refine ⟨_, rfl, a, _, _, _, (by rw [hv]), rfl, SqT.of (s06 _ _ ha), rfl, _, rfl, _, rfl, _, rfl, _, rfl, m, _, rfl, hm.same s06, fun p7 H7 s7 h7 => ?_⟩
      rw [cut_seg _ _ _ h1 (by rw [List.length_map]; exact h2)] at h7
      refine ⟨_, rfl, _, rfl, szb rfl, fun p hp => q _ _ (s06.trans (s7.trans (same_new hp _))) ?_⟩
      have s8 : Same H7 (upd H7 p (.tup [.str "part", .ref p7, u3, u6])) := same_new hp _
      have s37 : Same H3 H7 := s46.trans s7
      exact ⟨p, p7, u3, u6, rfl, upd_same, h7.same s8, (hu3.same s37).same s8, (hu6.same s7).same s8⟩
theorem ok_joined (d : DefA K mg "joined_joins" "joined" s_joined ["one", "other"]) (z : Bz K mg cLeastError cBeyond cNoSuch cTooMany cNoText cNoRow cMakes cDesk)  : Cal P w K mg base k_joined "joined_joins" ["one", "other"] (sp_joined K) := by
  have sc := sc_joined
  refine d.recur (k := kb_joined) (sp := spe_joined K) kn_joined fun e hen c_joined f fd F => F.ok sc (fun vs H Q E h => ?_) (fun cdv A outer s H vs Q E hr h => ?_)
  · obtain ⟨v, w, low, ns, ms, rfl, _⟩ := h
    rfl
  obtain ⟨v, w, low, ns, ms, rfl, hv, hw, hl, hl2, q⟩ := h
  refine ⟨_, (pss_cons (ps_if (pt_cmpR op_isN (pv 0) pe_non (nomark _))
  (pss_one (ps_ret (pv 1)))
  pss_nil)
 (pss_cons (ps_if (pt_cmpR op_isN (pv 1) pe_non (nomark _))
  (pss_one (ps_ret (pv 0)))
  pss_nil)
 (pss_cons (ps_if (pt_cmpR op_eq (pe_ix ix_tup (pv 0) pe_int (fun _ _ => rfl)) pe_str (nomark _))
  (pss_one (ps_ret (pe_tup (pa_cons pe_str (pa_cons (pe_op op_add (pe_ix ix_tup (pv 0) pe_int (fun _ _ => rfl)) (pe_ix ix_tup (pv 1) pe_int (fun _ _ => rfl))) pa_nil)))))
  pss_nil)
 (pss_one (ps_ret (pe_tup (pa_cons pe_str (pa_cons (pe_op op_catF (pe_ix ix_tup (pv 0) pe_int (fun _ _ => rfl)) (pe_ix ix_tup (pv 1) pe_int (fun _ _ => rfl))) (pa_cons (pe_fn c_joined (hr.mono (Nat.le_refl _)) (by rfl) (pa_cons (pe_ix ix_tup (pv 0) pe_int (fun _ _ => rfl)) (pa_cons (pe_ix ix_tup (pv 1) pe_int (fun _ _ => rfl)) pa_nil))) (pa_cons (pe_fn c_joined (hr.mono (Nat.le_refl _)) (by rfl) (pa_cons (pe_ix ix_tup (pv 0) pe_int (fun _ _ => rfl)) (pa_cons (pe_ix ix_tup (pv 1) pe_int (fun _ _ => rfl)) pa_nil))) pa_nil)))))))))), ?_⟩
  by_cases hn : ns = []
  · subst hn
    rw [grow_nil] at hv
    have hv' : v = .non := hv
    subst hv'
    refine ⟨_, rfl, rfl, _, rfl, ?_⟩
    refine ite2 (fun c => ?_) (fun c => absurd (decide_eq_true rfl) c)
    exact ⟨_, rfl, q w H (Same.refl H) hw⟩
  · have hvn : v ≠ .non := fun z => by rw [z] at hv; exact hn (grow_non hv)
    refine ⟨_, rfl, rfl, _, rfl, ?_⟩
    refine ite2 (fun c => absurd (of_decide_eq_true c) hvn) (fun _ => ?_)
    by_cases hm : ms = []
    · subst hm
      rw [grow_nil] at hw
      have hw' : w = .non := hw
      subst hw'
      refine ⟨_, rfl, rfl, _, rfl, ?_⟩
      refine ite2 (fun c => ?_) (fun c => absurd (decide_eq_true rfl) c)
      exact ⟨_, rfl, q v H (Same.refl H) (by rw [List.append_nil]; exact hv)⟩
    · have hwn : w ≠ .non := fun z => by rw [z] at hw; exact hm (grow_non hw)
      have hnm : ns ++ ms ≠ [] := fun z => hn (List.append_eq_nil_iff.mp z).1
      refine ⟨_, rfl, rfl, _, rfl, ?_⟩
      refine ite2 (fun c => absurd (of_decide_eq_true c) hwn) (fun _ => ?_)
      cases e with
      | zero =>
        rw [grow_zero hn] at hv
        rw [grow_zero hm] at hw
        obtain ⟨a, rfl, ha⟩ := hv
        obtain ⟨b, rfl, hb⟩ := hw
        refine ⟨_, rfl, a, _, _, _, rfl, rfl, SqT.of ha, rfl, rfl, _, rfl, ?_⟩
        refine ite2 (fun c => ?_) (fun c => absurd (decide_eq_true rfl) c)
        refine ⟨_, rfl, a, _, _, _, rfl, rfl, SqT.of ha, rfl, _, rfl, b, _, _, _, rfl, rfl, SqT.of hb, rfl, _, _, rfl, rfl, szb rfl, fun p hp => q _ _ (same_new hp _) ?_⟩
        rw [grow_zero hnm]
        refine ⟨p, rfl, ?_⟩
        rw [upd_same, List.length_append, Int.natCast_add]
      | succ e =>
        rw [grow_part hn] at hv
        rw [grow_part hm] at hw
        rw [grow_part hnm, List.map_append, List.filter_append, List.filter_append] at q
        obtain ⟨a, m1, x1, y1, rfl, ha, hm1, hx1, hy1⟩ := hv
        obtain ⟨b, m2, x2, y2, rfl, hb, hm2, hx2, hy2⟩ := hw
        refine ⟨_, rfl, a, _, _, _, rfl, rfl, SqT.of ha, rfl, rfl, _, rfl, ?_⟩
        refine ite2 (fun c => absurd (of_decide_eq_true c) (by decide)) (fun c => ?_)
        refine ⟨_, rfl, a, _, _, _, rfl, rfl, SqT.of ha, rfl, _, rfl, b, _, _, _, rfl, rfl, SqT.of hb, rfl, m1, m2, _, _, rfl, rfl, hm1, hm2, sz (by simp only [List.length_map]; omega), fun p3 H3 s3 h3 => ?_⟩
        rw [← List.map_append] at h3
        have ha3 := s3 _ _ ha
        have hb3 := s3 _ _ hb
        refine ⟨_, rfl, a, _, _, _, rfl, rfl, SqT.of ha3, rfl, _, rfl, b, _, _, _, rfl, rfl, SqT.of hb3, rfl, x1, x2, low, _, _, rfl, hx1.same s3, hx2.same s3, Nat.le_trans (List.length_filter_le _ _) hl, Nat.le_trans (List.length_filter_le _ _) hl2, fun u4 H4 s4 hu4 => ?_⟩
        have s34 := s3.trans s4
        refine ⟨_, rfl, a, _, _, _, rfl, rfl, SqT.of (s34 _ _ ha), rfl, _, rfl, b, _, _, _, rfl, rfl, SqT.of (s34 _ _ hb), rfl, y1, y2, low + 2 ^ e, _, _, rfl, hy1.same s34, hy2.same s34, Nat.le_trans (List.length_filter_le _ _) hl, Nat.le_trans (List.length_filter_le _ _) hl2, fun u5 H5 s5 hu5 => ⟨szb rfl, fun p hp => q _ _ (s34.trans (s5.trans (same_new hp _))) ?_⟩⟩
        have s6 : Same H5 (upd H5 p (.tup [.str "part", .ref p3, u4, u5])) := same_new hp _
        exact ⟨p, p3, u4, u5, rfl, upd_same, ((h3.same s4).same s5).same s6, (hu4.same s5).same s6, hu5.same s6⟩
end
/-! ### the row of a tree -/
theorem filt_at {p : Int → Bool} : ∀ (ns : List Int) (i : Nat) (n : Int), ns[i]? = some n → p n = true → (ns.filter p)[(ns.take i).countP p]? = some n
  | [], i, n, h, _ => by simp at h
  | x :: ns, 0, n, h, hp => by
    have e : x = n := by simpa using h
    rw [List.filter_cons, e, if_pos hp]
    rfl
  | x :: ns, i + 1, n, h, hp => by
    have h' : ns[i]? = some n := by simpa using h
    have ih := filt_at ns i n h' hp
    rw [List.filter_cons, List.take_succ_cons, List.countP_cons]
    by_cases hx : p x = true
    · rw [if_pos hx, if_pos hx, List.getElem?_cons_succ]; exact ih
    · rw [if_neg hx, if_neg hx]; exact ih
def upI (mid : Int) (l : List Int) : Nat := l.countP fun n => decide (mid ≤ n)
theorem upI_snoc {mid : Int} {ns : List Int} {i : Nat} {n : Int} (h : ns[i]? = some n) : ((upI mid (ns.take (i + 1)) : Nat) : Int) = (upI mid (ns.take i) : Nat) + mkOf mid n := by
  have e : ns.take (i + 1) = ns.take i ++ [n] := by rw [List.take_add_one, h]; rfl
  rw [e]
  unfold upI mkOf
  rw [List.countP_append, List.countP_singleton]
  by_cases c : n < mid
  · rw [if_pos c, if_neg (by intro z; have := of_decide_eq_true z; omega)]; simp
  · rw [if_neg c, if_pos (decide_eq_true (by omega))]; simp
theorem upI_le {mid : Int} {ns : List Int} {i : Nat} (h : i ≤ ns.length) : i = (ns.take i).countP (fun n => decide (n < mid)) + upI mid (ns.take i) := by
  have e : (ns.take i).length = i := by rw [List.length_take]; omega
  have z := List.length_eq_countP_add_countP (fun n => decide (n < mid)) (l := ns.take i)
  rw [e] at z
  have e2 : (ns.take i).countP (fun a => decide (¬ (decide (a < mid)) = true)) = upI mid (ns.take i) := by
    unfold upI
    congr 1
    funext a
    by_cases c : a < mid
    · have : ¬ mid ≤ a := by omega
      simp [c, this]
    · have : mid ≤ a := by omega
      simp [c, this]
  rw [e2] at z
  exact z
theorem up_at {mid : Int} {ns : List Int} {i : Nat} {n : Int} (h : ns[i]? = some n) (c : ¬ n < mid) : atI ((ns.filter fun n => decide (mid ≤ n)).map V.int) ((upI mid (ns.take i) : Nat) : Int) = some (.int n) :=
  atI_nat (by rw [List.getElem?_map]; unfold upI; rw [filt_at ns i n h (decide_eq_true (by omega))]; rfl)
theorem lo_at {mid : Int} {ns : List Int} {i : Nat} {n : Int} (h : ns[i]? = some n) (c : n < mid) : atI ((ns.filter fun n => decide (n < mid)).map V.int) ((i : Int) - ((upI mid (ns.take i) : Nat) : Int)) = some (.int n) := by
  have hi : i < ns.length := (List.getElem?_eq_some_iff.mp h).1
  have z := upI_le (mid := mid) (ns := ns) (i := i) (by omega)
  have e : (i : Int) - ((upI mid (ns.take i) : Nat) : Int) = (((ns.take i).countP (fun n => decide (n < mid)) : Nat) : Int) := by omega
  rw [e]
  exact atI_nat (by rw [List.getElem?_map, filt_at ns i n h (decide_eq_true c)]; rfl)
theorem Same.own {H H' : Hp} {r : Addr} {o : HO} (k : Same H H') (hr : H r = none) : Same H (upd H' r o) := fun c u z => by
  rw [upd_ne (ne_of_none z hr)]
  exact k c u z
theorem map_get {ms : List Int} {i : Nat} {x : V} (hx : (ms.map V.int)[i]? = some x) : ∃ m, ms[i]? = some m ∧ x = .int m := by
  rw [List.getElem?_map] at hx
  cases e : ms[i]? with
  | none => rw [e] at hx; cases hx
  | some m => rw [e] at hx; exact ⟨m, rfl, (Option.some.inj hx).symm⟩
abbrev k_merged : Nat := 1
def sp_merged (K : PySem.W.Frag) : Sp := fun vs H Q _ => ∃ (m lo hi : Addr) (mid : Int) (ns : List Int), vs = [.ref m, .ref lo, .ref hi] ∧ SqT K H m ((ns.map (mkOf mid)).map V.int) ∧ H lo = some (.lst ((ns.filter fun n => decide (n < mid)).map V.int)) ∧
  H hi = some (.lst ((ns.filter fun n => decide (mid ≤ n)).map V.int)) ∧ ns.length ≤ 1000 ∧ ∀ (H' : Hp) (D : Addr), Same H H' → H' D = some (.lst (ns.map V.int)) → H D = none → Q (.ref D) H'
abbrev kb_row_from : Nat := 1
abbrev kn_row_from : Nat := 40
abbrev k_row_from : Nat := 42
def spe_row_from (K : PySem.W.Frag) (e : Nat) : Sp := fun vs H Q _ => ∃ (least : Int) (v : V) (ns : List Int), vs = [.int least, .int (2 ^ e), v] ∧ TreeAt H v (grow least e ns) ∧ ns.length ≤ 1000 ∧ Wths least e ns ∧
  ∀ (H' : Hp) (D : Addr), Same H H' → H' D = some (.lst (ns.map V.int)) → H D = none → Q (.ref D) H'
def sp_row_from (K : PySem.W.Frag) : Sp := fun vs H Q E => ∃ e, e ≤ kn_row_from ∧ spe_row_from K e vs H Q E
abbrev k_row_of : Nat := 43
def sp_row_of (K : PySem.W.Frag) : Sp := fun vs H Q _ => ∃ (b : Addr) (v : V) (low : Int) (L : Nat) (ns : List Int), vs = [.ref b, v] ∧ SqT K H b [.int low, .int (L : Int)] ∧ L ≤ 40 ∧ TreeAt H v (grow low L ns) ∧ ns.length ≤ 1000 ∧ Wths low L ns ∧
  ∀ (H' : Hp) (D : Addr), Same H H' → H' D = some (.lst (ns.map V.int)) → H D = none → Q (.ref D) H'
theorem Wths.lowerR {low : Int} {e : Nat} {ns : List Int} (h : Wths low (e + 1) ns) : Wths low e (ns.filter fun n => decide (n < low + 2 ^ e)) := fun x hx => by
  obtain ⟨h1, h2⟩ := List.mem_filter.mp hx
  exact ⟨(h x h1).1, of_decide_eq_true h2⟩
theorem Wths.upperR {low : Int} {e : Nat} {ns : List Int} (h : Wths low (e + 1) ns) : Wths (low + 2 ^ e) e (ns.filter fun n => decide (low + 2 ^ e ≤ n)) := fun x hx => by
  obtain ⟨h1, h2⟩ := List.mem_filter.mp hx
  have := (h x h1).2
  rw [p2succ] at this
  exact ⟨of_decide_eq_true h2, by omega⟩
theorem rep_all {low : Int} : ∀ {ns : List Int}, Wths low 0 ns → (List.replicate ns.length [V.int low]).flatten = ns.map V.int
  | [], _ => rfl
  | n :: ns, h => by
    have h0 := h n (List.mem_cons_self ..)
    have e : n = low := by
      have : (2 : Int) ^ 0 = 1 := rfl
      omega
    rw [List.length_cons, List.replicate_succ, List.flatten_cons, List.map_cons, rep_all fun x hx => h x (List.mem_cons_of_mem _ hx), e]
    rfl
section
variable {P : Program} {w : World} {K : PySem.W.Frag} {mg : Str → Option Value} {base : Heap}
theorem ok_merged (d : Def K mg "merged" s_merged ["marks", "lower", "upper"]) (z : Bz K mg cLeastError cBeyond cNoSuch cTooMany cNoText cNoRow cMakes cDesk)  : Cal P w K mg base k_merged "merged" ["marks", "lower", "upper"] (sp_merged K) := by
  have sc := sc_merged
  refine d.cal fun f fd F => F.ok sc (fun vs H Q E h => ?_) (fun cdv A outer s H vs Q E hr h => ?_)
  · obtain ⟨m, lo, hi, mid, ns, rfl, _⟩ := h
    rfl
  obtain ⟨m, lo, hi, mid, ns, rfl, hm, hlo, hhi, hl, q⟩ := h
  refine ⟨_, (pss_cons (ps_set (i := 3) sc.nd rfl (Or.inl rfl) (pe_lst pa_nil))
 (pss_cons (ps_set (i := 4) sc.nd rfl (Or.inl rfl) pe_int)
 (pss_cons (ps_for PassesOwn.never rfl (pi_enum rfl z.enumerate_ (pa_cons (pv 0) pa_nil)) (pg_tup rfl (pgs_cons (pg_name (i := 5) sc.nd rfl (Or.inl rfl)) (pgs_cons (pg_name (i := 6) sc.nd rfl (Or.inl rfl)) pgs_nil)))
  (pss_cons (ps_expr (pe_bm PySem.F.plainAttrs_list PySem.F.slot_list_append PySem.F.type_list_append mt_append (pv 3) (pa_cons (pe_ifExp (pt_cmpR op_eq (pv 6) pe_int (nomark _)) (pe_ix ix_list (pv 2) (pv 4) (fun _ _ => rfl)) (pe_ix ix_list (pv 1) (pe_op op_sub (pv 5) (pv 4)) (fun _ _ => rfl))) pa_nil)))
 (pss_one (ps_set (i := 4) sc.nd rfl (Or.inl rfl) (pe_op op_add (pv 4) (pv 6))))))
 (pss_one (ps_ret (pv 3)))))), ?_⟩
  refine ⟨szb rfl, fun D hD => ?_⟩
  refine ⟨_, rfl, m, rfl, ⟨_, (same_new hD _).seqT hm⟩, for_enum (xs := (ns.map (mkOf mid)).map V.int) (fun i σ H2 => ∃ v u : Option V, σ = [some (.ref m), some (.ref lo), some (.ref hi), some (.ref D), some (.int ((upI mid (ns.take i) : Nat) : Int)), v, u] ∧ Same H H2 ∧ H2 D = some (.lst ((ns.take i).map V.int)))
    ⟨none, none, rfl, same_new hD _, upd_same⟩ (fun i σ H2 _ ⟨_, _, _, s2, _⟩ => s2.seqT hm) ?_ ?_⟩
  · rintro i x σ H2 p hx ⟨v, u, rfl, s2, hD2⟩ hpn
    obtain ⟨mk, gm, rfl⟩ := map_get hx
    obtain ⟨n, gn, rfl⟩ : ∃ n, ns[i]? = some n ∧ mkOf mid n = mk := by
      rw [List.getElem?_map] at gm
      cases e : ns[i]? with
      | none => rw [e] at gm; cases gm
      | some n => rw [e] at gm; exact ⟨n, rfl, Option.some.inj gm⟩
    have hil : i < ns.length := (List.getElem?_eq_some_iff.mp gn).1
    have s3 : Same H (upd H2 p (.tup [.int (i : Nat), .int (mkOf mid n)])) := s2.trans (same_new hpn _)
    have hD3 : upd H2 p (.tup [.int (i : Nat), .int (mkOf mid n)]) D = some (.lst ((ns.take i).map V.int)) := same_new hpn _ _ _ hD2
    have pT : SqT K (upd H2 p (.tup [.int (i : Nat), .int (mkOf mid n)])) p [.int (i : Nat), .int (mkOf mid n)] := SqT.of upd_same
    generalize upd H2 p (.tup [.int (i : Nat), .int (mkOf mid n)]) = H3 at *
    refine ⟨p, _, rfl, pT, rfl, _, _, rfl, _, _, rfl, rfl, ?_⟩
    have f2 : ((ns.take i).map V.int).length < sizeLine := by rw [List.length_map, List.length_take]; exact small1000 (by omega)
    have f3 : Same H (upd H3 D (.lst ((ns.take i).map V.int ++ [.int n]))) := Same.own s3 hD
    have f4 : upd H3 D (.lst ((ns.take i).map V.int ++ [.int n])) D = some (.lst ((ns.take (i + 1)).map V.int)) := by
      have e : ns.take (i + 1) = ns.take i ++ [n] := by rw [List.take_add_one, gn]; rfl
      rw [upd_same, e, List.map_append]
      rfl
    have f5 : [some (V.ref m), some (.ref lo), some (.ref hi), some (.ref D), some (.int (((upI mid (ns.take i) : Nat) : Int) + mkOf mid n)), some (.int (i : Nat)), some (.int (mkOf mid n))] = [some (V.ref m), some (.ref lo), some (.ref hi), some (.ref D), some (.int ((upI mid (ns.take (i + 1)) : Nat) : Int)), some (.int (i : Nat)), some (.int (mkOf mid n))] := by rw [upI_snoc gn]
    refine ⟨_, rfl, .inl ⟨rfl, _, SqL.of hD3⟩, _, rfl, rfl, _, rfl, ?_⟩
    refine ite2 (fun c => ?_) (fun c => ?_)
    · have c' : mkOf mid n = 1 := V.int.inj (of_decide_eq_true c)
      have cn : ¬ n < mid := fun z => by unfold mkOf at c'; rw [if_pos z] at c'; cases c'
      exact ⟨_, rfl, _, rfl, hi, _, _, _, rfl, rfl, SqL.of (s3 _ _ hhi), up_at gn cn, D, _, _, rfl, rfl, hD3, f2, _, rfl, _, rfl, _, _, rfl, rfl, _, _, f5, f3, f4⟩
    · have cn : n < mid := by
        apply Classical.byContradiction
        intro z
        exact c (by unfold mkOf; rw [if_neg z]; exact decide_eq_true rfl)
      exact ⟨_, rfl, _, rfl, _, rfl, _, _, rfl, rfl, lo, _, _, _, rfl, rfl, SqL.of (s3 _ _ hlo), lo_at gn cn, D, _, _, rfl, rfl, hD3, f2, _, rfl, _, rfl, _, _, rfl, rfl, _, _, f5, f3, f4⟩
  · rintro σ H2 ⟨v, u, rfl, s2, hD2⟩
    have e : ns.take ((ns.map (mkOf mid)).map V.int).length = ns := List.take_of_length_le (by rw [List.length_map, List.length_map]; exact Nat.le_refl _)
    rw [e] at hD2
    exact ⟨_, rfl, q H2 D s2 hD2 hD⟩
theorem ok_row_from (d : Def K mg "row_from" s_row_from ["least", "many", "tree"]) (z : Bz K mg cLeastError cBeyond cNoSuch cTooMany cNoText cNoRow cMakes cDesk) (c_merged : Cal P w K mg base k_merged "merged" ["marks", "lower", "upper"] (sp_merged K)) : Cal P w K mg base k_row_from "row_from" ["least", "many", "tree"] (sp_row_from K) := by
  have sc := sc_row_from
  refine d.recur (k := kb_row_from) (sp := spe_row_from K) kn_row_from fun e hen c_row_from f fd F => F.ok sc (fun vs H Q E h => ?_) (fun cdv A outer s H vs Q E hr h => ?_)
  · obtain ⟨least, v, ns, rfl, _⟩ := h
    rfl
  obtain ⟨least, v, ns, rfl, ht, hl, hw, q⟩ := h
  refine ⟨_, (pss_cons (ps_if (pt_cmpR op_isN (pv 2) pe_non (nomark _))
  (pss_one (ps_ret (pe_lst pa_nil)))
  pss_nil)
 (pss_cons (ps_if (pt_cmpR op_eq (pe_ix ix_tup (pv 2) pe_int (fun _ _ => rfl)) pe_str (nomark _))
  (pss_one (ps_ret (pe_op op_rep (pe_lst (pa_cons (pv 0) pa_nil)) (pe_ix ix_tup (pv 2) pe_int (fun _ _ => rfl)))))
  pss_nil)
 (pss_cons (ps_set (i := 3) sc.nd rfl (Or.inl rfl) (pe_op op_fdivB (pv 1) pe_int))
 (pss_cons (ps_set (i := 4) sc.nd rfl (Or.inl rfl) (pe_fn c_row_from (hr.mono (Nat.le_refl _)) (by rfl) (pa_cons (pv 0) (pa_cons (pv 3) (pa_cons (pe_ix ix_tup (pv 2) pe_int (fun _ _ => rfl)) pa_nil)))))
 (pss_cons (ps_set (i := 5) sc.nd rfl (Or.inl rfl) (pe_fn c_row_from (hr.mono (Nat.le_refl _)) (by rfl) (pa_cons (pe_op op_add (pv 0) (pv 3)) (pa_cons (pv 3) (pa_cons (pe_ix ix_tup (pv 2) pe_int (fun _ _ => rfl)) pa_nil)))))
 (pss_one (ps_ret (pe_fn c_merged (hr.mono (Nat.le_trans (by decide : k_merged ≤ kb_row_from) (Nat.le_add_left _ _))) (by rfl) (pa_cons (pe_ix ix_tup (pv 2) pe_int (fun _ _ => rfl)) (pa_cons (pv 4) (pa_cons (pv 5) pa_nil))))))))))), ?_⟩
  refine ⟨_, rfl, rfl, _, rfl, ?_⟩
  by_cases hne : ns = []
  · subst hne
    rw [grow_nil] at ht
    cases ht
    refine ite2 (fun c => ?_) (fun c => absurd (decide_eq_true rfl) c)
    exact ⟨szb rfl, fun D hD => q _ D (same_new hD _) upd_same hD⟩
  · cases e with
    | zero =>
      rw [grow_zero hne] at ht
      obtain ⟨a, rfl, ha⟩ := ht
      refine ite2 (fun c => absurd (of_decide_eq_true c) (by intro z; cases z)) (fun c => ?_)
      refine ⟨_, rfl, a, _, _, _, rfl, rfl, SqT.of ha, rfl, rfl, _, rfl, ?_⟩
      refine ite2 (fun c => ?_) (fun c => absurd (decide_eq_true rfl) c)
      refine ⟨_, rfl, szb rfl, fun l hl' => ?_⟩
      have s1 : Same H (upd H l (.lst [.int least])) := same_new hl' _
      refine ⟨_, rfl, a, _, _, _, rfl, rfl, SqT.of (s1 _ _ ha), rfl, l, _, _, rfl, rfl, upd_same, by omega, by omega, ?_, fun D hD => ?_⟩
      · exact sz (by simp only [List.length_cons, List.length_nil]; omega)
      · have e1 : ((ns.length : Nat) : Int).toNat = ns.length := by omega
        rw [e1, rep_all hw]
        exact q _ D (s1.trans (same_new hD _)) upd_same (by
          cases z : H D with
          | none => rfl
          | some o => rw [s1 _ _ z] at hD; cases hD)
    | succ e =>
      rw [grow_succ hne] at ht
      obtain ⟨a, m, x, y, rfl, ha, hm, hx, hy⟩ := ht
      refine ite2 (fun c => absurd (of_decide_eq_true c) (by intro z; cases z)) (fun c => ?_)
      refine ⟨_, rfl, a, _, _, _, rfl, rfl, SqT.of ha, rfl, rfl, _, rfl, ?_⟩
      refine ite2 (fun c => absurd (of_decide_eq_true c) (by decide)) (fun c => ?_)
      refine ⟨_, rfl, _, _, rfl, rfl, ⟨by decide, by decide⟩, ?_⟩
      dsimp only
      rw [p2half]
      refine ⟨_, rfl, _, rfl, _, rfl, a, _, _, _, rfl, rfl, SqT.of ha, rfl, least, x, _, rfl, hx, Nat.le_trans (List.length_filter_le _ _) hl, hw.lowerR, fun H1 lo s1 hlo hlo0 => ?_⟩
      refine ⟨_, rfl, _, rfl, _, _, rfl, rfl, _, rfl, _, rfl, a, _, _, _, rfl, rfl, SqT.of (s1 _ _ ha), rfl, least + 2 ^ e, y, _, rfl, hy.same s1, Nat.le_trans (List.length_filter_le _ _) hl, hw.upperR, fun H2 hi s2 hhi hhi0 => ?_⟩
      have s12 := s1.trans s2
      refine ⟨_, rfl, a, _, _, _, rfl, rfl, SqT.of (s12 _ _ ha), rfl, _, rfl, _, rfl, m, lo, hi, least + 2 ^ e, ns, rfl, (hm.same s12).sq, s2 _ _ hlo, hhi, hl, fun H3 D s3 hD hD0 => ?_⟩
      exact q H3 D (s12.trans s3) hD (by
          cases z : H D with
          | none => rfl
          | some o => rw [s12 _ _ z] at hD0; cases hD0)
theorem ok_row_of (d : Def K mg "row_of" s_row_of ["bounds", "tree"]) (z : Bz K mg cLeastError cBeyond cNoSuch cTooMany cNoText cNoRow cMakes cDesk) (c_many_worths : Cal P w K mg base k_many_worths "many_worths" ["levels"] (sp_many_worths K)) (c_row_from : Cal P w K mg base k_row_from "row_from" ["least", "many", "tree"] (sp_row_from K)) : Cal P w K mg base k_row_of "row_of" ["bounds", "tree"] (sp_row_of K) := by
  have sc := sc_row_of
  refine d.cal fun f fd F => F.ok sc (fun vs H Q E h => ?_) (fun cdv A outer s H vs Q E hr h => ?_)
  · obtain ⟨b, v, low, L, ns, rfl, _⟩ := h
    rfl
  obtain ⟨b, v, low, L, ns, rfl, hb, hL, ht, hl, hw, q⟩ := h
  refine ⟨_, (pss_one (ps_ret (pe_fn c_row_from (hr.mono (by decide)) (by rfl) (pa_cons (pe_ix ix_tup (pv 0) pe_int (fun _ _ => rfl)) (pa_cons (pe_fn c_many_worths (hr.mono (by decide)) (by rfl) (pa_cons (pe_ix ix_tup (pv 0) pe_int (fun _ _ => rfl)) pa_nil)) (pa_cons (pv 1) pa_nil)))))), ?_⟩
  exact ⟨_, rfl, b, _, _, _, rfl, rfl, hb, rfl, _, rfl, b, _, _, _, rfl, rfl, hb, rfl, L, rfl, hL, _, rfl, L, hL, low, v, ns, rfl, ht, hl, hw, q⟩
end
/-! ### turned and flipped -/
theorem grow_shift (d : Int) : ∀ (e : Nat) (low : Int) (ns : List Int), grow (low + d) e (ns.map fun n => n + d) = grow low e ns
  | 0, low, ns => by
    by_cases h : ns = []
    · rw [h]; rfl
    · rw [grow_zero h, grow_zero (by simpa using h), List.length_map]
  | e + 1, low, ns => by
    by_cases h : ns = []
    · rw [h]; rfl
    · have h2 : (ns.map fun n => n + d) ≠ [] := by simpa using h
      rw [grow_part h, grow_part h2]
      have e1 : (ns.map fun n => n + d).map (mkOf (low + d + 2 ^ e)) = ns.map (mkOf (low + 2 ^ e)) := by
        rw [List.map_map]
        refine List.map_congr_left fun n _ => ?_
        show (if n + d < low + d + 2 ^ e then (0 : Int) else 1) = if n < low + 2 ^ e then 0 else 1
        by_cases c : n < low + 2 ^ e
        · rw [if_pos c, if_pos (by omega)]
        · rw [if_neg c, if_neg (by omega)]
      have e2 : (ns.map fun n => n + d).filter (loI (low + d + 2 ^ e)) = (ns.filter (loI (low + 2 ^ e))).map fun n => n + d := by
        rw [List.filter_map]
        congr 1
        refine List.filter_congr fun n _ => ?_
        show decide (n + d < low + d + 2 ^ e) = decide (n < low + 2 ^ e)
        by_cases c : n < low + 2 ^ e
        · rw [decide_eq_true c, decide_eq_true (by omega)]
        · rw [decide_eq_false c, decide_eq_false (by omega)]
      have e3 : (ns.map fun n => n + d).filter (hiI (low + d + 2 ^ e)) = (ns.filter (hiI (low + 2 ^ e))).map fun n => n + d := by
        rw [List.filter_map]
        congr 1
        refine List.filter_congr fun n _ => ?_
        show decide (low + d + 2 ^ e ≤ n + d) = decide (low + 2 ^ e ≤ n)
        by_cases c : low + 2 ^ e ≤ n
        · rw [decide_eq_true c, decide_eq_true (by omega)]
        · rw [decide_eq_false c, decide_eq_false (by omega)]
      rw [e1, e2, e3, grow_shift d e, show low + d + 2 ^ e = (low + 2 ^ e) + d by omega, grow_shift d e]
/-- the other way round within the bounds -/
def flp (low : Int) (e : Nat) (n : Int) : Int := 2 * low + 2 ^ e - 1 - n
theorem flp_mk (low : Int) (e : Nat) (ns : List Int) : (ns.map (flp low (e + 1))).map (mkOf (low + 2 ^ e)) = (ns.map (mkOf (low + 2 ^ e))).map fun m => 1 - m := by
  rw [List.map_map, List.map_map]
  refine List.map_congr_left fun n _ => ?_
  show (if flp low (e + 1) n < low + 2 ^ e then (0 : Int) else 1) = 1 - if n < low + 2 ^ e then 0 else 1
  unfold flp
  have p : (2 : Int) ^ (e + 1) = 2 * 2 ^ e := by rw [Int.pow_succ]; omega
  by_cases c : n < low + 2 ^ e
  · rw [if_pos c, if_neg (by omega)]; rfl
  · rw [if_neg c, if_pos (by omega)]; rfl
theorem flp_lo (low : Int) (e : Nat) (ns : List Int) : grow low e ((ns.map (flp low (e + 1))).filter (loI (low + 2 ^ e))) = grow (low + 2 ^ e) e ((ns.filter (hiI (low + 2 ^ e))).map (flp (low + 2 ^ e) e)) := by
  have p : (2 : Int) ^ (e + 1) = 2 * 2 ^ e := by rw [Int.pow_succ]; omega
  rw [← grow_shift (2 ^ e) e low]
  congr 1
  rw [List.filter_map, List.map_map]
  have e1 : ns.filter (loI (low + 2 ^ e) ∘ flp low (e + 1)) = ns.filter (hiI (low + 2 ^ e)) := List.filter_congr fun n _ => by
    show decide (flp low (e + 1) n < low + 2 ^ e) = decide (low + 2 ^ e ≤ n)
    unfold flp
    by_cases c : low + 2 ^ e ≤ n
    · rw [decide_eq_true c, decide_eq_true (by omega)]
    · rw [decide_eq_false c, decide_eq_false (by omega)]
  rw [e1]
  refine List.map_congr_left fun n _ => ?_
  show flp low (e + 1) n + 2 ^ e = flp (low + 2 ^ e) e n
  unfold flp
  omega
theorem flp_hi (low : Int) (e : Nat) (ns : List Int) : grow (low + 2 ^ e) e ((ns.map (flp low (e + 1))).filter (hiI (low + 2 ^ e))) = grow low e ((ns.filter (loI (low + 2 ^ e))).map (flp low e)) := by
  have p : (2 : Int) ^ (e + 1) = 2 * 2 ^ e := by rw [Int.pow_succ]; omega
  rw [← grow_shift (2 ^ e) e low]
  congr 1
  rw [List.filter_map, List.map_map]
  have e1 : ns.filter (hiI (low + 2 ^ e) ∘ flp low (e + 1)) = ns.filter (loI (low + 2 ^ e)) := List.filter_congr fun n _ => by
    show decide (low + 2 ^ e ≤ flp low (e + 1) n) = decide (n < low + 2 ^ e)
    unfold flp
    by_cases c : n < low + 2 ^ e
    · rw [decide_eq_true c, decide_eq_true (by omega)]
    · rw [decide_eq_false c, decide_eq_false (by omega)]
  rw [e1]
  refine List.map_congr_left fun n _ => ?_
  show flp low (e + 1) n = flp low e n + 2 ^ e
  unfold flp
  omega
abbrev kb_turned : Nat := 0
abbrev kn_turned : Nat := 40
abbrev k_turned : Nat := 41
def spe_turned (_ : PySem.W.Frag) (e : Nat) : Sp := fun vs H Q _ => ∃ (v : V) (low : Int) (ns : List Int), vs = [v] ∧ TreeAt H v (grow low e ns) ∧ ns.length ≤ 900 ∧
  ∀ (u : V) (H' : Hp), Same H H' → TreeAt H' u (grow low e ns.reverse) → Q u H'
def sp_turned (K : PySem.W.Frag) : Sp := fun vs H Q E => ∃ e, e ≤ kn_turned ∧ spe_turned K e vs H Q E
abbrev kb_flipped : Nat := 0
abbrev kn_flipped : Nat := 40
abbrev k_flipped : Nat := 41
def spe_flipped (_ : PySem.W.Frag) (e : Nat) : Sp := fun vs H Q _ => ∃ (v : V) (low : Int) (ns : List Int), vs = [v] ∧ TreeAt H v (grow low e ns) ∧ ns.length ≤ 900 ∧
  ∀ (u : V) (H' : Hp), Same H H' → TreeAt H' u (grow low e (ns.map (flp low e))) → Q u H'
def sp_flipped (K : PySem.W.Frag) : Sp := fun vs H Q E => ∃ e, e ≤ kn_flipped ∧ spe_flipped K e vs H Q E
section
variable {P : Program} {w : World} {K : PySem.W.Frag} {mg : Str → Option Value} {base : Heap}
theorem ok_turned (d : DefA K mg "turned_joins" "turned" s_turned ["tree"]) (z : Bz K mg cLeastError cBeyond cNoSuch cTooMany cNoText cNoRow cMakes cDesk)  : Cal P w K mg base k_turned "turned_joins" ["tree"] (sp_turned K) := by
  have sc := sc_turned
  refine d.recur (k := kb_turned) (sp := spe_turned K) kn_turned fun e hen c_turned f fd F => F.ok sc (fun vs H Q E h => ?_) (fun cdv A outer s H vs Q E hr h => ?_)
  · obtain ⟨v, low, ns, rfl, _⟩ := h
    rfl
  obtain ⟨v, low, ns, rfl, hv, hl, q⟩ := h
  refine ⟨_, (pss_cons (ps_if (PW.pt (pw_or (pt_cmpR op_isN (pv 0) pe_non (nomark _)) (pw_or1 (pt_cmpR op_eq (pe_ix ix_tup (pv 0) pe_int (fun _ _ => rfl)) pe_str (nomark _)))))
  (pss_one (ps_ret (pv 0)))
  pss_nil)
 (pss_one (ps_ret (pe_tup (pa_cons pe_str (pa_cons (pe_tupRev rfl (K := K) rfl (by rfl) z.tuple_ (by rfl) z.reversed_ (pa_cons (pe_ix ix_tup (pv 0) pe_int (fun _ _ => rfl)) pa_nil)) (pa_cons (pe_fn c_turned (hr.mono (Nat.le_refl _)) (by rfl) (pa_cons (pe_ix ix_tup (pv 0) pe_int (fun _ _ => rfl)) pa_nil)) (pa_cons (pe_fn c_turned (hr.mono (Nat.le_refl _)) (by rfl) (pa_cons (pe_ix ix_tup (pv 0) pe_int (fun _ _ => rfl)) pa_nil)) pa_nil)))))))), ?_⟩
  refine ⟨_, rfl, rfl, _, rfl, ?_⟩
  by_cases hn : ns = []
  · subst hn
    rw [grow_nil] at hv
    have hv' : v = .non := hv
    subst hv'
    refine ite2 (fun c => ?_) (fun c => absurd (decide_eq_true rfl) c)
    exact ⟨_, rfl, q _ H (Same.refl H) (by rw [List.reverse_nil, grow_nil]; exact hv)⟩
  have hvn : v ≠ .non := fun z => by rw [z] at hv; exact hn (grow_non hv)
  refine ite2 (fun c => absurd (of_decide_eq_true c) hvn) (fun _ => ?_)
  have hrn : ns.reverse ≠ [] := by simpa using hn
  cases e with
  | zero =>
    have hv0 := hv
    rw [grow_zero hn] at hv
    obtain ⟨a, rfl, ha⟩ := hv
    refine ⟨_, rfl, a, _, _, _, rfl, rfl, SqT.of ha, rfl, rfl, _, rfl, ?_⟩
    refine ite2 (fun c => ?_) (fun c => absurd (decide_eq_true rfl) c)
    refine ⟨_, rfl, q _ H (Same.refl H) ?_⟩
    rw [grow_zero hrn, List.length_reverse, ← grow_zero hn (low := low)]
    exact hv0
  | succ e =>
    rw [grow_part hn] at hv
    rw [grow_part hrn, List.map_reverse, List.filter_reverse, List.filter_reverse] at q
    obtain ⟨a, m, x, y, rfl, ha, hm, hx, hy⟩ := hv
    refine ⟨_, rfl, a, _, _, _, rfl, rfl, SqT.of ha, rfl, rfl, _, rfl, ?_⟩
    refine ite2 (fun c => absurd (of_decide_eq_true c) (by decide)) (fun c => ?_)
    refine ⟨_, rfl, a, _, _, _, rfl, rfl, SqT.of ha, rfl, m, _, rfl, hm.sq, by simp only [List.length_map]; omega, fun p3 H3 s3 h3 => ?_⟩
    rw [← List.map_reverse] at h3
    refine ⟨_, rfl, a, _, _, _, rfl, rfl, SqT.of (s3 _ _ ha), rfl, x, low, _, rfl, hx.same s3, Nat.le_trans (List.length_filter_le _ _) hl, fun u4 H4 s4 hu4 => ?_⟩
    have s34 := s3.trans s4
    refine ⟨_, rfl, a, _, _, _, rfl, rfl, SqT.of (s34 _ _ ha), rfl, y, low + 2 ^ e, _, rfl, hy.same s34, Nat.le_trans (List.length_filter_le _ _) hl, fun u5 H5 s5 hu5 => ⟨szb rfl, fun p hp => q _ _ (s34.trans (s5.trans (same_new hp _))) ?_⟩⟩
    have s6 : Same H5 (upd H5 p (.tup [.str "part", .ref p3, u4, u5])) := same_new hp _
    exact ⟨p, p3, u4, u5, rfl, upd_same, ((h3.same s4).same s5).same s6, (hu4.same s5).same s6, hu5.same s6⟩
theorem ok_flipped (d : DefA K mg "flipped_joins" "flipped" s_flipped ["tree"]) (z : Bz K mg cLeastError cBeyond cNoSuch cTooMany cNoText cNoRow cMakes cDesk)  : Cal P w K mg base k_flipped "flipped_joins" ["tree"] (sp_flipped K) := by
  have sc := sc_flipped
  refine d.recur (k := kb_flipped) (sp := spe_flipped K) kn_flipped fun e hen c_flipped f fd F => F.ok sc (fun vs H Q E h => ?_) (fun cdv A outer s H vs Q E hr h => ?_)
  · obtain ⟨v, low, ns, rfl, _⟩ := h
    rfl
  obtain ⟨v, low, ns, rfl, hv, hl, q⟩ := h
  refine ⟨_, (pss_cons (ps_if (PW.pt (pw_or (pt_cmpR op_isN (pv 0) pe_non (nomark _)) (pw_or1 (pt_cmpR op_eq (pe_ix ix_tup (pv 0) pe_int (fun _ _ => rfl)) pe_str (nomark _)))))
  (pss_one (ps_ret (pv 0)))
  pss_nil)
 (pss_one (ps_ret (pe_tup (pa_cons pe_str (pa_cons (pe_callTy call_tupleF (by rfl) z.tuple_ bt_tuple (pa_cons (pe_comp (cl := []) (cn := []) (N := []) (fr := []) (sc0 := defScope s_flipped) rfl (pi_tup (pe_ix ix_tup (pv 0) pe_int (fun _ _ => rfl))) (fun C s₂ H₂ fp => (pe_op op_sub pe_int (pv 0))) (by with_unfolding_all rfl) trivial rfl rfl rfl ⟨by decide +kernel, by decide +kernel, by decide +kernel, by decide +kernel, by decide +kernel, by decide +kernel, by decide +kernel⟩ rfl) pa_nil)) (pa_cons (pe_fn c_flipped (hr.mono (Nat.le_refl _)) (by rfl) (pa_cons (pe_ix ix_tup (pv 0) pe_int (fun _ _ => rfl)) pa_nil)) (pa_cons (pe_fn c_flipped (hr.mono (Nat.le_refl _)) (by rfl) (pa_cons (pe_ix ix_tup (pv 0) pe_int (fun _ _ => rfl)) pa_nil)) pa_nil)))))))), ?_⟩
  refine ⟨_, rfl, rfl, _, rfl, ?_⟩
  by_cases hn : ns = []
  · subst hn
    rw [grow_nil] at hv
    have hv' : v = .non := hv
    subst hv'
    refine ite2 (fun c => ?_) (fun c => absurd (decide_eq_true rfl) c)
    exact ⟨_, rfl, q _ H (Same.refl H) (by rw [List.map_nil, grow_nil]; exact hv)⟩
  have hvn : v ≠ .non := fun z => by rw [z] at hv; exact hn (grow_non hv)
  refine ite2 (fun c => absurd (of_decide_eq_true c) hvn) (fun _ => ?_)
  have hrn : ns.map (flp low e) ≠ [] := by simpa using hn
  cases e with
  | zero =>
    have hv0 := hv
    rw [grow_zero hn] at hv
    obtain ⟨a, rfl, ha⟩ := hv
    refine ⟨_, rfl, a, _, _, _, rfl, rfl, SqT.of ha, rfl, rfl, _, rfl, ?_⟩
    refine ite2 (fun c => ?_) (fun c => absurd (decide_eq_true rfl) c)
    refine ⟨_, rfl, q _ H (Same.refl H) ?_⟩
    rw [grow_zero hrn, List.length_map, ← grow_zero hn (low := low)]
    exact hv0
  | succ e =>
    rw [grow_part hn] at hv
    rw [grow_part hrn, flp_mk, flp_lo, flp_hi] at q
    obtain ⟨a, m, x, y, rfl, ha, hm, hx, hy⟩ := hv
    refine ⟨_, rfl, a, _, _, _, rfl, rfl, SqT.of ha, rfl, rfl, _, rfl, ?_⟩
    refine ite2 (fun c => absurd (of_decide_eq_true c) (by decide)) (fun c => ?_)
    refine ⟨_, rfl, a, _, _, _, rfl, rfl, SqT.of ha, rfl, m, rfl, ⟨_, hm.sq⟩, fun D hD => ?_⟩
    refine comp_tup (xs := (ns.map (mkOf (low + 2 ^ e))).map V.int) (sz (by simp only [List.length_map]; omega)) (fun k ds H2 => H2 D = some (.lst ds) ∧ ds.length = k ∧ Same H H2 ∧ ds = (((ns.map (mkOf (low + 2 ^ e))).take k).map fun m => 1 - m).map V.int) ⟨upd_same, rfl, same_new hD _, rfl⟩ (fun k ds H2 ⟨_, _, s2, _⟩ => (hm.same s2).sq) (fun k ds H2 ⟨e1, e2, _, _⟩ => ⟨e1, e2⟩) ?_ ?_
    · rintro k x0 ds H2 hk ⟨e1, e2, s2, e4⟩
      obtain ⟨z, hz, rfl⟩ : ∃ z, (ns.map (mkOf (low + 2 ^ e)))[k]? = some z ∧ x0 = .int z := by
        rw [List.getElem?_map] at hk
        cases eq : (ns.map (mkOf (low + 2 ^ e)))[k]? with
        | none => rw [eq] at hk; cases hk
        | some z => rw [eq] at hk; exact ⟨z, rfl, (Option.some.inj hk).symm⟩
      refine ⟨_, rfl, _, _, rfl, rfl, e1, upd_same, by rw [List.length_append, e2] <;> rfl, Same.own s2 hD, ?_⟩
      rw [List.take_add_one, hz, e4]
      simp
    rintro ds H2 ⟨e1, e2, s2, e4⟩
    rw [List.length_map, List.take_length] at e4
    subst e4
    refine ⟨D, _, rfl, SqL.of e1, fun p3 H3 s3' h3 => ?_⟩
    have s3 := s2.trans s3'
    refine ⟨_, rfl, a, _, _, _, rfl, rfl, SqT.of (s3 _ _ ha), rfl, y, low + 2 ^ e, _, rfl, hy.same s3, Nat.le_trans (List.length_filter_le _ _) hl, fun u4 H4 s4 hu4 => ?_⟩
    have s34 := s3.trans s4
    refine ⟨_, rfl, a, _, _, _, rfl, rfl, SqT.of (s34 _ _ ha), rfl, x, low, _, rfl, hx.same s34, Nat.le_trans (List.length_filter_le _ _) hl, fun u5 H5 s5 hu5 => ⟨szb rfl, fun p hp => q _ _ (s34.trans (s5.trans (same_new hp _))) ?_⟩⟩
    have s6 : Same H5 (upd H5 p (.tup [.str "part", .ref p3, u4, u5])) := same_new hp _
    exact ⟨p, p3, u4, u5, rfl, upd_same, ((h3.same s4).same s5).same s6, (hu4.same s5).same s6, hu5.same s6⟩
end
/-! ### texts of whole numbers, rows and papers -/
section
open PySem.NumText
def fg (n : Int) : List Nat := (Str.ofString (toString n)).cps.toList
def tx (n : Int) : Str := Str.ofString (toString n)
def mkS (l : List Nat) : Str := ⟨l.toArray⟩
theorem mkS_l (l : List Nat) : (mkS l).cps.toList = l := rfl
theorem mkS_of (x : Str) : mkS x.cps.toList = x := rfl
theorem mkS_len (l : List Nat) : (mkS l).length = l.length := by
  show l.toArray.size = _
  simp
theorem str_eq {x y : Str} (h : x.cps.toList = y.cps.toList) : x = y := by
  rw [← mkS_of x, ← mkS_of y, h]
theorem fg_nat (m : Nat) : fg (m : Int) = (Nat.toDigits 10 m).map Char.toNat := PySem.W.KIN.signs_num m
theorem fg_neg (m : Nat) : fg (-((m + 1 : Nat) : Int)) = 45 :: fg ((m + 1 : Nat) : Int) := by
  rw [fg_nat]
  unfold fg
  rw [PyProof.Rows.signs_ofString]
  show ("-" ++ Nat.repr (m + 1)).toList.map Char.toNat = _
  rw [String.toList_append, List.map_append, Nat.toList_repr]
  rfl
theorem td_snoc {m : Nat} (h : ¬ m < 10) : Nat.toDigits 10 m = Nat.toDigits 10 (m / 10) ++ [Nat.digitChar (m % 10)] := by
  have hm : m % 10 < 10 := Nat.mod_lt m (by decide)
  have t : Nat.toDigits 10 (m / 10) ++ Nat.toDigits 10 (m % 10) = Nat.toDigits 10 (10 * (m / 10) + m % 10) := Nat.toDigits_append_toDigits (by decide) (by omega) hm
  rw [Nat.div_add_mod, Nat.toDigits_of_lt_base hm] at t
  exact t.symm
theorem dc_rng : ∀ d : Nat, d < 10 → 48 ≤ (Nat.digitChar d).toNat ∧ (Nat.digitChar d).toNat ≤ 57 := by decide
theorem dc_zero : ∀ d : Nat, d < 10 → (Nat.digitChar d).toNat = 48 → d = 0 := by decide
theorem fg_dig (m : Nat) : ∀ c ∈ fg (m : Int), 48 ≤ c ∧ c ≤ 57 := by
  rw [fg_nat]
  induction m using Nat.strongRecOn with
  | _ m ih =>
    by_cases h : m < 10
    · rw [Nat.toDigits_of_lt_base h]
      intro c hc
      have e : c = (Nat.digitChar m).toNat := by simpa using hc
      rw [e]
      exact dc_rng m h
    · rw [td_snoc h]
      intro c hc
      rw [List.map_append, List.mem_append] at hc
      rcases hc with hc | hc
      · exact ih (m / 10) (by omega) c hc
      · have e : c = (Nat.digitChar (m % 10)).toNat := by simpa using hc
        rw [e]
        exact dc_rng _ (Nat.mod_lt _ (by decide))
theorem fg_len (k : Nat) : ∀ m : Nat, m < 10 ^ (k + 1) → 1 ≤ (fg (m : Int)).length ∧ (fg (m : Int)).length ≤ k + 1 := by
  induction k with
  | zero =>
    intro m h
    rw [fg_nat, Nat.toDigits_of_lt_base (by simpa using h)]
    exact ⟨Nat.le_refl _, Nat.le_refl _⟩
  | succ k ih =>
    intro m h
    by_cases c : m < 10
    · rw [fg_nat, Nat.toDigits_of_lt_base c]
      exact ⟨Nat.le_refl _, by show 1 ≤ _; omega⟩
    · have hd : m / 10 < 10 ^ (k + 1) := by
        rw [Nat.pow_succ] at h
        exact Nat.div_lt_of_lt_mul (by rw [Nat.mul_comm]; exact h)
      have z := ih (m / 10) hd
      rw [fg_nat] at z ⊢
      rw [td_snoc c, List.map_append, List.length_append]
      show 1 ≤ _ + 1 ∧ _ + 1 ≤ _
      omega
theorem fg_head (m : Nat) : fg (m : Int) = [48] ∨ ∃ c r, fg (m : Int) = c :: r ∧ c ≠ 48 := by
  rw [fg_nat]
  induction m using Nat.strongRecOn with
  | _ m ih =>
    by_cases h : m < 10
    · rw [Nat.toDigits_of_lt_base h]
      by_cases z : m = 0
      · subst z
        exact .inl rfl
      · exact .inr ⟨_, [], rfl, fun e => z (dc_zero m h e)⟩
    · rw [td_snoc h, List.map_append]
      rcases ih (m / 10) (by omega) with e | ⟨c, r, e, hc⟩
      · exfalso
        have z : digitsVal ((Nat.toDigits 10 (m / 10)).map Char.toNat) = m / 10 := PySem.W.KIN.val_back (m / 10)
        rw [e] at z
        have z2 : (0 : Nat) = m / 10 := z
        omega
      · exact .inr ⟨c, r ++ _, by rw [e]; rfl, hc⟩
theorem fg_val (m : Nat) : digitsVal (fg (m : Int)) = m := by
  rw [fg_nat]
  exact PySem.W.KIN.val_back m
/-! what the program reads -/
def isD (c : Nat) : Bool := decide (c ∈ ("0123456789" : Str).cps.toList)
theorem isD_iff (c : Nat) : isD c = true ↔ 48 ≤ c ∧ c ≤ 57 := by
  unfold isD
  rw [decide_eq_true_iff, show ("0123456789" : Str).cps.toList = [48, 49, 50, 51, 52, 53, 54, 55, 56, 57] by decide +kernel]
  simp only [List.mem_cons, List.not_mem_nil, or_false]
  omega
def figB (l : List Nat) : Bool := decide (1 ≤ l.length) && decide (l.length ≤ 50) && !(decide (l.head? = some 48) && !decide (l = [48])) && l.all isD
def rdN : List Nat → Option Int
  | [] => none
  | c :: r => if c = 45 then (if figB r = true ∧ r ≠ [48] then some (-(digitsVal r : Int)) else none) else if figB (c :: r) = true then some (digitsVal (c :: r) : Int) else none
theorem rdN_cons (c : Nat) (r : List Nat) : rdN (c :: r) = if c = 45 then (if figB r = true ∧ r ≠ [48] then some (-(digitsVal r : Int)) else none) else if figB (c :: r) = true then some (digitsVal (c :: r) : Int) else none := rfl
theorem fig_all {l : List Nat} (h : figB l = true) : AllDigits l ∧ l ≠ [] ∧ l.length ≤ 50 := by
  unfold figB at h
  rw [Bool.and_eq_true, Bool.and_eq_true, Bool.and_eq_true, decide_eq_true_iff, decide_eq_true_iff, List.all_eq_true] at h
  obtain ⟨⟨⟨h1, h2⟩, _⟩, h3⟩ := h
  exact ⟨fun c hc => (isD_iff c).mp (h3 c hc), fun z => by rw [z] at h1; exact absurd h1 (by decide), h2⟩
theorem fig_fg {m : Nat} (h : m < 10 ^ 50) : figB (fg (m : Int)) = true := by
  have hl := fg_len 49 m h
  unfold figB
  rw [decide_eq_true hl.1, decide_eq_true hl.2, Bool.true_and, Bool.true_and, Bool.and_eq_true]
  refine ⟨?_, List.all_eq_true.mpr fun c hc => (isD_iff c).mpr (fg_dig m c hc)⟩
  rcases fg_head m with e | ⟨c, r, e, hc⟩
  · rw [e]
    decide
  · rw [e, decide_eq_false (show ¬ (c :: r).head? = some 48 from fun z => hc (Option.some.inj z))]
    rfl
theorem rd_nat {m : Nat} (h : m < 10 ^ 50) : rdN (fg (m : Int)) = some (m : Int) := by
  have hf := fig_fg h
  have hv := fg_val m
  have hd := fg_dig m
  cases e : fg (m : Int) with
  | nil => rw [e] at hf; cases hf
  | cons c r =>
    rw [e] at hf hv hd
    have hc : c ≠ 45 := by
      have := (hd c (List.mem_cons_self ..)).1
      omega
    rw [rdN_cons]
    rw [if_neg hc, if_pos hf, hv]
theorem rd_fg {n : Int} (h0 : -(10 ^ 50) < n) (h1 : n < 10 ^ 50) : rdN (fg n) = some n := by
  by_cases c : 0 ≤ n
  · obtain ⟨m, rfl⟩ := Int.eq_ofNat_of_zero_le c
    exact rd_nat (by omega)
  · obtain ⟨m, hm⟩ : ∃ m : Nat, n = -((m + 1 : Nat) : Int) := ⟨(-n - 1).toNat, by omega⟩
    subst hm
    rw [fg_neg]
    have hf := fig_fg (m := m + 1) (by omega)
    have hv := fg_val (m + 1)
    have hne : fg ((m + 1 : Nat) : Int) ≠ [48] := fun z => by
      rw [z] at hv
      have : (0 : Nat) = m + 1 := hv
      omega
    rw [rdN_cons]
    rw [if_pos rfl, if_pos ⟨hf, hne⟩, hv]
theorem rd_int {x : Str} {n : Int} (h : rdN x.cps.toList = some n) : PySem.intText? x = some n ∧ x.length ≤ 51 := by
  have hx : x.length = x.cps.toList.length := by simp [Str.length]
  cases e : x.cps.toList with
  | nil => rw [e] at h; cases h
  | cons c r =>
    rw [e] at h hx
    rw [rdN_cons] at h
    by_cases c45 : c = 45
    · subst c45
      rw [if_pos rfl] at h
      by_cases z : figB r = true ∧ r ≠ [48]
      · rw [if_pos z] at h
        obtain ⟨a, b, d⟩ := fig_all z.1
        have hl : x.length ≤ 51 := by rw [hx, List.length_cons]; omega
        exact ⟨(intText_neg e a b (by omega)).trans h, hl⟩
      · rw [if_neg z] at h; cases h
    · rw [if_neg c45] at h
      by_cases z : figB (c :: r) = true
      · rw [if_pos z] at h
        obtain ⟨a, b, d⟩ := fig_all z
        have hl : x.length ≤ 51 := by rw [hx]; omega
        refine ⟨(intText_digits (by rw [e]; exact a) (by rw [e]; exact b) (by omega)).trans ?_, hl⟩
        rw [e]
        exact h
      · rw [if_neg z] at h; cases h
/-! rows -/
def rdAll : List Str → Option (List Int)
  | [] => some []
  | x :: r => match rdN x.cps.toList, rdAll r with
    | some n, some ns => some (n :: ns)
    | _, _ => none
def rdR (x : Str) : Option (List Int) := if x = "" then some [] else rdAll (Txt.split x " ")
def rowT (ns : List Int) : Str := Txt.join " " (ns.map tx)
theorem fg_no32 {n : Int} : 32 ∉ fg n := by
  intro h
  by_cases c : 0 ≤ n
  · obtain ⟨m, rfl⟩ := Int.eq_ofNat_of_zero_le c
    have := fg_dig m 32 h
    omega
  · obtain ⟨m, hm⟩ : ∃ m : Nat, n = -((m + 1 : Nat) : Int) := ⟨(-n - 1).toNat, by omega⟩
    subst hm
    rw [fg_neg] at h
    rcases List.mem_cons.mp h with h | h
    · exact absurd h (by decide)
    · have := fg_dig (m + 1) 32 h
      omega
theorem join_cons (s x y : Str) (r : List Str) : (Str.join s (x :: y :: r)).cps.toList = x.cps.toList ++ (s.cps.toList ++ (Str.join s (y :: r)).cps.toList) := by
  rw [show Str.join s (x :: y :: r) = x ++ s ++ Str.join s (y :: r) from rfl, PyProof.Rows.cps_toList_append, PyProof.Rows.cps_toList_append, List.append_assoc]
theorem cut_free {c : Nat} : ∀ {a b u v : List Nat}, c ∉ a → c ∉ b → a ++ c :: u = b ++ c :: v → a = b ∧ u = v
  | [], [], u, v, _, _, h => ⟨rfl, (List.cons.inj h).2⟩
  | [], y :: b, u, v, _, hb, h => absurd (by rw [(List.cons.inj h).1]; exact List.mem_cons_self ..) hb
  | x :: a, [], u, v, ha, _, h => absurd (by rw [← (List.cons.inj h).1]; exact List.mem_cons_self ..) ha
  | x :: a, y :: b, u, v, ha, hb, h => by
    obtain ⟨h1, h2⟩ := List.cons.inj h
    obtain ⟨e1, e2⟩ := cut_free (fun z => ha (List.mem_cons_of_mem _ z)) (fun z => hb (List.mem_cons_of_mem _ z)) h2
    exact ⟨by rw [h1, e1], e2⟩
theorem join_uniq {c : Nat} : ∀ {xs ys : List Str}, xs ≠ [] → ys ≠ [] → (∀ p ∈ xs, c ∉ p.cps.toList) → (∀ p ∈ ys, c ∉ p.cps.toList) → (Str.join ⟨#[c]⟩ xs).cps.toList = (Str.join ⟨#[c]⟩ ys).cps.toList → xs = ys
  | [], _, h, _, _, _, _ => absurd rfl h
  | _, [], _, h, _, _, _ => absurd rfl h
  | [x], [y], _, _, _, _, h => by
    rw [str_eq (x := x) (y := y) h]
  | [x], y :: z :: r, _, _, hx, _, h => by
    rw [join_cons] at h
    exact absurd (show c ∈ x.cps.toList by
      have e : x.cps.toList = _ := h
      rw [e]
      simp) (hx x (List.mem_cons_self ..))
  | x :: z :: r, [y], _, _, _, hy, h => by
    rw [join_cons] at h
    exact absurd (show c ∈ y.cps.toList by
      have e : _ = y.cps.toList := h
      rw [← e]
      simp) (hy y (List.mem_cons_self ..))
  | x :: x2 :: r, y :: y2 :: q, _, _, hx, hy, h => by
    rw [join_cons, join_cons] at h
    obtain ⟨e1, e2⟩ := cut_free (hx x (List.mem_cons_self ..)) (hy y (List.mem_cons_self ..)) (show x.cps.toList ++ c :: _ = y.cps.toList ++ c :: _ from h)
    have ih := join_uniq (xs := x2 :: r) (ys := y2 :: q) (by simp) (by simp) (fun p hp => hx p (List.mem_cons_of_mem _ hp)) (fun p hp => hy p (List.mem_cons_of_mem _ hp)) e2
    rw [str_eq e1, ih]
theorem split_ne (x : Str) (c : Nat) : Txt.split x ⟨#[c]⟩ ≠ [] := by
  unfold Txt.split
  split
  · simp
  · split
    · simp
    · rw [StrLaws.partsBetween_eq]
      obtain ⟨p, r, e⟩ := StrLaws.partsFrom_ne x (⟨#[c]⟩ : Str).length 0 (Builtin.Str.occurrences x ⟨#[c]⟩ 0 x.length (x.length + 1))
      rw [e]
      simp
theorem split_join {c : Nat} {xs : List Str} (h : xs ≠ []) (hf : ∀ p ∈ xs, c ∉ p.cps.toList) : Txt.split (Str.join ⟨#[c]⟩ xs) ⟨#[c]⟩ = xs :=
  join_uniq (split_ne _ c) h (StrLaws.split_free _ c) hf (by rw [StrLaws.join_split])
theorem spc : (" " : Str) = ⟨#[32]⟩ := by decide +kernel
end
/-! ### makes: an instance, what it keeps, and its methods -/
structure Mks (C : Addr) (H : Hp) (x ka b : Addr) (low : Int) (L : Nat) (rs cs : List (List Int)) : Prop where
  o : ∃ dx, H x = some (.ins C dx [("bounds", .ref b), ("kept", .ref ka)])
  hb : H b = some (.tup [.int low, .int (L : Int)])
  hL : L ≤ 40
  len : cs.length = rs.length
  few : rs.length ≤ 100
  hk : ∃ es : List V, H ka = some (.lst es) ∧ es.length = rs.length ∧ ∀ (j : Nat) (r c : List Int), rs[j]? = some r → cs[j]? = some c →
    ∃ (p a : Addr) (v : V), es[j]? = some (.ref p) ∧ H p = some (.tup [v, .ref a]) ∧ TreeAt H v (grow low L r) ∧ H a = some (.tup (c.map V.int))
  ok : ∀ r ∈ rs, Wths low L r ∧ r.length ≤ 200
theorem Mks.keep {C : Addr} {H H' : Hp} {x ka b p : Addr} {low : Int} {L : Nat} {rs cs : List (List Int)} {ys : List V} (M : Mks C H x ka b low L rs cs) (k : Keep p H H') (e : H p = some (.lst ys)) (n : ka ≠ p) : Mks C H' x ka b low L rs cs := by
  obtain ⟨dx, hx⟩ := M.o
  obtain ⟨es, h1, h2, h3⟩ := M.hk
  have tk : TKeep H H' := .keep k e
  refine ⟨⟨dx, k _ _ (ne_of hx e (by intro z; cases z)) hx⟩, (tk _ _).1 M.hb, M.hL, M.len, M.few, ⟨es, k _ _ n h1, h2, fun j r c hr hc => ?_⟩, M.ok⟩
  obtain ⟨p', a, v, e1, e2, e3, e4⟩ := h3 j r c hr hc
  exact ⟨p', a, v, e1, (tk _ _).1 e2, e3.tk tk, (tk _ _).1 e4⟩
theorem Mks.same {C : Addr} {H H' : Hp} {x ka b : Addr} {low : Int} {L : Nat} {rs cs : List (List Int)} (M : Mks C H x ka b low L rs cs) (s : Same H H') : Mks C H' x ka b low L rs cs := by
  obtain ⟨dx, hx⟩ := M.o
  obtain ⟨es, h1, h2, h3⟩ := M.hk
  have tk : TKeep H H' := .same s
  refine ⟨⟨dx, s _ _ hx⟩, s _ _ M.hb, M.hL, M.len, M.few, ⟨es, s _ _ h1, h2, fun j r c hr hc => ?_⟩, M.ok⟩
  obtain ⟨p', a, v, e1, e2, e3, e4⟩ := h3 j r c hr hc
  exact ⟨p', a, v, e1, s _ _ e2, e3.tk tk, s _ _ e4⟩
theorem Mks.snoc {C : Addr} {H H' : Hp} {x ka b p a : Addr} {v : V} {low : Int} {L : Nat} {rs cs : List (List Int)} {es : List V} {r c : List Int} (M : Mks C H x ka b low L rs cs) (hes : H ka = some (.lst es)) (k : Keep ka H H') (hp : H' p = some (.tup [v, .ref a]))
    (hv : TreeAt H v (grow low L r)) (ha : H a = some (.tup (c.map V.int))) (hw : Wths low L r) (hl : r.length ≤ 200) (hn : rs.length ≤ 99) (h' : H' ka = some (.lst (es ++ [.ref p]))) : Mks C H' x ka b low L (rs ++ [r]) (cs ++ [c]) := by
  obtain ⟨dx, hx⟩ := M.o
  obtain ⟨es', h1, h2, h3⟩ := M.hk
  obtain rfl : es' = es := by rw [hes] at h1; injection h1 with h1; injection h1 with h1; exact h1.symm
  have tk : TKeep H H' := .keep k hes
  have hlen := M.len
  refine ⟨⟨dx, k _ _ (ne_of hx hes (by intro z; cases z)) hx⟩, (tk _ _).1 M.hb, M.hL, by rw [List.length_append, List.length_append, M.len]; rfl, by rw [List.length_append]; show rs.length + 1 ≤ 100; omega, ⟨_, h', by rw [List.length_append, List.length_append, h2]; rfl, fun j r1 c1 hr hc => ?_⟩, fun r1 h1 => ?_⟩
  · by_cases hj : j < rs.length
    · rw [List.getElem?_append_left hj] at hr
      rw [List.getElem?_append_left (by omega)] at hc
      obtain ⟨p', a', v', e1, e2, e3, e4⟩ := h3 j r1 c1 hr hc
      exact ⟨p', a', v', by rw [List.getElem?_append_left (by omega)]; exact e1, (tk _ _).1 e2, e3.tk tk, (tk _ _).1 e4⟩
    · have hj' : j = rs.length := by
        have := (List.getElem?_eq_some_iff.mp hr).1
        rw [List.length_append] at this
        have t2 : j < rs.length + 1 := this
        omega
      subst hj'
      rw [List.getElem?_append_right (Nat.le_refl _), Nat.sub_self] at hr
      rw [List.getElem?_append_right (by omega), show rs.length - cs.length = 0 by omega] at hc
      obtain rfl : r = r1 := Option.some.inj hr
      obtain rfl : c = c1 := Option.some.inj hc
      exact ⟨p, a, v, by rw [List.getElem?_append_right (by omega), show rs.length - es'.length = 0 by omega]; rfl, hp, hv.tk tk, (tk _ _).1 ha⟩
  · rcases List.mem_append.mp h1 with h | h
    · exact M.ok _ h
    · obtain rfl : r1 = r := by simpa using h
      exact ⟨hw, hl⟩
/-- what a method that makes gives back -/
def Made (C : Addr) (H : Hp) (x ka b : Addr) (low : Int) (L : Nat) (rs cs : List (List Int)) (r c : List Int) (Q : VK) : Prop :=
  ∀ H' : Hp, Keep ka H H' → Mks C H' x ka b low L (rs ++ [r]) (cs ++ [c]) → Q (.int (rs.length : Int)) H'
theorem Made.of {C : Addr} {H H1 : Hp} {x ka b : Addr} {low : Int} {L : Nat} {rs cs : List (List Int)} {r c : List Int} {Q : VK} (q : Made C H x ka b low L rs cs r c Q) (s : Same H H1) : Made C H1 x ka b low L rs cs r c Q :=
  fun H' k M => q H' ((Keep.same s).trans k) M
abbrev k_not_too_many : Nat := 2
def sp_not_too_many (_ : PySem.W.Frag) : Sp := fun vs H Q _ => ∃ (v : V) (t : Tr), vs = [v] ∧ TreeAt H v t ∧ trSize t ≤ 1000 ∧ Q v H
abbrev k_M_keep : Nat := 1
def sp_M_keep (_ : PySem.W.Frag) (C : Addr) : Sp := fun vs H Q _ => ∃ (x ka b a : Addr) (v : V) (low : Int) (L : Nat) (rs cs : List (List Int)) (r c : List Int), vs = [.ref x, v, .ref a] ∧ Mks C H x ka b low L rs cs ∧ TreeAt H v (grow low L r) ∧ H a = some (.tup (c.map V.int)) ∧ Wths low L r ∧ r.length ≤ 200 ∧ rs.length ≤ 99 ∧ Made C H x ka b low L rs cs r c Q
abbrev k_I_Makes : Nat := 2
def sp_I_Makes (_ : PySem.W.Frag) (C : Addr) : Sp := fun vs H Q _ => ∃ (x b dx : Addr) (low : Int) (L : Nat), vs = [.ref x, .ref b] ∧ H x = some (.ins C dx []) ∧ H b = some (.tup [.int low, .int (L : Int)]) ∧ L ≤ 40 ∧
  ∀ (ka : Addr) (H' : Hp), H ka = none → Keep x H H' → Mks C H' x ka b low L [[]] [[]] → Q .non H'
abbrev k_M_found : Nat := 1
def sp_M_found (_ : PySem.W.Frag) (C : Addr) : Sp := fun vs H Q _ => ∃ (x ka b : Addr) (j : Nat) (low : Int) (L : Nat) (rs cs : List (List Int)) (r c : List Int), vs = [.ref x, .int (j : Int)] ∧ Mks C H x ka b low L rs cs ∧ rs[j]? = some r ∧ cs[j]? = some c ∧
  ∀ (p a : Addr) (v : V), H p = some (.tup [v, .ref a]) → TreeAt H v (grow low L r) → H a = some (.tup (c.map V.int)) → Q (.ref p) H
abbrev k_M_tree : Nat := 2
def sp_M_tree (_ : PySem.W.Frag) (C : Addr) : Sp := fun vs H Q _ => ∃ (x ka b : Addr) (j : Nat) (low : Int) (L : Nat) (rs cs : List (List Int)) (r : List Int), vs = [.ref x, .int (j : Int)] ∧ Mks C H x ka b low L rs cs ∧ rs[j]? = some r ∧
  ∀ v : V, TreeAt H v (grow low L r) → Q v H
abbrev k_M_stretch : Nat := 3
def sp_M_stretch (_ : PySem.W.Frag) (C : Addr) : Sp := fun vs H Q _ => ∃ (x ka b : Addr) (j st en : Nat) (low : Int) (L : Nat) (rs cs : List (List Int)) (r : List Int), vs = [.ref x, .int (j : Int), .int (st : Int), .int (en : Int)] ∧ Mks C H x ka b low L rs cs ∧ rs[j]? = some r ∧ st ≤ en ∧ en ≤ r.length ∧
  ∀ (p : Addr) (v : V) (H' : Hp), Same H H' → TreeAt H' v (grow low L r) → H' p = some (.tup [v, .int (st : Int), .int (en : Int)]) → Q (.ref p) H'
abbrev k_M_of_row : Nat := 43
def sp_M_of_row (K : PySem.W.Frag) (C : Addr) : Sp := fun vs H Q _ => ∃ (x ka b l : Addr) (low : Int) (L : Nat) (rs cs : List (List Int)) (r : List Int), vs = [.ref x, .ref l] ∧ Mks C H x ka b low L rs cs ∧ SqL K H l (r.map V.int) ∧ Wths low L r ∧ r.length ≤ 200 ∧ rs.length ≤ 99 ∧ Made C H x ka b low L rs cs r [] Q
abbrev k_M_put_in : Nat := 45
def sp_M_put_in (_ : PySem.W.Frag) (C : Addr) : Sp := fun vs H Q _ => ∃ (x ka b : Addr) (j pl : Nat) (low num : Int) (L : Nat) (rs cs : List (List Int)) (r : List Int), vs = [.ref x, .int (j : Int), .int (pl : Int), .int num] ∧ Mks C H x ka b low L rs cs ∧ rs[j]? = some r ∧ pl ≤ r.length ∧ low ≤ num ∧ num < low + 2 ^ L ∧ r.length ≤ 199 ∧ rs.length ≤ 99 ∧ Made C H x ka b low L rs cs (insAt r pl num) [(j : Int)] Q
abbrev k_M_taken_out : Nat := 45
def sp_M_taken_out (_ : PySem.W.Frag) (C : Addr) : Sp := fun vs H Q _ => ∃ (x ka b : Addr) (j pl : Nat) (low n : Int) (L : Nat) (rs cs : List (List Int)) (r : List Int), vs = [.ref x, .int (j : Int), .int (pl : Int)] ∧ Mks C H x ka b low L rs cs ∧ rs[j]? = some r ∧ r[pl]? = some n ∧ rs.length ≤ 99 ∧ Made C H x ka b low L rs cs (delAt r pl) [(j : Int)] Q
abbrev k_M_set_at : Nat := 46
def sp_M_set_at (_ : PySem.W.Frag) (C : Addr) : Sp := fun vs H Q _ => ∃ (x ka b : Addr) (j pl : Nat) (low n num : Int) (L : Nat) (rs cs : List (List Int)) (r : List Int), vs = [.ref x, .int (j : Int), .int (pl : Int), .int num] ∧ Mks C H x ka b low L rs cs ∧ rs[j]? = some r ∧ r[pl]? = some n ∧ low ≤ num ∧ num < low + 2 ^ L ∧ rs.length ≤ 99 ∧ Made C H x ka b low L rs cs (r.take pl ++ num :: r.drop (pl + 1)) [(j : Int)] Q
abbrev k_M_cut_out : Nat := 44
def sp_M_cut_out (_ : PySem.W.Frag) (C : Addr) : Sp := fun vs H Q _ => ∃ (x ka b : Addr) (j st en : Nat) (low : Int) (L : Nat) (rs cs : List (List Int)) (r : List Int), vs = [.ref x, .int (j : Int), .int (st : Int), .int (en : Int)] ∧ Mks C H x ka b low L rs cs ∧ rs[j]? = some r ∧ st ≤ en ∧ en ≤ r.length ∧ rs.length ≤ 99 ∧ Made C H x ka b low L rs cs (segI r st en) [(j : Int)] Q
abbrev k_M_joined : Nat := 44
def sp_M_joined (_ : PySem.W.Frag) (C : Addr) : Sp := fun vs H Q _ => ∃ (x ka b : Addr) (i j : Nat) (low : Int) (L : Nat) (rs cs : List (List Int)) (r t : List Int), vs = [.ref x, .int (i : Int), .int (j : Int)] ∧ Mks C H x ka b low L rs cs ∧ rs[i]? = some r ∧ rs[j]? = some t ∧ r.length + t.length ≤ 200 ∧ rs.length ≤ 99 ∧ Made C H x ka b low L rs cs (r ++ t) [(i : Int), (j : Int)] Q
abbrev k_M_turned : Nat := 43
def sp_M_turned (_ : PySem.W.Frag) (C : Addr) : Sp := fun vs H Q _ => ∃ (x ka b : Addr) (j : Nat) (low : Int) (L : Nat) (rs cs : List (List Int)) (r : List Int), vs = [.ref x, .int (j : Int)] ∧ Mks C H x ka b low L rs cs ∧ rs[j]? = some r ∧ rs.length ≤ 99 ∧ Made C H x ka b low L rs cs r.reverse [(j : Int)] Q
abbrev k_M_flipped : Nat := 43
def sp_M_flipped (_ : PySem.W.Frag) (C : Addr) : Sp := fun vs H Q _ => ∃ (x ka b : Addr) (j : Nat) (low : Int) (L : Nat) (rs cs : List (List Int)) (r : List Int), vs = [.ref x, .int (j : Int)] ∧ Mks C H x ka b low L rs cs ∧ rs[j]? = some r ∧ rs.length ≤ 99 ∧ Made C H x ka b low L rs cs (r.map (flp low L)) [(j : Int)] Q
abbrev k_M_row : Nat := 44
def sp_M_row (_ : PySem.W.Frag) (C : Addr) : Sp := fun vs H Q _ => ∃ (x ka b : Addr) (j : Nat) (low : Int) (L : Nat) (rs cs : List (List Int)) (r : List Int), vs = [.ref x, .int (j : Int)] ∧ Mks C H x ka b low L rs cs ∧ rs[j]? = some r ∧
  ∀ (H' : Hp) (D : Addr), Same H H' → H' D = some (.lst (r.map V.int)) → H D = none → Q (.ref D) H'
theorem Mks.row {C : Addr} {H : Hp} {x ka b : Addr} {low : Int} {L j : Nat} {rs cs : List (List Int)} {r : List Int} (M : Mks C H x ka b low L rs cs) (h : rs[j]? = some r) : ∃ c, cs[j]? = some c := by
  have := (List.getElem?_eq_some_iff.mp h).1
  have := M.len
  exact ⟨cs[j]'(by omega), List.getElem?_eq_getElem _⟩
theorem Mks.sz {C : Addr} {H : Hp} {x ka b : Addr} {low : Int} {L j : Nat} {rs cs : List (List Int)} {r : List Int} (M : Mks C H x ka b low L rs cs) (h : rs[j]? = some r) : Wths low L r ∧ r.length ≤ 200 := M.ok r (List.mem_of_getElem? h)
section
variable {P : Program} {w : World} {K : PySem.W.Frag} {mg : Str → Option Value} {base : Heap}
theorem ok_not_too_many (d : Def K mg "not_too_many" s_not_too_many ["tree"]) (z : Bz K mg cLeastError cBeyond cNoSuch cTooMany cNoText cNoRow cMakes cDesk) (c_size_of : Cal P w K mg base k_size_of "size_of" ["tree"] (sp_size_of K)) : Cal P w K mg base k_not_too_many "not_too_many" ["tree"] (sp_not_too_many K) := by
  have sc := sc_not_too_many
  refine d.cal fun f fd F => F.ok sc (fun vs H Q E h => ?_) (fun cdv A outer s H vs Q E hr h => ?_)
  · obtain ⟨v, t, rfl, _⟩ := h
    rfl
  obtain ⟨v, t, rfl, ht, hs, q⟩ := h
  refine ⟨_, (pss_cons (ps_if (pt_cmpR op_gt (pe_fn c_size_of (hr.mono (by decide)) (by rfl) (pa_cons (pv 0) pa_nil)) pe_int (nomark _))
  (pss_one ps_never)
  pss_nil)
 (pss_one (ps_ret (pv 0)))), ?_⟩
  refine ⟨_, rfl, v, t, rfl, ht, _, _, rfl, rfl, _, rfl, ?_⟩
  refine ite2 (fun c => absurd (of_decide_eq_true c) (by omega)) (fun _ => ?_)
  exact ⟨_, rfl, q⟩
theorem ok_M_keep (z : Bz K mg cLeastError cBeyond cNoSuch cTooMany cNoText cNoRow cMakes cDesk)  : MCal P w K mg base k_M_keep cMakes "keep" ["self", "tree", "sources"] (sp_M_keep K cMakes) := by
  have sc := sc_M_keep
  refine z.d_M_keep.cal z.o_Makes fun f fd F => F.ok sc (fun vs H Q E h => ?_) (fun cdv A outer s H vs Q E hr h => ?_)
  · obtain ⟨x, ka, b, a, v, low, L, rs, cs, r, c, rfl, _⟩ := h
    rfl
  obtain ⟨x, ka, b, a, v, low, L, rs, cs, r, c, rfl, M, hv, ha, hw, hl, hn, q⟩ := h
  refine ⟨_, (pss_cons (ps_expr (pe_bm PySem.F.plainAttrs_list PySem.F.slot_list_append PySem.F.type_list_append mt_append (pe_fld (pv 0) rfl) (pa_cons (pe_tup (pa_cons (pv 1) (pa_cons (pv 2) pa_nil))) pa_nil)))
 (pss_one (ps_ret (pe_op op_sub (pe_callB call_len_seq (by rfl) z.len_ bt_len (pa_cons (pe_fld (pv 0) rfl) pa_nil)) pe_int)))), ?_⟩
  obtain ⟨dx, hx⟩ := M.o
  obtain ⟨es, hes, hel, _⟩ := M.hk
  refine ⟨_, rfl, x, _, dx, _, _, rfl, hx, z.o_Makes, z.nK, rfl, .inl ⟨rfl, _, SqL.of hes⟩, _, rfl, _, rfl, szb rfl, fun p hp => ?_⟩
  have s1 : Same H (upd H p (.tup [v, .ref a])) := same_new hp _
  have e1 : upd H p (.tup [v, .ref a]) p = some (.tup [v, .ref a]) := upd_same
  generalize upd H p (.tup [v, .ref a]) = H1 at *
  have hes1 := s1 _ _ hes
  refine ⟨ka, es, _, rfl, rfl, hes1, by rw [hel]; exact small1000 (by omega), ?_⟩
  have k2 : Keep ka H (upd H1 ka (.lst (es ++ [.ref p]))) := (Keep.same s1).trans (Keep.set ka H1 _)
  have e2 : upd H1 ka (.lst (es ++ [.ref p])) ka = some (.lst (es ++ [.ref p])) := upd_same
  have e3 : upd H1 ka (.lst (es ++ [.ref p])) p = some (.tup [v, .ref a]) := (TKeep.set hes1 _ _).1 e1
  generalize upd H1 ka (.lst (es ++ [.ref p])) = H2 at *
  have M2 := M.snoc hes k2 e3 hv ha hw hl hn e2
  obtain ⟨dx2, hx2⟩ := M2.o
  refine ⟨_, rfl, x, _, dx2, _, _, rfl, hx2, z.o_Makes, z.nK, rfl, ka, _, rfl, .inl (SqL.of e2), _, _, rfl, rfl, ?_⟩
  have en : (((es ++ [V.ref p]).length : Nat) : Int) - 1 = (rs.length : Int) := by rw [List.length_append, hel]; show ((rs.length + 1 : Nat) : Int) - 1 = _; omega
  show Q (.int ((((es ++ [V.ref p]).length : Nat) : Int) - 1)) H2
  rw [en]
  exact q _ k2 M2
end
section
variable {P : Program} {w : World} {K : PySem.W.Frag} {mg : Str → Option Value} {base : Heap}
theorem ok_I_Makes (z : Bz K mg cLeastError cBeyond cNoSuch cTooMany cNoText cNoRow cMakes cDesk) (mc_M_keep : MCal P w K mg base k_M_keep cMakes "keep" ["self", "tree", "sources"] (sp_M_keep K cMakes)) : ICal P w K mg base k_I_Makes cMakes ["self", "bounds"] (sp_I_Makes K cMakes) := by
  have sc := sc_I_Makes
  refine z.d_I_Makes.cal fun f fd F => F.ok sc (fun vs H Q E h => ?_) (fun cdv A outer s H vs Q E hr h => ?_)
  · obtain ⟨x, b, dx, low, L, rfl, _⟩ := h
    rfl
  obtain ⟨x, b, dx, low, L, rfl, hx, hb, hL, q⟩ := h
  refine ⟨_, (pss_cons (ps_fld (pv 0) (pv 1) rfl)
 (pss_cons (ps_fld (pv 0) (pe_lst pa_nil) rfl)
 (pss_one (ps_expr (pe_mth mc_M_keep (hr.mono (by decide)) (pv 0) (pa_cons pe_non (pa_cons (pe_tup pa_nil) pa_nil))))))), ?_⟩
  refine ⟨_, rfl, _, rfl, x, _, dx, _, rfl, hx, z.o_Makes, z.nB, by decide, ?_⟩
  have hbx : b ≠ x := ne_of hb hx (by intro z; cases z)
  have k1 : Keep x H (upd H x (.ins cMakes dx (putF "bounds" (.ref b) []))) := Keep.set x H _
  have e1 : upd H x (.ins cMakes dx (putF "bounds" (.ref b) [])) x = some (.ins cMakes dx [("bounds", .ref b)]) := upd_same
  generalize upd H x (.ins cMakes dx (putF "bounds" (.ref b) [])) = H1 at *
  refine ⟨szb rfl, fun ka hka => ?_⟩
  have hka0 : H ka = none := by
    cases e : H ka with
    | none => rfl
    | some o =>
      exfalso
      by_cases hkx : ka = x
      · rw [hkx, e1] at hka; cases hka
      · rw [k1 _ _ hkx e] at hka; cases hka
  have s2 : Same H1 (upd H1 ka (.lst [])) := same_new hka _
  have e2 : upd H1 ka (.lst []) ka = some (.lst []) := upd_same
  generalize upd H1 ka (.lst []) = H2 at *
  refine ⟨_, rfl, x, _, dx, _, rfl, s2 _ _ e1, z.o_Makes, z.nK, by show 1 < 1000; decide, ?_⟩
  have hkx : ka ≠ x := fun h => by rw [h, e1] at hka; cases hka
  have k3 : Keep x H2 (upd H2 x (.ins cMakes dx (putF "kept" (.ref ka) [("bounds", .ref b)]))) := Keep.set x H2 _
  have e3 : upd H2 x (.ins cMakes dx (putF "kept" (.ref ka) [("bounds", .ref b)])) x = some (.ins cMakes dx [("bounds", .ref b), ("kept", .ref ka)]) := upd_same
  generalize upd H2 x (.ins cMakes dx (putF "kept" (.ref ka) [("bounds", .ref b)])) = H3 at *
  refine ⟨_, rfl, x, dx, _, rfl, e3, rfl, szb rfl, fun p hp => ?_⟩
  have s4 : Same H3 (upd H3 p (.tup [])) := same_new hp _
  have e4 : upd H3 p (.tup []) p = some (.tup []) := upd_same
  generalize upd H3 p (.tup []) = H4 at *
  have k13 : Keep x H H3 := k1.trans ((Keep.same s2).trans k3)
  have M : Mks cMakes H4 x ka b low L [] [] := ⟨⟨dx, s4 _ _ e3⟩, s4 _ _ (k13 _ _ hbx hb), hL, rfl, by decide, ⟨[], s4 _ _ (k3 _ _ hkx e2), rfl, fun j r c g => by cases g⟩, fun r g => by cases g⟩
  refine ⟨x, ka, b, p, .non, low, L, [], [], [], [], rfl, M, by rw [grow_nil]; rfl, e4, (fun _ h => by cases h), by decide, by decide, fun H5 k5 M5 => ?_⟩
  refine q ka H5 hka0 ?_ M5
  intro c o hc hco
  refine k5 c o ?_ (s4 _ _ (k13 _ _ hc hco))
  intro hck
  rw [hck, hka0] at hco
  cases hco
theorem ok_M_found (z : Bz K mg cLeastError cBeyond cNoSuch cTooMany cNoText cNoRow cMakes cDesk)  : MCal P w K mg base k_M_found cMakes "found" ["self", "make"] (sp_M_found K cMakes) := by
  have sc := sc_M_found
  refine z.d_M_found.cal z.o_Makes fun f fd F => F.ok sc (fun vs H Q E h => ?_) (fun cdv A outer s H vs Q E hr h => ?_)
  · obtain ⟨x, ka, b, j, low, L, rs, cs, r, c, rfl, _⟩ := h
    rfl
  obtain ⟨x, ka, b, j, low, L, rs, cs, r, c, rfl, M, g, hc, q⟩ := h
  refine ⟨_, (pss_cons (ps_if (PW.pt (pw_or (pt_cmpR op_lt (pv 1) pe_int (nomark _)) (pw_or1 (pt_cmpR op_ge (pv 1) (pe_callB call_len_seq (by rfl) z.len_ bt_len (pa_cons (pe_fld (pv 0) rfl) pa_nil)) (nomark _)))))
  (pss_one ps_never)
  pss_nil)
 (pss_one (ps_ret (pe_ix ix_list (pe_fld (pv 0) rfl) (pv 1) (fun _ _ => rfl))))), ?_⟩
  obtain ⟨dx, hx⟩ := M.o
  obtain ⟨es, hes, hel, hE⟩ := M.hk
  obtain ⟨p, a, v, e1, e2, e3, e4⟩ := hE j r c g hc
  have hj := (List.getElem?_eq_some_iff.mp g).1
  refine ⟨_, rfl, _, _, rfl, rfl, _, rfl, ?_⟩
  refine ite2 (fun c => absurd (of_decide_eq_true c) (by omega)) (fun _ => ?_)
  refine ⟨_, rfl, _, rfl, x, _, dx, _, _, rfl, hx, z.o_Makes, z.nK, rfl, ka, _, rfl, .inl (SqL.of hes), _, _, rfl, rfl, _, rfl, ?_⟩
  refine ite2 (fun c => absurd (of_decide_eq_true c) (by omega)) (fun _ => ?_)
  exact ⟨_, rfl, x, _, dx, _, _, rfl, hx, z.o_Makes, z.nK, rfl, _, rfl, ka, _, _, _, rfl, rfl, SqL.of hes, atI_nat e1, q p a v e2 e3 e4⟩
theorem ok_M_tree (z : Bz K mg cLeastError cBeyond cNoSuch cTooMany cNoText cNoRow cMakes cDesk) (mc_M_found : MCal P w K mg base k_M_found cMakes "found" ["self", "make"] (sp_M_found K cMakes)) : MCal P w K mg base k_M_tree cMakes "tree" ["self", "make"] (sp_M_tree K cMakes) := by
  have sc := sc_M_tree
  refine z.d_M_tree.cal z.o_Makes fun f fd F => F.ok sc (fun vs H Q E h => ?_) (fun cdv A outer s H vs Q E hr h => ?_)
  · obtain ⟨x, ka, b, j, low, L, rs, cs, r, rfl, _⟩ := h
    rfl
  obtain ⟨x, ka, b, j, low, L, rs, cs, r, rfl, M, g, q⟩ := h
  refine ⟨_, (pss_one (ps_ret (pe_ix ix_tup (pe_mth mc_M_found (hr.mono (by decide)) (pv 0) (pa_cons (pv 1) pa_nil)) pe_int (fun _ _ => rfl)))), ?_⟩
  obtain ⟨dx, hx⟩ := M.o
  obtain ⟨c, hc⟩ := M.row g
  exact ⟨_, rfl, x, dx, _, rfl, hx, rfl, _, rfl, x, ka, b, j, low, L, rs, cs, r, c, rfl, M, g, hc, fun p a v e1 e2 _ => ⟨p, _, _, _, rfl, rfl, SqT.of e1, rfl, q v e2⟩⟩
theorem ok_M_stretch (z : Bz K mg cLeastError cBeyond cNoSuch cTooMany cNoText cNoRow cMakes cDesk) (mc_M_tree : MCal P w K mg base k_M_tree cMakes "tree" ["self", "make"] (sp_M_tree K cMakes)) (c_size_of : Cal P w K mg base k_size_of "size_of" ["tree"] (sp_size_of K)) : MCal P w K mg base k_M_stretch cMakes "stretch" ["self", "make", "start", "end"] (sp_M_stretch K cMakes) := by
  have sc := sc_M_stretch
  refine z.d_M_stretch.cal z.o_Makes fun f fd F => F.ok sc (fun vs H Q E h => ?_) (fun cdv A outer s H vs Q E hr h => ?_)
  · obtain ⟨x, ka, b, j, st, en, low, L, rs, cs, r, rfl, _⟩ := h
    rfl
  obtain ⟨x, ka, b, j, st, en, low, L, rs, cs, r, rfl, M, g, h1, h2, q⟩ := h
  refine ⟨_, (pss_cons (ps_set (i := 4) sc.nd rfl (Or.inl rfl) (pe_mth mc_M_tree (hr.mono (by decide)) (pv 0) (pa_cons (pv 1) pa_nil)))
 (pss_cons (ps_if (pt_not (pt_chain3 op_le op_le op_le pe_int (pv 2) (pv 3) (pe_fn c_size_of (hr.mono (by decide)) (by rfl) (pa_cons (pv 4) pa_nil))))
  (pss_one ps_never)
  pss_nil)
 (pss_one (ps_ret (pe_tup (pa_cons (pv 4) (pa_cons (pv 2) (pa_cons (pv 3) pa_nil)))))))), ?_⟩
  obtain ⟨dx, hx⟩ := M.o
  refine ⟨_, rfl, x, dx, _, rfl, hx, rfl, _, rfl, x, ka, b, j, low, L, rs, cs, r, rfl, M, g, fun v hv => ?_⟩
  refine ⟨_, rfl, _, _, rfl, rfl, _, rfl, ?_⟩
  refine ite2 (fun _ => ?_) (fun c => absurd (decide_eq_true (by omega)) c)
  refine ⟨_, rfl, _, _, rfl, rfl, _, rfl, ?_⟩
  refine ite2 (fun _ => ?_) (fun c => absurd (decide_eq_true (by omega)) c)
  refine ⟨_, rfl, v, _, rfl, hv, _, _, rfl, rfl, ?_⟩
  rw [grow_size]
  refine ⟨_, rfl, ?_⟩
  refine iteNS (by omega) ?_
  refine ⟨_, rfl, _, rfl, _, rfl, szb rfl, fun p hp => ?_⟩
  have s1 : Same H (upd H p (.tup [v, .int (st : Int), .int (en : Int)])) := same_new hp _
  exact q p v _ s1 (hv.same s1) upd_same
theorem ok_M_of_row (z : Bz K mg cLeastError cBeyond cNoSuch cTooMany cNoText cNoRow cMakes cDesk) (mc_M_keep : MCal P w K mg base k_M_keep cMakes "keep" ["self", "tree", "sources"] (sp_M_keep K cMakes)) (c_tree_of : Cal P w K mg base k_tree_of "tree_of" ["bounds", "row"] (sp_tree_of K)) : MCal P w K mg base k_M_of_row cMakes "of_row" ["self", "row"] (sp_M_of_row K cMakes) := by
  have sc := sc_M_of_row
  refine z.d_M_of_row.cal z.o_Makes fun f fd F => F.ok sc (fun vs H Q E h => ?_) (fun cdv A outer s H vs Q E hr h => ?_)
  · obtain ⟨x, ka, b, l, low, L, rs, cs, r, rfl, _⟩ := h
    rfl
  obtain ⟨x, ka, b, l, low, L, rs, cs, r, rfl, M, hl, hw, hn, hm, q⟩ := h
  refine ⟨_, (pss_one (ps_ret (pe_mth mc_M_keep (hr.mono (by decide)) (pv 0) (pa_cons (pe_fn c_tree_of (hr.mono (by decide)) (by rfl) (pa_cons (pe_fld (pv 0) rfl) (pa_cons (pv 1) pa_nil))) (pa_cons (pe_tup pa_nil) pa_nil))))), ?_⟩
  obtain ⟨dx, hx⟩ := M.o
  refine ⟨_, rfl, x, dx, _, rfl, hx, rfl, _, rfl, x, _, dx, _, _, rfl, hx, z.o_Makes, z.nB, rfl, _, rfl, b, l, low, L, r, rfl, SqT.of M.hb, M.hL, hl, by omega, hw, fun H1 v s1 hv => ?_⟩
  refine ⟨szb rfl, fun p hp => ?_⟩
  have s2 : Same H1 (upd H1 p (.tup [])) := same_new hp _
  have e2 : upd H1 p (.tup []) p = some (.tup []) := upd_same
  generalize upd H1 p (.tup []) = H2 at *
  have s12 := s1.trans s2
  exact ⟨x, ka, b, p, v, low, L, rs, cs, r, [], rfl, M.same s12, hv.same s2, e2, hw, hn, hm, q.of s12⟩
theorem ok_M_put_in (z : Bz K mg cLeastError cBeyond cNoSuch cTooMany cNoText cNoRow cMakes cDesk) (mc_M_keep : MCal P w K mg base k_M_keep cMakes "keep" ["self", "tree", "sources"] (sp_M_keep K cMakes)) (mc_M_tree : MCal P w K mg base k_M_tree cMakes "tree" ["self", "make"] (sp_M_tree K cMakes)) (c_not_too_many : Cal P w K mg base k_not_too_many "not_too_many" ["tree"] (sp_not_too_many K)) (c_put_in : Cal P w K mg base k_put_in "put_in_changes" ["bounds", "tree", "place", "number"] (sp_put_in K)) : MCal P w K mg base k_M_put_in cMakes "put_in" ["self", "make", "place", "number"] (sp_M_put_in K cMakes) := by
  have sc := sc_M_put_in
  refine z.d_M_put_in.cal z.o_Makes fun f fd F => F.ok sc (fun vs H Q E h => ?_) (fun cdv A outer s H vs Q E hr h => ?_)
  · obtain ⟨x, ka, b, j, pl, low, num, L, rs, cs, r, rfl, _⟩ := h
    rfl
  obtain ⟨x, ka, b, j, pl, low, num, L, rs, cs, r, rfl, M, g, hpl, n0, n1, hl, hn, q⟩ := h
  refine ⟨_, (pss_cons (ps_set (i := 4) sc.nd rfl (Or.inl rfl) (pe_fn c_put_in (hr.mono (by decide)) (by rfl) (pa_cons (pe_fld (pv 0) rfl) (pa_cons (pe_mth mc_M_tree (hr.mono (by decide)) (pv 0) (pa_cons (pv 1) pa_nil)) (pa_cons (pv 2) (pa_cons (pv 3) pa_nil))))))
 (pss_one (ps_ret (pe_mth mc_M_keep (hr.mono (by decide)) (pv 0) (pa_cons (pe_fn c_not_too_many (hr.mono (by decide)) (by rfl) (pa_cons (pv 4) pa_nil)) (pa_cons (pe_tup (pa_cons (pv 1) pa_nil)) pa_nil)))))), ?_⟩
  obtain ⟨dx, hx⟩ := M.o
  obtain ⟨hw, _⟩ := M.sz g
  refine ⟨_, rfl, x, _, dx, _, _, rfl, hx, z.o_Makes, z.nB, rfl, _, rfl, x, dx, _, rfl, hx, rfl, _, rfl, x, ka, b, j, low, L, rs, cs, r, rfl, M, g, fun v hv => ?_⟩
  refine ⟨_, rfl, _, rfl, b, v, pl, low, num, L, r, rfl, SqT.of M.hb, M.hL, hv, hpl, by omega, n0, n1, fun u H1 s1 hu => ?_⟩
  have hil := ins_len r pl num
  refine ⟨_, rfl, x, dx, _, rfl, s1 _ _ hx, rfl, _, rfl, u, _, rfl, hu, by rw [grow_size]; omega, _, rfl, szb rfl, fun p hp => ?_⟩
  have s2 : Same H1 (upd H1 p (.tup [.int (j : Int)])) := same_new hp _
  have e2 : upd H1 p (.tup [.int (j : Int)]) p = some (.tup [.int (j : Int)]) := upd_same
  generalize upd H1 p (.tup [.int (j : Int)]) = H2 at *
  have s12 := s1.trans s2
  exact ⟨x, ka, b, p, u, low, L, rs, cs, _, [(j : Int)], rfl, M.same s12, hu.same s2, e2, ins_wths hw n0 n1, by omega, hn, q.of s12⟩
end
theorem flp_in {low : Int} {e : Nat} {ns : List Int} (h : Wths low e ns) : Wths low e (ns.map (flp low e)) := fun x hx => by
  obtain ⟨n, hn, rfl⟩ := List.mem_map.mp hx
  have := h n hn
  unfold flp
  omega
theorem rev_in {low : Int} {e : Nat} {ns : List Int} (h : Wths low e ns) : Wths low e ns.reverse := fun x hx => h x (List.mem_reverse.mp hx)
theorem seg_in {low : Int} {e : Nat} {ns : List Int} {st en : Nat} (h : Wths low e ns) : Wths low e (segI ns st en) := fun x hx => h x (List.mem_of_mem_take (List.mem_of_mem_drop hx))
theorem app_in {low : Int} {e : Nat} {ns ms : List Int} (h : Wths low e ns) (h' : Wths low e ms) : Wths low e (ns ++ ms) := fun x hx => (List.mem_append.mp hx).elim (h x) (h' x)
theorem set_in {low num : Int} {e pl : Nat} {ns : List Int} (h : Wths low e ns) (h0 : low ≤ num) (h1 : num < low + 2 ^ e) : Wths low e (ns.take pl ++ num :: ns.drop (pl + 1)) := fun x hx => by
  rcases List.mem_append.mp hx with hx | hx
  · exact h x (List.mem_of_mem_take hx)
  rcases List.mem_cons.mp hx with rfl | hx
  · exact ⟨h0, h1⟩
  · exact h x (List.mem_of_mem_drop hx)
theorem set_len {num : Int} {pl : Nat} {ns : List Int} (h : pl < ns.length) : (ns.take pl ++ num :: ns.drop (pl + 1)).length = ns.length := by
  rw [List.length_append, List.length_cons, List.length_take, List.length_drop]
  omega
section
variable {P : Program} {w : World} {K : PySem.W.Frag} {mg : Str → Option Value} {base : Heap}
theorem ok_M_taken_out (z : Bz K mg cLeastError cBeyond cNoSuch cTooMany cNoText cNoRow cMakes cDesk) (mc_M_keep : MCal P w K mg base k_M_keep cMakes "keep" ["self", "tree", "sources"] (sp_M_keep K cMakes)) (mc_M_tree : MCal P w K mg base k_M_tree cMakes "tree" ["self", "make"] (sp_M_tree K cMakes)) (c_taken_out : Cal P w K mg base k_taken_out "taken_out_changes" ["bounds", "tree", "place"] (sp_taken_out K)) : MCal P w K mg base k_M_taken_out cMakes "taken_out" ["self", "make", "place"] (sp_M_taken_out K cMakes) := by
  have sc := sc_M_taken_out
  refine z.d_M_taken_out.cal z.o_Makes fun f fd F => F.ok sc (fun vs H Q E h => ?_) (fun cdv A outer s H vs Q E hr h => ?_)
  · obtain ⟨x, ka, b, j, pl, low, n, L, rs, cs, r, rfl, _⟩ := h
    rfl
  obtain ⟨x, ka, b, j, pl, low, n, L, rs, cs, r, rfl, M, g, gn, hn, q⟩ := h
  refine ⟨_, (pss_cons (ps_set (i := 3) sc.nd rfl (Or.inl rfl) (pe_fn c_taken_out (hr.mono (by decide)) (by rfl) (pa_cons (pe_fld (pv 0) rfl) (pa_cons (pe_mth mc_M_tree (hr.mono (by decide)) (pv 0) (pa_cons (pv 1) pa_nil)) (pa_cons (pv 2) pa_nil)))))
 (pss_one (ps_ret (pe_mth mc_M_keep (hr.mono (by decide)) (pv 0) (pa_cons (pe_ix ix_tup (pv 3) pe_int (fun _ _ => rfl)) (pa_cons (pe_tup (pa_cons (pv 1) pa_nil)) pa_nil)))))), ?_⟩
  obtain ⟨dx, hx⟩ := M.o
  obtain ⟨hw, hl⟩ := M.sz g
  have hpl := (List.getElem?_eq_some_iff.mp gn).1
  refine ⟨_, rfl, x, _, dx, _, _, rfl, hx, z.o_Makes, z.nB, rfl, _, rfl, x, dx, _, rfl, hx, rfl, _, rfl, x, ka, b, j, low, L, rs, cs, r, rfl, M, g, fun v hv => ?_⟩
  refine ⟨_, rfl, b, v, pl, low, n, L, r, rfl, SqT.of M.hb, M.hL, hv, hw, gn, by omega, fun p1 u H1 s1 e1 hu => ?_⟩
  have hdl := del_len hpl
  refine ⟨_, rfl, x, dx, _, rfl, s1 _ _ hx, rfl, _, rfl, p1, _, _, _, rfl, rfl, SqT.of e1, rfl, _, rfl, szb rfl, fun p hp => ?_⟩
  have s2 : Same H1 (upd H1 p (.tup [.int (j : Int)])) := same_new hp _
  have e2 : upd H1 p (.tup [.int (j : Int)]) p = some (.tup [.int (j : Int)]) := upd_same
  generalize upd H1 p (.tup [.int (j : Int)]) = H2 at *
  have s12 := s1.trans s2
  exact ⟨x, ka, b, p, u, low, L, rs, cs, _, [(j : Int)], rfl, M.same s12, hu.same s2, e2, del_wths hw, by omega, hn, q.of s12⟩
theorem ok_M_set_at (z : Bz K mg cLeastError cBeyond cNoSuch cTooMany cNoText cNoRow cMakes cDesk) (mc_M_keep : MCal P w K mg base k_M_keep cMakes "keep" ["self", "tree", "sources"] (sp_M_keep K cMakes)) (mc_M_tree : MCal P w K mg base k_M_tree cMakes "tree" ["self", "make"] (sp_M_tree K cMakes)) (c_set_at : Cal P w K mg base k_set_at "set_at_changes" ["bounds", "tree", "place", "number"] (sp_set_at K)) : MCal P w K mg base k_M_set_at cMakes "set_at" ["self", "make", "place", "number"] (sp_M_set_at K cMakes) := by
  have sc := sc_M_set_at
  refine z.d_M_set_at.cal z.o_Makes fun f fd F => F.ok sc (fun vs H Q E h => ?_) (fun cdv A outer s H vs Q E hr h => ?_)
  · obtain ⟨x, ka, b, j, pl, low, n, num, L, rs, cs, r, rfl, _⟩ := h
    rfl
  obtain ⟨x, ka, b, j, pl, low, n, num, L, rs, cs, r, rfl, M, g, gn, n0, n1, hn, q⟩ := h
  refine ⟨_, (pss_one (ps_ret (pe_mth mc_M_keep (hr.mono (by decide)) (pv 0) (pa_cons (pe_fn c_set_at (hr.mono (by decide)) (by rfl) (pa_cons (pe_fld (pv 0) rfl) (pa_cons (pe_mth mc_M_tree (hr.mono (by decide)) (pv 0) (pa_cons (pv 1) pa_nil)) (pa_cons (pv 2) (pa_cons (pv 3) pa_nil))))) (pa_cons (pe_tup (pa_cons (pv 1) pa_nil)) pa_nil))))), ?_⟩
  obtain ⟨dx, hx⟩ := M.o
  obtain ⟨hw, hl⟩ := M.sz g
  have hpl := (List.getElem?_eq_some_iff.mp gn).1
  refine ⟨_, rfl, x, dx, _, rfl, hx, rfl, _, rfl, x, _, dx, _, _, rfl, hx, z.o_Makes, z.nB, rfl, _, rfl, x, dx, _, rfl, hx, rfl, _, rfl, x, ka, b, j, low, L, rs, cs, r, rfl, M, g, fun v hv => ?_⟩
  refine ⟨_, rfl, _, rfl, b, v, pl, low, n, num, L, r, rfl, SqT.of M.hb, M.hL, hv, hw, gn, by omega, n0, n1, fun u H1 s1 hu => ?_⟩
  have hsl := set_len (num := num) hpl
  refine ⟨_, rfl, szb rfl, fun p hp => ?_⟩
  have s2 : Same H1 (upd H1 p (.tup [.int (j : Int)])) := same_new hp _
  have e2 : upd H1 p (.tup [.int (j : Int)]) p = some (.tup [.int (j : Int)]) := upd_same
  generalize upd H1 p (.tup [.int (j : Int)]) = H2 at *
  have s12 := s1.trans s2
  exact ⟨x, ka, b, p, u, low, L, rs, cs, _, [(j : Int)], rfl, M.same s12, hu.same s2, e2, set_in hw n0 n1, by omega, hn, q.of s12⟩
theorem ok_M_cut_out (z : Bz K mg cLeastError cBeyond cNoSuch cTooMany cNoText cNoRow cMakes cDesk) (mc_M_keep : MCal P w K mg base k_M_keep cMakes "keep" ["self", "tree", "sources"] (sp_M_keep K cMakes)) (mc_M_stretch : MCal P w K mg base k_M_stretch cMakes "stretch" ["self", "make", "start", "end"] (sp_M_stretch K cMakes)) (c_cut_out : Cal P w K mg base k_cut_out "cut_out_joins" ["stretch"] (sp_cut_out K)) : MCal P w K mg base k_M_cut_out cMakes "cut_out" ["self", "make", "start", "end"] (sp_M_cut_out K cMakes) := by
  have sc := sc_M_cut_out
  refine z.d_M_cut_out.cal z.o_Makes fun f fd F => F.ok sc (fun vs H Q E h => ?_) (fun cdv A outer s H vs Q E hr h => ?_)
  · obtain ⟨x, ka, b, j, st, en, low, L, rs, cs, r, rfl, _⟩ := h
    rfl
  obtain ⟨x, ka, b, j, st, en, low, L, rs, cs, r, rfl, M, g, h1, h2, hn, q⟩ := h
  refine ⟨_, (pss_one (ps_ret (pe_mth mc_M_keep (hr.mono (by decide)) (pv 0) (pa_cons (pe_fn c_cut_out (hr.mono (by decide)) (by rfl) (pa_cons (pe_mth mc_M_stretch (hr.mono (by decide)) (pv 0) (pa_cons (pv 1) (pa_cons (pv 2) (pa_cons (pv 3) pa_nil)))) pa_nil)) (pa_cons (pe_tup (pa_cons (pv 1) pa_nil)) pa_nil))))), ?_⟩
  obtain ⟨dx, hx⟩ := M.o
  obtain ⟨hw, hl⟩ := M.sz g
  refine ⟨_, rfl, x, dx, _, rfl, hx, rfl, _, rfl, x, dx, _, rfl, hx, rfl, _, rfl, _, rfl, _, rfl, x, ka, b, j, st, en, low, L, rs, cs, r, rfl, M, g, h1, h2, fun p1 v H1 s1 hv e1 => ?_⟩
  refine ⟨L, M.hL, p1, v, st, en, low, r, rfl, SqT.of e1, hv, h1, h2, by omega, fun u H2 s2 hu => ?_⟩
  have hsl := seg_len (st := st) h2
  refine ⟨_, rfl, szb rfl, fun p hp => ?_⟩
  have s3 : Same H2 (upd H2 p (.tup [.int (j : Int)])) := same_new hp _
  have e3 : upd H2 p (.tup [.int (j : Int)]) p = some (.tup [.int (j : Int)]) := upd_same
  generalize upd H2 p (.tup [.int (j : Int)]) = H3 at *
  have s13 := s1.trans (s2.trans s3)
  exact ⟨x, ka, b, p, u, low, L, rs, cs, _, [(j : Int)], rfl, M.same s13, hu.same s3, e3, seg_in hw, by omega, hn, q.of s13⟩
theorem ok_M_joined (z : Bz K mg cLeastError cBeyond cNoSuch cTooMany cNoText cNoRow cMakes cDesk) (mc_M_keep : MCal P w K mg base k_M_keep cMakes "keep" ["self", "tree", "sources"] (sp_M_keep K cMakes)) (mc_M_tree : MCal P w K mg base k_M_tree cMakes "tree" ["self", "make"] (sp_M_tree K cMakes)) (c_joined : Cal P w K mg base k_joined "joined_joins" ["one", "other"] (sp_joined K)) (c_not_too_many : Cal P w K mg base k_not_too_many "not_too_many" ["tree"] (sp_not_too_many K)) : MCal P w K mg base k_M_joined cMakes "joined" ["self", "one", "other"] (sp_M_joined K cMakes) := by
  have sc := sc_M_joined
  refine z.d_M_joined.cal z.o_Makes fun f fd F => F.ok sc (fun vs H Q E h => ?_) (fun cdv A outer s H vs Q E hr h => ?_)
  · obtain ⟨x, ka, b, i, j, low, L, rs, cs, r, t, rfl, _⟩ := h
    rfl
  obtain ⟨x, ka, b, i, j, low, L, rs, cs, r, t, rfl, M, g, g', hrt, hn, q⟩ := h
  refine ⟨_, (pss_cons (ps_set (i := 3) sc.nd rfl (Or.inl rfl) (pe_fn c_joined (hr.mono (by decide)) (by rfl) (pa_cons (pe_mth mc_M_tree (hr.mono (by decide)) (pv 0) (pa_cons (pv 1) pa_nil)) (pa_cons (pe_mth mc_M_tree (hr.mono (by decide)) (pv 0) (pa_cons (pv 2) pa_nil)) pa_nil))))
 (pss_one (ps_ret (pe_mth mc_M_keep (hr.mono (by decide)) (pv 0) (pa_cons (pe_fn c_not_too_many (hr.mono (by decide)) (by rfl) (pa_cons (pv 3) pa_nil)) (pa_cons (pe_tup (pa_cons (pv 1) (pa_cons (pv 2) pa_nil))) pa_nil)))))), ?_⟩
  obtain ⟨dx, hx⟩ := M.o
  obtain ⟨hw, hl⟩ := M.sz g
  obtain ⟨hw', hl'⟩ := M.sz g'
  refine ⟨_, rfl, x, dx, _, rfl, hx, rfl, _, rfl, x, ka, b, i, low, L, rs, cs, r, rfl, M, g, fun v hv => ?_⟩
  refine ⟨_, rfl, x, dx, _, rfl, hx, rfl, _, rfl, x, ka, b, j, low, L, rs, cs, t, rfl, M, g', fun v' hv' => ?_⟩
  refine ⟨L, M.hL, v, v', low, r, t, rfl, hv, hv', by omega, by omega, fun u H1 s1 hu => ?_⟩
  have hal : (r ++ t).length = r.length + t.length := List.length_append
  refine ⟨_, rfl, x, dx, _, rfl, s1 _ _ hx, rfl, _, rfl, u, _, rfl, hu, by rw [grow_size]; omega, _, rfl, _, rfl, szb rfl, fun p hp => ?_⟩
  have s2 : Same H1 (upd H1 p (.tup [.int (i : Int), .int (j : Int)])) := same_new hp _
  have e2 : upd H1 p (.tup [.int (i : Int), .int (j : Int)]) p = some (.tup [.int (i : Int), .int (j : Int)]) := upd_same
  generalize upd H1 p (.tup [.int (i : Int), .int (j : Int)]) = H2 at *
  have s12 := s1.trans s2
  exact ⟨x, ka, b, p, u, low, L, rs, cs, _, [(i : Int), (j : Int)], rfl, M.same s12, hu.same s2, e2, app_in hw hw', by omega, hn, q.of s12⟩
theorem ok_M_turned (z : Bz K mg cLeastError cBeyond cNoSuch cTooMany cNoText cNoRow cMakes cDesk) (mc_M_keep : MCal P w K mg base k_M_keep cMakes "keep" ["self", "tree", "sources"] (sp_M_keep K cMakes)) (mc_M_tree : MCal P w K mg base k_M_tree cMakes "tree" ["self", "make"] (sp_M_tree K cMakes)) (c_turned : Cal P w K mg base k_turned "turned_joins" ["tree"] (sp_turned K)) : MCal P w K mg base k_M_turned cMakes "turned" ["self", "make"] (sp_M_turned K cMakes) := by
  have sc := sc_M_turned
  refine z.d_M_turned.cal z.o_Makes fun f fd F => F.ok sc (fun vs H Q E h => ?_) (fun cdv A outer s H vs Q E hr h => ?_)
  · obtain ⟨x, ka, b, j, low, L, rs, cs, r, rfl, _⟩ := h
    rfl
  obtain ⟨x, ka, b, j, low, L, rs, cs, r, rfl, M, g, hn, q⟩ := h
  refine ⟨_, (pss_one (ps_ret (pe_mth mc_M_keep (hr.mono (by decide)) (pv 0) (pa_cons (pe_fn c_turned (hr.mono (by decide)) (by rfl) (pa_cons (pe_mth mc_M_tree (hr.mono (by decide)) (pv 0) (pa_cons (pv 1) pa_nil)) pa_nil)) (pa_cons (pe_tup (pa_cons (pv 1) pa_nil)) pa_nil))))), ?_⟩
  obtain ⟨dx, hx⟩ := M.o
  obtain ⟨hw, hl⟩ := M.sz g
  refine ⟨_, rfl, x, dx, _, rfl, hx, rfl, _, rfl, x, dx, _, rfl, hx, rfl, _, rfl, x, ka, b, j, low, L, rs, cs, r, rfl, M, g, fun v hv => ?_⟩
  refine ⟨L, M.hL, v, low, r, rfl, hv, by omega, fun u H1 s1 hu => ?_⟩
  refine ⟨_, rfl, szb rfl, fun p hp => ?_⟩
  have s2 : Same H1 (upd H1 p (.tup [.int (j : Int)])) := same_new hp _
  have e2 : upd H1 p (.tup [.int (j : Int)]) p = some (.tup [.int (j : Int)]) := upd_same
  generalize upd H1 p (.tup [.int (j : Int)]) = H2 at *
  have s12 := s1.trans s2
  exact ⟨x, ka, b, p, u, low, L, rs, cs, _, [(j : Int)], rfl, M.same s12, hu.same s2, e2, rev_in hw, by rw [List.length_reverse]; omega, hn, q.of s12⟩
theorem ok_M_flipped (z : Bz K mg cLeastError cBeyond cNoSuch cTooMany cNoText cNoRow cMakes cDesk) (mc_M_keep : MCal P w K mg base k_M_keep cMakes "keep" ["self", "tree", "sources"] (sp_M_keep K cMakes)) (mc_M_tree : MCal P w K mg base k_M_tree cMakes "tree" ["self", "make"] (sp_M_tree K cMakes)) (c_flipped : Cal P w K mg base k_flipped "flipped_joins" ["tree"] (sp_flipped K)) : MCal P w K mg base k_M_flipped cMakes "flipped" ["self", "make"] (sp_M_flipped K cMakes) := by
  have sc := sc_M_flipped
  refine z.d_M_flipped.cal z.o_Makes fun f fd F => F.ok sc (fun vs H Q E h => ?_) (fun cdv A outer s H vs Q E hr h => ?_)
  · obtain ⟨x, ka, b, j, low, L, rs, cs, r, rfl, _⟩ := h
    rfl
  obtain ⟨x, ka, b, j, low, L, rs, cs, r, rfl, M, g, hn, q⟩ := h
  refine ⟨_, (pss_one (ps_ret (pe_mth mc_M_keep (hr.mono (by decide)) (pv 0) (pa_cons (pe_fn c_flipped (hr.mono (by decide)) (by rfl) (pa_cons (pe_mth mc_M_tree (hr.mono (by decide)) (pv 0) (pa_cons (pv 1) pa_nil)) pa_nil)) (pa_cons (pe_tup (pa_cons (pv 1) pa_nil)) pa_nil))))), ?_⟩
  obtain ⟨dx, hx⟩ := M.o
  obtain ⟨hw, hl⟩ := M.sz g
  refine ⟨_, rfl, x, dx, _, rfl, hx, rfl, _, rfl, x, dx, _, rfl, hx, rfl, _, rfl, x, ka, b, j, low, L, rs, cs, r, rfl, M, g, fun v hv => ?_⟩
  refine ⟨L, M.hL, v, low, r, rfl, hv, by omega, fun u H1 s1 hu => ?_⟩
  refine ⟨_, rfl, szb rfl, fun p hp => ?_⟩
  have s2 : Same H1 (upd H1 p (.tup [.int (j : Int)])) := same_new hp _
  have e2 : upd H1 p (.tup [.int (j : Int)]) p = some (.tup [.int (j : Int)]) := upd_same
  generalize upd H1 p (.tup [.int (j : Int)]) = H2 at *
  have s12 := s1.trans s2
  exact ⟨x, ka, b, p, u, low, L, rs, cs, _, [(j : Int)], rfl, M.same s12, hu.same s2, e2, flp_in hw, by rw [List.length_map]; omega, hn, q.of s12⟩
theorem ok_M_row (z : Bz K mg cLeastError cBeyond cNoSuch cTooMany cNoText cNoRow cMakes cDesk) (mc_M_tree : MCal P w K mg base k_M_tree cMakes "tree" ["self", "make"] (sp_M_tree K cMakes)) (c_row_of : Cal P w K mg base k_row_of "row_of" ["bounds", "tree"] (sp_row_of K)) : MCal P w K mg base k_M_row cMakes "row" ["self", "make"] (sp_M_row K cMakes) := by
  have sc := sc_M_row
  refine z.d_M_row.cal z.o_Makes fun f fd F => F.ok sc (fun vs H Q E h => ?_) (fun cdv A outer s H vs Q E hr h => ?_)
  · obtain ⟨x, ka, b, j, low, L, rs, cs, r, rfl, _⟩ := h
    rfl
  obtain ⟨x, ka, b, j, low, L, rs, cs, r, rfl, M, g, q⟩ := h
  refine ⟨_, (pss_one (ps_ret (pe_fn c_row_of (hr.mono (by decide)) (by rfl) (pa_cons (pe_fld (pv 0) rfl) (pa_cons (pe_mth mc_M_tree (hr.mono (by decide)) (pv 0) (pa_cons (pv 1) pa_nil)) pa_nil))))), ?_⟩
  obtain ⟨dx, hx⟩ := M.o
  obtain ⟨hw, hl⟩ := M.sz g
  refine ⟨_, rfl, x, _, dx, _, _, rfl, hx, z.o_Makes, z.nB, rfl, _, rfl, x, dx, _, rfl, hx, rfl, _, rfl, x, ka, b, j, low, L, rs, cs, r, rfl, M, g, fun v hv => ?_⟩
  exact ⟨b, v, low, L, r, rfl, SqT.of M.hb, M.hL, hv, by omega, hw, q⟩
end
/-! ### numbers and rows, written and read -/
theorem lg60 {n : Int} (h0 : -(10 ^ 60) < n) (h1 : n < 10 ^ 60) : n.natAbs.log2 < 1920 := by
  by_cases h : n.natAbs = 0
  · rw [h]; decide
  · have h2 : n.natAbs < 2 ^ 200 := Nat.lt_of_lt_of_le (show n.natAbs < 10 ^ 60 by omega) (by decide)
    have : n.natAbs.log2 < 200 := (Nat.log2_lt h).mpr h2
    omega
theorem tx_len {n : Int} (h0 : -(10 ^ 50) < n) (h1 : n < 10 ^ 50) : (tx n).length ≤ 51 := (rd_int (x := tx n) (rd_fg h0 h1)).2
theorem sl51 {n : Nat} (h : n ≤ 100000) : n ≤ sizeLine := Nat.le_trans h (by decide)
def BdN (ns : List Int) : Prop := ∀ n ∈ ns, -(10 ^ 50) < n ∧ n < 10 ^ 50
theorem join_ok {ns : List Int} (h : BdN ns) (hl : ns.length ≤ 1000) : JoinOk " " (ns.map tx) = true := by
  refine PyProof.Rows.joinOk_of_weight ?_ (by decide)
  have := StrLaws.sumLen_le (B := 51) (ns.map tx) (fun y hy => by
    obtain ⟨n, hn, rfl⟩ := List.mem_map.mp hy
    exact tx_len (h n hn).1 (h n hn).2)
  rw [List.length_map] at this ⊢
  omega
def gTx : V → V
  | .int n => .str (tx n)
  | v => v
theorem gTx_map (ns : List Int) : (ns.map V.int).map gTx = (ns.map tx).map V.str := by
  rw [List.map_map, List.map_map]
  rfl
theorem starts_eq {x : Str} {c : Nat} {r : List Nat} (h : x.cps.toList = c :: r) : Txt.startswith x "-" = decide (c = 45) := by
  have hx : x.length = x.cps.toList.length := by simp [Str.length]
  show (decide (0 + ("-" : Str).length ≤ x.length) && Builtin.Str.subAt x "-" 0) = _
  rw [StrLaws.subAt_eq, h, hx, h, show ("-" : Str).cps.toList = [45] by decide +kernel, show ("-" : Str).length = 1 by decide +kernel]
  have e1 : decide (0 + 1 ≤ (c :: r).length) = true := decide_eq_true (by rw [List.length_cons]; omega)
  rw [e1, Bool.true_and]
  show ([c] == [45]) = _
  by_cases z : c = 45
  · subst z; rfl
  · rw [decide_eq_false z]
    exact beq_eq_false_iff_ne.mpr fun y => z (List.cons.inj y).1
theorem starts45 {x : Str} {r : List Nat} (h : x.cps.toList = 45 :: r) : Txt.startswith x "-" = true := by
  rw [starts_eq h]
  rfl
theorem starts_not {x : Str} {c : Nat} {r : List Nat} (h : x.cps.toList = c :: r) (hc : c ≠ 45) : Txt.startswith x "-" = false := by
  rw [starts_eq h, decide_eq_false hc]
theorem slice1 {x : Str} {c : Nat} {r : List Nat} (h : x.cps.toList = c :: r) : Txt.slice x (some 1) none = mkS r := by
  have e := StrLaws.sliceText_from (x := x) (i := 1) (by rw [h, List.length_cons]; omega)
  refine Eq.trans (show Txt.slice x (some 1) none = _ from e) ?_
  rw [h]
  show (⟨((r).take (((c :: r).length : Int) - 1).toNat).toArray⟩ : Str) = mkS r
  rw [List.take_of_length_le (by rw [List.length_cons]; omega)]
  rfl
abbrev k_show_number : Nat := 1
def sp_show_number (_ : PySem.W.Frag) : Sp := fun vs H Q _ => ∃ n : Int, vs = [.int n] ∧ -(10 ^ 60) < n ∧ n < 10 ^ 60 ∧ Q (.str (tx n)) H
abbrev k_show_row : Nat := 2
def sp_show_row (K : PySem.W.Frag) : Sp := fun vs H Q _ => ∃ (r : Addr) (ns : List Int), vs = [.ref r] ∧ SqL K H r (ns.map V.int) ∧ BdN ns ∧ ns.length ≤ 1000 ∧ ∀ H', Same H H' → Q (.str (rowT ns)) H'
abbrev k_are_figures : Nat := 1
def sp_are_figures (_ : PySem.W.Frag) : Sp := fun vs H Q _ => ∃ x : Str, vs = [.str x] ∧ x.length ≤ 100000 ∧ ∀ H', Same H H' → Q (.bl (figB x.cps.toList)) H'
abbrev k_read_number : Nat := 2
def sp_read_number (_ : PySem.W.Frag) : Sp := fun vs H Q _ => ∃ (x : Str) (n : Int), vs = [.str x] ∧ rdN x.cps.toList = some n ∧ ∀ H', Same H H' → Q (.int n) H'
section
variable {P : Program} {w : World} {K : PySem.W.Frag} {mg : Str → Option Value} {base : Heap}
theorem ok_show_number (d : Def K mg "show_number" s_show_number ["number"]) (z : Bz K mg cLeastError cBeyond cNoSuch cTooMany cNoText cNoRow cMakes cDesk)  : Cal P w K mg base k_show_number "show_number" ["number"] (sp_show_number K) := by
  have sc := sc_show_number
  refine d.cal fun f fd F => F.ok sc (fun vs H Q E h => ?_) (fun cdv A outer s H vs Q E hr h => ?_)
  · obtain ⟨n, rfl, _⟩ := h
    rfl
  obtain ⟨n, rfl, h0, h1, q⟩ := h
  refine ⟨_, (pss_one (ps_ret (pe_callTy call_str_int (by rfl) z.str_ bt_str (pa_cons (pv 0) pa_nil)))), ?_⟩
  exact ⟨_, rfl, n, rfl, lg60 h0 h1, q⟩
theorem ok_show_row (d : Def K mg "show_row" s_show_row ["row"]) (z : Bz K mg cLeastError cBeyond cNoSuch cTooMany cNoText cNoRow cMakes cDesk) (c_show_number : Cal P w K mg base k_show_number "show_number" ["number"] (sp_show_number K)) : Cal P w K mg base k_show_row "show_row" ["row"] (sp_show_row K) := by
  have sc := sc_show_row
  refine d.cal fun f fd F => F.ok sc (fun vs H Q E h => ?_) (fun cdv A outer s H vs Q E hr h => ?_)
  · obtain ⟨r, ns, rfl, _⟩ := h
    rfl
  obtain ⟨r, ns, rfl, hS, hb, hl, q⟩ := h
  refine ⟨_, (pss_one (ps_ret (pe_bm PySem.F.plainAttrs_str PySem.F.slot_str_join PySem.F.type_str_join mt_join pe_str (pa_cons (pe_comp (cl := []) (cn := []) (N := []) (fr := []) (sc0 := defScope s_show_row) rfl (pi_list (pv 0)) (fun C s₂ H₂ fp => (pe_fn c_show_number (hr.mono (by decide)) (by rfl) (pa_cons (pv 0) pa_nil))) (by with_unfolding_all rfl) trivial rfl rfl rfl ⟨by decide +kernel, by decide +kernel, by decide +kernel, by decide +kernel, by decide +kernel, by decide +kernel, by decide +kernel⟩ rfl) pa_nil)))), ?_⟩
  refine ⟨rfl, _, rfl, r, rfl, ⟨_, hS⟩, fun D hD => comp_listM (K := K) (xs := ns.map V.int) (g := gTx) hS hD (by rw [List.length_map]; exact sl51 (by omega)) ?_ ?_⟩
  · rintro x hx H1 Q1 s1 q1
    obtain ⟨n, hn, rfl⟩ := List.mem_map.mp hx
    have := hb n hn
    exact ⟨_, rfl, n, rfl, by omega, by omega, q1⟩
  · rw [gTx_map]
    exact ⟨" ", D, ns.map tx, rfl, rfl, SqL.of upd_same, join_ok hb hl, q _ (same_new hD _)⟩
theorem ok_are_figures (d : Def K mg "are_figures" s_are_figures ["text"]) (z : Bz K mg cLeastError cBeyond cNoSuch cTooMany cNoText cNoRow cMakes cDesk)  : Cal P w K mg base k_are_figures "are_figures" ["text"] (sp_are_figures K) := by
  have sc := sc_are_figures
  refine d.cal fun f fd F => F.ok sc (fun vs H Q E h => ?_) (fun cdv A outer s H vs Q E hr h => ?_)
  · obtain ⟨x, rfl, _⟩ := h
    rfl
  obtain ⟨x, rfl, hl, q⟩ := h
  obtain ⟨_, ft, hft, rfl⟩ := z.fig
  refine ⟨_, (pss_cons (ps_if (PW.pt (pw_or (pt_not (pt_chain op_le op_le pe_int (pe_callB call_len_str (by rfl) z.len_ bt_len (pa_cons (pv 0) pa_nil)) pe_int)) (pw_or1 (PW.pt (pw_and (pt_cmpR op_eq (pe_ix ix_str (pv 0) pe_int (fun _ _ => rfl)) pe_str (nomark _)) (pw_and1 (pt_cmpR op_ne (pv 0) pe_str (nomark _))))))))
  (pss_one (ps_ret pe_bl))
  pss_nil)
 (pss_one (ps_ret (pe_callB (call_all rfl) (by rfl) z.all_ bt_all (pa_cons (pe_comp (cl := []) (cn := []) (N := []) (fr := []) (sc0 := defScope s_are_figures) rfl (pi_str (pv 0)) (fun C s₂ H₂ fp => (pe_cmpR op_in_str (pv 0) (pe_glob (v := .str "0123456789") (u := .str "0123456789" ft) (by rfl) hft ⟨_, rfl⟩) rfl)) (by with_unfolding_all rfl) trivial rfl rfl rfl ⟨by decide +kernel, by decide +kernel, by decide +kernel, by decide +kernel, by decide +kernel, by decide +kernel, by decide +kernel⟩ rfl) pa_nil))))), ?_⟩
  have hz : x.length ≤ sizeLine := sl51 hl
  have hx : x.length = x.cps.toList.length := by simp [Str.length]
  have fin : (1 ≤ x.cps.toList.length ∧ x.cps.toList.length ≤ 50) → (!(decide (x.cps.toList.head? = some 48) && !decide (x.cps.toList = [48]))) = true → ∀ D, H D = none → Q (.bl (((x.cps.toList.map isD).all id))) (upd H D (.lst (x.cps.toList.map fun c => V.bl (isD c)))) := fun h1 h2 D hD => by
    have e : figB x.cps.toList = (x.cps.toList.map isD).all id := by
      unfold figB
      rw [decide_eq_true h1.1, decide_eq_true h1.2, h2, List.all_map]
      rfl
    rw [← e]
    exact q _ (same_new hD _)
  have no : ∀ b : Bool, figB x.cps.toList = b → Q (.bl b) H := fun b e => by rw [← e]; exact q H (Same.refl H)
  refine ⟨_, rfl, x, rfl, hz, _, _, rfl, rfl, _, rfl, ?_⟩
  rw [hx]
  by_cases c1 : 1 ≤ x.cps.toList.length
  · rw [decide_eq_true (show (1 : Int) ≤ (x.cps.toList.length : Int) by omega)]
    refine iteT ⟨_, _, rfl, rfl, _, rfl, ?_⟩
    by_cases c2 : x.cps.toList.length ≤ 50
    · rw [decide_eq_true (show (x.cps.toList.length : Int) ≤ 50 by omega)]
      refine iteF ?_
      cases e : x.cps.toList with
      | nil => rw [e] at c1; exact absurd c1 (by decide)
      | cons c r =>
        refine ⟨_, rfl, x, 0, c, rfl, rfl, hz, by rw [e]; exact atI_nat (j := 0) rfl, rfl, _, rfl, ?_⟩
        by_cases c3 : c = 48
        · subst c3
          rw [decide_eq_true (show V.str ⟨#[48]⟩ = V.str "0" from congrArg V.str (by decide +kernel))]
          refine iteT ⟨_, rfl, rfl, _, rfl, ?_⟩
          by_cases c4 : r = []
          · subst c4
            rw [decide_eq_true (show V.str x = V.str "0" from congrArg V.str (str_eq (by rw [e]; decide +kernel)))]
            refine iteF ?_
            exact ⟨_, rfl, x, rfl, fun D hD => comp_str (x := x) (g := fun c => V.bl (isD c)) hD hz (fun c hc H1 Q1 s1 q1 => ⟨_, rfl, ⟨#[c]⟩, "0123456789", rfl, rfl, by rw [StrLaws.found_one]; exact q1⟩)
      ⟨D, x.cps.toList.map isD, rfl, SqL.of (by rw [List.map_map]; exact upd_same), fin ⟨c1, c2⟩ (by rw [e]; decide) D hD⟩⟩
          · rw [decide_eq_false (show ¬ V.str x = V.str "0" from fun z => c4 (by
              have z1 : x.cps.toList = [48] := by rw [V.str.inj z]; decide +kernel
              rw [e] at z1
              exact (List.cons.inj z1).2))]
            refine iteT ?_
            refine no _ ?_
            unfold figB
            rw [e, decide_eq_false (show ¬ 48 :: r = [48] from fun z => c4 (List.cons.inj z).2)]
            simp
        · rw [decide_eq_false (show ¬ V.str ⟨#[c]⟩ = V.str "0" from fun z => c3 (by
            have z1 : [c] = [48] := by
              have z2 := congrArg (fun y : Str => y.cps.toList) (V.str.inj z)
              rw [show ("0" : Str).cps.toList = [48] by decide +kernel] at z2
              exact z2
            exact (List.cons.inj z1).1))]
          refine iteF ?_
          refine iteF ?_
          exact ⟨_, rfl, x, rfl, fun D hD => comp_str (x := x) (g := fun c => V.bl (isD c)) hD hz (fun c hc H1 Q1 s1 q1 => ⟨_, rfl, ⟨#[c]⟩, "0123456789", rfl, rfl, by rw [StrLaws.found_one]; exact q1⟩)
      ⟨D, x.cps.toList.map isD, rfl, SqL.of (by rw [List.map_map]; exact upd_same), fin ⟨c1, c2⟩ (by rw [e, decide_eq_false (show ¬ (c :: r).head? = some 48 from fun z => c3 (Option.some.inj z))]; rfl) D hD⟩⟩
    · rw [decide_eq_false (show ¬ (x.cps.toList.length : Int) ≤ 50 by omega)]
      refine iteT ?_
      refine no _ ?_
      unfold figB
      rw [decide_eq_false c2]
      simp
  · rw [decide_eq_false (show ¬ (1 : Int) ≤ (x.cps.toList.length : Int) by omega)]
    refine iteF ⟨_, rfl, ?_⟩
    refine iteT ?_
    refine no _ ?_
    unfold figB
    rw [decide_eq_false c1]
    rfl
theorem ok_read_number (d : Def K mg "read_number" s_read_number ["text"]) (z : Bz K mg cLeastError cBeyond cNoSuch cTooMany cNoText cNoRow cMakes cDesk) (c_are_figures : Cal P w K mg base k_are_figures "are_figures" ["text"] (sp_are_figures K)) : Cal P w K mg base k_read_number "read_number" ["text"] (sp_read_number K) := by
  have sc := sc_read_number
  refine d.cal fun f fd F => F.ok sc (fun vs H Q E h => ?_) (fun cdv A outer s H vs Q E hr h => ?_)
  · obtain ⟨x, n, rfl, _⟩ := h
    rfl
  obtain ⟨x, n, rfl, hn, q⟩ := h
  refine ⟨_, (pss_cons (ps_if (pt_not (pt_val (pe_callB call_isi (by rfl) z.isinstance_ bt_isinstance (pa_cons (pv 0) (pa_cons (pe_bltn (v := .ty "str") (u := .type "str") (by rfl) z.str_ bt_str rfl) pa_nil)))))
  (pss_one ps_never)
  pss_nil)
 (pss_cons (ps_set (i := 1) sc.nd rfl (Or.inl rfl) (pe_ifExp (pt_val (pe_bm PySem.F.plainAttrs_str PySem.F.slot_str_startswith PySem.F.type_str_startswith mt_starts (pv 0) (pa_cons pe_str pa_nil))) (pe_slice sl_str (pv 0) (po_some pe_int) po_none) (pv 0)))
 (pss_cons (ps_if (PW.pt (pw_or (pt_cmpR op_eq (pv 0) pe_str (nomark _)) (pw_or1 (pt_not (pt_val (pe_fn c_are_figures (hr.mono (by decide)) (by rfl) (pa_cons (pv 1) pa_nil)))))))
  (pss_one ps_never)
  pss_nil)
 (pss_one (ps_ret (pe_callTy call_intT (by rfl) z.int_ bt_int (pa_cons (pv 0) pa_nil))))))), ?_⟩
  obtain ⟨hi, hl⟩ := rd_int hn
  have hz : x.length ≤ sizeLine := sl51 (by omega)
  refine ⟨_, rfl, _, _, _, _, rfl, .str _, kit_str_str, true, rfl, ?_⟩
  refine iteF ?_
  refine ⟨_, rfl, rfl, x, "-", rfl, rfl, _, rfl, ?_⟩
  cases e : x.cps.toList with
  | nil => rw [e] at hn; cases hn
  | cons c r =>
    rw [e, rdN_cons] at hn
    by_cases c1 : c = 45
    · subst c1
      rw [if_pos rfl] at hn
      have hf : figB r = true ∧ r ≠ [48] := by
        by_cases z : figB r = true ∧ r ≠ [48]
        · exact z
        · rw [if_neg z] at hn; cases hn
      rw [starts45 e]
      refine iteT ⟨_, rfl, _, rfl, x, rfl, hz, ?_⟩
      rw [slice1 e]
      refine ⟨_, rfl, rfl, _, rfl, ?_⟩
      rw [decide_eq_false (show ¬ V.str x = V.str "-0" from fun z => hf.2 (by
        have z1 : x.cps.toList = [45, 48] := by rw [V.str.inj z]; decide +kernel
        rw [e] at z1
        exact (List.cons.inj z1).2))]
      refine iteF ⟨_, rfl, mkS r, rfl, by rw [mkS_len]; have := (fig_all hf.1).2.2; omega, fun H1 s1 => ⟨_, rfl, ?_⟩⟩
      rw [mkS_l, hf.1]
      refine iteF ?_
      exact ⟨_, rfl, x, n, rfl, by omega, hi, q H1 s1⟩
    · rw [if_neg c1] at hn
      have hf : figB (c :: r) = true := by
        by_cases z : figB (c :: r) = true
        · exact z
        · rw [if_neg z] at hn; cases hn
      rw [starts_not e c1]
      refine iteF ⟨_, rfl, ?_⟩
      refine ⟨_, rfl, rfl, _, rfl, ?_⟩
      rw [decide_eq_false (show ¬ V.str x = V.str "-0" from fun z => c1 (by
        have z1 : x.cps.toList = [45, 48] := by rw [V.str.inj z]; decide +kernel
        rw [e] at z1
        exact (List.cons.inj z1).1))]
      refine iteF ⟨_, rfl, x, rfl, by omega, fun H1 s1 => ⟨_, rfl, ?_⟩⟩
      rw [e, hf]
      refine iteF ?_
      exact ⟨_, rfl, x, n, rfl, by omega, hi, q H1 s1⟩
end
/-! ### words of a row -/
theorem own2 {H H' : Hp} {r : Addr} {o : HO} (k : Same H H') (hr : H r = none) : Same H (upd H' r o) := fun c u z => by
  rw [upd_ne (ne_of_none z hr)]
  exact k c u z
theorem parts_len (x : Str) (w : Nat) : ∀ (cuts : List Nat) (a : Nat), (StrLaws.partsFrom x w a cuts).length = cuts.length + 1
  | [], a => rfl
  | c :: cs, a => by
    show (_ :: StrLaws.partsFrom x w _ cs).length = _
    rw [List.length_cons, parts_len x w cs, List.length_cons]
theorem cuts_len (x y : Str) : (Builtin.Str.partsBetween x (Builtin.Str.occurrences x y 0 x.length (x.length + 1)) y.length).length ≤ x.length + 2 := by
  rw [StrLaws.partsBetween_eq, parts_len]
  have := StrLaws.occ_length_le x y 0 x.length (x.length + 1)
  omega
abbrev sayT (nm : Str) (ns : List Int) : Str := Str.join ⟨#[32]⟩ (nm :: ns.map tx)
/-- what a row says: its name, the kinds of its values, its values -/
structure Say (nm : Str) (ks : List Str) (ns : List Int) : Prop where
  len : ks.length = ns.length
  few : ns.length ≤ 200
  bd : BdN ns
  kd : (nm = "row" ∧ ks = List.replicate ns.length ("number" : Str)) ∨ (nm, ks) ∈ forms
  val : ∀ (i : Nat) (k : Str) (n : Int), ks[i]? = some k → ns[i]? = some n → (k = "count" ∧ 0 ≤ n) ∨ k = "number"
def nms : List Str := ["row", "put", "take", "set", "cut", "join", "turn", "flip", "show"]
theorem Say.nm {nm : Str} {ks : List Str} {ns : List Int} (s : Say nm ks ns) : nm ∈ nms := by
  rcases s.kd with ⟨h, _⟩ | h
  · rw [h]; decide +kernel
  · have : ∀ f ∈ forms, f.1 ∈ nms := by decide +kernel
    exact this _ h
theorem nms_free : ∀ x ∈ nms, 32 ∉ x.cps.toList := by decide +kernel
theorem nms_len : ∀ x ∈ nms, x.length ≤ 4 := by decide +kernel
theorem nms_lead : ∀ x ∈ nms, inV (.str x) [.str "paper", .str "shows"] = false := by decide +kernel
theorem say_split {nm : Str} {ks : List Str} {ns : List Int} (s : Say nm ks ns) : Txt.split (sayT nm ns) " " = nm :: ns.map tx := by
  rw [spc]
  refine split_join (by simp) fun p hp => ?_
  rcases List.mem_cons.mp hp with rfl | hp
  · exact nms_free _ s.nm
  · obtain ⟨m, _, rfl⟩ := List.mem_map.mp hp
    exact fg_no32
theorem join_len {B : Nat} : ∀ (xs : List Str), (∀ p ∈ xs, p.length ≤ B) → (Str.join ⟨#[32]⟩ xs).cps.toList.length ≤ xs.length * (B + 1)
  | [], _ => by
    show (Str.join ⟨#[32]⟩ []).cps.toList.length ≤ 0 * _
    rw [Nat.zero_mul, show (Str.join ⟨#[32]⟩ []).cps.toList.length = 0 by decide +kernel]
    exact Nat.le_refl _
  | [x], h => by
    have := h x (List.mem_cons_self ..)
    have e : x.length = x.cps.toList.length := by simp [Str.length]
    show x.cps.toList.length ≤ 1 * (B + 1)
    omega
  | x :: y :: r, h => by
    have h1 := h x (List.mem_cons_self ..)
    have e : x.length = x.cps.toList.length := by simp [Str.length]
    have ih := join_len (y :: r) fun p hp => h p (List.mem_cons_of_mem _ hp)
    rw [join_cons, List.length_append, List.length_append]
    show _ + (1 + _) ≤ ((y :: r).length + 1) * (B + 1)
    rw [Nat.add_mul]
    omega
theorem say_len {nm : Str} {ks : List Str} {ns : List Int} (s : Say nm ks ns) : (sayT nm ns).length ≤ 50000 := by
  have := join_len (B := 51) (nm :: ns.map tx) fun p hp => by
    rcases List.mem_cons.mp hp with rfl | hp
    · exact Nat.le_trans (nms_len _ s.nm) (by decide)
    · obtain ⟨m, hm, rfl⟩ := List.mem_map.mp hp
      exact tx_len (s.bd m hm).1 (s.bd m hm).2
  have hf := s.few
  have e : (sayT nm ns).length = (sayT nm ns).cps.toList.length := by simp [Str.length]
  rw [List.length_cons, List.length_map] at this
  have h2 : (ns.length + 1) * (51 + 1) ≤ 201 * 52 := Nat.mul_le_mul (by omega) (by decide)
  rw [e]
  exact Nat.le_trans this (by omega)
abbrev k_number_of : Nat := 3
def sp_number_of (_ : PySem.W.Frag) : Sp := fun vs H Q _ => ∃ n : Int, vs = [.str (tx n)] ∧ -(10 ^ 50) < n ∧ n < 10 ^ 50 ∧ ∀ H', Same H H' → Q (.int n) H'
abbrev k_count_of : Nat := 4
def sp_count_of (_ : PySem.W.Frag) : Sp := fun vs H Q _ => ∃ n : Int, vs = [.str (tx n)] ∧ 0 ≤ n ∧ n < 10 ^ 50 ∧ ∀ H', Same H H' → Q (.int n) H'
abbrev k_value_of : Nat := 5
def sp_value_of (_ : PySem.W.Frag) : Sp := fun vs H Q _ => ∃ (k : Str) (n : Int), vs = [.str k, .str (tx n)] ∧ -(10 ^ 50) < n ∧ n < 10 ^ 50 ∧ ((k = "count" ∧ 0 ≤ n) ∨ k = "number") ∧ ∀ H', Same H H' → Q (.int n) H'
abbrev k_values_of : Nat := 6
def sp_values_of (K : PySem.W.Frag) : Sp := fun vs H Q _ => ∃ (ka wa : Addr) (nm : Str) (ks : List Str) (ns : List Int), vs = [.ref ka, .ref wa] ∧ Say nm ks ns ∧ SqT K H ka (ks.map V.str) ∧ SqL K H wa ((ns.map tx).map V.str) ∧
  ∀ (D : Addr) (H' : Hp), Same H H' → H' D = some (.lst (ns.map V.int)) → Q (.ref D) H'
abbrev k_kinds_of : Nat := 1
def sp_kinds_of (K : PySem.W.Frag) : Sp := fun vs H Q _ => ∃ (nm : Str) (ks : List Str) (ns : List Int), vs = [.str "", .str nm, .int (ns.length : Int)] ∧ Say nm ks ns ∧ ∀ (a : Addr) (H' : Hp), Same H H' → SqT K H' a (ks.map V.str) → Q (.ref a) H'
abbrev k_read_said : Nat := 7
def sp_read_said (_ : PySem.W.Frag) : Sp := fun vs H Q _ => ∃ (nm : Str) (ks : List Str) (ns : List Int), vs = [.str (sayT nm ns)] ∧ Say nm ks ns ∧
  ∀ (p D : Addr) (H' : Hp), Same H H' → H' p = some (.tup [.str "", .str nm, .ref D]) → H' D = some (.lst (ns.map V.int)) → Q (.ref p) H'
theorem weq {a b : Str} (h : a = b) : decide (V.str a = V.str b) = true := decide_eq_true (congrArg V.str h)
theorem wne {a b : Str} (h : a ≠ b) : decide (V.str a = V.str b) = false := decide_eq_false fun z => h (V.str.inj z)
section
variable {P : Program} {w : World} {K : PySem.W.Frag} {mg : Str → Option Value} {base : Heap}
theorem ok_number_of (d : Def K mg "number_of" s_number_of ["word"]) (z : Bz K mg cLeastError cBeyond cNoSuch cTooMany cNoText cNoRow cMakes cDesk) (c_read_number : Cal P w K mg base k_read_number "read_number" ["text"] (sp_read_number K)) : Cal P w K mg base k_number_of "number_of" ["word"] (sp_number_of K) := by
  have sc := sc_number_of
  refine d.cal fun f fd F => F.ok sc (fun vs H Q E h => ?_) (fun cdv A outer s H vs Q E hr h => ?_)
  · obtain ⟨n, rfl, _⟩ := h
    rfl
  obtain ⟨n, rfl, h0, h1, q⟩ := h
  refine ⟨_, (pss_one (ps_tryN rfl (pss_one (ps_ret (pe_fn c_read_number (hr.mono (by decide)) (by rfl) (pa_cons (pv 0) pa_nil)))))), ?_⟩
  exact ⟨_, rfl, tx n, n, rfl, rd_fg h0 h1, q⟩
theorem ok_count_of (d : Def K mg "count_of" s_count_of ["word"]) (z : Bz K mg cLeastError cBeyond cNoSuch cTooMany cNoText cNoRow cMakes cDesk) (c_number_of : Cal P w K mg base k_number_of "number_of" ["word"] (sp_number_of K)) : Cal P w K mg base k_count_of "count_of" ["word"] (sp_count_of K) := by
  have sc := sc_count_of
  refine d.cal fun f fd F => F.ok sc (fun vs H Q E h => ?_) (fun cdv A outer s H vs Q E hr h => ?_)
  · obtain ⟨n, rfl, _⟩ := h
    rfl
  obtain ⟨n, rfl, h0, h1, q⟩ := h
  refine ⟨_, (pss_cons (ps_set (i := 1) sc.nd rfl (Or.inl rfl) (pe_fn c_number_of (hr.mono (by decide)) (by rfl) (pa_cons (pv 0) pa_nil)))
 (pss_cons (ps_if (pt_cmpR op_lt (pv 1) pe_int (nomark _))
  (pss_one ps_never)
  pss_nil)
 (pss_one (ps_ret (pv 1))))), ?_⟩
  refine ⟨_, rfl, n, rfl, by omega, h1, fun H1 s1 => ⟨_, rfl, _, _, rfl, rfl, _, rfl, ?_⟩⟩
  refine ite2 (fun c => absurd (of_decide_eq_true c) (by omega)) (fun _ => ?_)
  exact ⟨_, rfl, q H1 s1⟩
theorem ok_value_of (d : Def K mg "value_of" s_value_of ["kind", "word"]) (z : Bz K mg cLeastError cBeyond cNoSuch cTooMany cNoText cNoRow cMakes cDesk) (c_count_of : Cal P w K mg base k_count_of "count_of" ["word"] (sp_count_of K)) (c_number_of : Cal P w K mg base k_number_of "number_of" ["word"] (sp_number_of K)) : Cal P w K mg base k_value_of "value_of" ["kind", "word"] (sp_value_of K) := by
  have sc := sc_value_of
  refine d.cal fun f fd F => F.ok sc (fun vs H Q E h => ?_) (fun cdv A outer s H vs Q E hr h => ?_)
  · obtain ⟨k, n, rfl, _⟩ := h
    rfl
  obtain ⟨k, n, rfl, h0, h1, hk, q⟩ := h
  refine ⟨_, (pss_cons (ps_if (pt_cmpR op_eq (pv 0) pe_str (nomark _))
  (pss_one (ps_ret (pe_fn c_count_of (hr.mono (by decide)) (by rfl) (pa_cons (pv 1) pa_nil))))
  pss_nil)
 (pss_cons (ps_if (pt_cmpR op_eq (pv 0) pe_str (nomark _))
  (pss_one (ps_ret (pe_fn c_number_of (hr.mono (by decide)) (by rfl) (pa_cons (pv 1) pa_nil))))
  pss_nil)
 (pss_cons ps_never
 (pss_cons ps_never
 (pss_cons ps_never
 (pss_cons ps_never
 (pss_cons ps_never
 (pss_cons ps_never
 (pss_one ps_never))))))))), ?_⟩
  refine ⟨_, rfl, rfl, _, rfl, ?_⟩
  rcases hk with ⟨rfl, hk⟩ | rfl
  · rw [weq rfl]
    exact iteT ⟨_, rfl, n, rfl, hk, h1, q⟩
  · rw [wne (by decide +kernel)]
    refine iteF ⟨_, rfl, rfl, _, rfl, ?_⟩
    rw [weq rfl]
    exact iteT ⟨_, rfl, n, rfl, h0, h1, q⟩
theorem ok_values_of (d : Def K mg "values_of" s_values_of ["kinds", "words"]) (z : Bz K mg cLeastError cBeyond cNoSuch cTooMany cNoText cNoRow cMakes cDesk) (c_value_of : Cal P w K mg base k_value_of "value_of" ["kind", "word"] (sp_value_of K)) : Cal P w K mg base k_values_of "values_of" ["kinds", "words"] (sp_values_of K) := by
  have sc := sc_values_of
  refine d.cal fun f fd F => F.ok sc (fun vs H Q E h => ?_) (fun cdv A outer s H vs Q E hr h => ?_)
  · obtain ⟨ka, wa, nm, ks, ns, rfl, _⟩ := h
    rfl
  obtain ⟨ka, wa, nm, ks, ns, rfl, S, hka, hwa, q⟩ := h
  refine ⟨_, (pss_cons (ps_if (pt_cmpR op_ne (pe_callB call_len_seq (by rfl) z.len_ bt_len (pa_cons (pv 1) pa_nil)) (pe_callB call_len_seq (by rfl) z.len_ bt_len (pa_cons (pv 0) pa_nil)) (nomark _))
  (pss_one ps_never)
  pss_nil)
 (pss_one (ps_ret (pe_compG (x := "kind") (cl := []) (cn := []) (TN := ["word"]) (N := []) (fr := []) (sc0 := defScope s_values_of) rfl (pi_zipT rfl z.zip_ (pa_cons (pv 0) (pa_cons (pv 1) pa_nil))) (fun C s₂ H₂ fp => (pe_fn c_value_of (hr.mono (by decide)) (by rfl) (pa_cons (pv 0) (pa_cons (pv 1) pa_nil)))) (fun C s₂ H₂ fp => pts_nil) (fun C s₂ H₂ fp => (pg_tupK (K := K) (n := 2) rfl rfl (pgs_cons (pg_name (i := 0) (show (["kind", "word"] : List Str).Nodup by decide +kernel) rfl (Or.inl rfl)) (pgs_cons (pg_name (i := 1) (show (["kind", "word"] : List Str).Nodup by decide +kernel) rfl (Or.inl rfl)) pgs_nil)))) (by with_unfolding_all rfl) trivial rfl rfl rfl ⟨by decide +kernel, by decide +kernel, by decide +kernel, by decide +kernel⟩ rfl)))), ?_⟩
  have hl := S.len
  have hf := S.few
  have l1 : ((ns.map tx).map V.str).length = ns.length := by rw [List.length_map, List.length_map]
  have l2 : (ks.map V.str).length = ns.length := by rw [List.length_map, hl]
  refine ⟨_, rfl, wa, _, rfl, .inl hwa, _, rfl, ka, _, rfl, .inr hka, rfl, _, rfl, ?_⟩
  rw [l1, l2]
  refine iteNS rfl ?_
  refine ⟨_, rfl, _, rfl, ka, wa, rfl, ⟨_, hka⟩, ⟨_, hwa⟩, fun D hD => ?_⟩
  refine compG_zipT (K := K) (xs := ks.map V.str) (zs := (ns.map tx).map V.str) (by rw [l2]; exact sl51 (by omega)) (by rw [l1, l2]) (fun i ys H4 => ys = (ns.take i).map V.int ∧ i ≤ ns.length ∧ Same H H4 ∧ H4 D = some (.lst ys)) ⟨rfl, Nat.zero_le _, same_new hD _, upd_same⟩
    (fun i ys H4 ⟨_, _, k4, _⟩ => ⟨k4.seqT hka, k4.seq hwa⟩) (fun i ys H4 ⟨e, hi, _, h4⟩ => ⟨h4, by rw [e, List.length_map, List.length_take]; omega⟩) ?_ ?_
  · rintro i x y ys H4 p hx hy ⟨e, hi, k4, h4⟩ hp vs2 hvs2
    rw [List.getElem?_map] at hx hy
    rw [List.getElem?_map] at hy
    cases ek : ks[i]? with
    | none => rw [ek] at hx; cases hx
    | some k =>
      rw [ek] at hx
      cases hx
      cases en : ns[i]? with
      | none => rw [en] at hy; cases hy
      | some n =>
        rw [en] at hy
        cases hy
        have s5 : Same H4 (upd H4 p (.tup [.str k, .str (tx n)])) := same_new hp _
        have hb := S.bd n (List.mem_of_getElem? en)
        match vs2, hvs2 with
        | [x0, x1], _ =>
          refine ⟨p, _, rfl, SqT.of upd_same, rfl, _, _, rfl, _, _, rfl, rfl, ⟨[_, _], rfl, rfl⟩, ?_⟩
          refine iteT ⟨_, rfl, _, rfl, k, n, rfl, hb.1, hb.2, S.val i k n ek en, fun H6 s6 => ?_⟩
          have s56 := s5.trans s6
          refine ⟨s56 _ _ h4, ?_, ?_, own2 (k4.trans s56) hD, upd_same⟩
          · rw [e, List.take_add_one, en, List.map_append]
            rfl
          · have := (List.getElem?_eq_some_iff.mp en).1
            omega
  · rintro ys H4 ⟨e, hi, k4, h4⟩
    rw [l2, List.take_length] at e
    rw [e] at h4
    exact q D H4 k4 h4
theorem ok_kinds_of (d : Def K mg "kinds_of" s_kinds_of ["lead", "name", "many"]) (z : Bz K mg cLeastError cBeyond cNoSuch cTooMany cNoText cNoRow cMakes cDesk)  : Cal P w K mg base k_kinds_of "kinds_of" ["lead", "name", "many"] (sp_kinds_of K) := by
  have sc := sc_kinds_of
  refine d.cal fun f fd F => F.ok sc (fun vs H Q E h => ?_) (fun cdv A outer s H vs Q E hr h => ?_)
  · obtain ⟨nm, ks, ns, rfl, _⟩ := h
    rfl
  obtain ⟨nm, ks, ns, rfl, S, q⟩ := h
  obtain ⟨fa, hfa, hfb⟩ := z.frm
  refine ⟨_, (pss_cons (ps_if (PW.pt (pw_and (pt_cmpR op_eq (pv 0) pe_str (nomark _)) (pw_and1 (pt_cmpR op_eq (pv 1) pe_str (nomark _)))))
  (pss_one (ps_ret (pe_op op_repT (pe_tup (pa_cons pe_str pa_nil)) (pv 2))))
  pss_nil)
 (pss_cons (ps_if (PW.pt (pw_or (pt_cmpR op_notInT (pv 1) (pe_glob (v := .ref fa) (u := .ref fa) (by rfl) hfa rfl) rfl) (pw_or1 (PW.pt (pw_and (pt_cmpR op_ne (pv 0) pe_str (nomark _)) (pw_and1 pt_never))))))
  (pss_one ps_never)
  pss_nil)
 (pss_cons (ps_if (pt_cmpR op_eq (pv 0) pe_str (nomark _))
  (pss_one ps_never)
  pss_nil)
 (pss_one (ps_ret (pe_ix ix_tabT (pe_glob (v := .ref fa) (u := .ref fa) (by rfl) hfa rfl) (pv 1) (fun _ _ => rfl))))))), ?_⟩
  have hf := S.few
  refine ⟨_, rfl, rfl, _, rfl, ?_⟩
  rw [weq rfl]
  refine iteT ⟨_, rfl, rfl, _, rfl, ?_⟩
  rcases S.kd with ⟨rfl, rfl⟩ | hk
  · rw [weq rfl]
    refine iteT ⟨szb rfl, fun a ha => ⟨_, rfl, a, _, _, rfl, rfl, upd_same, by omega, fun p H' s' hp => ?_⟩⟩
    refine q p H' ((same_new ha _).trans s') ?_
    rw [List.map_replicate]
    exact hp
  · have hn : nm ≠ "row" := by
      have : ∀ f ∈ forms, f.1 ≠ ("row" : Str) := by decide +kernel
      exact this _ hk
    obtain ⟨T, dd, h1, h2, h3⟩ := frm_use hfb hk
    rw [wne hn]
    refine iteF ⟨_, rfl, _, fa, _, rfl, rfl, T, _, rfl, ?_⟩
    rw [h2]
    refine iteF ⟨_, rfl, rfl, _, rfl, ?_⟩
    rw [weq rfl]
    refine iteF ?_
    refine ⟨_, rfl, rfl, _, rfl, ?_⟩
    rw [wne (by decide +kernel)]
    refine iteF ?_
    exact ⟨_, rfl, fa, _, _, dd, rfl, rfl, T, h1, q dd H (Same.refl H) (h3 H)⟩
theorem ok_read_said (d : Def K mg "read_said" s_read_said ["row"]) (z : Bz K mg cLeastError cBeyond cNoSuch cTooMany cNoText cNoRow cMakes cDesk) (c_kinds_of : Cal P w K mg base k_kinds_of "kinds_of" ["lead", "name", "many"] (sp_kinds_of K)) (c_values_of : Cal P w K mg base k_values_of "values_of" ["kinds", "words"] (sp_values_of K)) : Cal P w K mg base k_read_said "read_said" ["row"] (sp_read_said K) := by
  have sc := sc_read_said
  refine d.cal fun f fd F => F.ok sc (fun vs H Q E h => ?_) (fun cdv A outer s H vs Q E hr h => ?_)
  · obtain ⟨nm, ks, ns, rfl, _⟩ := h
    rfl
  obtain ⟨nm, ks, ns, rfl, S, q⟩ := h
  refine ⟨_, (pss_cons (ps_if (pt_not (pt_val (pe_callB call_isi (by rfl) z.isinstance_ bt_isinstance (pa_cons (pv 0) (pa_cons (pe_bltn (v := .ty "str") (u := .type "str") (by rfl) z.str_ bt_str rfl) pa_nil)))))
  (pss_one ps_never)
  pss_nil)
 (pss_cons (ps_set (i := 1) sc.nd rfl (Or.inl rfl) (pe_bm PySem.F.plainAttrs_str PySem.F.slot_str_split PySem.F.type_str_split mt_split (pv 0) (pa_cons pe_str pa_nil)))
 (pss_cons (ps_set (i := 2) sc.nd rfl (Or.inl rfl) (pe_ifExp (pt_cmpR op_in_seq (pe_ix ix_list (pv 1) pe_int (fun _ _ => rfl)) (pe_tup (pa_cons pe_str (pa_cons pe_str pa_nil))) rfl) (pe_ix ix_list (pv 1) pe_int (fun _ _ => rfl)) pe_str))
 (pss_cons (ps_if (pt_cmpR op_ne (pv 2) pe_str (nomark _))
  (pss_one (ps_set (i := 1) sc.nd rfl (Or.inl rfl) (pe_slice sl_list (pv 1) (po_some pe_int) po_none)))
  pss_nil)
 (pss_cons (ps_set (i := 3) sc.nd rfl (Or.inl rfl) (pe_ifExp (pt_cmpR op_gt (pe_callB call_len_seq (by rfl) z.len_ bt_len (pa_cons (pv 1) pa_nil)) pe_int (nomark _)) (pe_ix ix_list (pv 1) pe_int (fun _ _ => rfl)) pe_str))
 (pss_one (ps_ret (pe_tup (pa_cons (pv 2) (pa_cons (pv 3) (pa_cons (pe_fn c_values_of (hr.mono (by decide)) (by rfl) (pa_cons (pe_fn c_kinds_of (hr.mono (by decide)) (by rfl) (pa_cons (pv 2) (pa_cons (pv 3) (pa_cons (pe_op op_sub (pe_callB call_len_seq (by rfl) z.len_ bt_len (pa_cons (pv 1) pa_nil)) pe_int) pa_nil)))) (pa_cons (pe_slice sl_list (pv 1) (po_some pe_int) po_none) pa_nil))) pa_nil))))))))))), ?_⟩
  have hl := say_len S
  have hc := cuts_len (sayT nm ns) " "
  have hs := say_split S
  have hf := S.few
  refine ⟨_, rfl, _, _, _, _, rfl, .str _, kit_str_str, true, rfl, ?_⟩
  refine iteF ?_
  refine ⟨_, rfl, rfl, _, " ", rfl, rfl, by decide +kernel, sl51 (by omega), sl51 (by omega), by rw [hs, List.length_cons, List.length_map]; exact sl51 (by omega), fun l hl1 => ?_⟩
  rw [hs]
  have s1 : Same H (upd H l (.lst ((nm :: ns.map tx).map V.str))) := same_new hl1 _
  have e1 : upd H l (.lst ((nm :: ns.map tx).map V.str)) l = some (.lst ((nm :: ns.map tx).map V.str)) := upd_same
  generalize upd H l (.lst ((nm :: ns.map tx).map V.str)) = H1 at *
  have hlen : ((nm :: ns.map tx).map V.str).length = ns.length + 1 := by rw [List.length_map, List.length_cons, List.length_map]
  have hat : atI ((nm :: ns.map tx).map V.str) 0 = some (.str nm) := atI_nat (j := 0) rfl
  refine ⟨_, rfl, l, _, _, _, rfl, rfl, SqL.of e1, hat, szb rfl, fun t ht => ?_⟩
  have s2 : Same H1 (upd H1 t (.tup [.str "paper", .str "shows"])) := same_new ht _
  have e2 : upd H1 t (.tup [.str "paper", .str "shows"]) t = some (.tup [.str "paper", .str "shows"]) := upd_same
  generalize upd H1 t (.tup [.str "paper", .str "shows"]) = H2 at *
  refine ⟨t, _, rfl, .inr (SqT.of e2), rfl, rfl, ?_⟩
  rw [nms_lead nm S.nm]
  refine ⟨_, rfl, ?_⟩
  refine iteF ?_
  refine ⟨_, rfl, rfl, _, rfl, ?_⟩
  rw [weq rfl]
  refine iteF ?_
  have e3 := s2 _ _ e1
  refine ⟨_, rfl, l, _, rfl, .inl (SqL.of e3), _, _, rfl, rfl, _, rfl, ?_⟩
  rw [hlen]
  refine ite2 (fun _ => ?_) (fun c => absurd (decide_eq_true (by omega)) c)
  refine ⟨_, rfl, l, _, _, _, rfl, rfl, SqL.of e3, hat, ?_⟩
  refine ⟨_, rfl, _, rfl, _, rfl, _, rfl, _, rfl, l, _, rfl, .inl (SqL.of e3), _, _, rfl, rfl, nm, ks, ns, by rw [hlen]; show [V.str "", V.str nm, V.int (((ns.length + 1 : Nat) : Int) - 1)] = _; rw [show ((ns.length + 1 : Nat) : Int) - 1 = (ns.length : Int) by omega], S, fun ka H3 s3 hka => ?_⟩
  refine ⟨_, rfl, _, rfl, l, _, rfl, SqL.of (s3 _ _ e3), fun wa hwa => ?_⟩
  have ec : cutV ((nm :: ns.map tx).map V.str) (some 1) none = (ns.map tx).map V.str := by
    unfold cutV
    rw [show (some (1 : Int)) = some ((1 : Nat) : Int) from rfl, HT.sIx_nat, HT.sIx_none, hlen, Nat.min_eq_left (by omega)]
    exact List.take_of_length_le (by rw [List.length_drop, hlen]; exact Nat.le_refl _)
  rw [ec]
  have s4 : Same H3 (upd H3 wa (.lst ((ns.map tx).map V.str))) := same_new hwa _
  have e4 : upd H3 wa (.lst ((ns.map tx).map V.str)) wa = some (.lst ((ns.map tx).map V.str)) := upd_same
  generalize upd H3 wa (.lst ((ns.map tx).map V.str)) = H4 at *
  refine ⟨ka, wa, nm, ks, ns, rfl, S, s4.seqT hka, SqL.of e4, fun D H5 s5 hD => ⟨szb rfl, fun p hp => ?_⟩⟩
  exact q p D _ (s1.trans (s2.trans (s3.trans (s4.trans (s5.trans (same_new hp _)))))) upd_same ((same_new hp _) _ _ hD)
end
/-! ### a desk: what it says of a row -/
inductive Dd (low : Int) (L : Nat) (rs : List (List Int)) : Str → List Int → List Int → List Int → Prop
  | row (r : List Int) (hw : Wths low L r) (hl : r.length ≤ 200) : Dd low L rs "row" r r []
  | put (j pl : Nat) (num : Int) (r : List Int) (g : rs[j]? = some r) (hp : pl ≤ r.length) (h0 : low ≤ num) (h1 : num < low + 2 ^ L) (hl : r.length ≤ 199) : Dd low L rs "put" [(j : Int), (pl : Int), num] (insAt r pl num) [(j : Int)]
  | take (j pl : Nat) (n : Int) (r : List Int) (g : rs[j]? = some r) (gn : r[pl]? = some n) : Dd low L rs "take" [(j : Int), (pl : Int)] (delAt r pl) [(j : Int)]
  | set (j pl : Nat) (n num : Int) (r : List Int) (g : rs[j]? = some r) (gn : r[pl]? = some n) (h0 : low ≤ num) (h1 : num < low + 2 ^ L) : Dd low L rs "set" [(j : Int), (pl : Int), num] (r.take pl ++ num :: r.drop (pl + 1)) [(j : Int)]
  | cut (j st en : Nat) (r : List Int) (g : rs[j]? = some r) (h0 : st ≤ en) (h1 : en ≤ r.length) : Dd low L rs "cut" [(j : Int), (st : Int), (en : Int)] (segI r st en) [(j : Int)]
  | join (i j : Nat) (r t : List Int) (g : rs[i]? = some r) (g' : rs[j]? = some t) (hl : r.length + t.length ≤ 200) : Dd low L rs "join" [(i : Int), (j : Int)] (r ++ t) [(i : Int), (j : Int)]
  | turn (j : Nat) (r : List Int) (g : rs[j]? = some r) : Dd low L rs "turn" [(j : Int)] r.reverse [(j : Int)]
  | flip (j : Nat) (r : List Int) (g : rs[j]? = some r) : Dd low L rs "flip" [(j : Int)] (r.map (flp low L)) [(j : Int)]
theorem say_of {nm : Str} {ks : List Str} {ns : List Int} (h : ks.length = ns.length) (hf : ns.length ≤ 200) (hk : (nm, ks) ∈ forms) (hv : ∀ p ∈ ks.zip ns, (-(10 ^ 50) < p.2 ∧ p.2 < 10 ^ 50) ∧ ((p.1 = "count" ∧ 0 ≤ p.2) ∨ p.1 = "number")) : Say nm ks ns := by
  have hz : ∀ (i : Nat) (k : Str) (n : Int), ks[i]? = some k → ns[i]? = some n → (k, n) ∈ ks.zip ns := fun i k n h1 h2 => List.mem_of_getElem? (i := i) (by rw [List.getElem?_zip_eq_some]; exact ⟨h1, h2⟩)
  refine ⟨h, hf, fun n hn => ?_, .inr hk, fun i k n h1 h2 => (hv _ (hz i k n h1 h2)).2⟩
  obtain ⟨i, hi, e⟩ := List.getElem_of_mem hn
  exact (hv _ (hz i ks[i] n (List.getElem?_eq_getElem (by omega)) (by rw [← e]; exact List.getElem?_eq_getElem hi))).1
abbrev kCt : Str := "count"
theorem say1 {nm : Str} {a : Nat} (hk : (nm, [kCt]) ∈ forms) (ha : a ≤ 1000) : Say nm [kCt] [(a : Int)] := say_of rfl (by simp) hk fun p hp => by
  obtain rfl : p = (kCt, (a : Int)) := by simpa using hp
  exact ⟨⟨by show -(10 ^ 50) < (a : Int); omega, by show (a : Int) < 10 ^ 50; omega⟩, .inl ⟨rfl, by show (0 : Int) ≤ (a : Int); omega⟩⟩
theorem say2 {nm : Str} {a b : Nat} (hk : (nm, [kCt, kCt]) ∈ forms) (ha : a ≤ 1000) (hb : b ≤ 1000) : Say nm [kCt, kCt] [(a : Int), (b : Int)] := say_of rfl (by simp) hk fun p hp => by
  rcases (by simpa using hp : p = (kCt, (a : Int)) ∨ p = (kCt, (b : Int))) with rfl | rfl
  · exact ⟨⟨by show -(10 ^ 50) < (a : Int); omega, by show (a : Int) < 10 ^ 50; omega⟩, .inl ⟨rfl, by show (0 : Int) ≤ (a : Int); omega⟩⟩
  · exact ⟨⟨by show -(10 ^ 50) < (b : Int); omega, by show (b : Int) < 10 ^ 50; omega⟩, .inl ⟨rfl, by show (0 : Int) ≤ (b : Int); omega⟩⟩
theorem say3 {nm : Str} {a b : Nat} {c : Int} {k : Str} (hk : (nm, [kCt, kCt, k]) ∈ forms) (ha : a ≤ 1000) (hb : b ≤ 1000) (h0 : -(10 ^ 50) < c) (h1 : c < 10 ^ 50) (hc : (k = kCt ∧ 0 ≤ c) ∨ k = "number") : Say nm [kCt, kCt, k] [(a : Int), (b : Int), c] := say_of rfl (by simp) hk fun p hp => by
  rcases (by simpa using hp : p = (kCt, (a : Int)) ∨ p = (kCt, (b : Int)) ∨ p = (k, c)) with rfl | rfl | rfl
  · exact ⟨⟨by show -(10 ^ 50) < (a : Int); omega, by show (a : Int) < 10 ^ 50; omega⟩, .inl ⟨rfl, by show (0 : Int) ≤ (a : Int); omega⟩⟩
  · exact ⟨⟨by show -(10 ^ 50) < (b : Int); omega, by show (b : Int) < 10 ^ 50; omega⟩, .inl ⟨rfl, by show (0 : Int) ≤ (b : Int); omega⟩⟩
  · exact ⟨⟨h0, h1⟩, hc⟩
theorem p40 {L : Nat} (h : L ≤ 40) : (2 : Int) ^ L ≤ 2 ^ 40 := by
  have : (2 : Nat) ^ L ≤ 2 ^ 40 := Nat.pow_le_pow_right (by decide) h
  exact_mod_cast this
theorem Dd.say {low : Int} {L : Nat} {rs : List (List Int)} {nm : Str} {ns r c : List Int} (d : Dd low L rs nm ns r c) (hL : L ≤ 40) (hn : rs.length ≤ 100) (hl : ∀ r ∈ rs, r.length ≤ 200) (h0 : -(10 ^ 45) < low) (h1 : low < 10 ^ 45) : ∃ ks, Say nm ks ns := by
  have hp := p40 hL
  have ix : ∀ {j : Nat} {r : List Int}, rs[j]? = some r → j ≤ 1000 ∧ r.length ≤ 200 := fun {j r} g => by
    have := (List.getElem?_eq_some_iff.mp g).1
    exact ⟨by omega, hl _ (List.mem_of_getElem? g)⟩
  have iy : ∀ {j : Nat} {n : Int} {r : List Int}, r[j]? = some n → r.length ≤ 200 → j ≤ 1000 := fun {j n r} g h => by
    have := (List.getElem?_eq_some_iff.mp g).1
    omega
  cases d with
  | row r hw hl =>
    refine ⟨_, ⟨List.length_replicate, hl, fun n hn => ?_, .inl ⟨rfl, rfl⟩, fun i k n hk _ => .inr ?_⟩⟩
    · have := hw n hn
      omega
    · rw [List.getElem?_replicate] at hk
      split at hk
      · exact (Option.some.inj hk).symm
      · cases hk
  | put j pl num r g hp h2 h3 hl => exact ⟨_, say3 (k := "number") (by decide +kernel) (ix g).1 (by omega) (by omega) (by omega) (.inr rfl)⟩
  | take j pl n r g gn => exact ⟨_, say2 (by decide +kernel) (ix g).1 (iy gn (ix g).2)⟩
  | set j pl n num r g gn h2 h3 => exact ⟨_, say3 (k := "number") (by decide +kernel) (ix g).1 (iy gn (ix g).2) (by omega) (by omega) (.inr rfl)⟩
  | cut j st en r g h2 h3 =>
    have := (ix g).2
    exact ⟨_, say3 (k := kCt) (by decide +kernel) (ix g).1 (by omega) (by omega) (by omega) (.inl ⟨rfl, by omega⟩)⟩
  | join i j r t g g' hl => exact ⟨_, say2 (by decide +kernel) (ix g).1 (ix g').1⟩
  | turn j r g => exact ⟨_, say1 (by decide +kernel) (ix g).1⟩
  | flip j r g => exact ⟨_, say1 (by decide +kernel) (ix g).1⟩
theorem Dd.nm {low : Int} {L : Nat} {rs : List (List Int)} {nm : Str} {ns r c : List Int} (d : Dd low L rs nm ns r c) : nm ∈ (["row", "put", "take", "set", "cut", "join", "turn", "flip"] : List Str) := by
  cases d <;> decide +kernel
/-- a desk and its makes -/
structure Dsk (C M : Addr) (H : Hp) (d x ka b : Addr) (low : Int) (L : Nat) (rs cs : List (List Int)) : Prop where
  o : ∃ dd, H d = some (.ins C dd [("bounds", .ref b), ("makes", .ref x)])
  m : Mks M H x ka b low L rs cs
  lo : -(10 ^ 45) < low
  hi : low < 10 ^ 45
theorem Dsk.keep {C M : Addr} {H H' : Hp} {d x ka b p : Addr} {low : Int} {L : Nat} {rs cs : List (List Int)} {ys : List V} (D : Dsk C M H d x ka b low L rs cs) (k : Keep p H H') (e : H p = some (.lst ys)) (n : ka ≠ p) : Dsk C M H' d x ka b low L rs cs := by
  obtain ⟨dd, hd⟩ := D.o
  exact ⟨⟨dd, k _ _ (ne_of hd e (by intro z; cases z)) hd⟩, D.m.keep k e n, D.lo, D.hi⟩
theorem Dsk.same {C M : Addr} {H H' : Hp} {d x ka b : Addr} {low : Int} {L : Nat} {rs cs : List (List Int)} (D : Dsk C M H d x ka b low L rs cs) (s : Same H H') : Dsk C M H' d x ka b low L rs cs := by
  obtain ⟨dd, hd⟩ := D.o
  exact ⟨⟨dd, s _ _ hd⟩, D.m.same s, D.lo, D.hi⟩
theorem Dsk.made {C M : Addr} {H H' : Hp} {d x ka b : Addr} {low : Int} {L : Nat} {rs cs : List (List Int)} {r c : List Int} (D : Dsk C M H d x ka b low L rs cs) (k : Keep ka H H') (m : Mks M H' x ka b low L (rs ++ [r]) (cs ++ [c])) : Dsk C M H' d x ka b low L (rs ++ [r]) (cs ++ [c]) := by
  obtain ⟨dd, hd⟩ := D.o
  obtain ⟨es, h1, _⟩ := D.m.hk
  exact ⟨⟨dd, k _ _ (ne_of hd h1 (by intro z; cases z)) hd⟩, m, D.lo, D.hi⟩
abbrev k_I_Desk : Nat := 4
def sp_I_Desk (_ : PySem.W.Frag) (C M : Addr) : Sp := fun vs H Q _ => ∃ (d b dd : Addr) (low : Int) (L : Nat), vs = [.ref d, .ref b] ∧ H d = some (.ins C dd []) ∧ H b = some (.tup [.int low, .int (L : Int)]) ∧ L ≤ 40 ∧ -(10 ^ 45) < low ∧ low < 10 ^ 45 ∧
  ∀ (x ka : Addr) (H' : Hp), H ka = none → Keep d H H' → Dsk C M H' d x ka b low L [[]] [[]] → Q .non H'
abbrev k_M_made : Nat := 47
def sp_M_made (_ : PySem.W.Frag) (C M : Addr) : Sp := fun vs H Q _ => ∃ (d x ka b v : Addr) (low : Int) (L : Nat) (rs cs : List (List Int)) (nm : Str) (ns r c : List Int), vs = [.ref d, .str nm, .ref v] ∧ H v = some (.lst (ns.map V.int)) ∧ Dsk C M H d x ka b low L rs cs ∧ rs.length ≤ 99 ∧ Dd low L rs nm ns r c ∧
  ∀ H', Keep ka H H' → Dsk C M H' d x ka b low L (rs ++ [r]) (cs ++ [c]) → Q (.int (rs.length : Int)) H'
abbrev k_M_say : Nat := 48
def sp_M_say (_ : PySem.W.Frag) (C M : Addr) : Sp := fun vs H Q _ => ∃ (d x ka b : Addr) (low : Int) (L : Nat) (rs cs : List (List Int)) (y : Str), vs = [.ref d, .str y] ∧ Dsk C M H d x ka b low L rs cs ∧
  ((∃ (j : Nat) (r : List Int), y = sayT "show" [(j : Int)] ∧ rs[j]? = some r ∧ ∀ H', Same H H' → Q (.str (rowT r)) H') ∨
   (∃ (nm : Str) (ns r c : List Int), y = sayT nm ns ∧ rs.length ≤ 99 ∧ Dd low L rs nm ns r c ∧ ∀ H', Keep ka H H' → Dsk C M H' d x ka b low L (rs ++ [r]) (cs ++ [c]) → Q (.str (tx (rs.length : Int))) H'))
abbrev qry : List V := [.str "least", .str "below", .str "between", .str "up", .str "down", .str "most", .str "often"]
theorem nm_not {nm : Str} (h : nm ∈ (["row", "put", "take", "set", "cut", "join", "turn", "flip"] : List Str)) : nm ≠ "show" ∧ nm ≠ "falls" ∧ inV (.str nm) qry = false := by
  have : ∀ x ∈ (["row", "put", "take", "set", "cut", "join", "turn", "flip"] : List Str), x ≠ "show" ∧ x ≠ "falls" ∧ inV (.str x) qry = false := by decide +kernel
  exact this _ h
theorem Mks.keepI {C C' : Addr} {H H' : Hp} {x ka b p dp : Addr} {fs : List (Str × V)} {low : Int} {L : Nat} {rs cs : List (List Int)} (M : Mks C H x ka b low L rs cs) (k : Keep p H H') (e : H p = some (.ins C' dp fs)) (n : x ≠ p) : Mks C H' x ka b low L rs cs := by
  obtain ⟨dx, hx⟩ := M.o
  obtain ⟨es, h1, h2, h3⟩ := M.hk
  have tk : TKeep H H' := fun _ _ => ⟨fun h => k _ _ (ne_of h e (by intro z; cases z)) h, fun _ h => k _ _ (ne_of h e (by intro z; cases z)) h⟩
  refine ⟨⟨dx, k _ _ n hx⟩, (tk _ _).1 M.hb, M.hL, M.len, M.few, ⟨es, k _ _ (ne_of h1 e (by intro z; cases z)) h1, h2, fun j r c hr hc => ?_⟩, M.ok⟩
  obtain ⟨p', a, v, e1, e2, e3, e4⟩ := h3 j r c hr hc
  exact ⟨p', a, v, e1, (tk _ _).1 e2, e3.tk tk, (tk _ _).1 e4⟩
section
variable {P : Program} {w : World} {K : PySem.W.Frag} {mg : Str → Option Value} {base : Heap}
theorem ok_I_Desk (z : Bz K mg cLeastError cBeyond cNoSuch cTooMany cNoText cNoRow cMakes cDesk) (ic_Makes : ICal P w K mg base k_I_Makes cMakes ["self", "bounds"] (sp_I_Makes K cMakes)) : ICal P w K mg base k_I_Desk cDesk ["self", "bounds"] (sp_I_Desk K cDesk cMakes) := by
  have sc := sc_I_Desk
  refine z.d_I_Desk.cal fun f fd F => F.ok sc (fun vs H Q E h => ?_) (fun cdv A outer s H vs Q E hr h => ?_)
  · obtain ⟨d, b, dd, low, L, rfl, _⟩ := h
    rfl
  obtain ⟨d, b, dd, low, L, rfl, hd, hb, hL, h0, h1, q⟩ := h
  refine ⟨_, (pss_cons (ps_fld (pv 0) (pv 1) rfl)
 (pss_one (ps_fld (pv 0) (pe_mk ic_Makes (hr.mono (by decide)) (by rfl) z.m_Makes (pa_cons (pv 1) pa_nil)) rfl))), ?_⟩
  refine ⟨_, rfl, _, rfl, d, _, dd, _, rfl, hd, z.o_Desk, z.dB, by decide, ?_⟩
  have hbd : b ≠ d := ne_of hb hd (by intro z; cases z)
  have k1 : Keep d H (upd H d (.ins cDesk dd (putF "bounds" (.ref b) []))) := Keep.set d H _
  have e1 : upd H d (.ins cDesk dd (putF "bounds" (.ref b) [])) d = some (.ins cDesk dd [("bounds", .ref b)]) := upd_same
  generalize upd H d (.ins cDesk dd (putF "bounds" (.ref b) [])) = H1 at *
  refine ⟨_, rfl, fun x dx hx hdx hne => ?_⟩
  have ha : ∀ c o, H1 c = some o → upd (upd H1 dx (.own x)) x (.ins cMakes dx []) c = some o := fun c o hc => by
    rw [upd_ne (ne_of_none hc hx), upd_ne (ne_of_none hc hdx)]
    exact hc
  have ex : upd (upd H1 dx (.own x)) x (.ins cMakes dx []) x = some (.ins cMakes dx []) := upd_same
  generalize upd (upd H1 dx (.own x)) x (.ins cMakes dx []) = H2 at *
  refine ⟨x, b, dx, low, L, rfl, ex, ha _ _ (k1 _ _ hbd hb), hL, fun ka H3 hka k3 M3 => ⟨rfl, ?_⟩⟩
  have hdx3 : d ≠ x := ne_of_none e1 hx
  have e3 := k3 _ _ hdx3 (ha _ _ e1)
  refine ⟨_, rfl, d, _, dd, _, rfl, e3, z.o_Desk, z.dM, by show 1 < 1000; decide, ?_⟩
  have k4 : Keep d H3 (upd H3 d (.ins cDesk dd (putF "makes" (.ref x) [("bounds", .ref b)]))) := Keep.set d H3 _
  have e4 : upd H3 d (.ins cDesk dd (putF "makes" (.ref x) [("bounds", .ref b)])) d = some (.ins cDesk dd [("bounds", .ref b), ("makes", .ref x)]) := upd_same
  generalize upd H3 d (.ins cDesk dd (putF "makes" (.ref x) [("bounds", .ref b)])) = H4 at *
  have hka0 : H ka = none := by
    cases e : H ka with
    | none => rfl
    | some o =>
      exfalso
      by_cases hkd : ka = d
      · rw [hkd, ha _ _ e1] at hka; cases hka
      · rw [ha _ _ (k1 _ _ hkd e)] at hka; cases hka
  have M4 := M3.keepI k4 e3 (Ne.symm hdx3)
  refine q x ka H4 hka0 ?_ ⟨⟨dd, e4⟩, M4, h0, h1⟩
  intro c o hc hco
  refine k4 _ _ hc (k3 _ _ ?_ (ha _ _ (k1 _ _ hc hco)))
  exact ne_of_none (k1 _ _ hc hco) hx
theorem ok_M_made (z : Bz K mg cLeastError cBeyond cNoSuch cTooMany cNoText cNoRow cMakes cDesk) (mc_M_cut_out : MCal P w K mg base k_M_cut_out cMakes "cut_out" ["self", "make", "start", "end"] (sp_M_cut_out K cMakes)) (mc_M_flipped : MCal P w K mg base k_M_flipped cMakes "flipped" ["self", "make"] (sp_M_flipped K cMakes)) (mc_M_joined : MCal P w K mg base k_M_joined cMakes "joined" ["self", "one", "other"] (sp_M_joined K cMakes)) (mc_M_of_row : MCal P w K mg base k_M_of_row cMakes "of_row" ["self", "row"] (sp_M_of_row K cMakes)) (mc_M_put_in : MCal P w K mg base k_M_put_in cMakes "put_in" ["self", "make", "place", "number"] (sp_M_put_in K cMakes)) (mc_M_set_at : MCal P w K mg base k_M_set_at cMakes "set_at" ["self", "make", "place", "number"] (sp_M_set_at K cMakes)) (mc_M_taken_out : MCal P w K mg base k_M_taken_out cMakes "taken_out" ["self", "make", "place"] (sp_M_taken_out K cMakes)) (mc_M_turned : MCal P w K mg base k_M_turned cMakes "turned" ["self", "make"] (sp_M_turned K cMakes)) : MCal P w K mg base k_M_made cDesk "made" ["self", "name", "values"] (sp_M_made K cDesk cMakes) := by
  have sc := sc_M_made
  refine z.d_M_made.cal z.o_Desk fun f fd F => F.ok sc (fun vs H Q E h => ?_) (fun cdv A outer s H vs Q E hr h => ?_)
  · obtain ⟨d, x, ka, b, v, low, L, rs, cs, nm, ns, r, c, rfl, _⟩ := h
    rfl
  obtain ⟨d, x, ka, b, v, low, L, rs, cs, nm, ns, r, c, rfl, hv, D, hn, dd, q⟩ := h
  refine ⟨_, (pss_cons (ps_if (pt_cmpR op_eq (pv 1) pe_str (nomark _))
  (pss_one (ps_ret (pe_mth mc_M_of_row (hr.mono (by decide)) (pe_fld (pv 0) rfl) (pa_cons (pv 2) pa_nil))))
  pss_nil)
 (pss_cons (ps_if (pt_cmpR op_eq (pv 1) pe_str (nomark _))
  (pss_one (ps_ret (pe_mth mc_M_put_in (hr.mono (by decide)) (pe_fld (pv 0) rfl) (pa_cons (pe_ix ix_list (pv 2) pe_int (fun _ _ => rfl)) (pa_cons (pe_ix ix_list (pv 2) pe_int (fun _ _ => rfl)) (pa_cons (pe_ix ix_list (pv 2) pe_int (fun _ _ => rfl)) pa_nil))))))
  pss_nil)
 (pss_cons (ps_if (pt_cmpR op_eq (pv 1) pe_str (nomark _))
  (pss_one (ps_ret (pe_mth mc_M_taken_out (hr.mono (by decide)) (pe_fld (pv 0) rfl) (pa_cons (pe_ix ix_list (pv 2) pe_int (fun _ _ => rfl)) (pa_cons (pe_ix ix_list (pv 2) pe_int (fun _ _ => rfl)) pa_nil)))))
  pss_nil)
 (pss_cons (ps_if (pt_cmpR op_eq (pv 1) pe_str (nomark _))
  (pss_one (ps_ret (pe_mth mc_M_set_at (hr.mono (by decide)) (pe_fld (pv 0) rfl) (pa_cons (pe_ix ix_list (pv 2) pe_int (fun _ _ => rfl)) (pa_cons (pe_ix ix_list (pv 2) pe_int (fun _ _ => rfl)) (pa_cons (pe_ix ix_list (pv 2) pe_int (fun _ _ => rfl)) pa_nil))))))
  pss_nil)
 (pss_cons (ps_if (pt_cmpR op_eq (pv 1) pe_str (nomark _))
  (pss_one (ps_ret (pe_mth mc_M_cut_out (hr.mono (by decide)) (pe_fld (pv 0) rfl) (pa_cons (pe_ix ix_list (pv 2) pe_int (fun _ _ => rfl)) (pa_cons (pe_ix ix_list (pv 2) pe_int (fun _ _ => rfl)) (pa_cons (pe_ix ix_list (pv 2) pe_int (fun _ _ => rfl)) pa_nil))))))
  pss_nil)
 (pss_cons (ps_if (pt_cmpR op_eq (pv 1) pe_str (nomark _))
  (pss_one (ps_ret (pe_mth mc_M_joined (hr.mono (by decide)) (pe_fld (pv 0) rfl) (pa_cons (pe_ix ix_list (pv 2) pe_int (fun _ _ => rfl)) (pa_cons (pe_ix ix_list (pv 2) pe_int (fun _ _ => rfl)) pa_nil)))))
  pss_nil)
 (pss_cons (ps_if (pt_cmpR op_eq (pv 1) pe_str (nomark _))
  (pss_one (ps_ret (pe_mth mc_M_turned (hr.mono (by decide)) (pe_fld (pv 0) rfl) (pa_cons (pe_ix ix_list (pv 2) pe_int (fun _ _ => rfl)) pa_nil))))
  pss_nil)
 (pss_one (ps_ret (pe_mth mc_M_flipped (hr.mono (by decide)) (pe_fld (pv 0) rfl) (pa_cons (pe_ix ix_list (pv 2) pe_int (fun _ _ => rfl)) pa_nil))))))))))), ?_⟩
  obtain ⟨di, hd⟩ := D.o
  have M := D.m
  obtain ⟨xi, hx⟩ := M.o
  refine ⟨_, rfl, rfl, _, rfl, ?_⟩
  cases dd with
  | row r hw hl =>
    rw [weq rfl]
    refine iteT ?_
    refine ⟨_, rfl, d, _, di, _, _, rfl, hd, z.o_Desk, z.dM, rfl, x, xi, _, rfl, hx, rfl, _, rfl, x, ka, b, v, low, L, rs, cs, _, rfl, M, SqL.of hv, hw, hl, hn, fun H' k m => q H' k (D.made k m)⟩
  | put j pl num r g hp h0 h1 hl =>
    rw [wne (by decide +kernel)]
    refine iteF ⟨_, rfl, rfl, _, rfl, ?_⟩
    rw [weq rfl]
    refine iteT ?_
    exact ⟨_, rfl, d, _, di, _, _, rfl, hd, z.o_Desk, z.dM, rfl, x, xi, _, rfl, hx, rfl, _, rfl, v, _, _, _, rfl, rfl, SqL.of hv, rfl, _, rfl, v, _, _, _, rfl, rfl, SqL.of hv, rfl, _, rfl, v, _, _, _, rfl, rfl, SqL.of hv, rfl, x, ka, b, j, pl, low, num, L, rs, cs, r, rfl, M, g, hp, h0, h1, hl, hn, fun H' k m => q H' k (D.made k m)⟩
  | take j pl n r g gn =>
    rw [wne (by decide +kernel)]
    refine iteF ⟨_, rfl, rfl, _, rfl, ?_⟩
    rw [wne (by decide +kernel)]
    refine iteF ⟨_, rfl, rfl, _, rfl, ?_⟩
    rw [weq rfl]
    refine iteT ?_
    exact ⟨_, rfl, d, _, di, _, _, rfl, hd, z.o_Desk, z.dM, rfl, x, xi, _, rfl, hx, rfl, _, rfl, v, _, _, _, rfl, rfl, SqL.of hv, rfl, _, rfl, v, _, _, _, rfl, rfl, SqL.of hv, rfl, x, ka, b, j, pl, low, n, L, rs, cs, r, rfl, M, g, gn, hn, fun H' k m => q H' k (D.made k m)⟩
  | set j pl n num r g gn h0 h1 =>
    rw [wne (by decide +kernel)]
    refine iteF ⟨_, rfl, rfl, _, rfl, ?_⟩
    rw [wne (by decide +kernel)]
    refine iteF ⟨_, rfl, rfl, _, rfl, ?_⟩
    rw [wne (by decide +kernel)]
    refine iteF ⟨_, rfl, rfl, _, rfl, ?_⟩
    rw [weq rfl]
    refine iteT ?_
    exact ⟨_, rfl, d, _, di, _, _, rfl, hd, z.o_Desk, z.dM, rfl, x, xi, _, rfl, hx, rfl, _, rfl, v, _, _, _, rfl, rfl, SqL.of hv, rfl, _, rfl, v, _, _, _, rfl, rfl, SqL.of hv, rfl, _, rfl, v, _, _, _, rfl, rfl, SqL.of hv, rfl, x, ka, b, j, pl, low, n, num, L, rs, cs, r, rfl, M, g, gn, h0, h1, hn, fun H' k m => q H' k (D.made k m)⟩
  | cut j st en r g h0 h1 =>
    rw [wne (by decide +kernel)]
    refine iteF ⟨_, rfl, rfl, _, rfl, ?_⟩
    rw [wne (by decide +kernel)]
    refine iteF ⟨_, rfl, rfl, _, rfl, ?_⟩
    rw [wne (by decide +kernel)]
    refine iteF ⟨_, rfl, rfl, _, rfl, ?_⟩
    rw [wne (by decide +kernel)]
    refine iteF ⟨_, rfl, rfl, _, rfl, ?_⟩
    rw [weq rfl]
    refine iteT ?_
    exact ⟨_, rfl, d, _, di, _, _, rfl, hd, z.o_Desk, z.dM, rfl, x, xi, _, rfl, hx, rfl, _, rfl, v, _, _, _, rfl, rfl, SqL.of hv, rfl, _, rfl, v, _, _, _, rfl, rfl, SqL.of hv, rfl, _, rfl, v, _, _, _, rfl, rfl, SqL.of hv, rfl, x, ka, b, j, st, en, low, L, rs, cs, r, rfl, M, g, h0, h1, hn, fun H' k m => q H' k (D.made k m)⟩
  | join i j r t g g' hl =>
    rw [wne (by decide +kernel)]
    refine iteF ⟨_, rfl, rfl, _, rfl, ?_⟩
    rw [wne (by decide +kernel)]
    refine iteF ⟨_, rfl, rfl, _, rfl, ?_⟩
    rw [wne (by decide +kernel)]
    refine iteF ⟨_, rfl, rfl, _, rfl, ?_⟩
    rw [wne (by decide +kernel)]
    refine iteF ⟨_, rfl, rfl, _, rfl, ?_⟩
    rw [wne (by decide +kernel)]
    refine iteF ⟨_, rfl, rfl, _, rfl, ?_⟩
    rw [weq rfl]
    refine iteT ?_
    exact ⟨_, rfl, d, _, di, _, _, rfl, hd, z.o_Desk, z.dM, rfl, x, xi, _, rfl, hx, rfl, _, rfl, v, _, _, _, rfl, rfl, SqL.of hv, rfl, _, rfl, v, _, _, _, rfl, rfl, SqL.of hv, rfl, x, ka, b, i, j, low, L, rs, cs, r, t, rfl, M, g, g', hl, hn, fun H' k m => q H' k (D.made k m)⟩
  | turn j r g =>
    rw [wne (by decide +kernel)]
    refine iteF ⟨_, rfl, rfl, _, rfl, ?_⟩
    rw [wne (by decide +kernel)]
    refine iteF ⟨_, rfl, rfl, _, rfl, ?_⟩
    rw [wne (by decide +kernel)]
    refine iteF ⟨_, rfl, rfl, _, rfl, ?_⟩
    rw [wne (by decide +kernel)]
    refine iteF ⟨_, rfl, rfl, _, rfl, ?_⟩
    rw [wne (by decide +kernel)]
    refine iteF ⟨_, rfl, rfl, _, rfl, ?_⟩
    rw [wne (by decide +kernel)]
    refine iteF ⟨_, rfl, rfl, _, rfl, ?_⟩
    rw [weq rfl]
    refine iteT ?_
    exact ⟨_, rfl, d, _, di, _, _, rfl, hd, z.o_Desk, z.dM, rfl, x, xi, _, rfl, hx, rfl, _, rfl, v, _, _, _, rfl, rfl, SqL.of hv, rfl, x, ka, b, j, low, L, rs, cs, r, rfl, M, g, hn, fun H' k m => q H' k (D.made k m)⟩
  | flip j r g =>
    rw [wne (by decide +kernel)]
    refine iteF ⟨_, rfl, rfl, _, rfl, ?_⟩
    rw [wne (by decide +kernel)]
    refine iteF ⟨_, rfl, rfl, _, rfl, ?_⟩
    rw [wne (by decide +kernel)]
    refine iteF ⟨_, rfl, rfl, _, rfl, ?_⟩
    rw [wne (by decide +kernel)]
    refine iteF ⟨_, rfl, rfl, _, rfl, ?_⟩
    rw [wne (by decide +kernel)]
    refine iteF ⟨_, rfl, rfl, _, rfl, ?_⟩
    rw [wne (by decide +kernel)]
    refine iteF ⟨_, rfl, rfl, _, rfl, ?_⟩
    rw [wne (by decide +kernel)]
    refine iteF ?_
    exact ⟨_, rfl, d, _, di, _, _, rfl, hd, z.o_Desk, z.dM, rfl, x, xi, _, rfl, hx, rfl, _, rfl, v, _, _, _, rfl, rfl, SqL.of hv, rfl, x, ka, b, j, low, L, rs, cs, r, rfl, M, g, hn, fun H' k m => q H' k (D.made k m)⟩
theorem ok_M_say (z : Bz K mg cLeastError cBeyond cNoSuch cTooMany cNoText cNoRow cMakes cDesk) (mc_M_made : MCal P w K mg base k_M_made cDesk "made" ["self", "name", "values"] (sp_M_made K cDesk cMakes)) (mc_M_row : MCal P w K mg base k_M_row cMakes "row" ["self", "make"] (sp_M_row K cMakes)) (c_read_said : Cal P w K mg base k_read_said "read_said" ["row"] (sp_read_said K)) (c_show_number : Cal P w K mg base k_show_number "show_number" ["number"] (sp_show_number K)) (c_show_row : Cal P w K mg base k_show_row "show_row" ["row"] (sp_show_row K)) : MCal P w K mg base k_M_say cDesk "say" ["self", "row"] (sp_M_say K cDesk cMakes) := by
  have sc := sc_M_say
  refine z.d_M_say.cal z.o_Desk fun f fd F => F.ok sc (fun vs H Q E h => ?_) (fun cdv A outer s H vs Q E hr h => ?_)
  · obtain ⟨d, x, ka, b, low, L, rs, cs, y, rfl, _⟩ := h
    rfl
  obtain ⟨d, x, ka, b, low, L, rs, cs, y, rfl, D, q⟩ := h
  refine ⟨_, (pss_cons (ps_set (i := 2) sc.nd rfl (Or.inl rfl) (pe_fn c_read_said (hr.mono (by decide)) (by rfl) (pa_cons (pv 1) pa_nil)))
 (pss_cons (ps_set (i := 3) sc.nd rfl (Or.inl rfl) (pe_ix ix_tup (pv 2) pe_int (fun _ _ => rfl)))
 (pss_cons (ps_set (i := 4) sc.nd rfl (Or.inl rfl) (pe_ix ix_tup (pv 2) pe_int (fun _ _ => rfl)))
 (pss_cons (ps_set (i := 5) sc.nd rfl (Or.inl rfl) (pe_ix ix_tup (pv 2) pe_int (fun _ _ => rfl)))
 (pss_cons (ps_if (pt_cmpR op_eq (pv 4) pe_str (nomark _))
  (pss_one (ps_ret (pe_fn c_show_row (hr.mono (by decide)) (by rfl) (pa_cons (pe_mth mc_M_row (hr.mono (by decide)) (pe_fld (pv 0) rfl) (pa_cons (pe_ix ix_list (pv 5) pe_int (fun _ _ => rfl)) pa_nil)) pa_nil))))
  pss_nil)
 (pss_cons (ps_if (pt_cmpR op_eq (pv 4) pe_str (nomark _))
  (pss_one ps_never)
  pss_nil)
 (pss_cons (ps_if (pt_cmpR op_in_seq (pv 4) (pe_tup (pa_cons pe_str (pa_cons pe_str (pa_cons pe_str (pa_cons pe_str (pa_cons pe_str (pa_cons pe_str (pa_cons pe_str pa_nil)))))))) rfl)
  (pss_cons ps_never
 (pss_one ps_never))
  pss_nil)
 (pss_one (ps_ret (pe_fn c_show_number (hr.mono (by decide)) (by rfl) (pa_cons (pe_mth mc_M_made (hr.mono (by decide)) (pv 0) (pa_cons (pv 4) (pa_cons (pv 5) pa_nil))) pa_nil))))))))))), ?_⟩
  obtain ⟨di, hd⟩ := D.o
  have M := D.m
  obtain ⟨xi, hx⟩ := M.o
  have few := M.few
  have hbd : ∀ {j : Nat} {r : List Int}, rs[j]? = some r → BdN r ∧ r.length ≤ 1000 ∧ j ≤ 1000 := fun {j r} g => by
    obtain ⟨hw, hl⟩ := M.sz g
    have hp := p40 M.hL
    have := D.lo
    have := D.hi
    have := (List.getElem?_eq_some_iff.mp g).1
    exact ⟨fun n hn => by have := hw n hn; omega, by omega, by omega⟩
  rcases q with ⟨j, r, rfl, g, q⟩ | ⟨nm, ns, r, c, rfl, hn, dd, q⟩
  · obtain ⟨hb, hl, hj⟩ := hbd g
    refine ⟨_, rfl, _, _, _, rfl, say1 (by decide +kernel) hj, fun p v H1 s1 ep ev => ?_⟩
    refine ⟨_, rfl, p, _, _, _, rfl, rfl, SqT.of ep, rfl, ?_⟩
    refine ⟨_, rfl, p, _, _, _, rfl, rfl, SqT.of ep, rfl, ?_⟩
    refine ⟨_, rfl, p, _, _, _, rfl, rfl, SqT.of ep, rfl, ?_⟩
    refine ⟨_, rfl, rfl, _, rfl, ?_⟩
    rw [weq rfl]
    refine iteT ?_
    refine ⟨_, rfl, d, _, di, _, _, rfl, s1 _ _ hd, z.o_Desk, z.dM, rfl, x, xi, _, rfl, s1 _ _ hx, rfl, _, rfl, v, _, _, _, rfl, rfl, SqL.of ev, rfl, x, ka, b, j, low, L, rs, cs, r, rfl, M.same s1, g, fun H2 D2 s2 e2 _ => ?_⟩
    exact ⟨D2, r, rfl, SqL.of e2, hb, hl, fun H3 s3 => q H3 (s1.trans (s2.trans s3))⟩
  · obtain ⟨ks, S⟩ := dd.say M.hL M.few (fun r hr => (M.ok r hr).2) D.lo D.hi
    refine ⟨_, rfl, nm, ks, ns, rfl, S, fun p v H1 s1 ep ev => ?_⟩
    refine ⟨_, rfl, p, _, _, _, rfl, rfl, SqT.of ep, rfl, ?_⟩
    refine ⟨_, rfl, p, _, _, _, rfl, rfl, SqT.of ep, rfl, ?_⟩
    refine ⟨_, rfl, p, _, _, _, rfl, rfl, SqT.of ep, rfl, ?_⟩
    refine ⟨_, rfl, rfl, _, rfl, ?_⟩
    rw [wne (nm_not dd.nm).1]
    refine iteF ⟨_, rfl, rfl, _, rfl, ?_⟩
    rw [wne (nm_not dd.nm).2.1]
    refine iteF ⟨_, rfl, szb rfl, fun t ht => ?_⟩
    have s2 : Same H1 (upd H1 t (.tup qry)) := same_new ht _
    have e2 : upd H1 t (.tup qry) t = some (.tup qry) := upd_same
    generalize upd H1 t (.tup qry) = H2 at *
    refine ⟨t, qry, rfl, .inr (SqT.of e2), rfl, rfl, ?_⟩
    rw [(nm_not dd.nm).2.2]
    refine ⟨_, rfl, ?_⟩
    refine iteF ?_
    have s12 := s1.trans s2
    refine ⟨_, rfl, d, di, _, rfl, s12 _ _ hd, rfl, _, rfl, _, rfl, d, x, ka, b, v, low, L, rs, cs, nm, ns, r, c, rfl, s2 _ _ ev, D.same s12, hn, dd, fun H3 k3 D3 => ?_⟩
    exact ⟨_, rfl, by omega, by omega, q H3 ((Keep.same s12).trans k3) D3⟩
end
/-! ### the texts of deeds -/
theorem app_assoc (a b c : Str) : a ++ b ++ c = a ++ (b ++ c) := str_eq (by simp only [PyProof.Rows.cps_toList_append, List.append_assoc])
theorem app_len (a b : Str) : (a ++ b).length = a.length + b.length := by
  have e : ∀ x : Str, x.length = x.cps.toList.length := fun x => by simp [Str.length]
  rw [e, e a, e b, PyProof.Rows.cps_toList_append, List.length_append]
theorem say_t1 {nm nm' : Str} (h : nm' = nm ++ ⟨#[32]⟩) (a : Int) : nm' ++ tx a = sayT nm [a] := by
  subst h
  rfl
theorem say_t2 {nm nm' : Str} (h : nm' = nm ++ ⟨#[32]⟩) (a b : Int) : nm' ++ (tx a ++ " " ++ tx b) = sayT nm [a, b] := by
  subst h
  rw [spc]
  rfl
theorem say_t2' {nm nm' : Str} (h : nm' = nm ++ ⟨#[32]⟩) (a b : Int) : nm' ++ tx a ++ " " ++ tx b = sayT nm [a, b] := by
  rw [← say_t2 h]
  simp only [app_assoc]
theorem say_t3 {nm nm' : Str} (h : nm' = nm ++ ⟨#[32]⟩) (a b c : Int) : nm' ++ (tx a ++ " " ++ tx b) ++ " " ++ tx c = sayT nm [a, b, c] := by
  have e : sayT nm [a, b, c] = nm ++ ⟨#[32]⟩ ++ (tx a ++ ⟨#[32]⟩ ++ (tx b ++ ⟨#[32]⟩ ++ tx c)) := rfl
  rw [e, h, spc]
  simp only [app_assoc]
theorem say_t3' {nm nm' : Str} (h : nm' = nm ++ ⟨#[32]⟩) (a b c : Int) : nm' ++ tx a ++ " " ++ tx b ++ " " ++ tx c = sayT nm [a, b, c] := by
  rw [← say_t3 h]
  simp only [app_assoc]
theorem join_last : ∀ (xs : List Str), xs ≠ [] → ∃ (A : List Nat) (p : Str), p ∈ xs ∧ (Str.join ⟨#[32]⟩ xs).cps.toList = A ++ p.cps.toList
  | [], h => absurd rfl h
  | [x], _ => ⟨[], x, List.mem_cons_self .., rfl⟩
  | x :: y :: r, _ => by
    obtain ⟨A, p, h1, h2⟩ := join_last (y :: r) (by simp)
    refine ⟨x.cps.toList ++ (32 :: A), p, List.mem_cons_of_mem _ h1, ?_⟩
    rw [join_cons, h2]
    simp
theorem strip_same {x : Str} {c d : Nat} {l r : List Nat} (h1 : x.cps.toList = c :: l) (h2 : x.cps.toList.reverse = d :: r) (hc : c ≠ 32) (hd : d ≠ 32) : Txt.stripChars x " " = x := by
  have g : ∀ n : Nat, n ≠ 32 → (" " : Str).cps.contains n = false := fun n hn => by
    rw [show (" " : Str).cps = #[32] by decide +kernel]
    simp [hn]
  have lo : stripLo (" " : Str).cps.contains true x = 0 := by
    unfold stripLo
    rw [if_pos rfl, h1, List.takeWhile_cons, g c hc]
    rfl
  have hi : stripHi (" " : Str).cps.contains true x 0 = x.length := by
    unfold stripHi
    rw [if_pos rfl, List.drop_zero, h2, List.takeWhile_cons, g d hd]
    rfl
  have hs : stripSame (" " : Str).cps.contains true true x = true := by
    unfold stripSame
    rw [lo, hi, beq_self_eq_true, beq_self_eq_true]
    rfl
  unfold Txt.stripChars Txt.stripBy
  rw [if_pos hs]
theorem say_row {r : List Int} (h : BdN r) : Txt.stripChars ("row " ++ rowT r) " " = sayT "row" r := by
  cases r with
  | nil => decide +kernel
  | cons n r =>
    have e : "row " ++ rowT (n :: r) = sayT "row" (n :: r) := by
      have hj : rowT (n :: r) = Str.join ⟨#[32]⟩ ((n :: r).map tx) := by
        unfold rowT
        rw [spc]
        exact PySem.StrLaws.glued_eq_join _ _
      rw [hj, show ("row " : Str) = "row" ++ ⟨#[32]⟩ by decide +kernel]
      rfl
    rw [e]
    obtain ⟨A, p, h1, h2⟩ := join_last ("row" :: (n :: r).map tx) (by simp)
    have hp : p.cps.toList ≠ [] ∧ 32 ∉ p.cps.toList := by
      rcases List.mem_cons.mp h1 with rfl | h1
      · decide +kernel
      · obtain ⟨m, hm, rfl⟩ := List.mem_map.mp h1
        refine ⟨fun z => ?_, fg_no32⟩
        have hr := rd_fg (h m hm).1 (h m hm).2
        have z' : fg m = [] := z
        rw [z'] at hr
        cases hr
    cases ep : p.cps.toList.reverse with
    | nil => exact absurd (List.reverse_eq_nil_iff.mp ep) hp.1
    | cons d l =>
      refine strip_same (c := 114) (d := d) (r := l ++ A.reverse) (l := [111, 119] ++ (32 :: (Str.join ⟨#[32]⟩ ((n :: r).map tx)).cps.toList)) ?_ ?_ (by decide) ?_
      · rw [show sayT "row" (n :: r) = Str.join ⟨#[32]⟩ ("row" :: tx n :: r.map tx) from rfl, join_cons, show ("row" : Str).cps.toList = [114, 111, 119] by decide +kernel]
        rfl
      · rw [h2, List.reverse_append, ep]
        rfl
      · intro z
        have : d ∈ p.cps.toList := List.mem_reverse.mp (by rw [ep]; exact List.mem_cons_self ..)
        rw [z] at this
        exact hp.2 this
abbrev k__law_text : Nat := 1
def sp__law_text (K : PySem.W.Frag) : Sp := fun vs H Q _ => ∃ (r : Addr) (ns : List Int), vs = [.ref r] ∧ SqL K H r (ns.map V.int) ∧ BdN ns ∧ ns.length ≤ 1000 ∧ ∀ H', Same H H' → Q (.str (rowT ns)) H'
section
variable {P : Program} {w : World} {K : PySem.W.Frag} {mg : Str → Option Value} {base : Heap}
theorem ok__law_text (d : Def K mg "_law_text" s__law_text ["_law_row_here"]) (z : Bz K mg cLeastError cBeyond cNoSuch cTooMany cNoText cNoRow cMakes cDesk)  : Cal P w K mg base k__law_text "_law_text" ["_law_row_here"] (sp__law_text K) := by
  have sc := sc__law_text
  refine d.cal fun f fd F => F.ok sc (fun vs H Q E h => ?_) (fun cdv A outer s H vs Q E hr h => ?_)
  · obtain ⟨r, ns, rfl, _⟩ := h
    rfl
  obtain ⟨r, ns, rfl, hS, hb, hl, q⟩ := h
  refine ⟨_, (pss_one (ps_ret (pe_bm PySem.F.plainAttrs_str PySem.F.slot_str_join PySem.F.type_str_join mt_join pe_str (pa_cons (pe_comp (cl := []) (cn := []) (N := []) (fr := []) (sc0 := defScope s__law_text) rfl (pi_list (pv 0)) (fun C s₂ H₂ fp => (pe_callTy call_str_int (by rfl) z.str_ bt_str (pa_cons (pv 0) pa_nil))) (by with_unfolding_all rfl) trivial rfl rfl rfl ⟨by decide +kernel, by decide +kernel, by decide +kernel, by decide +kernel, by decide +kernel, by decide +kernel, by decide +kernel⟩ rfl) pa_nil)))), ?_⟩
  refine ⟨rfl, _, rfl, r, rfl, ⟨_, hS⟩, fun D hD => comp_listM (K := K) (xs := ns.map V.int) (g := gTx) hS hD (by rw [List.length_map]; exact sl51 (by omega)) ?_ ?_⟩
  · rintro x hx H1 Q1 s1 q1
    obtain ⟨n, hn, rfl⟩ := List.mem_map.mp hx
    have := hb n hn
    exact ⟨_, rfl, n, rfl, lg60 (by omega) (by omega), q1⟩
  · rw [gTx_map]
    exact ⟨" ", D, ns.map tx, rfl, rfl, SqL.of upd_same, join_ok hb hl, q _ (same_new hD _)⟩
end
/-! ### a deed -/
def RwsAt (H : Hp) (rl : Addr) (rs : List (List Int)) : Prop := ∃ ras : List Addr, H rl = some (.lst (ras.map V.ref)) ∧ ras.length = rs.length ∧ ∀ (j : Nat) (r : List Int), rs[j]? = some r → ∃ ra, ras[j]? = some ra ∧ H ra = some (.lst (r.map V.int))
def Kp2 (p q : Addr) (H H' : Hp) : Prop := ∀ a o, a ≠ p → a ≠ q → H a = some o → H' a = some o
theorem pen_rl {H : Hp} {pen rl : Addr} {l : List Addr} (P : PenM H pen) (h : H rl = some (.lst (l.map V.ref))) : rl ≠ pen := by
  obtain ⟨c, b, n, hp⟩ := P
  refine ne_of h hp ?_
  intro e
  cases l with
  | nil => cases e
  | cons a l => simp at e
theorem pen_ra {H : Hp} {pen ra : Addr} {l : List Int} (P : PenM H pen) (h : H ra = some (.lst (l.map V.int))) : ra ≠ pen := by
  obtain ⟨c, b, n, hp⟩ := P
  refine ne_of h hp ?_
  intro e
  match l, e with
  | [], e => cases e
  | [_], e => simp at e
  | a :: d :: l, e => simp at e
theorem Mks.first {C : Addr} {H : Hp} {x ka b : Addr} {low : Int} {L : Nat} {rs cs : List (List Int)} (M : Mks C H x ka b low L rs cs) (h : 0 < rs.length) : ∃ (p : Addr) (es : List V), H ka = some (.lst (.ref p :: es)) := by
  obtain ⟨es, e1, e2, e3⟩ := M.hk
  have := M.len
  obtain ⟨p, a, v, q1, _⟩ := e3 0 _ _ (List.getElem?_eq_getElem h) (List.getElem?_eq_getElem (by omega))
  cases es with
  | nil => cases q1
  | cons u es =>
    obtain rfl : u = .ref p := Option.some.inj q1
    exact ⟨p, es, e1⟩
theorem Mks.pen {C : Addr} {H : Hp} {x ka b pen : Addr} {low : Int} {L : Nat} {rs cs : List (List Int)} (M : Mks C H x ka b low L rs cs) (h : 0 < rs.length) (P : PenM H pen) : ka ≠ pen := by
  obtain ⟨p, es, e⟩ := M.first h
  obtain ⟨c, b, n, hp⟩ := P
  exact ne_of e hp (by intro z; cases z)
theorem rowT_len {ns : List Int} (h : BdN ns) : (rowT ns).length ≤ ns.length * 52 := by
  have := join_len (B := 51) (ns.map tx) fun p hp => by
    obtain ⟨m, hm, rfl⟩ := List.mem_map.mp hp
    exact tx_len (h m hm).1 (h m hm).2
  rw [List.length_map] at this
  have e : (rowT ns).length = (rowT ns).cps.toList.length := by simp [Str.length]
  have hj : rowT ns = Str.join ⟨#[32]⟩ (ns.map tx) := by
    unfold rowT
    rw [spc]
    exact PySem.StrLaws.glued_eq_join _ _
  rw [e, hj]
  exact this
theorem ln {n : Nat} (h : n ≤ 1000) : n ≤ sizeLine := sl51 (by omega)
theorem lnw : ("put " : Str).length ≤ 5 ∧ ("take " : Str).length ≤ 5 ∧ ("set " : Str).length ≤ 5 ∧ ("cut " : Str).length ≤ 5 ∧ ("join " : Str).length ≤ 5 ∧ ("turn " : Str).length ≤ 5 ∧ ("flip " : Str).length ≤ 5 ∧ ("row " : Str).length ≤ 5 ∧ (" " : Str).length ≤ 5 := by decide +kernel
abbrev k__law_deed : Nat := 4
def sp__law_deed (_ : PySem.W.Frag) : Sp := fun vs H Q _ => ∃ (pen b rl : Addr) (low : Int) (L : Nat) (rs : List (List Int)) (N : Nat), vs = [.ref pen, .ref b, .ref rl] ∧ PenM H pen ∧ RwsAt H rl rs ∧ H b = some (.tup [.int low, .int (L : Int)]) ∧ L ≤ 40 ∧ 0 < rs.length ∧ rs.length ≤ 99 ∧ (∀ r ∈ rs, Wths low L r ∧ r.length ≤ N) ∧ 61 ≤ N ∧ N ≤ 150 ∧ -(10 ^ 40) < low ∧ low < 10 ^ 40 ∧
  ∀ (p ra : Addr) (nm : Str) (ns r c : List Int) (H' : Hp), H' p = some (.tup [.str (sayT nm ns), .ref ra]) → H' ra = some (.lst (r.map V.int)) → r.length ≤ N + 1 → Dd low L rs nm ns r c → Wths low L r → Keep pen H H' → PenM H' pen → Q (.ref p) H'
section
variable {P : Program} {w : World} {K : PySem.W.Frag} {mg : Str → Option Value} {base : Heap}
theorem ok__law_deed (d : Def K mg "_law_deed" s__law_deed ["_law_pen_here", "_law_bounds_here", "_law_rows"]) (z : Bz K mg cLeastError cBeyond cNoSuch cTooMany cNoText cNoRow cMakes cDesk) (c__law_row : Cal P w K mg base k__law_row "_law_row" ["_law_pen_here", "_law_bounds_here", "_law_longest"] (sp__law_row K)) (c__law_take : Cal P w K mg base k__law_take "_law_take" ["_law_pen_here", "_law_size"] (sp__law_take K)) (c__law_text : Cal P w K mg base k__law_text "_law_text" ["_law_row_here"] (sp__law_text K)) (c__law_worth : Cal P w K mg base k__law_worth "_law_worth" ["_law_pen_here", "_law_bounds_here", "_law_row_here"] (sp__law_worth K)) : Cal P w K mg base k__law_deed "_law_deed" ["_law_pen_here", "_law_bounds_here", "_law_rows"] (sp__law_deed K) := by
  have sc := sc__law_deed
  refine d.cal fun f fd F => F.ok sc (fun vs H Q E h => ?_) (fun cdv A outer s H vs Q E hr h => ?_)
  · obtain ⟨pen, b, rl, low, L, rs, N, rfl, _⟩ := h
    rfl
  obtain ⟨pen, b, rl, low, L, rs, N, rfl, P0, R0, hb, hL, hne, hn, hN, hN1, hN2, lo0, lo1, q⟩ := h
  refine ⟨_, (pss_cons (ps_set (i := 3) sc.nd rfl (Or.inl rfl) (pe_fn c__law_take (hr.mono (by decide)) (by rfl) (pa_cons (pv 0) (pa_cons (pe_callB call_len_seq (by rfl) z.len_ bt_len (pa_cons (pv 2) pa_nil)) pa_nil))))
 (pss_cons (ps_set (i := 4) sc.nd rfl (Or.inl rfl) (pe_ix ix_list (pv 2) (pv 3) (fun _ _ => rfl)))
 (pss_cons (ps_set (i := 5) sc.nd rfl (Or.inl rfl) (pe_fn c__law_take (hr.mono (by decide)) (by rfl) (pa_cons (pv 0) (pa_cons pe_int pa_nil))))
 (pss_cons (ps_set (i := 6) sc.nd rfl (Or.inl rfl) (pe_fn c__law_take (hr.mono (by decide)) (by rfl) (pa_cons (pv 0) (pa_cons (pe_op op_add (pe_callB call_len_seq (by rfl) z.len_ bt_len (pa_cons (pv 4) pa_nil)) pe_int) pa_nil))))
 (pss_cons (ps_set (i := 7) sc.nd rfl (Or.inl rfl) (pe_fn c__law_worth (hr.mono (by decide)) (by rfl) (pa_cons (pv 0) (pa_cons (pv 1) (pa_cons (pv 4) pa_nil)))))
 (pss_cons (ps_set (i := 8) sc.nd rfl (Or.inl rfl) (pe_op op_add_str (pe_op op_add_str (pe_callTy call_str_int (by rfl) z.str_ bt_str (pa_cons (pv 3) pa_nil)) pe_str) (pe_callTy call_str_int (by rfl) z.str_ bt_str (pa_cons (pv 6) pa_nil))))
 (pss_cons (ps_if (pt_cmpR op_eq (pv 5) pe_int (nomark _))
  (pss_one (ps_ret (pe_tup (pa_cons (pe_op op_add_str (pe_op op_add_str (pe_op op_add_str pe_str (pv 8)) pe_str) (pe_callTy call_str_int (by rfl) z.str_ bt_str (pa_cons (pv 7) pa_nil))) (pa_cons (pe_op op_cat (pe_op op_cat (pe_slice sl_list (pv 4) po_none (po_some (pv 6))) (pe_lst (pa_cons (pv 7) pa_nil))) (pe_slice sl_list (pv 4) (po_some (pv 6)) po_none)) pa_nil)))))
  pss_nil)
 (pss_cons (ps_join (ps_if (PW.pt (pw_and (pt_cmpR op_eq (pv 5) pe_int (nomark _)) (pw_and1 (pt_cmpR op_lt (pv 6) (pe_callB call_len_seq (by rfl) z.len_ bt_len (pa_cons (pv 4) pa_nil)) (nomark _)))))
  (pss_one (ps_ret (pe_tup (pa_cons (pe_op op_add_str pe_str (pv 8)) (pa_cons (pe_op op_cat (pe_slice sl_list (pv 4) po_none (po_some (pv 6))) (pe_slice sl_list (pv 4) (po_some (pe_op op_add (pv 6) pe_int)) po_none)) pa_nil)))))
  pss_nil))
 (pss_cons (ps_join (ps_if (PW.pt (pw_and (pt_cmpR op_eq (pv 5) pe_int (nomark _)) (pw_and1 (pt_cmpR op_lt (pv 6) (pe_callB call_len_seq (by rfl) z.len_ bt_len (pa_cons (pv 4) pa_nil)) (nomark _)))))
  (pss_one (ps_ret (pe_tup (pa_cons (pe_op op_add_str (pe_op op_add_str (pe_op op_add_str pe_str (pv 8)) pe_str) (pe_callTy call_str_int (by rfl) z.str_ bt_str (pa_cons (pv 7) pa_nil))) (pa_cons (pe_op op_cat (pe_op op_cat (pe_slice sl_list (pv 4) po_none (po_some (pv 6))) (pe_lst (pa_cons (pv 7) pa_nil))) (pe_slice sl_list (pv 4) (po_some (pe_op op_add (pv 6) pe_int)) po_none)) pa_nil)))))
  pss_nil))
 (pss_cons (ps_if (pt_cmpR op_eq (pv 5) pe_int (nomark _))
  (pss_cons (ps_set (i := 9) sc.nd rfl (Or.inl rfl) (pe_fn c__law_take (hr.mono (by decide)) (by rfl) (pa_cons (pv 0) (pa_cons (pe_op op_add (pv 6) pe_int) pa_nil))))
 (pss_one (ps_ret (pe_tup (pa_cons (pe_op op_add_str (pe_op op_add_str (pe_op op_add_str (pe_op op_add_str (pe_op op_add_str pe_str (pe_callTy call_str_int (by rfl) z.str_ bt_str (pa_cons (pv 3) pa_nil))) pe_str) (pe_callTy call_str_int (by rfl) z.str_ bt_str (pa_cons (pv 9) pa_nil))) pe_str) (pe_callTy call_str_int (by rfl) z.str_ bt_str (pa_cons (pv 6) pa_nil))) (pa_cons (pe_slice sl_list (pv 4) (po_some (pv 9)) (po_some (pv 6))) pa_nil))))))
  pss_nil)
 (pss_cons (ps_set (i := 10) sc.nd rfl (Or.inl rfl) (pe_fn c__law_take (hr.mono (by decide)) (by rfl) (pa_cons (pv 0) (pa_cons (pe_callB call_len_seq (by rfl) z.len_ bt_len (pa_cons (pv 2) pa_nil)) pa_nil))))
 (pss_cons (ps_join (ps_if (PW.pt (pw_and (pt_cmpR op_eq (pv 5) pe_int (nomark _)) (pw_and1 (pt_cmpR op_lt (pe_op op_add (pe_callB call_len_seq (by rfl) z.len_ bt_len (pa_cons (pv 4) pa_nil)) (pe_callB call_len_seq (by rfl) z.len_ bt_len (pa_cons (pe_ix ix_list (pv 2) (pv 10) (fun _ _ => rfl)) pa_nil))) pe_int (nomark _)))))
  (pss_one (ps_ret (pe_tup (pa_cons (pe_op op_add_str (pe_op op_add_str (pe_op op_add_str pe_str (pe_callTy call_str_int (by rfl) z.str_ bt_str (pa_cons (pv 3) pa_nil))) pe_str) (pe_callTy call_str_int (by rfl) z.str_ bt_str (pa_cons (pv 10) pa_nil))) (pa_cons (pe_op op_cat (pv 4) (pe_ix ix_list (pv 2) (pv 10) (fun _ _ => rfl))) pa_nil)))))
  pss_nil))
 (pss_cons (ps_if (pt_cmpR op_eq (pv 5) pe_int (nomark _))
  (pss_one (ps_ret (pe_tup (pa_cons (pe_op op_add_str pe_str (pe_callTy call_str_int (by rfl) z.str_ bt_str (pa_cons (pv 3) pa_nil))) (pa_cons (pe_rev (pv 4)) pa_nil)))))
  pss_nil)
 (pss_cons (ps_if (pt_cmpR op_eq (pv 5) pe_int (nomark _))
  (pss_cons (ps_set (i := 11) sc.nd rfl (Or.inr rfl) (pe_op op_sub (pe_op op_add (pe_op op_mul pe_int (pe_ix ix_tup (pv 1) pe_int (fun _ _ => rfl))) (pe_op op_shl pe_int (pe_ix ix_tup (pv 1) pe_int (fun _ _ => rfl)))) pe_int))
 (pss_one (ps_ret (pe_tup (pa_cons (pe_op op_add_str pe_str (pe_callTy call_str_int (by rfl) z.str_ bt_str (pa_cons (pv 3) pa_nil))) (pa_cons (pe_comp (cl := [("_law_both", s.heap.objs.size + 1 + 0)]) (cn := ["_law_both"]) (N := ["_law_both"]) (fr := [11]) (sc0 := defScope s__law_deed) rfl (pi_list (pv 4)) (fun C s₂ H₂ fp => (pe_op op_sub (pv 1) (pv 0))) (by with_unfolding_all rfl) ⟨by with_unfolding_all rfl, trivial⟩ rfl rfl rfl ⟨by decide +kernel, by decide +kernel, by decide +kernel, by decide +kernel, by decide +kernel, by decide +kernel, by decide +kernel⟩ rfl) pa_nil))))))
  pss_nil)
 (pss_cons (ps_set (i := 4) sc.nd rfl (Or.inl rfl) (pe_fn c__law_row (hr.mono (by decide)) (by rfl) (pa_cons (pv 0) (pa_cons (pv 1) (pa_cons (pe_ix ix_list (pe_lst (pa_cons pe_int (pa_cons pe_int pa_nil))) (pe_callTy call_int1 (by rfl) z.int_ bt_int (pa_cons (pe_cmpR op_eq (pe_fn c__law_take (hr.mono (by decide)) (by rfl) (pa_cons (pv 0) (pa_cons pe_int pa_nil))) pe_int (nomark _)) pa_nil)) (fun _ _ => rfl)) pa_nil)))))
 (pss_one (ps_ret (pe_tup (pa_cons (pe_bm PySem.F.plainAttrs_str PySem.F.slot_str_strip PySem.F.type_str_strip mt_strip (pe_op op_add_str pe_str (pe_fn c__law_text (hr.mono (by decide)) (by rfl) (pa_cons (pv 4) pa_nil))) (pa_cons pe_str pa_nil)) (pa_cons (pv 4) pa_nil)))))))))))))))))))), ?_⟩
  obtain ⟨ras, hrl, hras, hrE⟩ := R0
  have hlen : (ras.map V.ref).length = rs.length := by rw [List.length_map]; exact hras
  have hrlp := pen_rl P0 hrl
  have hp2 := p2pos L
  have hq2 := p2le hL
  have hp4 := p40 hL
  refine ⟨_, rfl, _, rfl, rl, _, rfl, .inl (SqL.of hrl), pen, _, rfl, P0, by rw [hlen]; omega, by rw [hlen]; omega, fun mv H1 k1 P1 m0 m1 => ?_⟩
  rw [hlen] at m1
  obtain ⟨m, rfl⟩ := Int.eq_ofNat_of_zero_le m0
  obtain ⟨r, g⟩ : ∃ r, rs[m]? = some r := ⟨rs[m]'(by omega), List.getElem?_eq_getElem _⟩
  obtain ⟨ra, gra, hra⟩ := hrE m r g
  have hrap := pen_ra P0 hra
  obtain ⟨hw, hlr⟩ := hN r (List.mem_of_getElem? g)
  have hlm : (r.map V.int).length = r.length := List.length_map _
  refine ⟨_, rfl, _, rfl, rl, _, _, _, rfl, rfl, SqL.of (k1 _ _ hrlp hrl), atI_nat (by rw [List.getElem?_map, gra]; rfl), ?_⟩
  refine ⟨_, rfl, pen, 9, rfl, P1, by decide, by decide, fun wv H2 k2 P2 w0 w1 => ?_⟩
  have k02 := k1.trans k2
  refine ⟨_, rfl, _, rfl, ra, _, rfl, .inl (SqL.of (k02 _ _ hrap hra)), _, _, rfl, rfl, pen, _, rfl, P2, by omega, by rw [hlm]; omega, fun pv H3 k3 P3 p0 p1 => ?_⟩
  rw [hlm] at p1
  obtain ⟨pl, rfl⟩ := Int.eq_ofNat_of_zero_le p0
  have k03 := k02.trans k3
  have hbp := P0.ne hb
  refine ⟨_, rfl, _, rfl, _, rfl, pen, b, ra, low, L, r, rfl, P3, k03 _ _ hbp hb, hL, k03 _ _ hrap hra, hrap, by omega, hw, fun y H4 k4 P4 y0 y1 => ?_⟩
  have k04 := k03.trans k4
  have hra4 := k04 _ _ hrap hra
  have hrl4 := k04 _ _ hrlp hrl
  have hb4 := k04 _ _ hbp hb
  have hplr : pl ≤ r.length := by omega
  clear k1 k2 k3 k4 k02 k03 P1 P2 P3
  obtain ⟨lput, ltake, lset, lcut, ljoin, lturn, lflip, lrow, lsp⟩ := lnw
  have lm : (tx (m : Int)).length ≤ 51 := tx_len (by omega) (by omega)
  have lp : (tx (pl : Int)).length ≤ 51 := tx_len (by omega) (by omega)
  have ly : (tx y).length ≤ 51 := tx_len (by omega) (by omega)
  have fin : ∀ (G0 G2 : Hp) (ra' : Addr) (nm : Str) (ns r' c' : List Int), Keep pen H G0 → PenM G0 pen → Same G0 G2 → G2 ra' = some (.lst (r'.map V.int)) → r'.length ≤ N + 1 → Dd low L rs nm ns r' c' → Wths low L r' → ∀ t : Str, t = sayT nm ns →
      ∀ p, G2 p = none → Q (.ref p) (upd G2 p (.tup [.str t, .ref ra'])) := by
    rintro G0 G2 ra' nm ns r' c' k0 PP ss e1 e2 dd ww t rfl p hp
    have t1 : Same G2 (upd G2 p (.tup [.str (sayT nm ns), .ref ra'])) := same_new hp _
    have s1 := ss.trans t1
    exact q p ra' nm ns r' c' _ upd_same (t1 _ _ e1) e2 dd ww (k0.trans (.same s1)) (PP.same s1)
  refine ⟨_, rfl, _, rfl, lg60 (by omega) (by omega), _, _, rfl, rfl, ln (by show (tx (m : Int)).length + _ ≤ _; omega), _, rfl, _, rfl, lg60 (by omega) (by omega), _, _, rfl, rfl, ln (by show (tx (m : Int) ++ " ").length + (tx (pl : Int)).length ≤ _; simp only [app_len]; omega), ?_⟩
  have hwd : (tx (m : Int) ++ " " ++ tx (pl : Int)).length ≤ 107 := by simp only [app_len]; omega
  refine ⟨_, rfl, rfl, _, rfl, ?_⟩
  refine ite2 (fun c1 => ?_) (fun c1 => ?_)
  · refine ⟨_, rfl, _, _, rfl, rfl, ln (by show ("put " : Str).length + (tx (m : Int) ++ " " ++ tx (pl : Int)).length ≤ _; omega), _, _, rfl, rfl, ln (by show ("put " ++ (tx (m : Int) ++ " " ++ tx (pl : Int))).length + _ ≤ _; rw [app_len]; omega), _, rfl, _, rfl, lg60 (by omega) (by omega), _, _, rfl, rfl, ln (by show ("put " ++ (tx (m : Int) ++ " " ++ tx (pl : Int)) ++ " ").length + (tx y).length ≤ _; rw [app_len, app_len]; omega), ?_⟩
    refine ⟨_, rfl, _, rfl, _, rfl, ra, _, rfl, SqL.of hra4, fun q1 hq1 => ?_⟩
    rw [cut_take]
    have t6 : Same H4 (upd H4 q1 (.lst ((r.take pl).map V.int))) := same_new hq1 _
    have e6 : upd H4 q1 (.lst ((r.take pl).map V.int)) q1 = some (.lst ((r.take pl).map V.int)) := upd_same
    generalize upd H4 q1 (.lst ((r.take pl).map V.int)) = G6 at *
    refine ⟨_, rfl, szb rfl, fun q2 hq2 => ?_⟩
    have t7 : Same G6 (upd G6 q2 (.lst [.int y])) := same_new hq2 _
    have e7 : upd G6 q2 (.lst [.int y]) q2 = some (.lst [.int y]) := upd_same
    generalize upd G6 q2 (.lst [.int y]) = G7 at *
    refine ⟨q1, q2, _, _, rfl, rfl, t7 _ _ e6, e7, sz (by simp only [List.length_append, List.length_map, List.length_take, List.length_drop, List.length_cons, List.length_nil]; omega), fun q3 hq3 => ?_⟩
    have t8 : Same G7 (upd G7 q3 (.lst ((r.take pl).map V.int ++ [.int y]))) := same_new hq3 _
    have e8 : upd G7 q3 (.lst ((r.take pl).map V.int ++ [.int y])) q3 = some (.lst ((r.take pl).map V.int ++ [.int y])) := upd_same
    generalize upd G7 q3 (.lst ((r.take pl).map V.int ++ [.int y])) = G8 at *
    have t58 : Same H4 G8 := t6.trans (t7.trans t8)
    refine ⟨_, rfl, _, rfl, _, rfl, ra, _, rfl, SqL.of (t58 _ _ hra4), fun q4 hq4 => ?_⟩
    rw [cut_drop]
    have t9 : Same G8 (upd G8 q4 (.lst ((r.drop pl).map V.int))) := same_new hq4 _
    have e9 : upd G8 q4 (.lst ((r.drop pl).map V.int)) q4 = some (.lst ((r.drop pl).map V.int)) := upd_same
    generalize upd G8 q4 (.lst ((r.drop pl).map V.int)) = G9 at *
    refine ⟨q3, q4, _, _, rfl, rfl, t9 _ _ e8, e9, sz (by simp only [List.length_append, List.length_map, List.length_take, List.length_drop, List.length_cons, List.length_nil]; omega), fun q5 hq5 => ?_⟩
    have en : (r.take pl).map V.int ++ [.int y] ++ (r.drop pl).map V.int = (insAt r pl y).map V.int := by unfold insAt; simp
    rw [en]
    have t10 : Same G9 (upd G9 q5 (.lst ((insAt r pl y).map V.int))) := same_new hq5 _
    have e10 : upd G9 q5 (.lst ((insAt r pl y).map V.int)) q5 = some (.lst ((insAt r pl y).map V.int)) := upd_same
    generalize upd G9 q5 (.lst ((insAt r pl y).map V.int)) = G10 at *
    have hil := ins_len r pl y
    exact ⟨szb rfl, fun p hp => fin H4 G10 q5 "put" _ _ _ k04 P4 (t58.trans (t9.trans t10)) e10 (by omega) (.put m pl y r g hplr y0 y1 (by omega)) (ins_wths hw y0 y1) _ (say_t3 (by decide +kernel) _ _ _) p hp⟩
  refine ⟨fun σ' G => σ' = [some (.ref pen), some (.ref b), some (.ref rl), some (.int (m : Int)), some (.ref ra), some (.int wv), some (.int (pl : Int)), some (.int y), some (.str (tx (m : Int) ++ " " ++ tx (pl : Int))), none, none, none] ∧ H4 = G, ?_, ?_⟩
  · refine ⟨_, rfl, rfl, _, rfl, ?_⟩
    refine ite2 (fun c2 => ?_) (fun c2 => ?_)
    · refine ⟨_, rfl, _, rfl, ra, _, rfl, .inl (SqL.of hra4), _, _, rfl, rfl, _, rfl, ?_⟩
      rw [hlm]
      refine ite2 (fun c3 => ?_) (fun c3 => ⟨rfl, rfl⟩)
      have hpl := of_decide_eq_true c3
      have hpl' : pl < r.length := by omega
      refine ⟨_, rfl, _, _, rfl, rfl, ln (by show ("take " : Str).length + (tx (m : Int) ++ " " ++ tx (pl : Int)).length ≤ _; omega), ?_⟩
      refine ⟨_, rfl, _, rfl, _, rfl, ra, _, rfl, SqL.of hra4, fun q1 hq1 => ?_⟩
      rw [cut_take]
      have t6 : Same H4 (upd H4 q1 (.lst ((r.take pl).map V.int))) := same_new hq1 _
      have e6 : upd H4 q1 (.lst ((r.take pl).map V.int)) q1 = some (.lst ((r.take pl).map V.int)) := upd_same
      generalize upd H4 q1 (.lst ((r.take pl).map V.int)) = G6 at *
      refine ⟨_, rfl, _, rfl, _, _, rfl, rfl, _, rfl, ra, _, rfl, SqL.of (t6 _ _ hra4), fun q4 hq4 => ?_⟩
      rw [show ((pl : Int) + 1) = ((pl + 1 : Nat) : Int) by omega, cut_drop]
      have t9 : Same G6 (upd G6 q4 (.lst ((r.drop (pl + 1)).map V.int))) := same_new hq4 _
      have e9 : upd G6 q4 (.lst ((r.drop (pl + 1)).map V.int)) q4 = some (.lst ((r.drop (pl + 1)).map V.int)) := upd_same
      generalize upd G6 q4 (.lst ((r.drop (pl + 1)).map V.int)) = G9 at *
      refine ⟨q1, q4, _, _, rfl, rfl, t9 _ _ e6, e9, sz (by simp only [List.length_append, List.length_map, List.length_take, List.length_drop, List.length_cons, List.length_nil]; omega), fun q5 hq5 => ?_⟩
      have en : (r.take pl).map V.int ++ (r.drop (pl + 1)).map V.int = (delAt r pl).map V.int := by unfold delAt; simp
      rw [en]
      have t10 : Same G9 (upd G9 q5 (.lst ((delAt r pl).map V.int))) := same_new hq5 _
      have e10 : upd G9 q5 (.lst ((delAt r pl).map V.int)) q5 = some (.lst ((delAt r pl).map V.int)) := upd_same
      generalize upd G9 q5 (.lst ((delAt r pl).map V.int)) = G10 at *
      have hil := del_len hpl'
      exact ⟨szb rfl, fun p hp => fin H4 G10 q5 "take" _ _ _ k04 P4 (t6.trans (t9.trans t10)) e10 (by omega) (.take m pl _ r g (List.getElem?_eq_getElem hpl')) (del_wths hw) _ (say_t2 (by decide +kernel) _ _) p hp⟩
    · exact ⟨rfl, rfl⟩
  rintro σ' G ⟨rfl, rfl⟩
  refine ⟨fun σ' G => σ' = [some (.ref pen), some (.ref b), some (.ref rl), some (.int (m : Int)), some (.ref ra), some (.int wv), some (.int (pl : Int)), some (.int y), some (.str (tx (m : Int) ++ " " ++ tx (pl : Int))), none, none, none] ∧ H4 = G, ?_, ?_⟩
  · refine ⟨_, rfl, rfl, _, rfl, ?_⟩
    refine ite2 (fun c2 => ?_) (fun c2 => ?_)
    · refine ⟨_, rfl, _, rfl, ra, _, rfl, .inl (SqL.of hra4), _, _, rfl, rfl, _, rfl, ?_⟩
      rw [hlm]
      refine ite2 (fun c3 => ?_) (fun c3 => ⟨rfl, rfl⟩)
      have hpl := of_decide_eq_true c3
      have hpl' : pl < r.length := by omega
      refine ⟨_, rfl, _, _, rfl, rfl, ln (by show ("set " : Str).length + (tx (m : Int) ++ " " ++ tx (pl : Int)).length ≤ _; omega), _, _, rfl, rfl, ln (by show ("set " ++ (tx (m : Int) ++ " " ++ tx (pl : Int))).length + _ ≤ _; rw [app_len]; omega), _, rfl, _, rfl, lg60 (by omega) (by omega), _, _, rfl, rfl, ln (by show ("set " ++ (tx (m : Int) ++ " " ++ tx (pl : Int)) ++ " ").length + (tx y).length ≤ _; rw [app_len, app_len]; omega), ?_⟩
      refine ⟨_, rfl, _, rfl, _, rfl, ra, _, rfl, SqL.of hra4, fun q1 hq1 => ?_⟩
      rw [cut_take]
      have t6 : Same H4 (upd H4 q1 (.lst ((r.take pl).map V.int))) := same_new hq1 _
      have e6 : upd H4 q1 (.lst ((r.take pl).map V.int)) q1 = some (.lst ((r.take pl).map V.int)) := upd_same
      generalize upd H4 q1 (.lst ((r.take pl).map V.int)) = G6 at *
      refine ⟨_, rfl, szb rfl, fun q2 hq2 => ?_⟩
      have t7 : Same G6 (upd G6 q2 (.lst [.int y])) := same_new hq2 _
      have e7 : upd G6 q2 (.lst [.int y]) q2 = some (.lst [.int y]) := upd_same
      generalize upd G6 q2 (.lst [.int y]) = G7 at *
      refine ⟨q1, q2, _, _, rfl, rfl, t7 _ _ e6, e7, sz (by simp only [List.length_append, List.length_map, List.length_take, List.length_drop, List.length_cons, List.length_nil]; omega), fun q3 hq3 => ?_⟩
      have t8 : Same G7 (upd G7 q3 (.lst ((r.take pl).map V.int ++ [.int y]))) := same_new hq3 _
      have e8 : upd G7 q3 (.lst ((r.take pl).map V.int ++ [.int y])) q3 = some (.lst ((r.take pl).map V.int ++ [.int y])) := upd_same
      generalize upd G7 q3 (.lst ((r.take pl).map V.int ++ [.int y])) = G8 at *
      have t58 : Same H4 G8 := t6.trans (t7.trans t8)
      refine ⟨_, rfl, _, rfl, _, _, rfl, rfl, _, rfl, ra, _, rfl, SqL.of (t58 _ _ hra4), fun q4 hq4 => ?_⟩
      rw [show ((pl : Int) + 1) = ((pl + 1 : Nat) : Int) by omega, cut_drop]
      have t9 : Same G8 (upd G8 q4 (.lst ((r.drop (pl + 1)).map V.int))) := same_new hq4 _
      have e9 : upd G8 q4 (.lst ((r.drop (pl + 1)).map V.int)) q4 = some (.lst ((r.drop (pl + 1)).map V.int)) := upd_same
      generalize upd G8 q4 (.lst ((r.drop (pl + 1)).map V.int)) = G9 at *
      refine ⟨q3, q4, _, _, rfl, rfl, t9 _ _ e8, e9, sz (by simp only [List.length_append, List.length_map, List.length_take, List.length_drop, List.length_cons, List.length_nil]; omega), fun q5 hq5 => ?_⟩
      have hil := set_len (num := y) hpl'
      have hsi := set_in (pl := pl) hw y0 y1
      have en : (r.take pl).map V.int ++ [.int y] ++ (r.drop (pl + 1)).map V.int = (r.take pl ++ y :: r.drop (pl + 1)).map V.int := by simp
      rw [en]
      have dd : Dd low L rs "set" _ _ _ := .set m pl _ y r g (List.getElem?_eq_getElem hpl') y0 y1
      generalize r.take pl ++ y :: r.drop (pl + 1) = r' at *
      have t10 : Same G9 (upd G9 q5 (.lst (r'.map V.int))) := same_new hq5 _
      have e10 : upd G9 q5 (.lst (r'.map V.int)) q5 = some (.lst (r'.map V.int)) := upd_same
      generalize upd G9 q5 (.lst (r'.map V.int)) = G10 at *
      exact ⟨szb rfl, fun p hp => fin H4 G10 q5 "set" _ _ _ k04 P4 (t58.trans (t9.trans t10)) e10 (by omega) dd hsi _ (say_t3 (by decide +kernel) _ _ _) p hp⟩
    · exact ⟨rfl, rfl⟩
  rintro σ' G ⟨rfl, rfl⟩
  refine ⟨_, rfl, rfl, _, rfl, ?_⟩
  refine ite2 (fun c4 => ?_) (fun c4 => ?_)
  · refine ⟨_, rfl, _, rfl, _, _, rfl, rfl, pen, _, rfl, P4, by omega, by omega, fun sv H5 k5 P5 s0 s1 => ?_⟩
    obtain ⟨st, rfl⟩ := Int.eq_ofNat_of_zero_le s0
    have hra5 := k5 _ _ (pen_ra P4 hra4) hra4
    have ls : (tx (st : Int)).length ≤ 51 := tx_len (by omega) (by omega)
    refine ⟨_, rfl, _, rfl, lg60 (by omega) (by omega), _, _, rfl, rfl, ln (by show ("cut " : Str).length + (tx (m : Int)).length ≤ _; omega), _, _, rfl, rfl, ln (by show ("cut " ++ tx (m : Int)).length + _ ≤ _; rw [app_len]; omega), ?_⟩
    refine ⟨_, rfl, _, rfl, lg60 (by omega) (by omega), _, _, rfl, rfl, ln (by show ("cut " ++ tx (m : Int) ++ " ").length + (tx (st : Int)).length ≤ _; rw [app_len, app_len]; omega), _, _, rfl, rfl, ln (by show ("cut " ++ tx (m : Int) ++ " " ++ tx (st : Int)).length + _ ≤ _; rw [app_len, app_len, app_len]; omega), ?_⟩
    refine ⟨_, rfl, _, rfl, lg60 (by omega) (by omega), _, _, rfl, rfl, ln (by show ("cut " ++ tx (m : Int) ++ " " ++ tx (st : Int) ++ " ").length + (tx (pl : Int)).length ≤ _; rw [app_len, app_len, app_len, app_len]; omega), ?_⟩
    refine ⟨_, rfl, _, rfl, _, rfl, _, rfl, _, rfl, ra, _, rfl, SqL.of hra5, fun q1 hq1 => ?_⟩
    rw [cut_seg _ _ _ (by omega) hplr]
    have t6 : Same H5 (upd H5 q1 (.lst ((segI r st pl).map V.int))) := same_new hq1 _
    have hsl := seg_len (st := st) hplr
    exact ⟨szb rfl, fun p hp => fin H5 _ q1 "cut" _ _ _ (k04.trans k5) P5 t6 upd_same (by omega) (.cut m st pl r g (by omega) hplr) (seg_in hw) _ (say_t3' (by decide +kernel) _ _ _) p hp⟩
  refine ⟨_, rfl, _, rfl, rl, _, rfl, .inl (SqL.of hrl4), pen, _, rfl, P4, by rw [hlen]; omega, by rw [hlen]; omega, fun ov H5 k5 P5 o0 o1 => ?_⟩
  rw [hlen] at o1
  obtain ⟨o, rfl⟩ := Int.eq_ofNat_of_zero_le o0
  have hra5 := k5 _ _ (pen_ra P4 hra4) hra4
  have hrl5 := k5 _ _ (pen_rl P4 hrl4) hrl4
  have hb5 := k5 _ _ (P4.ne hb4) hb4
  have k05 := k04.trans k5
  obtain ⟨t, g'⟩ : ∃ t, rs[o]? = some t := ⟨rs[o]'(by omega), List.getElem?_eq_getElem _⟩
  obtain ⟨ta, gta, hta⟩ := hrE o t g'
  have hta5 := k05 _ _ (pen_ra P0 hta) hta
  obtain ⟨hwt, hlt⟩ := hN t (List.mem_of_getElem? g')
  have hlm' : (t.map V.int).length = t.length := List.length_map _
  have got : (ras.map V.ref)[o]? = some (.ref ta) := by rw [List.getElem?_map, gta]; rfl
  have lo : (tx (o : Int)).length ≤ 51 := tx_len (by omega) (by omega)
  clear k04 k5 P4 hra4 hrl4
  refine ⟨fun σ' G => σ' = [some (.ref pen), some (.ref b), some (.ref rl), some (.int (m : Int)), some (.ref ra), some (.int wv), some (.int (pl : Int)), some (.int y), some (.str (tx (m : Int) ++ " " ++ tx (pl : Int))), none, some (.int (o : Int)), none] ∧ H5 = G, ?_, ?_⟩
  · refine ⟨_, rfl, rfl, _, rfl, ?_⟩
    refine ite2 (fun c2 => ?_) (fun c2 => ⟨rfl, rfl⟩)
    refine ⟨_, rfl, ra, _, rfl, .inl (SqL.of hra5), _, rfl, _, rfl, rl, _, _, _, rfl, rfl, SqL.of hrl5, atI_nat got, ta, _, rfl, .inl (SqL.of hta5), _, _, rfl, rfl, _, _, rfl, rfl, _, rfl, ?_⟩
    rw [hlm, hlm']
    refine ite2 (fun c3 => ?_) (fun c3 => ⟨rfl, rfl⟩)
    have hsum := of_decide_eq_true c3
    refine ⟨_, rfl, _, rfl, lg60 (by omega) (by omega), _, _, rfl, rfl, ln (by show ("join " : Str).length + (tx (m : Int)).length ≤ _; omega), _, _, rfl, rfl, ln (by show ("join " ++ tx (m : Int)).length + _ ≤ _; rw [app_len]; omega), ?_⟩
    refine ⟨_, rfl, _, rfl, lg60 (by omega) (by omega), _, _, rfl, rfl, ln (by show ("join " ++ tx (m : Int) ++ " ").length + (tx (o : Int)).length ≤ _; rw [app_len, app_len]; omega), ?_⟩
    refine ⟨_, rfl, _, rfl, _, rfl, rl, _, _, _, rfl, rfl, SqL.of hrl5, atI_nat got, ra, ta, _, _, rfl, rfl, hra5, hta5, sz (by simp only [List.length_append, List.length_map]; omega), fun q5 hq5 => ?_⟩
    rw [← List.map_append]
    have t6 : Same H5 (upd H5 q5 (.lst ((r ++ t).map V.int))) := same_new hq5 _
    exact ⟨szb rfl, fun p hp => fin H5 _ q5 "join" _ _ _ k05 P5 t6 upd_same (by rw [List.length_append]; omega) (.join m o r t g g' (by omega)) (app_in hw hwt) _ (say_t2' (by decide +kernel) _ _) p hp⟩
  rintro σ' G ⟨rfl, rfl⟩
  refine ⟨_, rfl, rfl, _, rfl, ?_⟩
  refine ite2 (fun c6 => ?_) (fun c6 => ?_)
  · refine ⟨_, rfl, _, rfl, lg60 (by omega) (by omega), _, _, rfl, rfl, ln (by show ("turn " : Str).length + (tx (m : Int)).length ≤ _; omega), ?_⟩
    refine ⟨_, rfl, ra, _, rfl, SqL.of hra5, fun q5 hq5 => ?_⟩
    rw [← List.map_reverse]
    have t6 : Same H5 (upd H5 q5 (.lst (r.reverse.map V.int))) := same_new hq5 _
    exact ⟨szb rfl, fun p hp => fin H5 _ q5 "turn" _ _ _ k05 P5 t6 upd_same (by rw [List.length_reverse]; omega) (.turn m r g) (rev_in hw) _ (say_t1 (by decide +kernel) _) p hp⟩
  refine ⟨_, rfl, rfl, _, rfl, ?_⟩
  refine ite2 (fun c7 => ?_) (fun c7 => ?_)
  · refine ⟨_, rfl, b, _, _, _, rfl, rfl, SqT.of hb5, rfl, _, _, rfl, rfl, .inl ⟨by decide, by decide⟩, _, rfl, b, _, _, _, rfl, rfl, SqT.of hb5, rfl, _, _, rfl, rfl, ⟨by omega, by omega, by decide⟩, ?_⟩
    dsimp only
    rw [shlOne]
    refine ⟨_, _, rfl, rfl, _, _, rfl, rfl, ?_⟩
    refine ⟨_, rfl, _, rfl, lg60 (by omega) (by omega), _, _, rfl, rfl, ln (by show ("flip " : Str).length + (tx (m : Int)).length ≤ _; omega), ?_⟩
    refine ⟨_, rfl, ra, rfl, ⟨_, SqL.of hra5⟩, fun D hD => ?_⟩
    refine comp_ints (g := fun n => V.int (flp low L n)) (SqL.of hra5) hD (sz (by omega)) (fun n _ G5 Q1 _ q1 => ⟨_, rfl, _, rfl, _, _, rfl, rfl, q1⟩) ?_
    have ef : ∀ g : Int → Int, (r.map fun n => V.int (g n)) = (r.map g).map V.int := fun g => by rw [List.map_map]; rfl
    rw [ef (flp low L)]
    have t6 : Same H5 (upd H5 D (.lst ((r.map (flp low L)).map V.int))) := same_new hD _
    exact ⟨szb rfl, fun p hp => fin H5 _ D "flip" _ _ _ k05 P5 t6 upd_same (by rw [List.length_map]; omega) (.flip m r g) (flp_in hw) _ (say_t1 (by decide +kernel) _) p hp⟩
  -- a new row
  refine ⟨_, rfl, _, rfl, szb rfl, fun p6 hp6 => ?_⟩
  have s6 : Same H5 (upd H5 p6 (.lst [.int 8, .int 30])) := same_new hp6 _
  have e6 : upd H5 p6 (.lst [.int 8, .int 30]) p6 = some (.lst [.int 8, .int 30]) := upd_same
  have P6 := P5.same s6
  have hp6p : p6 ≠ pen := P5.fresh hp6
  generalize upd H5 p6 (.lst [.int 8, .int 30]) = H6 at *
  refine ⟨_, rfl, pen, 8, rfl, P6, by decide, by decide, fun v7 H7 k7 P7 a7 b7 => ?_⟩
  have k57 : Keep pen H5 H7 := (Keep.same s6).trans k7
  have k07 := k05.trans k57
  obtain ⟨gv, hgv, hg0, hg1⟩ : ∃ gv : Int, atI [V.int 8, .int 30] (if decide (V.int v7 = V.int 3) = true then 1 else 0) = some (.int gv) ∧ 0 ≤ gv ∧ gv ≤ 30 := by
    by_cases h3 : decide (V.int v7 = V.int 3) = true
    · rw [if_pos h3]; exact ⟨30, rfl, by decide, by decide⟩
    · rw [if_neg h3]; exact ⟨8, rfl, by decide, by decide⟩
  refine ⟨rfl, .inr ⟨_, rfl, ?_⟩⟩
  refine ⟨p6, _, _, _, rfl, rfl, SqL.of (k7 _ _ hp6p e6), hgv, ?_⟩
  refine ⟨pen, b, low, gv, L, rfl, P7, k57 _ _ (P5.ne hb5) hb5, hL, hg0, by omega, fun rn ns H8 k8 P8 hrn hrn0 hnl hnw => ?_⟩
  have k08 := k07.trans k8
  have hbn : BdN ns := fun n hn => by have := hnw n hn; omega
  have hrt := rowT_len hbn
  have hn30 : ns.length * 52 ≤ 30 * 52 := Nat.mul_le_mul (by omega) (Nat.le_refl _)
  refine ⟨_, rfl, rn, ns, rfl, SqL.of hrn, hbn, by omega, fun H9 s9 => ⟨_, _, rfl, rfl, sl51 (by omega), rfl, _, _, rfl, rfl, sl51 (by rw [app_len]; omega), ?_⟩⟩
  rw [say_row hbn]
  exact ⟨_, rfl, szb rfl, fun p hp => fin H8 H9 rn "row" ns ns [] k08 P8 s9 (s9 _ _ hrn) (by omega) (.row ns hnw (by omega)) hnw _ rfl p hp⟩
end
/-! ### the law -/
def RefL (H : Hp) (k : Addr) : Prop := ∃ (p : Addr) (es : List V), H k = some (.lst (.ref p :: es))
theorem RefL.frz {H : Hp} {k a : Addr} {o : Obj} {u : HO} (h : RefL H k) (e : H a = some (.frz o u)) : a ≠ k := by
  obtain ⟨p, es, h⟩ := h
  exact ne_of e h (by intro z; cases z)
theorem RefL.ints {H : Hp} {k a : Addr} {l : List Int} (h : RefL H k) (e : H a = some (.lst (l.map V.int))) : a ≠ k := by
  obtain ⟨p, es, h⟩ := h
  refine ne_of e h ?_
  intro z
  cases l with
  | nil => cases z
  | cons a l => simp at z
theorem RefL.of {H : Hp} {l : Addr} {rs : List (List Int)} (h : RwsAt H l rs) (hn : 0 < rs.length) : RefL H l := by
  obtain ⟨ras, e1, e2, _⟩ := h
  cases ras with
  | nil => exact absurd e2 (by show ¬ 0 = rs.length; omega)
  | cons p es => exact ⟨p, es.map V.ref, e1⟩
theorem RwsAt.kp {H H' : Hp} {l k' l' : Addr} {rs : List (List Int)} (h : RwsAt H l rs) (s : Kp2 k' l' H H') (hk : RefL H k') (hl : RefL H l') (n1 : l ≠ k') (n2 : l ≠ l') : RwsAt H' l rs := by
  obtain ⟨ras, e1, e2, e3⟩ := h
  refine ⟨ras, s _ _ n1 n2 e1, e2, fun j r g => ?_⟩
  obtain ⟨ra, g1, g2⟩ := e3 j r g
  exact ⟨ra, g1, s _ _ (hk.ints g2) (hl.ints g2) g2⟩
theorem RwsAt.same {H H' : Hp} {l : Addr} {rs : List (List Int)} (h : RwsAt H l rs) (s : Same H H') : RwsAt H' l rs := by
  obtain ⟨ras, e1, e2, e3⟩ := h
  refine ⟨ras, s _ _ e1, e2, fun j r g => ?_⟩
  obtain ⟨ra, g1, g2⟩ := e3 j r g
  exact ⟨ra, g1, s _ _ g2⟩
theorem RwsAt.pen {H H' : Hp} {l pen : Addr} {rs : List (List Int)} (h : RwsAt H l rs) (P : PenM H pen) (k : Keep pen H H') : RwsAt H' l rs := by
  obtain ⟨ras, e1, e2, e3⟩ := h
  refine ⟨ras, k _ _ (pen_rl P e1) e1, e2, fun j r g => ?_⟩
  obtain ⟨ra, g1, g2⟩ := e3 j r g
  exact ⟨ra, g1, k _ _ (pen_ra P g2) g2⟩
/-- a row more -/
theorem RwsAt.snoc {H H' : Hp} {l ra : Addr} {rs : List (List Int)} {r : List Int} {ras : List Addr} (h : RwsAt H l rs) (e : H l = some (.lst (ras.map V.ref))) (hr : H ra = some (.lst (r.map V.int))) (hn : 0 < rs.length) (k : Keep l H H') (h' : H' l = some (.lst (ras.map V.ref ++ [.ref ra]))) : RwsAt H' l (rs ++ [r]) := by
  have R := RefL.of h hn
  obtain ⟨ras', e1, e2, e3⟩ := h
  have he : ras' = ras := by
    rw [e] at e1
    have := HO.lst.inj (Option.some.inj e1)
    exact (List.map_inj_right (fun a b h => by injection h)).mp this.symm
  subst he
  refine ⟨ras' ++ [ra], by rw [List.map_append]; exact h', by rw [List.length_append, List.length_append, e2]; rfl, fun j r1 g => ?_⟩
  by_cases hj : j < rs.length
  · rw [List.getElem?_append_left hj] at g
    obtain ⟨ra1, g1, g2⟩ := e3 j r1 g
    exact ⟨ra1, by rw [List.getElem?_append_left (by omega)]; exact g1, k _ _ (R.ints g2) g2⟩
  · have hj' : j = rs.length := by
      have := (List.getElem?_eq_some_iff.mp g).1
      rw [List.length_append] at this
      have t2 : j < rs.length + 1 := this
      omega
    subst hj'
    rw [List.getElem?_append_right (Nat.le_refl _), Nat.sub_self] at g
    obtain rfl : r = r1 := Option.some.inj g
    exact ⟨ra, by rw [List.getElem?_append_right (by omega), show rs.length - ras'.length = 0 by omega]; rfl, k _ _ (R.ints hr) hr⟩
structure Tbl (C M : Addr) (G : Hp) (d x ka b rl e y kb b2 : Addr) (low : Int) (L i : Nat) (rs cs : List (List Int)) : Prop where
  d1 : Dsk C M G d x ka b low L rs cs
  d2 : Dsk C M G e y kb b2 7 3 [[]] [[]]
  ro : RwsAt G rl rs
  n : rs.length = 1 + i
  le : ∀ r ∈ rs, r.length ≤ 61 + i
  kk : kb ≠ ka
  rk : rl ≠ ka
  rb : rl ≠ kb
theorem Tbl.same {C M : Addr} {G G' : Hp} {d x ka b rl e y kb b2 : Addr} {low : Int} {L i : Nat} {rs cs : List (List Int)} (T : Tbl C M G d x ka b rl e y kb b2 low L i rs cs) (s : Same G G') : Tbl C M G' d x ka b rl e y kb b2 low L i rs cs :=
  ⟨T.d1.same s, T.d2.same s, T.ro.same s, T.n, T.le, T.kk, T.rk, T.rb⟩
theorem Tbl.pen {C M : Addr} {G G' : Hp} {d x ka b rl e y kb b2 pen : Addr} {low : Int} {L i : Nat} {rs cs : List (List Int)} (T : Tbl C M G d x ka b rl e y kb b2 low L i rs cs) (P : PenM G pen) (k : Keep pen G G') : Tbl C M G' d x ka b rl e y kb b2 low L i rs cs := by
  obtain ⟨xs, h⟩ := P.at
  have := T.n
  exact ⟨T.d1.keep k h (T.d1.m.pen (by omega) P), T.d2.keep k h (T.d2.m.pen (by decide) P), T.ro.pen P k, T.n, T.le, T.kk, T.rk, T.rb⟩
abbrev k__law_shown : Nat := 49
def sp__law_shown (_ : PySem.W.Frag) (C M : Addr) : Sp := fun vs H Q _ => ∃ (d x ka b rl : Addr) (low : Int) (L j : Nat) (rs cs : List (List Int)), vs = [.ref d, .ref rl, .int (j : Int)] ∧ Dsk C M H d x ka b low L rs cs ∧ RwsAt H rl rs ∧ j < rs.length ∧ ∀ H', Same H H' → Q (.bl true) H'
theorem Dsk.bd {C M : Addr} {H : Hp} {d x ka b : Addr} {low : Int} {L j : Nat} {rs cs : List (List Int)} {r : List Int} (D : Dsk C M H d x ka b low L rs cs) (g : rs[j]? = some r) : BdN r ∧ r.length ≤ 200 := by
  obtain ⟨hw, hl⟩ := D.m.sz g
  have hp := p40 D.m.hL
  have := D.lo
  have := D.hi
  exact ⟨fun n hn => by have := hw n hn; omega, hl⟩
section
variable {P : Program} {w : World} {K : PySem.W.Frag} {mg : Str → Option Value} {base : Heap}
theorem ok__law_shown (d : Def K mg "_law_shown" s__law_shown ["_law_desk", "_law_rows", "_law_make"]) (z : Bz K mg cLeastError cBeyond cNoSuch cTooMany cNoText cNoRow cMakes cDesk) (mc_M_say : MCal P w K mg base k_M_say cDesk "say" ["self", "row"] (sp_M_say K cDesk cMakes)) (c__law_text : Cal P w K mg base k__law_text "_law_text" ["_law_row_here"] (sp__law_text K)) : Cal P w K mg base k__law_shown "_law_shown" ["_law_desk", "_law_rows", "_law_make"] (sp__law_shown K cDesk cMakes) := by
  have sc := sc__law_shown
  refine d.cal fun f fd F => F.ok sc (fun vs H Q E h => ?_) (fun cdv A outer s H vs Q E hr h => ?_)
  · obtain ⟨d, x, ka, b, rl, low, L, j, rs, cs, rfl, _⟩ := h
    rfl
  obtain ⟨d, x, ka, b, rl, low, L, j, rs, cs, rfl, D, R, hj, q⟩ := h
  refine ⟨_, (pss_cons (ps_set (i := 3) sc.nd rfl (Or.inl rfl) (pe_mth mc_M_say (hr.mono (by decide)) (pv 0) (pa_cons (pe_op op_add_str pe_str (pe_callTy call_str_int (by rfl) z.str_ bt_str (pa_cons (pv 2) pa_nil))) pa_nil)))
 (pss_one (ps_ret (pe_and (pe_callB call_isi (by rfl) z.isinstance_ bt_isinstance (pa_cons (pv 3) (pa_cons (pe_bltn (v := .ty "str") (u := .type "str") (by rfl) z.str_ bt_str rfl) pa_nil))) (pe_one (pe_cmpR op_eq (pv 3) (pe_fn c__law_text (hr.mono (by decide)) (by rfl) (pa_cons (pe_ix ix_list (pv 1) (pv 2) (fun _ _ => rfl)) pa_nil)) (nomark _))))))), ?_⟩
  obtain ⟨di, hd⟩ := D.o
  have few := D.m.few
  obtain ⟨ras, hrl, hras, hrE⟩ := R
  have g : rs[j]? = some rs[j] := List.getElem?_eq_getElem hj
  generalize rs[j] = r at g
  obtain ⟨ra, gra, hra⟩ := hrE j r g
  obtain ⟨hb, hl⟩ := D.bd g
  have lsh : ("show " : Str).length ≤ 5 := by decide +kernel
  have lj : (tx (j : Int)).length ≤ 51 := tx_len (by omega) (by omega)
  refine ⟨_, rfl, d, di, _, rfl, hd, rfl, _, rfl, _, rfl, lg60 (by omega) (by omega), _, _, rfl, rfl, ln (by show ("show " : Str).length + (tx (j : Int)).length ≤ _; omega), ?_⟩
  refine ⟨d, x, ka, b, low, L, rs, cs, _, rfl, D, .inl ⟨j, r, say_t1 (by decide +kernel) _, g, fun H1 s1 => ?_⟩⟩
  refine ⟨_, rfl, _, _, _, _, rfl, .str _, kit_str_str, true, rfl, iteT ?_⟩
  refine ⟨_, rfl, _, rfl, _, rfl, rl, _, _, _, rfl, rfl, SqL.of (s1 _ _ hrl), atI_nat (by rw [List.getElem?_map, gra]; rfl), ra, r, rfl, SqL.of (s1 _ _ hra), hb, by omega, fun H2 s2 => ⟨rfl, ?_⟩⟩
  rw [weq rfl]
  exact q H2 (s1.trans s2)
end
abbrev k_law : Nat := 60
abbrev sp_law (K : PySem.W.Frag) : Sp := spLaw K
theorem nil1 {j : Nat} {r : List Int} (g : ([[]] : List (List Int))[j]? = some r) : j = 0 ∧ r = [] := by
  cases j with
  | zero => exact ⟨rfl, (Option.some.inj g).symm⟩
  | succ j => cases g
theorem rws1 {H : Hp} {l a : Addr} (h : H l = some (.lst [.ref a])) (h' : H a = some (.lst [])) : RwsAt H l [[]] := ⟨[a], h, rfl, fun j r g => by
  obtain ⟨rfl, rfl⟩ := nil1 g
  exact ⟨a, rfl, h'⟩⟩
section
variable {P : Program} {w : World} {K : PySem.W.Frag} {mg : Str → Option Value} {base : Heap}
theorem ok_law (z : Bz K mg cLeastError cBeyond cNoSuch cTooMany cNoText cNoRow cMakes cDesk) (ic_Desk : ICal P w K mg base k_I_Desk cDesk ["self", "bounds"] (sp_I_Desk K cDesk cMakes)) (mc_M_say : MCal P w K mg base k_M_say cDesk "say" ["self", "row"] (sp_M_say K cDesk cMakes)) (c__law_bounds : Cal P w K mg base k__law_bounds "_law_bounds" ["_law_pen_here"] (sp__law_bounds K)) (c__law_deed : Cal P w K mg base k__law_deed "_law_deed" ["_law_pen_here", "_law_bounds_here", "_law_rows"] (sp__law_deed K)) (c__law_pen : Cal P w K mg base k__law_pen "_law_pen" ["_law_script", "_law_k"] (sp__law_pen K)) (c__law_shown : Cal P w K mg base k__law_shown "_law_shown" ["_law_desk", "_law_rows", "_law_make"] (sp__law_shown K cDesk cMakes)) (c__law_take : Cal P w K mg base k__law_take "_law_take" ["_law_pen_here", "_law_size"] (sp__law_take K)) : ∀ (f : Addr) (fd : FuncData), Fun K "law" "law" s_law f fd → FnOk P w K mg base CX0 k_law f fd ["_law_script"] (sp_law K) := by
  have sc := sc_law
  intro f fd F
  refine F.ok sc (fun vs H Q E h => ?_) (fun cdv A outer s H vs Q E hr h => ?_)
  · obtain ⟨a, ns, rfl, _⟩ := h
    rfl
  obtain ⟨a, scs, rfl, hS, h63, hO, q⟩ := h
  refine ⟨_, (pss_cons (ps_set (i := 1) sc.nd rfl (Or.inl rfl) (pe_fn c__law_pen (hr.mono (by decide)) (by rfl) (pa_cons (pv 0) (pa_cons pe_int pa_nil))))
 (pss_cons (ps_set (i := 2) sc.nd rfl (Or.inl rfl) (pe_fn c__law_bounds (hr.mono (by decide)) (by rfl) (pa_cons (pv 1) pa_nil)))
 (pss_cons (ps_set (i := 3) sc.nd rfl (Or.inl rfl) (pe_mk ic_Desk (hr.mono (by decide)) (by rfl) z.m_Desk (pa_cons (pv 2) pa_nil)))
 (pss_cons (ps_set (i := 4) sc.nd rfl (Or.inl rfl) (pe_mk ic_Desk (hr.mono (by decide)) (by rfl) z.m_Desk (pa_cons (pe_tup (pa_cons pe_int (pa_cons pe_int pa_nil))) pa_nil)))
 (pss_cons (ps_set (i := 5) sc.nd rfl (Or.inl rfl) (pe_lst (pa_cons (pe_lst pa_nil) pa_nil)))
 (pss_cons (ps_for PassesOwn.never rfl (pi_range1 rfl z.range_ (pa_cons (pe_fn c__law_take (hr.mono (by decide)) (by rfl) (pa_cons (pv 1) (pa_cons pe_int pa_nil))) pa_nil)) (pg_name (i := 6) sc.nd rfl (Or.inl rfl))
  (pss_cons (ps_set (i := 7) sc.nd rfl (Or.inl rfl) (pe_fn c__law_pen (hr.mono (by decide)) (by rfl) (pa_cons (pv 0) (pa_cons (pe_op op_add pe_int (pv 6)) pa_nil))))
 (pss_cons (ps_asg (pe_fn c__law_deed (hr.mono (by decide)) (by rfl) (pa_cons (pv 7) (pa_cons (pv 2) (pa_cons (pv 5) pa_nil)))) (pg_tup rfl (pgs_cons (pg_name (i := 8) sc.nd rfl (Or.inl rfl)) (pgs_cons (pg_name (i := 9) sc.nd rfl (Or.inl rfl)) pgs_nil))))
 (pss_cons (ps_if (pt_cmpR op_ne (pe_mth mc_M_say (hr.mono (by decide)) (pv 3) (pa_cons (pv 8) pa_nil)) (pe_callTy call_str_int (by rfl) z.str_ bt_str (pa_cons (pe_callB call_len_seq (by rfl) z.len_ bt_len (pa_cons (pv 5) pa_nil)) pa_nil)) (nomark _))
  (pss_one (ps_ret pe_bl))
  pss_nil)
 (pss_cons (ps_expr (pe_bm PySem.F.plainAttrs_list PySem.F.slot_list_append PySem.F.type_list_append mt_append (pv 5) (pa_cons (pv 9) pa_nil)))
 (pss_one (ps_for PassesOwn.never rfl (pi_tup (pe_tup (pa_cons (pe_op op_sub (pe_callB call_len_seq (by rfl) z.len_ bt_len (pa_cons (pv 5) pa_nil)) pe_int) (pa_cons (pe_fn c__law_take (hr.mono (by decide)) (by rfl) (pa_cons (pv 7) (pa_cons (pe_callB call_len_seq (by rfl) z.len_ bt_len (pa_cons (pv 5) pa_nil)) pa_nil))) pa_nil)))) (pg_name (i := 10) sc.nd rfl (Or.inl rfl))
  (pss_one (ps_if (pt_not (pt_val (pe_fn c__law_shown (hr.mono (by decide)) (by rfl) (pa_cons (pv 3) (pa_cons (pv 5) (pa_cons (pv 10) pa_nil))))))
  (pss_one (ps_ret pe_bl))
  pss_nil)))))))))
 (pss_cons (ps_for PassesOwn.never rfl (pi_range1 rfl z.range_ (pa_cons (pe_callB call_len_seq (by rfl) z.len_ bt_len (pa_cons (pv 5) pa_nil)) pa_nil)) (pg_name (i := 10) sc.nd rfl (Or.inl rfl))
  (pss_one (ps_if (pt_not (pt_val (pe_fn c__law_shown (hr.mono (by decide)) (by rfl) (pa_cons (pv 3) (pa_cons (pv 5) (pa_cons (pv 10) pa_nil))))))
  (pss_one (ps_ret pe_bl))
  pss_nil)))
 (pss_cons (ps_if (PW.pt (pw_or (pt_cmpR op_ne (pe_mth mc_M_say (hr.mono (by decide)) (pv 4) (pa_cons pe_str pa_nil)) pe_str (nomark _)) (pw_or (pt_cmpR op_ne (pe_mth mc_M_say (hr.mono (by decide)) (pv 4) (pa_cons pe_str pa_nil)) pe_str (nomark _)) (pw_or1 (pt_cmpR op_ne (pe_mth mc_M_say (hr.mono (by decide)) (pv 4) (pa_cons pe_str pa_nil)) pe_str (nomark _))))))
  (pss_one (ps_ret pe_bl))
  pss_nil)
 (pss_one (ps_ret (pe_and (pe_cmpR op_eq (pe_mth mc_M_say (hr.mono (by decide)) (pv 4) (pa_cons pe_str pa_nil)) pe_str (nomark _)) (pe_one (pe_cmpR op_eq (pe_mth mc_M_say (hr.mono (by decide)) (pv 4) (pa_cons pe_str pa_nil)) pe_str (nomark _)))))))))))))), ?_⟩
  have S0 : Scr K H a (scs.map V.int) := Scr.of hS hO
  refine ⟨_, rfl, a, scs, 0, rfl, hS, h63, by decide, by decide, fun pen H1 hpen s1 P1 => ?_⟩
  have S1 := S0.same s1
  refine ⟨_, rfl, pen, rfl, P1, fun b low L H2 k2 P2 hb hL lo0 lo1 => ?_⟩
  have S2 := P1.scr k2 S1
  have new : ∀ (G : Hp) (b : Addr) (low : Int) (L : Nat), G b = some (.tup [.int low, .int (L : Int)]) → L ≤ 40 → -(10 ^ 45) < low → low < 10 ^ 45 → ∀ x dx, G x = none → G dx = none → dx ≠ x → ∀ (R : Hp → Prop),
      (∀ (y ka : Addr) (G' : Hp), Same G G' → G ka = none → Dsk cDesk cMakes G' x y ka b low L [[]] [[]] → R G') →
      sp_I_Desk K cDesk cMakes (.ref x :: ([.ref b] ++ [])) (upd (upd G dx (.own x)) x (.ins cDesk dx [])) (fun v H2 => v = .non ∧ R H2) E0 := by
    intro G b low L hb hL h0 h1 x dx hx hdx hne R hq
    have s1 : Same G (upd (upd G dx (.own x)) x (.ins cDesk dx [])) := (same_new hdx _).trans (same_new (by rw [upd_ne (Ne.symm hne)]; exact hx) _)
    refine ⟨x, b, dx, low, L, rfl, upd_same, s1 _ _ hb, hL, h0, h1, fun y ka G' hka kx M => ⟨rfl, hq y ka G' ?_ (s1.free hka) M⟩⟩
    intro c o hc
    exact kx _ _ (ne_of_none hc hx) (s1 _ _ hc)
  refine ⟨_, rfl, fun d di hd hdi hne => new H2 b low L hb hL (by omega) (by omega) d di hd hdi hne _ ?_⟩
  intro x ka H3 s3 hka D3
  refine ⟨szb rfl, fun b2 hb2 => ?_⟩
  have s4 : Same H3 (upd H3 b2 (.tup [.int 7, .int 3])) := same_new hb2 _
  have e4 : upd H3 b2 (.tup [.int 7, .int 3]) b2 = some (.tup [.int 7, .int 3]) := upd_same
  generalize upd H3 b2 (.tup [.int 7, .int 3]) = H4 at *
  refine fun e ei he hei hne2 => new H4 b2 7 3 e4 (by decide) (by decide) (by decide) e ei he hei hne2 _ ?_
  intro y kb H5 s5 hkb D5
  have hkk : kb ≠ ka := by
    obtain ⟨es, h1, _⟩ := D3.m.hk
    exact Ne.symm (ne_of_none (s4 _ _ h1) hkb)
  have s45 := s4.trans s5
  have s25 := s3.trans s45
  have D6 := D3.same s45
  refine ⟨szb rfl, fun ia hia => ?_⟩
  have s6 : Same H5 (upd H5 ia (.lst [])) := same_new hia _
  have e6 : upd H5 ia (.lst []) ia = some (.lst []) := upd_same
  generalize upd H5 ia (.lst []) = H6 at *
  refine ⟨szb rfl, fun rl hrl => ?_⟩
  have s7 : Same H6 (upd H6 rl (.lst [.ref ia])) := same_new hrl _
  have e7 : upd H6 rl (.lst [.ref ia]) rl = some (.lst [.ref ia]) := upd_same
  generalize upd H6 rl (.lst [.ref ia]) = H7 at *
  have s57 := s6.trans s7
  have s27 := s25.trans s57
  have T7 : Tbl cDesk cMakes H7 d x ka b rl e y kb b2 low L 0 [[]] [[]] := by
    refine ⟨D6.same s57, D5.same s57, rws1 e7 (s7 _ _ e6), rfl, fun r h => by rw [List.mem_singleton.mp h]; exact Nat.zero_le _, hkk, ?_, ?_⟩
    · obtain ⟨es, h1, _⟩ := D6.m.hk
      exact Ne.symm (ne_of_none (s6 _ _ h1) hrl)
    · obtain ⟨es, h1, _⟩ := D5.m.hk
      exact Ne.symm (ne_of_none (s6 _ _ h1) hrl)
  have P7 := P2.same s27
  have S7 := S2.same s27
  clear S0 S1 S2 s1 k2 s3 s4 s5 s6 s7 s25 s27 s45 s57 P1 P2 D3 D5 D6 hb hka hkb hd hdi hne he hei hne2 hia hrl e4 e6 e7 hpen hS hO hb2
  refine ⟨_, rfl, pen, 13, rfl, P7, by decide, by decide, fun n G6 k6 P8 h0 h1 => ⟨n, rfl, by omega, by omega, for_range (n := n.toNat) (fun i σ G => ∃ (rs cs : List (List Int)) (v6 v7 v8 v9 v10 : Option V), σ = [some (.ref a), some (.ref pen), some (.ref b), some (.ref d), some (.ref e), some (.ref rl), v6, v7, v8, v9, v10] ∧ Scr K G a (scs.map V.int) ∧ Tbl cDesk cMakes G d x ka b rl e y kb b2 low L i rs cs)
    ⟨[[]], [[]], _, _, _, _, _, rfl, P7.scr k6 S7, T7.pen P7 k6⟩ ?_ ?_⟩⟩
  · rintro i σ G hi ⟨rs, cs, v6, v7, v8, v9, v10, rfl, SG, T⟩
    have hi13 : i < 13 := by omega
    have hrn := T.n
    refine ⟨_, rfl, _, rfl, _, _, rfl, rfl, a, scs, _, rfl, SG.sq, h63, by omega, by omega, fun dd G1 hdd t1 D1 => ?_⟩
    have T1 := T.same t1
    refine ⟨_, rfl, _, rfl, _, rfl, dd, b, rl, low, L, rs, 61 + i, rfl, D1, T1.ro, T1.d1.m.hb, hL, by omega, by omega, fun r hr => ⟨(T.d1.m.ok r hr).1, T.le r hr⟩, by omega, by omega, lo0, lo1, fun p ra nm ns r c G2 ep era hrl dl ww k2 D2 => ?_⟩
    have T2 := T1.pen D1 k2
    have hpos : 0 < rs.length := by omega
    refine ⟨p, _, rfl, SqT.of ep, rfl, _, _, rfl, _, _, rfl, rfl, ?_⟩
    obtain ⟨di, hd⟩ := T2.d1.o
    refine ⟨_, rfl, d, di, _, rfl, hd, rfl, _, rfl, d, x, ka, b, low, L, rs, cs, _, rfl, T2.d1, .inr ⟨nm, ns, r, c, rfl, by omega, dl, fun G3 k3 D3 => ?_⟩⟩
    have RK : RefL G2 ka := T2.d1.m.first hpos
    obtain ⟨es, hke, _⟩ := T2.d1.m.hk
    have kp3 : Kp2 ka ka G2 G3 := fun a o n _ h => k3 a o n h
    have R3 := T2.ro.kp kp3 RK RK T.rk T.rk
    have E3 := T2.d2.keep k3 hke T.kk
    have era3 := k3 _ _ (RK.ints era) era
    have D3' := D2.keep (T2.d1.m.pen hpos D2) k3
    obtain ⟨ras, el, hras, _⟩ := id R3
    have hlen : (ras.map V.ref).length = rs.length := by rw [List.length_map]; exact hras
    have hal : (rs ++ [r]).length = rs.length + 1 := by rw [List.length_append]; rfl
    refine ⟨_, rfl, rl, _, rfl, .inl (SqL.of el), _, rfl, lg60 (by omega) (by omega), rfl, _, rfl, iteNS (by rw [hlen]; rfl) ?_⟩
    refine ⟨_, rfl, .inl ⟨rfl, _, SqL.of el⟩, _, rfl, rl, _, _, rfl, rfl, el, by rw [hlen]; exact small1000 (by omega), ?_⟩
    have RL := RefL.of R3 hpos
    have k5 : Keep rl G3 (upd G3 rl (.lst (ras.map V.ref ++ [.ref ra]))) := Keep.set rl G3 _
    have R5 : RwsAt (upd G3 rl (.lst (ras.map V.ref ++ [.ref ra]))) rl (rs ++ [r]) := R3.snoc el era3 hpos k5 upd_same
    have e5 : upd G3 rl (.lst (ras.map V.ref ++ [.ref ra])) rl = some (.lst (ras.map V.ref ++ [.ref ra])) := upd_same
    generalize upd G3 rl (.lst (ras.map V.ref ++ [.ref ra])) = G5 at *
    have T5 : Tbl cDesk cMakes G5 d x ka b rl e y kb b2 low L (i + 1) (rs ++ [r]) (cs ++ [c]) := by
      refine ⟨D3.keep k5 el (Ne.symm T.rk), E3.keep k5 el (Ne.symm T.rb), R5, by omega, fun r1 h1 => ?_, T.kk, T.rk, T.rb⟩
      rcases List.mem_append.mp h1 with h | h
      · have := T.le _ h; omega
      · rw [List.mem_singleton.mp h]; omega
    have D5 := D3'.keep (pen_rl D3' el) k5
    have hl5 : (ras.map V.ref ++ [V.ref ra]).length = rs.length + 1 := by rw [List.length_append, hlen]; rfl
    have SG5 : Scr K G5 a (scs.map V.int) := by
      rcases SG with ⟨o, h⟩ | h
      · exact .inl ⟨o, k5 _ _ (RL.frz (k3 _ _ (RK.frz (k2 _ _ (ne_of_none h hdd) (t1 _ _ h))) (k2 _ _ (ne_of_none h hdd) (t1 _ _ h)))) (k3 _ _ (RK.frz (k2 _ _ (ne_of_none h hdd) (t1 _ _ h))) (k2 _ _ (ne_of_none h hdd) (t1 _ _ h)))⟩
      · exact .inr h
    refine ⟨_, rfl, rl, _, rfl, .inl (SqL.of e5), _, _, rfl, rfl, _, rfl, _, rfl, rl, _, rfl, .inl (SqL.of e5), dd, _, rfl, D5, by rw [hl5]; omega, by rw [hl5]; omega, fun mv G6 k6 D6 m0 m1 => ⟨szb rfl, fun tp htp => ?_⟩⟩
    rw [hl5] at m1 ⊢
    obtain ⟨m, rfl⟩ := Int.eq_ofNat_of_zero_le m0
    have T6 := T5.pen D5 k6
    have SG6 := D5.scr k6 SG5
    have e1 : V.int (((rs.length + 1 : Nat) : Int) - 1) = V.int (rs.length : Int) := by rw [show ((rs.length + 1 : Nat) : Int) - 1 = (rs.length : Int) by omega]
    rw [show ((fun i j : Int => V.int (i - j)) ((rs.length + 1 : Nat) : Int) 1) = V.int (rs.length : Int) from e1]
    have t7 : Same G6 (upd G6 tp (.tup [.int (rs.length : Int), .int (m : Int)])) := same_new htp _
    have e7 : upd G6 tp (.tup [.int (rs.length : Int), .int (m : Int)]) tp = some (.tup [.int (rs.length : Int), .int (m : Int)]) := upd_same
    generalize upd G6 tp (.tup [.int (rs.length : Int), .int (m : Int)]) = G7 at *
    have T7 := T6.same t7
    have SG7 := SG6.same t7
    refine ⟨tp, rfl, ⟨_, SqT.of e7⟩, for_tup (K := K) (a := tp) (xs := [V.int (rs.length : Int), .int (m : Int)]) (fun j σ G' => ∃ (w10 : Option V), σ = [some (.ref a), some (.ref pen), some (.ref b), some (.ref d), some (.ref e), some (.ref rl), some (.int (0 + (i : Int))), some (.ref dd), some (.str (sayT nm ns)), some (.ref ra), w10] ∧ Same G7 G')
      ⟨_, rfl, Same.refl _⟩ (fun j σ G' _ ⟨_, _, s'⟩ => SqT.of (s' _ _ e7)) ?_ ?_⟩
    · rintro j v σ G' gv ⟨w10, rfl, s'⟩
      obtain ⟨o, rfl, ho⟩ : ∃ o : Nat, v = .int (o : Int) ∧ o < (rs ++ [r]).length := by
        match j, gv with
        | 0, gv => exact ⟨rs.length, (Option.some.inj gv).symm, by omega⟩
        | 1, gv => exact ⟨m, (Option.some.inj gv).symm, by omega⟩
      refine ⟨_, rfl, _, rfl, _, rfl, d, x, ka, b, rl, low, L, o, _, _, rfl, T7.d1.same s', T7.ro.same s', ho, fun G8 s8 => ⟨true, rfl, iteF ?_⟩⟩
      exact ⟨_, rfl, s'.trans s8⟩
    · rintro σ G' ⟨w10, rfl, s'⟩
      exact ⟨_, _, _, _, _, _, _, rfl, SG7.same s', T7.same s'⟩
  · rintro σ G ⟨rs, cs, v6, v7, v8, v9, v10, rfl, SG, T⟩
    have hrn := T.n
    obtain ⟨ras, el, hras, _⟩ := id T.ro
    have hlen : (ras.map V.ref).length = rs.length := by rw [List.length_map]; exact hras
    refine ⟨_, rfl, rl, _, rfl, .inl (SqL.of el), ?_⟩
    rw [hlen]
    refine ⟨_, rfl, by omega, by omega, for_range (n := (rs.length : Int).toNat) (fun j σ G' => ∃ (w10 : Option V), σ = [some (.ref a), some (.ref pen), some (.ref b), some (.ref d), some (.ref e), some (.ref rl), v6, v7, v8, v9, w10] ∧ Same G G') ⟨_, rfl, Same.refl _⟩ ?_ ?_⟩
    · rintro j σ G' hj ⟨w10, rfl, s'⟩
      refine ⟨_, rfl, _, rfl, _, rfl, d, x, ka, b, rl, low, L, j, _, _, by rw [Int.zero_add]; rfl, T.d1.same s', T.ro.same s', by omega, fun G8 s8 => ⟨true, rfl, iteF ?_⟩⟩
      exact ⟨_, rfl, s'.trans s8⟩
    · rintro σ G' ⟨w10, rfl, s'⟩
      have E0 := T.d2.same s'
      obtain ⟨ei, he⟩ := E0.o
      refine ⟨_, rfl, e, ei, _, rfl, he, rfl, e, y, kb, b2, 7, 3, [[]], [[]], _, rfl, E0, .inl ⟨0, [], by decide +kernel, rfl, fun G1 s1 => ?_⟩⟩
      refine ⟨rfl, _, rfl, iteNS (congrArg V.str (by decide +kernel)) ?_⟩
      have E1 := E0.same s1
      obtain ⟨ei, he⟩ := E1.o
      refine ⟨_, rfl, e, ei, _, rfl, he, rfl, e, y, kb, b2, 7, 3, _, _, _, rfl, E1, .inr ⟨"row", [7, 9], [7, 9], [], by decide +kernel, by decide, .row [7, 9] (by unfold Wths; decide) (by decide), fun G2 k2 E2 => ?_⟩⟩
      refine ⟨rfl, _, rfl, iteNS (congrArg V.str (by decide +kernel)) ?_⟩
      obtain ⟨ei, he⟩ := E2.o
      refine ⟨_, rfl, e, ei, _, rfl, he, rfl, e, y, kb, b2, 7, 3, _, _, _, rfl, E2, .inr ⟨"flip", [((1 : Nat) : Int)], [7, 9].map (flp 7 3), [((1 : Nat) : Int)], by decide +kernel, by decide, .flip 1 [7, 9] rfl, fun G3 k3 E3 => ?_⟩⟩
      refine ⟨rfl, _, rfl, iteNS (congrArg V.str (by decide +kernel)) ?_⟩
      obtain ⟨ei, he⟩ := E3.o
      refine ⟨_, rfl, e, ei, _, rfl, he, rfl, e, y, kb, b2, 7, 3, _, _, _, rfl, E3, .inl ⟨2, [7, 9].map (flp 7 3), by decide +kernel, rfl, fun G4 s4 => ?_⟩⟩
      refine ⟨rfl, _, rfl, ?_⟩
      rw [weq (by decide +kernel)]
      refine iteT ?_
      have E4 := E3.same s4
      obtain ⟨ei, he⟩ := E4.o
      refine ⟨_, rfl, e, ei, _, rfl, he, rfl, e, y, kb, b2, 7, 3, _, _, _, rfl, E4, .inr ⟨"row", [], [], [], by decide +kernel, by decide, .row [] (fun _ h => by cases h) (by decide), fun G5 k5 E5 => ⟨rfl, ?_⟩⟩⟩
      rw [weq (by decide +kernel)]
      exact q _
end
theorem all_ok {P : Program} {w : World} {K : PySem.W.Frag} {mg : Str → Option Value} {base : Heap} (z : Bz K mg cLeastError cBeyond cNoSuch cTooMany cNoText cNoRow cMakes cDesk)
    (d_many_worths : Def K mg "many_worths" s_many_worths ["levels"])
    (d_top_of : Def K mg "top_of" s_top_of ["bounds"])
    (d_where : Def K mg "where" s_where ["bounds", "number"])
    (d_way_of : Def K mg "way_of" s_way_of ["bounds", "number"])
    (d_ahead : Def K mg "ahead" s_ahead ["marks", "mark", "place"])
    (d_grown : Def K mg "grown" s_grown ["least", "many", "row"])
    (d_tree_of : Def K mg "tree_of" s_tree_of ["bounds", "row"])
    (d_half_of : Def K mg "half_of" s_half_of ["tree", "mark"])
    (d_size_of : Def K mg "size_of" s_size_of ["tree"])
    (d_merged : Def K mg "merged" s_merged ["marks", "lower", "upper"])
    (d_row_from : Def K mg "row_from" s_row_from ["least", "many", "tree"])
    (d_row_of : Def K mg "row_of" s_row_of ["bounds", "tree"])
    (d_number_at : Def K mg "number_at" s_number_at ["bounds", "tree", "place"])
    (d_with_half : Def K mg "with_half" s_with_half ["marks", "tree", "turn", "half"])
    (d_with_way : Def K mg "with_way" s_with_way ["tree", "way", "place"])
    (d_put_in : DefA K mg "put_in_changes" "put_in" s_put_in ["bounds", "tree", "place", "number"])
    (d_without : Def K mg "without" s_without ["tree", "place"])
    (d_taken_out : DefA K mg "taken_out_changes" "taken_out" s_taken_out ["bounds", "tree", "place"])
    (d_set_at : DefA K mg "set_at_changes" "set_at" s_set_at ["bounds", "tree", "place", "number"])
    (d_led_stretch : Def K mg "led_stretch" s_led_stretch ["stretch", "way"])
    (d_cut_out : DefA K mg "cut_out_joins" "cut_out" s_cut_out ["stretch"])
    (d_joined : DefA K mg "joined_joins" "joined" s_joined ["one", "other"])
    (d_turned : DefA K mg "turned_joins" "turned" s_turned ["tree"])
    (d_flipped : DefA K mg "flipped_joins" "flipped" s_flipped ["tree"])
    (d_not_too_many : Def K mg "not_too_many" s_not_too_many ["tree"])
    (d_show_number : Def K mg "show_number" s_show_number ["number"])
    (d_show_row : Def K mg "show_row" s_show_row ["row"])
    (d_are_figures : Def K mg "are_figures" s_are_figures ["text"])
    (d_read_number : Def K mg "read_number" s_read_number ["text"])
    (d_number_of : Def K mg "number_of" s_number_of ["word"])
    (d_count_of : Def K mg "count_of" s_count_of ["word"])
    (d_value_of : Def K mg "value_of" s_value_of ["kind", "word"])
    (d_values_of : Def K mg "values_of" s_values_of ["kinds", "words"])
    (d_kinds_of : Def K mg "kinds_of" s_kinds_of ["lead", "name", "many"])
    (d_read_said : Def K mg "read_said" s_read_said ["row"])
    (d__law_pen : Def K mg "_law_pen" s__law_pen ["_law_script", "_law_k"])
    (d__law_mixed : Def K mg "_law_mixed" s__law_mixed ["_law_pen_here"])
    (d__law_take : Def K mg "_law_take" s__law_take ["_law_pen_here", "_law_size"])
    (d__law_bounds : Def K mg "_law_bounds" s__law_bounds ["_law_pen_here"])
    (d__law_row : Def K mg "_law_row" s__law_row ["_law_pen_here", "_law_bounds_here", "_law_longest"])
    (d__law_worth : Def K mg "_law_worth" s__law_worth ["_law_pen_here", "_law_bounds_here", "_law_row_here"])
    (d__law_text : Def K mg "_law_text" s__law_text ["_law_row_here"])
    (d__law_deed : Def K mg "_law_deed" s__law_deed ["_law_pen_here", "_law_bounds_here", "_law_rows"])
    (d__law_shown : Def K mg "_law_shown" s__law_shown ["_law_desk", "_law_rows", "_law_make"])
    : ∀ (f : Addr) (fd : FuncData), Fun K "law" "law" s_law f fd → FnOk P w K mg base CX0 k_law f fd ["_law_script"] (sp_law K) := by
  have c_many_worths : Cal P w K mg base k_many_worths "many_worths" ["levels"] (sp_many_worths K) := ok_many_worths d_many_worths z 
  have c_top_of : Cal P w K mg base k_top_of "top_of" ["bounds"] (sp_top_of K) := ok_top_of d_top_of z c_many_worths
  have c_where : Cal P w K mg base k_where "where" ["bounds", "number"] (sp_where K) := ok_where d_where z c_top_of
  have c_way_of : Cal P w K mg base k_way_of "way_of" ["bounds", "number"] (sp_way_of K) := ok_way_of d_way_of z c_many_worths c_where
  have c_ahead : Cal P w K mg base k_ahead "ahead" ["marks", "mark", "place"] (sp_ahead K) := ok_ahead d_ahead z 
  have c_grown : Cal P w K mg base k_grown "grown" ["least", "many", "row"] (sp_grown K) := ok_grown d_grown z 
  have c_tree_of : Cal P w K mg base k_tree_of "tree_of" ["bounds", "row"] (sp_tree_of K) := ok_tree_of d_tree_of z c_grown c_many_worths c_where
  have c_half_of : Cal P w K mg base k_half_of "half_of" ["tree", "mark"] (sp_half_of K) := ok_half_of d_half_of z 
  have c_size_of : Cal P w K mg base k_size_of "size_of" ["tree"] (sp_size_of K) := ok_size_of d_size_of z 
  have c_merged : Cal P w K mg base k_merged "merged" ["marks", "lower", "upper"] (sp_merged K) := ok_merged d_merged z 
  have c_row_from : Cal P w K mg base k_row_from "row_from" ["least", "many", "tree"] (sp_row_from K) := ok_row_from d_row_from z c_merged
  have c_row_of : Cal P w K mg base k_row_of "row_of" ["bounds", "tree"] (sp_row_of K) := ok_row_of d_row_of z c_many_worths c_row_from
  have c_number_at : Cal P w K mg base k_number_at "number_at" ["bounds", "tree", "place"] (sp_number_at K) := ok_number_at d_number_at z c_ahead c_half_of c_many_worths c_size_of
  have c_with_half : Cal P w K mg base k_with_half "with_half" ["marks", "tree", "turn", "half"] (sp_with_half K) := ok_with_half d_with_half z c_half_of
  have c_with_way : Cal P w K mg base k_with_way "with_way" ["tree", "way", "place"] (sp_with_way K) := ok_with_way d_with_way z c_ahead c_half_of c_size_of c_with_half
  have c_put_in : Cal P w K mg base k_put_in "put_in_changes" ["bounds", "tree", "place", "number"] (sp_put_in K) := ok_put_in d_put_in z c_size_of c_way_of c_with_way
  have c_without : Cal P w K mg base k_without "without" ["tree", "place"] (sp_without K) := ok_without d_without z c_ahead c_half_of c_size_of c_with_half
  have c_taken_out : Cal P w K mg base k_taken_out "taken_out_changes" ["bounds", "tree", "place"] (sp_taken_out K) := ok_taken_out d_taken_out z c_number_at c_without
  have c_set_at : Cal P w K mg base k_set_at "set_at_changes" ["bounds", "tree", "place", "number"] (sp_set_at K) := ok_set_at d_set_at z c_put_in c_taken_out
  have c_led_stretch : Cal P w K mg base k_led_stretch "led_stretch" ["stretch", "way"] (sp_led_stretch K) := ok_led_stretch d_led_stretch z c_ahead c_half_of
  have c_cut_out : Cal P w K mg base k_cut_out "cut_out_joins" ["stretch"] (sp_cut_out K) := ok_cut_out d_cut_out z c_led_stretch
  have c_joined : Cal P w K mg base k_joined "joined_joins" ["one", "other"] (sp_joined K) := ok_joined d_joined z 
  have c_turned : Cal P w K mg base k_turned "turned_joins" ["tree"] (sp_turned K) := ok_turned d_turned z 
  have c_flipped : Cal P w K mg base k_flipped "flipped_joins" ["tree"] (sp_flipped K) := ok_flipped d_flipped z 
  have c_not_too_many : Cal P w K mg base k_not_too_many "not_too_many" ["tree"] (sp_not_too_many K) := ok_not_too_many d_not_too_many z c_size_of
  have mc_M_keep : MCal P w K mg base k_M_keep cMakes "keep" ["self", "tree", "sources"] (sp_M_keep K cMakes) := ok_M_keep z 
  have ic_Makes : ICal P w K mg base k_I_Makes cMakes ["self", "bounds"] (sp_I_Makes K cMakes) := ok_I_Makes z mc_M_keep
  have mc_M_found : MCal P w K mg base k_M_found cMakes "found" ["self", "make"] (sp_M_found K cMakes) := ok_M_found z 
  have mc_M_tree : MCal P w K mg base k_M_tree cMakes "tree" ["self", "make"] (sp_M_tree K cMakes) := ok_M_tree z mc_M_found
  have mc_M_stretch : MCal P w K mg base k_M_stretch cMakes "stretch" ["self", "make", "start", "end"] (sp_M_stretch K cMakes) := ok_M_stretch z mc_M_tree c_size_of
  have mc_M_of_row : MCal P w K mg base k_M_of_row cMakes "of_row" ["self", "row"] (sp_M_of_row K cMakes) := ok_M_of_row z mc_M_keep c_tree_of
  have mc_M_put_in : MCal P w K mg base k_M_put_in cMakes "put_in" ["self", "make", "place", "number"] (sp_M_put_in K cMakes) := ok_M_put_in z mc_M_keep mc_M_tree c_not_too_many c_put_in
  have mc_M_taken_out : MCal P w K mg base k_M_taken_out cMakes "taken_out" ["self", "make", "place"] (sp_M_taken_out K cMakes) := ok_M_taken_out z mc_M_keep mc_M_tree c_taken_out
  have mc_M_set_at : MCal P w K mg base k_M_set_at cMakes "set_at" ["self", "make", "place", "number"] (sp_M_set_at K cMakes) := ok_M_set_at z mc_M_keep mc_M_tree c_set_at
  have mc_M_cut_out : MCal P w K mg base k_M_cut_out cMakes "cut_out" ["self", "make", "start", "end"] (sp_M_cut_out K cMakes) := ok_M_cut_out z mc_M_keep mc_M_stretch c_cut_out
  have mc_M_joined : MCal P w K mg base k_M_joined cMakes "joined" ["self", "one", "other"] (sp_M_joined K cMakes) := ok_M_joined z mc_M_keep mc_M_tree c_joined c_not_too_many
  have mc_M_turned : MCal P w K mg base k_M_turned cMakes "turned" ["self", "make"] (sp_M_turned K cMakes) := ok_M_turned z mc_M_keep mc_M_tree c_turned
  have mc_M_flipped : MCal P w K mg base k_M_flipped cMakes "flipped" ["self", "make"] (sp_M_flipped K cMakes) := ok_M_flipped z mc_M_keep mc_M_tree c_flipped
  have mc_M_row : MCal P w K mg base k_M_row cMakes "row" ["self", "make"] (sp_M_row K cMakes) := ok_M_row z mc_M_tree c_row_of
  have c_show_number : Cal P w K mg base k_show_number "show_number" ["number"] (sp_show_number K) := ok_show_number d_show_number z 
  have c_show_row : Cal P w K mg base k_show_row "show_row" ["row"] (sp_show_row K) := ok_show_row d_show_row z c_show_number
  have c_are_figures : Cal P w K mg base k_are_figures "are_figures" ["text"] (sp_are_figures K) := ok_are_figures d_are_figures z 
  have c_read_number : Cal P w K mg base k_read_number "read_number" ["text"] (sp_read_number K) := ok_read_number d_read_number z c_are_figures
  have c_number_of : Cal P w K mg base k_number_of "number_of" ["word"] (sp_number_of K) := ok_number_of d_number_of z c_read_number
  have c_count_of : Cal P w K mg base k_count_of "count_of" ["word"] (sp_count_of K) := ok_count_of d_count_of z c_number_of
  have c_value_of : Cal P w K mg base k_value_of "value_of" ["kind", "word"] (sp_value_of K) := ok_value_of d_value_of z c_count_of c_number_of
  have c_values_of : Cal P w K mg base k_values_of "values_of" ["kinds", "words"] (sp_values_of K) := ok_values_of d_values_of z c_value_of
  have c_kinds_of : Cal P w K mg base k_kinds_of "kinds_of" ["lead", "name", "many"] (sp_kinds_of K) := ok_kinds_of d_kinds_of z 
  have c_read_said : Cal P w K mg base k_read_said "read_said" ["row"] (sp_read_said K) := ok_read_said d_read_said z c_kinds_of c_values_of
  have ic_Desk : ICal P w K mg base k_I_Desk cDesk ["self", "bounds"] (sp_I_Desk K cDesk cMakes) := ok_I_Desk z ic_Makes
  have mc_M_made : MCal P w K mg base k_M_made cDesk "made" ["self", "name", "values"] (sp_M_made K cDesk cMakes) := ok_M_made z mc_M_cut_out mc_M_flipped mc_M_joined mc_M_of_row mc_M_put_in mc_M_set_at mc_M_taken_out mc_M_turned
  have mc_M_say : MCal P w K mg base k_M_say cDesk "say" ["self", "row"] (sp_M_say K cDesk cMakes) := ok_M_say z mc_M_made mc_M_row c_read_said c_show_number c_show_row
  have c__law_pen : Cal P w K mg base k__law_pen "_law_pen" ["_law_script", "_law_k"] (sp__law_pen K) := ok__law_pen d__law_pen z 
  have c__law_mixed : Cal P w K mg base k__law_mixed "_law_mixed" ["_law_pen_here"] (sp__law_mixed K) := ok__law_mixed d__law_mixed z 
  have c__law_take : Cal P w K mg base k__law_take "_law_take" ["_law_pen_here", "_law_size"] (sp__law_take K) := ok__law_take d__law_take z c__law_mixed
  have c__law_bounds : Cal P w K mg base k__law_bounds "_law_bounds" ["_law_pen_here"] (sp__law_bounds K) := ok__law_bounds d__law_bounds z c__law_take
  have c__law_row : Cal P w K mg base k__law_row "_law_row" ["_law_pen_here", "_law_bounds_here", "_law_longest"] (sp__law_row K) := ok__law_row d__law_row z c__law_take
  have c__law_worth : Cal P w K mg base k__law_worth "_law_worth" ["_law_pen_here", "_law_bounds_here", "_law_row_here"] (sp__law_worth K) := ok__law_worth d__law_worth z c__law_take
  have c__law_text : Cal P w K mg base k__law_text "_law_text" ["_law_row_here"] (sp__law_text K) := ok__law_text d__law_text z 
  have c__law_deed : Cal P w K mg base k__law_deed "_law_deed" ["_law_pen_here", "_law_bounds_here", "_law_rows"] (sp__law_deed K) := ok__law_deed d__law_deed z c__law_row c__law_take c__law_text c__law_worth
  have c__law_shown : Cal P w K mg base k__law_shown "_law_shown" ["_law_desk", "_law_rows", "_law_make"] (sp__law_shown K cDesk cMakes) := ok__law_shown d__law_shown z mc_M_say c__law_text
  exact ok_law z ic_Desk mc_M_say c__law_bounds c__law_deed c__law_pen c__law_shown c__law_take
end My
open PySem PySem.W PyProof.Rows
set_option maxRecDepth 100000 in
set_option maxHeartbeats 0 in
theorem PySem.Challenge.cw_manyleast_k59_a_desk_makes_holds : PySem.Challenge.rw_manyleast_k59_a_desk_makes.Holds := by
  refine MyQ.hd ?_
  k_fill
  refine L2.walkL (k := My.k_law) (l := PySem.Challenge.rw_manyleast_k59_a_desk_makes) ⟨rfl, by decide, by decide⟩ rfl rfl (fun w h Y => PySem.W.km_in_of Y) ?F
  case F =>
    intro w mg fa h KX G hmg
    have d_many_worths : L2.Def (L2.KOf KX) mg "many_worths" My.s_many_worths ["levels"] := by
      dsimp only [L2.KOf]
      refine' L2.def_mk KX G ?a ?l ?c ?k ?b
      (case a => k_is); (case l => k_is); (case c => k_is); (case k => k_is)
      (case b => exact fun _ _ _ _ _ _ us hl => match us, hl with | [_], _ => rfl)
    have d_top_of : L2.Def (L2.KOf KX) mg "top_of" My.s_top_of ["bounds"] := by
      dsimp only [L2.KOf]
      refine' L2.def_mk KX G ?a ?l ?c ?k ?b
      (case a => k_is); (case l => k_is); (case c => k_is); (case k => k_is)
      (case b => exact fun _ _ _ _ _ _ us hl => match us, hl with | [_], _ => rfl)
    have d_where : L2.Def (L2.KOf KX) mg "where" My.s_where ["bounds", "number"] := by
      dsimp only [L2.KOf]
      refine' L2.def_mk KX G ?a ?l ?c ?k ?b
      (case a => k_is); (case l => k_is); (case c => k_is); (case k => k_is)
      (case b => exact fun _ _ _ _ _ _ us hl => match us, hl with | [_, _], _ => rfl)
    have d_way_of : L2.Def (L2.KOf KX) mg "way_of" My.s_way_of ["bounds", "number"] := by
      dsimp only [L2.KOf]
      refine' L2.def_mk KX G ?a ?l ?c ?k ?b
      (case a => k_is); (case l => k_is); (case c => k_is); (case k => k_is)
      (case b => exact fun _ _ _ _ _ _ us hl => match us, hl with | [_, _], _ => rfl)
    have d_ahead : L2.Def (L2.KOf KX) mg "ahead" My.s_ahead ["marks", "mark", "place"] := by
      dsimp only [L2.KOf]
      refine' L2.def_mk KX G ?a ?l ?c ?k ?b
      (case a => k_is); (case l => k_is); (case c => k_is); (case k => k_is)
      (case b => exact fun _ _ _ _ _ _ us hl => match us, hl with | [_, _, _], _ => rfl)
    have d_grown : L2.Def (L2.KOf KX) mg "grown" My.s_grown ["least", "many", "row"] := by
      dsimp only [L2.KOf]
      refine' L2.def_mk KX G ?a ?l ?c ?k ?b
      (case a => k_is); (case l => k_is); (case c => k_is); (case k => k_is)
      (case b => exact fun _ _ _ _ _ _ us hl => match us, hl with | [_, _, _], _ => rfl)
    have d_tree_of : L2.Def (L2.KOf KX) mg "tree_of" My.s_tree_of ["bounds", "row"] := by
      dsimp only [L2.KOf]
      refine' L2.def_mk KX G ?a ?l ?c ?k ?b
      (case a => k_is); (case l => k_is); (case c => k_is); (case k => k_is)
      (case b => exact fun _ _ _ _ _ _ us hl => match us, hl with | [_, _], _ => rfl)
    have d_half_of : L2.Def (L2.KOf KX) mg "half_of" My.s_half_of ["tree", "mark"] := by
      dsimp only [L2.KOf]
      refine' L2.def_mk KX G ?a ?l ?c ?k ?b
      (case a => k_is); (case l => k_is); (case c => k_is); (case k => k_is)
      (case b => exact fun _ _ _ _ _ _ us hl => match us, hl with | [_, _], _ => rfl)
    have d_size_of : L2.Def (L2.KOf KX) mg "size_of" My.s_size_of ["tree"] := by
      dsimp only [L2.KOf]
      refine' L2.def_mk KX G ?a ?l ?c ?k ?b
      (case a => k_is); (case l => k_is); (case c => k_is); (case k => k_is)
      (case b => exact fun _ _ _ _ _ _ us hl => match us, hl with | [_], _ => rfl)
    have d_merged : L2.Def (L2.KOf KX) mg "merged" My.s_merged ["marks", "lower", "upper"] := by
      dsimp only [L2.KOf]
      refine' L2.def_mk KX G ?a ?l ?c ?k ?b
      (case a => k_is); (case l => k_is); (case c => k_is); (case k => k_is)
      (case b => exact fun _ _ _ _ _ _ us hl => match us, hl with | [_, _, _], _ => rfl)
    have d_row_from : L2.Def (L2.KOf KX) mg "row_from" My.s_row_from ["least", "many", "tree"] := by
      dsimp only [L2.KOf]
      refine' L2.def_mk KX G ?a ?l ?c ?k ?b
      (case a => k_is); (case l => k_is); (case c => k_is); (case k => k_is)
      (case b => exact fun _ _ _ _ _ _ us hl => match us, hl with | [_, _, _], _ => rfl)
    have d_row_of : L2.Def (L2.KOf KX) mg "row_of" My.s_row_of ["bounds", "tree"] := by
      dsimp only [L2.KOf]
      refine' L2.def_mk KX G ?a ?l ?c ?k ?b
      (case a => k_is); (case l => k_is); (case c => k_is); (case k => k_is)
      (case b => exact fun _ _ _ _ _ _ us hl => match us, hl with | [_, _], _ => rfl)
    have d_number_at : L2.Def (L2.KOf KX) mg "number_at" My.s_number_at ["bounds", "tree", "place"] := by
      dsimp only [L2.KOf]
      refine' L2.def_mk KX G ?a ?l ?c ?k ?b
      (case a => k_is); (case l => k_is); (case c => k_is); (case k => k_is)
      (case b => exact fun _ _ _ _ _ _ us hl => match us, hl with | [_, _, _], _ => rfl)
    have d_with_half : L2.Def (L2.KOf KX) mg "with_half" My.s_with_half ["marks", "tree", "turn", "half"] := by
      dsimp only [L2.KOf]
      refine' L2.def_mk KX G ?a ?l ?c ?k ?b
      (case a => k_is); (case l => k_is); (case c => k_is); (case k => k_is)
      (case b => exact fun _ _ _ _ _ _ us hl => match us, hl with | [_, _, _, _], _ => rfl)
    have d_with_way : L2.Def (L2.KOf KX) mg "with_way" My.s_with_way ["tree", "way", "place"] := by
      dsimp only [L2.KOf]
      refine' L2.def_mk KX G ?a ?l ?c ?k ?b
      (case a => k_is); (case l => k_is); (case c => k_is); (case k => k_is)
      (case b => exact fun _ _ _ _ _ _ us hl => match us, hl with | [_, _, _], _ => rfl)
    have d_put_in : L2.DefA (L2.KOf KX) mg "put_in_changes" "put_in" My.s_put_in ["bounds", "tree", "place", "number"] := by
      dsimp only [L2.KOf]
      refine' L2.defA_mk KX G ?a ?l ?c ?k ?b
      (case a => k_is); (case l => k_is); (case c => k_is); (case k => k_is)
      (case b => exact fun _ _ _ _ _ _ us hl => match us, hl with | [_, _, _, _], _ => rfl)
    have d_without : L2.Def (L2.KOf KX) mg "without" My.s_without ["tree", "place"] := by
      dsimp only [L2.KOf]
      refine' L2.def_mk KX G ?a ?l ?c ?k ?b
      (case a => k_is); (case l => k_is); (case c => k_is); (case k => k_is)
      (case b => exact fun _ _ _ _ _ _ us hl => match us, hl with | [_, _], _ => rfl)
    have d_taken_out : L2.DefA (L2.KOf KX) mg "taken_out_changes" "taken_out" My.s_taken_out ["bounds", "tree", "place"] := by
      dsimp only [L2.KOf]
      refine' L2.defA_mk KX G ?a ?l ?c ?k ?b
      (case a => k_is); (case l => k_is); (case c => k_is); (case k => k_is)
      (case b => exact fun _ _ _ _ _ _ us hl => match us, hl with | [_, _, _], _ => rfl)
    have d_set_at : L2.DefA (L2.KOf KX) mg "set_at_changes" "set_at" My.s_set_at ["bounds", "tree", "place", "number"] := by
      dsimp only [L2.KOf]
      refine' L2.defA_mk KX G ?a ?l ?c ?k ?b
      (case a => k_is); (case l => k_is); (case c => k_is); (case k => k_is)
      (case b => exact fun _ _ _ _ _ _ us hl => match us, hl with | [_, _, _, _], _ => rfl)
    have d_led_stretch : L2.Def (L2.KOf KX) mg "led_stretch" My.s_led_stretch ["stretch", "way"] := by
      dsimp only [L2.KOf]
      refine' L2.def_mk KX G ?a ?l ?c ?k ?b
      (case a => k_is); (case l => k_is); (case c => k_is); (case k => k_is)
      (case b => exact fun _ _ _ _ _ _ us hl => match us, hl with | [_, _], _ => rfl)
    have d_cut_out : L2.DefA (L2.KOf KX) mg "cut_out_joins" "cut_out" My.s_cut_out ["stretch"] := by
      dsimp only [L2.KOf]
      refine' L2.defA_mk KX G ?a ?l ?c ?k ?b
      (case a => k_is); (case l => k_is); (case c => k_is); (case k => k_is)
      (case b => exact fun _ _ _ _ _ _ us hl => match us, hl with | [_], _ => rfl)
    have d_joined : L2.DefA (L2.KOf KX) mg "joined_joins" "joined" My.s_joined ["one", "other"] := by
      dsimp only [L2.KOf]
      refine' L2.defA_mk KX G ?a ?l ?c ?k ?b
      (case a => k_is); (case l => k_is); (case c => k_is); (case k => k_is)
      (case b => exact fun _ _ _ _ _ _ us hl => match us, hl with | [_, _], _ => rfl)
    have d_turned : L2.DefA (L2.KOf KX) mg "turned_joins" "turned" My.s_turned ["tree"] := by
      dsimp only [L2.KOf]
      refine' L2.defA_mk KX G ?a ?l ?c ?k ?b
      (case a => k_is); (case l => k_is); (case c => k_is); (case k => k_is)
      (case b => exact fun _ _ _ _ _ _ us hl => match us, hl with | [_], _ => rfl)
    have d_flipped : L2.DefA (L2.KOf KX) mg "flipped_joins" "flipped" My.s_flipped ["tree"] := by
      dsimp only [L2.KOf]
      refine' L2.defA_mk KX G ?a ?l ?c ?k ?b
      (case a => k_is); (case l => k_is); (case c => k_is); (case k => k_is)
      (case b => exact fun _ _ _ _ _ _ us hl => match us, hl with | [_], _ => rfl)
    have d_not_too_many : L2.Def (L2.KOf KX) mg "not_too_many" My.s_not_too_many ["tree"] := by
      dsimp only [L2.KOf]
      refine' L2.def_mk KX G ?a ?l ?c ?k ?b
      (case a => k_is); (case l => k_is); (case c => k_is); (case k => k_is)
      (case b => exact fun _ _ _ _ _ _ us hl => match us, hl with | [_], _ => rfl)
    have d_show_number : L2.Def (L2.KOf KX) mg "show_number" My.s_show_number ["number"] := by
      dsimp only [L2.KOf]
      refine' L2.def_mk KX G ?a ?l ?c ?k ?b
      (case a => k_is); (case l => k_is); (case c => k_is); (case k => k_is)
      (case b => exact fun _ _ _ _ _ _ us hl => match us, hl with | [_], _ => rfl)
    have d_show_row : L2.Def (L2.KOf KX) mg "show_row" My.s_show_row ["row"] := by
      dsimp only [L2.KOf]
      refine' L2.def_mk KX G ?a ?l ?c ?k ?b
      (case a => k_is); (case l => k_is); (case c => k_is); (case k => k_is)
      (case b => exact fun _ _ _ _ _ _ us hl => match us, hl with | [_], _ => rfl)
    have d_are_figures : L2.Def (L2.KOf KX) mg "are_figures" My.s_are_figures ["text"] := by
      dsimp only [L2.KOf]
      refine' L2.def_mk KX G ?a ?l ?c ?k ?b
      (case a => k_is); (case l => k_is); (case c => k_is); (case k => k_is)
      (case b => exact fun _ _ _ _ _ _ us hl => match us, hl with | [_], _ => rfl)
    have d_read_number : L2.Def (L2.KOf KX) mg "read_number" My.s_read_number ["text"] := by
      dsimp only [L2.KOf]
      refine' L2.def_mk KX G ?a ?l ?c ?k ?b
      (case a => k_is); (case l => k_is); (case c => k_is); (case k => k_is)
      (case b => exact fun _ _ _ _ _ _ us hl => match us, hl with | [_], _ => rfl)
    have d_number_of : L2.Def (L2.KOf KX) mg "number_of" My.s_number_of ["word"] := by
      dsimp only [L2.KOf]
      refine' L2.def_mk KX G ?a ?l ?c ?k ?b
      (case a => k_is); (case l => k_is); (case c => k_is); (case k => k_is)
      (case b => exact fun _ _ _ _ _ _ us hl => match us, hl with | [_], _ => rfl)
    have d_count_of : L2.Def (L2.KOf KX) mg "count_of" My.s_count_of ["word"] := by
      dsimp only [L2.KOf]
      refine' L2.def_mk KX G ?a ?l ?c ?k ?b
      (case a => k_is); (case l => k_is); (case c => k_is); (case k => k_is)
      (case b => exact fun _ _ _ _ _ _ us hl => match us, hl with | [_], _ => rfl)
    have d_value_of : L2.Def (L2.KOf KX) mg "value_of" My.s_value_of ["kind", "word"] := by
      dsimp only [L2.KOf]
      refine' L2.def_mk KX G ?a ?l ?c ?k ?b
      (case a => k_is); (case l => k_is); (case c => k_is); (case k => k_is)
      (case b => exact fun _ _ _ _ _ _ us hl => match us, hl with | [_, _], _ => rfl)
    have d_values_of : L2.Def (L2.KOf KX) mg "values_of" My.s_values_of ["kinds", "words"] := by
      dsimp only [L2.KOf]
      refine' L2.def_mk KX G ?a ?l ?c ?k ?b
      (case a => k_is); (case l => k_is); (case c => k_is); (case k => k_is)
      (case b => exact fun _ _ _ _ _ _ us hl => match us, hl with | [_, _], _ => rfl)
    have d_kinds_of : L2.Def (L2.KOf KX) mg "kinds_of" My.s_kinds_of ["lead", "name", "many"] := by
      dsimp only [L2.KOf]
      refine' L2.def_mk KX G ?a ?l ?c ?k ?b
      (case a => k_is); (case l => k_is); (case c => k_is); (case k => k_is)
      (case b => exact fun _ _ _ _ _ _ us hl => match us, hl with | [_, _, _], _ => rfl)
    have d_read_said : L2.Def (L2.KOf KX) mg "read_said" My.s_read_said ["row"] := by
      dsimp only [L2.KOf]
      refine' L2.def_mk KX G ?a ?l ?c ?k ?b
      (case a => k_is); (case l => k_is); (case c => k_is); (case k => k_is)
      (case b => exact fun _ _ _ _ _ _ us hl => match us, hl with | [_], _ => rfl)
    have d__law_pen : L2.Def (L2.KOf KX) mg "_law_pen" My.s__law_pen ["_law_script", "_law_k"] := by
      dsimp only [L2.KOf]
      refine' L2.def_mk KX G ?a ?l ?c ?k ?b
      (case a => k_is); (case l => k_is); (case c => k_is); (case k => k_is)
      (case b => exact fun _ _ _ _ _ _ us hl => match us, hl with | [_, _], _ => rfl)
    have d__law_mixed : L2.Def (L2.KOf KX) mg "_law_mixed" My.s__law_mixed ["_law_pen_here"] := by
      dsimp only [L2.KOf]
      refine' L2.def_mk KX G ?a ?l ?c ?k ?b
      (case a => k_is); (case l => k_is); (case c => k_is); (case k => k_is)
      (case b => exact fun _ _ _ _ _ _ us hl => match us, hl with | [_], _ => rfl)
    have d__law_take : L2.Def (L2.KOf KX) mg "_law_take" My.s__law_take ["_law_pen_here", "_law_size"] := by
      dsimp only [L2.KOf]
      refine' L2.def_mk KX G ?a ?l ?c ?k ?b
      (case a => k_is); (case l => k_is); (case c => k_is); (case k => k_is)
      (case b => exact fun _ _ _ _ _ _ us hl => match us, hl with | [_, _], _ => rfl)
    have d__law_bounds : L2.Def (L2.KOf KX) mg "_law_bounds" My.s__law_bounds ["_law_pen_here"] := by
      dsimp only [L2.KOf]
      refine' L2.def_mk KX G ?a ?l ?c ?k ?b
      (case a => k_is); (case l => k_is); (case c => k_is); (case k => k_is)
      (case b => exact fun _ _ _ _ _ _ us hl => match us, hl with | [_], _ => rfl)
    have d__law_row : L2.Def (L2.KOf KX) mg "_law_row" My.s__law_row ["_law_pen_here", "_law_bounds_here", "_law_longest"] := by
      dsimp only [L2.KOf]
      refine' L2.def_mk KX G ?a ?l ?c ?k ?b
      (case a => k_is); (case l => k_is); (case c => k_is); (case k => k_is)
      (case b => exact fun _ _ _ _ _ _ us hl => match us, hl with | [_, _, _], _ => rfl)
    have d__law_worth : L2.Def (L2.KOf KX) mg "_law_worth" My.s__law_worth ["_law_pen_here", "_law_bounds_here", "_law_row_here"] := by
      dsimp only [L2.KOf]
      refine' L2.def_mk KX G ?a ?l ?c ?k ?b
      (case a => k_is); (case l => k_is); (case c => k_is); (case k => k_is)
      (case b => exact fun _ _ _ _ _ _ us hl => match us, hl with | [_, _, _], _ => rfl)
    have d__law_text : L2.Def (L2.KOf KX) mg "_law_text" My.s__law_text ["_law_row_here"] := by
      dsimp only [L2.KOf]
      refine' L2.def_mk KX G ?a ?l ?c ?k ?b
      (case a => k_is); (case l => k_is); (case c => k_is); (case k => k_is)
      (case b => exact fun _ _ _ _ _ _ us hl => match us, hl with | [_], _ => rfl)
    have d__law_deed : L2.Def (L2.KOf KX) mg "_law_deed" My.s__law_deed ["_law_pen_here", "_law_bounds_here", "_law_rows"] := by
      dsimp only [L2.KOf]
      refine' L2.def_mk KX G ?a ?l ?c ?k ?b
      (case a => k_is); (case l => k_is); (case c => k_is); (case k => k_is)
      (case b => exact fun _ _ _ _ _ _ us hl => match us, hl with | [_, _, _], _ => rfl)
    have d__law_shown : L2.Def (L2.KOf KX) mg "_law_shown" My.s__law_shown ["_law_desk", "_law_rows", "_law_make"] := by
      dsimp only [L2.KOf]
      refine' L2.def_mk KX G ?a ?l ?c ?k ?b
      (case a => k_is); (case l => k_is); (case c => k_is); (case k => k_is)
      (case b => exact fun _ _ _ _ _ _ us hl => match us, hl with | [_, _, _], _ => rfl)
    have d_law : L2.Def (L2.KOf KX) mg "law" My.s_law ["_law_script"] := by
      dsimp only [L2.KOf]
      refine' L2.def_mk KX G ?a ?l ?c ?k ?b
      (case a => k_is); (case l => k_is); (case c => k_is); (case k => k_is)
      (case b => exact fun _ _ _ _ _ _ us hl => match us, hl with | [_], _ => rfl)
    obtain ⟨cLeastError, cBeyond, cNoSuch, cTooMany, cNoText, cNoRow, cMakes, cDesk, z⟩ : ∃ cLeastError cBeyond cNoSuch cTooMany cNoText cNoRow cMakes cDesk : Addr, My.Bz (L2.KOf KX) mg cLeastError cBeyond cNoSuch cTooMany cNoText cNoRow cMakes cDesk := by
      dsimp only [L2.KOf]
      refine' ⟨_, _, _, _, _, _, _, _, ⟨PySem.W.mg_none_of KX G ?z0, PySem.W.mg_none_of KX G ?z1, PySem.W.mg_none_of KX G ?z2, PySem.W.mg_none_of KX G ?z3, PySem.W.mg_none_of KX G ?z4, PySem.W.mg_none_of KX G ?z5, PySem.W.mg_none_of KX G ?z6, PySem.W.mg_none_of KX G ?z7, PySem.W.mg_none_of KX G ?z8, PySem.W.mg_none_of KX G ?z9, PySem.W.mg_none_of KX G ?z10, PySem.W.mg_none_of KX G ?z11, PySem.W.mg_of KX G ?m0, PySem.W.mg_of KX G ?m1, PySem.W.mg_of KX G ?m2, PySem.W.mg_of KX G ?m3, PySem.W.mg_of KX G ?m4, PySem.W.mg_of KX G ?m5, PySem.W.mg_of KX G ?m6, PySem.W.mg_of KX G ?m7, ?y0_0, ?y1_0, ?y2_0, ?y3_0, ⟨"0123456789", 874, PySem.W.mg_of KX G ?fgs, rfl⟩, ⟨842, PySem.W.mg_of KX G ?fra, ?frb⟩, ⟨?o0_0, ?o0_1, ?o0_2, ?o0_3⟩, ⟨?o1_0, ?o1_1, ?o1_2, ?o1_3⟩, ⟨_, _, ⟨?my0_0, ?my0_1, ?my0_2, ?my0_3⟩, L2.fun_mk ?ml0 ?mc0 ?mk0, ?mb0⟩, ⟨_, _, ⟨?my1_0, ?my1_1, ?my1_2⟩, L2.fun_mk ?ml1 ?mc1 ?mk1, ?mb1⟩, ⟨_, _, ⟨?my2_0, ?my2_1, ?my2_2⟩, L2.fun_mk ?ml2 ?mc2 ?mk2, ?mb2⟩, ⟨_, _, ⟨?my3_0, ?my3_1, ?my3_2⟩, L2.fun_mk ?ml3 ?mc3 ?mk3, ?mb3⟩, ⟨_, _, ⟨?my4_0, ?my4_1, ?my4_2⟩, L2.fun_mk ?ml4 ?mc4 ?mk4, ?mb4⟩, ⟨_, _, ⟨?my5_0, ?my5_1, ?my5_2⟩, L2.fun_mk ?ml5 ?mc5 ?mk5, ?mb5⟩, ⟨_, _, ⟨?my6_0, ?my6_1, ?my6_2⟩, L2.fun_mk ?ml6 ?mc6 ?mk6, ?mb6⟩, ⟨_, _, ⟨?my7_0, ?my7_1, ?my7_2⟩, L2.fun_mk ?ml7 ?mc7 ?mk7, ?mb7⟩, ⟨_, _, ⟨?my8_0, ?my8_1, ?my8_2⟩, L2.fun_mk ?ml8 ?mc8 ?mk8, ?mb8⟩, ⟨_, _, ⟨?my9_0, ?my9_1, ?my9_2⟩, L2.fun_mk ?ml9 ?mc9 ?mk9, ?mb9⟩, ⟨_, _, ⟨?my10_0, ?my10_1, ?my10_2⟩, L2.fun_mk ?ml10 ?mc10 ?mk10, ?mb10⟩, ⟨_, _, ⟨?my11_0, ?my11_1, ?my11_2⟩, L2.fun_mk ?ml11 ?mc11 ?mk11, ?mb11⟩, ⟨_, _, ⟨?my12_0, ?my12_1, ?my12_2⟩, L2.fun_mk ?ml12 ?mc12 ?mk12, ?mb12⟩, ⟨_, _, ⟨?my13_0, ?my13_1, ?my13_2⟩, L2.fun_mk ?ml13 ?mc13 ?mk13, ?mb13⟩, ⟨_, _, ⟨?my14_0, ?my14_1, ?my14_2, ?my14_3⟩, L2.fun_mk ?ml14 ?mc14 ?mk14, ?mb14⟩, ⟨_, _, ⟨?my15_0, ?my15_1, ?my15_2⟩, L2.fun_mk ?ml15 ?mc15 ?mk15, ?mb15⟩, ⟨_, _, ⟨?my16_0, ?my16_1, ?my16_2⟩, L2.fun_mk ?ml16 ?mc16 ?mk16, ?mb16⟩⟩⟩
      (case z0 => k_is)
      (case z1 => k_is)
      (case z2 => k_is)
      (case z3 => k_is)
      (case z4 => k_is)
      (case z5 => k_is)
      (case z6 => k_is)
      (case z7 => k_is)
      (case z8 => k_is)
      (case z9 => k_is)
      (case z10 => k_is)
      (case z11 => k_is)
      (case m0 => k_is)
      (case m1 => k_is)
      (case m2 => k_is)
      (case m3 => k_is)
      (case m4 => k_is)
      (case m5 => k_is)
      (case m6 => k_is)
      (case m7 => k_is)
      (case y0_0 => first | k_is | kernel_rfl | (unfold L2.NoAttr; first | k_is | kernel_rfl))
      (case y1_0 => first | k_is | kernel_rfl | (unfold L2.NoAttr; first | k_is | kernel_rfl))
      (case y2_0 => first | k_is | kernel_rfl | (unfold L2.NoAttr; first | k_is | kernel_rfl))
      (case y3_0 => first | k_is | kernel_rfl | (unfold L2.NoAttr; first | k_is | kernel_rfl))
      (case fgs => first | k_is | kernel_rfl | (unfold L2.NoAttr; first | k_is | kernel_rfl))
      (case fra => first | k_is | kernel_rfl | (unfold L2.NoAttr; first | k_is | kernel_rfl))
      (case frb => first | k_is | kernel_rfl | (unfold L2.NoAttr; first | k_is | kernel_rfl))
      (case o0_0 => first | k_is | kernel_rfl)
      (case o0_1 => first | k_is | kernel_rfl)
      (case o0_2 => first | k_is | kernel_rfl)
      (case o0_3 => first | k_is | kernel_rfl)
      (case o1_0 => first | k_is | kernel_rfl)
      (case o1_1 => first | k_is | kernel_rfl)
      (case o1_2 => first | k_is | kernel_rfl)
      (case o1_3 => first | k_is | kernel_rfl)
      (case my0_1 => first | k_is | kernel_rfl)
      (case my0_0 => first | k_is | kernel_rfl)
      (case my0_2 => first | k_is | kernel_rfl)
      (case my0_3 => first | k_is | kernel_rfl)
      (case ml0 => k_is); (case mc0 => k_is); (case mk0 => k_is)
      (case mb0 => exact fun us hl => match us, hl with | [_, _], _ => rfl)
      (case my1_0 => first | k_is | kernel_rfl)
      (case my1_1 => first | k_is | kernel_rfl)
      (case my1_2 => first | k_is | kernel_rfl)
      (case ml1 => k_is); (case mc1 => k_is); (case mk1 => k_is)
      (case mb1 => exact fun us hl => match us, hl with | [_, _], _ => rfl)
      (case my2_0 => first | k_is | kernel_rfl)
      (case my2_1 => first | k_is | kernel_rfl)
      (case my2_2 => first | k_is | kernel_rfl)
      (case ml2 => k_is); (case mc2 => k_is); (case mk2 => k_is)
      (case mb2 => exact fun us hl => match us, hl with | [_, _, _, _], _ => rfl)
      (case my3_0 => first | k_is | kernel_rfl)
      (case my3_1 => first | k_is | kernel_rfl)
      (case my3_2 => first | k_is | kernel_rfl)
      (case ml3 => k_is); (case mc3 => k_is); (case mk3 => k_is)
      (case mb3 => exact fun us hl => match us, hl with | [_, _, _], _ => rfl)
      (case my4_0 => first | k_is | kernel_rfl)
      (case my4_1 => first | k_is | kernel_rfl)
      (case my4_2 => first | k_is | kernel_rfl)
      (case ml4 => k_is); (case mc4 => k_is); (case mk4 => k_is)
      (case mb4 => exact fun us hl => match us, hl with | [_, _, _, _], _ => rfl)
      (case my5_0 => first | k_is | kernel_rfl)
      (case my5_1 => first | k_is | kernel_rfl)
      (case my5_2 => first | k_is | kernel_rfl)
      (case ml5 => k_is); (case mc5 => k_is); (case mk5 => k_is)
      (case mb5 => exact fun us hl => match us, hl with | [_, _, _, _], _ => rfl)
      (case my6_0 => first | k_is | kernel_rfl)
      (case my6_1 => first | k_is | kernel_rfl)
      (case my6_2 => first | k_is | kernel_rfl)
      (case ml6 => k_is); (case mc6 => k_is); (case mk6 => k_is)
      (case mb6 => exact fun us hl => match us, hl with | [_, _, _], _ => rfl)
      (case my7_0 => first | k_is | kernel_rfl)
      (case my7_1 => first | k_is | kernel_rfl)
      (case my7_2 => first | k_is | kernel_rfl)
      (case ml7 => k_is); (case mc7 => k_is); (case mk7 => k_is)
      (case mb7 => exact fun us hl => match us, hl with | [_, _], _ => rfl)
      (case my8_0 => first | k_is | kernel_rfl)
      (case my8_1 => first | k_is | kernel_rfl)
      (case my8_2 => first | k_is | kernel_rfl)
      (case ml8 => k_is); (case mc8 => k_is); (case mk8 => k_is)
      (case mb8 => exact fun us hl => match us, hl with | [_, _], _ => rfl)
      (case my9_0 => first | k_is | kernel_rfl)
      (case my9_1 => first | k_is | kernel_rfl)
      (case my9_2 => first | k_is | kernel_rfl)
      (case ml9 => k_is); (case mc9 => k_is); (case mk9 => k_is)
      (case mb9 => exact fun us hl => match us, hl with | [_, _], _ => rfl)
      (case my10_0 => first | k_is | kernel_rfl)
      (case my10_1 => first | k_is | kernel_rfl)
      (case my10_2 => first | k_is | kernel_rfl)
      (case ml10 => k_is); (case mc10 => k_is); (case mk10 => k_is)
      (case mb10 => exact fun us hl => match us, hl with | [_, _], _ => rfl)
      (case my11_0 => first | k_is | kernel_rfl)
      (case my11_1 => first | k_is | kernel_rfl)
      (case my11_2 => first | k_is | kernel_rfl)
      (case ml11 => k_is); (case mc11 => k_is); (case mk11 => k_is)
      (case mb11 => exact fun us hl => match us, hl with | [_, _, _, _], _ => rfl)
      (case my12_0 => first | k_is | kernel_rfl)
      (case my12_1 => first | k_is | kernel_rfl)
      (case my12_2 => first | k_is | kernel_rfl)
      (case ml12 => k_is); (case mc12 => k_is); (case mk12 => k_is)
      (case mb12 => exact fun us hl => match us, hl with | [_, _], _ => rfl)
      (case my13_0 => first | k_is | kernel_rfl)
      (case my13_1 => first | k_is | kernel_rfl)
      (case my13_2 => first | k_is | kernel_rfl)
      (case ml13 => k_is); (case mc13 => k_is); (case mk13 => k_is)
      (case mb13 => exact fun us hl => match us, hl with | [_, _, _], _ => rfl)
      (case my14_1 => first | k_is | kernel_rfl)
      (case my14_0 => first | k_is | kernel_rfl)
      (case my14_2 => first | k_is | kernel_rfl)
      (case my14_3 => first | k_is | kernel_rfl)
      (case ml14 => k_is); (case mc14 => k_is); (case mk14 => k_is)
      (case mb14 => exact fun us hl => match us, hl with | [_, _], _ => rfl)
      (case my15_0 => first | k_is | kernel_rfl)
      (case my15_1 => first | k_is | kernel_rfl)
      (case my15_2 => first | k_is | kernel_rfl)
      (case ml15 => k_is); (case mc15 => k_is); (case mk15 => k_is)
      (case mb15 => exact fun us hl => match us, hl with | [_, _], _ => rfl)
      (case my16_0 => first | k_is | kernel_rfl)
      (case my16_1 => first | k_is | kernel_rfl)
      (case my16_2 => first | k_is | kernel_rfl)
      (case ml16 => k_is); (case mc16 => k_is); (case mk16 => k_is)
      (case mb16 => exact fun us hl => match us, hl with | [_, _, _], _ => rfl)
    exact L2.law_mk d_law (fun base => My.all_ok (base := base) z d_many_worths d_top_of d_where d_way_of d_ahead d_grown d_tree_of d_half_of d_size_of d_merged d_row_from d_row_of d_number_at d_with_half d_with_way d_put_in d_without d_taken_out d_set_at d_led_stretch d_cut_out d_joined d_turned d_flipped d_not_too_many d_show_number d_show_row d_are_figures d_read_number d_number_of d_count_of d_value_of d_values_of d_kinds_of d_read_said d__law_pen d__law_mixed d__law_take d__law_bounds d__law_row d__law_worth d__law_text d__law_deed d__law_shown) hmg
#print axioms PySem.Challenge.cw_manyleast_k59_a_desk_makes_holds
