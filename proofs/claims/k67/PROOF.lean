import PyProof.Rows.All
import Wide.All
import OpenK.AllK
import Wide.FinOn
import Lean
import PyProof.EqAt
import PyProof.EqKinds
import PyProof.TupleCall
import KE.KRevSl
import KE.KSortTup
import KE.KItemsList
import KE.KSortKey
import PyProof.Rows.SetFrom
import KE.KRevIter
import PyProof.TupleOfGen
import KE.KUnpack
import PySem.Challenge.RW_manyleast_k67_whole_worths_led_through
set_option Elab.async false
set_option linter.all false
set_option maxRecDepth 100000
set_option maxHeartbeats 4000000
theorem fnt : false ≠ true := Bool.noConfusion
theorem nf {p : Prop} (z : false = true) : p := absurd z fnt
theorem nr {α : Type} {a : α} {p : Prop} (z : ¬ a = a) : p := absurd rfl z
theorem na {p q : Prop} [Decidable p] (h : p) (z : ¬ decide p = true) : q := absurd (decide_eq_true h) z
theorem ny {p q : Prop} [Decidable p] (h : ¬ p) (z : decide p = true) : q := absurd (of_decide_eq_true z) h
def PySem.W.Fast.tw7674292497303504648 : Unit := ()
def PySem.W.Fast.tw1600396345302884861 : Unit := ()
def PySem.W.Fast.tw3318930204785009659 : Unit := ()
def PySem.W.Fast.tw2175422074033584067 : Unit := ()
def PySem.W.Fast.tw2354685463279907810 : Unit := ()
def PySem.W.Fast.tw12845323923169418520 : Unit := ()
def PySem.W.Fast.tw5080554635388091662 : Unit := ()
def PySem.W.Fast.tw15704568000960427195 : Unit := ()
def PySem.W.Fast.tw1008887441380421692 : Unit := ()
def PySem.W.Fast.tw7704981422072863698 : Unit := ()
def PySem.W.Fast.tw10674067043680467898 : Unit := ()
def PySem.W.Fast.tw16995586085969460071 : Unit := ()
def PySem.W.Fast.tw3029912454327456602 : Unit := ()
def PySem.W.Fast.tw13259977382368533591 : Unit := ()
def PySem.W.Fast.tw13842336184649019670 : Unit := ()
def PySem.W.Fast.tw17817232725808157821 : Unit := ()
def PySem.W.Fast.tw13346536630259862338 : Unit := ()
def PySem.W.Fast.tw11249636939181806644 : Unit := ()
def PySem.W.Fast.tw12690504291905986553 : Unit := ()
def PySem.W.Fast.tw17204108299387176123 : Unit := ()
def PySem.W.Fast.tw8651476451653079170 : Unit := ()
def PySem.W.Fast.tw3717407646597466838 : Unit := ()
namespace MyQ
open PySem PySem.W PyProof.Rows
set_option maxRecDepth 100000 in
set_option maxHeartbeats 0 in
open_top hd for PySem.Challenge.rw_manyleast_k67_whole_worths_led_through
end MyQ
namespace L2
open PySem PySem.Spec PyProof.Rows
abbrev Key := Sum Int Str
def keyIs : Key -> Value -> Bool
 | .inl k, v => Value.isInt k v
 | .inr x, v => Value.isStrOf x v
def keyH (w : World) : Key -> Int
 | .inl k => hashInt k
 | .inr x => hashStr w x
theorem q49 : ∀ {k : Key} {v : Value}, keyIs k v = true -> (∃ i t, k = Sum.inl i /\ v = Value.int i t) \/ (∃ x t, k = Sum.inr x /\ v = Value.str x t)
 | .inl i, v, h => by
  obtain ⟨t, e⟩ := Value.isInt_shape (k := i) (v := v) h
  exact .inl ⟨i, t, rfl, e⟩
 | .inr x, v, h => by
  obtain ⟨t, e⟩ := Value.isStrOf_shape (x := x) (v := v) h
  exact .inr ⟨x, t, rfl, e⟩
theorem key_ll (a b : Int) : decide ((Sum.inl a : Key) = Sum.inl b) = (a == b) := by
 by_cases e : a = b
 ·subst e; simp
 ·have h : ¬ (Sum.inl a : Key) = Sum.inl b := fun q => e (Sum.inl.inj q)
  rw [decide_eq_false h]
  exact (beq_eq_false_iff_ne.mpr e).symm
theorem key_rr (a b : Str) : decide ((Sum.inr a : Key) = Sum.inr b) = decide (a = b) := by
 by_cases e : a = b
 ·subst e; simp
 ·have h : ¬ (Sum.inr a : Key) = Sum.inr b := fun q => e (Sum.inr.inj q)
  rw [decide_eq_false h, decide_eq_false e]
theorem key_lr (a : Int) (b : Str) : decide ((Sum.inl a : Key) = Sum.inr b) = false := decide_eq_false (fun q => nomatch q)
theorem key_rl (a : Str) (b : Int) : decide ((Sum.inr a : Key) = Sum.inl b) = false := decide_eq_false (fun q => nomatch q)
def q576 (prog : Program) (w : World) : PySem.KeyKind prog w Key where
 is := keyIs
 hash := keyH w
 inj := fun v a b ha hb => by
  rcases q49 ha with ⟨i, t, rfl, rfl⟩ | ⟨x, t, rfl, rfl⟩
  ·rcases q49 hb with ⟨j, u, rfl, e⟩ | ⟨y, u, rfl, e⟩
   ·injection e with e1 _; rw [e1]
   ·exact nomatch e
  ·rcases q49 hb with ⟨j, u, rfl, e⟩ | ⟨y, u, rfl, e⟩
   ·exact nomatch e
   ·injection e with e1 _; rw [e1]
 byValue := fun k v h => by
  rcases q49 h with ⟨i, t, rfl, rfl⟩ | ⟨x, t, rfl, rfl⟩ <;> rfl
 pyHash := fun hv h => by
  rcases q49 hv with ⟨i, t, rfl, rfl⟩ | ⟨x, t, rfl, rfl⟩
  ·exact wpAny_pyHash_int h
  ·exact wpAny_pyHash_str h
 eqBool := fun hu hv h => by
  rcases q49 hu with ⟨i, t, rfl, rfl⟩ | ⟨x, t, rfl, rfl⟩
  ·rcases q49 hv with ⟨j, u, rfl, rfl⟩ | ⟨y, u, rfl, rfl⟩
   ·rw [key_ll] at h; exact wpAny_eqBool_int h
   ·rw [key_lr] at h; exact SeqAt.EqAt.int_str i t y u _ _ _ _ h
  ·rcases q49 hv with ⟨j, u, rfl, rfl⟩ | ⟨y, u, rfl, rfl⟩
   ·rw [key_rl] at h; exact SeqAt.EqAt.str_int x t j u _ _ _ _ h
   ·rw [key_rr] at h; exact wpAny_eqBool_str h
 «strs» := fun k x t v h => by
  rcases q49 h with ⟨i, u, rfl, e⟩ | ⟨y, u, rfl, e⟩
  ·exact nomatch e
  ·injection e with e1 _
   subst e1
   cases v <;> rfl
end L2
namespace L2
open PySem PySem.Spec PyProof.Rows
inductive V where
 | non | bl (b : Bool) | int (i : Int) | str (x : Str) | byt (b : Array UInt8) | flt (b : UInt64) | ref (a : Addr) | ty (n : String)
 deriving DecidableEq
def RelV : V -> Value -> Prop
 | .non, u => u = Value.none
 | .bl b, u => u = Value.bool b
 | .int i, u => ∃ t, u = Value.int i t
 | .str x, u => ∃ t, u = Value.str x t
 | .byt b, u => ∃ t, u = Value.bytes b t
 | .flt b, u => ∃ t, u = Value.float b t
 | .ref a, u => u = Value.ref a
 | .ty n, u => u = Value.type n
abbrev Vals : List V -> List Value -> Prop := Paired RelV
theorem Vals.length {xs : List V} {us : List Value} (r : Vals xs us) : xs.length = us.length := Paired.length r
theorem Vals.get : ∀ {xs : List V} {us : List Value} {i : Nat} {x : V}, Vals xs us -> xs[i]? = some x -> ∃ u, us[i]? = some u /\ RelV x u
 | _, _, _, _, .nil, e => by simp at e
 | _, _, 0, _, .cons r _, e => by simp at e; subst e; exact ⟨_, rfl, r⟩
 | _, _, i + 1, x, .cons _ t, e => by
  obtain ⟨u, h1, h2⟩ := Vals.get (i := i) (x := x) t (by simpa using e)
  exact ⟨u, by simpa using h1, h2⟩
theorem Vals.set {x : V} {u : Value} (r : RelV x u) : ∀ {xs : List V} {us : List Value} (i : Nat), Vals xs us -> Vals (xs.set i x) (us.set i u)
 | _, _, _, .nil => .nil
 | _, _, 0, .cons _ t => .cons r t
 | _, _, i + 1, .cons q t => .cons q (Vals.set r i t)
theorem Vals.append : ∀ {xs ys : List V} {us ws : List Value}, Vals xs us -> Vals ys ws -> Vals (xs ++ ys) (us ++ ws)
 | _, _, _, _, .nil, s => s
 | _, _, _, _, .cons r t, s => .cons r (Vals.append t s)
theorem Vals.take : ∀ {xs : List V} {us : List Value} (n : Nat), Vals xs us -> Vals (xs.take n) (us.take n)
 | _, _, 0, _ => .nil
 | _, _, _ + 1, .nil => .nil
 | _, _, n + 1, .cons r t => .cons r (Vals.take n t)
theorem Vals.drop : ∀ {xs : List V} {us : List Value} (n : Nat), Vals xs us -> Vals (xs.drop n) (us.drop n)
 | _, _, 0, r => r
 | _, _, _ + 1, .nil => .nil
 | _, _, n + 1, .cons _ t => Vals.drop n t
def RelO : Option V -> Option Value -> Prop
 | some v, some u => RelV v u
 | none, none => True
 | _, _ => False
def KV {κ : Type} : List (κ × V) -> List (κ × Value) -> Prop := Paired fun (p : κ × V) (q : κ × Value) => p.1 = q.1 /\ RelV p.2 q.2
def kV : Key -> V
 | .inl i => .int i
 | .inr x => .str x
inductive HO where
 | lst (xs : List V)
 | tup (xs : List V)
 | dK (kvs : List (Key × V)) | dT (kvs : List (List Key × V))
 | set (S : Int -> Bool) (n : Nat)
 | ins (C dx : Addr) (fs : List (Str × V))
 | own (x : Addr)
 | xd (fs : List (Str × V))
 | met (f x : Addr)
 | rng (lo hi : Int)
 | frz (o : Obj) (u : HO)
 | tbl (ps : Array Value)
 | ext (φ : Heap -> Prop)
abbrev Hp := Addr -> Option HO
def upd (H : Hp) (a : Addr) (o : HO) : Hp := fun b => if b = a then some o else H b
theorem q13 {H : Hp} {a : Addr} {o : HO} : upd H a o a = some o := by unfold upd; rw [if_pos rfl]
theorem q36 {H : Hp} {a b : Addr} {o : HO} (h : b ≠ a) : upd H a o b = H b := by unfold upd; rw [if_neg h]
theorem q228 {H : Hp} {a : Addr} {o u : HO} : upd (upd H a o) a u = upd H a u := by
 funext b; unfold upd; split <;> rfl
theorem ne_of {H : Hp} {a b : Addr} {o u : HO} (h : H a = some o) (h' : H b = some u) (d : o ≠ u) : a ≠ b := by
 intro e; subst e; rw [h] at h'; exact d (Option.some.inj h')
theorem q33 {H : Hp} {a b : Addr} {o : HO} (h : H a = some o) (h' : H b = none) : a ≠ b := by
 intro e; subst e; rw [h] at h'; cases h'
section
variable (P : Program) (w : World)
def ObjOk (H : Hp) (h : Heap) (a : Addr) : HO -> Prop
 | .lst xs => xs.length <= sizeLine /\ ∃ (its : List Value) (n : Nat), Vals xs its /\ h.get? a = some { cls := .type "list", data := .seq its.toArray n }
 | .tup xs => xs.length <= sizeLine /\ ∃ its : List Value, Vals xs its /\ IsTup h a its.toArray
 | .dK kvs => kvs.length <= sizeLine /\ (a == sysModules) = false /\ ∃ vs, KV kvs vs /\ h.DictOf (q576 P w) a vs
 | .dT kvs => kvs.length <= sizeLine /\ (a == sysModules) = false /\ ∃ xs : List (List Key × Addr × Value),
   Paired (fun (p : List Key × V) (q : List Key × Addr × Value) => p.1 = q.1 /\ H q.2.1 = some (.tup (p.1.map kV)) /\ RelV p.2 q.2.2) kvs xs /\
   ∃ o es ep, h.get? a = some o /\ o.ExactDict /\ o.data = .dict es ep /\ es.toList = xs.map (entryOfKey (tupleKind (q576 P w))) /\ (xs.map (·.1)).Nodup
 | .set S n => h.SetOf (intKind P w) a S n
 | .ins C dx fs => H dx = some (.own a) /\ fs.length <= 1000 /\ dx ≠ a /\ h.get? a = some (PySem.W.instObj C dx) /\
   ∃ mA, h.Ns1 dx mA /\ (∀ f, RelO (fs.lookup f) (mA f)) /\ PySem.Within mA (fs.map (·.1))
 | .own _ => ∃ o, h.get? a = some o
 | .xd fs => ∃ mA, h.Ns1 a mA /\ ∀ f, RelO (fs.lookup f) (mA f)
 | .rng lo hi => ∃ t u v, h.get? a = some { cls := .type "range", data := .fields #[.int lo t, .int hi u, .int 1 v] }
 | .frz o u => h.get? a = some o /\ ObjOk H h a u
 | .tbl ps => h.get? a = some { cls := .none, data := .fields ps }
 | .met f x => h.get? a = some (PySem.W.methodObj (.ref f) (.ref x))
 | .ext φ => φ h /\ (∃ o, h.get? a = some o) /\ ∀ h1 h2 : Heap, φ h1 -> (∀ o, h1.get? a = some o -> h2.get? a = some o) -> φ h2
def HOk (H : Hp) (h : Heap) : Prop := ∀ a o, H a = some o -> ObjOk P w H h a o
end
section
variable {P : Program} {w : World} {H H' : Hp} {h h' : Heap} {a : Addr} {o : HO}
theorem ObjOk.lt (x : ObjOk P w H h a o) : a < h.objs.size := by
 cases o with
 | lst xs => obtain ⟨_, _, _, _, e⟩ := x; exact Heap.lt_size e
 | tup xs => obtain ⟨_, _, _, p⟩ := x; exact p.lt
 | dK kvs => obtain ⟨_, _, _, _, o, _, _, e, _⟩ := x; exact Heap.lt_size e
 | dT kvs => obtain ⟨_, _, _, _, o, _, _, e, _⟩ := x; exact Heap.lt_size e
 | set S n => obtain ⟨o, _, _, _, e, _⟩ := x; exact Heap.lt_size e
 | ins C dx fs => obtain ⟨_, _, _, e, _⟩ := x; exact Heap.lt_size e
 | own y => obtain ⟨_, e⟩ := x; exact Heap.lt_size e
 | xd fs => obtain ⟨_, ⟨_, _, _, e, _⟩, _⟩ := x; exact Heap.lt_size e
 | rng lo hi => obtain ⟨_, _, _, e⟩ := x; exact Heap.lt_size e
 | frz ob u => obtain ⟨e, _⟩ := x; exact Heap.lt_size e
 | tbl ps => exact Heap.lt_size (show h.get? a = some _ from x)
 | met f y => exact Heap.lt_size (show h.get? a = some _ from x)
 | ext φ => obtain ⟨_, ⟨_, e⟩, _⟩ := x; exact Heap.lt_size e
theorem Paired.mapP {α β : Type} {F G : α -> β -> Prop} : ∀ {l₁ : List α} {l₂ : List β}, Paired F l₁ l₂ -> (∀ a b, F a b -> G a b) -> Paired G l₁ l₂
 | _, _, .nil, _ => .nil
 | _, _, .cons r t, f => .cons (f _ _ r) (Paired.mapP t f)
theorem ObjOk.stay (x : ObjOk P w H h a o) (k : ∀ b u, (b = a \/ H b = some (.own a)) -> h.get? b = some u -> h'.get? b = some u)
  (ho : ∀ b, H b = some (.own a) -> H' b = some (.own a)) (ht : ∀ b xs, H b = some (.tup xs) -> H' b = some (.tup xs)) : ObjOk P w H' h' a o := by
 induction o with
 | lst xs => obtain ⟨z, its, n, r, e⟩ := x; exact ⟨z, its, n, r, k _ _ (.inl rfl) e⟩
 | tup xs => obtain ⟨z, its, r, ob, e, c⟩ := x; exact ⟨z, its, r, ob, k _ _ (.inl rfl) e, c⟩
 | dK kvs => obtain ⟨z, y, vs, r, ob, es, ep, e, c⟩ := x; exact ⟨z, y, vs, r, ob, es, ep, k _ _ (.inl rfl) e, c⟩
 | dT kvs =>
  obtain ⟨z, y, xs, r, ob, es, ep, e, c⟩ := x
  exact ⟨z, y, xs, Paired.mapP r fun p q z => ⟨z.1, ht _ _ z.2.1, z.2.2⟩, ob, es, ep, k _ _ (.inl rfl) e, c⟩
 | set S n => obtain ⟨ob, es, ep, t, e, c⟩ := x; exact ⟨ob, es, ep, t, k _ _ (.inl rfl) e, c⟩
 | ins C dx fs =>
  obtain ⟨d, z, ne, e, mA, ⟨od, es, ep, e2, c⟩, r⟩ := x
  exact ⟨ho _ d, z, ne, k _ _ (.inl rfl) e, mA, ⟨od, es, ep, k _ _ (.inr d) e2, c⟩, r⟩
 | own y => obtain ⟨ob, e⟩ := x; exact ⟨ob, k _ _ (.inl rfl) e⟩
 | xd fs => obtain ⟨mA, ⟨od, es, ep, e, c⟩, r⟩ := x; exact ⟨mA, ⟨od, es, ep, k _ _ (.inl rfl) e, c⟩, r⟩
 | rng lo hi => obtain ⟨t, u, v, e⟩ := x; exact ⟨t, u, v, k _ _ (.inl rfl) e⟩
 | frz ob u ih => obtain ⟨e, q⟩ := x; exact ⟨k _ _ (.inl rfl) e, ih q⟩
 | tbl ps =>
  have e : h.get? a = some { cls := .none, data := .fields ps } := x
  show h'.get? a = some { cls := .none, data := .fields ps }
  exact k a _ (.inl rfl) e
 | met f y =>
  have e : h.get? a = some (PySem.W.methodObj (.ref f) (.ref y)) := x
  show h'.get? a = some (PySem.W.methodObj (.ref f) (.ref y))
  exact k a _ (.inl rfl) e
 | ext φ => obtain ⟨p, ⟨o, e⟩, st⟩ := x; exact ⟨st _ _ p fun o q => k _ _ (.inl rfl) q, ⟨o, k _ _ (.inl rfl) e⟩, st⟩
theorem HOk.lt (x : HOk P w H h) (e : H a = some o) : a < h.objs.size := (x a o e).lt
theorem HOk.fresh (x : HOk P w H h) (e : h.objs.size <= a) : H a = none := by
 cases q : H a with
 | none => rfl
 | some u => exact absurd (Nat.lt_of_lt_of_le (x.lt q) e) (Nat.lt_irrefl _)
theorem HOk.kept (x : HOk P w H h) (k : ∀ b u, h.get? b = some u -> h'.get? b = some u) : HOk P w H h' := fun a o e =>
 (x a o e).stay (fun b u _ q => k b u q) (fun _ q => q) fun _ _ q => q
theorem HOk.laid (x : HOk P w H h) (k : ∀ b u, h.get? b = some u -> h'.get? b = some u) (hp : h.objs.size <= a) (new : ObjOk P w (upd H a o) h' a o) : HOk P w (upd H a o) h' := fun b u e => by
 have hn := x.fresh hp
 by_cases hb : b = a
 ·subst hb; rw [q13] at e; cases e; exact new
 ·rw [q36 hb] at e
  exact (x b u e).stay (fun c v _ q => k c v q) (fun c q => by rw [q36 (q33 q hn)]; exact q) fun c xs q => by rw [q36 (q33 q hn)]; exact q
end
def Rd (H : Hp) (a : Addr) (u : HO) : Prop := H a = some u \/ ∃ o, H a = some (.frz o u)
theorem Rd.ok {P : Program} {w : World} {H : Hp} {h : Heap} {a : Addr} {u : HO} (r : Rd H a u) (x : HOk P w H h) : ObjOk P w H h a u := by
 rcases r with r | ⟨o, r⟩
 ·exact x a u r
 ·obtain ⟨_, q⟩ := x a _ r
  exact q
def Mut : Option HO -> Prop
 | some (.lst _) => True
 | some (.dK _) => True
 | some (.dT _) => True
 | some (.set _ _) => True
 | some (.ins _ _ _) => True
 | some (.ext _) => True
 | _ => False
section
variable {P : Program} {w : World} {H : Hp} {h h' : Heap} {x e : Addr} {o' : HO}
theorem HOk.write (ok : HOk P w H h) (mu : Mut (H x)) (he : e = x \/ H e = some (.own x)) (k : ∀ b u, b ≠ e -> h.get? b = some u -> h'.get? b = some u) (heo : ∃ u, h'.get? e = some u)
  (new : ObjOk P w (upd H x o') h' x o') : HOk P w (upd H x o') h' := fun b u q => by
 have nown : ∀ c y, H c = some (.own y) -> c ≠ x := fun c y r z => by subst z; rw [r] at mu; exact mu
 have ntup : ∀ c xs, H c = some (.tup xs) -> c ≠ x := fun c xs r z => by subst z; rw [r] at mu; exact mu
 by_cases hb : b = x
 ·subst hb; rw [q13] at q; cases q; exact new
 ·rw [q36 hb] at q
  by_cases hbe : b = e
  ·have q' : H b = some (.own x) := by
    rcases he with z | z
    ·exact absurd (hbe.trans z) hb
    ·rw [hbe]; exact z
   rw [q] at q'; cases q'
   obtain ⟨v, hv⟩ := heo
   exact ⟨v, by rw [hbe]; exact hv⟩
  ·refine (ok b u q).stay (fun c v hc r => k c v ?_ r) (fun c r => by rw [q36 (nown c b r)]; exact r) fun c xs r => by rw [q36 (ntup c xs r)]; exact r
   rcases hc with rfl | hc
   ·exact hbe
   ·rintro rfl
    rcases he with z | z
    ·exact nown c b hc z
    ·rw [hc] at z; cases z; exact hb rfl
end
structure Un (fs ex : List Addr) (H H' : Hp) (h h' : Heap) : Prop where
 keep : ∀ b o, h.get? b = some o -> H b = none -> b ∉ fs -> b ∉ ex -> h'.get? b = some o
 slot : ∀ b o, h.get? b = some o -> H b = none -> b ∈ fs -> b ∉ ex -> ∃ sl, h'.get? b = some { o with slots := sl }
 free : ∀ b o, h.get? b = some o -> H b = none -> b ∉ ex -> H' b = none
 there : ∀ b o, h.get? b = some o -> b ∉ ex -> ∃ o', h'.get? b = some o'
 tups : ∀ b xs, H b = some (.tup xs) -> H' b = some (.tup xs)
 frzs : ∀ b o u, H b = some (.frz o u) -> H' b = some (.frz o u)
 tbls : ∀ b ps, H b = some (.tbl ps) -> ∃ more, H' b = some (.tbl (ps ++ more))
section
variable {fs fs' ex ex' : List Addr} {H H1 H2 : Hp} {h h1 h2 h' : Heap} {a x e : Addr} {o : HO}
theorem Un.any (u : Un fs ex H H1 h h1) {b : Addr} {ob : Obj} (q : h.get? b = some ob) (n : H b = none) (hx : b ∉ ex) : ∃ sl, h1.get? b = some { ob with slots := sl } := by
 by_cases hb : b ∈ fs
 ·exact u.slot b ob q n hb hx
 ·exact ⟨ob.slots, u.keep b ob q n hb hx⟩
theorem Un.kept (k : ∀ b u, h.get? b = some u -> h'.get? b = some u) : Un fs ex H H h h' :=
 ⟨fun b ob q _ _ _ => k b ob q, fun b ob q _ _ _ => ⟨ob.slots, k b ob q⟩, fun _ _ _ n _ => n, fun b ob q _ => ⟨ob, k b ob q⟩, fun _ _ q => q, fun _ _ _ q => q, fun _ ps q => ⟨#[], by rw [q]; simp⟩⟩
theorem Un.refl : Un fs ex H H h h := Un.kept fun _ _ q => q
theorem Un.laid (k : ∀ b u, h.get? b = some u -> h'.get? b = some u) (hp : h.objs.size <= a) (hn : H a = none) : Un fs ex H (upd H a o) h h' where
 keep := fun b u q _ _ _ => k b u q
 slot := fun b u q _ _ _ => ⟨u.slots, k b u q⟩
 free := fun b u q n _ => by rw [q36 (Nat.ne_of_lt (Nat.lt_of_lt_of_le (Heap.lt_size q) hp))]; exact n
 there := fun b u q _ => ⟨u, k b u q⟩
 tups := fun b xs q => by rw [q36 (q33 q hn)]; exact q
 frzs := fun b u xs q => by rw [q36 (q33 q hn)]; exact q
 tbls := fun b ps q => ⟨#[], by rw [q36 (q33 q hn), q]; simp⟩
theorem Un.write (mu : Mut (H x)) (he : e = x \/ H e = some (.own x)) (k : ∀ b u, b ≠ e -> h.get? b = some u -> h'.get? b = some u) (heo : ∃ u, h'.get? e = some u) : Un fs ex H (upd H x o) h h' := by
 have hx : ∀ b, H b = none -> b ≠ x := fun b n z => by subst z; rw [n] at mu; exact mu
 have hb : ∀ b, H b = none -> b ≠ e := fun b n z => by
  subst z
  rcases he with r | r
  ·exact hx b n r
  ·rw [n] at r; cases r
 have hm : ∀ b u, H b = some u -> ¬ Mut (some u) -> b ≠ x := fun b u q nm z => by subst z; rw [q] at mu; exact nm mu
 refine ⟨fun b u q n _ _ => k b u (hb b n) q, fun b u q n _ _ => ⟨u.slots, k b u (hb b n) q⟩, fun b u q n _ => by rw [q36 (hx b n)]; exact n, fun b u q _ => ?_,
  fun b xs q => by rw [q36 (hm b _ q fun z => z)]; exact q, fun b u xs q => by rw [q36 (hm b _ q fun z => z)]; exact q, fun b ps q => ⟨#[], by rw [q36 (hm b _ q fun z => z), q]; simp⟩⟩
 by_cases hbe : b = e
 ·subst hbe; exact heo
 ·exact ⟨u, k b u hbe q⟩
end
def trk (h : Heap) (H : Hp) : List Addr := (List.range h.objs.size).filter fun a => (H a).isSome
def hidT (h : Heap) (H : Hp) : Heap := PySem.W.hideAll h (trk h H)
theorem q577 (h : Heap) (H : Hp) : (hidT h H).objs.size = h.objs.size := PySem.W.hideAll_size _ _
theorem hidT_get {h : Heap} {H : Hp} {b : Addr} {o : Obj} (e : h.get? b = some o) (n : H b = none) : (hidT h H).get? b = some o :=
 PySem.W.hideAll_get _ e fun hm => by
  have q : (H b).isSome = true := (List.mem_filter.mp hm).2
  rw [n] at q; simp at q
theorem of_hidT {h : Heap} {H : Hp} {b : Addr} {o : Obj} (e : (hidT h H).get? b = some o) : h.get? b = some o /\ H b = none := by
 have e' : h.get? b = some o := PySem.W.of_hideAll (trk h H) e
 refine ⟨e', ?_⟩
 cases q : H b with
 | none => rfl
 | some x =>
  have hm : b ∈ trk h H := List.mem_filter.mpr ⟨List.mem_range.mpr (Heap.lt_size e'), by simp [q]⟩
  have z : (hidT h H).get? b = none := PySem.W.hideAll_none (trk h H) hm
  rw [z] at e; cases e
def allNews (g h : Heap) (L : Addr) : List (Addr × Obj) := (List.range h.objs.size).filterMap fun a => if a = L \/ (g.get? a).isSome = true then none else (h.get? a).map fun o => (a, o)
def rest (g h : Heap) (L d : Addr) : List (Addr × Obj) := (allNews g h L).filter fun p => decide (p.1 ≠ d)
end L2
namespace L2
open PySem PySem.Spec PyProof.Rows
structure Mod (K : PySem.W.Frag) (mg : Str -> Option Value) (base : Heap) : Prop where
 kin : K.In base
 glob : base.Ns mainGlobals mg
 blt : ∃ mb, base.Ns builtinsNs mb /\ ∀ x : Str, x ≠ "__name__" -> mb x = bootBuiltins x
 nolimit : base.NoLimit
structure Cx where
 prog : Program
 w : World
 K : PySem.W.Frag
 mg : Str -> Option Value
 base : Heap
 A : Around
 N : List Str
 s₀ : Shared
 H₀ : Hp
 env : Env
 outer : List Env
 stack : List Env
 ex : List Addr
 fn : Str -> Bool
 calm : Bool
 pn : List (Addr × Obj)
 xe : Value -> Shared -> Prop
def frs (l : List Env) : List Addr := l.filterMap (·.frame)
abbrev Cx.fs (X : Cx) : List Addr := frs X.outer
def Vis (sc : Scope) (x : Str) : Prop := sc.names.lookup x = some .local \/ sc.names.lookup x = some .cell \/ sc.names.lookup x = some .free
def Loc (sc : Scope) (x : Str) : Prop := sc.names.lookup x = some .local \/ sc.names.lookup x = some .cell
def Look (env : Env) (h : Heap) (m : Str -> Option Value) (x : Str) (u : Value) : Prop :=
 (env.kindOf x = some .local /\ m x = some u) \/ ((env.kindOf x = some .cell \/ env.kindOf x = some .free) /\ ∃ c, env.cells.lookup x = some c /\ h.IsCell c (some u))
structure Cx.Ok (X : Cx) : Prop where
 mod : Mod X.K X.mg X.base
 kind : X.env.scope.kind = .function
 glob : X.env.globals = mainGlobals
 blt : X.env.builtins = builtinsNs
 above : X.s₀.heap.objs.size <= X.env.locals
 inj : ∀ x y c, X.env.cells.lookup x = some c -> X.env.cells.lookup y = some c -> x = y
 has : ∀ x, (X.env.kindOf x = some .cell \/ X.env.kindOf x = some .free) -> ∃ c, X.env.cells.lookup x = some c
 cab : ∀ x c, X.fn x = true -> X.env.cells.lookup x = some c -> X.s₀.heap.objs.size <= c
 hd : X.calm = true -> X.A.handled = none
 frames : X.A.frames = some X.stack
 stk : X.stack = X.outer \/ (X.stack = X.env :: X.outer /\ X.env.frame = some X.env.locals)
 exf : ∀ b ∈ X.ex, b ≠ X.env.locals /\ ∀ x c, X.env.cells.lookup x = some c -> c ≠ b
 bs : ∀ b o, X.base.get? b = some o -> X.s₀.heap.get? b = some o /\ X.H₀ b = none
 bsz : X.base.objs.size <= X.s₀.heap.objs.size
 noex : ∀ b o, X.base.get? b = some o -> b ∉ X.ex
 exfs : ∀ b ∈ X.ex, b ∉ X.fs
 funs : X.s₀.heap.FunFrames X.base X.outer
 frf : ∀ b ∈ X.fs, X.H₀ b = none
structure Inv (X : Cx) (pins : List (Addr × Obj)) (σ : List (Option V)) (H : Hp) (s : Shared) : Prop where
 ok : X.Ok
 os : s.os = X.s₀.os
 bare : AllBare s.gens
 base : Un X.fs X.ex X.H₀ H X.s₀.heap s.heap
 loc : ∃ m, s.heap.Ns X.env.locals m /\ ∀ (i : Nat) (x : Str) (v : V), X.N[i]? = some x -> σ[i]? = some (some v) -> Vis X.env.scope x -> ∃ u, RelV v u /\ Look X.env s.heap m x u
 cell : ∀ x c, X.env.cells.lookup x = some c -> ∃ v, s.heap.IsCell c v
 free : H X.env.locals = none
 freeC : ∀ x c, X.env.cells.lookup x = some c -> H c = none
 pin : ∀ p ∈ X.pn ++ pins, s.heap.get? p.1 = some p.2 /\ H p.1 = none /\ p.1 ≠ X.env.locals /\ p.1 ∉ X.fs /\ ∀ v, p.2.data ≠ .cell v
 hok : HOk X.prog X.w H s.heap
 len : σ.length = X.N.length
section
variable {X : Cx} {pins : List (Addr × Obj)} {σ : List (Option V)} {H H' : Hp} {s : Shared} {h' : Heap}
theorem Cx.Ok.nofr (ok : X.Ok) {b : Addr} {o : Obj} (e : X.base.get? b = some o) : b ∉ X.fs := fun hb => by
 have := (ok.funs.mem hb).1
 rw [e] at this; cases this
theorem Inv.bs (I : Inv X pins σ H s) : ∀ b o, X.base.get? b = some o -> s.heap.get? b = some o /\ H b = none := fun b o e =>
 ⟨I.base.keep b o (I.ok.bs b o e).1 (I.ok.bs b o e).2 (I.ok.nofr e) (I.ok.noex b o e), I.base.free b o (I.ok.bs b o e).1 (I.ok.bs b o e).2 (I.ok.noex b o e)⟩
theorem Inv.bk (I : Inv X pins σ H s) : ∀ b o, X.base.get? b = some o -> s.heap.get? b = some o := fun b o e => (I.bs b o e).1
theorem Inv.mod (I : Inv X pins σ H s) : Mod X.K X.mg X.base := I.ok.mod
theorem Inv.kIn (I : Inv X pins σ H s) : X.K.In s.heap := I.ok.mod.kin.keeps I.bk
theorem Inv.lt (I : Inv X pins σ H s) : X.env.locals < s.heap.objs.size := let ⟨_, hn, _⟩ := I.loc; hn.lt
theorem Inv.sz (I : Inv X pins σ H s) : X.s₀.heap.objs.size <= s.heap.objs.size := Nat.le_trans I.ok.above (Nat.le_of_lt I.lt)
theorem Inv.nofs (I : Inv X pins σ H s) {a : Addr} (h : s.heap.objs.size <= a) : a ∉ X.fs := fun hb => by
 obtain ⟨_, o, ho, _⟩ := I.ok.funs.mem hb
 exact absurd (Nat.lt_of_lt_of_le (Heap.lt_size ho) (Nat.le_trans I.sz h)) (Nat.lt_irrefl _)
theorem Inv.cne (I : Inv X pins σ H s) : ∀ x c, X.env.cells.lookup x = some c -> c ≠ X.env.locals := fun x c e z => by
 obtain ⟨v, o, ho, hd⟩ := I.cell x c e
 obtain ⟨m, ⟨o', es, ep, ho', hd', _⟩, _⟩ := I.loc
 rw [z, ho'] at ho; cases ho; rw [hd'] at hd; cases hd
theorem Inv.funs (I : Inv X pins σ H s) : s.heap.FunFrames X.base X.outer := by
 have all : ∀ (l : List Env), (∀ b ∈ frs l, b ∈ X.fs) -> X.s₀.heap.FunFrames X.base l -> s.heap.FunFrames X.base l := by
  intro l
  induction l with
  | nil => intro _ _; trivial
  | cons env r ih =>
   intro hs hl
   obtain ⟨hk, ⟨L, o, hf, hn, ho, hd⟩, hr⟩ := hl
   have hL : L ∈ X.fs := hs L (by unfold frs; rw [List.filterMap_cons, hf]; exact List.mem_cons_self)
   obtain ⟨sl, e⟩ := I.base.slot L o ho (I.ok.frf L hL) hL fun z => I.ok.exfs L z hL
   exact ⟨hk, ⟨L, _, hf, hn, e, hd⟩, ih (fun b hb => hs b (by unfold frs; rw [List.filterMap_cons, hf]; exact List.mem_cons_of_mem _ hb)) hr⟩
 exact all X.outer (fun _ hb => hb) I.ok.funs
theorem Inv.stack (I : Inv X pins σ H s) : s.heap.FunFrames X.base X.stack := by
 rcases I.ok.stk with e | ⟨e, hf⟩
 ·rw [e]; exact I.funs
 ·rw [e]
  obtain ⟨m, hn, _⟩ := I.loc
  refine .cons (by rw [I.ok.kind]; decide) hf hn ?_ I.funs
  exact Heap.get?_none_of_le (Nat.le_trans I.ok.bsz I.ok.above)
theorem Inv.stkSub (I : Inv X pins σ H s) : ∀ b ∈ frs X.stack, b ∈ X.env.locals :: X.fs := fun b hb => by
 rcases I.ok.stk with e | ⟨e, hf⟩
 ·rw [e] at hb; exact List.mem_cons_of_mem _ hb
 ·rw [e] at hb
  unfold frs at hb
  rw [List.filterMap_cons, hf] at hb
  exact hb
theorem Inv.stkFree (I : Inv X pins σ H s) : ∀ b ∈ frs X.stack, H b = none := fun b hb => by
 rcases List.mem_cons.mp (I.stkSub b hb) with e | hb
 ·rw [e]; exact I.free
 ·obtain ⟨_, o, ho, _⟩ := I.ok.funs.mem hb
  exact I.base.free b o ho (I.ok.frf b hb) fun z => I.ok.exfs b z hb
theorem Inv.step {g' : Array GenState} {t' : Nat} {d' : Drawn} {ch : List Addr} (I : Inv X pins σ H s)
  (hch : ∀ b ∈ ch, (b ∈ X.ex \/ X.s₀.heap.objs.size <= b) /\ b ≠ X.env.locals /\ (∀ x c, X.env.cells.lookup x = some c -> c ≠ b) /\ ∀ p ∈ X.pn ++ pins, p.1 ≠ b)
  (keep : ∀ b o, b ≠ X.env.locals -> b ∉ X.fs -> b ∉ ch -> s.heap.get? b = some o -> H b = none -> h'.get? b = some o)
  (slot : ∀ b o, b ≠ X.env.locals -> b ∈ X.fs -> b ∉ ch -> s.heap.get? b = some o -> H b = none -> ∃ sl, h'.get? b = some { o with slots := sl }) (free : ∀ b o, b ∉ ch -> s.heap.get? b = some o -> H b = none -> H' b = none)
  (there : ∀ b o, b ∉ ch -> s.heap.get? b = some o -> ∃ o', h'.get? b = some o')
  (tups : ∀ b xs, H b = some (.tup xs) -> H' b = some (.tup xs)) (frzs : ∀ b o u, H b = some (.frz o u) -> H' b = some (.frz o u)) (tbls : ∀ b ps, H b = some (.tbl ps) -> ∃ more, H' b = some (.tbl (ps ++ more)))
  (ns : ∀ m, s.heap.Ns X.env.locals m -> h'.Ns X.env.locals m) (hok : HOk X.prog X.w H' h') (hg : AllBare g') :
  Inv X pins σ H' { s with heap := h', gens := g', drawn := d', toks := t' } := by
 have neL : ∀ b o, X.s₀.heap.get? b = some o -> b ≠ X.env.locals := fun b o e => Nat.ne_of_lt (Nat.lt_of_lt_of_le (Heap.lt_size e) I.ok.above)
 have neC : ∀ b o, X.s₀.heap.get? b = some o -> b ∉ X.ex -> b ∉ ch := fun b o e hx hb => by
  rcases (hch b hb).1 with z | z
  ·exact hx z
  ·exact absurd (Nat.lt_of_lt_of_le (Heap.lt_size e) z) (Nat.lt_irrefl _)
 have cellK : ∀ x c, X.env.cells.lookup x = some c -> ∀ v, s.heap.IsCell c v -> h'.IsCell c v := fun x c e v ⟨o, ho, hd⟩ => by
  have nch : c ∉ ch := fun z => (hch c z).2.2.1 x c e rfl
  by_cases hc : c ∈ X.fs
  ·obtain ⟨sl, q⟩ := slot c o (I.cne x c e) hc nch ho (I.freeC x c e)
   exact ⟨_, q, hd⟩
  ·exact ⟨o, keep c o (I.cne x c e) hc nch ho (I.freeC x c e), hd⟩
 refine ⟨I.ok, I.os, hg, ⟨fun b o e n hb hx => ?_, fun b o e n hb hx => ?_, fun b o e n hx => ?_, fun b o e hx => ?_, fun b xs e => tups b xs (I.base.tups b xs e), fun b o xs e => frzs b o xs (I.base.frzs b o xs e), fun b ps e => ?_⟩, ?_, fun x c e => ?_, ?_, fun x c e => ?_, fun p hp => ?_, hok, I.len⟩
 ·exact keep b o (neL b o e) hb (neC b o e hx) (I.base.keep b o e n hb hx) (I.base.free b o e n hx)
 ·obtain ⟨sl, e1⟩ := I.base.slot b o e n hb hx
  obtain ⟨sl', e2⟩ := slot b _ (neL b o e) hb (neC b o e hx) e1 (I.base.free b o e n hx)
  exact ⟨sl', e2⟩
 ·obtain ⟨o', e1⟩ := I.base.there b o e hx
  exact free b o' (neC b o e hx) e1 (I.base.free b o e n hx)
 ·obtain ⟨o', e1⟩ := I.base.there b o e hx
  exact there b o' (neC b o e hx) e1
 ·obtain ⟨m1, e1⟩ := I.base.tbls b ps e
  obtain ⟨m2, e2⟩ := tbls b _ e1
  exact ⟨m1 ++ m2, by rw [e2, Array.append_assoc]⟩
 ·obtain ⟨m, hn, hl⟩ := I.loc
  refine ⟨m, ns m hn, fun i x v e1 e2 e3 => ?_⟩
  obtain ⟨u, r, l⟩ := hl i x v e1 e2 e3
  refine ⟨u, r, ?_⟩
  rcases l with l | ⟨k, c, e, z⟩
  ·exact .inl l
  ·exact .inr ⟨k, c, e, cellK x c e _ z⟩
 ·obtain ⟨v, z⟩ := I.cell x c e
  exact ⟨v, cellK x c e v z⟩
 ·obtain ⟨m, ⟨o, _, _, ho, _⟩, _⟩ := I.loc
  exact free _ o (fun z => (hch _ z).2.1 rfl) ho I.free
 ·obtain ⟨v, o, ho, hd⟩ := I.cell x c e
  exact free c o (fun z => (hch c z).2.2.1 x c e rfl) ho (I.freeC x c e)
 ·obtain ⟨e, n, ne, nf, d⟩ := I.pin p hp
  have nch : p.1 ∉ ch := fun z => (hch p.1 z).2.2.2 p hp rfl
  exact ⟨keep p.1 p.2 ne nf nch e n, free p.1 p.2 nch e n, ne, nf, d⟩
theorem Inv.un {t' : Nat} (I : Inv X pins σ H s) (u : Un X.fs [] H H' s.heap h') (hok : HOk X.prog X.w H' h') : Inv X pins σ H' { s with heap := h', toks := t' } := by
 obtain ⟨m, ⟨o, es, ep, ho, r⟩, _⟩ := id I.loc
 obtain ⟨sl, hL⟩ := u.any ho I.free (by simp)
 exact I.step (g' := s.gens) (d' := s.drawn) (ch := []) (fun _ z => nomatch z) (fun b o _ hb _ e n => u.keep b o e n hb (by simp)) (fun b o _ hb _ e n => u.slot b o e n hb (by simp)) (fun b o _ e n => u.free b o e n (by simp)) (fun b o _ e => u.there b o e (by simp)) u.tups u.frzs u.tbls (fun m' hm => by
  obtain ⟨o', es', ep', ho', r'⟩ := hm
  rw [ho] at ho'; cases ho'
  exact ⟨_, es', ep', hL, r'⟩) hok I.bare
theorem Inv.call {g' : Array GenState} {t' : Nat} {d' : Drawn} {ch : List Addr} (I : Inv X pins σ H s) (u : Un (frs X.stack) ch H H' s.heap h') (hok : HOk X.prog X.w H' h') (hg : AllBare g')
  (hch : ∀ b ∈ ch, (b ∈ X.ex \/ X.s₀.heap.objs.size <= b) /\ b ≠ X.env.locals /\ (∀ x c, X.env.cells.lookup x = some c -> c ≠ b) /\ ∀ p ∈ X.pn ++ pins, p.1 ≠ b) :
  Inv X pins σ H' { s with heap := h', gens := g', drawn := d', toks := t' } := by
 obtain ⟨m, ⟨o, es, ep, ho, r⟩, _⟩ := id I.loc
 obtain ⟨sl, hL⟩ := u.any ho I.free fun z => (hch _ z).2.1 rfl
 exact I.step (ch := ch) hch (fun b o hL hb hc e n => u.keep b o e n (fun z => (List.mem_cons.mp (I.stkSub b z)).elim hL hb) hc) (fun b o _ _ hc e n => u.any e n hc) (fun b o hc e n => u.free b o e n hc) (fun b o hc e => u.there b o e hc) u.tups u.frzs u.tbls (fun m' hm => by
  obtain ⟨o', es', ep', ho', r'⟩ := hm
  rw [ho] at ho'; cases ho'
  exact ⟨_, es', ep', hL, r'⟩) hok hg
theorem Inv.turned {t' : Nat} {it : Addr} (I : Inv X pins σ H s) (k : ∀ b o, b ≠ it -> s.heap.get? b = some o -> h'.get? b = some o) (hn : H it = none) (hL : it ≠ X.env.locals)
  (h1 : it ∈ X.ex \/ X.s₀.heap.objs.size <= it) (h2 : ∀ x c, X.env.cells.lookup x = some c -> c ≠ it) (h3 : ∀ p ∈ X.pn ++ pins, p.1 ≠ it) : Inv X pins σ H { s with heap := h', toks := t' } := by
 have nit : ∀ b u, H b = some u -> b ≠ it := fun b u e z => by rw [z, hn] at e; cases e
 refine I.step (g' := s.gens) (d' := s.drawn) (ch := [it]) (fun b hb => ?_) (fun b o _ _ hc e _ => k b o (fun z => hc (by simp [z])) e) (fun b o _ _ hc e _ => ⟨o.slots, k b o (fun z => hc (by simp [z])) e⟩) (fun _ _ _ _ n => n)
  (fun b o hc e => ⟨o, k b o (fun z => hc (by simp [z])) e⟩) (fun _ _ e => e) (fun _ _ _ e => e) (fun b ps e => ⟨#[], by rw [e]; simp⟩) (fun m hm => ?_) (fun b u e => ?_) I.bare
 ·have e : b = it := by simpa using hb
  subst e
  exact ⟨h1, hL, h2, h3⟩
 ·obtain ⟨o, es, ep, ho, r⟩ := hm
  exact ⟨o, es, ep, k _ o (Ne.symm hL) ho, r⟩
 ·refine (I.hok b u e).stay (fun c v hc q => k c v ?_ q) (fun _ q => q) fun _ _ q => q
  rcases hc with z | z
  ·rw [z]; exact nit b u e
  ·exact nit c _ z
theorem Inv.tok (I : Inv X pins σ H s) (t : Nat) : Inv X pins σ H { s with toks := t } := I.un (h' := s.heap) (t' := t) Un.refl I.hok
theorem Inv.kept {t' : Nat} (I : Inv X pins σ H s) (k : ∀ b u, s.heap.get? b = some u -> h'.get? b = some u) : Inv X pins σ H { s with heap := h', toks := t' } := I.un (Un.kept k) (I.hok.kept k)
theorem Inv.laid {a : Addr} {o : HO} {t' : Nat} (I : Inv X pins σ H s) (k : ∀ b u, s.heap.get? b = some u -> h'.get? b = some u) (hp : s.heap.objs.size <= a) (new : ObjOk X.prog X.w (upd H a o) h' a o) :
  Inv X pins σ (upd H a o) { s with heap := h', toks := t' } := I.un (Un.laid k hp (I.hok.fresh hp)) (I.hok.laid k hp new)
theorem Inv.write {x e : Addr} {o : HO} {t' : Nat} (I : Inv X pins σ H s) (mu : Mut (H x)) (he : e = x \/ H e = some (.own x)) (k : ∀ b u, b ≠ e -> s.heap.get? b = some u -> h'.get? b = some u) (heo : ∃ u, h'.get? e = some u)
  (new : ObjOk X.prog X.w (upd H x o) h' x o) : Inv X pins σ (upd H x o) { s with heap := h', toks := t' } := I.un (Un.write mu he k heo) (I.hok.write mu he k heo new)
theorem Inv.pins_of {pins' : List (Addr × Obj)} (I : Inv X pins σ H s) (h : ∀ p ∈ pins', s.heap.get? p.1 = some p.2 /\ H p.1 = none /\ p.1 ≠ X.env.locals /\ p.1 ∉ X.fs /\ ∀ v, p.2.data ≠ .cell v) : Inv X pins' σ H s :=
 ⟨I.ok, I.os, I.bare, I.base, I.loc, I.cell, I.free, I.freeC, fun p hp => (List.mem_append.mp hp).elim (fun z => I.pin p (List.mem_append_left _ z)) (h p), I.hok, I.len⟩
theorem q492 {N : List Str} (hN : N.Nodup) {i j : Nat} {x : Str} (a : N[i]? = some x) (b : N[j]? = some x) : i = j := by
 obtain ⟨h1, e1⟩ := List.getElem?_eq_some_iff.mp a
 obtain ⟨h2, e2⟩ := List.getElem?_eq_some_iff.mp b
 exact (List.getElem_inj hN).mp (e1.trans e2.symm)
theorem q399 {M : Model} {A : Around} {E : Value -> Shared -> Prop} {i : Nat} {x : Str} {v : V} {u : Value} {Q : Unit -> Shared -> Prop} (I : Inv X pins σ H s) (hN : X.N.Nodup) (hi : X.N[i]? = some x) (hx : Loc X.env.scope x) (r : RelV v u)
  (h : ∀ s', Inv X pins (σ.set i (some v)) H s' -> (∃ a, Heap.SameBut a s.heap s'.heap /\ (a = X.env.locals \/ X.env.cells.lookup x = some a)) -> Q () s') (hf : X.fn x = true \/ X.env.scope.names.lookup x = some .local := by first | exact .inl rfl | exact .inr rfl | assumption) : wpAny M A (storeName X.env x u) Q E s := by
 obtain ⟨m, hn, hl⟩ := id I.loc
 have hcls : (X.env.scope.kind == .class || (X.env.scope.kind == .module && X.env.locals != X.env.globals)) = false := by rw [I.ok.kind]; rfl
 have hiσ : i < σ.length := by rw [I.len]; exact (List.getElem?_eq_some_iff.mp hi).1
 have cne := I.cne
 have tracked : ∀ {a : Addr} {h' : Heap}, (∃ o, s.heap.get? a = some o /\ H a = none) -> Heap.SameBut a s.heap h' -> HOk X.prog X.w H h' := fun {a h'} ha hs b ob e => by
  obtain ⟨_, _, hfree⟩ := ha
  refine (I.hok b ob e).stay (fun c w' hc q => (hs.2 c ?_).trans q) (fun _ q => q) fun _ _ q => q
  rintro rfl
  rcases hc with rfl | hc
  ·rw [hfree] at e; cases e
  ·rw [hfree] at hc; cases hc
 rcases hx with hk | hk
 ·refine wpAny_storeName_local hk hn (fun h' hn' hs => ?_) hcls
  obtain ⟨oL, _, _, hoL, _⟩ := id hn
  refine h _ ⟨I.ok, I.os, I.bare, ⟨fun b o e n hb hx => ?_, fun b o e n hb hx => ?_, I.base.free, fun b o e hx => ?_, I.base.tups, I.base.frzs, I.base.tbls⟩, ⟨_, hn', fun j y v' e1 e2 e3 => ?_⟩, fun y c e => ?_, I.free, I.freeC, fun p hp => ?_, tracked ⟨oL, hoL, I.free⟩ hs, by simpa using I.len⟩ ⟨_, hs, .inl rfl⟩
  ·exact (hs.2 b (Nat.ne_of_lt (Nat.lt_of_lt_of_le (Heap.lt_size e) I.ok.above))).trans (I.base.keep b o e n hb hx)
  ·obtain ⟨sl, e1⟩ := I.base.slot b o e n hb hx
   exact ⟨sl, (hs.2 b (Nat.ne_of_lt (Nat.lt_of_lt_of_le (Heap.lt_size e) I.ok.above))).trans e1⟩
  ·obtain ⟨o', e1⟩ := I.base.there b o e hx
   exact ⟨o', (hs.2 b (Nat.ne_of_lt (Nat.lt_of_lt_of_le (Heap.lt_size e) I.ok.above))).trans e1⟩
  ·by_cases hj : j = i
   ·subst hj
    rw [hi] at e1; cases e1
    rw [List.getElem?_set_self hiσ] at e2
    cases e2
    exact ⟨u, r, .inl ⟨hk, by simp⟩⟩
   ·rw [List.getElem?_set_ne (Ne.symm hj)] at e2
    obtain ⟨u', r', q⟩ := hl j y v' e1 e2 e3
    refine ⟨u', r', ?_⟩
    rcases q with ⟨k, e⟩ | ⟨k, c, e, z⟩
    ·refine .inl ⟨k, ?_⟩
     have : y ≠ x := fun e => hj (q492 hN e1 (e ▸ hi))
     simp [this, e]
    ·exact .inr ⟨k, c, e, z.sameBut hs (cne y c e)⟩
  ·obtain ⟨w', z⟩ := I.cell y c e
   exact ⟨w', z.sameBut hs (cne y c e)⟩
  ·obtain ⟨e, n, ne, nf, d⟩ := I.pin p hp
   exact ⟨(hs.2 p.1 ne).trans e, n, ne, nf, d⟩
 ·have hfn : X.fn x = true := by
   rcases hf with z | z
   ·exact z
   ·rw [z] at hk; cases hk
  obtain ⟨c, hc⟩ := I.ok.has x (.inl hk)
  obtain ⟨w', z⟩ := I.cell x c hc
  refine wpAny_storeName_cell I.ok.kind hk hc z (fun h' hc' hs => ?_)
  obtain ⟨oc, hoc, hocd⟩ := id z
  refine h { s with heap := h' } ⟨I.ok, I.os, I.bare, ⟨fun b o e n hb hx => ?_, fun b o e n hb hx => ?_, I.base.free, fun b o e hx => ?_, I.base.tups, I.base.frzs, I.base.tbls⟩, ⟨m, hn.sameBut hs (Ne.symm (cne x c hc)), fun j y v' e1 e2 e3 => ?_⟩, fun y c' e => ?_, I.free, I.freeC, fun p hp => ?_, tracked ⟨oc, hoc, I.freeC x c hc⟩ hs, by simpa using I.len⟩ ⟨c, hs, .inr hc⟩
  ·exact (hs.2 b (Nat.ne_of_lt (Nat.lt_of_lt_of_le (Heap.lt_size e) (I.ok.cab x c hfn hc)))).trans (I.base.keep b o e n hb hx)
  ·obtain ⟨sl, e1⟩ := I.base.slot b o e n hb hx
   exact ⟨sl, (hs.2 b (Nat.ne_of_lt (Nat.lt_of_lt_of_le (Heap.lt_size e) (I.ok.cab x c hfn hc)))).trans e1⟩
  ·obtain ⟨o', e1⟩ := I.base.there b o e hx
   exact ⟨o', (hs.2 b (Nat.ne_of_lt (Nat.lt_of_lt_of_le (Heap.lt_size e) (I.ok.cab x c hfn hc)))).trans e1⟩
  ·by_cases hj : j = i
   ·subst hj
    rw [hi] at e1; cases e1
    rw [List.getElem?_set_self hiσ] at e2
    cases e2
    exact ⟨u, r, .inr ⟨.inl hk, c, hc, hc'⟩⟩
   ·rw [List.getElem?_set_ne (Ne.symm hj)] at e2
    obtain ⟨u', r', q⟩ := hl j y v' e1 e2 e3
    refine ⟨u', r', ?_⟩
    rcases q with q | ⟨k, c', e, z'⟩
    ·exact .inl q
    ·refine .inr ⟨k, c', e, z'.sameBut hs ?_⟩
     rintro rfl
     exact hj (q492 hN e1 (I.ok.inj _ _ _ e hc ▸ hi))
  ·by_cases hcc : c' = c
   ·subst hcc; exact ⟨_, hc'⟩
   ·obtain ⟨w2, z2⟩ := I.cell y c' e
    exact ⟨w2, z2.sameBut hs hcc⟩
  ·obtain ⟨e, n, ne, nf, d⟩ := I.pin p hp
   refine ⟨(hs.2 p.1 ?_).trans e, n, ne, nf, d⟩
   intro q
   rw [q, hoc] at e
   have q' : oc = p.2 := Option.some.inj e
   exact d w' (by rw [<- q']; exact hocd)
theorem q266 {M : Model} {A : Around} {E : Value -> Shared -> Prop} {i : Nat} {x : Str} {v : V} {u : Value} {Q : Unit -> Shared -> Prop} (I : Inv X pins σ H s) (hN : X.N.Nodup) (hi : X.N[i]? = some x) (hx : Loc X.env.scope x) (r : RelV v u)
  (h : ∀ s', Inv X pins (σ.set i (some v)) H s' -> Q () s') (hf : X.fn x = true \/ X.env.scope.names.lookup x = some .local := by first | exact .inl rfl | exact .inr rfl | assumption) : wpAny M A (storeName X.env x u) Q E s :=
 q399 I hN hi hx r (fun s' I' _ => h s' I') hf
theorem Inv.call' {s' : Shared} {ch : List Addr} (I : Inv X pins σ H s) (ho : s'.os = s.os) (u : Un (frs X.stack) ch H H' s.heap s'.heap) (hok : HOk X.prog X.w H' s'.heap) (hg : AllBare s'.gens)
  (hch : ∀ b ∈ ch, (b ∈ X.ex \/ X.s₀.heap.objs.size <= b) /\ b ≠ X.env.locals /\ (∀ x c, X.env.cells.lookup x = some c -> c ≠ b) /\ ∀ p ∈ X.pn ++ pins, p.1 ≠ b) : Inv X pins σ H' s' := by
 obtain ⟨h', g', d', t', o'⟩ := s'
 have e : o' = s.os := ho
 subst e
 exact I.call (g' := g') (t' := t') (d' := d') u hok hg hch
end
abbrev XK := Value -> Option Addr -> Hp -> Prop
abbrev St := List (Option V)
abbrev VK := V -> Hp -> Prop
abbrev TE := St -> Hp -> VK -> Prop
abbrev TT := St -> Hp -> (Bool -> Hp -> Prop) -> Prop
abbrev TA := St -> Hp -> (List V -> Hp -> Prop) -> Prop
structure Ends where
 nx : St -> Hp -> Prop
 rt : VK
 bk : St -> Hp -> Prop := fun _ _ => False
 ct : St -> Hp -> Prop := fun _ _ => False
abbrev TS := Ends -> St -> Hp -> Prop
def EP (X : Cx) (pins : List (Addr × Obj)) (σ : St) (Q : VK) (u : Value) (s' : Shared) : Prop := ∃ v H', Inv X pins σ H' s' /\ RelV v u /\ Q v H'
def TP (X : Cx) (pins : List (Addr × Obj)) (σ : St) (Q : Bool -> Hp -> Prop) (b : Bool) (s' : Shared) : Prop := ∃ H', Inv X pins σ H' s' /\ Q b H'
def AP (X : Cx) (pins : List (Addr × Obj)) (σ : St) (Q : List V -> Hp -> Prop) (us : List Value) (s' : Shared) : Prop := ∃ vs H', Inv X pins σ H' s' /\ Vals vs us /\ Q vs H'
def SP (X : Cx) (pins : List (Addr × Obj)) (D : Ends) (f : Flow) (s' : Shared) : Prop :=
 match f with
 | .next => ∃ σ' H', Inv X pins σ' H' s' /\ D.nx σ' H'
 | .brk => ∃ σ' H', Inv X pins σ' H' s' /\ D.bk σ' H'
 | .cont => ∃ σ' H', Inv X pins σ' H' s' /\ D.ct σ' H'
 | .ret u => ∃ v σ' H', Inv X pins σ' H' s' /\ RelV v u /\ D.rt v H'
def PE (X : Cx) (e : Expr) (t : TE) : Prop :=
 ∀ (pins : List (Addr × Obj)) (s : Shared) (σ : St) (H : Hp) (Q : VK), Inv X pins σ H s -> t σ H Q -> wpAny (model X.prog X.w) X.A (eval e X.env) (EP X pins σ Q) X.xe s
def PT (X : Cx) (e : Expr) (t : TT) : Prop :=
 ∀ (pins : List (Addr × Obj)) (s : Shared) (σ : St) (H : Hp) (Q : Bool -> Hp -> Prop), Inv X pins σ H s -> t σ H Q -> wpAny (model X.prog X.w) X.A (isTrue e X.env (eval e X.env)) (TP X pins σ Q) X.xe s
def PW (X : Cx) (e : Expr) (t : TT) : Prop :=
 ∀ (whole : Sem Value) (pins : List (Addr × Obj)) (s : Shared) (σ : St) (H : Hp) (Q : Bool -> Hp -> Prop), Inv X pins σ H s -> t σ H Q -> wpAny (model X.prog X.w) X.A (isTrue e X.env whole) (TP X pins σ Q) X.xe s
theorem PW.pt {X : Cx} {e : Expr} {t : TT} (h : PW X e t) : PT X e t := h _
def PA (X : Cx) (es : List Expr) (t : TA) : Prop :=
 ∀ (pos : Pos) (pins : List (Addr × Obj)) (s : Shared) (σ : St) (H : Hp) (Q : List V -> Hp -> Prop), Inv X pins σ H s -> t σ H Q -> wpAny (model X.prog X.w) X.A (spliced (backTo pos (starEach es X.env))) (AP X pins σ Q) X.xe s
def PS (X : Cx) (st : Stmt) (t : TS) : Prop :=
 ∀ (pins : List (Addr × Obj)) (s : Shared) (σ : St) (H : Hp) (D : Ends), Inv X pins σ H s -> t D σ H -> wpAny (model X.prog X.w) X.A (exec st X.env) (SP X pins D) X.xe s
def PSs (X : Cx) (st : List Stmt) (t : TS) : Prop :=
 ∀ (pins : List (Addr × Obj)) (s : Shared) (σ : St) (H : Hp) (D : Ends), Inv X pins σ H s -> t D σ H -> wpAny (model X.prog X.w) X.A (execs st X.env) (SP X pins D) X.xe s
theorem thn {α : Type} {t : Sem α} {Q Q' : α -> Shared -> Prop} {M : Model} {A : Around} {E : Value -> Shared -> Prop} {s : Shared} (h : wpAny M A t Q E s) (hQ : ∀ a s, Q a s -> Q' a s) : wpAny M A t Q' E s := wpAny_mono h hQ fun _ _ x => x
end L2
namespace L2
open PySem PySem.Spec PyProof.Rows
section
variable {X : Cx}
def tVar (i : Nat) : TE := fun σ H Q => ∃ v, σ[i]? = some (some v) /\ Q v H
def tC (v : V) : TE := fun _ H Q => Q v H
theorem pe_var {i : Nat} {x : Str} {pos : Pos} (hN : X.N[i]? = some x) (hv : Vis X.env.scope x) (hd : (x == ("__debug__" : Str)) = false := by decide) (hcd : (x == ("__classdict__" : Str)) = false := by decide) : PE X (.Name x pos) (tVar i) := by
 intro pins s σ H Q I h
 obtain ⟨v, e, h⟩ := h
 obtain ⟨m, hn, hl⟩ := I.loc
 obtain ⟨u, r, l⟩ := hl i x v hN e hv
 have fin : EP X pins σ Q u s := ⟨v, H, I, r, h⟩
 rcases l with ⟨hk, hm⟩ | ⟨hk, c, hc, hcell⟩
 ·exact wpAny_Name (wpAny_loadName_local I.ok.kind hk hn hm fin) hd
 ·rcases hk with hk | hk
  ·exact wpAny_Name (wpAny_loadName_cell I.ok.kind hk hc hcell fin) hd
  ·exact wpAny_Name (wpAny_loadName_free I.ok.kind hk hc hcell fin hcd) hd
theorem q14 {i j pos} : PE X (.Constant (.int i) j pos) (tC (.int i)) := fun _ _ _ H _ I h => wpAny_Constant_int ⟨.int i, H, I.tok _, ⟨_, rfl⟩, h⟩
theorem pe_bl {b j pos} : PE X (.Constant (.bool b) j pos) (tC (.bl b)) := fun _ _ _ H _ I h => Constant_bool ⟨.bl b, H, I, rfl, h⟩
theorem q63 {j pos} : PE X (.Constant .none j pos) (tC .non) := fun _ _ _ H _ I h => Constant_none ⟨.non, H, I, rfl, h⟩
theorem q47 {x j pos} : PE X (.Constant (.str x) j pos) (tC (.str x)) := fun _ _ _ H _ I h => Calls.Constant_str ⟨.str x, H, I.tok _, ⟨_, rfl⟩, h⟩
def Gl (X : Cx) (x : Str) : Prop := X.env.kindOf x = some .globalImplicit
theorem ld_glob {E : Value -> Shared -> Prop} {pins : List (Addr × Obj)} {s : Shared} {σ : St} {H : Hp} {x : Str} {u : Value} {pos : Pos} {Q : Value -> Shared -> Prop} (I : Inv X pins σ H s) (hg : Gl X x) (hm : X.mg x = some u) (h : Q u s)
  (hd : (x == ("__debug__" : Str)) = false := by decide) : wpAny (model X.prog X.w) X.A (eval (.Name x pos) X.env) Q E s :=
 Calls.Name_function_global I.ok.kind hg (Calls.loadGlobal_global (by rw [I.ok.glob]; exact I.mod.glob.keeps I.bk) hm h) hd
theorem q343 {E : Value -> Shared -> Prop} {pins : List (Addr × Obj)} {s : Shared} {σ : St} {H : Hp} {x : Str} {u : Value} {pos : Pos} {Q : Value -> Shared -> Prop} (I : Inv X pins σ H s) (hg : Gl X x) (hm : X.mg x = none) (hv : bootBuiltins x = some u) (h : Q u s)
  (hn : x ≠ "__name__" := by decide) (hd : (x == ("__debug__" : Str)) = false := by decide) : wpAny (model X.prog X.w) X.A (eval (.Name x pos) X.env) Q E s := by
 obtain ⟨mb, h1, h2⟩ := I.mod.blt
 exact Calls.Name_function_global I.ok.kind hg (Calls.loadGlobal_builtin (by rw [I.ok.glob]; exact I.mod.glob.keeps I.bk) hm (by rw [I.ok.blt]; exact h1.keeps I.bk) ((h2 x hn).trans hv) h) hd
variable {a b : Expr} {ta tb : TE} {pos : Pos}
def PC (X : Cx) (op : CmpOp) (a b : Expr) (t : TE) : Prop :=
 ∀ (pins : List (Addr × Obj)) (s : Shared) (σ : St) (H : Hp) (Q : VK), Inv X pins σ H s -> t σ H Q ->
  wpAny (model X.prog X.w) X.A (eval a X.env) (fun v s₁ => wpAny (model X.prog X.w) X.A (eval b X.env) (fun u s₂ => wpAny (model X.prog X.w) X.A (compareOp op v u) (EP X pins σ Q) X.xe s₂) X.xe s₁) X.xe s
def tB (t : TE) : TT := fun σ H Q => t σ H fun x H1 => ∃ c, x = .bl c /\ Q c H1
theorem pt_val {e : Expr} {t : TE} (h : PE X e t) (he : ∀ whole, isTrue e X.env whole = (do let v <- whole; standAt e.pos; holding [v] (truthy v)) := by intro _; rfl) : PT X e (tB t) := by
 intro pins s σ H Q I hw
 refine isTrue_plain (thn (h pins s σ H _ I hw) fun v s1 ⟨x, H1, I1, r1, q1⟩ => ?_) (he _)
 obtain ⟨d, rfl, q⟩ := q1
 cases r1
 exact wpAny_truthy_bool ⟨H1, I1, q⟩
variable {tA tB' : TT} {rest : List Expr}
def tAnd (t u : TT) : TT := fun σ H Q => t σ H fun c H1 => if c = true then u σ H1 Q else Q false H1
def tOr (t u : TT) : TT := fun σ H Q => t σ H fun c H1 => if c = true then Q true H1 else u σ H1 Q
def tNot (t : TT) : TT := fun σ H Q => t σ H fun c H1 => Q (!c) H1
theorem q229 (ha : PT X a tA) : PW X (.BoolOp .And [a] pos) tA := by
 intro wh pins s σ H Q I h
 refine isTrue_and (thn (ha pins s σ H Q I h) fun c s1 e => ?_)
 cases c with
 | true => exact isTrue_and_nil e
 | false => exact e
theorem q92 (ha : PT X a tA) : PW X (.BoolOp .Or [a] pos) tA := by
 intro wh pins s σ H Q I h
 refine isTrue_or (thn (ha pins s σ H Q I h) fun c s1 e => ?_)
 cases c with
 | false => exact isTrue_or_nil e
 | true => exact e
theorem q278 (ha : PT X a tA) (hb : PW X (.BoolOp .And (b :: rest) pos) tB') : PW X (.BoolOp .And (a :: b :: rest) pos) (tAnd tA tB') := by
 intro wh pins s σ H Q I h
 refine isTrue_and (thn (ha pins s σ H _ I h) fun c s1 ⟨H1, I1, q1⟩ => ?_)
 cases c with
 | true => exact hb wh pins s1 σ H1 Q I1 q1
 | false => exact ⟨H1, I1, q1⟩
theorem pw_or (ha : PT X a tA) (hb : PW X (.BoolOp .Or (b :: rest) pos) tB') : PW X (.BoolOp .Or (a :: b :: rest) pos) (tOr tA tB') := by
 intro wh pins s σ H Q I h
 refine isTrue_or (thn (ha pins s σ H _ I h) fun c s1 ⟨H1, I1, q1⟩ => ?_)
 cases c with
 | true => exact ⟨H1, I1, q1⟩
 | false => exact hb wh pins s1 σ H1 Q I1 q1
theorem pt_not (ha : PT X a tA) : PT X (.UnaryOp .Not a pos) (tNot tA) := by
 intro pins s σ H Q I h
 exact isTrue_not (ha pins s σ H (fun c H1 => Q (!c) H1) I h)
def tAndV (ta tb : TE) : TE := fun σ H Q => ta σ H fun x H1 => ∃ c, x = .bl c /\ if c = true then tb σ H1 Q else Q (.bl false) H1
theorem pe_one {op} {t : TE} (h : PE X a t) : PE X (.BoolOp op [a] pos) t := fun pins s σ H Q I hw => BoolOp_one (h pins s σ H Q I hw)
theorem pe_and (ha : PE X a ta) (hb : PE X (.BoolOp .And (b :: rest) pos) tb) : PE X (.BoolOp .And (a :: b :: rest) pos) (tAndV ta tb) := by
 intro pins s σ H Q I h
 refine BoolOp_and (thn (ha pins s σ H _ I h) fun v s1 ⟨x, H1, I1, r1, q1⟩ => ?_)
 obtain ⟨c, rfl, q1⟩ := q1
 cases r1
 refine wpAny_truthy_bool ?_
 cases c with
 | true => exact hb pins s1 σ H1 Q I1 q1
 | false => exact ⟨.bl false, H1, I1, rfl, q1⟩
def tIf (t : TT) (ta tb : TE) : TE := fun σ H Q => t σ H fun c H1 => if c = true then ta σ H1 Q else tb σ H1 Q
theorem q358 {c : Expr} (hc : PT X c tA) (ha : PE X a ta) (hb : PE X b tb) : PE X (.IfExp c a b pos) (tIf tA ta tb) := by
 intro pins s σ H Q I h
 refine wpAny_IfExp (thn (hc pins s σ H _ I h) fun d s1 ⟨H1, I1, q1⟩ => ?_)
 cases d with
 | true => exact ha pins s1 σ H1 Q I1 q1
 | false => exact hb pins s1 σ H1 Q I1 q1
end
end L2
namespace L2
open PySem PySem.Spec PyProof.Rows
def SqL (K : PySem.W.Frag) (H : Hp) (a : Addr) (xs : List V) : Prop :=
 Rd H a (.lst xs) \/
  ∃ (o : Obj) (its : Array Value) (n : Nat), K.lookup a = some o /\ o.cls = .type "list" /\ o.dict = none /\ o.data = .seq its n /\ its.size <= sizeLine /\ Vals xs its.toList
def SqT (K : PySem.W.Frag) (H : Hp) (a : Addr) (xs : List V) : Prop :=
 Rd H a (.tup xs) \/
  ∃ (o : Obj) (its : Array Value) (n : Nat), K.lookup a = some o /\ o.cls = .type "tuple" /\ o.data = .seq its n /\ its.size <= sizeLine /\ Vals xs its.toList
def absV : Value -> Option V
 | .none => some .non
 | .bool b => some (.bl b)
 | .int i _ => some (.int i)
 | .str x _ => some (.str x)
 | .bytes b _ => some (.byt b)
 | .float b _ => some (.flt b)
 | .ref a => some (.ref a)
 | .type n => some (.ty n)
 | _ => none
theorem RelV.abs {x : V} {u : Value} (r : RelV x u) : absV u = some x := by
 cases x with
 | non => cases r; rfl
 | bl _ => cases r; rfl
 | int _ => obtain ⟨t, rfl⟩ := r; rfl
 | str _ => obtain ⟨t, rfl⟩ := r; rfl
 | byt _ => obtain ⟨t, rfl⟩ := r; rfl
 | flt _ => obtain ⟨t, rfl⟩ := r; rfl
 | ref _ => cases r; rfl
 | ty _ => cases r; rfl
theorem RelV.inj {x y : V} {u : Value} (r : RelV x u) (q : RelV y u) : x = y := Option.some.inj (r.abs.symm.trans q.abs)
theorem Vals.inj : ∀ {xs ys : List V} {us : List Value}, Vals xs us -> Vals ys us -> xs = ys
 | _, _, _, .nil, .nil => rfl
 | _, _, _, .cons r t, .cons r' t' => by rw [r.inj r', Vals.inj t t']
section
variable {X : Cx} {pins : List (Addr × Obj)} {σ : St} {H : Hp} {s : Shared} {a : Addr} {xs ys : List V}
theorem SqL.of {K : PySem.W.Frag} (h : H a = some (.lst xs)) : SqL K H a xs := .inl (.inl h)
theorem SqT.of {K : PySem.W.Frag} (h : H a = some (.tup xs)) : SqT K H a xs := .inl (.inl h)
theorem Inv.list (I : Inv X pins σ H s) (h : SqL X.K H a xs) : ∃ its : List Value, Vals xs its /\ PlainL s.heap a its.toArray /\ xs.length <= sizeLine := by
 rcases h with h | ⟨o, its, n, hk, hc, hd, hs, hz, r⟩
 ·obtain ⟨z, its, n, r, e⟩ := h.ok I.hok
  exact ⟨its, r, ⟨_, n, e, rfl, rfl, rfl⟩, z⟩
 ·refine ⟨its.toList, r, ⟨o, n, I.kIn a o hk, hc, hd, by simpa using hs⟩, ?_⟩
  have e := r.length
  simp only [Array.length_toList] at e
  omega
theorem Inv.tuple (I : Inv X pins σ H s) (h : SqT X.K H a xs) : ∃ its : List Value, Vals xs its /\ IsTup s.heap a its.toArray /\ xs.length <= sizeLine := by
 rcases h with h | ⟨o, its, n, hk, hc, hs, hz, r⟩
 ·obtain ⟨z, its, r, p⟩ := h.ok I.hok
  exact ⟨its, r, p, z⟩
 ·refine ⟨its.toList, r, ⟨o, I.kIn a o hk, hc, n, by simpa using hs⟩, ?_⟩
  have e := r.length
  simp only [Array.length_toList] at e
  omega
theorem Inv.list_inj (I : Inv X pins σ H s) (h : SqL X.K H a xs) (h' : SqL X.K H a ys) : xs = ys := by
 obtain ⟨its, r, ⟨o, n, e, _, _, d⟩, _⟩ := I.list h
 obtain ⟨its', r', ⟨o', n', e', _, _, d'⟩, _⟩ := I.list h'
 rw [e] at e'; cases e'
 rw [d] at d'
 injection d' with d1 _
 have : its = its' := by simpa using congrArg Array.toList d1
 subst this
 exact r.inj r'
theorem Inv.tuple_inj (I : Inv X pins σ H s) (h : SqT X.K H a xs) (h' : SqT X.K H a ys) : xs = ys := by
 obtain ⟨its, r, ⟨o, e, _, n, d⟩, _⟩ := I.tuple h
 obtain ⟨its', r', ⟨o', e', _, n', d'⟩, _⟩ := I.tuple h'
 rw [e] at e'; cases e'
 rw [d] at d'
 injection d' with d1 _
 have : its = its' := by simpa using congrArg Array.toList d1
 subst this
 exact r.inj r'
end
abbrev Cx.wish (X : Cx) (E : Value -> Shared -> Prop) : Cx := { X with xe := E }
abbrev Cx.nox (X : Cx) : Cx := X.wish fun _ _ => False
theorem Cx.Ok.wish {X : Cx} (ok : X.Ok) (E : Value -> Shared -> Prop) : (X.wish E).Ok :=
 ⟨ok.mod, ok.kind, ok.glob, ok.blt, ok.above, ok.inj, ok.has, ok.cab, ok.hd, ok.frames, ok.stk, ok.exf, ok.bs, ok.bsz, ok.noex, ok.exfs, ok.funs, ok.frf⟩
theorem Cx.Ok.unwish {X : Cx} {E : Value -> Shared -> Prop} (ok : (X.wish E).Ok) : X.Ok :=
 ⟨ok.mod, ok.kind, ok.glob, ok.blt, ok.above, ok.inj, ok.has, ok.cab, ok.hd, ok.frames, ok.stk, ok.exf, ok.bs, ok.bsz, ok.noex, ok.exfs, ok.funs, ok.frf⟩
section
variable {X : Cx} {pins : List (Addr × Obj)} {σ : St} {H : Hp} {s : Shared} {E : Value -> Shared -> Prop}
theorem Inv.wish (I : Inv X pins σ H s) (E : Value -> Shared -> Prop) : Inv (X.wish E) pins σ H s := ⟨I.ok.wish E, I.os, I.bare, I.base, I.loc, I.cell, I.free, I.freeC, I.pin, I.hok, I.len⟩
theorem Inv.unwish (I : Inv (X.wish E) pins σ H s) : Inv X pins σ H s := ⟨I.ok.unwish, I.os, I.bare, I.base, I.loc, I.cell, I.free, I.freeC, I.pin, I.hok, I.len⟩
theorem SP.unwish {D : Ends} {f : Flow} {s' : Shared} (h : SP (X.wish E) pins D f s') : SP X pins D f s' := by
 cases f with
 | next => obtain ⟨σ', H', I, q⟩ := h; exact ⟨σ', H', I.unwish, q⟩
 | brk => obtain ⟨σ', H', I, q⟩ := h; exact ⟨σ', H', I.unwish, q⟩
 | cont => obtain ⟨σ', H', I, q⟩ := h; exact ⟨σ', H', I.unwish, q⟩
 | ret u => obtain ⟨v, σ', H', I, r, q⟩ := h; exact ⟨v, σ', H', I.unwish, r, q⟩
theorem PSs.nox {st : List Stmt} {t : TS} (h : PSs X.nox st t) : PSs X st t := fun pins s σ H D I hw =>
 wpAny_mono (h pins s σ H D (I.wish _) hw) (fun _ _ q => q.unwish) fun _ _ z => False.elim z
end
section
variable {X : Cx} {st : Stmt} {rest : List Stmt} {t u : TS} {e : Expr} {te : TE} {pos : Pos}
def tNext : TS := fun D σ H => D.nx σ H
def tSeq (t u : TS) : TS := fun D σ H => t { D with nx := u D } σ H
theorem q23 : PSs X [] tNext := fun _ _ σ H _ I h => wpAny_execs_nil ⟨σ, H, I, h⟩
theorem q11 (h1 : PS X st t) (h2 : PSs X rest u) : PSs X (st :: rest) (tSeq t u) := by
 intro pins s σ H D I h
 refine wpAny_execs_cons (thn (h1 pins s σ H { D with nx := u D } I h) fun f s1 q => ?_)
 cases f with
 | next =>
  obtain ⟨σ', H', I', q⟩ := q
  exact h2 pins s1 σ' H' D I' q
 | ret v => exact q
 | brk => exact q
 | cont => exact q
theorem q16 (h1 : PS X st t) : PSs X [st] t := by
 intro pins s σ H D I h
 refine wpAny_execs_cons (thn (h1 pins s σ H D I h) fun f s1 q => ?_)
 cases f with
 | next => exact wpAny_execs_nil q
 | ret v => exact q
 | brk => exact q
 | cont => exact q
theorem Inv.quiet {pins : List (Addr × Obj)} {σ : St} {H : Hp} {s : Shared} (I : Inv X pins σ H s) : interactive X.env = false := by simp [interactive, I.ok.kind]
def tDrop (te : TE) : TS := fun D σ H => te σ H fun _ H1 => D.nx σ H1
theorem q230 (he : PE X e te) (hs : swapsWith e none pos.line X.env = pure false := by rfl) : PS X (.Expr e pos) (tDrop te) := by
 intro pins s σ H D I h
 exact wpAny_Expr_any (thn (he pins s σ H _ I h) fun v s1 ⟨x, H1, I1, r1, q1⟩ => ⟨σ, H1, I1, q1⟩) I.quiet hs
def tRet (te : TE) : TS := fun D σ H => te σ H D.rt
theorem q21 (he : PE X e te) : PS X (.Return (some e) pos) (tRet te) := by
 intro pins s σ H D I h
 exact wpAny_Return_some (thn (he pins s σ H _ I h) fun v s1 ⟨x, H1, I1, r1, q1⟩ => ⟨x, σ, H1, I1, r1, q1⟩)
def tIfS (c : TT) (t u : TS) : TS := fun D σ H => c σ H fun b H1 => if b = true then t D σ H1 else u D σ H1
theorem ps_if {c : Expr} {a b : List Stmt} {tc : TT} (hc : PT X c tc) (ha : PSs X a t) (hb : PSs X b u) : PS X (.If c a b pos) (tIfS tc t u) := by
 intro pins s σ H D I h
 refine wpAny_If (thn (hc pins s σ H _ I h) fun d s1 ⟨H1, I1, q1⟩ => ?_)
 cases d with
 | true => exact ha pins s1 σ H1 D I1 q1
 | false => exact hb pins s1 σ H1 D I1 q1
def tNever : TS := fun _ _ _ => False
theorem q84 : PS X st tNever := fun _ _ _ _ _ _ h => h.elim
end
abbrev TG := V -> St -> Hp -> (St -> Hp -> Prop) -> Prop
abbrev TGs := List V -> St -> Hp -> (St -> Hp -> Prop) -> Prop
def PG (X : Cx) (target : Expr) (t : TG) : Prop :=
 ∀ (pins : List (Addr × Obj)) (s : Shared) (σ : St) (H : Hp) (v : V) (u : Value) (Q : St -> Hp -> Prop), Inv X pins σ H s -> RelV v u -> t v σ H Q ->
  wpAny (model X.prog X.w) X.A (assign target X.env u) (fun _ s' => ∃ σ' H', Inv X pins σ' H' s' /\ Q σ' H') X.xe s
def PGs (X : Cx) (ts : List Expr) (t : TGs) : Prop :=
 ∀ (pins : List (Addr × Obj)) (s : Shared) (σ : St) (H : Hp) (vs : List V) (us : List Value) (Q : St -> Hp -> Prop), Inv X pins σ H s -> Vals vs us -> t vs σ H Q ->
  wpAny (model X.prog X.w) X.A (assignInOrder ((assignEach ts X.env).map (·.2)) us) (fun _ s' => ∃ σ' H', Inv X pins σ' H' s' /\ Q σ' H') X.xe s
abbrev TSet := V -> V -> V -> Hp -> (Hp -> Prop) -> Prop
def PSet (X : Cx) (t : TSet) : Prop :=
 ∀ (pins : List (Addr × Obj)) (s : Shared) (σ : St) (H : Hp) (o i v : V) (ov iv u : Value) (Q : Hp -> Prop), Inv X pins σ H s -> RelV o ov -> RelV i iv -> RelV v u -> t o i v H Q ->
  wpAny (model X.prog X.w) X.A (setItem ov iv u) (fun _ s' => ∃ H', Inv X pins σ H' s' /\ Q H') X.xe s
section
variable {X : Cx} {pos : Pos}
def gName (i : Nat) : TG := fun v σ H Q => Q (σ.set i (some v)) H
theorem q48 {i : Nat} {x : Str} (hN : X.N.Nodup) (hi : X.N[i]? = some x) (hx : Loc X.env.scope x) (hf : X.fn x = true \/ X.env.scope.names.lookup x = some .local := by first | exact .inl rfl | exact .inr rfl | assumption) : PG X (.Name x pos) (gName i) := by
 intro pins s σ H v u Q I r h
 exact wpAny_assign_Name (q266 I hN hi hx r (fun s' I' => ⟨_, H, I', h⟩) hf)
def gNil : TGs := fun vs σ H Q => vs = [] /\ Q σ H
def gCons (t : TG) (u : TGs) : TGs := fun vs σ H Q => ∃ v r, vs = v :: r /\ t v σ H fun σ' H' => u r σ' H' Q
theorem q359 : PGs X [] gNil := by
 intro pins s σ H vs us Q I r h
 obtain ⟨e, h⟩ := h
 subst e
 cases r
 exact assignInOrder_nil ⟨σ, H, I, h⟩
theorem q94 {e : Expr} {es : List Expr} {t : TG} {u : TGs} (h1 : PG X e t) (h2 : PGs X es u)
  (hs : (assignEach (e :: es) X.env).map (·.2) = assign e X.env :: (assignEach es X.env).map (·.2) := by rfl) : PGs X (e :: es) (gCons t u) := by
 intro pins s σ H vs us Q I r h
 obtain ⟨v, vr, e1, h⟩ := h
 subst e1
 cases r with
 | cons r rr =>
  rw [hs]
  refine assignInOrder_cons (thn (h1 pins s σ H _ _ _ I r h) fun _ s1 ⟨σ1, H1, I1, q1⟩ => ?_)
  exact h2 pins s1 σ1 H1 _ _ Q I1 rr q1
def gTup (K : PySem.W.Frag) (n : Nat) (t : TGs) : TG := fun v σ H Q => ∃ a xs, v = .ref a /\ SqT K H a xs /\ xs.length = n /\ t xs σ H Q
theorem q493 {es : List Expr} {k : Nat} {t : TGs} {n : Nat} (hc : X.calm = true) (h : PGs X es t)
  (hn : (assignEach es X.env).length = n := by rfl) (hst : (assignEach es X.env).findIdx? (·.1) = none := by rfl) : PG X (.Tuple es k pos) (gTup X.K n t) := by
 intro pins s σ H v u Q I r hw
 obtain ⟨a, xs, e1, hq, hl, hw⟩ := hw
 subst e1
 cases r
 obtain ⟨its, rv, ht, hz⟩ := I.tuple hq
 refine assign_Tuple_tuple (I.ok.hd hc) ht (by simp [hn, <- hl, rv.length]) hst fun h' hx => ?_
 have I1 : Inv X pins σ H { s with heap := h' } := I.kept (t' := s.toks) fun b o e => hx b o (Nat.ne_of_lt (Heap.lt_size e)) e
 exact h pins _ σ H xs _ Q I1 (by simpa using rv) hw
def gSub (to ti : TE) (t : TSet) : TG := fun v σ H Q => to σ H fun o H1 => ti σ H1 fun i H2 => t o i v H2 fun H3 => Q σ H3
theorem q578 {o i : Expr} {to ti : TE} {t : TSet} (ho : PE X o to) (hi : PE X i ti) (hs : PSet X t)
  (ha : ∀ v, assign (.Subscript o i pos) X.env v = (do
   let ov <- holding [v] (eval o X.env)
   let iv <- holding [v, ov] (eval i X.env)
   standAt pos
   holding [v, ov, iv] (setItem ov iv v)
   release [v, ov, iv] []) := by intro _; rfl) : PG X (.Subscript o i pos) (gSub to ti t) := by
 intro pins s σ H v u Q I r h
 rw [ha]
 refine wpAny_bind (wpAny_holding (thn (ho pins s σ H _ I h) fun ov s1 ⟨x, H1, I1, r1, q1⟩ => ?_))
 refine wpAny_bind (wpAny_holding (thn (hi pins s1 σ H1 _ I1 q1) fun iv s2 ⟨y, H2, I2, r2, q2⟩ => ?_))
 refine wpAny_bind (wpAny_standAt (wpAny_bind (wpAny_holding (thn (hs pins s2 σ H2 x y v ov iv u _ I2 r1 r2 r q2) fun _ s3 ⟨H3, I3, q3⟩ => ?_))))
 exact wpAny_release ⟨σ, H3, I3, q3⟩
def tAsg (te : TE) (g : TG) : TS := fun D σ H => te σ H fun x H1 => g x σ H1 D.nx
theorem q400 {tg e : Expr} {te : TE} {g : TG} (he : PE X e te) (hg : PG X tg g) (hs : swapsWithSole [tg] e pos.line X.env = pure false := by rfl) (hw : swappedStores [tg] e X.env = pure none := by rfl)
  (h1 : (assignEach [tg] X.env).map (·.2) = [assign tg X.env] := by rfl) : PS X (.Assign [tg] e pos) (tAsg te g) := by
 intro pins s σ H D I h
 refine wpAny_Assign_stores (thn (he pins s σ H _ I h) fun v s1 ⟨x, H1, I1, r1, q1⟩ => ?_) hs hw
 rw [h1]
 exact thn (hg pins s1 σ H1 x v _ I1 r1 q1) fun _ s2 q => q
theorem q19 {i : Nat} {x : Str} {e : Expr} {te : TE} {pos' : Pos} (hN : X.N.Nodup) (hi : X.N[i]? = some x) (hx : Loc X.env.scope x) (he : PE X e te) (hs : swapsWith e (some (.Name x pos')) pos.line X.env = pure false := by rfl) (hf : X.fn x = true \/ X.env.scope.names.lookup x = some .local := by first | exact .inl rfl | exact .inr rfl | assumption) :
  PS X (.Assign [.Name x pos'] e pos) (tAsg te (gName i)) := by
 intro pins s σ H D I h
 refine wpAny_Assign_Name (thn (he pins s σ H _ I h) fun v s1 ⟨y, H1, I1, r1, q1⟩ => ?_) hs
 exact q266 I1 hN hi hx r1 (fun s2 I2 => ⟨_, H1, I2, q1⟩) hf
end
section
variable {X : Cx} {pos : Pos}
def tWhile (c : TT) (tb : TS) : TS := fun D σ H => ∃ W : Nat -> St -> Hp -> Prop, (∃ m, W m σ H) /\ ∀ m σ H, W m σ H ->
 c σ H fun b H1 => if b = true then ∃ N : St -> Hp -> Prop, (∀ σ' H', N σ' H' -> ∃ m', m' < m /\ W m' σ' H') /\ tb { D with nx := N, ct := N, bk := D.nx } σ H1 else D.nx σ H1
theorem q360 {c : Expr} {body : List Stmt} {tc : TT} {tb : TS} (hp : PassesOwn (model X.prog X.w) X.A X.env X.xe) (hc : PT X c tc) (hb : PSs X body tb) : PS X (.While c body [] pos) (tWhile tc tb) := by
 intro pins s σ H D I h
 obtain ⟨W, ⟨m0, w0⟩, turn⟩ := h
 refine wpAny_While (codeAny_whileLoop (fun n s' => ∃ σ' H', Inv X pins σ' H' s' /\ W n σ' H') ?_ m0 ⟨σ, H, I, w0⟩)
 rintro n s1 ⟨σ1, H1, I1, w1⟩
 refine wpAny_passesOwn hp (thn (hc pins s1 σ1 H1 _ I1 (turn n σ1 H1 w1)) fun b s2 ⟨H2, I2, q2⟩ => ?_)
 cases b with
 | true =>
  obtain ⟨N, hN, q2⟩ := q2
  rw [if_pos rfl]
  refine wpAny_passesOwn hp (thn (hb pins s2 σ1 H2 _ I2 q2) fun f s3 q3 => ?_)
  cases f with
  | next =>
   obtain ⟨σ3, H3, I3, n3⟩ := q3
   obtain ⟨m', hm, w3⟩ := hN σ3 H3 n3
   exact ⟨m', hm, σ3, H3, I3, w3⟩
  | cont =>
   obtain ⟨σ3, H3, I3, n3⟩ := q3
   obtain ⟨m', hm, w3⟩ := hN σ3 H3 n3
   exact ⟨m', hm, σ3, H3, I3, w3⟩
  | brk => exact q3
  | ret v => exact q3
 | false =>
  rw [if_neg fnt]
  exact wpAny_execs_nil ⟨σ1, H2, I2, q2⟩
end
structure It where
 go : Nat -> Hp -> Prop
 yld : Nat -> Hp -> V -> Hp -> Prop
 stop : Nat -> Hp -> Prop
def FpOk (X : Cx) (pins : List (Addr × Obj)) (H : Hp) (b : Addr) : Prop :=
 H b = none /\ b ≠ X.env.locals /\ b ∉ X.fs /\ (b ∈ X.ex \/ X.s₀.heap.objs.size <= b) /\ (∀ x c, X.env.cells.lookup x = some c -> c ≠ b) /\ ∀ p ∈ X.pn ++ pins, p.1 ≠ b
theorem Inv.fpOk {X : Cx} {pins : List (Addr × Obj)} {σ : St} {H H' : Hp} {s : Shared} {b : Addr} (I : Inv X pins σ H s) (hb : s.heap.objs.size <= b) (hn : H' b = none) : FpOk X pins H' b := by
 refine ⟨hn, Nat.ne_of_gt (Nat.lt_of_lt_of_le I.lt hb), I.nofs hb, .inr (Nat.le_trans I.sz hb), fun x c e z => ?_, fun p hp z => ?_⟩
 ·obtain ⟨v, q⟩ := I.cell x c e
  exact absurd (Nat.lt_of_lt_of_le q.lt (by rw [z]; exact hb)) (Nat.lt_irrefl _)
 ·exact absurd (Nat.lt_of_lt_of_le (Heap.lt_size (I.pin p hp).1) (by rw [z]; exact hb)) (Nat.lt_irrefl _)
structure Turn (P : Program) (w : World) (K : PySem.W.Frag) (tg : Expr) (J : It) (fp : List Addr) (it : Addr) (tn : Nat -> Heap -> Prop) : Prop where
 mem : it ∈ fp
 obj : ∀ i h, tn i h -> ∀ b ∈ fp, ∃ o, h.get? b = some o /\ ∀ v, o.data ≠ .cell v
 keep : ∀ i h h', tn i h -> (∀ b ∈ fp, ∀ o, h.get? b = some o -> h'.get? b = some o) -> tn i h'
 item : ∀ (X : Cx), X.prog = P -> X.w = w -> X.K = K -> X.calm = true -> ∀ (i : Nat) (pins : List (Addr × Obj)) (s : Shared) (σ : St) (H : Hp) (E : Value -> Shared -> Prop), Inv X pins σ H s -> (∀ b ∈ fp, FpOk X pins H b) -> tn i s.heap -> J.go i H ->
  wpAny (model P w) X.A (pyNext (.ref it)) (fun r s1 => ∃ u, r = some u /\
   wpAny (model P w) X.A (letOwnedTupleGo tg (.ref it) u) (fun _ s2 => ∃ x H', Inv X pins σ H' s2 /\ RelV x u /\ J.yld i H x H' /\ tn (i + 1) s2.heap /\ ∀ b ∈ fp, H' b = none) E s1) E s
 done : ∀ (X : Cx), X.prog = P -> X.w = w -> X.K = K -> X.calm = true -> ∀ (i : Nat) (pins : List (Addr × Obj)) (s : Shared) (σ : St) (H : Hp) (E : Value -> Shared -> Prop), Inv X pins σ H s -> (∀ b ∈ fp, FpOk X pins H b) -> tn i s.heap -> J.stop i H ->
  wpAny (model P w) X.A (pyNext (.ref it)) (fun r s1 => r = none /\ Inv X pins σ H s1) E s
 self : ∀ (A : Around) (i : Nat) (s : Shared) (Q : Value -> Shared -> Prop) (E : Value -> Shared -> Prop), tn i s.heap -> Q (.ref it) s -> wpAny (model P w) A (pyIter (.ref it)) Q E s
abbrev TI := St -> Hp -> (It -> Hp -> Prop) -> Prop
def PIE (X : Cx) (pins : List (Addr × Obj)) (σ : St) (tg : Expr) (R : It -> Hp -> Prop) (itv : Value) (s2 : Shared) : Prop :=
 ∃ (it : Addr) (fp : List Addr) (tn : Nat -> Heap -> Prop) (J : It) (H' : Hp), itv = .ref it /\ Inv X pins σ H' s2 /\ Turn X.prog X.w X.K tg J fp it tn /\ tn 0 s2.heap /\ (∀ b ∈ fp, FpOk X pins H' b) /\ R J H'
def PI (X : Cx) (tg iter : Expr) (wi : TI) : Prop :=
 ∀ (pins : List (Addr × Obj)) (s : Shared) (σ : St) (H : Hp) (R : It -> Hp -> Prop), Inv X pins σ H s -> wi σ H R ->
  wpAny (model X.prog X.w) X.A (eval iter X.env) (fun v s1 => wpAny (model X.prog X.w) X.A (pyIter v) (PIE X pins σ tg R) X.xe s1) X.xe s
theorem go_of {M : Model} {A : Around} {E : Value -> Shared -> Prop} {s : Shared} {tg : Expr} {it : Addr} {u : Value} {o : Obj} {n : String} {vs : Array Value} {Q : Unit -> Shared -> Prop} (ho : s.heap.get? it = some o) (hc : o.cls = .type n) (hd : o.data = .fields vs)
  (hn : ["enumerate", "zip", "dict_itemiterator", "dict_reverseitemiterator", "odict_iterator", "itertools.zip_longest", "itertools.pairwise"].contains n = false) (hQ : Q () s) : wpAny M A (letOwnedTupleGo tg (.ref it) u) Q E s := by
 unfold letOwnedTupleGo
 cases tg <;> first
  | exact wpAny_pure hQ
  | (cases u <;> first
    | exact wpAny_pure hQ
    | (refine wpAny_bind (wpAny_load ho ?_)
       rw [hc, hd]
       show wpAny M A (if (["enumerate", "zip", "dict_itemiterator", "dict_reverseitemiterator", "odict_iterator", "itertools.zip_longest", "itertools.pairwise"].contains n && vs[0]? == some (rawInt _)) = true then _ else _) Q E s
       rw [if_neg (by intro h; rw [hn, Bool.false_and] at h; cases h)]
       exact wpAny_pure hQ))
def Itl (K : PySem.W.Frag) (a : Addr) : It :=
 ⟨fun i H => ∃ xs x, SqL K H a xs /\ xs[i]? = some x, fun i H x H' => H' = H /\ ∀ xs, SqL K H a xs -> xs[i]? = some x, fun i H => ∃ xs, SqL K H a xs /\ xs.length <= i⟩
def Itt (K : PySem.W.Frag) (a : Addr) : It :=
 ⟨fun i H => ∃ xs x, SqT K H a xs /\ xs[i]? = some x, fun i H x H' => H' = H /\ ∀ xs, SqT K H a xs -> xs[i]? = some x, fun i H => ∃ xs, SqT K H a xs /\ xs.length <= i⟩
def Itr (lo : Int) (n : Nat) : It := ⟨fun i _ => i < n, fun i H x H' => H' = H /\ x = .int (lo + i), fun i _ => n <= i⟩
theorem q579 {P : Program} {w : World} {K : PySem.W.Frag} {tg : Expr} (a it : Addr) : Turn P w K tg (Itl K a) [it] it (fun i h => h.IsListIter it a i) where
 mem := by simp
 obj := fun i h st b hb => by
  have e : b = it := by simpa using hb
  subst e
  obtain ⟨o, e, c, d⟩ := st
  exact ⟨o, e, fun v z => by rw [d] at z; cases z⟩
 keep := fun i h h' st k => st.at fun o e => k it (by simp) o e
 item := by
  intro X hP hw hK hc i pins s σ H E I hf st hg
  subst hP hw hK
  obtain ⟨xs, x, hq, hx⟩ := hg
  obtain ⟨its, rv, p, hz⟩ := I.list hq
  obtain ⟨u, hu, ru⟩ := rv.get hx
  obtain ⟨f0, f1, f2, f3, f4, f5⟩ := hf it (by simp)
  refine wpAny_pyNext_list_item st p.isList (x := u) (by simpa using hu) fun h' st' sb => ?_
  have I1 : Inv X pins σ H { s with heap := h' } := I.turned (t' := s.toks) (fun b o hb e => (sb.2 b hb).trans e) f0 f1 f3 f4 f5
  obtain ⟨o, e, c, d⟩ := id st'
  exact ⟨u, rfl, go_of (s := { s with heap := h' }) e c d (by decide) ⟨x, H, I1, ru, ⟨rfl, fun ys hy => by rw [I.list_inj hy hq]; exact hx⟩, st', fun b hb => (hf b hb).1⟩⟩
 done := by
  intro X hP hw hK hc i pins s σ H E I hf st hg
  subst hP hw hK
  obtain ⟨xs, hq, hx⟩ := hg
  obtain ⟨its, rv, p, hz⟩ := I.list hq
  obtain ⟨f0, f1, f2, f3, f4, f5⟩ := hf it (by simp)
  have hl := rv.length
  exact wpAny_pyNext_list_end (I.ok.hd hc) st p.isList (by simp; omega) fun h' eb => ⟨rfl, I.turned (t' := s.toks) (fun b o hb e => eb b o hb e) f0 f1 f3 f4 f5⟩
 self := fun _ _ _ _ _ st h => wpAny_pyIter_listiter st h
theorem q529 {P : Program} {w : World} {K : PySem.W.Frag} {tg : Expr} (a it : Addr) : Turn P w K tg (Itt K a) [it] it (fun i h => h.IsTupleIter it a i) where
 mem := by simp
 obj := fun i h st b hb => by
  have e : b = it := by simpa using hb
  subst e
  obtain ⟨o, e, c, d⟩ := st
  exact ⟨o, e, fun v z => by rw [d] at z; cases z⟩
 keep := fun i h h' st k => st.at fun o e => k it (by simp) o e
 item := by
  intro X hP hw hK hc i pins s σ H E I hf st hg
  subst hP hw hK
  obtain ⟨xs, x, hq, hx⟩ := hg
  obtain ⟨its, rv, p, hz⟩ := I.tuple hq
  obtain ⟨u, hu, ru⟩ := rv.get hx
  obtain ⟨f0, f1, f2, f3, f4, f5⟩ := hf it (by simp)
  refine wpAny_pyNext_tuple_item st (show s.heap.IsTuple a its.toArray from p) (x := u) (by simpa using hu) fun h' st' sb => ?_
  have I1 : Inv X pins σ H { s with heap := h' } := I.turned (t' := s.toks) (fun b o hb e => (sb.2 b hb).trans e) f0 f1 f3 f4 f5
  obtain ⟨o, e, c, d⟩ := id st'
  exact ⟨u, rfl, go_of (s := { s with heap := h' }) e c d (by decide) ⟨x, H, I1, ru, ⟨rfl, fun ys hy => by rw [I.tuple_inj hy hq]; exact hx⟩, st', fun b hb => (hf b hb).1⟩⟩
 done := by
  intro X hP hw hK hc i pins s σ H E I hf st hg
  subst hP hw hK
  obtain ⟨xs, hq, hx⟩ := hg
  obtain ⟨its, rv, p, hz⟩ := I.tuple hq
  obtain ⟨f0, f1, f2, f3, f4, f5⟩ := hf it (by simp)
  have hl := rv.length
  exact wpAny_pyNext_tuple_end (I.ok.hd hc) st (show s.heap.IsTuple a its.toArray from p) (by simp; omega) fun h' eb => ⟨rfl, I.turned (t' := s.toks) (fun b o hb e => eb b o hb e) f0 f1 f3 f4 f5⟩
 self := fun _ _ _ _ _ st h => wpAny_pyIter_tupleiter st h
theorem q530 {P : Program} {w : World} {K : PySem.W.Frag} {tg : Expr} (it : Addr) (lo : Int) (n : Nat) : Turn P w K tg (Itr lo n) [it] it (fun i h => IsRangeIter h it (lo + (i : Nat) * 1) ((n : Int) - (i : Nat)) 1) where
 mem := by simp
 obj := fun i h st b hb => by
  have e : b = it := by simpa using hb
  subst e
  exact ⟨_, st, fun v z => by
   have z' : Data.fields _ = Data.cell v := z
   cases z'⟩
 keep := fun i h h' st k => k it (by simp) _ st
 item := by
  intro X hP hw hK hc i pins s σ H E I hf st hg
  subst hP hw hK
  obtain ⟨f0, f1, f2, f3, f4, f5⟩ := hf it (by simp)
  have W := Walks.range (prog := X.prog) (w := X.w) (I.ok.hd hc) it lo 1 n
  refine W.item i s _ _ hg st fun v h' tk hv st' kk => ?_
  obtain ⟨t, rfl⟩ := hv
  have I1 : Inv X pins σ H { s with heap := h', toks := tk } := I.turned (fun b o hb e => kk b o (by simpa using hb) e) f0 f1 f3 f4 f5
  refine ⟨_, rfl, go_of (s := { s with heap := h', toks := tk }) (n := "range_iterator") st' rfl rfl (by decide) ⟨.int (lo + i), H, I1, ⟨t, ?_⟩, ⟨rfl, rfl⟩, st', fun b hb => (hf b hb).1⟩⟩
  rw [Int.mul_one]
 done := by
  intro X hP hw hK hc i pins s σ H E I hf st hg
  subst hP hw hK
  obtain ⟨f0, f1, f2, f3, f4, f5⟩ := hf it (by simp)
  exact wpAny_pyNext_range_end (I.ok.hd hc) st (by have : n <= i := hg; omega) fun h' eb => ⟨rfl, I.turned (t' := s.toks) (fun b o hb e => eb b o hb e) f0 f1 f3 f4 f5⟩
 self := fun _ _ _ _ _ st h => wpAny_pyIter_rangeiter st h
end L2
namespace L2
open PySem PySem.Spec PyProof.Rows
section
variable {X : Cx} {tg : Expr}
def iList (K : PySem.W.Frag) (tl : TE) : TI := fun σ H R => tl σ H fun x H1 => ∃ a, x = .ref a /\ (∃ xs, SqL K H1 a xs) /\ R (Itl K a) H1
def iTup (K : PySem.W.Frag) (tl : TE) : TI := fun σ H R => tl σ H fun x H1 => ∃ a, x = .ref a /\ (∃ xs, SqT K H1 a xs) /\ R (Itt K a) H1
theorem q91 {l : Expr} {tl : TE} (hl : PE X l tl) : PI X tg l (iList X.K tl) := by
 intro pins s σ H R I h
 refine thn (hl pins s σ H _ I h) fun v s1 ⟨x, H1, I1, r1, q1⟩ => ?_
 obtain ⟨a, e, ⟨xs, hq⟩, q⟩ := q1
 subst e
 cases r1
 obtain ⟨its, rv, p, hz⟩ := I1.list hq
 refine wpAny_pyIter_list p.isList ?_
 refine ⟨s1.heap.objs.size, [s1.heap.objs.size], _, _, H1, rfl, I1.kept (t' := s1.toks) fun b o e => Heap.get?_push_of_some _ e, q579 a _, ⟨_, Heap.get?_push_size _ rfl, rfl, rfl⟩, fun b hb => ?_, q⟩
 have e : b = s1.heap.objs.size := by simpa using hb
 subst e
 exact I1.fpOk (Nat.le_refl _) (I1.hok.fresh (Nat.le_refl _))
theorem q494 {l : Expr} {tl : TE} (hl : PE X l tl) : PI X tg l (iTup X.K tl) := by
 intro pins s σ H R I h
 refine thn (hl pins s σ H _ I h) fun v s1 ⟨x, H1, I1, r1, q1⟩ => ?_
 obtain ⟨a, e, ⟨xs, hq⟩, q⟩ := q1
 subst e
 cases r1
 obtain ⟨its, rv, p, hz⟩ := I1.tuple hq
 refine wpAny_pyIter_tuple (show s1.heap.IsTuple a its.toArray from p) ?_
 refine ⟨s1.heap.objs.size, [s1.heap.objs.size], _, _, H1, rfl, I1.kept (t' := s1.toks) fun b o e => Heap.get?_push_of_some _ e, q529 a _, ⟨_, Heap.get?_push_size _ rfl, rfl, rfl⟩, fun b hb => ?_, q⟩
 have e : b = s1.heap.objs.size := by simpa using hb
 subst e
 exact I1.fpOk (Nat.le_refl _) (I1.hok.fresh (Nat.le_refl _))
theorem range_it {pins : List (Addr × Obj)} {σ : St} {H : Hp} {s : Shared} {R : It -> Hp -> Prop} {E : Value -> Shared -> Prop} {lo hi : Int} {t u v : Tok} {tk : Nat} (I : Inv X pins σ H s) (h1 : -(2 ^ 62) <= lo) (h2 : lo < 2 ^ 62) (h3 : -(2 ^ 62) <= hi) (h4 : hi < 2 ^ 62)
  (q : R (Itr lo (hi - lo).toNat) H) : wpAny (model X.prog X.w) X.A (pyIter (.ref s.heap.objs.size)) (PIE X pins σ tg R) E { s with heap := s.heap.push { cls := .type "range", data := .fields #[.int lo t, .int hi u, .int 1 v] }, toks := tk } := by
 refine wpAny_pyIter_range (IsRange.new ..) (small_one h1 h2 h3 h4) ?_
 have I1 : Inv X pins σ H { s with heap := s.heap.push { cls := .type "range", data := .fields #[.int lo t, .int hi u, .int 1 v] }, toks := tk } := I.kept fun b o e => Heap.get?_push_of_some _ e
 refine ⟨(s.heap.push { cls := .type "range", data := .fields #[.int lo t, .int hi u, .int 1 v] }).objs.size, [(s.heap.push { cls := .type "range", data := .fields #[.int lo t, .int hi u, .int 1 v] }).objs.size], _, _, H, rfl,
  I1.kept (t' := tk) fun b o e => Heap.get?_push_of_some _ e, q530 _ lo (hi - lo).toNat, ?_, fun b hb => ?_, q⟩
 ·have e1 : lo + ((0 : Nat) : Int) * 1 = lo := by simp
  have e2 : (((hi - lo).toNat : Nat) : Int) - ((0 : Nat) : Int) = Builtin.Range.rangeSize lo hi 1 := by rw [rangeSize_one]; split <;> omega
  show IsRangeIter _ _ (lo + ((0 : Nat) : Int) * 1) ((((hi - lo).toNat : Nat) : Int) - ((0 : Nat) : Int)) 1
  rw [e1, e2]
  exact Heap.get?_push_size _ rfl
 ·have e : b = (s.heap.push { cls := .type "range", data := .fields #[.int lo t, .int hi u, .int 1 v] }).objs.size := by simpa using hb
  subst e
  exact I1.fpOk (Nat.le_refl _) (I1.hok.fresh (Nat.le_refl _))
def iRng1 (ta : TA) : TI := fun σ H R => ta σ H fun vs H1 => ∃ j : Int, vs = [.int j] /\ -(2 ^ 62) <= j /\ j < 2 ^ 62 /\ R (Itr 0 j.toNat) H1
theorem q126 {a : Expr} {ta : TA} {p pos : Pos} (hg : Gl X "range") (hm : X.mg "range" = none) (ha : PA X [a] ta) (hs : starEach [a] X.env = [(false, eval a X.env)] := by rfl) : PI X tg (.Call (.Name "range" p) [a] [] pos) (iRng1 ta) := by
 intro pins s σ H R I h
 refine Call_ (q343 I hg hm boot_range (PyProof.Rows.callWith_type1 (thn (ha pos pins s σ H _ I h) fun us s1 ⟨vs, H1, I1, r1, q1⟩ => ?_) hs rfl))
 obtain ⟨j, e, q1, q2, q⟩ := q1
 subst e
 cases r1 with
 | cons r rr =>
  cases rr
  obtain ⟨t, rfl⟩ := r
  exact call_range_1 (range_it I1 (by omega) (by omega) q1 q2 (by simpa using q))
def tFor (wi : TI) (g : TG) (tb : TS) : TS := fun D σ H => wi σ H fun J H1 => ∃ W : Nat -> Nat -> St -> Hp -> Prop, (∃ m, W 0 m σ H1) /\ ∀ i m σ H, W i m σ H ->
 (J.stop i H /\ D.nx σ H) \/ (J.go i H /\ ∃ N : St -> Hp -> Prop, (∀ σ' H', N σ' H' -> ∃ m', m' < m /\ W (i + 1) m' σ' H') /\ ∀ x H', J.yld i H x H' -> g x σ H' fun σ2 H2 => tb { D with nx := N, ct := N, bk := D.nx } σ2 H2)
def q344 (fp : List Addr) (h : Heap) : List (Addr × Obj) := fp.filterMap fun b => (h.get? b).map fun o => (b, o)
theorem q42 {fp : List Addr} {h : Heap} {b : Addr} {o : Obj} (hb : b ∈ fp) (e : h.get? b = some o) : (b, o) ∈ q344 fp h := List.mem_filterMap.mpr ⟨b, hb, by rw [e]; rfl⟩
theorem q580 {fp : List Addr} {h : Heap} {p : Addr × Obj} (hp : p ∈ q344 fp h) : p.1 ∈ fp /\ h.get? p.1 = some p.2 := by
 obtain ⟨b, hb, e⟩ := List.mem_filterMap.mp hp
 cases q : h.get? b with
 | none => rw [q] at e; cases e
 | some o =>
  rw [q] at e
  have e' : (b, o) = p := Option.some.inj e
  subst e'
  exact ⟨hb, q⟩
theorem Inv.pinned {pins : List (Addr × Obj)} {σ : St} {H : Hp} {s : Shared} {fp : List Addr} (I : Inv X pins σ H s) (hf : ∀ b ∈ fp, FpOk X pins H b) (ho : ∀ b ∈ fp, ∃ o, s.heap.get? b = some o /\ ∀ v, o.data ≠ .cell v) : Inv X (pins ++ q344 fp s.heap) σ H s :=
 I.pins_of fun p hp => (List.mem_append.mp hp).elim (fun z => I.pin p (List.mem_append_right _ z)) fun z => by
  obtain ⟨hb, e⟩ := q580 z
  obtain ⟨f0, f1, f2, _⟩ := hf p.1 hb
  obtain ⟨o, e', d⟩ := ho p.1 hb
  rw [e] at e'; cases e'
  exact ⟨e, f0, f1, f2, d⟩
theorem Inv.unpinned {pins pl : List (Addr × Obj)} {σ : St} {H : Hp} {s : Shared} (I : Inv X (pins ++ pl) σ H s) : Inv X pins σ H s := I.pins_of fun p hp => I.pin p (List.mem_append_right _ (List.mem_append_left _ hp))
theorem q152 {iter : Expr} {body : List Stmt} {wi : TI} {g : TG} {tb : TS} {pos : Pos} (hp : PassesOwn (model X.prog X.w) X.A X.env X.xe) (hc : X.calm = true) (hi : PI X tg iter wi) (hg : PG X tg g) (hb : PSs X body tb)
  (hs : ∀ x, foldedSetIterable iter X.env x = pure x := by intro _; rfl) : PS X (.For tg iter body [] pos) (tFor wi g tb) := by
 intro pins s σ H D I h
 refine wpAny_For (thn (hi pins s σ H _ I h) fun v s1 h1 => thn h1 fun itv s2 h2 => ?_) hs
 obtain ⟨it, fp, tn, J, H2, e, I2, T, st2, f2, W, ⟨m0, w0⟩, turn⟩ := h2
 subst e
 have stat : ∀ {H' : Hp}, (∀ b ∈ fp, H' b = none) -> ∀ b ∈ fp, FpOk X pins H' b := fun hn b hb => ⟨hn b hb, (f2 b hb).2⟩
 refine codeAny_forLoop_any (fun n s' => ∃ i σ' H', Inv X pins σ' H' s' /\ tn i s'.heap /\ (∀ b ∈ fp, H' b = none) /\ W i n σ' H') ?_ m0 ⟨0, σ, H2, I2, st2, fun b hb => (f2 b hb).1, w0⟩
 rintro n s3 ⟨i, σ3, H3, I3, st3, fr3, w3⟩
 rcases turn i n σ3 H3 w3 with ⟨stop, qn⟩ | ⟨go, N, hN, step⟩
 ·refine wpAny_passesOwn hp (thn (T.done X rfl rfl rfl hc i pins s3 σ3 H3 X.xe I3 (stat fr3) st3 stop) fun r s4 ⟨hr, I4⟩ => ?_)
  subst hr
  exact wpAny_execs_nil ⟨σ3, H3, I4, qn⟩
 ·refine wpAny_passesOwn hp (thn (T.item X rfl rfl rfl hc i pins s3 σ3 H3 X.xe I3 (stat fr3) st3 go) fun r s4 ⟨u, hr, h4⟩ => ?_)
  subst hr
  refine wpAny_passesOwn hp (thn h4 fun _ s5 ⟨x, H5, I5, r5, y5, st5, fr5⟩ => ?_)
  have I5' := I5.pinned (stat fr5) (T.obj _ _ st5)
  refine wpAny_passesOwn hp (thn (hg _ s5 σ3 H5 x u _ I5' r5 (step x H5 y5)) fun _ s6 ⟨σ6, H6, I6, q6⟩ => ?_)
  refine wpAny_passesOwn hp (thn (hb _ s6 σ6 H6 _ I6 q6) fun f s7 q7 => ?_)
  have again : ∀ {σ7 : St} {H7 : Hp}, Inv X (pins ++ q344 fp s5.heap) σ7 H7 s7 -> N σ7 H7 -> ∃ m, m < n /\ ∃ i σ' H', Inv X pins σ' H' s7 /\ tn i s7.heap /\ (∀ b ∈ fp, H' b = none) /\ W i m σ' H' := fun {σ7 H7} I7 n7 => by
   obtain ⟨m', hm, w7⟩ := hN σ7 H7 n7
   refine ⟨m', hm, i + 1, σ7, H7, I7.unpinned, T.keep _ _ _ st5 fun b hb o e => (I7.pin (b, o) (List.mem_append_right _ (List.mem_append_right _ (q42 hb e)))).1, fun b hb => ?_, w7⟩
   obtain ⟨o, e, d⟩ := T.obj _ _ st5 b hb
   exact (I7.pin (b, o) (List.mem_append_right _ (List.mem_append_right _ (q42 hb e)))).2.1
  cases f with
  | next => obtain ⟨σ7, H7, I7, n7⟩ := q7; exact again I7 n7
  | cont => obtain ⟨σ7, H7, I7, n7⟩ := q7; exact again I7 n7
  | brk => obtain ⟨σ7, H7, I7, q7⟩ := q7; exact ⟨σ7, H7, I7.unpinned, q7⟩
  | ret v => obtain ⟨x7, σ7, H7, I7, r7, q7⟩ := q7; exact ⟨x7, σ7, H7, I7.unpinned, r7, q7⟩
end
theorem q495 {K : PySem.W.Frag} {a : Addr} {xs : List V} {g : TG} {tb : TS} {D : Ends} {σ : St} {H : Hp} (Pv : Nat -> St -> Hp -> Prop) (h0 : Pv 0 σ H) (hl : ∀ i σ H, i <= xs.length -> Pv i σ H -> SqL K H a xs)
  (hs : ∀ i x σ H, xs[i]? = some x -> Pv i σ H -> g x σ H fun σ2 H2 => tb { D with nx := Pv (i + 1), ct := Pv (i + 1), bk := D.nx } σ2 H2) (hd : ∀ σ H, Pv xs.length σ H -> D.nx σ H) :
  ∃ W : Nat -> Nat -> St -> Hp -> Prop, (∃ m, W 0 m σ H) /\ ∀ i m σ H, W i m σ H ->
   ((Itl K a).stop i H /\ D.nx σ H) \/ ((Itl K a).go i H /\ ∃ N : St -> Hp -> Prop, (∀ σ' H', N σ' H' -> ∃ m', m' < m /\ W (i + 1) m' σ' H') /\ ∀ x H', (Itl K a).yld i H x H' -> g x σ H' fun σ2 H2 => tb { D with nx := N, ct := N, bk := D.nx } σ2 H2) := by
 refine ⟨fun i m σ H => m = xs.length - i /\ i <= xs.length /\ Pv i σ H, ⟨xs.length, by simp, Nat.zero_le _, h0⟩, ?_⟩
 rintro i m σ H ⟨rfl, hi, p⟩
 have q := hl i σ H hi p
 by_cases hlt : i < xs.length
 ·refine .inr ⟨⟨xs, xs[i], q, by simp [hlt]⟩, Pv (i + 1), fun σ' H' p' => ⟨xs.length - (i + 1), by omega, rfl, hlt, p'⟩, fun x H' y => ?_⟩
  obtain ⟨e, y⟩ := y
  subst e
  exact hs i x σ _ (y xs q) p
 ·have e : i = xs.length := by omega
  subst e
  exact .inl ⟨⟨xs, q, Nat.le_refl _⟩, hd σ H p⟩
theorem q458 {K : PySem.W.Frag} {a : Addr} {xs : List V} {g : TG} {tb : TS} {D : Ends} {σ : St} {H : Hp} (Pv : Nat -> St -> Hp -> Prop) (h0 : Pv 0 σ H) (hl : ∀ i σ H, i <= xs.length -> Pv i σ H -> SqT K H a xs)
  (hs : ∀ i x σ H, xs[i]? = some x -> Pv i σ H -> g x σ H fun σ2 H2 => tb { D with nx := Pv (i + 1), ct := Pv (i + 1), bk := D.nx } σ2 H2) (hd : ∀ σ H, Pv xs.length σ H -> D.nx σ H) :
  ∃ W : Nat -> Nat -> St -> Hp -> Prop, (∃ m, W 0 m σ H) /\ ∀ i m σ H, W i m σ H ->
   ((Itt K a).stop i H /\ D.nx σ H) \/ ((Itt K a).go i H /\ ∃ N : St -> Hp -> Prop, (∀ σ' H', N σ' H' -> ∃ m', m' < m /\ W (i + 1) m' σ' H') /\ ∀ x H', (Itt K a).yld i H x H' -> g x σ H' fun σ2 H2 => tb { D with nx := N, ct := N, bk := D.nx } σ2 H2) := by
 refine ⟨fun i m σ H => m = xs.length - i /\ i <= xs.length /\ Pv i σ H, ⟨xs.length, by simp, Nat.zero_le _, h0⟩, ?_⟩
 rintro i m σ H ⟨rfl, hi, p⟩
 have q := hl i σ H hi p
 by_cases hlt : i < xs.length
 ·refine .inr ⟨⟨xs, xs[i], q, by simp [hlt]⟩, Pv (i + 1), fun σ' H' p' => ⟨xs.length - (i + 1), by omega, rfl, hlt, p'⟩, fun x H' y => ?_⟩
  obtain ⟨e, y⟩ := y
  subst e
  exact hs i x σ _ (y xs q) p
 ·have e : i = xs.length := by omega
  subst e
  exact .inl ⟨⟨xs, q, Nat.le_refl _⟩, hd σ H p⟩
theorem q127 {lo : Int} {n : Nat} {g : TG} {tb : TS} {D : Ends} {σ : St} {H : Hp} (Pv : Nat -> St -> Hp -> Prop) (h0 : Pv 0 σ H)
  (hs : ∀ i σ H, i < n -> Pv i σ H -> g (.int (lo + i)) σ H fun σ2 H2 => tb { D with nx := Pv (i + 1), ct := Pv (i + 1), bk := D.nx } σ2 H2) (hd : ∀ σ H, Pv n σ H -> D.nx σ H) :
  ∃ W : Nat -> Nat -> St -> Hp -> Prop, (∃ m, W 0 m σ H) /\ ∀ i m σ H, W i m σ H ->
   ((Itr lo n).stop i H /\ D.nx σ H) \/ ((Itr lo n).go i H /\ ∃ N : St -> Hp -> Prop, (∀ σ' H', N σ' H' -> ∃ m', m' < m /\ W (i + 1) m' σ' H') /\ ∀ x H', (Itr lo n).yld i H x H' -> g x σ H' fun σ2 H2 => tb { D with nx := N, ct := N, bk := D.nx } σ2 H2) := by
 refine ⟨fun i m σ H => m = n - i /\ i <= n /\ Pv i σ H, ⟨n, by simp, Nat.zero_le _, h0⟩, ?_⟩
 rintro i m σ H ⟨rfl, hi, p⟩
 by_cases hlt : i < n
 ·refine .inr ⟨hlt, Pv (i + 1), fun σ' H' p' => ⟨n - (i + 1), by omega, rfl, hlt, p'⟩, fun x H' y => ?_⟩
  obtain ⟨e, y⟩ := y
  subst e y
  exact hs i σ _ hlt p
 ·have e : i = n := by omega
  subst e
  exact .inl ⟨Nat.le_refl _, hd σ H p⟩
theorem q361 {c : TT} {tb : TS} {D : Ends} {σ : St} {H : Hp} (Pv : St -> Hp -> Prop) (μ : St -> Hp -> Nat) (h0 : Pv σ H)
  (hs : ∀ σ H, Pv σ H -> c σ H fun b H1 => if b = true then tb { D with nx := fun σ' H' => Pv σ' H' /\ μ σ' H' < μ σ H, ct := fun σ' H' => Pv σ' H' /\ μ σ' H' < μ σ H, bk := D.nx } σ H1 else D.nx σ H1)
  (mono : ∀ σ H Q Q', (∀ b H1, Q b H1 -> Q' b H1) -> c σ H Q -> c σ H Q') : tWhile c tb D σ H := by
 refine ⟨fun m σ H => m = μ σ H /\ Pv σ H, ⟨_, rfl, h0⟩, ?_⟩
 rintro m σ H ⟨rfl, p⟩
 refine mono σ H _ _ (fun b H1 q => ?_) (hs σ H p)
 cases b with
 | true => exact ⟨_, fun σ' H' ⟨p', l⟩ => ⟨_, l, rfl, p'⟩, q⟩
 | false => exact q
end L2
namespace L2
open PySem PySem.Spec PyProof.Rows
abbrev R2 := V -> V -> Hp -> VK -> Prop
def OpR (X : Cx) (f : Value -> Value -> Sem Value) (r : R2) : Prop :=
 ∀ (pins : List (Addr × Obj)) (s : Shared) (σ : St) (H : Hp) (x y : V) (v u : Value) (Q : VK), Inv X pins σ H s -> RelV x v -> RelV y u -> r x y H Q ->
  wpAny (model X.prog X.w) X.A (f v u) (EP X pins σ Q) X.xe s
def UnR (X : Cx) (f : Value -> Sem Value) (r : V -> Hp -> VK -> Prop) : Prop :=
 ∀ (pins : List (Addr × Obj)) (s : Shared) (σ : St) (H : Hp) (x : V) (v : Value) (Q : VK), Inv X pins σ H s -> RelV x v -> r x H Q ->
  wpAny (model X.prog X.w) X.A (f v) (EP X pins σ Q) X.xe s
def CallR (X : Cx) (f : Value) (r : List V -> Hp -> VK -> Prop) : Prop :=
 ∀ (pins : List (Addr × Obj)) (s : Shared) (σ : St) (H : Hp) (xs : List V) (us : List Value) (Q : VK), Inv X pins σ H s -> Vals xs us -> r xs H Q ->
  wpAny (model X.prog X.w) X.A (call f us) (EP X pins σ Q) X.xe s
def tOp (r : R2) (ta tb : TE) : TE := fun σ H Q => ta σ H fun x H1 => tb σ H1 fun y H2 => r x y H2 Q
def tUn (r : V -> Hp -> VK -> Prop) (ta : TE) : TE := fun σ H Q => ta σ H fun x H1 => r x H1 Q
def rI (C : Int -> Int -> Prop) (g : Int -> Int -> V) : R2 := fun x y H Q => ∃ i j, x = .int i /\ y = .int j /\ C i j /\ Q (g i j) H
def rI0 (g : Int -> Int -> V) : R2 := fun x y H Q => ∃ i j, x = .int i /\ y = .int j /\ Q (g i j) H
def rU (g : Int -> V) : V -> Hp -> VK -> Prop := fun x H Q => ∃ i, x = .int i /\ Q (g i) H
section
variable {X : Cx} {a b c : Expr} {ta tb tc : TE} {pos : Pos}
theorem binT (ha : PE X a ta) (hb : PE X b tb) {pins : List (Addr × Obj)} {s : Shared} {σ : St} {H : Hp} {R : V -> V -> Hp -> Prop} (I : Inv X pins σ H s)
  (h : ta σ H fun x H1 => tb σ H1 fun y H2 => R x y H2) {Q : Value -> Shared -> Prop} {f : Value -> Value -> Sem Value}
  (hf : ∀ v u s2 x y H2, Inv X pins σ H2 s2 -> RelV x v -> RelV y u -> R x y H2 -> wpAny (model X.prog X.w) X.A (f v u) Q X.xe s2) :
  wpAny (model X.prog X.w) X.A (eval a X.env) (fun v s₁ => wpAny (model X.prog X.w) X.A (eval b X.env) (fun u s₂ => wpAny (model X.prog X.w) X.A (f v u) Q X.xe s₂) X.xe s₁) X.xe s := by
 refine thn (ha pins s σ H _ I h) fun v s1 ⟨x, H1, I1, r1, q1⟩ => ?_
 refine thn (hb pins s1 σ H1 _ I1 q1) fun u s2 ⟨y, H2, I2, r2, q2⟩ => ?_
 exact hf v u s2 x y H2 I2 r1 r2 q2
theorem pe_op {op : Operator} {r : R2} (ho : OpR X (binaryOp op) r) (ha : PE X a ta) (hb : PE X b tb) : PE X (.BinOp a op b pos) (tOp r ta tb) := by
 intro pins s σ H Q I h
 exact wpAny_BinOp (binT ha hb I h fun v u s2 x y H2 I2 rx ry q => ho pins s2 σ H2 x y v u Q I2 rx ry q)
theorem pe_un {op : UnaryOp} {r : V -> Hp -> VK -> Prop} (ho : UnR X (unaryOp op) r) (ha : PE X a ta) : PE X (.UnaryOp op a pos) (tUn r ta) := by
 intro pins s σ H Q I h
 exact UnaryOp_ (thn (ha pins s σ H _ I h) fun v s1 ⟨x, H1, I1, r1, q1⟩ => ho pins s1 σ H1 x v Q I1 r1 q1)
theorem opI {f : Value -> Value -> Sem Value} {C : Int -> Int -> Prop} {g : Int -> Int -> Int}
  (rule : ∀ (i j : Int) (t u : Tok) (s : Shared) (Q : Value -> Shared -> Prop) (E : Value -> Shared -> Prop), C i j -> Q (.int (g i j) s.toks) { s with toks := s.toks + 1 } -> wpAny (model X.prog X.w) X.A (f (.int i t) (.int j u)) Q E s) :
  OpR X f (rI C fun i j => .int (g i j)) := by
 intro pins s σ H x y v u Q I rx ry h
 obtain ⟨i, j, rfl, rfl, hc, q⟩ := h
 obtain ⟨t, rfl⟩ := rx
 obtain ⟨t', rfl⟩ := ry
 exact rule i j t t' s _ _ hc ⟨.int (g i j), H, I.tok _, ⟨_, rfl⟩, q⟩
theorem opI0 {f : Value -> Value -> Sem Value} {g : Int -> Int -> Int}
  (rule : ∀ (i j : Int) (t u : Tok) (s : Shared) (Q : Value -> Shared -> Prop) (E : Value -> Shared -> Prop), Q (.int (g i j) s.toks) { s with toks := s.toks + 1 } -> wpAny (model X.prog X.w) X.A (f (.int i t) (.int j u)) Q E s) :
  OpR X f (rI0 fun i j => .int (g i j)) := by
 intro pins s σ H x y v u Q I rx ry h
 obtain ⟨i, j, rfl, rfl, q⟩ := h
 obtain ⟨t, rfl⟩ := rx
 obtain ⟨t', rfl⟩ := ry
 exact rule i j t t' s _ _ ⟨.int (g i j), H, I.tok _, ⟨_, rfl⟩, q⟩
theorem opB0 {f : Value -> Value -> Sem Value} {g : Int -> Int -> Bool}
  (rule : ∀ (i j : Int) (t u : Tok) (s : Shared) (Q : Value -> Shared -> Prop) (E : Value -> Shared -> Prop), Q (.bool (g i j)) s -> wpAny (model X.prog X.w) X.A (f (.int i t) (.int j u)) Q E s) :
  OpR X f (rI0 fun i j => .bl (g i j)) := by
 intro pins s σ H x y v u Q I rx ry h
 obtain ⟨i, j, rfl, rfl, q⟩ := h
 obtain ⟨t, rfl⟩ := rx
 obtain ⟨t', rfl⟩ := ry
 exact rule i j t t' s _ _ ⟨.bl (g i j), H, I, rfl, q⟩
def CPow (i j : Int) : Prop := 0 <= j /\ j <= 1000000 /\ i.natAbs < 2 ^ 64
def CMul (i j : Int) : Prop := (-(2 ^ 64) < i /\ i < 2 ^ 64) \/ (-(2 ^ 64) < j /\ j < 2 ^ 64)
theorem CMul.ok {i j : Int} (h : CMul i j) : IntMulOk i j := by
 rcases h with ⟨h1, h2⟩ | ⟨h1, h2⟩
 ·exact .of_left (intBits_le_64 h1 h2)
 ·exact .of_right (intBits_le_64 h1 h2)
theorem q29 : OpR X (binaryOp .Add) (rI0 fun i j => .int (i + j)) := opI0 fun _ _ _ _ _ _ _ q => add_int q
theorem q54 : OpR X (binaryOp .Sub) (rI0 fun i j => .int (i - j)) := opI0 fun _ _ _ _ _ _ _ q => sub_int q
theorem q101 : OpR X (binaryOp .Mult) (rI CMul fun i j => .int (i * j)) := opI fun _ _ _ _ _ _ _ hc q => mul_int q hc.ok
theorem q184 : OpR X (binaryOp .Mod) (rI (fun _ j => 0 < j) fun i j => .int (i % j)) := opI fun i j _ _ _ _ _ hc q => by
 have h1 : (0 : Int) < j := hc
 exact mod_int' (by omega) (by rw [Int.fmod_eq_emod_of_nonneg i (by omega)]; exact q)
theorem q496 : OpR X (binaryOp .Pow) (rI CPow fun i j => .int (i ^ j.toNat)) := opI fun _ _ _ _ _ _ _ hc q => pow_int_small hc.1 hc.2.1 hc.2.2 q
theorem q581 : OpR X (binaryOp .LShift) (rI CPow fun i j => .int (i * 2 ^ j.toNat)) := opI fun _ _ _ _ _ _ _ hc q => lshift_int_small hc.1 hc.2.1 hc.2.2 q
theorem unI {f : Value -> Sem Value} {g : Int -> Int}
  (rule : ∀ (i : Int) (t : Tok) (s : Shared) (Q : Value -> Shared -> Prop) (E : Value -> Shared -> Prop), Q (.int (g i) s.toks) { s with toks := s.toks + 1 } -> wpAny (model X.prog X.w) X.A (f (.int i t)) Q E s) :
  UnR X f (rU fun i => .int (g i)) := by
 intro pins s σ H x v Q I rx h
 obtain ⟨i, rfl, q⟩ := h
 obtain ⟨t, rfl⟩ := rx
 exact rule i t s _ _ ⟨.int (g i), H, I.tok _, ⟨_, rfl⟩, q⟩
theorem q401 : UnR X (unaryOp .USub) (rU fun i => .int (-i)) := unI fun _ _ _ _ _ q => neg_int q
end
def scal : V -> V -> Bool
 | .non, .non => true | .non, .int _ => true | .int _, .non => true | .non, .bl _ => true | .bl _, .non => true | .non, .str _ => true | .str _, .non => true
 | .int _, .int _ => true | .bl _, .bl _ => true | .str _, .str _ => true | .byt _, .byt _ => true
 | .int _, .str _ => true | .str _, .int _ => true | .bl _, .str _ => true | .str _, .bl _ => true
 | _, _ => false
def rEq : R2 := fun x y H Q => scal x y = true /\ Q (.bl (decide (x = y))) H
def rNe : R2 := fun x y H Q => scal x y = true /\ Q (.bl (!decide (x = y))) H
theorem q582 {i j : Int} : decide (V.int i = V.int j) = (i == j) := by
 rw [Bool.eq_iff_iff]
 simp
theorem dec_bl {i j : Bool} : decide (V.bl i = V.bl j) = (i == j) := by
 rw [Bool.eq_iff_iff]
 simp
theorem q583 {i j : Str} : decide (V.str i = V.str j) = (i == j) := by
 rw [Bool.eq_iff_iff]
 simp
theorem q584 {i j : Array UInt8} : decide (V.byt i = V.byt j) = (i.toList == j.toList) := by
 rw [Bool.eq_iff_iff]
 cases i
 cases j
 simp
section
variable {X : Cx} {a b c : Expr} {ta tb tc : TE} {pos : Pos}
theorem q40 {pins : List (Addr × Obj)} {σ : St} {H : Hp} {s : Shared} {Q : VK} {k k' : Bool} (I : Inv X pins σ H s) (q : Q (.bl k) H) (e : k = k') : EP X pins σ Q (.bool k') s := by
 subst e
 exact ⟨.bl k, H, I, rfl, q⟩
theorem op_eq : OpR X (compareOp .Eq) rEq := by
 intro pins s σ H x y v u Q I rx ry h
 obtain ⟨hs, q⟩ := h
 cases x with
 | non =>
  cases rx
  cases y with
  | non => cases ry; exact PySem.EqNone.eq_none_none (q40 I q (by simp))
  | bl j => cases ry; exact PySem.EqNone.eq_none_bool (q40 I q (by simp))
  | int j => obtain ⟨t', rfl⟩ := ry; exact PySem.EqNone.eq_none_int (q40 I q (by simp))
  | str j => obtain ⟨t', rfl⟩ := ry; exact PySem.EqNone.eq_none_str (q40 I q (by simp))
  | _ => exact absurd (show false = true from hs) fnt
 | bl i =>
  cases rx
  cases y with
  | non => cases ry; exact PySem.EqNone.eq_bool_none (q40 I q (by simp))
  | bl j => cases ry; exact eq_bool (q40 I q dec_bl)
  | str j => obtain ⟨t', rfl⟩ := ry; exact PySem.EqMixed.eq_bool_str (q40 I q (by simp))
  | _ => exact absurd (show false = true from hs) fnt
 | int i =>
  obtain ⟨t, rfl⟩ := rx
  cases y with
  | non => cases ry; exact PySem.EqNone.eq_int_none (q40 I q (by simp))
  | int j => obtain ⟨t', rfl⟩ := ry; exact eq_int (q40 I q q582)
  | str j => obtain ⟨t', rfl⟩ := ry; exact PySem.EqMixed.eq_int_str (q40 I q (by simp))
  | _ => exact absurd (show false = true from hs) fnt
 | str i =>
  obtain ⟨t, rfl⟩ := rx
  cases y with
  | non => cases ry; exact PySem.EqNone.eq_str_none (q40 I q (by simp))
  | bl j => cases ry; exact PySem.EqMixed.eq_str_bool (q40 I q (by simp))
  | int j => obtain ⟨t', rfl⟩ := ry; exact PySem.EqMixed.eq_str_int (q40 I q (by simp))
  | str j => obtain ⟨t', rfl⟩ := ry; exact eq_str (q40 I q q583)
  | _ => exact absurd (show false = true from hs) fnt
 | byt i =>
  obtain ⟨t, rfl⟩ := rx
  cases y with
  | byt j => obtain ⟨t', rfl⟩ := ry; exact PySem.W.eq_bytes (q40 I q q584)
  | _ => exact absurd (show false = true from hs) fnt
 | _ => cases y <;> exact absurd (show false = true from hs) fnt
theorem op_ne : OpR X (compareOp .NotEq) rNe := by
 intro pins s σ H x y v u Q I rx ry h
 obtain ⟨hs, q⟩ := h
 cases x with
 | non =>
  cases rx
  cases y with
  | non => cases ry; exact PySem.EqNone.ne_none_none (q40 I q (by simp))
  | bl j => cases ry; exact PySem.EqNone.ne_none_bool (q40 I q (by simp))
  | int j => obtain ⟨t', rfl⟩ := ry; exact PySem.EqNone.ne_none_int (q40 I q (by simp))
  | str j => obtain ⟨t', rfl⟩ := ry; exact PySem.EqNone.ne_none_str (q40 I q (by simp))
  | _ => exact absurd (show false = true from hs) fnt
 | bl i =>
  cases rx
  cases y with
  | non => cases ry; exact PySem.EqNone.ne_bool_none (q40 I q (by simp))
  | bl j => cases ry; exact ne_bool (q40 I q (congrArg not dec_bl))
  | str j => obtain ⟨t', rfl⟩ := ry; exact PySem.EqMixed.ne_bool_str (q40 I q (by simp))
  | _ => exact absurd (show false = true from hs) fnt
 | int i =>
  obtain ⟨t, rfl⟩ := rx
  cases y with
  | non => cases ry; exact PySem.EqNone.ne_int_none (q40 I q (by simp))
  | int j => obtain ⟨t', rfl⟩ := ry; exact ne_int (q40 I q (congrArg not q582))
  | str j => obtain ⟨t', rfl⟩ := ry; exact PySem.EqMixed.ne_int_str (q40 I q (by simp))
  | _ => exact absurd (show false = true from hs) fnt
 | str i =>
  obtain ⟨t, rfl⟩ := rx
  cases y with
  | non => cases ry; exact PySem.EqNone.ne_str_none (q40 I q (by simp))
  | bl j => cases ry; exact PySem.EqMixed.ne_str_bool (q40 I q (by simp))
  | int j => obtain ⟨t', rfl⟩ := ry; exact PySem.EqMixed.ne_str_int (q40 I q (by simp))
  | str j => obtain ⟨t', rfl⟩ := ry; exact ne_str (q40 I q (congrArg not q583))
  | _ => exact absurd (show false = true from hs) fnt
 | byt i =>
  obtain ⟨t, rfl⟩ := rx
  cases y with
  | byt j => obtain ⟨t', rfl⟩ := ry; exact PySem.W.ne_bytes (q40 I q (congrArg not q584))
  | _ => exact absurd (show false = true from hs) fnt
 | _ => cases y <;> exact absurd (show false = true from hs) fnt
theorem op_lt : OpR X (compareOp .Lt) (rI0 fun i j => .bl (decide (i < j))) := opB0 fun _ _ _ _ _ _ _ q => lt_int q
theorem op_le : OpR X (compareOp .LtE) (rI0 fun i j => .bl (decide (i <= j))) := opB0 fun _ _ _ _ _ _ _ q => le_int q
theorem op_gt : OpR X (compareOp .Gt) (rI0 fun i j => .bl (decide (j < i))) := opB0 fun _ _ _ _ _ _ _ q => gt_int q
theorem op_ge : OpR X (compareOp .GtE) (rI0 fun i j => .bl (decide (j <= i))) := opB0 fun _ _ _ _ _ _ _ q => ge_int q
theorem q156 : OpR X (compareOp .Is) (fun x y H Q => y = .non /\ Q (.bl (decide (x = .non))) H) := by
 intro pins s σ H x y v u Q I rx ry h
 obtain ⟨rfl, q⟩ := h
 cases ry
 refine is_none_gen (q40 I q ?_)
 cases x <;> first
  | (cases rx; rfl)
  | (obtain ⟨t, rfl⟩ := rx; rfl)
theorem q585 : OpR X (compareOp .IsNot) (fun x y H Q => y = .non /\ Q (.bl (!decide (x = .non))) H) := by
 intro pins s σ H x y v u Q I rx ry h
 obtain ⟨rfl, q⟩ := h
 cases ry
 refine isnot_none_gen (q40 I q ?_)
 cases x <;> first
  | (cases rx; rfl)
  | (obtain ⟨t, rfl⟩ := rx; rfl)
theorem q20 (b : Expr) {op : CmpOp} (h : op ≠ .In := by decide) (h2 : op ≠ .NotIn := by decide) : behindInMarks op b = false := by
 have e1 : (op == CmpOp.In) = false := by cases op <;> first | rfl | exact absurd rfl h
 have e2 : (op == CmpOp.NotIn) = false := by cases op <;> first | rfl | exact absurd rfl h2
 cases b <;> simp [behindInMarks, e1, e2]
theorem q362 {op : CmpOp} {r : R2} (ho : OpR X (compareOp op) r) (ha : PE X a ta) (hb : PE X b tb) (hm : behindInMarks op b = false) : PE X (.Compare a [op] [b] pos) (tOp r ta tb) := by
 intro pins s σ H Q I h
 exact wpAny_Compare1 (binT ha hb I h fun v u s2 x y H2 I2 rx ry q => ho pins s2 σ H2 x y v u Q I2 rx ry q) hm
def tTest (t : TE) : TT := fun σ H Q => t σ H fun x H' => ∃ k, x = .bl k /\ Q k H'
theorem q17 {op : CmpOp} {r : R2} (ho : OpR X (compareOp op) r) (ha : PE X a ta) (hb : PE X b tb) (hm : behindInMarks op b = false) : PT X (.Compare a [op] [b] pos) (tTest (tOp r ta tb)) := by
 intro pins s σ H Q I h
 refine wpAny_isTrue_Compare1 (thn (ha pins s σ H _ I h) fun v s1 ⟨x, H1, I1, r1, q1⟩ => thn (hb pins s1 σ H1 _ I1 q1) fun u s2 ⟨y, H2, I2, r2, q2⟩ =>
  thn (ho pins s2 σ H2 x y v u _ I2 r1 r2 q2) fun c s3 ⟨z, H3, I3, r3, k, e, q3⟩ => ?_) hm
 subst e
 cases r3
 exact wpAny_truthy_bool ⟨H3, I3, q3⟩
theorem q497 : (sizeLine : Nat) < 2 ^ 63 := by rw [sizeLine_eq]; decide
theorem vals1 {x : V} {us : List Value} (r : Vals [x] us) : ∃ u, us = [u] /\ RelV x u := by
 cases r with
 | cons r1 r2 => cases r2; exact ⟨_, rfl, r1⟩
theorem vals2 {x y : V} {us : List Value} (r : Vals [x, y] us) : ∃ u w', us = [u, w'] /\ RelV x u /\ RelV y w' := by
 cases r with
 | cons r1 r2 =>
  cases r2 with
  | cons r3 r4 => cases r4; exact ⟨_, _, rfl, r1, r3⟩
theorem q586 (hc : X.calm = true) : CallR X (.builtin "max") (fun xs H Q => ∃ i j, xs = [.int i, .int j] /\ Q (.int (if j > i then j else i)) H) := by
 intro pins s σ H xs us Q I r h
 obtain ⟨i, j, rfl, q⟩ := h
 obtain ⟨u, w', rfl, ⟨t, rfl⟩, ⟨t', rfl⟩⟩ := vals2 r
 refine max_two_ints (I.ok.hd hc) fun h' tk k => ⟨_, H, I.kept k, ?_, q⟩
 by_cases hj : j > i
 ·rw [if_pos hj, if_pos hj]; exact ⟨_, rfl⟩
 ·rw [if_neg hj, if_neg hj]; exact ⟨_, rfl⟩
theorem q587 (hc : X.calm = true) : CallR X (.builtin "min") (fun xs H Q => ∃ i j, xs = [.int i, .int j] /\ Q (.int (if j < i then j else i)) H) := by
 intro pins s σ H xs us Q I r h
 obtain ⟨i, j, rfl, q⟩ := h
 obtain ⟨u, w', rfl, ⟨t, rfl⟩, ⟨t', rfl⟩⟩ := vals2 r
 refine min_two_ints (I.ok.hd hc) fun h' tk k => ⟨_, H, I.kept k, ?_, q⟩
 by_cases hj : j < i
 ·rw [if_pos hj, if_pos hj]; exact ⟨_, rfl⟩
 ·rw [if_neg hj, if_neg hj]; exact ⟨_, rfl⟩
theorem q588 : CallR X (.type "int") (fun xs H Q => (∃ i, xs = [.int i] /\ Q (.int i) H) \/ ∃ k, xs = [.bl k] /\ Q (.int (if k then 1 else 0)) H) := by
 intro pins s σ H xs us Q I r h
 rcases h with ⟨i, rfl, q⟩ | ⟨k, rfl, q⟩
 ·obtain ⟨u, rfl, t, rfl⟩ := vals1 r
  exact call_int_int ⟨.int i, H, I, ⟨_, rfl⟩, q⟩
 ·obtain ⟨u, rfl, r1⟩ := vals1 r
  cases r1
  exact call_int_bool ⟨.int (if k then 1 else 0), H, I.tok _, ⟨_, rfl⟩, q⟩
end
end L2
namespace L2
open PySem PySem.Spec PyProof.Rows
structure ObjM (h : Heap) (x dx C : Addr) (mA : Str -> Option Value) : Prop where
 obj : h.get? x = some (PySem.W.instObj C dx)
 ns : h.Ns1 dx mA
 ne : dx ≠ x
section
variable {prog : Program} {w : World} {A : Around} {E : Value -> Shared -> Prop} {s : Shared} {K : PySem.W.Frag} {x dx C f : Addr} {mA : Str -> Option Value} {name : Str} {v : Value}
end
section
variable {P : Program} {w : World} {H H' : Hp} {h h' : Heap} {a C dx : Addr} {fs fs' : List (Str × V)}
end
structure Cls (K : PySem.W.Frag) (C : Addr) : Prop where
 pg : PySem.W.plainGet K C Str.empty = true
 hd : PySem.W.hasDictIn K C = true
 po : PySem.W.plainOver K C = true
 sa : PySem.W.findIn K (.ref C) "__setattr__" = some (some (.builtin "object.__setattr__"))
structure Con (K : PySem.W.Frag) (C : Addr) (f : Str) (v : V) (u : Value) : Prop where
 at_ : PySem.W.findIn K (.ref C) f = some (some u)
 rel : RelV v u
 get : PySem.W.specialIn K u "__get__" = some none
 cp : PySem.W.copiedNames.contains f = false
structure Meth (K : PySem.W.Frag) (C : Addr) (m : Str) (f : Addr) : Prop where
 at_ : PySem.W.findIn K (.ref C) m = some (some (.ref f))
 fn : PySem.W.isFn K (.ref f) = true
 kp : PySem.W.keepIn K (.ref f) = true
section
variable {X : Cx} {pins : List (Addr × Obj)} {σ : St} {H : Hp} {s : Shared} {a C dx : Addr} {fs : List (Str × V)} {f : Str} {v : V} {A : Around} {E : Value -> Shared -> Prop}
end
section
variable {X : Cx} {o e value : Expr} {f : Str} {pos pos' tpos : Pos} {ta tv : TE}
end
section
variable {X : Cx} {pins : List (Addr × Obj)} {σ : St} {H : Hp} {s : Shared} {A : Around} {E : Value -> Shared -> Prop} {Q : Value -> Shared -> Prop} {c : Value} {b : Bool}
inductive TyOf (K : PySem.W.Frag) (H : Hp) : V -> Value -> Prop where
 | non : TyOf K H .non (.type "NoneType")
 | bl (x : Bool) : TyOf K H (.bl x) (.type "bool")
 | int (i : Int) : TyOf K H (.int i) (.type "int")
 | str (x : Str) : TyOf K H (.str x) (.type "str")
 | flt (x : UInt64) : TyOf K H (.flt x) (.type "float")
 | lst {a : Addr} {xs : List V} (e : H a = some (.lst xs)) : TyOf K H (.ref a) (.type "list")
 | frz {a : Addr} {o : Obj} {xs : List V} (e : H a = some (.frz o (.lst xs))) : TyOf K H (.ref a) (.type "list")
 | tup {a : Addr} {xs : List V} (e : H a = some (.tup xs)) : TyOf K H (.ref a) (.type "tuple")
 | dK {a : Addr} {kvs : List (Key × V)} (e : H a = some (.dK kvs)) : TyOf K H (.ref a) (.type "dict")
 | dT {a : Addr} {kvs : List (List Key × V)} (e : H a = some (.dT kvs)) : TyOf K H (.ref a) (.type "dict")
 | ins {a C dx : Addr} {fs : List (Str × V)} (e : H a = some (.ins C dx fs)) (cl : Cls K C) (ha : PySem.W.findIn K (.ref C) "__class__" = some (some (.builtin "object.__class__")))
   (hn : PySem.W.specialIn K (.builtin "object.__class__") "__get__" = some (some (.builtin "getset_descriptor.__get__"))) (htk : PySem.W.takesIn K (.builtin "object.__class__") = some true)
   (hm : PySem.W.mroIn K C (.type "object") = some true) : TyOf K H (.ref a) (.ref C)
end
end L2
namespace L2
open PySem PySem.Spec PyProof.Rows
structure Room (k : Nat) (A : Around) : Prop where
 hd : A.handled = none
 dp : A.depth + 3 * k + 5 < recursionLimit
 un : A.units + 16 * k + 200 < cLine
theorem Room.mono {j k : Nat} {A : Around} (r : Room k A) (h : j <= k) : Room j A := ⟨r.hd, by have := r.dp; omega, by have := r.un; omega⟩
theorem Room.deeper {k : Nat} {A : Around} (r : Room (k + 1) A) (env : Env) : Room k (A.deeper env) :=
 ⟨r.hd, by have := r.dp; show A.depth + 1 + 3 * k + 5 < _; omega, by have := r.un; show A.units + 3 + 16 * k + 200 < _; omega⟩
theorem Room.depth {k : Nat} {A : Around} (r : Room k A) : A.depth < recursionLimit := by have := r.dp; omega
theorem Room.units {k : Nat} {A : Around} (r : Room k A) : A.units + 64 < cLine := by have := r.un; omega
def tNil : TA := fun _ H Q => Q [] H
def tCons (ta : TE) (tr : TA) : TA := fun σ H Q => ta σ H fun x H1 => tr σ H1 fun xs H2 => Q (x :: xs) H2
section
variable {X : Cx} {e : Expr} {es : List Expr} {te : TE} {t : TA} {pos : Pos}
theorem q12 : PA X [] tNil := fun _ _ _ _ H Q I h => Calls.spliced_nil ⟨[], H, I, .nil, h⟩
theorem q10 (ha : PE X e te) (hr : PA X es t) (hs : starEach (e :: es) X.env = (false, eval e X.env) :: starEach es X.env := by rfl) : PA X (e :: es) (tCons te t) := by
 intro pos pins s σ H Q I h
 rw [hs]
 show wpAny _ _ (spliced ((false, eval e X.env) :: backTo pos (starEach es X.env))) _ _ s
 refine Calls.spliced_cons (thn (ha pins s σ H _ I h) fun u s1 ⟨x, H1, I1, r1, q1⟩ => ?_)
 exact thn (hr pos pins s1 σ H1 _ I1 q1) fun us s2 ⟨xs, H2, I2, r2, q2⟩ => ⟨x :: xs, H2, I2, .cons r1 r2, q2⟩
def tTup (t : TA) : TE := fun σ H Q => t σ H fun xs H1 => xs.length <= sizeLine /\ ∀ p, H1 p = none -> Q (.ref p) (upd H1 p (.tup xs))
def tLst (t : TA) : TE := fun σ H Q => t σ H fun xs H1 => xs.length <= sizeLine /\ ∀ p, H1 p = none -> Q (.ref p) (upd H1 p (.lst xs))
theorem q27 {x1} (h : PA X es t) : PE X (.Tuple es x1 pos) (tTup t) := by
 intro pins s σ H Q I hq
 refine wpAny_Tuple_spliced (thn (h pos pins s σ H _ I hq) fun us s1 ⟨xs, H1, I1, r, z, q⟩ => ⟨by rw [<- r.length]; exact z, ?_⟩)
 have hf : H1 s1.heap.objs.size = none := I1.hok.fresh (Nat.le_refl _)
 refine ⟨.ref s1.heap.objs.size, upd H1 s1.heap.objs.size (.tup xs), I1.laid (t' := s1.toks) (fun b u e => Heap.get?_push_of_some _ e) (Nat.le_refl _) ?_, rfl, q _ hf⟩
 exact ⟨z, us, r, ⟨_, Heap.get?_push_size _ rfl, rfl, _, rfl⟩⟩
theorem q55 (h : PA X es t) : PE X (.List es pos) (tLst t) := by
 intro pins s σ H Q I hq
 refine wpAny_List_spliced (thn (h pos pins s σ H _ I hq) fun us s1 ⟨xs, H1, I1, r, z, q⟩ => ⟨by rw [<- r.length]; exact z, ?_⟩)
 have hf : H1 s1.heap.objs.size = none := I1.hok.fresh (Nat.le_refl _)
 refine ⟨.ref s1.heap.objs.size, upd H1 s1.heap.objs.size (.lst xs), I1.laid (t' := s1.toks) (fun b u e => Heap.get?_push_of_some _ e) (Nat.le_refl _) ?_, rfl, q _ hf⟩
 exact ⟨z, us, 0, r, Heap.get?_push_size _ rfl⟩
end
abbrev Sp := List V -> Hp -> VK -> XK -> Prop
abbrev CXT := List Env -> Hp -> Shared -> XK -> Value -> Shared -> Prop
structure Env0 (P : Program) (w : World) (K : PySem.W.Frag) (mg : Str -> Option Value) (base : Heap) (A : Around) (outer : List Env) (s : Shared) (H : Hp) : Prop where
 frames : A.frames = some outer
 mod : Mod K mg base
 bs : ∀ b o, base.get? b = some o -> s.heap.get? b = some o /\ H b = none
 bsz : base.objs.size <= s.heap.objs.size
 funs : s.heap.FunFrames base outer
 frf : ∀ b ∈ frs outer, H b = none
 hok : HOk P w H s.heap
 bare : AllBare s.gens
def CE (outer : List Env) (P : Program) (w : World) (H : Hp) (s : Shared) (Q : VK) (u : Value) (s' : Shared) : Prop :=
 ∃ v H', s'.os = s.os /\ AllBare s'.gens /\ Un (frs outer) [] H H' s.heap s'.heap /\ HOk P w H' s'.heap /\ RelV v u /\ Q v H'
def CR (CX : CXT) (outer : List Env) (P : Program) (w : World) (H : Hp) (s : Shared) (Q : VK) (E : XK) (r : Result) (s' : Shared) : Prop :=
 match r with
 | .ok (.ret u) => CE outer P w H s Q u s'
 | .ok _ => False
 | .error e => CX outer H s E e s'
structure FnOk (P : Program) (w : World) (K : PySem.W.Frag) (mg : Str -> Option Value) (base : Heap) (CX : CXT) (k : Nat) (f : Addr) (fd : FuncData) (ps : List Str) (sp : Sp) : Prop where
 len : ∀ vs H Q E, sp vs H Q E -> vs.length = ps.length
 run : ∀ (A : Around) (outer : List Env) (s : Shared) (H : Hp) (args : Args) (us : List Value) (vs : List V) (Q : VK) (E : XK), Room k A -> Env0 P w K mg base A outer s H -> BindsTo s fd args (ps.zip us) -> Vals vs us -> sp vs H Q E ->
  codeAny (model P w) A (.call (.ref f) args) (CR CX outer P w H s Q E) s
theorem FnOk.mono {P : Program} {w : World} {K : PySem.W.Frag} {mg : Str -> Option Value} {base : Heap} {CX : CXT} {j k : Nat} {f : Addr} {fd : FuncData} {ps : List Str} {sp : Sp} (F : FnOk P w K mg base CX j f fd ps sp) (h : j <= k) :
  FnOk P w K mg base CX k f fd ps sp := ⟨F.len, fun A outer s H args us vs Q E hr => F.run A outer s H args us vs Q E (hr.mono h)⟩
section
variable {X : Cx} {pins : List (Addr × Obj)} {σ : St} {H : Hp} {s s' : Shared}
theorem Inv.env0 (I : Inv X pins σ H s) : Env0 X.prog X.w X.K X.mg X.base X.A X.stack s H :=
 ⟨I.ok.frames, I.ok.mod, I.bs, Nat.le_trans I.ok.bsz I.sz, I.stack, I.stkFree, I.hok, I.bare⟩
theorem Inv.after {Q : VK} {u : Value} (I : Inv X pins σ H s) (h : CE X.stack X.prog X.w H s Q u s') : EP X pins σ Q u s' := by
 obtain ⟨v, H', os, bare, un, hok, r, q⟩ := h
 obtain ⟨hh, g, d, t, os'⟩ := s'
 obtain rfl : os' = s.os := os
 exact ⟨v, H', I.call (h' := hh) (g' := g) (d' := d) (t' := t) (ch := []) un hok bare (fun b z => absurd z (by simp)), r, q⟩
end
def tCall (sp : Sp) (dvs : List V) (E : XK) (t : TA) : TE := fun σ H Q => t σ H fun vs H1 => sp (vs ++ dvs) H1 Q E
def Binds (K : PySem.W.Frag) (fd : FuncData) (ps : List Str) (ds : List Value) : Prop :=
 ∀ (s : Shared) (us : List Value), K.In s.heap -> (us ++ ds).length = ps.length -> BindsTo s fd ⟨us, []⟩ (ps.zip (us ++ ds))
theorem Binds.all {K : PySem.W.Frag} {fd : FuncData} {ps : List Str} (h : ∀ us : List Value, us.length = ps.length -> bindArgs fd ⟨us, []⟩ = pure (ps.zip us)) : Binds K fd ps [] := fun s us _ hl => by
 rw [List.append_nil] at hl ⊢
 exact .of_eq (h us hl)
def q589 (CX : CXT) (X : Cx) (E : XK) : Prop := ∀ (pins : List (Addr × Obj)) (σ : St) (H : Hp) (s : Shared) (e : Value) (s' : Shared), Inv X pins σ H s -> CX X.stack H s E e s' -> X.xe e s'
section
variable {X : Cx} {CX : CXT} {k : Nat} {f C : Addr} {fd : FuncData} {ps : List Str} {sp : Sp} {dvs : List V} {ds : List Value} {E : XK} {x m : Str} {p pos apos : Pos} {e o : Expr} {es : List Expr} {ta : TE} {t : TA}
theorem run_fn {pins : List (Addr × Obj)} {σ : St} {H : Hp} {s : Shared} {Q : VK} {us : List Value} {vs : List V} (F : FnOk X.prog X.w X.K X.mg X.base CX k f fd ps sp) (hr : Room k X.A) (hb : Binds X.K fd ps ds) (hd : Vals dvs ds) (hx : q589 CX X E)
  (I : Inv X pins σ H s) (r : Vals vs us) (h : sp (vs ++ dvs) H Q E) : wpAny (model X.prog X.w) X.A (call (.ref f) us) (EP X pins σ Q) X.xe s := by
 have r2 : Vals (vs ++ dvs) (us ++ ds) := r.append hd
 have hl : (us ++ ds).length = ps.length := by rw [<- r2.length]; exact F.len _ _ _ _ h
 refine wpAny_call (codeAny_mono (F.run X.A X.stack s H ⟨us, []⟩ (us ++ ds) (vs ++ dvs) Q E hr I.env0 (hb s us I.kIn hl) r2 h) fun r s' hq => ?_)
 cases r with
 | error e => exact hx pins σ H s e s' I hq
 | ok fl =>
  cases fl with
  | ret u => exact I.after hq
  | next => exact False.elim hq
  | brk => exact False.elim hq
  | cont => exact False.elim hq
theorem pe_call (F : FnOk X.prog X.w X.K X.mg X.base CX k f fd ps sp) (hr : Room k X.A) (hg : Gl X x) (hm : X.mg x = some (.ref f)) (hk : PySem.W.keepIn X.K (.ref f) = true) (hb : Binds X.K fd ps ds) (hd : Vals dvs ds) (hx : q589 CX X E)
  (ha : PA X (e :: es) t) (hdb : (x == ("__debug__" : Str)) = false := by decide) (he : starEach (e :: es) X.env = (false, eval e X.env) :: starEach es X.env := by rfl) (hpl : (backTo pos (starEach es X.env)).any (·.1) = false := by rfl) :
  PE X (.Call (.Name x p) (e :: es) [] pos) (tCall sp dvs E t) := by
 intro pins s σ H Q I h
 refine wpAny_Call_Name_kw (ld_glob I hg hm ?_ hdb)
 refine PySem.W.callWith_K (h₀ := X.base) I.ok.mod.kin hk (thn (ha pos pins s σ H _ I h) fun us s1 ⟨vs, H1, I1, r, q⟩ => ⟨I1.kIn, ?_⟩) he hpl
 exact run_fn F hr hb hd hx I1 r q
structure Mk (K : PySem.W.Frag) (C f : Addr) : Prop where
 makes : PySem.W.makesIn K C = true
 init : PySem.W.findIn K (.ref C) "__init__" = some (some (.ref f))
 fn : PySem.W.isFn K (.ref f) = true
 kp : PySem.W.keepIn K (.ref C) = true
end
section
variable {X : Cx} {CX : CXT} {k : Nat} {f C : Addr} {fd : FuncData} {ps ks : List Str} {sp : Sp} {E : XK} {x m : Str} {p pos apos kpos : Pos} {e o : Expr} {es : List Expr} {kws : List Keyword} {te ta : TE} {t tk : TA} {nm : Option Str}
structure KBinds (K : PySem.W.Frag) (fd : FuncData) (ps ks : List Str) (g : List Value -> List Value -> List Value) (gV : List V -> List V -> List V) : Prop where
 to : ∀ (s : Shared) (us ws : List Value), K.In s.heap -> (g us ws).length = ps.length -> BindsTo s fd ⟨us, ks.zip ws⟩ (ps.zip (g us ws))
 rel : ∀ {vs : List V} {us : List Value} {zs : List V} {ws : List Value}, Vals vs us -> Vals zs ws -> Vals (gV vs zs) (g us ws)
variable {g : List Value -> List Value -> List Value} {gV : List V -> List V -> List V}
end
structure FnScope (N P : List Str) (sc : Scope) : Prop where
 kind : sc.kind = .function
 co : sc.isCoroutine = false
 gen : sc.isGenerator = false
 nd : N.Nodup
 pre : N.take P.length = P
 par : ∀ x ∈ P, sc.names.lookup x = some .local \/ sc.names.lookup x = some .cell
 nofree : ∀ y ∈ sc.names, y.2 ≠ .free
theorem q402 {kindOf : Str -> Option NameKind} {x : Str} : ∀ {binds : List (Str × Value)} {m : Str -> Option Value}, (∀ v, (x, v) ∉ binds) -> bindL kindOf binds m x = m x
 | [], _, _ => rfl
 | (n, v) :: r, m, h => by
  unfold bindL
  rw [q402 fun w hw => h w (List.mem_cons_of_mem _ hw)]
  split
  ·have : x ≠ n := by rintro rfl; exact h v List.mem_cons_self
   simp [this]
  ·rfl
theorem q403 {kindOf : Str -> Option NameKind} {x : Str} : ∀ {binds : List (Str × Value)} {m : Str -> Option Value}, (∀ v, (x, v) ∉ binds) -> bindC kindOf binds m x = m x
 | [], _, _ => rfl
 | (n, v) :: r, m, h => by
  unfold bindC
  rw [q403 fun w hw => h w (List.mem_cons_of_mem _ hw)]
  split
  ·rfl
  ·have : x ≠ n := by rintro rfl; exact h v List.mem_cons_self
   simp [this]
theorem q404 {kindOf : Str -> Option NameKind} {x : Str} {v : Value} : ∀ {P : List Str} {vs : List Value} {i : Nat} {m : Str -> Option Value}, P.Nodup -> P[i]? = some x -> vs[i]? = some v -> kindOf x = some .local ->
  bindL kindOf (P.zip vs) m x = some v
 | [], _, _, _, _, h, _, _ => by simp at h
 | _ :: _, [], _, _, _, _, h, _ => by simp at h
 | p :: P, w :: vs, 0, m, nd, h1, h2, hk => by
  simp at h1 h2; subst h1; subst h2
  show bindL kindOf ((p, w) :: P.zip vs) m p = _
  unfold bindL
  rw [q402 fun v hv => (List.nodup_cons.mp nd).1 (List.of_mem_zip hv).1, if_pos hk]
  simp
 | p :: P, w :: vs, i + 1, m, nd, h1, h2, hk => by
  show bindL kindOf ((p, w) :: P.zip vs) m x = _
  unfold bindL
  exact q404 (i := i) (List.nodup_cons.mp nd).2 (by simpa using h1) (by simpa using h2) hk
theorem q405 {kindOf : Str -> Option NameKind} {x : Str} {v : Value} : ∀ {P : List Str} {vs : List Value} {i : Nat} {m : Str -> Option Value}, P.Nodup -> P[i]? = some x -> vs[i]? = some v -> kindOf x ≠ some .local ->
  bindC kindOf (P.zip vs) m x = some v
 | [], _, _, _, _, h, _, _ => by simp at h
 | _ :: _, [], _, _, _, _, h, _ => by simp at h
 | p :: P, w :: vs, 0, m, nd, h1, h2, hk => by
  simp at h1 h2; subst h1; subst h2
  show bindC kindOf ((p, w) :: P.zip vs) m p = _
  unfold bindC
  rw [q403 fun v hv => (List.nodup_cons.mp nd).1 (List.of_mem_zip hv).1, if_neg hk]
  simp
 | p :: P, w :: vs, i + 1, m, nd, h1, h2, hk => by
  show bindC kindOf ((p, w) :: P.zip vs) m x = _
  unfold bindC
  exact q405 (i := i) (List.nodup_cons.mp nd).2 (by simpa using h1) (by simpa using h2) hk
def start (N : List Str) (vs : List V) : St := vs.map some ++ List.replicate (N.length - vs.length) none
def cxOf (CX : CXT) (P : Program) (w : World) (K : PySem.W.Frag) (mg : Str -> Option Value) (base : Heap) (N : List Str) (qual : Str) (scope : Scope) (f : Addr) (cd : Value) (A : Around) (outer : List Env) (s : Shared) (H : Hp) (E : XK) : Cx where
 prog := P
 w := w
 K := K
 mg := mg
 base := base
 A := A.deeper (envOfC qual scope s.heap.objs.size f cd)
 N := N
 s₀ := s
 H₀ := H
 env := envOfC qual scope s.heap.objs.size f cd
 outer := outer
 stack := envOfC qual scope s.heap.objs.size f cd :: outer
 ex := []
 calm := true
 fn := fun _ => true
 pn := []
 xe := fun e s' => wpAny (model P w) (A.deeper (envOfC qual scope s.heap.objs.size f cd)) (leaving (envOfC qual scope s.heap.objs.size f cd) e) (fun _ s'' => CX outer H s E e s'') (fun e' s'' => CX outer H s E e' s'') s'
theorem q498 {sc : Scope} {n : Nat} {x : Str} (h : sc.names.lookup x = some .cell) : ∃ c, (cellsFrom n sc.names []).lookup x = some c := by
 have q := PySem.W.cellsFrom_some sc.names n [] (.inl h)
 exact Option.isSome_iff_exists.mp q
theorem q590 {CX : CXT} {P : Program} {w : World} {K : PySem.W.Frag} {mg : Str -> Option Value} {base : Heap} {N ps : List Str} {qual : Str} {scope : Scope} {f : Addr} {cd : Value} {A : Around} {outer : List Env} {s s1 : Shared} {H : Hp} {E : XK} {us : List Value} {vs : List V}
  (S : FnScope N ps scope) (hd : A.handled = none) (e0 : Env0 P w K mg base A outer s H) (hl : vs.length = ps.length) (r : Vals vs us)
  (x : InCallC s s.heap.objs.size (bindL (envOfC qual scope s.heap.objs.size f cd).kindOf (ps.zip us) fun _ => none) (cellsFrom (s.heap.objs.size + 1) scope.names []) (bindC (envOfC qual scope s.heap.objs.size f cd).kindOf (ps.zip us) fun _ => none) s1) :
  Inv (cxOf CX P w K mg base N qual scope f cd A outer s H E) [] (start N vs) H s1 := by
 have hpl : ps.length <= N.length := by have := congrArg List.length S.pre; rw [List.length_take] at this; omega
 obtain ⟨h1, tk, rfl, hk⟩ := x.done
 have noA : ∀ b : Addr, b ∉ (cxOf CX P w K mg base N qual scope f cd A outer s H E).ex := fun b z => absurd (show b ∈ ([] : List Addr) from z) (by simp)
 refine ⟨⟨e0.mod, S.kind, rfl, rfl, Nat.le_refl _, fun y z c h1 h2 => ?_, fun y hy => ?_, fun y c _ h => ?_, fun _ => hd, Around.frames_deeper e0.frames, .inr ⟨rfl, rfl⟩, fun b z => absurd z (noA b), e0.bs, e0.bsz, fun b _ _ => noA b, fun b z => absurd z (noA b), e0.funs, e0.frf⟩,
  rfl, e0.bare, Un.kept hk, ⟨_, x.toInCall.ns, fun i y v h1 h2 h3 => ?_⟩, fun y c h => ⟨_, x.cell y c h⟩, e0.hok.fresh (Nat.le_refl _), fun y c h => ?_, fun p hp => absurd (show p ∈ ([] : List (Addr × Obj)) from hp) (by simp), e0.hok.kept hk, ?_⟩
 ·exact name_of_addr x.apart (PySem.mem_of_lookup h1) (PySem.mem_of_lookup h2)
 ·have hy : scope.names.lookup y = some .cell \/ scope.names.lookup y = some .free := hy
  rcases hy with hy | hy
  ·exact q498 hy
  ·exact absurd rfl (S.nofree _ (PySem.mem_of_lookup hy))
 ·exact Nat.le_of_lt (x.above y c (PySem.mem_of_lookup h))
 ·have hi : i < vs.length := by
   unfold start at h2
   by_cases hi : i < vs.length
   ·exact hi
   ·rw [List.getElem?_append_right (by simpa using hi)] at h2
    rw [List.getElem?_replicate] at h2
    split at h2 <;> cases h2
  have ha : vs[i]? = some v := by
   unfold start at h2
   rw [List.getElem?_append_left (by simpa using hi), List.getElem?_map] at h2
   cases e : vs[i]? with
   | none => rw [e] at h2; cases h2
   | some a => rw [e] at h2; cases h2; rfl
  obtain ⟨u, hu, rv⟩ := r.get ha
  have hp : ps[i]? = some y := by
   rw [<- S.pre, List.getElem?_take_of_lt (by omega)]; exact h1
  have ndP : ps.Nodup := by rw [<- S.pre]; exact S.nd.sublist (List.take_sublist _ _)
  refine ⟨u, rv, ?_⟩
  rcases S.par y (List.mem_of_getElem? hp) with k | k
  ·exact .inl ⟨k, q404 ndP hp hu k⟩
  ·obtain ⟨c, e⟩ := q498 (n := s.heap.objs.size + 1) k
   refine .inr ⟨.inl k, c, e, ?_⟩
   have q := x.cell y c e
   rw [q405 ndP hp hu (by show scope.names.lookup y ≠ _; rw [k]; decide)] at q
   exact q
 ·exact e0.hok.fresh (Nat.le_of_lt (x.above y c (PySem.mem_of_lookup h)))
 ·unfold start
  show _ = N.length
  rw [List.length_append, List.length_map, List.length_replicate]
  omega
theorem fn_of {CX : CXT} {P : Program} {w : World} {K : PySem.W.Frag} {mg : Str -> Option Value} {base : Heap} {k : Nat} {f : Addr} {name qual : Str} {params : Arguments} {body : List Stmt} {scope : Scope} {dV kV doc pm cdv ct oc : Value} {an od : Option Addr}
  {osl : Array (Option Value)} {N ps : List Str} {sp : Sp} (lk : K.lookup f = some ⟨oc, od, .func (PySem.W.fnOf name qual params body scope dV kV doc pm an cdv ct), osl⟩) (hcd : PySem.W.codeIn K cdv qual = true) (S : FnScope N ps scope)
  (len : ∀ vs H Q E, sp vs H Q E -> vs.length = ps.length)
  (hbody : ∀ (A : Around) (outer : List Env) (s : Shared) (H : Hp) (vs : List V) (Q : VK) (E : XK), Room k (A.deeper (envOfC qual scope s.heap.objs.size f cdv)) -> sp vs H Q E ->
   ∃ t, PSs (cxOf CX P w K mg base N qual scope f cdv A outer s H E) body t /\ t { nx := fun _ H' => Q .non H', rt := Q } (start N vs) H) :
  FnOk P w K mg base CX (k + 1) f (PySem.W.fnOf name qual params body scope dV kV doc pm an cdv ct) ps sp := by
 refine ⟨len, fun A outer s H args us vs Q E hr e0 hb r hsp => ?_⟩
 have hl := len _ _ _ _ hsp
 have KX : K.In s.heap := e0.mod.kin.keeps fun b o e => (e0.bs b o e).1
 have lim : s.heap.NoLimit := e0.mod.nolimit.keeps fun b o e => (e0.bs b o e).1
 have hkind : ∀ y ∈ ps.zip us, scope.names.lookup y.1 = some .local \/ (scope.names.lookup y.1 = some .cell /\ ((cellsFrom (s.heap.objs.size + 1) scope.names []).lookup y.1).isSome = true) := fun ⟨n, v⟩ hy => by
  rcases S.par n (List.of_mem_zip hy).1 with q | q
  ·exact .inl q
  ·exact .inr ⟨q, PySem.W.cellsFrom_some _ _ _ (.inl q)⟩
 refine codeAny_call_function hr.depth (KX _ _ lk) rfl S.co S.gen rfl (PySem.W.codeRec_of KX hcd) (hb _ _ _ _ ?_)
 refine wpAny_newFunctionEnv_cells S.kind hkind fun env he s1 x => ?_
 subst he
 refine ⟨lim.keeps x.toInCall.keep, codeAny_func ?_⟩
 obtain ⟨t, ht, hq⟩ := hbody A outer s H vs Q E (hr.deeper _) hsp
 have I : Inv (cxOf CX P w K mg base N qual scope f cdv A outer s H E) [] (start N vs) H s1 := q590 S hr.hd e0 hl r x
 refine wpAny_mono (ht [] s1 (start N vs) H _ I hq) (fun fl s' hs => ?_) fun e s' hs => hs
 have fin : ∀ {σ' : St} {H' : Hp} {v : V} {u : Value}, Inv (cxOf CX P w K mg base N qual scope f cdv A outer s H E) [] σ' H' s' -> RelV v u -> Q v H' -> CE outer P w H s Q u s' :=
  fun {σ' H' v u} J rv q => ⟨v, H', J.os, J.bare, J.base, J.hok, rv, q⟩
 cases fl with
 | ret u =>
  obtain ⟨v, σ', H', J, rv, q⟩ := hs
  exact fin J rv q
 | next =>
  obtain ⟨σ', H', J, q⟩ := hs
  exact fin (v := V.non) (u := Value.none) J rfl q
 | brk =>
  obtain ⟨_, _, _, q⟩ := hs
  exact False.elim q
 | cont =>
  obtain ⟨_, _, _, q⟩ := hs
  exact False.elim q
end L2
namespace L2
open PySem PySem.Spec PyProof.Rows
section
variable {X : Cx} {x : Str} {p pos : Pos} {e : Expr} {es : List Expr} {t : TA} {id T : String} {r : List V -> Hp -> VK -> Prop}
def tCB (r : List V -> Hp -> VK -> Prop) (t : TA) : TE := fun σ H Q => t σ H fun vs H1 => r vs H1 Q
theorem q26 (hc : CallR X (.builtin id) r) (hg : Gl X x) (hm : X.mg x = none) (hv : bootBuiltins x = some (.builtin id)) (ha : PA X (e :: es) t) (hn : x ≠ "__name__" := by decide) (hdb : (x == ("__debug__" : Str)) = false := by decide)
  (he : starEach (e :: es) X.env = (false, eval e X.env) :: starEach es X.env := by rfl) (hpl : (backTo pos (starEach es X.env)).any (·.1) = false := by rfl) : PE X (.Call (.Name x p) (e :: es) [] pos) (tCB r t) := by
 intro pins s σ H Q I h
 refine wpAny_Call_Name_kw (q343 I hg hm hv ?_ hn hdb)
 exact PyProof.Rows.callWith_builtin1 (thn (ha pos pins s σ H _ I h) fun us s1 ⟨vs, H1, I1, r1, q1⟩ => hc pins s1 σ H1 vs us Q I1 r1 q1) he hpl
theorem q128 (hc : CallR X (.type T) r) (hg : Gl X x) (hm : X.mg x = none) (hv : bootBuiltins x = some (.type T)) (ha : PA X (e :: es) t) (hn : x ≠ "__name__" := by decide) (hdb : (x == ("__debug__" : Str)) = false := by decide)
  (he : starEach (e :: es) X.env = (false, eval e X.env) :: starEach es X.env := by rfl) (hpl : (backTo pos (starEach es X.env)).any (·.1) = false := by rfl) : PE X (.Call (.Name x p) (e :: es) [] pos) (tCB r t) := by
 intro pins s σ H Q I h
 refine wpAny_Call_Name_kw (q343 I hg hm hv ?_ hn hdb)
 exact PyProof.Rows.callWith_type1 (thn (ha pos pins s σ H _ I h) fun us s1 ⟨vs, H1, I1, r1, q1⟩ => hc pins s1 σ H1 vs us Q I1 r1 q1) he hpl
end
end L2
namespace HT
open PySem PyProof.Rows
section
open PySem.SeqAt
open PySem.AutoSeq1 (wpAny_loadPart')
open PySem.MeetsSeq PySem.MeetsSeq2 PySem.MeetsSeq3
end
section
variable {prog : Program} {w : World} {A : Around} {E : Value -> Shared -> Prop} {s : Shared}
def sIx (n d : Nat) : Option Int -> Nat
 | none => d
 | some v => if v < 0 then (v + (n : Int)).toNat else min v.toNat n
theorem q684 (n d : Nat) : sIx n d none = d := rfl
theorem q685 (n d k : Nat) : sIx n d (some (k : Int)) = min k n := by
 show (if (k : Int) < 0 then ((k : Int) + (n : Int)).toNat else min (k : Int).toNat n) = min k n
 rw [if_neg (by omega), Int.toNat_natCast]
theorem sIx_le (n d : Nat) (hd : d <= n) (o : Option Int) : sIx n d o <= n := by
 cases o with
 | none => exact hd
 | some v =>
  show (if v < 0 then (v + (n : Int)).toNat else min v.toNat n) <= n
  by_cases hv : v < 0
  ·rw [if_pos hv]; omega
  ·rw [if_neg hv]; exact Nat.min_le_right _ _
theorem q591 (v : Int) (n d : Nat) : (if v < 0 then max (v + (n : Int)) 0 else min v (n : Int)) = ((sIx n d (some v) : Nat) : Int) := by
 show (if v < 0 then max (v + (n : Int)) 0 else min v (n : Int)) = (((if v < 0 then (v + (n : Int)).toNat else min v.toNat n) : Nat) : Int)
 by_cases hv : v < 0
 ·simp only [if_pos hv]; omega
 ·simp only [if_neg hv]; omega
theorem q531 (lo hi : Option Int) (n : Nat) : Builtin.Slice.sliceAdjust lo hi 1 (n : Int) = (((sIx n 0 lo : Nat) : Int), ((sIx n n hi : Nat) : Int)) := by
 have h1 : ¬ ((1 : Int) < 0) := by omega
 unfold Builtin.Slice.sliceAdjust
 simp only [h1, if_false]
 refine Prod.ext ?_ ?_
 ·cases lo with
  | none => rfl
  | some v => exact q591 v n 0
 ·cases hi with
  | none => rfl
  | some v => exact q591 v n n
theorem q532 (i j : Nat) : Builtin.Slice.slicePlaces (i : Int) (j : Int) 1 = j - i := by
 unfold Builtin.Slice.slicePlaces
 have h1 : (1 : Int) > 0 := by omega
 simp only [h1, if_true, Int.ediv_one]
 split <;> omega
theorem q345 {v : Value} {o : Option Int} {Q : Option Int -> Shared -> Prop} (p : IsPart v o) (h : Q o s) : wpAny (model prog w) A (Builtin.Slice.slicePartIndex v) Q E s := by
 cases p with
 | none => exact slicePart_none h
 | int i t => exact slicePart_int h
theorem q153 {sl : Addr} {vl vu : Value} {lo hi : Option Int} {n : Nat} {Q : Int × Int × Nat -> Shared -> Prop} (hs : s.heap.IsSliceOf sl vl vu .none) (pl : IsPart vl lo) (pu : IsPart vu hi)
  (h : Q (((sIx n 0 lo : Nat) : Int), 1, sIx n n hi - sIx n 0 lo) s) : wpAny (model prog w) A (Builtin.Slice.sliceApplied (.ref sl) (pure (n : Int))) Q E s := by
 obtain ⟨os, hos, hcs, hds⟩ := id hs
 unfold Builtin.Slice.sliceApplied Builtin.Slice.sliceFields
 refine wpAny_bind (wpAny_bind (wpAny_field hos hds (x := vl) rfl (wpAny_bind (wpAny_field hos hds (x := vu) rfl (wpAny_bind (wpAny_field hos hds (x := .none) rfl (wpAny_pure ?_)))))))
 refine wpAny_bind (slicePart_none ?_)
 show wpAny _ _ (if ((1 : Int) == 0) = true then _ else _) _ _ s
 rw [if_neg (by decide)]
 refine wpAny_bind (q345 pl (wpAny_bind (q345 pu (wpAny_bind (wpAny_pure ?_)))))
 show wpAny _ _ (match Builtin.Slice.sliceAdjust lo hi 1 (n : Int) with | (lo, hi) => pure (lo, (1 : Int), Builtin.Slice.slicePlaces lo hi 1)) _ _ s
 rw [q531 lo hi n]
 show wpAny _ _ (pure (((sIx n 0 lo : Nat) : Int), (1 : Int), Builtin.Slice.slicePlaces ((sIx n 0 lo : Nat) : Int) ((sIx n n hi : Nat) : Int) 1)) _ _ s
 rw [q532]
 exact wpAny_pure h
theorem pick_gen (xs : Array Value) (i k : Nat) : ((List.range k).filterMap fun (m : Nat) => xs[((i : Int) + (m : Int) * 1).toNat]?).toArray = ((xs.toList.drop i).take k).toArray := by
 have e : (fun (m : Nat) => xs[((i : Int) + (m : Int) * 1).toNat]?) = fun m => xs[i + m]? := by
  funext m
  have : ((i : Int) + (m : Int) * 1).toNat = i + m := by omega
  rw [this]
 rw [e]
 have := pick_run xs i k
 rw [List.filterMap_map] at this
 have e2 : ((fun x => xs[x]?) ∘ fun x => i + x) = fun m => xs[i + m]? := rfl
 rw [e2] at this
 rw [this]
theorem q533 {t sl : Addr} {items : Array Value} {vl vu : Value} {lo hi : Option Int} {Q : Value -> Shared -> Prop} (ht : IsTup s.heap t items) (hs : s.heap.IsSliceOf sl vl vu .none) (pl : IsPart vl lo) (pu : IsPart vu hi)
  (hw : ¬ (sIx items.size 0 lo = 0 /\ sIx items.size items.size hi = items.size))
  (h : Q (.ref s.heap.objs.size) { s with heap := s.heap.push { cls := .type "tuple", data := .seq ((items.toList.drop (sIx items.size 0 lo)).take (sIx items.size items.size hi - sIx items.size 0 lo)).toArray } })
  (hsz : items.size <= sizeLine) : wpAny (model prog w) A (getItem (.ref t) (.ref sl)) Q E s := by
 have htake : sizeOk (.seq ((items.toList.drop (sIx items.size 0 lo)).take (sIx items.size items.size hi - sIx items.size 0 lo)).toArray) := by
  show ((items.toList.drop (sIx items.size 0 lo)).take (sIx items.size items.size hi - sIx items.size 0 lo)).toArray.size <= sizeLine
  rw [List.size_toArray, List.length_take, List.length_drop, Array.length_toList]
  omega
 have hj : sIx items.size items.size hi <= items.size := sIx_le _ _ (Nat.le_refl _) hi
 obtain ⟨os, hos, hcs, hds⟩ := id hs
 have hTs : s.TypeIs (.ref sl) "slice" := ⟨os, hos, hcs⟩
 unfold getItem
 try with_reducible refine wpAny_holding ?_
 first | refine wpAny_bind (wpAny_pure ?_) | skip
 refine wpAny_bind (wpAny_sequenceKey ht.typeIs (by decide) ?_)
 refine wpAny_bind (wpAny_callSpecial?_slot (name := Str.ofString "__getitem__") ht.typeIs PyProof.Rows.slot_tuple_getitem
  (wpAny_call_entry PyProof.Rows.slot_tuple_getitem ht.typeIs entry_tuple_getitem ?_ (args_tuple_getitem _ _)))
 show wpAny _ _ (Builtin.Tuple.tupleItemsOf (.ref t) >>= _) _ _ s
 refine wpAny_bind (tupleItemsOf_ ht ?_)
 refine wpAny_bind (wpAny_typeOf hTs ?_)
 rw [if_pos (by decide)]
 refine wpAny_bind (q153 hs pl pu ?_)
 have hno : ¬ ((((sIx items.size 0 lo : Nat) : Int) == 0 && (1 : Int) == 1 && (sIx items.size items.size hi - sIx items.size 0 lo) == items.size) = true) := by
  intro q
  rw [Bool.and_eq_true, Bool.and_eq_true] at q
  have q1 : ((sIx items.size 0 lo : Nat) : Int) = 0 := eq_of_beq q.1.1
  have q2 : sIx items.size items.size hi - sIx items.size 0 lo = items.size := eq_of_beq q.2
  exact hw ⟨by omega, by omega⟩
 show wpAny _ _ (if (((sIx items.size 0 lo : Nat) : Int) == 0 && (1 : Int) == 1 && (sIx items.size items.size hi - sIx items.size 0 lo) == items.size) = true then _ else _) _ _ s
 rw [if_neg hno, pick_gen]
 first
  | exact wpAny_bind (m := Builtin.Tuple.tupleExact _) (wpAny_newObj_type (wpAny_pure ⟨_, rfl, wpAny_pure h⟩) htake)
  | exact wpAny_bind (m := Builtin.Tuple.tupleExact _) (wpAny_newObj_type (wpAny_bind (wpAny_pure (wpAny_pure ⟨_, rfl, wpAny_pure h⟩))) htake)
  | exact wpAny_bind (wpAny_bind (m := Builtin.Tuple.tupleExact _) (wpAny_newObj_type (wpAny_pure (wpAny_pure ⟨_, rfl, wpAny_pure h⟩)) htake))
  | exact wpAny_bind (wpAny_bind (m := Builtin.Tuple.tupleExact _) (wpAny_newObj_type (wpAny_pure ⟨_, rfl, wpAny_pure h⟩) htake))
end
end HT
namespace L2
open PySem PySem.Spec PyProof.Rows
abbrev TO := St -> Hp -> (Option Int -> Hp -> Prop) -> Prop
def PO (X : Cx) (e : Option Expr) (t : TO) : Prop :=
 ∀ (pins : List (Addr × Obj)) (s : Shared) (σ : St) (H : Hp) (Q : Option Int -> Hp -> Prop), Inv X pins σ H s -> t σ H Q ->
  wpAny (model X.prog X.w) X.A (evalPart e X.env) (fun u s' => ∃ o H', Inv X pins σ H' s' /\ IsPart u o /\ Q o H') X.xe s
def tNoPart : TO := fun _ H Q => Q none H
def tPart (t : TE) : TO := fun σ H Q => t σ H fun x H1 => ∃ i, x = .int i /\ Q (some i) H1
theorem q77 {ns : List Int} : ∀ {us : List Value}, Vals (ns.map V.int) us -> IntsAre us ns := by
 induction ns with
 | nil => intro us r; rw [List.map_nil] at r; cases r; exact .nil
 | cons n ns ih =>
  intro us r
  rw [List.map_cons] at r
  cases r with
  | cons r1 r2 =>
   obtain ⟨t, e⟩ := r1
   subst e
   exact .cons n t (ih r2)
section
variable {X : Cx} {e : Expr} {te : TE} {lo hi : Option Expr} {tl th : TO} {pos p2 : Pos}
theorem q52 : PO X none tNoPart := by
 intro pins s σ H Q I h
 rw [evalPart_none]
 exact wpAny_pure ⟨none, H, I, .none, h⟩
theorem q44 (h : PE X e te) : PO X (some e) (tPart te) := by
 intro pins s σ H Q I hw
 rw [evalPart_some]
 refine thn (h pins s σ H _ I hw) fun u s1 ⟨x, H1, I1, r1, q1⟩ => ?_
 obtain ⟨i, rfl, q⟩ := q1
 obtain ⟨t, rfl⟩ := r1
 exact ⟨some i, H1, I1, .int i t, q⟩
def SlR (X : Cx) (r : V -> Option Int -> Option Int -> Hp -> VK -> Prop) : Prop :=
 ∀ (pins : List (Addr × Obj)) (s : Shared) (σ : St) (H : Hp) (x : V) (v vl vu : Value) (lo hi : Option Int) (sl : Addr) (Q : VK), Inv X pins σ H s -> RelV x v -> s.heap.IsSliceOf sl vl vu .none -> IsPart vl lo -> IsPart vu hi -> r x lo hi H Q ->
  ∃ T id, typeLookup (.type T) "__getitem__" = pure (some (.builtin id)) /\ s.TypeIs v T /\ wpAny (model X.prog X.w) X.A (getItem v (.ref sl)) (EP X pins σ Q) X.xe s
def tSl (r : V -> Option Int -> Option Int -> Hp -> VK -> Prop) (te : TE) (tl th : TO) : TE := fun σ H Q => te σ H fun x H1 => tl σ H1 fun l H2 => th σ H2 fun u H3 => r x l u H3 Q
theorem q41 {r : V -> Option Int -> Option Int -> Hp -> VK -> Prop} (hr : SlR X r) (he : PE X e te) (hl : PO X lo tl) (hu : PO X hi th) : PE X (.Subscript e (.Slice lo hi none p2) pos) (tSl r te tl th) := by
 intro pins s σ H Q I h
 refine Subscript_ (thn (he pins s σ H _ I h) fun v s1 ⟨x, H1, I1, r1, q1⟩ => ?_)
 refine wpAny_Slice (thn (hl pins s1 σ H1 _ I1 q1) fun vl s2 ⟨l, H2, I2, pl, q2⟩ => thn (hu pins s2 σ H2 _ I2 q2) fun vu s3 ⟨u, H3, I3, pu, q3⟩ => ?_)
 rw [evalPart_none]
 refine wpAny_pure ?_
 have I4 : Inv X pins σ H3 { s3 with heap := s3.heap.push { cls := .type "slice", data := .fields #[vl, vu, .none] } } := I3.kept (t' := s3.toks) fun b ob q => Heap.get?_push_of_some _ q
 obtain ⟨T, id, hT, ht, hg⟩ := hr pins { s3 with heap := s3.heap.push { cls := .type "slice", data := .fields #[vl, vu, .none] } } σ H3 x v vl vu l u s3.heap.objs.size Q I4 r1 (Heap.IsSliceOf.new ..) pl pu q3
 show wpAny (model X.prog X.w) X.A (subscriptTail e (.Slice lo hi none p2) v (.ref s3.heap.objs.size)) (EP X pins σ Q) X.xe { s3 with heap := s3.heap.push { cls := .type "slice", data := .fields #[vl, vu, .none] } }
 exact tail_any (ops := [.ref s3.heap.objs.size, v]) ht hT hg (by with_unfolding_all rfl)
def cutV (xs : List V) (lo hi : Option Int) : List V := (xs.drop (HT.sIx xs.length 0 lo)).take (HT.sIx xs.length xs.length hi - HT.sIx xs.length 0 lo)
theorem q279 (xs : List V) (lo hi : Option Int) : (cutV xs lo hi).length <= xs.length := by
 unfold cutV
 rw [List.length_take, List.length_drop]
 omega
theorem Vals.nil_iff {xs : List V} {us : List Value} (r : Vals xs us) : us = [] ↔ xs = [] := by
 cases r with
 | nil => simp
 | cons _ _ => simp
end
end L2
namespace L2
open PySem PySem.Spec PyProof.Rows
def ixN (n : Nat) (i : Int) : Option Nat := if 0 <= i then (if i < n then some i.toNat else none) else if -(n : Int) <= i then some (i + n).toNat else none
def atI {α : Type} (xs : List α) (i : Int) : Option α := (ixN xs.length i).bind fun j => xs[j]?
theorem q592 {n : Nat} {i : Int} {j : Nat} (h : ixN n i = some j) : seqIndex? i n = some j /\ j < n /\ -(n : Int) <= i /\ i < n := by
 unfold ixN at h
 by_cases h0 : 0 <= i
 ·rw [if_pos h0] at h
  by_cases h1 : i < n
  ·rw [if_pos h1] at h
   have e : i.toNat = j := Option.some.inj h
   exact ⟨by rw [seqIndex_of h0 h1, e], by omega, by omega, h1⟩
  ·rw [if_neg h1] at h; cases h
 ·rw [if_neg h0] at h
  by_cases h1 : -(n : Int) <= i
  ·rw [if_pos h1] at h
   have e : (i + n).toNat = j := Option.some.inj h
   exact ⟨by rw [seqIndex_neg (by omega) h1, e], by omega, h1, by omega⟩
  ·rw [if_neg h1] at h; cases h
theorem q593 {α : Type} {xs : List α} {i : Int} {v : α} (h : atI xs i = some v) : ∃ j, seqIndex? i xs.length = some j /\ xs[j]? = some v /\ j < xs.length /\ -(xs.length : Int) <= i /\ i < xs.length := by
 unfold atI at h
 cases e : ixN xs.length i with
 | none => rw [e] at h; cases h
 | some j =>
  rw [e] at h
  obtain ⟨h1, h2, h3, h4⟩ := q592 e
  exact ⟨j, h1, h, h2, h3, h4⟩
theorem q69 {α : Type} {xs : List α} {j : Nat} {v : α} (h : xs[j]? = some v) : atI xs (j : Int) = some v := by
 have hj : j < xs.length := (List.getElem?_eq_some_iff.mp h).1
 have e : ixN xs.length (j : Int) = some j := by
  unfold ixN
  rw [if_pos (by omega), if_pos (by omega)]; simp
 unfold atI; rw [e]; exact h
theorem atI_last {α : Type} (xs : List α) (v : α) : atI (xs ++ [v]) (-1) = some v := by
 have hl : (xs ++ [v]).length = xs.length + 1 := by simp
 have e : ixN (xs ++ [v]).length (-1) = some xs.length := by
  unfold ixN
  rw [hl, if_neg (by decide), if_pos (by omega)]
  congr 1
  omega
 unfold atI
 rw [e]
 show (xs ++ [v])[xs.length]? = some v
 simp
def PlainIx (b : Expr) : Prop := ∀ o i, subscripted b false o i = operate [o, i] (getItem o i)
def IxR (X : Cx) (r : R2) : Prop :=
 ∀ (value slice : Expr) (pins : List (Addr × Obj)) (s : Shared) (σ : St) (H : Hp) (x y : V) (v u : Value) (Q : VK), Inv X pins σ H s -> RelV x v -> RelV y u -> r x y H Q ->
  subscripted slice false v u = operate [v, u] (getItem v u) -> wpAny (model X.prog X.w) X.A (subscriptTail value slice v u) (EP X pins σ Q) X.xe s
def MtR (X : Cx) (id : String) (r : V -> List V -> Hp -> VK -> Prop) : Prop :=
 ∀ (pins : List (Addr × Obj)) (s : Shared) (σ : St) (H : Hp) (x : V) (xs : List V) (v : Value) (us : List Value) (Q : VK), Inv X pins σ H s -> RelV x v -> Vals xs us -> r x xs H Q ->
  wpAny (model X.prog X.w) X.A (call (.builtin id) (v :: us)) (EP X pins σ Q) X.xe s
section
variable {X : Cx} {a b : Expr} {ta tb : TE} {pos : Pos}
theorem pe_ix {r : R2} (hr : IxR X r) (ha : PE X a ta) (hb : PE X b tb) (hs : PlainIx b) : PE X (.Subscript a b pos) (tOp r ta tb) := by
 intro pins s σ H Q I h
 exact Subscript_ (binT ha hb I h fun v u s2 x y H2 I2 rx ry q => hr a b pins s2 σ H2 x y v u Q I2 rx ry q (hs _ _))
def rIxL (K : PySem.W.Frag) : R2 := fun x y H Q => ∃ p xs i v, x = .ref p /\ y = .int i /\ SqL K H p xs /\ atI xs i = some v /\ Q v H
def rIxT (K : PySem.W.Frag) : R2 := fun x y H Q => ∃ p xs i v, x = .ref p /\ y = .int i /\ SqT K H p xs /\ atI xs i = some v /\ Q v H
theorem q35 : IxR X (rIxL X.K) := by
 intro value slice pins s σ H x y v u Q I rx ry h hs
 obtain ⟨p, xs, i, z, rfl, rfl, hq, he, q⟩ := h
 cases rx
 obtain ⟨t, rfl⟩ := ry
 obtain ⟨its, r, pl, hz⟩ := I.list hq
 obtain ⟨j, h1, h2, h3, h4, h5⟩ := q593 he
 obtain ⟨w, ew, rw'⟩ := r.get h2
 have hl := r.length
 have hn := q497
 have fin : EP X pins σ Q w s := ⟨z, H, I, rw', q⟩
 by_cases h0 : 0 <= i
 ·have hj : i.toNat = j := by
   rw [seqIndex_of h0 h5] at h1
   exact Option.some.inj h1
  exact item_listR pl.isList h0 (by omega) (by rw [hj]; simpa using ew) fin hs
 ·have hj : (i + (its.toArray.size : Int)).toNat = j := by
   rw [seqIndex_neg (by omega) h4] at h1
   rw [List.size_toArray, <- hl]
   exact Option.some.inj h1
  exact subscriptTail_builtinR (x := w) pl.isList.typeIs slot_list_getitem.lookup
   (wpAny_getItem_list_neg (Q := fun r s' => r = w /\ EP X pins σ Q r s') pl.isList (by omega) (by rw [List.size_toArray] <;> omega) (by omega) (by rw [hj]; simpa using ew) ⟨rfl, fin⟩) hs
theorem q22 : IxR X (rIxT X.K) := by
 intro value slice pins s σ H x y v u Q I rx ry h hs
 obtain ⟨p, xs, i, z, rfl, rfl, hq, he, q⟩ := h
 cases rx
 obtain ⟨t, rfl⟩ := ry
 obtain ⟨its, r, pl, hz⟩ := I.tuple hq
 obtain ⟨j, h1, h2, h3, h4, h5⟩ := q593 he
 obtain ⟨w, ew, rw'⟩ := r.get h2
 have hl := r.length
 have hn := q497
 have fin : EP X pins σ Q w s := ⟨z, H, I, rw', q⟩
 exact subscriptTail_builtinR (x := w) pl.typeIs slot_tuple_getitem.lookup
  (getItem_tuple (j := j) (Q := fun r s' => r = w /\ EP X pins σ Q r s') pl (by omega) (by omega) (by rw [List.size_toArray, <- hl]; exact h1) (by simpa using ew) ⟨rfl, fin⟩) hs
theorem q534 (its : List Value) (n j : Nat) (u : Value) : Obj.mapSeq (·.setIfInBounds j u) { cls := .type "list", data := .seq its.toArray n } = { cls := .type "list", data := .seq (its.set j u).toArray n } := by
 simp [Obj.mapSeq]
theorem Inv.lst {pins : List (Addr × Obj)} {σ : St} {H : Hp} {s : Shared} {p : Addr} {xs : List V} (I : Inv X pins σ H s) (h : H p = some (.lst xs)) :
  ∃ (its : List Value) (n : Nat), Vals xs its /\ s.heap.get? p = some { cls := .type "list", data := .seq its.toArray n } /\ xs.length <= sizeLine := by
 obtain ⟨z, its, n, r, e⟩ := I.hok p _ h
 exact ⟨its, n, r, e, z⟩
theorem Inv.lstUpd {pins : List (Addr × Obj)} {σ : St} {H : Hp} {s : Shared} {p : Addr} {xs ys : List V} {its its' : List Value} {n n' : Nat} {f : Obj -> Obj} (I : Inv X pins σ H s) (h : H p = some (.lst xs))
  (ho : s.heap.get? p = some { cls := .type "list", data := .seq its.toArray n }) (hf : f { cls := .type "list", data := .seq its.toArray n } = { cls := .type "list", data := .seq its'.toArray n' }) (r : Vals ys its') (hz : ys.length <= sizeLine) (t : Nat) :
  Inv X pins σ (upd H p (.lst ys)) { s with heap := s.heap.update p f, toks := t } := by
 have e : (s.heap.update p f).get? p = some { cls := .type "list", data := .seq its'.toArray n' } := by
  rw [Heap.get?_update_self f ho (by rw [hf] <;> rfl), hf]
 refine I.write (x := p) (e := p) (by rw [h]; trivial) (.inl rfl) (fun b u hb q => (Heap.get?_update_other _ _ (Ne.symm hb)).trans q) ⟨_, e⟩ ?_
 exact ⟨hz, its', n', r, e⟩
def rSetL : V -> V -> V -> Hp -> (Hp -> Prop) -> Prop := fun o i v H Q => ∃ p xs k j, o = .ref p /\ i = .int k /\ H p = some (.lst xs) /\ ixN xs.length k = some j /\ Q (upd H p (.lst (xs.set j v)))
theorem q363 : PSet X rSetL := by
 intro pins s σ H o i v ov iv u Q I ro ri rv h
 obtain ⟨p, xs, k, j, rfl, rfl, hp, hj, q⟩ := h
 cases ro
 obtain ⟨t, rfl⟩ := ri
 obtain ⟨its, n, r, ho, hz⟩ := I.lst hp
 obtain ⟨h1, h2, h3, h4⟩ := q592 hj
 have hl := r.length
 have hn := q497
 have I' : Inv X pins σ (upd H p (.lst (xs.set j v))) { s with heap := s.heap.update p (Obj.mapSeq (·.setIfInBounds j u)) } :=
  I.lstUpd hp ho (q534 its n j u) (r.set rv j) (by rw [List.length_set]; exact hz) s.toks
 by_cases h0 : 0 <= k
 ·have hk : k.toNat = j := by
   rw [seqIndex_of h0 h4] at h1
   exact Option.some.inj h1
  exact PySem.W.ki_setAt ho h0 (by omega) (by rw [List.size_toArray, <- hl]; exact h4) (by rw [hk]; exact ⟨_, I', q⟩)
 ·have hk : (k + (its.toArray.size : Int)).toNat = j := by
   rw [seqIndex_neg (by omega) h3] at h1
   rw [List.size_toArray, <- hl]
   exact Option.some.inj h1
  exact PySem.W.ki_setBack ho (by omega) (by rw [List.size_toArray, <- hl]; exact h3) (by omega) (by rw [hk]; exact ⟨_, I', q⟩)
theorem q406 (lo hi : Option Int) (n : Nat) : (sliceBounds lo hi none n).1 = ((HT.sIx n 0 lo : Nat) : Int) /\ (sliceBounds lo hi none n).2.1 = ((HT.sIx n n hi : Nat) : Int) /\ (sliceBounds lo hi none n).2.2 = 1 := by
 refine ⟨?_, ?_, rfl⟩
 ·cases lo with
  | none => simp [sliceBounds, HT.sIx]
  | some i =>
   simp only [sliceBounds, HT.sIx, Option.getD_none, show (1 : Int) > 0 by decide, if_true]
   by_cases h : i < 0
   ·simp only [h, if_true] <;> omega
   ·simp only [h, if_false] <;> omega
 ·cases hi with
  | none => simp [sliceBounds, HT.sIx]
  | some i =>
   simp only [sliceBounds, HT.sIx, Option.getD_none, show (1 : Int) > 0 by decide, if_true]
   by_cases h : i < 0
   ·simp only [h, if_true] <;> omega
   ·simp only [h, if_false] <;> omega
theorem q364 (its : List Value) (lo hi : Option Int) : slicePick its.toArray lo hi none = ((its.drop (HT.sIx its.length 0 lo)).take (HT.sIx its.length its.length hi - HT.sIx its.length 0 lo)).toArray := by
 obtain ⟨h1, h2, h3⟩ := q406 lo hi its.toArray.size
 unfold slicePick
 rw [h1, h2, h3]
 simp only [sliceRange_one, pick_run, List.size_toArray] <;> rfl
def rSlL (K : PySem.W.Frag) : V -> Option Int -> Option Int -> Hp -> VK -> Prop := fun x lo hi H Q => ∃ a xs, x = .ref a /\ SqL K H a xs /\ ∀ p, H p = none -> Q (.ref p) (upd H p (.lst (cutV xs lo hi)))
theorem q117 : SlR X (rSlL X.K) := by
 intro pins s σ H x v vl vu lo hi sl Q I rx hs pl pu h
 obtain ⟨a, xs, rfl, hx, q⟩ := h
 cases rx
 obtain ⟨its, r, ht, hz⟩ := I.list hx
 have hlen := r.length
 refine ⟨"list", _, slot_list_getitem.lookup, ht.isList.typeIs, ?_⟩
 refine wpAny_getItem_list_slice ht.isList hs pl pu .none (by simp) ?_ (by rw [List.size_toArray] <;> omega)
 rw [q364, <- hlen]
 refine ⟨.ref s.heap.objs.size, _, I.laid (t' := s.toks) (o := .lst (cutV xs lo hi)) (fun b ob q => Heap.get?_push_of_some _ q) (Nat.le_refl _) ?_, rfl, q _ (I.hok.fresh (Nat.le_refl _))⟩
 exact ⟨Nat.le_trans (q279 xs lo hi) hz, _, 0, (r.drop (HT.sIx xs.length 0 lo)).take (HT.sIx xs.length xs.length hi - HT.sIx xs.length 0 lo), Heap.get?_push_size _ rfl⟩
def flatV : V -> Bool
 | .non => true
 | .bl _ => true
 | .int _ => true
 | .str _ => true
 | _ => false
def eqV : V -> V -> Bool
 | .non, .non => true
 | .bl a, .bl b => a == b
 | .bl a, .int b => (if a then 1 else 0) == b
 | .int a, .bl b => a == (if b then 1 else 0)
 | .int a, .int b => a == b
 | .str a, .str b => a == b
 | _, _ => false
theorem eqAt_V {A : Around} {s : Shared} {y x : V} {u v : Value} (ry : RelV y u) (rx : RelV x v) (fy : flatV y = true) (fx : flatV x = true) : SeqAt.EqAt A s u v (eqV y x) := by
 cases y with
 | non =>
  cases ry
  cases x with
  | non => cases rx; exact SeqAt.EqAt.same _
  | bl b => cases rx; exact SeqAt.EqAt.none_bool b
  | int b => obtain ⟨t, rfl⟩ := rx; exact SeqAt.EqAt.none_int b t
  | str b => obtain ⟨t, rfl⟩ := rx; exact SeqAt.EqAt.none_str b t
  | _ => exact absurd (show false = true from fx) fnt
 | bl a =>
  cases ry
  cases x with
  | non => cases rx; exact SeqAt.EqAt.bool_none a
  | bl b => cases rx; exact SeqAt.EqAt.bool_bool a b
  | int b => obtain ⟨t, rfl⟩ := rx; exact SeqAt.EqAt.bool_int a b t
  | str b => obtain ⟨t, rfl⟩ := rx; exact SeqAt.EqAt.bool_str a b t
  | _ => exact absurd (show false = true from fx) fnt
 | int a =>
  obtain ⟨t', rfl⟩ := ry
  cases x with
  | non => cases rx; exact SeqAt.EqAt.int_none a t'
  | bl b => cases rx; exact SeqAt.EqAt.int_bool a t' b
  | int b => obtain ⟨t, rfl⟩ := rx; exact SeqAt.EqAt.int_int a t' b t
  | str b => obtain ⟨t, rfl⟩ := rx; exact SeqAt.EqAt.int_str a t' b t
  | _ => exact absurd (show false = true from fx) fnt
 | str a =>
  obtain ⟨t', rfl⟩ := ry
  cases x with
  | non => cases rx; exact SeqAt.EqAt.str_none a t'
  | bl b => cases rx; exact SeqAt.EqAt.str_bool a t' b
  | int b => obtain ⟨t, rfl⟩ := rx; exact SeqAt.EqAt.str_int a t' b t
  | str b => obtain ⟨t, rfl⟩ := rx; exact SeqAt.EqAt.str_str a t' b t
  | _ => exact absurd (show false = true from fx) fnt
 | _ => exact absurd (show false = true from fy) fnt
def eqU (x : V) (u : Value) : Bool := match u with
 | .none => eqV .non x
 | .bool b => eqV (.bl b) x
 | .int i _ => eqV (.int i) x
 | .str z _ => eqV (.str z) x
 | _ => false
theorem q594 {x y : V} {u : Value} (r : RelV y u) (f : flatV y = true) : eqU x u = eqV y x := by
 cases y with
 | non => cases r; rfl
 | bl b => cases r; rfl
 | int i => obtain ⟨t, rfl⟩ := r; rfl
 | str z => obtain ⟨t, rfl⟩ := r; rfl
 | _ => exact absurd (show false = true from f) fnt
theorem q267 {A : Around} {s : Shared} {x : V} {v : Value} (rx : RelV x v) (fx : flatV x = true) : ∀ {xs : List V} {us : List Value}, Vals xs us -> xs.all flatV = true -> ∀ u ∈ us, SeqAt.EqAt A s u v (eqU x u)
 | _, _, .nil, _ => fun u hu => by cases hu
 | y :: xs, u :: us, .cons r t, f => fun u' hu => by
  rw [List.all_cons, Bool.and_eq_true] at f
  rcases List.mem_cons.mp hu with rfl | hu
  ·rw [q594 r f.1]; exact eqAt_V r rx f.1 fx
  ·exact q267 rx fx t f.2 u' hu
theorem q24 : CallR X (.builtin "len") (fun xs H Q => ∃ p ys, xs = [.ref p] /\ (SqL X.K H p ys \/ SqT X.K H p ys) /\ Q (.int ys.length) H) := by
 intro pins s σ H xs us Q I r h
 obtain ⟨p, ys, rfl, hq, q⟩ := h
 obtain ⟨u, rfl, rx⟩ := vals1 r
 cases rx
 have hn := q497
 rcases hq with hq | hq
 ·obtain ⟨its, r', pl, hz⟩ := I.list hq
  have hlen := r'.length
  exact Calls.call_len_list pl.isList (by simp only [List.size_toArray] <;> omega) ⟨.int ys.length, H, I.tok _, ⟨s.toks + 1, by rw [List.size_toArray, hlen]⟩, q⟩
 ·obtain ⟨its, r', pl, hz⟩ := I.tuple hq
  have hlen := r'.length
  exact len_tuple pl (by simp only [List.size_toArray] <;> omega) ⟨.int ys.length, H, I.tok _, ⟨s.toks + 1, by rw [List.size_toArray, hlen]⟩, q⟩
def tyV (K : PySem.W.Frag) (T : String) (x : V) (H : Hp) : Prop := match x with
 | .str _ => T = "str"
 | .int _ => T = "int"
 | .ref p => (T = "list" /\ ∃ xs, SqL K H p xs) \/ (T = "tuple" /\ ∃ o, K.lookup p = some o /\ o.cls = .type "tuple" /\ o.dict = none) \/
   (T = "dict" /\ ((∃ kvs, H p = some (.dK kvs)) \/ ∃ kvs, H p = some (.dT kvs))) \/ (T = "set" /\ ∃ S n, H p = some (.set S n))
 | _ => False
theorem tyV_is {pins : List (Addr × Obj)} {σ : St} {H : Hp} {s : Shared} {T : String} {x : V} {v : Value} (I : Inv X pins σ H s) (r : RelV x v) (ty : tyV X.K T x H) :
  s.TypeIs v T /\ ∀ a, v = .ref a -> ∃ ob, s.heap.get? a = some ob /\ ob.dict = none := by
 cases x with
 | str z =>
  obtain ⟨t, rfl⟩ := r
  cases (show T = "str" from ty)
  exact ⟨typeIs_str s z t, fun _ e => nomatch e⟩
 | int i =>
  obtain ⟨t, rfl⟩ := r
  cases (show T = "int" from ty)
  exact ⟨typeIs_int s i t, fun _ e => nomatch e⟩
 | ref p =>
  cases r
  rcases ty with ⟨rfl, xs, hq⟩ | ⟨rfl, o, hk, hc, hd⟩ | ⟨rfl, hk⟩ | ⟨rfl, S, n, hk⟩
  ·obtain ⟨its, _, pl, _⟩ := I.list hq
   refine ⟨pl.isList.typeIs, fun a e => ?_⟩
   cases e
   obtain ⟨o, n, e, c, hd, _⟩ := pl
   exact ⟨o, e, hd⟩
  ·refine ⟨⟨o, I.kIn p o hk, hc⟩, fun a e => ?_⟩
   cases e
   exact ⟨o, I.kIn _ o hk, hd⟩
  ·have z : ∃ o, s.heap.get? p = some o /\ o.ExactDict := by
    rcases hk with ⟨kvs, hk⟩ | ⟨kvs, hk⟩
    ·obtain ⟨_, _, _, _, o, _, _, e, ex, _⟩ := I.hok p _ hk
     exact ⟨o, e, ex⟩
    ·obtain ⟨_, _, _, _, o, _, _, e, ex, _⟩ := I.hok p _ hk
     exact ⟨o, e, ex⟩
   obtain ⟨o, e, ex⟩ := z
   refine ⟨⟨o, e, ex.1⟩, fun a e2 => ?_⟩
   cases e2
   exact ⟨o, e, ex.2.1⟩
  ·obtain ⟨o, _, _, _, e, ex, _⟩ := I.hok p _ hk
   refine ⟨⟨o, e, ex.1⟩, fun a e2 => ?_⟩
   cases e2
   exact ⟨o, e, ex.2.1⟩
 | _ => exact False.elim ty
def tBM (K : PySem.W.Frag) (T : String) (r : V -> List V -> Hp -> VK -> Prop) (to : TE) (t : TA) : TE := fun σ H Q => to σ H fun x H1 => tyV K T x H1 /\ t σ H1 fun xs H2 => r x xs H2 Q
variable {o e : Expr} {es : List Expr} {to : TE} {t : TA} {name : Str} {apos cpos : Pos} {T id : String} {r : V -> List V -> Hp -> VK -> Prop}
theorem pe_bm (pa : PlainAttrs T) (slot : Slot T name id) (hty : typeOf (.builtin id) = pure (.type "method_descriptor")) (hm : MtR X id r) (ho : PE X o to) (ha : PA X (e :: es) t)
  (hbase : attributeBase o name X.env (eval o X.env) = eval o X.env := by rfl)
  (hfew : ((backTo cpos (starEach (e :: es) X.env)).all (fun x => !x.1) && (backToKw cpos (keywordEach [] X.env)).all (fun x => x.1.isSome)
   && decide ((e :: es).length + ([] : List Keyword).length + (if ([] : List Keyword).isEmpty then 0 else 1) < 30)) = true := by rfl)
  (hline : (apos.endLine == cpos.line) = true := by rfl) (hs : starEach (e :: es) X.env = (false, eval e X.env) :: starEach es X.env := by rfl) (hplain : (backTo cpos (starEach es X.env)).any (·.1) = false := by rfl) :
  PE X (.Call (.Attribute o name apos) (e :: es) [] cpos) (tBM X.K T r to t) := by
 intro pins s σ H Q I h
 refine wpAny_Call_method_late hbase hfew hline rfl (thn (ho pins s σ H _ I h) fun v s1 ⟨x, H1, I1, r1, ty, q1⟩ => ?_)
 obtain ⟨h1, h2⟩ := tyV_is I1 r1 ty
 refine ⟨T, id, pa, slot, hty, h1, h2, ?_⟩
 have hA := ha cpos pins s1 σ H1 _ I1 q1
 rw [hs] at hA ⊢
 refine Calls.callWith_builtin (by show (false || (backTo cpos (starEach es X.env)).any (·.1)) = false; rw [hplain] <;> rfl) (Calls.evalArgs_plain ?_)
 exact thn hA fun us s2 ⟨vs, H2, I2, r2, q2⟩ => hm pins s2 σ H2 x vs v us Q I2 r1 r2 q2
/- xs.append(e), list.index on a module's tuple .. are MtR facts of 06m -/
end
end L2
namespace L2
open PySem PySem.Spec PyProof.Rows
def MtM (X : Cx) (id : String) (r : V -> List V -> Hp -> VK -> Prop) : Prop :=
 ∀ (pins : List (Addr × Obj)) (s : Shared) (σ : St) (H : Hp) (x : V) (xs : List V) (v : Value) (us : List Value) (Q : VK), Inv X pins σ H s -> RelV x v -> Vals xs us -> r x xs H Q ->
  wpAny (model X.prog X.w) X.A (call (.builtin id) (v :: us)) (EP X pins σ Q) X.xe s
theorem Vals.one : ∀ {x : V} {us : List Value}, Vals [x] us -> ∃ u, us = [u] /\ RelV x u
 | _, _, .cons r .nil => ⟨_, rfl, r⟩
theorem Vals.reverse {xs : List V} {us : List Value} (h : Vals xs us) : Vals xs.reverse us.reverse := by
 induction h with
 | nil => exact .nil
 | cons r t ih => rw [List.reverse_cons, List.reverse_cons]; exact Vals.append ih (.cons r .nil)
theorem Vals.rep {xs : List V} {us : List Value} (h : Vals xs us) : ∀ k : Nat, Vals (List.replicate k xs).flatten (List.replicate k us).flatten
 | 0 => .nil
 | k + 1 => by
  rw [List.replicate_succ, List.replicate_succ, List.flatten_cons, List.flatten_cons]
  exact Vals.append h (Vals.rep h k)
theorem q407 (its : List Value) : ∀ (k : Nat) (acc : List Value),
  List.foldl (fun x1 x2 => x1 ++ x2) acc.toArray (List.replicate k its.toArray) = (acc ++ (List.replicate k its).flatten).toArray
 | 0, acc => by simp
 | k + 1, acc => by
  have e : acc.toArray ++ its.toArray = (acc ++ its).toArray := by simp
  have e2 : (acc ++ its) ++ (List.replicate k its).flatten = acc ++ (List.replicate (k + 1) its).flatten := by
   rw [List.replicate_succ, List.flatten_cons, List.append_assoc]
  rw [<- e2, <- q407 its k (acc ++ its), <- e, List.replicate_succ, List.foldl_cons]
section
variable {X : Cx} {pins : List (Addr × Obj)} {σ : St} {H : Hp} {s : Shared} {l b : Addr} {xs ys zs : List V}
theorem Inv.lset {its its' : List Value} {n : Nat} {f : Array Value -> Array Value} {t' : Nat} (I : Inv X pins σ H s) (hH : H l = some (.lst xs))
  (e : s.heap.get? l = some { cls := .type "list", data := .seq its.toArray n }) (hf : f its.toArray = its'.toArray) (hv : Vals ys its') (hz : ys.length <= sizeLine) :
  Inv X pins σ (upd H l (.lst ys)) { s with heap := s.heap.update l (Obj.mapSeq f), toks := t' } := by
 have q := PySem.IsL.update e f
 rw [hf] at q
 refine I.write (x := l) (e := l) (by rw [hH]; exact trivial) (.inl rfl) (fun b' u hb hu => (Heap.get?_update_other s.heap (Obj.mapSeq f) (Ne.symm hb)).trans hu) ⟨_, q⟩ ?_
 exact ⟨hz, its', _, hv, q⟩
theorem Inv.lnew {its : List Value} {t' : Nat} (I : Inv X pins σ H s) (hv : Vals ys its) (hz : ys.length <= sizeLine) :
  Inv X pins σ (upd H s.heap.objs.size (.lst ys)) { s with heap := s.heap.push { cls := .type "list", data := .seq its.toArray }, toks := t' } :=
 I.laid (fun _ _ q => Heap.get?_push_of_some _ q) (Nat.le_refl _) ⟨hz, its, 0, hv, Heap.get?_push_size _ rfl⟩
theorem Inv.fresh (I : Inv X pins σ H s) : H s.heap.objs.size = none := I.hok.fresh (Nat.le_refl _)
theorem Inv.lstM (I : Inv X pins σ H s) (hH : H l = some (.lst xs)) : xs.length <= sizeLine /\ ∃ (its : List Value) (n : Nat), Vals xs its /\ xs.length = its.length /\ s.heap.get? l = some { cls := .type "list", data := .seq its.toArray n } := by
 obtain ⟨z, its, n, r, e⟩ := I.hok l _ hH
 exact ⟨z, its, n, r, r.length, e⟩
theorem q499 {n : Nat} (h : n <= sizeLine) : Builtin.List.listTooLong n = false := by
 unfold Builtin.List.listTooLong
 exact decide_eq_false (by omega)
end
section
variable {X : Cx}
def rAppend : V -> List V -> Hp -> VK -> Prop := fun x vs H Q => ∃ l xs y, x = .ref l /\ vs = [y] /\ H l = some (.lst xs) /\ xs.length < sizeLine /\ Q .non (upd H l (.lst (xs ++ [y])))
theorem q86 : MtM X "list.append" rAppend := by
 intro pins s σ H x vs v us Q I rx rv h
 obtain ⟨l, xs, y, rfl, rfl, hH, hz, q⟩ := h
 cases rx
 obtain ⟨u, rfl, ru⟩ := rv.one
 obtain ⟨z, its, n, r, hl, e⟩ := I.lstM hH
 refine call_meets F.slot_list_append ⟨_, e, rfl⟩ F.entry_list_append (F.args_list_append_2 _ _) (PySem.list_append l its.toArray n u (by rw [List.size_toArray]; omega)) ⟨e, ?_⟩
 refine ⟨.non, _, I.lset (its' := its ++ [u]) hH e (by simp) (r.append (.cons ru .nil)) ?_, rfl, q⟩
 rw [List.length_append, List.length_singleton]
 omega
def rExtend : V -> List V -> Hp -> VK -> Prop := fun x vs H Q => ∃ l b xs zs, x = .ref l /\ vs = [.ref b] /\ H l = some (.lst xs) /\ H b = some (.lst zs) /\ xs.length + zs.length <= sizeLine /\ Q .non (upd H l (.lst (xs ++ zs)))
theorem q595 : MtM X "list.extend" rExtend := by
 intro pins s σ H x vs v us Q I rx rv h
 obtain ⟨l, b, xs, zs, rfl, rfl, hH, hB, hz, q⟩ := h
 cases rx
 obtain ⟨u, rfl, ru⟩ := rv.one
 cases ru
 obtain ⟨z, its, n, r, hl, e⟩ := I.lstM hH
 obtain ⟨z2, its2, n2, r2, hl2, e2⟩ := I.lstM hB
 have hsz : its.toArray.size + its2.toArray.size <= sizeLine := by rw [List.size_toArray, List.size_toArray]; omega
 have hlong : ¬ (!its.toArray.isEmpty && Builtin.List.listTooLong (its.toArray.size + its2.toArray.size)) = true := by
  rw [q499 hsz, Bool.and_false]
  exact fnt
 refine call_meets F.slot_list_extend ⟨_, e, rfl⟩ F.entry_list_extend (F.args_list_extend_2 _ _)
  (AutoSeq1.list_extend_list_list_0 l its.toArray n b its2.toArray n2 hlong (by rw [List.size_toArray]; omega) (by omega)) ⟨e, e2, ?_⟩
 refine ⟨.non, _, I.lset (its' := its ++ its2) hH e (by simp) (r.append r2) ?_, rfl, q⟩
 rw [List.length_append]
 omega
def rCat : R2 := fun x y H Q => ∃ l b xs zs, x = .ref l /\ y = .ref b /\ H l = some (.lst xs) /\ H b = some (.lst zs) /\ xs.length + zs.length <= sizeLine /\ ∀ p, H p = none -> Q (.ref p) (upd H p (.lst (xs ++ zs)))
theorem q260 : OpR X (binaryOp .Add) rCat := by
 intro pins s σ H x y v u Q I rx ry h
 obtain ⟨l, b, xs, zs, rfl, rfl, hH, hB, hz, q⟩ := h
 cases rx
 cases ry
 obtain ⟨z, its, n, r, hl, e⟩ := I.lstM hH
 obtain ⟨z2, its2, n2, r2, hl2, e2⟩ := I.lstM hB
 refine PySem.P.add_list e e2 ?_ (by rw [List.size_toArray, List.size_toArray]; omega)
 have ea : its.toArray ++ its2.toArray = (its ++ its2).toArray := by simp
 rw [ea]
 exact ⟨.ref _, _, I.lnew (t' := s.toks) (r.append r2) (by rw [List.length_append]; omega), rfl, q _ I.fresh⟩
def rRep : R2 := fun x y H Q => ∃ l k xs, x = .ref l /\ y = .int k /\ H l = some (.lst xs) /\ -(2 ^ 63) <= k /\ k < 2 ^ 63 /\ xs.length * k.toNat <= sizeLine /\
 ∀ p, H p = none -> Q (.ref p) (upd H p (.lst (List.replicate k.toNat xs).flatten))
theorem len_rep {α : Type} (xs : List α) (k : Nat) : (List.replicate k xs).flatten.length = k * xs.length := by
 induction k with
 | zero => simp
 | succ k ih => rw [List.replicate_succ, List.flatten_cons, List.length_append, ih, Nat.succ_mul, Nat.add_comm]
theorem op_rep : OpR X (binaryOp .Mult) rRep := by
 intro pins s σ H x y v u Q I rx ry h
 obtain ⟨l, k, xs, rfl, rfl, hH, h1, h2, hz, q⟩ := h
 cases rx
 obtain ⟨t, rfl⟩ := ry
 obtain ⟨z, its, n, r, hl, e⟩ := I.lstM hH
 have hlen : its.toArray.size * k.toNat <= sizeLine := by rw [List.size_toArray, <- hl]; exact hz
 have hcap : ¬ its.toArray.size * k.toNat > (2 ^ 63 - 1) / 8 := by
  have : (sizeLine : Nat) <= (2 ^ 63 - 1) / 8 := by decide
  omega
 have hfit : ¬ (!Builtin.List.listFitsIndex k) = true := by
  rw [fitsIndex_both h1 h2]
  exact fnt
 have hlong : ¬ Builtin.List.listTooLong (its.toArray.size * k.toNat) = true := by
  rw [q499 hlen]
  exact fnt
 have hnew : List.foldl (fun x1 x2 => x1 ++ x2) #[] (List.replicate (if its.toArray.isEmpty = true then 0 else k.toNat) its.toArray) = (List.replicate k.toNat its).flatten.toArray := by
  have f0 : ∀ m : Nat, List.foldl (fun x1 x2 => x1 ++ x2) #[] (List.replicate m its.toArray) = (List.replicate m its).flatten.toArray := fun m => by
   have := q407 its m []
   rw [List.nil_append] at this
   exact this
  rw [f0]
  cases its with
  | nil => simp
  | cons a r' => rw [if_neg (by simp)]
 refine wpAny_binaryOp_repeat_ref (T := "list") (U := "int") (by decide) ⟨_, e, rfl⟩ (fun s' => typeIs_int s' k t) noFill_list_mul F.fills_int_mul F.slot_int_rmul repeat_list F.slot_int_index.lookup
  (call_meets F.slot_int_rmul (typeIs_int s k t) F.entry_int_rmul (F.args_int_rmul_2 _ _) (int___rmul___int_list k t l its.toArray n)
   ⟨e, rfl, ⟨_, e, rfl⟩, call_meets F.slot_list_mul ⟨_, e, rfl⟩ F.entry_list_mul (F.args_list_mul_2 _ _) (AutoListH.list___mul___list_int_3 l its.toArray n k t hfit hcap hlong) ⟨e, ?_⟩⟩)
 rw [hnew]
 exact ⟨.ref _, _, I.lnew (t' := s.toks) (r.rep k.toNat) (by rw [len_rep, Nat.mul_comm]; exact hz), rfl, q _ I.fresh⟩
end
section
variable {prog : Program} {w : World} {A : Around} {E : Value -> Shared -> Prop} {s : Shared}
set_option maxRecDepth 100000 in
end
section
variable {X : Cx}
end
end L2
namespace Att
open PySem PySem.W PySem.Calls PyProof.Rows
theorem q280 {P : Params} {h : Heap} : ∀ (ns : List Int) (vs : List Value), WellAll P h vs (ns.map WData.int) -> IntsAre vs ns := by
 intro ns
 induction ns with
 | nil =>
  intro vs w
  rw [List.map_nil] at w
  cases w
  exact .nil
 | cons n ns ih =>
  intro vs w
  rw [List.map_cons] at w
  cases w with
  | cons a b =>
   cases a
   exact .cons _ _ (ih _ b)
theorem q596 {l : OpenLaw} {n : Nat} (hn : l.most = some n) {P : Params} {h : Heap} {args : List WData} {vals : List Value}
  (hpre : l.row.toRowW.claim.pre args = true) (hwl : WellAll P h vals args) :
  ∃ a vs ns, vals = [Value.ref a] /\ args = [WData.list (ns.map WData.int)] /\ h.get? a = some { cls := .type "list", data := .seq vs.toArray } /\ IntsAre vs ns /\ ns.length <= n := by
 have hsh : WShape.hasAll [] args [.list .int] = true := (pre_splitW hpre).1
 have hc : l.pre.holds [] { args := args } = true := (pre_splitW hpre).2
 obtain ⟨d, r, rfl, h1, h2⟩ := hasAllW_cons hsh
 obtain rfl := hasAllW_nil h2
 obtain ⟨xs, rfl, h3⟩ := hasW_list h1
 obtain ⟨ns, rfl⟩ := items_int h3
 have hlen : ns.length <= n := by
  unfold OpenLaw.pre at hc
  have h4 : (WTm.not (.lt (.lit (.int (n : Int))) (.len (.arg 0)))).holds [] { args := [.list (ns.map .int)] } = true := by
   have h4 := (holds_andW hc).1
   rw [hn] at h4
   exact h4
  have h5 := condW_of h4 (w_not (w_lt w_lit (w_len_list (w_arg rfl))))
  rw [List.length_map] at h5
  refine Nat.le_of_not_lt fun q => ?_
  have q' : (n : Int) < ((ns.length : Nat) : Int) := by omega
  first
   | (rw [decide_eq_true q'] at h5; exact absurd h5 (by decide))
   | (simp at h5; omega)
 cases hwl with
 | cons w1 w2 =>
  cases w2
  cases w1 with
  | list ho hall => exact ⟨_, _, ns, rfl, rfl, ho, q280 ns _ hall, hlen⟩
theorem q597 (l : OpenLaw) (args : List WData) : l.row.toRowW.claim.post args (.bool true) args = true :=
 postW_of (r := l.row.toRowW) (X := (true == true))
  (show WShape.has [] (.bool true) .bool = true by first | rfl | decide | simp [WShape.has, WShape.arms, WShape.armsAll])
  (show (WTm.eq .res (.lit (.bool true))).value [] { args := args, res := some (.bool true), after := args } = some (.bool (true == true)) from w_eq_bool (w_res rfl) w_lit) rfl
theorem q679 {l : OpenLaw} {n : Nat} {q : Program} {loose : List Str} {XP : (Str -> Option Value) -> Heap -> Prop} {YP : World -> Heap -> Prop} {d : DefRec}
  (hn : l.most = some n) (hdf : d.params.defaults = [])
  (call : ∀ (w : World) (s₀ s₁ : Shared) (mg mb : Str -> Option Value) (fa : Addr) (o : Obj) (pm cd doc : Value) (a : Addr) (vs : List Value) (ns : List Int),
   Ground q loose [] XP w s₀ mg mb s₁.heap -> YP w s₁.heap ->
   s₁.heap.get? fa = some o -> o.data = .func (docDef d.name d.params d.body d.scope pm cd doc) -> s₁.heap.CodeRec cd d.name -> mg d.name = some (.ref fa) ->
   s₁.heap.get? a = some { cls := .type "list", data := .seq vs.toArray } -> IntsAre vs ns -> ns.length <= n -> s₁.gens = #[] ->
   codeAny (model l.prog w) callerA (.call (.ref fa) ⟨[.ref a], []⟩) (fun r s' => r = .ok (.ret (.bool true)) /\ OldK s₁.heap s'.heap /\ s'.os = s₁.os /\ AllBare s'.gens) s₁) :
  WalkO q loose XP YP l.row.toRowW d [] (fun f vs => PySem.call f vs) := by
 intro w s₀ s₁ mg mb G Y fa o pm cd doc dV kV ho hd hcd hD hmg hg args vals as hpre hlay hrd hwl hlo
 obtain rfl : dV = .none := Dflts.none hD hdf
 obtain rfl : kV = .none := Dflts.noKw hD
 obtain ⟨a, vs, ns, rfl, rfl, hobj, hints, hlen⟩ := q596 hn hpre hwl
 refine enter_call (codeAny_mono (call w s₀ s₁ mg mb fa o pm cd doc a vs ns G Y ho (fd_plain hd) hcd hmg hobj hints hlen hg) fun r s' hq => ?_)
 obtain ⟨rfl, h2, h3, h4⟩ := hq
 exact ⟨.inl ⟨.bool true, .bool true, [], rfl, fun _ => rfl, .bool true, q597 l _, fun _ => ⟨List.Pairwise.nil, fun _ hm => (nomatch hm)⟩⟩, h2, h3, h4⟩
section
variable {prog : Program} {w : World} {A : Around} {E : Value -> Shared -> Prop} {s : Shared} {K : Frag}
end
end Att
namespace L2
open PySem PySem.Spec PyProof.Rows
theorem q281 : ∀ {vs : List Value} {ns : List Int}, IntsAre vs ns -> Vals (ns.map V.int) vs
 | _, _, .nil => .nil
 | _, _, .cons n t h => .cons ⟨t, rfl⟩ (q281 h)
def Only (H : Hp) : Prop := ∀ b, H b = none \/ ∃ o xs, H b = some (.frz o (.lst xs))
theorem law_call {P : Program} {w : World} {K : PySem.W.Frag} {mg mb : Str -> Option Value} {CX : CXT} {k : Nat} {fa a : Addr} {fd : FuncData} {x : Str} {sp : Sp} {s₁ : Shared} {vs : List Value} {ns : List Int}
  (KX : K.In s₁.heap) (hns : s₁.heap.Ns mainGlobals mg) (hb : s₁.heap.Ns builtinsNs mb) (hbb : ∀ x : Str, x ≠ "__name__" -> mb x = bootBuiltins x) (hlim : s₁.heap.NoLimit) (hg : s₁.gens = #[])
  (ha : s₁.heap.get? a = some { cls := .type "list", data := .seq vs.toArray }) (hi : IntsAre vs ns) (hl : ns.length <= sizeLine) (hr : Room k callerA)
  (F : ∀ base : Heap, K.In base -> base.Ns mainGlobals mg -> FnOk P w K mg base CX k fa fd [x] sp) (hbind : ∀ (s : Shared) (u : Value), BindsTo s fd ⟨[u], []⟩ [(x, u)])
  (hsp : ∀ H : Hp, Only H -> SqL K H a (ns.map V.int) -> sp [.ref a] H (fun v _ => v = .bl true) fun _ _ _ => False)
  (hCX : ∀ H e s', CX [] H s₁ (fun _ _ _ => False) e s' -> False) :
  codeAny (model P w) callerA (.call (.ref fa) ⟨[.ref a], []⟩) (fun r s' => r = .ok (.ret (.bool true)) /\ OldK s₁.heap s'.heap /\ s'.os = s₁.os /\ AllBare s'.gens) s₁ := by
 have rv := q281 hi
 have lenV := hi.length
 have core : ∀ H : Hp, Only H -> SqL K H a (ns.map V.int) -> HOk P w H s₁.heap -> (∀ b, H b ≠ none -> b = a) -> (H a ≠ none -> K.lookup a = none) ->
   codeAny (model P w) callerA (.call (.ref fa) ⟨[.ref a], []⟩) (fun r s' => r = .ok (.ret (.bool true)) /\ OldK s₁.heap s'.heap /\ s'.os = s₁.os /\ AllBare s'.gens) s₁ := by
  intro H hO hS hok hA hK
  have base_of : ∀ {b : Addr} {o : Obj}, s₁.heap.get? b = some o -> H b = none -> (hidT s₁.heap H).get? b = some o := fun e n => hidT_get e n
  have noA : ∀ {b : Addr} {o : Obj} {es : Array DictEntry} {ep : Nat}, s₁.heap.get? b = some o -> o.data = .dict es ep -> H b = none := fun {b o es ep} e d => by
   cases q : H b with
   | none => rfl
   | some u =>
    have e' : b = a := hA b (by rw [q]; simp)
    subst e'
    rw [ha] at e; cases e
    have d' : Data.seq vs.toArray _ = Data.dict es ep := d
    cases d'
  have nsK : ∀ {b : Addr} {m : Str -> Option Value}, s₁.heap.Ns b m -> (hidT s₁.heap H).Ns b m := fun {b m} ⟨o, es, ep, e, d, r⟩ => ⟨o, es, ep, base_of e (noA e d), d, r⟩
  have hKb : K.In (hidT s₁.heap H) := fun b o e => base_of (KX b o e) (by
   cases q : H b with
   | none => rfl
   | some u =>
    have e' : b = a := hA b (by rw [q]; simp)
    subst e'
    rw [hK (by rw [q]; simp)] at e; cases e)
  have hM : Mod K mg (hidT s₁.heap H) := ⟨hKb, nsK hns, ⟨mb, nsK hb, hbb⟩, let ⟨mc, h1, h2⟩ := hlim; ⟨mc, nsK h1, h2⟩⟩
  have e0 : Env0 P w K mg (hidT s₁.heap H) callerA [] s₁ H := ⟨rfl, hM, fun b o e => of_hidT e, Nat.le_of_eq (q577 _ _), trivial, fun b hb => absurd (show b ∈ ([] : List Addr) from hb) (by simp), hok, .of_eq hg⟩
  refine codeAny_mono ((F _ hKb (nsK hns)).run callerA [] s₁ H ⟨[.ref a], []⟩ [.ref a] [.ref a] _ _ hr e0 (hbind s₁ (.ref a)) (.cons rfl .nil) (hsp H hO hS)) fun r s' h => ?_
  cases r with
  | error e => exact (hCX H e s' h).elim
  | ok fl =>
   cases fl with
   | next => exact False.elim h
   | brk => exact False.elim h
   | cont => exact False.elim h
   | ret u =>
    obtain ⟨v, H', os, bare, un, hok', r', q⟩ := h
    have q' : v = .bl true := q
    subst q'
    obtain rfl : u = Value.bool true := r'
    refine ⟨rfl, OldK.of_keep fun b o e => ?_, os, bare⟩
    cases q : H b with
    | none => exact un.keep b o e q (by intro z; exact absurd (show b ∈ ([] : List Addr) from z) (by simp)) (by simp)
    | some u =>
     rcases hO b with z | ⟨ob, xs, z⟩
     ·rw [q] at z; cases z
     ·have z2 := un.frzs b ob _ z
      obtain ⟨e1, _⟩ := hok b _ z
      obtain ⟨e2, _⟩ := hok' b _ z2
      rw [e] at e1; cases e1
      exact e2
 cases hk : K.lookup a with
 | some o =>
  have e := KX a o hk
  rw [ha] at e
  cases e
  refine core (fun _ => none) (fun _ => .inl rfl) (.inr ⟨_, vs.toArray, _, hk, rfl, rfl, rfl, by rw [List.size_toArray, lenV]; exact hl, by simpa using rv⟩) (fun b u z => by have z' : (none : Option HO) = some u := z; cases z') (fun b z => absurd rfl z) fun z => absurd rfl z
 | none =>
  refine core (fun b => if b = a then some (.frz { cls := .type "list", data := .seq vs.toArray } (.lst (ns.map V.int))) else none) (fun b => ?_) (.inl (.inr ⟨{ cls := .type "list", data := .seq vs.toArray }, if_pos rfl⟩)) (fun b u z => ?_) (fun b z => ?_) fun _ => hk
  ·by_cases hb : b = a
   ·exact .inr ⟨_, _, if_pos hb⟩
   ·exact .inl (if_neg hb)
  ·by_cases hb : b = a
   ·have z' := (if_pos hb).symm.trans z
    cases z'
    subst hb
    exact ⟨ha, by rw [List.length_map]; exact hl, vs, _, rv, ha⟩
   ·have z' := (if_neg hb).symm.trans z
    cases z'
  ·by_cases hb : b = a
   ·exact hb
   ·exact absurd (if_neg hb) z
end L2
namespace L2
open PySem PySem.Spec PyProof.Rows
abbrev KOf {K : PySem.W.Frag} {h : Heap} (_ : K.In h) : PySem.W.Frag := K
theorem q680 {l : PySem.W.OpenLaw} {n k : Nat} {q : Program} {loose : List Str} {XP : (Str -> Option Value) -> Heap -> Prop} {YP : World -> Heap -> Prop} {d : DefRec} {K : Params -> PySem.W.Frag} {CX : World -> CXT} {sp : World -> Sp} {x : Str}
  (hn : l.most = some n) (hn2 : n <= sizeLine) (hdf : d.params.defaults = []) (hr : Room k callerA)
  (hY : ∀ (w : World) (h : Heap), YP w h -> (K w.params).In h)
  (F : ∀ (w : World) (mg : Str -> Option Value) (fa : Addr) (h : Heap), (K w.params).In h -> h.Ns mainGlobals mg -> mg d.name = some (.ref fa) ->
   ∃ fd : FuncData, (∀ (s : Shared) (u : Value), BindsTo s fd ⟨[u], []⟩ [(x, u)]) /\
    ∀ base : Heap, (K w.params).In base -> base.Ns mainGlobals mg -> FnOk l.prog w (K w.params) mg base (CX w) k fa fd [x] (sp w))
  (hsp : ∀ (w : World) (H : Hp) (a : Addr) (ns : List Int), ns.length <= n -> Only H -> SqL (K w.params) H a (ns.map V.int) -> sp w [.ref a] H (fun v _ => v = .bl true) fun _ _ _ => False)
  (hCX : ∀ (w : World) (H : Hp) (s : Shared) (e : Value) (s' : Shared), CX w [] H s (fun _ _ _ => False) e s' -> False) :
  PySem.W.WalkO q loose XP YP l.row.toRowW d [] (fun f vs => PySem.call f vs) := by
 refine Att.q679 hn hdf fun w s₀ s₁ mg mb fa o pm cd doc a vs ns G Y ho hd hcd hmg hobj hints hlen hg => ?_
 have KX := hY w _ Y
 obtain ⟨fd, hb, hF⟩ := F w mg fa _ KX G.T.g hmg
 exact law_call KX G.T.g G.T.b G.T.builtins G.T.nolimit hg hobj hints (Nat.le_trans hlen hn2) hr hF hb (fun H hO hS => hsp w H a ns hlen hO hS) fun H e s' => hCX w H s₁ e s'
end L2
/- THE LAST THEOREM (shape; LID, My.* are yours):
  My.Adr: a structure of the addresses that your layer names (classes, functions); My.Txt K t: a structure (Prop) of the equations over K;
  My.txt_mk : {K} {implicit addresses ..} (e1 : nsIn K mainGlobals "law" = some (some (.ref f))) (e2 : K.lookup f = some ⟨oc, od, .func (fnOf "law" "law" params body scope dV kV doc pm an cdv ct), sl⟩) (e3 : codeIn K cdv "law" = true) .. : ∃ t, My.Txt K t
set_option maxRecDepth 100000 in
set_option maxHeartbeats 0 in
theorem PySem.Challenge.cw_LID_holds : PySem.Challenge.rw_LID.Holds := by
 w_on; o_law; k_head; (case hw => w_witness2)
 k_fill
 refine L2.q680 (l := PySem.Challenge.rw_LID) (n := 63) (k := 40) (x := "script") (CX := fun w => ..) (sp := fun _ => My.q678) rfl (by decide) rfl ⟨rfl, by decide, by decide⟩ (fun w h Y => PySem.W.kIn_of Y) ?F ?S ?C
 case F =>
  intro w mg fa h KX G hmg
  have T : ∃ t, My.Txt (L2.KOf KX) t := by
   dsimp only [L2.KOf]                          -- K must stand as «<heap const> w.params» for k_is
   refine' My.txt_mk ?e1 ?e2 ?e3 ..
   (case e1 => PySem.W.k_is)                    -- in the order: a name -> its address -> its object -> its parts
   (case e2 => PySem.W.k_is)
   ..
  obtain ⟨t, T⟩ := T
  have e0 := hmg.symm.trans (PySem.W.mg_of KX G T.law)
  cases e0                                       -- fa is the law's own address
  exact ⟨_, fun s u => .of_eq rfl, fun base kb nb => My.law_fn T kb nb⟩     -- if «.of_eq rfl» comes too early: refine' ⟨_, ?b, fun base kb nb => My.law_fn T kb nb⟩; exact fun s u => .of_eq rfl
 case S => exact fun w H a ns hl hO hS => ..
 case C => exact ..
(the tactic k_is has no namespace: write k_is) -/
namespace L2
open PySem PySem.Spec PyProof.Rows
def q282 (s : Stmt) : Arguments := match s with
 | .FunctionDef _ a _ _ _ _ _ _ _ _ => a
 | _ => { posonlyargs := [], args := [], vararg := none, kwonlyargs := [], kw_defaults := [], kwarg := none, defaults := [] }
def q231 (s : Stmt) : List Stmt := match s with
 | .FunctionDef _ _ b _ _ _ _ _ _ _ => b
 | _ => []
def q18 (s : Stmt) : Scope := match s with
 | .FunctionDef _ _ _ _ _ _ sc _ _ _ => sc
 | _ => { kind := .function, names := [], isGenerator := false, isCoroutine := false }
abbrev CX0 : CXT := fun _ _ _ _ _ _ => False
abbrev E0 : XK := fun _ _ _ => False
theorem pass0 {X : Cx} : q589 CX0 X E0 := fun _ _ _ _ _ _ _ h => h.elim
structure Fun (K : PySem.W.Frag) (x qual : Str) (st : Stmt) (f : Addr) (fd : FuncData) : Prop where
 ex : ∃ (oc : Value) (od : Option Addr) (kV doc pm : Value) (an : Option Addr) (cdv ct : Value) (osl : Array (Option Value)),
  fd = PySem.W.fnOf x qual (q282 st) (q231 st) (q18 st) .none kV doc pm an cdv ct /\ K.lookup f = some ⟨oc, od, .func fd, osl⟩ /\ PySem.W.codeIn K cdv qual = true
 kp : PySem.W.keepIn K (.ref f) = true
section
variable {P : Program} {w : World} {K : PySem.W.Frag} {mg : Str -> Option Value} {base : Heap}
theorem Fun.ok {x qual : Str} {st : Stmt} {f : Addr} {fd : FuncData} {N ps : List Str} {k : Nat} {sp : Sp} (F : Fun K x qual st f fd) (S : FnScope N ps (q18 st)) (len : ∀ vs H Q E, sp vs H Q E -> vs.length = ps.length)
  (hbody : ∀ (cdv : Value) (A : Around) (outer : List Env) (s : Shared) (H : Hp) (vs : List V) (Q : VK) (E : XK), Room k (A.deeper (envOfC qual (q18 st) s.heap.objs.size f cdv)) -> sp vs H Q E ->
   ∃ t, PSs (cxOf CX0 P w K mg base N qual (q18 st) f cdv A outer s H E).nox (q231 st) t /\ t { nx := fun _ H' => Q .non H', rt := Q } (start N vs) H) : FnOk P w K mg base CX0 (k + 1) f fd ps sp := by
 obtain ⟨oc, od, kV, doc, pm, an, cdv, ct, osl, rfl, lk, hcd⟩ := F.ex
 refine fn_of lk hcd S len fun A outer s H vs Q E hr hsp => ?_
 obtain ⟨t, h, q⟩ := hbody cdv A outer s H vs Q E hr hsp
 exact ⟨t, h.nox, q⟩
theorem fun_mk {x qual : Str} {st : Stmt} {f : Addr} {oc : Value} {od an : Option Addr} {osl : Array (Option Value)} {kV doc pm cdv ct : Value} (l : K.lookup f = some ⟨oc, od, .func (PySem.W.fnOf x qual (q282 st) (q231 st) (q18 st) .none kV doc pm an cdv ct), osl⟩)
  (c : PySem.W.codeIn K cdv qual = true) (k : PySem.W.keepIn K (.ref f) = true) : Fun K x qual st f (PySem.W.fnOf x qual (q282 st) (q231 st) (q18 st) .none kV doc pm an cdv ct) := ⟨⟨oc, od, kV, doc, pm, an, cdv, ct, osl, rfl, l, c⟩, k⟩
end
theorem q129 {n : Nat} (h : n <= 1000) : n < sizeLine := Nat.lt_of_le_of_lt h (by decide)
section
variable {X : Cx}
theorem pv (i : Nat) {x : Str} {pos : Pos} (hN : X.N[i]? = some x := by rfl) (hv : Vis X.env.scope x := by first | exact Or.inl rfl | exact Or.inr (Or.inl rfl) | exact Or.inr (Or.inr rfl)) (hd : (x == ("__debug__" : Str)) = false := by decide)
  (hcd : (x == ("__classdict__" : Str)) = false := by decide) : PE X (.Name x pos) (tVar i) := pe_var hN hv hd hcd
end
theorem iteF {A B : Prop} (h : B) : if false = true then A else B := by
 rw [if_neg fnt]
 exact h
theorem iteT {A B : Prop} (h : A) : if true = true then A else B := by
 rw [if_pos rfl]
 exact h
theorem ite2 {c A B : Prop} [Decidable c] (h1 : c -> A) (h2 : ¬ c -> B) : if c then A else B := by
 by_cases h : c
 ·rw [if_pos h]
  exact h1 h
 ·rw [if_neg h]
  exact h2 h
theorem iteNS {c A B : Prop} [Decidable c] (hc : c) (h : B) : if (!decide c) = true then A else B := by
 rw [decide_eq_true hc]
 exact iteF h
def Same (H H' : Hp) : Prop := ∀ b o, H b = some o -> H' b = some o
theorem Same.refl (H : Hp) : Same H H := fun _ _ h => h
theorem Same.trans {H H1 H2 : Hp} (a : Same H H1) (b : Same H1 H2) : Same H H2 := fun c o h => b c o (a c o h)
theorem Same.free {H H' : Hp} (e : Same H H') {l : Addr} (h : H' l = Option.none) : H l = Option.none := by
 cases q : H l with
 | none => rfl
 | some o =>
  rw [e l o q] at h
  cases h
theorem Same.seq {K : PySem.W.Frag} {H H' : Hp} {a : Addr} {xs : List V} (e : Same H H') (h : SqL K H a xs) : SqL K H' a xs := by
 rcases h with (h | ⟨o, h⟩) | h
 ·exact .inl (.inl (e _ _ h))
 ·exact .inl (.inr ⟨o, e _ _ h⟩)
 ·exact .inr h
end L2
namespace L2
open PySem PySem.Spec PyProof.Rows
section
variable {κ : Type} [DecidableEq κ]
end
section
variable {P : Program} {w : World} {H : Hp} {h : Heap} {a : Addr}
end
section
variable {X : Cx} {pins : List (Addr × Obj)} {σ : St} {H : Hp} {s : Shared} {a : Addr} {y v : V} {u r : Value} {o : Option V} {A : Around} {E : Value -> Shared -> Prop}
end
section
variable {X : Cx} {pins : List (Addr × Obj)} {σ : St} {H : Hp} {s : Shared} {a : Addr} {kvs : List (Key × V)} {k : Key} {u : Value} {A : Around} {E : Value -> Shared -> Prop}
end
section
variable {X : Cx} {o i e value : Expr} {pos pos' tpos : Pos} {td ty tv : TE}
end
section
variable {X : Cx} {pos : Pos}
end
end L2
namespace L2
open PySem PySem.Spec PyProof.Rows
theorem q15 {H : Hp} {p : Addr} (h : H p = none) (o : HO) : Same H (upd H p o) := fun b u q => by rw [q36 (q33 q h)]; exact q
structure Def (K : PySem.W.Frag) (mg : Str -> Option Value) (x : Str) (st : Stmt) (ps : List Str) : Prop where
 ex : ∃ (f : Addr) (fd : FuncData), Fun K x x st f fd /\ (∀ us : List Value, us.length = ps.length -> bindArgs fd ⟨us, []⟩ = pure (ps.zip us)) /\ mg x = some (.ref f)
theorem q686 {K : PySem.W.Frag} {h : Heap} {mg : Str -> Option Value} {x : Str} {st : Stmt} {ps : List Str} {f : Addr} {oc : Value} {od an : Option Addr} {osl : Array (Option Value)} {kV doc pm cdv ct : Value}
  (KX : K.In h) (G : h.Ns mainGlobals mg) (a : PySem.W.nsIn K mainGlobals x = some (some (.ref f)))
  (l : K.lookup f = some ⟨oc, od, .func (PySem.W.fnOf x x (q282 st) (q231 st) (q18 st) .none kV doc pm an cdv ct), osl⟩)
  (c : PySem.W.codeIn K cdv x = true) (k : PySem.W.keepIn K (.ref f) = true)
  (b : ∀ (kV doc pm : Value) (an : Option Addr) (cdv ct : Value) (us : List Value), us.length = ps.length -> bindArgs (PySem.W.fnOf x x (q282 st) (q231 st) (q18 st) .none kV doc pm an cdv ct) ⟨us, []⟩ = pure (ps.zip us)) :
  Def K mg x st ps := ⟨f, _, fun_mk l c k, b kV doc pm an cdv ct, PySem.W.mg_of KX G a⟩
structure Cal (P : Program) (w : World) (K : PySem.W.Frag) (mg : Str -> Option Value) (base : Heap) (k : Nat) (x : Str) (ps : List Str) (sp : Sp) : Prop where
 ex : ∃ (f : Addr) (fd : FuncData), FnOk P w K mg base CX0 k f fd ps sp /\ Binds K fd ps [] /\ PySem.W.keepIn K (.ref f) = true /\ mg x = some (.ref f)
theorem Def.cal {P : Program} {w : World} {K : PySem.W.Frag} {mg : Str -> Option Value} {base : Heap} {k : Nat} {x : Str} {st : Stmt} {ps : List Str} {sp : Sp} (d : Def K mg x st ps)
  (F : ∀ (f : Addr) (fd : FuncData), Fun K x x st f fd -> FnOk P w K mg base CX0 k f fd ps sp) : Cal P w K mg base k x ps sp := by
 obtain ⟨f, fd, h1, h2, h3⟩ := d.ex
 exact ⟨f, fd, F f fd h1, .all h2, h1.kp, h3⟩
section
variable {X : Cx} {k : Nat} {x : Str} {ps : List Str} {sp : Sp} {p pos : Pos} {e : Expr} {es : List Expr} {t : TA}
theorem pe_fn (c : Cal X.prog X.w X.K X.mg X.base k x ps sp) (hr : Room k X.A) (hg : Gl X x) (ha : PA X (e :: es) t) (hdb : (x == ("__debug__" : Str)) = false := by decide)
  (he : starEach (e :: es) X.env = (false, eval e X.env) :: starEach es X.env := by rfl) (hpl : (backTo pos (starEach es X.env)).any (·.1) = false := by rfl) :
  PE X (.Call (.Name x p) (e :: es) [] pos) (tCall sp [] E0 t) := by
 obtain ⟨f, fd, F, B, kp, m⟩ := c.ex
 exact pe_call F hr hg m kp B .nil pass0 ha hdb he hpl
end
def spLaw (K : PySem.W.Frag) : Sp := fun vs H Q _ => ∃ (a : Addr) (ns : List Int), vs = [.ref a] /\ SqL K H a (ns.map V.int) /\ ns.length <= 63 /\ Only H /\ ∀ H', Q (.bl true) H'
theorem law_mk {P : Program} {w : World} {K : PySem.W.Frag} {mg : Str -> Option Value} {k : Nat} {st : Stmt} {fa : Addr} (d : Def K mg "law" st ["_law_script"])
  (F : ∀ (base : Heap) (f : Addr) (fd : FuncData), Fun K "law" "law" st f fd -> FnOk P w K mg base CX0 k f fd ["_law_script"] (spLaw K)) (hmg : mg "law" = some (.ref fa)) :
  ∃ fd : FuncData, (∀ (s : Shared) (u : Value), BindsTo s fd ⟨[u], []⟩ [("_law_script", u)]) /\ ∀ base : Heap, K.In base -> base.Ns mainGlobals mg -> FnOk P w K mg base CX0 k fa fd ["_law_script"] (spLaw K) := by
 obtain ⟨f, fd, h1, h2, h3⟩ := d.ex
 have e := hmg.symm.trans h3
 cases e
 exact ⟨fd, fun s u => .of_eq (h2 [u] rfl), fun base _ _ => F base _ _ h1⟩
theorem walkL {l : PySem.W.OpenLaw} {k : Nat} {q : Program} {loose : List Str} {XP : (Str -> Option Value) -> Heap -> Prop} {YP : World -> Heap -> Prop} {d : DefRec} {K : Params -> PySem.W.Frag} (hr : Room k callerA) (hn : l.most = some 63) (hdf : d.params.defaults = [])
  (hY : ∀ (w : World) (h : Heap), YP w h -> (K w.params).In h)
  (F : ∀ (w : World) (mg : Str -> Option Value) (fa : Addr) (h : Heap), (K w.params).In h -> h.Ns mainGlobals mg -> mg d.name = some (.ref fa) ->
   ∃ fd : FuncData, (∀ (s : Shared) (u : Value), BindsTo s fd ⟨[u], []⟩ [("_law_script", u)]) /\ ∀ base : Heap, (K w.params).In base -> base.Ns mainGlobals mg -> FnOk l.prog w (K w.params) mg base CX0 k fa fd ["_law_script"] (spLaw (K w.params))) :
  PySem.W.WalkO q loose XP YP l.row.toRowW d [] (fun f vs => PySem.call f vs) :=
 q680 (n := 63) (k := k) (x := "_law_script") (CX := fun _ => CX0) (sp := fun w => spLaw (K w.params)) hn (by decide) hdf hr hY F (fun _ _ a ns hl hO hS => ⟨a, ns, rfl, hS, hl, hO, fun _ => rfl⟩) fun _ _ _ _ _ z => z
section
variable {X : Cx}
theorem q535 {n : Nat} (h : n < 10 ^ 60) : n.log2 < 9000 := by
 by_cases h0 : n = 0
 ·subst h0; decide
 ·have h1 : n.log2 < 200 := (Nat.log2_lt h0).mpr (Nat.lt_of_lt_of_le h (by decide))
  omega
theorem q112 : OpR X (binaryOp .FloorDiv) (rI (fun _ j => 0 < j /\ j < 10 ^ 60) fun i j => .int (i / j)) := opI fun i j _ _ _ _ _ hc q => by
 have h1 : (0 : Int) < j := hc.1
 have h2 : j < 10 ^ 60 := hc.2
 exact floordiv_int (by omega) (by rw [Int.fdiv_eq_ediv_of_nonneg i (by omega)]; exact q) (.inl (PyProof.noPylong_of_log2 (q535 (by omega))))
theorem op_catU : OpR X (binaryOp .Add) (fun x y H Q => ∃ a b xs ys, x = .ref a /\ y = .ref b /\ SqT X.K H a xs /\ SqT X.K H b ys /\ xs.length + ys.length <= sizeLine /\
  ∀ p H', Same H H' -> SqT X.K H' p (xs ++ ys) -> (H a = some (.tup xs) -> H b = some (.tup ys) -> H' p = some (.tup (xs ++ ys))) -> Q (.ref p) H') := by
 intro pins s σ H x y v u Q I rx ry h
 obtain ⟨a, b, xs, ys, rfl, rfl, ha, hb, hz, q1⟩ := h
 cases rx
 cases ry
 obtain ⟨its, r1, p1, _⟩ := I.tuple ha
 obtain ⟨its2, r2, p2, _⟩ := I.tuple hb
 have hz' : its.length + its2.length <= sizeLine := by rw [<- r1.length, <- r2.length]; exact hz
 obtain ⟨⟨cls, dd, data, sl⟩, ho, hc, n, hd⟩ := id p1
 obtain ⟨⟨cls2, dd2, data2, sl2⟩, ho2, hc2, n2, hd2⟩ := id p2
 simp only at hc hd hc2 hd2
 subst hc hd hc2 hd2
 have e : its.toArray ++ its2.toArray = (its ++ its2).toArray := by simp
 by_cases hv : its = []
 ·have hx : xs = [] := r1.nil_iff.mp hv
  subst hx
  exact concat_meets ⟨_, ho, rfl⟩ ⟨_, ho2, rfl⟩ noFill_tuple_add seq_tuple_add PySem.F.slot_tuple_add PySem.F.entry_tuple_add (PySem.F.args_tuple_add_2 _ _)
   (tuple_addW0 a b its.toArray its2.toArray n n2 dd dd2 sl sl2 (by simp [hv])) ⟨ho, ho2, ⟨.ref b, H, I, rfl, q1 b H (Same.refl H) (by simpa using hb) (fun _ z => by simpa using z)⟩⟩
 ·by_cases hw : its2 = []
  ·have hy : ys = [] := r2.nil_iff.mp hw
   subst hy
   exact concat_meets ⟨_, ho, rfl⟩ ⟨_, ho2, rfl⟩ noFill_tuple_add seq_tuple_add PySem.F.slot_tuple_add PySem.F.entry_tuple_add (PySem.F.args_tuple_add_2 _ _)
    (tuple_addW1 a b its.toArray its2.toArray n n2 dd dd2 sl sl2 (by simpa using hv) (by simp [hw])) ⟨ho, ho2, ⟨.ref a, H, I, rfl, q1 a H (Same.refl H) (by simpa using ha) (fun z _ => by simpa using z)⟩⟩
  ·refine concat_meets ⟨_, ho, rfl⟩ ⟨_, ho2, rfl⟩ noFill_tuple_add seq_tuple_add PySem.F.slot_tuple_add PySem.F.entry_tuple_add (PySem.F.args_tuple_add_2 _ _)
    (tuple_addW2 a b its.toArray its2.toArray n n2 dd dd2 sl sl2 (by simpa using hv) (by simpa using hw) (by rw [List.size_toArray, List.size_toArray]; exact hz')) ⟨ho, ho2, ?_⟩
   rw [e]
   refine ⟨.ref s.heap.objs.size, _, I.laid (t' := s.toks) (o := .tup (xs ++ ys)) (fun b ob q => Heap.get?_push_of_some _ q) (Nat.le_refl _) ?_, rfl, q1 _ _ (q15 (I.hok.fresh (Nat.le_refl _)) _) (SqT.of q13) (fun _ _ => q13)⟩
   exact ⟨by rw [List.length_append]; exact hz, _, r1.append r2, IsTup.new _ _⟩
end
section
theorem bt_int : bootBuiltins "int" = some (.type "int") := by decide +kernel
theorem q268 : bootBuiltins "tuple" = some (.type "tuple") := by decide +kernel
theorem q62 : bootBuiltins "len" = some (.builtin "len") := by decide +kernel
theorem bt_max : bootBuiltins "max" = some (.builtin "max") := by decide +kernel
theorem bt_min : bootBuiltins "min" = some (.builtin "min") := by decide +kernel
theorem bt_sum : bootBuiltins "sum" = some (.builtin "sum") := by decide +kernel
theorem q208 : bootBuiltins "sorted" = some (.builtin "sorted") := by decide +kernel
end
section
variable {K : PySem.W.Frag}
end
def Keep (p : Addr) (H H' : Hp) : Prop := ∀ b o, b ≠ p -> H b = some o -> H' b = some o
theorem Keep.trans {p : Addr} {H H1 H2 : Hp} (a : Keep p H H1) (b : Keep p H1 H2) : Keep p H H2 := fun c o n h => b c o n (a c o n h)
theorem Keep.same {p : Addr} {H H' : Hp} (s : Same H H') : Keep p H H' := fun b o _ h => s b o h
theorem Keep.set (p : Addr) (H : Hp) (o : HO) : Keep p H (upd H p o) := fun b u n h => by rw [q36 n]; exact h
theorem Keep.new {p q : Addr} {H : Hp} (h : H q = none) (o : HO) : Keep p H (upd H q o) := .same (q15 h o)
theorem Same.seqT {K : PySem.W.Frag} {H H' : Hp} {a : Addr} {xs : List V} (e : Same H H') (h : SqT K H a xs) : SqT K H' a xs := by
 rcases h with (h | ⟨o, h⟩) | h
 ·exact .inl (.inl (e _ _ h))
 ·exact .inl (.inr ⟨o, e _ _ h⟩)
 ·exact .inr h
theorem sz {n : Nat} (h : n <= 1000) : n <= sizeLine := Nat.le_of_lt (q129 h)
theorem szb {n : Nat} (h : Nat.ble n 1000 = true) : n <= sizeLine := sz (Nat.le_of_ble_eq_true h)
theorem q209 {l : List Int} {i : Int} (h0 : 0 <= i) (h1 : i < (l.length : Int)) : ∃ v, v ∈ l /\ atI (l.map V.int) i = some (.int v) := by
 have hk : i.toNat < l.length := by omega
 have ek : i = ((i.toNat : Nat) : Int) := by omega
 have q : atI (l.map V.int) ((i.toNat : Nat) : Int) = some (.int l[i.toNat]) := q69 (by rw [List.getElem?_map, List.getElem?_eq_getElem hk] <;> rfl)
 rw [<- ek] at q
 exact ⟨l[i.toNat], List.getElem_mem hk, q⟩
end L2
namespace L2
open PySem PySem.Spec PyProof.Rows
def relN (scope sc0 : Scope) : List (Str × NameKind) := scope.names.map fun (n, k) => if (k == .free && sc0.kind == .function && sc0.names.lookup n == some .cell) then (n, .cell) else (n, k)
def q102 (env : Env) : List (Str × Addr) -> Prop
 | [] => True
 | (n, c) :: r => env.cells.lookup n = some c /\ q102 env r
theorem q102.look {env : Env} : ∀ {cl : List (Str × Addr)} {n : Str} {c : Addr}, q102 env cl -> cl.lookup n = some c -> env.cells.lookup n = some c
 | [], _, _, _, h => by cases h
 | (m, d) :: r, n, c, hc, h => by
  rw [List.lookup_cons] at h
  cases hx : n == m with
  | true =>
   rw [hx] at h
   cases h
   rw [eq_of_beq hx]
   exact hc.1
  | false =>
   rw [hx] at h
   exact q102.look hc.2 h
theorem q78 {cl : List (Str × Addr)} {n : Str} (h : n ∈ cl.map (·.1)) : ∃ c, cl.lookup n = some c := by
 induction cl with
 | nil => cases h
 | cons p r ih =>
  obtain ⟨m, d⟩ := p
  rw [List.lookup_cons]
  cases hx : n == m with
  | true => exact ⟨d, rfl⟩
  | false =>
   rcases List.mem_cons.mp h with e | e
   ·have e' : n = m := e
    rw [e', beq_self_eq_true] at hx
    cases hx
   ·exact ih e
structure CompOk (scope sc0 : Scope) (x : Str) (N cn : List Str) : Prop where
 has : ∀ p ∈ relN scope sc0, (p.2 = .cell \/ p.2 = .free) -> p.1 ∈ cn
 nc : ∀ p ∈ scope.names, p.2 ≠ .cell
 names : ∀ p ∈ scope.names, p.2 = .local -> scope.names.lookup p.1 = some .local
 hx : scope.names.lookup x = some .local
 hx' : (relN scope sc0).lookup x = some .local
 nd : (x :: N).Nodup
 frs : ∀ y ∈ N, (relN scope sc0).lookup y = some .cell /\ sc0.names.lookup y = some .cell /\ y ∈ cn
def q28 (X : Cx) (scope : Scope) (cl : List (Str × Addr)) (C : Addr) (x : Str) (N : List Str) (s₂ : Shared) (H₂ : Hp) (fp : List Addr) : Cx where
 prog := X.prog
 w := X.w
 K := X.K
 mg := X.mg
 base := X.base
 A := X.A
 N := x :: N
 s₀ := s₂
 H₀ := H₂
 env := compEnvC scope cl C X.env
 outer := X.stack
 stack := X.stack
 ex := fp
 fn := fun _ => false
 calm := X.calm
 pn := []
 xe := fun _ _ => False
def tComp (wi : TI) (te : TE) (fr : List Nat) : TE := fun σ H Q => wi σ H fun J H1 => ∀ D, H1 D = none -> ∃ W : Nat -> Nat -> List V -> Hp -> Prop, (∃ m, W 0 m [] (upd H1 D (.lst []))) /\
 ∀ i m ys H2, W i m ys H2 -> H2 D = some (.lst ys) /\ ((J.stop i H2 /\ Q (.ref D) H2) \/ (J.go i H2 /\ ys.length < sizeLine /\ ∃ N : V -> Hp -> Prop, (∀ y H3, N y H3 -> H3 D = some (.lst ys) /\ ∃ m', m' < m /\ W (i + 1) m' (ys ++ [y]) (upd H3 D (.lst (ys ++ [y])))) /\
  ∀ x H', J.yld i H2 x H' -> te (some x :: fr.map fun j => (σ[j]?).getD none) H' N))
section
variable {prog : Program} {w : World} {A : Around} {R : Result -> Shared -> Prop} {s : Shared}
theorem q408 {elt target iter : Expr} {scope : Scope} {pos : Pos} {it acc : Value} {env : Env} (I : Nat -> Shared -> Prop)
  (turn : ∀ n s, I n s -> wpAny (model prog w) A (pyNext it) (fun r s₁ => match r with
   | none => R (.ok .next) s₁
   | some v => wpAny (model prog w) A (letOwnedTupleGo target it v) (fun _ s₁' => wpAny (model prog w) A (assign target env v) (fun _ s₂ => wpAny (model prog w) A (eval elt env) (fun x s₃ =>
     wpAny (model prog w) A (call (.builtin "list.append") [acc, x]) (fun _ s₄ => ∃ m, m < n /\ I m s₄) (notedBy (model prog w) A env fun e s' => R (.error e) s') s₃)
     (notedBy (model prog w) A env fun e s' => R (.error e) s') s₂) (notedBy (model prog w) A env fun e s' => R (.error e) s') s₁') (notedBy (model prog w) A env fun e s' => R (.error e) s') s₁) (notedBy (model prog w) A env fun e s' => R (.error e) s') s)
  (n : Nat) (h : I n s) :
  codeAny (model prog w) A (.compLoop (.ListComp elt [⟨target, iter, [], 0⟩] scope pos) 0 it acc env) R s := by
 refine codeAny_loop rfl I (fun n s hI => ?_) n h
 show wpAny _ _ ((compTurn (.ListComp elt [⟨target, iter, [], 0⟩] scope pos) 0 it acc env).onRaise (fun x => do noteFrame x env; theTreesLotGoes x)) _ _ s
 refine wpAny_noted ?_
 rw [compTurn_list1]
 refine wpAny_bind (wpAny_standAt (wpAny_bind (wpAny_mono (turn n s hI) (fun r s₁ h₁ => ?_) fun _ _ h' => h')))
 cases r with
 | none => exact wpAny_pure h₁
 | some v =>
  exact wpAny_bind (wpAny_mono h₁ (fun _ s₁' h₁' => wpAny_bind (wpAny_mono h₁' (fun _ s₂ h₂ => wpAny_bind (wpAny_bind (wpAny_mono h₂ (fun x s₃ h₃ => wpAny_bind (wpAny_mono h₃
   (fun _ s₄ h₄ => wpAny_pure (wpAny_pure ⟨rfl, h₄⟩)) fun _ _ h' => h')) fun _ _ h' => h'))) fun _ _ h' => h')) fun _ _ h' => h')
end
theorem q98 {α : Type} : ∀ {l : List (Str × α)} {x : Str} {a : α}, l.lookup x = some a -> (x, a) ∈ l := fun h => PySem.mem_of_lookup h
theorem q598 {X : Cx} {elt iter : Expr} {x : Str} {px pos : Pos} {scope sc0 : Scope} {cl : List (Str × Addr)} {cn N : List Str} {fr : List Nat} {te : TE} {pins : List (Addr × Obj)} {σ : St} {H2 : Hp} {s2 : Shared} {it : Addr} {fp : List Addr}
  {tn : Nat -> Heap -> Prop} {J : It} {RR : Value -> Addr -> Result -> Shared -> Prop} {R : Hp -> Prop} {E : Value -> Shared -> Prop} {W : Nat -> Nat -> List V -> Hp -> Prop} {m0 : Nat}
  (hc : X.calm = true) (he : ∀ (C : Addr) (s₂ : Shared) (H₂ : Hp) (fp : List Addr), PE (q28 X scope cl C x N s₂ H₂ fp) elt te)
  (hcl : q102 X.env cl) (hcn : cl.map (·.1) = cn) (hsc : X.env.scope = sc0) (hk : scope.kind = .function) (hok : CompOk scope sc0 x N cn) (hfr : fr.map (fun j => X.N[j]?) = N.map some)
  (I2 : Inv X pins σ H2 s2) (T : Turn X.prog X.w X.K (.Name x px) J fp it tn) (st2 : tn 0 s2.heap) (f2 : ∀ b ∈ fp, FpOk X pins H2 b)
  (w0 : W 0 m0 [] (upd H2 s2.heap.objs.size (.lst [])))
  (turn : ∀ i m ys H, W i m ys H -> H s2.heap.objs.size = some (.lst ys) /\ ((J.stop i H /\ R H) \/ (J.go i H /\ ys.length < sizeLine /\ ∃ N : V -> Hp -> Prop,
   (∀ y H3, N y H3 -> H3 s2.heap.objs.size = some (.lst ys) /\ ∃ m', m' < m /\ W (i + 1) m' (ys ++ [y]) (upd H3 s2.heap.objs.size (.lst (ys ++ [y])))) /\
   ∀ x H', J.yld i H x H' -> te (some x :: fr.map fun j => (σ[j]?).getD none) H' N)))
  (hRR : ∀ (C : Addr) (H6 : Hp) (s6 : Shared) (m6 : Str -> Option Value), s6.heap.Ns C m6 -> Inv X pins σ H6 s6 -> FpOk X pins H6 C -> R H6 -> RR (.ref s2.heap.objs.size) C (.ok .next) s6) :
  wpAny (model X.prog X.w) X.A (newList []) (fun acc s₃ => wpAny (model X.prog X.w) X.A (newFunctionEnv scope X.env.globals cl [] X.env.qual none .none (some X.env)) (fun cenv s₄ =>
   codeAny (model X.prog X.w) X.A (.compStart (.ListComp elt [⟨.Name x px, iter, [], 0⟩] scope pos) 0 (.ref it) acc { cenv with scope := relabel scope X.env }) (RR acc cenv.locals) s₄) E s₃) E s2 := by
 refine wpAny_newObj_type (wpAny_newFunctionEnv hok.nc (by intro y hy; simp at hy) (fun h4 hns hsb => ?_) hk)
 dsimp only at hns hsb ⊢
 have rel : ∀ y, (compEnvC scope cl 0 X.env).scope.names.lookup y = (relN scope sc0).lookup y := fun y => by
  show (relabel scope X.env).names.lookup y = _
  unfold relabel relN Env.kindOf
  rw [hsc]
 generalize hD : s2.heap.objs.size = D at *
 have I3 : Inv X pins σ (upd H2 D (.lst [])) { s2 with heap := s2.heap.push { cls := .type "list", dict := none, data := .seq ([] : List Value).toArray } } :=
  I2.laid (t' := s2.toks) (fun b u e => Heap.get?_push_of_some _ e) (Nat.le_of_eq hD) ⟨Nat.zero_le _, [], 0, .nil, by rw [<- hD]; exact Heap.get?_push_size _ rfl⟩
 have k23 : ∀ b u, s2.heap.get? b = some u -> (s2.heap.push { cls := .type "list", dict := none, data := .seq ([] : List Value).toArray }).get? b = some u := fun b u e => Heap.get?_push_of_some _ e
 have hsz : s2.heap.objs.size <= (s2.heap.push { cls := .type "list", dict := none, data := .seq ([] : List Value).toArray }).objs.size := by rw [Heap.size_push]; exact Nat.le_succ _
 generalize hh3 : s2.heap.push { cls := .type "list", dict := none, data := .seq ([] : List Value).toArray } = h3 at *
 have k34 : ∀ b u, h3.get? b = some u -> h4.get? b = some u := fun b u e => (hsb.2 b (Nat.ne_of_lt (Heap.lt_size e))).trans (Heap.get?_push_of_some _ e)
 generalize hC : h3.objs.size = C at *
 have I4 : Inv X pins σ (upd H2 D (.lst [])) { s2 with heap := h4, toks := s2.toks + ([] : List (Str × Value)).length } := I3.kept (t' := s2.toks + 0) k34
 generalize hH3 : upd H2 D (.lst []) = H3 at *
 have ltC : ∀ b o, s2.heap.get? b = some o -> b < C := fun b o e => Nat.lt_of_lt_of_le (Heap.lt_size e) hsz
 have lenF : fr.length = N.length := by simpa using congrArg List.length hfr
 have fpo : ∀ b ∈ fp, b ≠ C /\ b ∉ frs X.stack := fun b hb => by
  obtain ⟨o, e, _⟩ := T.obj 0 s2.heap st2 b hb
  refine ⟨Nat.ne_of_lt (ltC b o e), fun z => ?_⟩
  obtain ⟨_, n1, n2, _⟩ := f2 b hb
  rcases List.mem_cons.mp (I2.stkSub b z) with q | q
  ·exact n1 q
  ·exact n2 q
 have H3C : H3 C = none := I3.hok.fresh (Nat.le_of_eq hC)
 have okX : (q28 X scope cl C x N { s2 with heap := h3 } H3 fp).Ok := by
  refine ⟨I2.ok.mod, hk, I2.ok.glob, I2.ok.blt, Nat.le_of_eq hC, fun y z c e1 e2 => I2.ok.inj y z c (hcl.look e1) (hcl.look e2), fun y hy => ?_, fun y c z => (fnt z).elim, fun z => I2.ok.hd z, I2.ok.frames, .inl rfl,
   fun b hb => ⟨(fpo b hb).1, fun y c e => (f2 b hb).2.2.2.2.1 y c (hcl.look e)⟩, fun b o e => I3.bs b o e, Nat.le_trans I2.ok.bsz I3.sz, fun b o e hb => ?_, fun b hb => (fpo b hb).2, I3.stack, I3.stkFree⟩
  ·have hy' : (relN scope sc0).lookup y = some .cell \/ (relN scope sc0).lookup y = some .free := by
    rcases hy with hy | hy
    ·exact .inl ((rel y).symm.trans hy)
    ·exact .inr ((rel y).symm.trans hy)
   have hm : y ∈ cn := by
    rcases hy' with q | q
    ·exact hok.has (y, .cell) (q98 q) (.inl rfl)
    ·exact hok.has (y, .free) (q98 q) (.inr rfl)
   exact q78 (cl := cl) (n := y) (by rw [hcn]; exact hm)
  ·rcases (f2 b hb).2.2.2.1 with z | z
   ·exact I2.ok.noex b o e z
   ·exact absurd (Nat.lt_of_lt_of_le (Heap.lt_size e) (Nat.le_trans I2.ok.bsz z)) (Nat.lt_irrefl _)
 have I5 : Inv (q28 X scope cl C x N { s2 with heap := h3 } H3 fp) [] (none :: fr.map fun j => (σ[j]?).getD none) H3 { s2 with heap := h4, toks := s2.toks + ([] : List (Str × Value)).length } := by
  refine ⟨okX, rfl, I4.bare, Un.kept k34, ⟨_, hns, fun i y v e1 e2 e3 => ?_⟩, fun y c e => I4.cell y c (hcl.look e), H3C, fun y c e => I4.freeC y c (hcl.look e), fun p hp => absurd (show p ∈ ([] : List (Addr × Obj)) from hp) (by simp), I4.hok, by simp [q28, lenF]⟩
  cases i with
  | zero => cases e2
  | succ j =>
   have e1' : N[j]? = some y := e1
   have e2' : (fr.map fun j => (σ[j]?).getD none)[j]? = some (some v) := e2
   obtain ⟨k, ek⟩ : ∃ k, fr[j]? = some k := by
    have : j < fr.length := by rw [lenF]; exact (List.getElem?_eq_some_iff.mp e1').1
    exact ⟨fr[j], List.getElem?_eq_getElem this⟩
   rw [List.getElem?_map, ek] at e2'
   have e2'' : (σ[k]?).getD none = some v := Option.some.inj e2'
   have eσ : σ[k]? = some (some v) := by
    cases q : σ[k]? with
    | none => rw [q] at e2''; cases e2''
    | some o => rw [q] at e2''; exact congrArg some e2''
   have eN : X.N[k]? = some y := by
    have z := congrArg (fun l => l[j]?) hfr
    simp only [List.getElem?_map, ek, e1', Option.map_some] at z
    exact Option.some.inj z
   obtain ⟨r1, r2, r3⟩ := hok.frs y (List.mem_of_getElem? e1')
   obtain ⟨m, _, hl⟩ := I4.loc
   obtain ⟨u, ru, look⟩ := hl k y v eN eσ (.inr (.inl (by rw [hsc]; exact r2)))
   refine ⟨u, ru, .inr ⟨.inl ((rel y).trans r1), ?_⟩⟩
   rcases look with ⟨l1, _⟩ | ⟨_, c, l1, l2⟩
   ·exfalso
    have l1' : X.env.scope.names.lookup y = some .local := l1
    rw [hsc, r2] at l1'
    cases l1'
   ·obtain ⟨c', l3⟩ := q78 (cl := cl) (n := y) (by rw [hcn]; exact r3)
    have l4 := hcl.look l3
    rw [l1] at l4
    cases l4
    exact ⟨c, l3, l2⟩
 have st4 : tn 0 h4 := T.keep 0 s2.heap h4 st2 fun b hb o e => k34 b o (k23 b o e)
 have fp5 : ∀ {H' : Hp}, (∀ b ∈ fp, H' b = none) -> ∀ b ∈ fp, FpOk (q28 X scope cl C x N { s2 with heap := h3 } H3 fp) [] H' b := fun hn b hb =>
  ⟨hn b hb, (fpo b hb).1, (fpo b hb).2, .inl hb, fun y c e => (f2 b hb).2.2.2.2.1 y c (hcl.look e), fun p hp => absurd (show p ∈ ([] : List (Addr × Obj)) from hp) (by simp)⟩
 have fr3 : ∀ b ∈ fp, H3 b = none := fun b hb => by
  obtain ⟨o, e, _⟩ := T.obj 0 s2.heap st2 b hb
  have : b ≠ D := Nat.ne_of_lt (hD ▸ Heap.lt_size e)
  rw [<- hH3, q36 this]
  exact (f2 b hb).1
 have hx' : Loc (q28 X scope cl C x N { s2 with heap := h3 } H3 fp).env.scope x := .inl ((rel x).trans hok.hx')
 have fin : ∀ (H6 : Hp) (s6 : Shared) (σ6 : St), Inv (q28 X scope cl C x N { s2 with heap := h3 } H3 fp) [] σ6 H6 s6 -> Inv X pins σ H6 s6 /\ FpOk X pins H6 C := by
  intro H6 s6 σ6 I6
  refine ⟨I3.call' (s' := s6) (ch := fp) I6.os ⟨I6.base.keep, I6.base.slot, I6.base.free, I6.base.there, I6.base.tups, I6.base.frzs, I6.base.tbls⟩ I6.hok I6.bare (fun b hb => ?_), I3.fpOk (Nat.le_of_eq hC) I6.free⟩
  obtain ⟨_, n1, _, n3, n4, n5⟩ := f2 b hb
  exact ⟨n3, n1, n4, n5⟩
 have loop : codeAny (model X.prog X.w) X.A (.compLoop (.ListComp elt [⟨.Name x px, iter, [], 0⟩] scope pos) 0 (.ref it) (.ref D) (compEnvC scope cl C X.env))
   (RR (.ref D) C) { s2 with heap := h4, toks := s2.toks + ([] : List (Str × Value)).length } := by
  refine q408 (fun n s' => ∃ i v0 ys H', Inv (q28 X scope cl C x N { s2 with heap := h3 } H3 fp) [] (v0 :: fr.map fun j => (σ[j]?).getD none) H' s' /\ tn i s'.heap /\ (∀ b ∈ fp, H' b = none) /\ W i n ys H') ?_ m0
   ⟨0, none, [], H3, I5, st4, fr3, w0⟩
  rintro n s6 ⟨i, v0, ys, H6, I6, st6, fr6, w6⟩
  obtain ⟨hDl, hw⟩ := turn i n ys H6 w6
  rcases hw with ⟨stop, qn⟩ | ⟨go, hlen, N', hN', step⟩
  ·refine thn (T.done (q28 X scope cl C x N { s2 with heap := h3 } H3 fp) rfl rfl rfl hc i [] s6 _ H6 _ I6 (fp5 fr6) st6 stop) fun r s7 ⟨hr, I7⟩ => ?_
   subst hr
   obtain ⟨m7, hn7, _⟩ := I7.loc
   obtain ⟨J7, F7⟩ := fin H6 s7 _ I7
   exact hRR C H6 s7 m7 hn7 J7 F7 qn
  ·refine thn (T.item (q28 X scope cl C x N { s2 with heap := h3 } H3 fp) rfl rfl rfl hc i [] s6 _ H6 _ I6 (fp5 fr6) st6 go) fun r s7 ⟨u, hr, h7⟩ => ?_
   subst hr
   refine thn h7 fun _ s8 ⟨x8, H8, I8, r8, y8, st8, fr8⟩ => ?_
   have I8' := I8.pinned (fp5 fr8) (T.obj _ _ st8)
   refine wpAny_assign_Name (q266 (i := 0) I8' hok.nd rfl hx' r8 (fun s9 I9 => ?_) (.inr ((rel x).trans hok.hx')))
   have I9' : Inv (q28 X scope cl C x N { s2 with heap := h3 } H3 fp) ([] ++ q344 fp s8.heap) (some x8 :: fr.map fun j => (σ[j]?).getD none) H8 s9 := I9
   refine wpAny_mono (he C { s2 with heap := h3 } H3 fp _ s9 _ H8 _ I9' (step x8 H8 y8)) (fun y s10 h10 => ?_) fun _ _ z => False.elim z
   obtain ⟨y10, H10, I10, r10, n10⟩ := h10
   obtain ⟨hD10, m', hm, w10⟩ := hN' y10 H10 n10
   refine wpAny_mono (q86 (X := q28 X scope cl C x N { s2 with heap := h3 } H3 fp) _ s10 _ H10 (.ref D) [y10] (.ref D) [y] (fun _ H' => H' = upd H10 D (.lst (ys ++ [y10]))) I10 rfl (.cons r10 .nil) ⟨D, ys, y10, rfl, rfl, hD10, hlen, rfl⟩) (fun _ s11 h11 => ?_) fun _ _ z => False.elim z
   obtain ⟨_, H11, I11, _, e11⟩ := h11
   subst e11
   refine ⟨m', hm, i + 1, some x8, ys ++ [y10], _, I11.unpinned, T.keep _ _ _ st8 fun b hb o e => (I11.pin (b, o) (List.mem_append_right _ (List.mem_append_right _ (q42 hb e)))).1, fun b hb => ?_, w10⟩
   obtain ⟨o, e, d⟩ := T.obj _ _ st8 b hb
   exact (I11.pin (b, o) (List.mem_append_right _ (List.mem_append_right _ (q42 hb e)))).2.1
 exact codeAny_compStart_list loop (T.self _ 0 _ _ _ st4 loop)
theorem Inv.let_go {X : Cx} {pins : List (Addr × Obj)} {σ : St} {H : Hp} {s : Shared} {C : Addr} {h' : Heap} (I : Inv X pins σ H s) (F : FpOk X pins H C) (sb : Heap.SameBut C s.heap h') : Inv X pins σ H { s with heap := h' } := by
 obtain ⟨f0, f1, _, f3, f4, f5⟩ := F
 exact I.turned (t' := s.toks) (fun b o hb e => (sb.2 b hb).trans e) f0 f1 f3 f4 f5
theorem q232 {X : Cx} {elt iter : Expr} {x : Str} {px pos : Pos} {scope sc0 : Scope} {cl : List (Str × Addr)} {cn N : List Str} {fr : List Nat} {wi : TI} {te : TE}
  (hc : X.calm = true) (hi : PI X (.Name x px) iter wi) (he : ∀ (C : Addr) (s₂ : Shared) (H₂ : Hp) (fp : List Addr), PE (q28 X scope cl C x N s₂ H₂ fp) elt te)
  (hclos : closureFor scope X.env = pure cl) (hcl : q102 X.env cl) (hcn : cl.map (·.1) = cn) (hsc : X.env.scope = sc0) (hk : scope.kind = .function) (hok : CompOk scope sc0 x N cn)
  (hfr : fr.map (fun j => X.N[j]?) = N.map some) (hs : ∀ v, foldedSetIterable iter X.env v = pure v := by intro _; rfl) :
  PE X (.ListComp elt [⟨.Name x px, iter, [], 0⟩] scope pos) (tComp wi te fr) := by
 intro pins s σ H Q I h
 rw [eval_ListComp]
 refine wpAny_comprehension_free (use := none) rfl hs hclos hk hok.names (thn (hi pins s σ H _ I h) fun v s1 h1 => thn h1 fun itv s2 h2 => ?_)
 obtain ⟨it, fp, tn, J, H2, e, I2, T, st2, f2, hq⟩ := h2
 subst e
 obtain ⟨W, ⟨m0, w0⟩, turn⟩ := hq s2.heap.objs.size (I2.hok.fresh (Nat.le_refl _))
 exact q598 (RR := fun acc C => compPost (model X.prog X.w) X.A X.xe none (EP X pins σ Q) acc C) (R := fun H6 => Q (.ref s2.heap.objs.size) H6) hc he hcl hcn hsc hk hok hfr I2 T st2 f2 w0 turn
  fun C H6 s6 m6 hn I6 F6 q => ⟨m6, hn, fun h' sb => ⟨.ref s2.heap.objs.size, H6, I6.let_go F6 sb, rfl, q⟩⟩
theorem comp_tup {K : PySem.W.Frag} {a : Addr} {xs : List V} {T : V -> Hp -> (V -> Hp -> Prop) -> Prop} {D : Addr} {H1 : Hp} {R : Hp -> Prop} (hn : xs.length <= sizeLine) (Pv : Nat -> List V -> Hp -> Prop) (h0 : Pv 0 [] (upd H1 D (.lst [])))
  (hl : ∀ i ys H, Pv i ys H -> SqT K H a xs) (hD : ∀ i ys H, Pv i ys H -> H D = some (.lst ys) /\ ys.length = i)
  (hs : ∀ i x ys H, xs[i]? = some x -> Pv i ys H -> T x H fun y H3 => H3 D = some (.lst ys) /\ Pv (i + 1) (ys ++ [y]) (upd H3 D (.lst (ys ++ [y]))))
  (hd : ∀ ys H, Pv xs.length ys H -> R H) :
  ∃ W : Nat -> Nat -> List V -> Hp -> Prop, (∃ m, W 0 m [] (upd H1 D (.lst []))) /\
   ∀ i m ys H2, W i m ys H2 -> H2 D = some (.lst ys) /\ (((Itt K a).stop i H2 /\ R H2) \/ ((Itt K a).go i H2 /\ ys.length < sizeLine /\ ∃ N : V -> Hp -> Prop, (∀ y H3, N y H3 -> H3 D = some (.lst ys) /\ ∃ m', m' < m /\ W (i + 1) m' (ys ++ [y]) (upd H3 D (.lst (ys ++ [y])))) /\
    ∀ x H', (Itt K a).yld i H2 x H' -> T x H' N)) := by
 refine ⟨fun i m ys H => m = xs.length - i /\ i <= xs.length /\ Pv i ys H, ⟨xs.length, by simp, Nat.zero_le _, h0⟩, ?_⟩
 rintro i m ys H2 ⟨rfl, hi, p⟩
 obtain ⟨d1, d2⟩ := hD i ys H2 p
 have q := hl i ys H2 p
 refine ⟨d1, ?_⟩
 by_cases hlt : i < xs.length
 ·refine .inr ⟨⟨xs, xs[i], q, by simp [hlt]⟩, by omega, fun y H3 => H3 D = some (.lst ys) /\ Pv (i + 1) (ys ++ [y]) (upd H3 D (.lst (ys ++ [y]))), fun y H3 ⟨z1, z2⟩ => ⟨z1, xs.length - (i + 1), by omega, rfl, hlt, z2⟩, fun x H' y => ?_⟩
  obtain ⟨e, y⟩ := y
  subst e
  exact hs i x ys _ (y xs q) p
 ·have e : i = xs.length := by omega
  subst e
  exact .inl ⟨⟨xs, q, Nat.le_refl _⟩, hd ys H2 p⟩
end L2
namespace HT
open PySem PySem.Spec PyProof.Rows
section
variable {prog : Program} {w : World} {A : Around} {E : Value -> Shared -> Prop} {s : Shared}
theorem q536 {t sl : Addr} {items : Array Value} {vl vu : Value} {lo hi : Option Int} {Q : Value -> Shared -> Prop} (ht : IsTup s.heap t items) (hs : s.heap.IsSliceOf sl vl vu .none) (pl : IsPart vl lo) (pu : IsPart vu hi)
  (h0 : sIx items.size 0 lo = 0) (h1 : sIx items.size items.size hi = items.size) (h : Q (.ref t) s) : wpAny (model prog w) A (getItem (.ref t) (.ref sl)) Q E s := by
 obtain ⟨os, hos, hcs, hds⟩ := id hs
 have hTs : s.TypeIs (.ref sl) "slice" := ⟨os, hos, hcs⟩
 have hT : s.TypeIs (.ref t) "tuple" := ht.typeIs
 unfold getItem
 try with_reducible refine wpAny_holding ?_
 first | refine wpAny_bind (wpAny_pure ?_) | skip
 refine wpAny_bind (wpAny_sequenceKey ht.typeIs (by decide) ?_)
 refine wpAny_bind (wpAny_callSpecial?_slot (name := Str.ofString "__getitem__") ht.typeIs PyProof.Rows.slot_tuple_getitem
  (wpAny_call_entry PyProof.Rows.slot_tuple_getitem ht.typeIs entry_tuple_getitem ?_ (args_tuple_getitem _ _)))
 show wpAny _ _ (Builtin.Tuple.tupleItemsOf (.ref t) >>= _) _ _ s
 refine wpAny_bind (tupleItemsOf_ ht ?_)
 refine wpAny_bind (wpAny_typeOf hTs ?_)
 rw [if_pos (by decide)]
 refine wpAny_bind (q153 hs pl pu ?_)
 have hyes : ((((sIx items.size 0 lo : Nat) : Int) == 0 && (1 : Int) == 1 && (sIx items.size items.size hi - sIx items.size 0 lo) == items.size) = true) := by
  rw [h0, h1]; simp
 show wpAny _ _ (if (((sIx items.size 0 lo : Nat) : Int) == 0 && (1 : Int) == 1 && (sIx items.size items.size hi - sIx items.size 0 lo) == items.size) = true then _ else _) _ _ s
 rw [if_pos hyes]
 first
  | exact wpAny_bind (wpAny_typeOf hT (wpAny_pure ⟨_, rfl, wpAny_pure h⟩))
  | exact wpAny_pure ⟨_, rfl, wpAny_pure h⟩
  | exact wpAny_bind (wpAny_pure ⟨_, rfl, wpAny_pure h⟩)
  | (wp_walk; exact ⟨_, rfl, wpAny_pure h⟩)
  | (wp_walk; exact ⟨_, rfl, h⟩)
end
end HT
namespace L2
open PySem PySem.Spec PyProof.Rows
def TupF (H : Hp) (a : Addr) (xs : List V) : Prop := ∃ o : Obj, H a = some (.frz o (.tup xs)) /\ o.cls = .type "tuple" /\ o.dict = none
theorem TupF.sq {K : PySem.W.Frag} {H : Hp} {a : Addr} {xs : List V} (h : TupF H a xs) : SqT K H a xs := by
 obtain ⟨o, h, _⟩ := h
 exact .inl (.inr ⟨o, h⟩)
theorem TupF.same {H H' : Hp} {a : Addr} {xs : List V} (h : TupF H a xs) (s : Same H H') : TupF H' a xs := by
 obtain ⟨o, h, c⟩ := h
 exact ⟨o, s _ _ h, c⟩
section
variable {X : Cx}
theorem q135 : CallR X (.type "tuple") (fun xs H Q => ∃ p ys, xs = [.ref p] /\ SqL X.K H p ys /\ ∀ l H', Same H H' -> TupF H' l ys -> Q (.ref l) H') := by
 intro pins s σ H xs us Q I r h
 obtain ⟨p, ys, rfl, hq, q⟩ := h
 obtain ⟨u, rfl, rx⟩ := vals1 r
 cases rx
 obtain ⟨its, r', pl, hz⟩ := I.list hq
 have hlen := r'.length
 refine call_tuple_list pl.isList (fun h' kp => ?_) (by simp only [List.size_toArray] <;> omega)
 have I1 : Inv X pins σ H { s with heap := h' } := I.kept (t' := s.toks) kp
 have I2 : Inv X pins σ (upd H h'.objs.size (.frz { cls := .type "tuple", data := .seq its.toArray } (.tup ys))) { s with heap := h'.push { cls := .type "tuple", data := .seq its.toArray } } :=
  I1.laid (t' := s.toks) (fun b o e => Heap.get?_push_of_some _ e) (Nat.le_refl _) (show ObjOk X.prog X.w _ _ _ (.frz _ (.tup ys)) from ⟨Heap.get?_push_size _ rfl, hz, its, r', IsTup.new _ _⟩)
 exact ⟨.ref h'.objs.size, _, I2, rfl, q _ _ (q15 (I1.hok.fresh (Nat.le_refl _)) _) ⟨_, q13, rfl, rfl⟩⟩
theorem cutV_all {xs : List V} {lo hi : Option Int} (h0 : HT.sIx xs.length 0 lo = 0) (h1 : HT.sIx xs.length xs.length hi = xs.length) : cutV xs lo hi = xs := by
 unfold cutV
 rw [h0, h1, List.drop_zero, Nat.sub_zero, List.take_length]
theorem q157 : SlR X (fun x lo hi H Q => ∃ a xs, x = .ref a /\ TupF H a xs /\ ∀ p H', Same H H' -> TupF H' p (cutV xs lo hi) -> Q (.ref p) H') := by
 intro pins s σ H x v vl vu lo hi sl Q I rx hs pl pu h
 obtain ⟨a, xs, rfl, hx, q⟩ := h
 cases rx
 obtain ⟨its, r, ht, hz⟩ := I.tuple (hx.sq (K := X.K))
 have hlen : its.toArray.size = xs.length := by rw [List.size_toArray]; exact r.length.symm
 refine ⟨"tuple", _, PyProof.Rows.slot_tuple_getitem.lookup, ht.typeIs, ?_⟩
 by_cases hw : HT.sIx xs.length 0 lo = 0 /\ HT.sIx xs.length xs.length hi = xs.length
 ·refine HT.q536 ht hs pl pu (by rw [hlen]; exact hw.1) (by rw [hlen]; exact hw.2) ⟨.ref a, H, I, rfl, q a H (Same.refl H) ?_⟩
  rw [cutV_all hw.1 hw.2]
  exact hx
 ·refine HT.q533 ht hs pl pu (by rw [hlen]; exact hw) ?_ (by rw [hlen]; exact hz)
  rw [hlen]
  refine ⟨.ref s.heap.objs.size, _, I.laid (t' := s.toks) (o := .frz { cls := .type "tuple", data := .seq ((its.toArray.toList.drop (HT.sIx xs.length 0 lo)).take (HT.sIx xs.length xs.length hi - HT.sIx xs.length 0 lo)).toArray } (.tup (cutV xs lo hi))) (fun b ob q => Heap.get?_push_of_some _ q) (Nat.le_refl _) ?_, rfl,
   q _ _ (q15 (I.hok.fresh (Nat.le_refl _)) _) ⟨_, q13, rfl, rfl⟩⟩
  exact ⟨Heap.get?_push_size _ rfl, Nat.le_trans (q279 xs lo hi) hz, _, (r.drop (HT.sIx xs.length 0 lo)).take (HT.sIx xs.length xs.length hi - HT.sIx xs.length 0 lo), IsTup.new _ _⟩
theorem q233 {x : V} : ∀ {xs : List V} {us : List Value}, Vals xs us -> xs.all flatV = true -> us.countP (eqU x) = xs.countP fun y => eqV y x
 | _, _, .nil, _ => rfl
 | y :: xs, u :: us, .cons r t, f => by
  rw [List.all_cons, Bool.and_eq_true] at f
  rw [List.countP_cons, List.countP_cons, q594 r f.1, q233 t f.2]
theorem q599 : MtR X "tuple.count" (fun x xs H Q => ∃ a ys v, x = .ref a /\ xs = [v] /\ SqT X.K H a ys /\ flatV v = true /\ ys.all flatV = true /\ Q (.int (ys.countP fun y => eqV y v : Nat)) H) := by
 intro pins s σ H x xs v us Q I rx rv h
 obtain ⟨a, ys, y, rfl, rfl, ha, f1, f2, q⟩ := h
 cases rx
 obtain ⟨u, rfl, ru⟩ := rv.one
 obtain ⟨its, r, p, hz⟩ := I.tuple ha
 obtain ⟨⟨cls, dd, data, sl⟩, ho, hc, n, hd⟩ := id p
 simp only at hc hd
 subst hc hd
 refine call_meets F.slot_tuple_count ⟨_, ho, rfl⟩ F.entry_tuple_count (F.args_tuple_count_2 _ _) (SeqAt.tuple_countAt a its.toArray n dd sl u (eqU y)) ⟨ho, fun z hz => q267 ru f1 r f2 z (by simpa using hz), ?_⟩
 refine ⟨.int (ys.countP fun y' => eqV y' y : Nat), H, I.tok _, ?_, q⟩
 rw [<- q233 r f2]
 exact ⟨_, rfl⟩
def tBMF (T : String) (r : V -> List V -> Hp -> VK -> Prop) (to : TE) (t : TA) : TE := fun σ H Q => to σ H fun x H1 => (∃ a o u, x = .ref a /\ H1 a = some (.frz o u) /\ o.cls = .type T /\ o.dict = none) /\ t σ H1 fun xs H2 => r x xs H2 Q
variable {o e : Expr} {es : List Expr} {to : TE} {t : TA} {name : Str} {apos cpos : Pos} {T id : String} {r : V -> List V -> Hp -> VK -> Prop}
theorem pe_bmF (pa : PlainAttrs T) (slot : Slot T name id) (hty : typeOf (.builtin id) = pure (.type "method_descriptor")) (hm : MtR X id r) (ho : PE X o to) (ha : PA X (e :: es) t)
  (hbase : attributeBase o name X.env (eval o X.env) = eval o X.env := by rfl)
  (hfew : ((backTo cpos (starEach (e :: es) X.env)).all (fun x => !x.1) && (backToKw cpos (keywordEach [] X.env)).all (fun x => x.1.isSome)
   && decide ((e :: es).length + ([] : List Keyword).length + (if ([] : List Keyword).isEmpty then 0 else 1) < 30)) = true := by rfl)
  (hline : (apos.endLine == cpos.line) = true := by rfl) (hs : starEach (e :: es) X.env = (false, eval e X.env) :: starEach es X.env := by rfl) (hplain : (backTo cpos (starEach es X.env)).any (·.1) = false := by rfl) :
  PE X (.Call (.Attribute o name apos) (e :: es) [] cpos) (tBMF T r to t) := by
 intro pins s σ H Q I h
 refine wpAny_Call_method_late hbase hfew hline rfl (thn (ho pins s σ H _ I h) fun v s1 ⟨x, H1, I1, r1, ty, q1⟩ => ?_)
 obtain ⟨a, ob, u, rfl, hH, hc, hd⟩ := ty
 cases r1
 obtain ⟨hg, _⟩ := I1.hok a _ hH
 refine ⟨T, id, pa, slot, hty, ⟨ob, hg, hc⟩, fun b eb => ?_, ?_⟩
 ·cases eb
  exact ⟨ob, hg, hd⟩
 have hA := ha cpos pins s1 σ H1 _ I1 q1
 rw [hs] at hA ⊢
 refine Calls.callWith_builtin (by show (false || (backTo cpos (starEach es X.env)).any (·.1)) = false; rw [hplain] <;> rfl) (Calls.evalArgs_plain ?_)
 exact thn hA fun us s2 ⟨vs, H2, I2, r2, q2⟩ => hm pins s2 σ H2 (.ref a) vs (.ref a) us Q I2 rfl r2 q2
end
end L2
namespace L2
open PySem PySem.Spec PyProof.Rows
section
variable {X : Cx}
theorem q600 (hu : X.A.units + 64 < cLine) : OpR X (compareOp .NotEq) (fun x y H Q => ∃ (a b : Addr) (ns ms : List Int), x = .ref a /\ y = .ref b /\ SqL X.K H a (ns.map V.int) /\ SqL X.K H b (ms.map V.int) /\ Q (.bl (!decide (ns = ms))) H) := by
 intro pins s σ H x y v u Q I rx ry h
 obtain ⟨a, b, ns, ms, rfl, rfl, ha, hb, q⟩ := h
 cases rx
 cases ry
 obtain ⟨its, r1, p1, _⟩ := I.list ha
 obtain ⟨its2, r2, p2, _⟩ := I.list hb
 exact PySem.W.ke_ne_ints p1.isList p2.isList (q77 r1) (q77 r2) hu ⟨.bl _, H, I, rfl, q⟩
end
end L2
namespace L2
open PySem PySem.Spec PyProof.Rows
def q601 (wi : TI) (tt : TT) (te : TE) (fr : List Nat) : TE := fun σ H Q => wi σ H fun J H1 => ∀ D, H1 D = none -> ∃ W : Nat -> Nat -> List V -> Hp -> Prop, (∃ m, W 0 m [] (upd H1 D (.lst []))) /\
 ∀ i m ys H2, W i m ys H2 -> H2 D = some (.lst ys) /\ ((J.stop i H2 /\ Q (.ref D) H2) \/ (J.go i H2 /\ ys.length < sizeLine /\ ∃ N : V -> Hp -> Prop, (∀ y H3, N y H3 -> H3 D = some (.lst ys) /\ ∃ m', m' < m /\ W (i + 1) m' (ys ++ [y]) (upd H3 D (.lst (ys ++ [y])))) /\
  ∀ x H', J.yld i H2 x H' -> tt (some x :: fr.map fun j => (σ[j]?).getD none) H' fun b H3 => if b = true then te (some x :: fr.map fun j => (σ[j]?).getD none) H3 N else ∃ m', m' < m /\ W (i + 1) m' ys H3))
section
variable {prog : Program} {w : World} {A : Around} {R : Result -> Shared -> Prop} {s : Shared}
abbrev nbOf (prog : Program) (w : World) (A : Around) (env : Env) (R : Result -> Shared -> Prop) : Value -> Shared -> Prop := notedBy (model prog w) A env fun e s' => R (.error e) s'
theorem q459 {elt target iter cc : Expr} {scope : Scope} {pos : Pos} {it acc : Value} {env : Env} (I : Nat -> Shared -> Prop)
  (turn : ∀ n s, I n s -> wpAny (model prog w) A (pyNext it) (fun r s₁ => match r with
   | none => R (.ok .next) s₁
   | some v => wpAny (model prog w) A (letOwnedTupleGo target it v) (fun _ s₁' => wpAny (model prog w) A (assign target env v) (fun _ s₂ => wpAny (model prog w) A (isTrue cc env (eval cc env)) (fun okb s₂' => if okb = true then
     wpAny (model prog w) A (eval elt env) (fun x s₃ => wpAny (model prog w) A (call (.builtin "list.append") [acc, x]) (fun _ s₄ => ∃ m, m < n /\ I m s₄) (nbOf prog w A env R) s₃) (nbOf prog w A env R) s₂'
     else ∃ m, m < n /\ I m s₂') (nbOf prog w A env R) s₂) (nbOf prog w A env R) s₁') (nbOf prog w A env R) s₁) (nbOf prog w A env R) s)
  (n : Nat) (h : I n s) :
  codeAny (model prog w) A (.compLoop (.ListComp elt [⟨target, iter, [cc], 0⟩] scope pos) 0 it acc env) R s := by
 refine codeAny_loop rfl I (fun n s hI => ?_) n h
 show wpAny _ _ ((compTurn (.ListComp elt [⟨target, iter, [cc], 0⟩] scope pos) 0 it acc env).onRaise (fun x => do noteFrame x env; theTreesLotGoes x)) _ _ s
 refine wpAny_noted ?_
 rw [compTurn_list]
 refine wpAny_bind (wpAny_standAt (wpAny_bind (wpAny_mono (turn n s hI) (fun r s₁ h₁ => ?_) fun _ _ h' => h')))
 cases r with
 | none => exact wpAny_pure h₁
 | some v =>
  refine wpAny_bind (wpAny_mono h₁ (fun _ s₁' h₁' => wpAny_bind (wpAny_mono h₁' (fun _ s₂ h₂ => wpAny_bind (wpAny_tests_one (wpAny_mono h₂ (fun okb s₂' h₂' => ?_) fun _ _ h' => h'))) fun _ _ h' => h')) fun _ _ h' => h')
  cases okb with
  | false => exact wpAny_pure ⟨rfl, h₂'⟩
  | true => exact wpAny_bind (wpAny_bind (wpAny_mono h₂' (fun x s₃ h₃ => wpAny_bind (wpAny_mono h₃ (fun _ s₄ h₄ => wpAny_pure (wpAny_pure ⟨rfl, h₄⟩)) fun _ _ h' => h')) fun _ _ h' => h'))
end
theorem q283 {X : Cx} {elt iter cc : Expr} {x : Str} {px pos : Pos} {scope sc0 : Scope} {cl : List (Str × Addr)} {cn N : List Str} {fr : List Nat} {tt : TT} {te : TE} {pins : List (Addr × Obj)} {σ : St} {H2 : Hp} {s2 : Shared} {it : Addr} {fp : List Addr}
  {tn : Nat -> Heap -> Prop} {J : It} {RR : Value -> Addr -> Result -> Shared -> Prop} {R : Hp -> Prop} {E : Value -> Shared -> Prop} {W : Nat -> Nat -> List V -> Hp -> Prop} {m0 : Nat}
  (hc : X.calm = true) (he : ∀ (C : Addr) (s₂ : Shared) (H₂ : Hp) (fp : List Addr), PE (q28 X scope cl C x N s₂ H₂ fp) elt te) (hct : ∀ (C : Addr) (s₂ : Shared) (H₂ : Hp) (fp : List Addr), PT (q28 X scope cl C x N s₂ H₂ fp) cc tt)
  (hcl : q102 X.env cl) (hcn : cl.map (·.1) = cn) (hsc : X.env.scope = sc0) (hk : scope.kind = .function) (hok : CompOk scope sc0 x N cn) (hfr : fr.map (fun j => X.N[j]?) = N.map some)
  (I2 : Inv X pins σ H2 s2) (T : Turn X.prog X.w X.K (.Name x px) J fp it tn) (st2 : tn 0 s2.heap) (f2 : ∀ b ∈ fp, FpOk X pins H2 b)
  (w0 : W 0 m0 [] (upd H2 s2.heap.objs.size (.lst [])))
  (turn : ∀ i m ys H, W i m ys H -> H s2.heap.objs.size = some (.lst ys) /\ ((J.stop i H /\ R H) \/ (J.go i H /\ ys.length < sizeLine /\ ∃ N : V -> Hp -> Prop,
   (∀ y H3, N y H3 -> H3 s2.heap.objs.size = some (.lst ys) /\ ∃ m', m' < m /\ W (i + 1) m' (ys ++ [y]) (upd H3 s2.heap.objs.size (.lst (ys ++ [y])))) /\
   ∀ x H', J.yld i H x H' -> tt (some x :: fr.map fun j => (σ[j]?).getD none) H' fun b H3 => if b = true then te (some x :: fr.map fun j => (σ[j]?).getD none) H3 N else ∃ m', m' < m /\ W (i + 1) m' ys H3)))
  (hRR : ∀ (C : Addr) (H6 : Hp) (s6 : Shared) (m6 : Str -> Option Value), s6.heap.Ns C m6 -> Inv X pins σ H6 s6 -> FpOk X pins H6 C -> R H6 -> RR (.ref s2.heap.objs.size) C (.ok .next) s6) :
  wpAny (model X.prog X.w) X.A (newList []) (fun acc s₃ => wpAny (model X.prog X.w) X.A (newFunctionEnv scope X.env.globals cl [] X.env.qual none .none (some X.env)) (fun cenv s₄ =>
   codeAny (model X.prog X.w) X.A (.compStart (.ListComp elt [⟨.Name x px, iter, [cc], 0⟩] scope pos) 0 (.ref it) acc { cenv with scope := relabel scope X.env }) (RR acc cenv.locals) s₄) E s₃) E s2 := by
 refine wpAny_newObj_type (wpAny_newFunctionEnv hok.nc (by intro y hy; simp at hy) (fun h4 hns hsb => ?_) hk)
 dsimp only at hns hsb ⊢
 have rel : ∀ y, (compEnvC scope cl 0 X.env).scope.names.lookup y = (relN scope sc0).lookup y := fun y => by
  show (relabel scope X.env).names.lookup y = _
  unfold relabel relN Env.kindOf
  rw [hsc]
 generalize hD : s2.heap.objs.size = D at *
 have I3 : Inv X pins σ (upd H2 D (.lst [])) { s2 with heap := s2.heap.push { cls := .type "list", dict := none, data := .seq ([] : List Value).toArray } } :=
  I2.laid (t' := s2.toks) (fun b u e => Heap.get?_push_of_some _ e) (Nat.le_of_eq hD) ⟨Nat.zero_le _, [], 0, .nil, by rw [<- hD]; exact Heap.get?_push_size _ rfl⟩
 have k23 : ∀ b u, s2.heap.get? b = some u -> (s2.heap.push { cls := .type "list", dict := none, data := .seq ([] : List Value).toArray }).get? b = some u := fun b u e => Heap.get?_push_of_some _ e
 have hsz : s2.heap.objs.size <= (s2.heap.push { cls := .type "list", dict := none, data := .seq ([] : List Value).toArray }).objs.size := by rw [Heap.size_push]; exact Nat.le_succ _
 generalize hh3 : s2.heap.push { cls := .type "list", dict := none, data := .seq ([] : List Value).toArray } = h3 at *
 have k34 : ∀ b u, h3.get? b = some u -> h4.get? b = some u := fun b u e => (hsb.2 b (Nat.ne_of_lt (Heap.lt_size e))).trans (Heap.get?_push_of_some _ e)
 generalize hC : h3.objs.size = C at *
 have I4 : Inv X pins σ (upd H2 D (.lst [])) { s2 with heap := h4, toks := s2.toks + ([] : List (Str × Value)).length } := I3.kept (t' := s2.toks + 0) k34
 generalize hH3 : upd H2 D (.lst []) = H3 at *
 have ltC : ∀ b o, s2.heap.get? b = some o -> b < C := fun b o e => Nat.lt_of_lt_of_le (Heap.lt_size e) hsz
 have lenF : fr.length = N.length := by simpa using congrArg List.length hfr
 have fpo : ∀ b ∈ fp, b ≠ C /\ b ∉ frs X.stack := fun b hb => by
  obtain ⟨o, e, _⟩ := T.obj 0 s2.heap st2 b hb
  refine ⟨Nat.ne_of_lt (ltC b o e), fun z => ?_⟩
  obtain ⟨_, n1, n2, _⟩ := f2 b hb
  rcases List.mem_cons.mp (I2.stkSub b z) with q | q
  ·exact n1 q
  ·exact n2 q
 have H3C : H3 C = none := I3.hok.fresh (Nat.le_of_eq hC)
 have okX : (q28 X scope cl C x N { s2 with heap := h3 } H3 fp).Ok := by
  refine ⟨I2.ok.mod, hk, I2.ok.glob, I2.ok.blt, Nat.le_of_eq hC, fun y z c e1 e2 => I2.ok.inj y z c (hcl.look e1) (hcl.look e2), fun y hy => ?_, fun y c z => (fnt z).elim, fun z => I2.ok.hd z, I2.ok.frames, .inl rfl,
   fun b hb => ⟨(fpo b hb).1, fun y c e => (f2 b hb).2.2.2.2.1 y c (hcl.look e)⟩, fun b o e => I3.bs b o e, Nat.le_trans I2.ok.bsz I3.sz, fun b o e hb => ?_, fun b hb => (fpo b hb).2, I3.stack, I3.stkFree⟩
  ·have hy' : (relN scope sc0).lookup y = some .cell \/ (relN scope sc0).lookup y = some .free := by
    rcases hy with hy | hy
    ·exact .inl ((rel y).symm.trans hy)
    ·exact .inr ((rel y).symm.trans hy)
   have hm : y ∈ cn := by
    rcases hy' with q | q
    ·exact hok.has (y, .cell) (q98 q) (.inl rfl)
    ·exact hok.has (y, .free) (q98 q) (.inr rfl)
   exact q78 (cl := cl) (n := y) (by rw [hcn]; exact hm)
  ·rcases (f2 b hb).2.2.2.1 with z | z
   ·exact I2.ok.noex b o e z
   ·exact absurd (Nat.lt_of_lt_of_le (Heap.lt_size e) (Nat.le_trans I2.ok.bsz z)) (Nat.lt_irrefl _)
 have I5 : Inv (q28 X scope cl C x N { s2 with heap := h3 } H3 fp) [] (none :: fr.map fun j => (σ[j]?).getD none) H3 { s2 with heap := h4, toks := s2.toks + ([] : List (Str × Value)).length } := by
  refine ⟨okX, rfl, I4.bare, Un.kept k34, ⟨_, hns, fun i y v e1 e2 e3 => ?_⟩, fun y c e => I4.cell y c (hcl.look e), H3C, fun y c e => I4.freeC y c (hcl.look e), fun p hp => absurd (show p ∈ ([] : List (Addr × Obj)) from hp) (by simp), I4.hok, by simp [q28, lenF]⟩
  cases i with
  | zero => cases e2
  | succ j =>
   have e1' : N[j]? = some y := e1
   have e2' : (fr.map fun j => (σ[j]?).getD none)[j]? = some (some v) := e2
   obtain ⟨k, ek⟩ : ∃ k, fr[j]? = some k := by
    have : j < fr.length := by rw [lenF]; exact (List.getElem?_eq_some_iff.mp e1').1
    exact ⟨fr[j], List.getElem?_eq_getElem this⟩
   rw [List.getElem?_map, ek] at e2'
   have e2'' : (σ[k]?).getD none = some v := Option.some.inj e2'
   have eσ : σ[k]? = some (some v) := by
    cases q : σ[k]? with
    | none => rw [q] at e2''; cases e2''
    | some o => rw [q] at e2''; exact congrArg some e2''
   have eN : X.N[k]? = some y := by
    have z := congrArg (fun l => l[j]?) hfr
    simp only [List.getElem?_map, ek, e1', Option.map_some] at z
    exact Option.some.inj z
   obtain ⟨r1, r2, r3⟩ := hok.frs y (List.mem_of_getElem? e1')
   obtain ⟨m, _, hl⟩ := I4.loc
   obtain ⟨u, ru, look⟩ := hl k y v eN eσ (.inr (.inl (by rw [hsc]; exact r2)))
   refine ⟨u, ru, .inr ⟨.inl ((rel y).trans r1), ?_⟩⟩
   rcases look with ⟨l1, _⟩ | ⟨_, c, l1, l2⟩
   ·exfalso
    have l1' : X.env.scope.names.lookup y = some .local := l1
    rw [hsc, r2] at l1'
    cases l1'
   ·obtain ⟨c', l3⟩ := q78 (cl := cl) (n := y) (by rw [hcn]; exact r3)
    have l4 := hcl.look l3
    rw [l1] at l4
    cases l4
    exact ⟨c, l3, l2⟩
 have st4 : tn 0 h4 := T.keep 0 s2.heap h4 st2 fun b hb o e => k34 b o (k23 b o e)
 have fp5 : ∀ {H' : Hp}, (∀ b ∈ fp, H' b = none) -> ∀ b ∈ fp, FpOk (q28 X scope cl C x N { s2 with heap := h3 } H3 fp) [] H' b := fun hn b hb =>
  ⟨hn b hb, (fpo b hb).1, (fpo b hb).2, .inl hb, fun y c e => (f2 b hb).2.2.2.2.1 y c (hcl.look e), fun p hp => absurd (show p ∈ ([] : List (Addr × Obj)) from hp) (by simp)⟩
 have fr3 : ∀ b ∈ fp, H3 b = none := fun b hb => by
  obtain ⟨o, e, _⟩ := T.obj 0 s2.heap st2 b hb
  have : b ≠ D := Nat.ne_of_lt (hD ▸ Heap.lt_size e)
  rw [<- hH3, q36 this]
  exact (f2 b hb).1
 have hx' : Loc (q28 X scope cl C x N { s2 with heap := h3 } H3 fp).env.scope x := .inl ((rel x).trans hok.hx')
 have fin : ∀ (H6 : Hp) (s6 : Shared) (σ6 : St), Inv (q28 X scope cl C x N { s2 with heap := h3 } H3 fp) [] σ6 H6 s6 -> Inv X pins σ H6 s6 /\ FpOk X pins H6 C := by
  intro H6 s6 σ6 I6
  refine ⟨I3.call' (s' := s6) (ch := fp) I6.os ⟨I6.base.keep, I6.base.slot, I6.base.free, I6.base.there, I6.base.tups, I6.base.frzs, I6.base.tbls⟩ I6.hok I6.bare (fun b hb => ?_), I3.fpOk (Nat.le_of_eq hC) I6.free⟩
  obtain ⟨_, n1, _, n3, n4, n5⟩ := f2 b hb
  exact ⟨n3, n1, n4, n5⟩
 have loop : codeAny (model X.prog X.w) X.A (.compLoop (.ListComp elt [⟨.Name x px, iter, [cc], 0⟩] scope pos) 0 (.ref it) (.ref D) (compEnvC scope cl C X.env))
   (RR (.ref D) C) { s2 with heap := h4, toks := s2.toks + ([] : List (Str × Value)).length } := by
  refine q459 (fun n s' => ∃ i v0 ys H', Inv (q28 X scope cl C x N { s2 with heap := h3 } H3 fp) [] (v0 :: fr.map fun j => (σ[j]?).getD none) H' s' /\ tn i s'.heap /\ (∀ b ∈ fp, H' b = none) /\ W i n ys H') ?_ m0
   ⟨0, none, [], H3, I5, st4, fr3, w0⟩
  rintro n s6 ⟨i, v0, ys, H6, I6, st6, fr6, w6⟩
  obtain ⟨hDl, hw⟩ := turn i n ys H6 w6
  rcases hw with ⟨stop, qn⟩ | ⟨go, hlen, N', hN', step⟩
  ·refine thn (T.done (q28 X scope cl C x N { s2 with heap := h3 } H3 fp) rfl rfl rfl hc i [] s6 _ H6 _ I6 (fp5 fr6) st6 stop) fun r s7 ⟨hr, I7⟩ => ?_
   subst hr
   obtain ⟨m7, hn7, _⟩ := I7.loc
   obtain ⟨J7, F7⟩ := fin H6 s7 _ I7
   exact hRR C H6 s7 m7 hn7 J7 F7 qn
  ·refine thn (T.item (q28 X scope cl C x N { s2 with heap := h3 } H3 fp) rfl rfl rfl hc i [] s6 _ H6 _ I6 (fp5 fr6) st6 go) fun r s7 ⟨u, hr, h7⟩ => ?_
   subst hr
   refine thn h7 fun _ s8 ⟨x8, H8, I8, r8, y8, st8, fr8⟩ => ?_
   have I8' := I8.pinned (fp5 fr8) (T.obj _ _ st8)
   refine wpAny_assign_Name (q266 (i := 0) I8' hok.nd rfl hx' r8 (fun s9 I9 => ?_) (.inr ((rel x).trans hok.hx')))
   have I9' : Inv (q28 X scope cl C x N { s2 with heap := h3 } H3 fp) ([] ++ q344 fp s8.heap) (some x8 :: fr.map fun j => (σ[j]?).getD none) H8 s9 := I9
   refine wpAny_mono (hct C { s2 with heap := h3 } H3 fp _ s9 _ H8 _ I9' (step x8 H8 y8)) (fun okb s9b h9b => ?_) fun _ _ z => False.elim z
   obtain ⟨H9, I9b, n9⟩ := h9b
   cases okb with
   | false =>
    rw [if_neg fnt] at n9 ⊢
    obtain ⟨m', hm, w9⟩ := n9
    refine ⟨m', hm, i + 1, some x8, ys, _, I9b.unpinned, T.keep _ _ _ st8 fun b hb o e => (I9b.pin (b, o) (List.mem_append_right _ (List.mem_append_right _ (q42 hb e)))).1, fun b hb => ?_, w9⟩
    obtain ⟨o, e, d⟩ := T.obj _ _ st8 b hb
    exact (I9b.pin (b, o) (List.mem_append_right _ (List.mem_append_right _ (q42 hb e)))).2.1
   | true =>
    rw [if_pos rfl] at n9 ⊢
    refine wpAny_mono (he C { s2 with heap := h3 } H3 fp _ s9b _ H9 _ I9b n9) (fun y s10 h10 => ?_) fun _ _ z => False.elim z
    obtain ⟨y10, H10, I10, r10, n10⟩ := h10
    obtain ⟨hD10, m', hm, w10⟩ := hN' y10 H10 n10
    refine wpAny_mono (q86 (X := q28 X scope cl C x N { s2 with heap := h3 } H3 fp) _ s10 _ H10 (.ref D) [y10] (.ref D) [y] (fun _ H' => H' = upd H10 D (.lst (ys ++ [y10]))) I10 rfl (.cons r10 .nil) ⟨D, ys, y10, rfl, rfl, hD10, hlen, rfl⟩) (fun _ s11 h11 => ?_) fun _ _ z => False.elim z
    obtain ⟨_, H11, I11, _, e11⟩ := h11
    subst e11
    refine ⟨m', hm, i + 1, some x8, ys ++ [y10], _, I11.unpinned, T.keep _ _ _ st8 fun b hb o e => (I11.pin (b, o) (List.mem_append_right _ (List.mem_append_right _ (q42 hb e)))).1, fun b hb => ?_, w10⟩
    obtain ⟨o, e, d⟩ := T.obj _ _ st8 b hb
    exact (I11.pin (b, o) (List.mem_append_right _ (List.mem_append_right _ (q42 hb e)))).2.1
 exact codeAny_compStart_list loop (T.self _ 0 _ _ _ st4 loop)
theorem q284 {X : Cx} {elt iter cc : Expr} {x : Str} {px pos : Pos} {scope sc0 : Scope} {cl : List (Str × Addr)} {cn N : List Str} {fr : List Nat} {wi : TI} {tt : TT} {te : TE}
  (hc : X.calm = true) (hi : PI X (.Name x px) iter wi) (he : ∀ (C : Addr) (s₂ : Shared) (H₂ : Hp) (fp : List Addr), PE (q28 X scope cl C x N s₂ H₂ fp) elt te) (hct : ∀ (C : Addr) (s₂ : Shared) (H₂ : Hp) (fp : List Addr), PT (q28 X scope cl C x N s₂ H₂ fp) cc tt)
  (hclos : closureFor scope X.env = pure cl) (hcl : q102 X.env cl) (hcn : cl.map (·.1) = cn) (hsc : X.env.scope = sc0) (hk : scope.kind = .function) (hok : CompOk scope sc0 x N cn)
  (hfr : fr.map (fun j => X.N[j]?) = N.map some) (hs : ∀ v, foldedSetIterable iter X.env v = pure v := by intro _; rfl) :
  PE X (.ListComp elt [⟨.Name x px, iter, [cc], 0⟩] scope pos) (q601 wi tt te fr) := by
 intro pins s σ H Q I h
 rw [eval_ListComp]
 refine wpAny_comprehension_free (use := none) rfl hs hclos hk hok.names (thn (hi pins s σ H _ I h) fun v s1 h1 => thn h1 fun itv s2 h2 => ?_)
 obtain ⟨it, fp, tn, J, H2, e, I2, T, st2, f2, hq⟩ := h2
 subst e
 obtain ⟨W, ⟨m0, w0⟩, turn⟩ := hq s2.heap.objs.size (I2.hok.fresh (Nat.le_refl _))
 exact q283 (RR := fun acc C => compPost (model X.prog X.w) X.A X.xe none (EP X pins σ Q) acc C) (R := fun H6 => Q (.ref s2.heap.objs.size) H6) hc he hct hcl hcn hsc hk hok hfr I2 T st2 f2 w0 turn
  fun C H6 s6 m6 hn I6 F6 q => ⟨m6, hn, fun h' sb => ⟨.ref s2.heap.objs.size, H6, I6.let_go F6 sb, rfl, q⟩⟩
def q537 (i : Nat) (wi : TI) (tt : TT) (te : TE) (fr : List Nat) : TS := fun D σ H => q601 wi tt te fr σ H fun v H1 => D.nx (σ.set i (some v)) H1
theorem q409 {X : Cx} {i : Nat} {y : Str} {py spos : Pos} {elt iter cc : Expr} {x : Str} {px pos : Pos} {scope sc0 : Scope} {cl : List (Str × Addr)} {cn N : List Str} {fr : List Nat} {wi : TI} {tt : TT} {te : TE}
  (hN : X.N.Nodup) (hiN : X.N[i]? = some y) (hy : Loc X.env.scope y)
  (hc : X.calm = true) (hi : PI X (.Name x px) iter wi) (he : ∀ (C : Addr) (s₂ : Shared) (H₂ : Hp) (fp : List Addr), PE (q28 X scope cl C x N s₂ H₂ fp) elt te) (hct : ∀ (C : Addr) (s₂ : Shared) (H₂ : Hp) (fp : List Addr), PT (q28 X scope cl C x N s₂ H₂ fp) cc tt)
  (hclos : closureFor scope X.env = pure cl) (hcl : q102 X.env cl) (hcn : cl.map (·.1) = cn) (hsc : X.env.scope = sc0) (hk : scope.kind = .function) (hok : CompOk scope sc0 x N cn)
  (hfr : fr.map (fun j => X.N[j]?) = N.map some) (hsw : swapsWith (.ListComp elt [⟨.Name x px, iter, [cc], 0⟩] scope pos) (some (.Name y py)) spos.line X.env = pure true)
  (hf : X.fn y = true \/ X.env.scope.names.lookup y = some .local) (hs : ∀ v, foldedSetIterable iter X.env v = pure v := by intro _; rfl) :
  PS X (.Assign [.Name y py] (.ListComp elt [⟨.Name x px, iter, [cc], 0⟩] scope pos) spos) (q537 i wi tt te fr) := by
 intro pins s σ H D I h
 rw [exec_Assign_Name_used _ _ _ _ hsw]
 refine wpAny_bind (wpAny_standAt (wpAny_bind ?_))
 show wpAny _ X.A (do let _ <- comprehension (.ListComp elt [⟨.Name x px, iter, [cc], 0⟩] scope pos) scope X.env _ (newList []) false (eval iter X.env) (some (assign (.Name y py) X.env))) _ _ s
 refine wpAny_bind (wpAny_mono (wpAny_comprehension_free (use := some (assign (.Name y py) X.env)) (Q := fun _ s' => SP X pins D .next s') rfl hs hclos hk hok.names
  (thn (hi pins s σ H _ I h) fun v s1 h1 => thn h1 fun itv s2 h2 => ?_)) (fun _ s' hq => wpAny_pure (wpAny_pure hq)) fun _ _ e => e)
 obtain ⟨it, fp, tn, J, H2, e, I2, T, st2, f2, hq⟩ := h2
 subst e
 obtain ⟨W, ⟨m0, w0⟩, turn⟩ := hq s2.heap.objs.size (I2.hok.fresh (Nat.le_refl _))
 refine q283 (RR := fun acc C => compPost (model X.prog X.w) X.A X.xe (some (assign (.Name y py) X.env)) (fun _ s' => SP X pins D .next s') acc C) (R := fun H6 => D.nx (σ.set i (some (.ref s2.heap.objs.size))) H6) hc he hct hcl hcn hsc hk hok hfr I2 T st2 f2 w0 turn
  fun C H6 s6 m6 hn I6 F6 q => ?_
 show wpAny _ X.A (assign (.Name y py) X.env (.ref s2.heap.objs.size)) _ _ _
 refine wpAny_assign_Name (q399 (v := .ref s2.heap.objs.size) I6 hN hiN hy rfl (fun s7 I7 ⟨a, sb, ha⟩ => ?_) hf)
 have neC : C ≠ a := by
  rcases ha with ha | ha
  ·rw [ha]; exact F6.2.1
  ·exact Ne.symm (F6.2.2.2.2.1 y a ha)
 exact ⟨m6, hn.sameBut sb neC, fun h' sb' => ⟨_, H6, I7.let_go F6 sb', q⟩⟩
theorem q460 {K : PySem.W.Frag} {a : Addr} {xs : List V} {p : V -> Bool} {g : V -> V} {Tt : V -> Hp -> (Bool -> Hp -> Prop) -> Prop} {Te : V -> Hp -> (V -> Hp -> Prop) -> Prop} {D : Addr} {H1 : Hp} {R : Hp -> Prop}
  (ha : SqL K H1 a xs) (hD : H1 D = none) (hn : xs.length <= sizeLine) (hT : ∀ x ∈ xs, ∀ (H : Hp) (Q : Bool -> Hp -> Prop), Same H1 H -> Q (p x) H -> Tt x H Q) (hE : ∀ x ∈ xs, p x = true -> ∀ (H : Hp) (Q : V -> Hp -> Prop), Same H1 H -> Q (g x) H -> Te x H Q)
  (hR : R (upd H1 D (.lst ((xs.filter p).map g)))) :
  ∃ W : Nat -> Nat -> List V -> Hp -> Prop, (∃ m, W 0 m [] (upd H1 D (.lst []))) /\
   ∀ i m ys H2, W i m ys H2 -> H2 D = some (.lst ys) /\ (((Itl K a).stop i H2 /\ R H2) \/ ((Itl K a).go i H2 /\ ys.length < sizeLine /\ ∃ N : V -> Hp -> Prop, (∀ y H3, N y H3 -> H3 D = some (.lst ys) /\ ∃ m', m' < m /\ W (i + 1) m' (ys ++ [y]) (upd H3 D (.lst (ys ++ [y])))) /\
    ∀ x H', (Itl K a).yld i H2 x H' -> Tt x H' fun b H3 => if b = true then Te x H3 N else ∃ m', m' < m /\ W (i + 1) m' ys H3)) := by
 refine ⟨fun i m ys H => m = xs.length - i /\ i <= xs.length /\ ys = ((xs.take i).filter p).map g /\ H = upd H1 D (.lst ys), ⟨xs.length, by simp, Nat.zero_le _, by simp, rfl⟩, ?_⟩
 rintro i m ys H2 ⟨rfl, hi, hy, rfl⟩
 have sm : Same H1 (upd H1 D (.lst ys)) := q15 hD _
 have q := sm.seq ha
 have hyl : ys.length <= i := by
  rw [hy, List.length_map]
  exact Nat.le_trans (List.length_filter_le _ _) (by rw [List.length_take]; exact Nat.min_le_left _ _)
 refine ⟨q13, ?_⟩
 by_cases hlt : i < xs.length
 ·refine .inr ⟨⟨xs, xs[i], q, by simp [hlt]⟩, by omega, fun y H3 => H3 = upd H1 D (.lst ys) /\ y = g xs[i] /\ p xs[i] = true, fun y H3 ⟨z1, z2, z3⟩ => ⟨by rw [z1]; exact q13, xs.length - (i + 1), by omega, rfl, hlt, ?eq, by rw [z1, q228]⟩, fun x H' y => ?st⟩
  case eq =>
   rw [List.take_succ_eq_append_getElem hlt, List.filter_append, List.map_append, <- hy, z2]
   simp [z3]
  case st =>
   obtain ⟨e, y⟩ := y
   subst e
   have hx : xs[i]? = some x := y xs q
   have hx' : xs[i] = x := by simpa [hlt] using hx
   have hm : x ∈ xs := by rw [<- hx']; exact List.getElem_mem hlt
   refine hT x hm _ _ sm ?_
   by_cases hp : p x = true
   ·rw [if_pos hp]
    exact hE x hm hp _ _ sm ⟨rfl, by rw [hx'], by rw [hx']; exact hp⟩
   ·rw [if_neg hp]
    refine ⟨xs.length - (i + 1), by omega, rfl, hlt, ?_, rfl⟩
    rw [List.take_succ_eq_append_getElem hlt, List.filter_append, List.map_append, <- hy, hx']
    simp [hp]
 ·have e : i = xs.length := by omega
  subst e
  refine .inl ⟨⟨xs, q, Nat.le_refl _⟩, ?_⟩
  rw [hy, List.take_length]
  exact hR
end L2
namespace L2
open PySem PySem.Spec PyProof.Rows
section
variable {P : Program} {w : World} {K : PySem.W.Frag} {mg : Str -> Option Value} {base : Heap}
def prevSp (sp : Nat -> Sp) : Nat -> Sp
 | 0 => fun _ _ _ _ => False
 | e + 1 => sp e
theorem Def.recur {sp : Nat -> Sp} {x : Str} {st : Stmt} {ps : List Str} (d : Def K mg x st ps) {k : Nat} (n : Nat)
  (step : ∀ e, e <= n -> Cal P w K mg base (e + k) x ps (prevSp sp e) -> ∀ (f : Addr) (fd : FuncData), Fun K x x st f fd -> FnOk P w K mg base CX0 (e + (k + 1)) f fd ps (sp e)) :
  Cal P w K mg base (n + (k + 1)) x ps (fun vs H Q E => ∃ e, e <= n /\ sp e vs H Q E) := by
 obtain ⟨f, fd, h1, h2, h3⟩ := d.ex
 have all : ∀ e, e <= n -> FnOk P w K mg base CX0 (e + (k + 1)) f fd ps (sp e) := by
  intro e
  induction e with
  | zero => exact fun he => step 0 he ⟨f, fd, ⟨fun _ _ _ _ h => h.elim, fun _ _ _ _ _ _ _ _ _ _ _ _ _ h => h.elim⟩, .all h2, h1.kp, h3⟩ f fd h1
  | succ e ih => exact fun he => step (e + 1) he ⟨f, fd, (ih (by omega)).mono (by omega), .all h2, h1.kp, h3⟩ f fd h1
 refine ⟨f, fd, ⟨?_, ?_⟩, .all h2, h1.kp, h3⟩
 ·rintro vs H Q E ⟨e, he, h⟩
  exact (all e he).len vs H Q E h
 ·rintro A outer s H args us vs Q E hr he hb hv ⟨e, hle, h⟩
  exact (all e hle).run A outer s H args us vs Q E (hr.mono (by omega)) he hb hv h
end
theorem q538 {K : PySem.W.Frag} {a : Addr} {xs : List V} {g : V -> V} {Te : V -> Hp -> (V -> Hp -> Prop) -> Prop} {D : Addr} {H1 : Hp} {R : Hp -> Prop}
  (ha : SqL K H1 a xs) (hD : H1 D = none) (hn : xs.length <= sizeLine) (hE : ∀ x ∈ xs, ∀ (H : Hp) (Q : V -> Hp -> Prop), Same H1 H -> Q (g x) H -> Te x H Q) (hR : R (upd H1 D (.lst (xs.map g)))) :
  ∃ W : Nat -> Nat -> List V -> Hp -> Prop, (∃ m, W 0 m [] (upd H1 D (.lst []))) /\
   ∀ i m ys H2, W i m ys H2 -> H2 D = some (.lst ys) /\ (((Itl K a).stop i H2 /\ R H2) \/ ((Itl K a).go i H2 /\ ys.length < sizeLine /\ ∃ N : V -> Hp -> Prop, (∀ y H3, N y H3 -> H3 D = some (.lst ys) /\ ∃ m', m' < m /\ W (i + 1) m' (ys ++ [y]) (upd H3 D (.lst (ys ++ [y])))) /\
    ∀ x H', (Itl K a).yld i H2 x H' -> Te x H' N)) := by
 refine ⟨fun i m ys H => m = xs.length - i /\ i <= xs.length /\ ys = (xs.take i).map g /\ H = upd H1 D (.lst ys), ⟨xs.length, by simp, Nat.zero_le _, by simp, rfl⟩, ?_⟩
 rintro i m ys H2 ⟨rfl, hi, hy, rfl⟩
 have sm : Same H1 (upd H1 D (.lst ys)) := q15 hD _
 have q := sm.seq ha
 have hyl : ys.length <= i := by
  rw [hy, List.length_map, List.length_take]; exact Nat.min_le_left _ _
 refine ⟨q13, ?_⟩
 by_cases hlt : i < xs.length
 ·refine .inr ⟨⟨xs, xs[i], q, by simp [hlt]⟩, by omega, fun y H3 => H3 = upd H1 D (.lst ys) /\ y = g xs[i], fun y H3 ⟨z1, z2⟩ => ⟨by rw [z1]; exact q13, xs.length - (i + 1), by omega, rfl, hlt, ?eq, by rw [z1, q228]⟩, fun x H' y => ?st⟩
  case eq =>
   rw [List.take_succ_eq_append_getElem hlt, List.map_append, <- hy, z2]
   rfl
  case st =>
   obtain ⟨e, y⟩ := y
   subst e
   have hx : xs[i]? = some x := y xs q
   have hx' : xs[i] = x := by simpa [hlt] using hx
   have hm : x ∈ xs := by rw [<- hx']; exact List.getElem_mem hlt
   exact hE x hm _ _ sm ⟨rfl, by rw [hx']⟩
 ·have e : i = xs.length := by omega
  subst e
  refine .inl ⟨⟨xs, q, Nat.le_refl _⟩, ?_⟩
  rw [hy, List.take_length]
  exact hR
section
variable {X : Cx}
theorem q602 (hu : X.A.units + 64 < cLine) : OpR X (compareOp .Eq) (fun x y H Q => ∃ (a b : Addr) (ns ms : List Int), x = .ref a /\ y = .ref b /\ SqL X.K H a (ns.map V.int) /\ SqL X.K H b (ms.map V.int) /\ Q (.bl (decide (ns = ms))) H) := by
 intro pins s σ H x y v u Q I rx ry h
 obtain ⟨a, b, ns, ms, rfl, rfl, ha, hb, q⟩ := h
 cases rx
 cases ry
 obtain ⟨its, r1, p1, _⟩ := I.list ha
 obtain ⟨its2, r2, p2, _⟩ := I.list hb
 exact PySem.W.ke_eq_ints p1.isList p2.isList (q77 r1) (q77 r2) hu ⟨.bl _, H, I, rfl, q⟩
theorem q410 : CallR X (.builtin "sorted") (fun xs H Q => ∃ (p : Addr) (ns : List Int), xs = [.ref p] /\ SqL X.K H p (ns.map V.int) /\ ns.length < 64 /\ ∀ (l : Addr) (ms : List Int), H l = none -> ms.Perm ns -> ms.Pairwise (· <= ·) -> Q (.ref l) (upd H l (.lst (ms.map V.int)))) := by
 intro pins s σ H xs us Q I r h
 obtain ⟨p, ns, rfl, hq, h64, q⟩ := h
 obtain ⟨u, rfl, rx⟩ := vals1 r
 cases rx
 obtain ⟨its, r', pl, hz⟩ := I.list hq
 have hl := r'.length
 rw [List.length_map] at hl hz
 refine PyProof.Rows.sorted_ints pl.isList (q77 r') (by omega) fun out ms a1 a2 a3 => ?_
 obtain ⟨e, he⟩ := PyProof.Rows.sortedAll_at s.heap its out
 have hml : ms.length = ns.length := a2.length_eq
 refine ⟨.ref (s.heap.objs.size + 1), _, I.laid (t' := s.toks) (a := s.heap.objs.size + 1) (o := .lst (ms.map V.int)) (fun b ob z => PyProof.Rows.sortedAll_old z) (Nat.le_succ _) ?_, rfl, q _ ms (I.hok.fresh (Nat.le_succ _)) a2 a3⟩
 refine ⟨by rw [List.length_map]; omega, out.toList, e, q281 a1, ?_⟩
 rw [he]
def tRev (K : PySem.W.Frag) (te : TE) : TE := fun σ H Q => te σ H fun x H1 => ∃ a xs, x = .ref a /\ SqL K H1 a xs /\ ∀ p, H1 p = none -> Q (.ref p) (upd H1 p (.lst xs.reverse))
theorem pe_rev {e : Expr} {te : TE} {p1 p2 p3 pos : Pos} {k : Nat} (he : PE X e te) : PE X (.Subscript e (.Slice none none (some (.UnaryOp .USub (.Constant (.int 1) k p1) p3)) p2) pos) (tRev X.K te) := by
 intro pins s σ H Q I h
 refine Subscript_ (thn (he pins s σ H _ I h) fun v s1 ⟨x, H1, I1, r1, q1⟩ => ?_)
 obtain ⟨a, xs, rfl, hx, q⟩ := q1
 cases r1
 have hst : PO X (some (.UnaryOp .USub (.Constant (.int 1) k p1) p3)) (tPart (tUn (rU fun i => .int (-i)) fun _ H Q => Q (.int 1) H)) := q44 (pe_un q401 q14)
 refine wpAny_Slice (thn (q52 (X := X) pins s1 σ H1 (fun o H' => o = none /\ H' = H1) I1 ⟨rfl, rfl⟩) fun vl s2 ⟨l, H2, I2, pl, el, e2⟩ => thn (q52 (X := X) pins s2 σ H2 (fun o H' => o = none /\ H' = H1) I2 ⟨rfl, e2⟩) fun vu s3 ⟨u, H3, I3, pu, eu, e3⟩ =>
  thn (hst pins s3 σ H3 (fun o H' => o = some (-1) /\ H' = H1) I3 ⟨_, rfl, ⟨_, rfl, rfl, e3⟩⟩) fun vk s4 ⟨kk, H4, I4, pk, ek, e4⟩ => ?_)
 subst el eu ek e4
 have I5 : Inv X pins σ H4 { s4 with heap := s4.heap.push { cls := .type "slice", data := .fields #[vl, vu, vk] } } := I4.kept (t' := s4.toks) fun b ob q => Heap.get?_push_of_some _ q
 obtain ⟨its, r, ht, hz⟩ := I5.list hx
 have hlen := r.length
 show wpAny (model X.prog X.w) X.A (subscriptTail e _ (.ref a) (.ref s4.heap.objs.size)) (EP X pins σ Q) X.xe { s4 with heap := s4.heap.push { cls := .type "slice", data := .fields #[vl, vu, vk] } }
 refine tail_any (ops := [.ref a, .ref s4.heap.objs.size]) ht.isList.typeIs slot_list_getitem.lookup ?_ (by with_unfolding_all rfl)
 refine wpAny_getItem_list_slice ht.isList (Heap.IsSliceOf.new ..) pl pu pk (by simp) ?_ (by rw [List.size_toArray] <;> omega)
 rw [PySem.W.krv_pick]
 refine ⟨.ref _, _, I5.laid (t' := s4.toks) (o := .lst xs.reverse) (fun b ob q => Heap.get?_push_of_some _ q) (Nat.le_refl _) ?_, rfl, q _ (I5.hok.fresh (Nat.le_refl _))⟩
 exact ⟨by rw [List.length_reverse]; exact hz, _, 0, r.reverse, Heap.get?_push_size _ rfl⟩
end
section
variable {X : Cx} {K : PySem.W.Frag}
theorem q365 (h : X.K = K) : IxR X (rIxT K) := by subst h; exact q22
theorem q603 (h : X.K = K) : CallR X (.builtin "len") (fun xs H Q => ∃ p ys, xs = [.ref p] /\ (SqL K H p ys \/ SqT K H p ys) /\ Q (.int ys.length) H) := by subst h; exact q24
theorem pe_bmK {o e : Expr} {es : List Expr} {to : TE} {t : TA} {name : Str} {apos cpos : Pos} {T id : String} {r : V -> List V -> Hp -> VK -> Prop} (h : X.K = K)
  (pa : PlainAttrs T) (slot : Slot T name id) (hty : typeOf (.builtin id) = pure (.type "method_descriptor")) (hm : MtR X id r) (ho : PE X o to) (ha : PA X (e :: es) t)
  (hbase : attributeBase o name X.env (eval o X.env) = eval o X.env := by rfl)
  (hfew : ((backTo cpos (starEach (e :: es) X.env)).all (fun x => !x.1) && (backToKw cpos (keywordEach [] X.env)).all (fun x => x.1.isSome) && decide ((e :: es).length + ([] : List Keyword).length + (if ([] : List Keyword).isEmpty then 0 else 1) < 30)) = true := by rfl)
  (hline : (apos.endLine == cpos.line) = true := by rfl) (hs : starEach (e :: es) X.env = (false, eval e X.env) :: starEach es X.env := by rfl) (hplain : (backTo cpos (starEach es X.env)).any (·.1) = false := by rfl) :
  PE X (.Call (.Attribute o name apos) (e :: es) [] cpos) (tBM K T r to t) := by subst h; exact pe_bm pa slot hty hm ho ha hbase hfew hline hs hplain
end
inductive Tr where
 | non
 | many (n : Int)
 | part (ms : List Int) (l r : Tr)
def q25 (H : Hp) : V -> Tr -> Prop
 | v, .non => v = .non
 | v, .many n => ∃ a, v = .ref a /\ H a = some (.tup [.str "many", .int n])
 | v, .part ms l r => ∃ a m x y, v = .ref a /\ H a = some (.tup [.str "part", .ref m, x, y]) /\ TupF H m (ms.map V.int) /\ q25 H x l /\ q25 H y r
def TKeep (H H' : Hp) : Prop := ∀ b xs, (H b = some (.tup xs) -> H' b = some (.tup xs)) /\ ∀ o, H b = some (.frz o (.tup xs)) -> H' b = some (.frz o (.tup xs))
theorem TKeep.trans {H H1 H2 : Hp} (a : TKeep H H1) (b : TKeep H1 H2) : TKeep H H2 := fun c xs => ⟨fun h => (b c xs).1 ((a c xs).1 h), fun o h => (b c xs).2 o ((a c xs).2 o h)⟩
theorem TKeep.same {H H' : Hp} (s : Same H H') : TKeep H H' := fun _ _ => ⟨s _ _, fun _ => s _ _⟩
theorem TKeep.keep {H H' : Hp} {p : Addr} {ys : List V} (s : Keep p H H') (e : H p = some (.lst ys)) : TKeep H H' := fun _ _ => ⟨fun h => s _ _ (ne_of h e (by intro z; cases z)) h, fun _ h => s _ _ (ne_of h e (by intro z; cases z)) h⟩
theorem TKeep.set {H : Hp} {p : Addr} {ys zs : List V} (e : H p = some (.lst ys)) : TKeep H (upd H p (.lst zs)) := .keep (Keep.set p H _) e
theorem TupF.tk {H H' : Hp} {a : Addr} {xs : List V} (h : TupF H a xs) (s : TKeep H H') : TupF H' a xs := by
 obtain ⟨o, h, c⟩ := h
 exact ⟨o, (s _ _).2 o h, c⟩
theorem q25.tk {H H' : Hp} (s : TKeep H H') : ∀ {t : Tr} {v : V}, q25 H v t -> q25 H' v t
 | .non, _, h => h
 | .many _, _, ⟨a, e, h⟩ => ⟨a, e, (s _ _).1 h⟩
 | .part _ _ _, _, ⟨a, m, x, y, e, h, hm, hl, hr⟩ => ⟨a, m, x, y, e, (s _ _).1 h, hm.tk s, q25.tk s hl, q25.tk s hr⟩
theorem q25.same {H H' : Hp} (s : Same H H') {t : Tr} {v : V} (h : q25 H v t) : q25 H' v t := h.tk (.same s)
section
variable {X : Cx}
theorem q500 {pins : List (Addr × Obj)} {σ : St} {H : Hp} {s : Shared} {A : Around} {a b : Addr} {xs ys : List V} (I : Inv X pins σ H s) (ha : SqT X.K H a xs) (hb : SqT X.K H b ys) (hl : xs.length = ys.length)
  (he : ∀ (j : Nat) (x y : V), xs[j]? = some x -> ys[j]? = some y -> ∀ u v, RelV x u -> RelV y v -> SeqAt.EqAt A.in1 s u v true) (hu : A.units < cLine) :
  SeqAt.RcAt A s (.ref a) (.ref b) true /\ SeqAt.RcNeAt A s (.ref a) (.ref b) false := by
 obtain ⟨its, r1, p1, _⟩ := I.tuple ha
 obtain ⟨its2, r2, p2, _⟩ := I.tuple hb
 have l1 := r1.length
 have l2 := r2.length
 have hz : its.toArray.size = its2.toArray.size := by rw [List.size_toArray, List.size_toArray]; omega
 have el : ∀ (j : Nat) (h1 : j < its.toArray.size) (h2 : j < its2.toArray.size), SeqAt.EqAt A.in1 s its.toArray[j] its2.toArray[j] ((fun _ => true) j) := by
  intro j h1 h2
  have h1' : j < xs.length := by rw [List.size_toArray] at h1; omega
  have h2' : j < ys.length := by rw [List.size_toArray] at h2; omega
  obtain ⟨v1, e1, r1'⟩ := r1.get (i := j) (x := xs[j]) (List.getElem?_eq_getElem h1')
  obtain ⟨v2, e2, r2'⟩ := r2.get (i := j) (x := ys[j]) (List.getElem?_eq_getElem h2')
  have g1 : its.toArray[j] = v1 := by
   have := List.getElem?_eq_some_iff.mp e1
   simpa using this.2
  have g2 : its2.toArray[j] = v2 := by
   have := List.getElem?_eq_some_iff.mp e2
   simpa using this.2
  rw [g1, g2]
  exact he j _ _ (List.getElem?_eq_getElem h1') (List.getElem?_eq_getElem h2') _ _ r1' r2'
 have t0 : ((List.range (min its.toArray.size its2.toArray.size)).all (fun _ => true) && its.toArray.size == its2.toArray.size) = true := by
  rw [hz]; simp
 constructor
 ·rw [<- t0]
  exact SeqAt.RcAt.tuples p1 p2 hu el
 ·have z := SeqAt.RcNeAt.tuples (e := fun _ => true) p1 p2 hu el
  rw [t0] at z
  exact z
theorem q501 {A : Around} {s : Shared} {a b : Addr} (h : SeqAt.RcAt A s (.ref a) (.ref b) true) : SeqAt.EqAt A s (.ref a) (.ref b) true := by
 by_cases e : a = b
 ·subst e
  exact SeqAt.EqAt.same _
 ·exact .of_refs e h
end
end L2
namespace L2
open PySem PySem.Spec PyProof.Rows
def onI {α : Type} (f : Int -> α) (d : α) : V -> α
 | .int n => f n
 | _ => d
theorem filt_onI {p : Int -> Bool} {g : Int -> V} (ns : List Int) : (((ns.map V.int).filter (onI p false)).map (onI g .non)) = (ns.filter p).map g := by
 induction ns with
 | nil => rfl
 | cons n ns ih =>
  rw [List.map_cons, List.filter_cons, List.filter_cons]
  have e : onI p false (.int n) = p n := rfl
  rw [e]
  by_cases h : p n = true
  ·rw [if_pos h, if_pos h, List.map_cons, List.map_cons, ih]; rfl
  ·rw [if_neg h, if_neg h]; exact ih
section
variable {K : PySem.W.Frag} {a : Addr} {ns : List Int} {p : Int -> Bool} {g : Int -> V} {Tt : V -> Hp -> (Bool -> Hp -> Prop) -> Prop} {Te : V -> Hp -> (V -> Hp -> Prop) -> Prop} {D : Addr} {H1 : Hp} {R : Hp -> Prop}
theorem q185 (ha : SqL K H1 a (ns.map V.int)) (hD : H1 D = none) (hn : ns.length <= sizeLine) (hT : ∀ n ∈ ns, ∀ (H : Hp) (Q : Bool -> Hp -> Prop), Same H1 H -> Q (p n) H -> Tt (.int n) H Q)
  (hE : ∀ n ∈ ns, p n = true -> ∀ (H : Hp) (Q : V -> Hp -> Prop), Same H1 H -> Q (g n) H -> Te (.int n) H Q) (hR : R (upd H1 D (.lst ((ns.filter p).map g)))) :
  ∃ W : Nat -> Nat -> List V -> Hp -> Prop, (∃ m, W 0 m [] (upd H1 D (.lst []))) /\
   ∀ i m ys H2, W i m ys H2 -> H2 D = some (.lst ys) /\ (((Itl K a).stop i H2 /\ R H2) \/ ((Itl K a).go i H2 /\ ys.length < sizeLine /\ ∃ N : V -> Hp -> Prop, (∀ y H3, N y H3 -> H3 D = some (.lst ys) /\ ∃ m', m' < m /\ W (i + 1) m' (ys ++ [y]) (upd H3 D (.lst (ys ++ [y])))) /\
    ∀ x H', (Itl K a).yld i H2 x H' -> Tt x H' fun b H3 => if b = true then Te x H3 N else ∃ m', m' < m /\ W (i + 1) m' ys H3)) := by
 refine q460 (p := onI p false) (g := onI g .non) ha hD (by rw [List.length_map]; exact hn) (fun x hx H Q s q => ?_) (fun x hx hp H Q s q => ?_) (by rw [filt_onI]; exact hR)
 ·obtain ⟨n, hm, rfl⟩ := List.mem_map.mp hx
  exact hT n hm H Q s q
 ·obtain ⟨n, hm, rfl⟩ := List.mem_map.mp hx
  exact hE n hm hp H Q s q
theorem q411 (ha : SqL K H1 a (ns.map V.int)) (hD : H1 D = none) (hn : ns.length <= sizeLine) (hE : ∀ n ∈ ns, ∀ (H : Hp) (Q : V -> Hp -> Prop), Same H1 H -> Q (g n) H -> Te (.int n) H Q) (hR : R (upd H1 D (.lst (ns.map g)))) :
  ∃ W : Nat -> Nat -> List V -> Hp -> Prop, (∃ m, W 0 m [] (upd H1 D (.lst []))) /\
   ∀ i m ys H2, W i m ys H2 -> H2 D = some (.lst ys) /\ (((Itl K a).stop i H2 /\ R H2) \/ ((Itl K a).go i H2 /\ ys.length < sizeLine /\ ∃ N : V -> Hp -> Prop, (∀ y H3, N y H3 -> H3 D = some (.lst ys) /\ ∃ m', m' < m /\ W (i + 1) m' (ys ++ [y]) (upd H3 D (.lst (ys ++ [y])))) /\
    ∀ x H', (Itl K a).yld i H2 x H' -> Te x H' N)) := by
 refine q538 (g := onI g .non) ha hD (by rw [List.length_map]; exact hn) (fun x hx H Q s q => ?_) (by rw [List.map_map]; exact hR)
 obtain ⟨n, hm, rfl⟩ := List.mem_map.mp hx
 exact hE n hm H Q s q
end
theorem Keep.own {p r : Addr} {H H' : Hp} {o : HO} (k : Keep p H H') (hr : H r = none) : Keep p H (upd H' r o) := fun c u hc z => by
 rw [q36 (q33 z hr)]
 exact k c u hc z
theorem p2pos (L : Nat) : (0 : Int) < 2 ^ L := by
 induction L with
 | zero => decide
 | succ L ih => rw [Int.pow_succ]; omega
theorem p2le {L : Nat} (h : L <= 40) : (2 : Int) ^ L <= 1099511627776 := by
 have e : (2 : Int) ^ L = ((2 ^ L : Nat) : Int) := by simp
 have : 2 ^ L <= 2 ^ 40 := Nat.pow_le_pow_right (by decide) h
 rw [e]
 have e2 : (2 : Nat) ^ 40 = 1099511627776 := by decide
 omega
theorem p2half (e : Nat) : (2 : Int) ^ (e + 1) / 2 = 2 ^ e := by rw [Int.pow_succ]; omega
theorem p2succ (e : Nat) : (2 : Int) ^ (e + 1) = 2 ^ e + 2 ^ e := by rw [Int.pow_succ]; omega
theorem p2one {e : Nat} (h : (2 : Int) ^ e = 1) : e = 0 := by
 cases e with
 | zero => rfl
 | succ e => have := p2pos e; rw [p2succ] at h; omega
theorem q502 (L : Nat) : (1 : Int) * 2 ^ ((L : Int)).toNat = 2 ^ L := by rw [Int.one_mul]; rfl
end L2
namespace L2
open PySem PySem.Spec PyProof.Rows
inductive Alk (K : PySem.W.Frag) (H : Hp) : Nat -> V -> V -> Prop where
 | flat {n : Nat} {x : V} (h : flatV x = true) : Alk K H n x x
 | tup {n : Nat} {a b : Addr} {xs ys : List V} (ha : SqT K H a xs) (hb : SqT K H b ys) (hl : xs.length = ys.length) (h : ∀ (j : Nat) (x y : V), xs[j]? = some x -> ys[j]? = some y -> Alk K H n x y) : Alk K H (n + 1) (.ref a) (.ref b)
 | lst {n : Nat} {a b : Addr} {xs ys : List V} (ha : SqL K H a xs) (hb : SqL K H b ys) (hl : xs.length = ys.length) (h : ∀ (j : Nat) (x y : V), xs[j]? = some x -> ys[j]? = some y -> Alk K H n x y) : Alk K H (n + 1) (.ref a) (.ref b)
theorem q503 : ∀ {x : V}, flatV x = true -> eqV x x = true := by
 intro x h
 cases x <;> simp [flatV] at h <;> simp [eqV]
section
variable {X : Cx}
theorem q504 {pins : List (Addr × Obj)} {σ : St} {H : Hp} {s : Shared} {A : Around} {a b : Addr} {xs ys : List V} (I : Inv X pins σ H s) (ha : SqL X.K H a xs) (hb : SqL X.K H b ys) (hl : xs.length = ys.length)
  (he : ∀ (j : Nat) (x y : V), xs[j]? = some x -> ys[j]? = some y -> ∀ u v, RelV x u -> RelV y v -> SeqAt.EqAt A.in1 s u v true) (hu : A.units < cLine) :
  SeqAt.RcAt A s (.ref a) (.ref b) true /\ SeqAt.RcNeAt A s (.ref a) (.ref b) false := by
 obtain ⟨its, r1, p1, _⟩ := I.list ha
 obtain ⟨its2, r2, p2, _⟩ := I.list hb
 have l1 := r1.length
 have l2 := r2.length
 have hz : its.toArray.size = its2.toArray.size := by rw [List.size_toArray, List.size_toArray]; omega
 have el : ∀ (j : Nat) (h1 : j < its.toArray.size) (h2 : j < its2.toArray.size), SeqAt.EqAt A.in1 s its.toArray[j] its2.toArray[j] ((fun _ => true) j) := by
  intro j h1 h2
  have h1' : j < xs.length := by rw [List.size_toArray] at h1; omega
  have h2' : j < ys.length := by rw [List.size_toArray] at h2; omega
  obtain ⟨v1, e1, r1'⟩ := r1.get (i := j) (x := xs[j]) (List.getElem?_eq_getElem h1')
  obtain ⟨v2, e2, r2'⟩ := r2.get (i := j) (x := ys[j]) (List.getElem?_eq_getElem h2')
  have g1 : its.toArray[j] = v1 := by
   have := List.getElem?_eq_some_iff.mp e1
   simpa using this.2
  have g2 : its2.toArray[j] = v2 := by
   have := List.getElem?_eq_some_iff.mp e2
   simpa using this.2
  rw [g1, g2]
  exact he j _ _ (List.getElem?_eq_getElem h1') (List.getElem?_eq_getElem h2') _ _ r1' r2'
 have t0 : (List.range its.toArray.size).all (fun _ => true) = true := by simp
 constructor
 ·rw [<- t0]
  exact SeqAt.RcAt.lists p1.isList p2.isList hz hu el
 ·have z := SeqAt.RcNeAt.lists (e := fun _ => true) p1.isList p2.isList hz hu el
  rw [t0] at z
  exact z
theorem q505 {pins : List (Addr × Obj)} {σ : St} {H : Hp} {s : Shared} (I : Inv X pins σ H s) {n : Nat} {x y : V} (h : Alk X.K H n x y) : ∀ (A : Around) (u v : Value), RelV x u -> RelV y v -> A.units + n + 1 < cLine -> SeqAt.EqAt A s u v true := by
 induction h with
 | @flat n x hf =>
  intro A u v ru rv hu
  have z := eqAt_V (A := A) (s := s) ru rv hf hf
  rw [q503 hf] at z
  exact z
 | tup ha hb hl _ ih =>
  intro A u v ru rv hu
  cases ru
  cases rv
  exact q501 (q500 I ha hb hl (fun j x y h1 h2 u v r1 r2 => ih j x y h1 h2 A.in1 u v r1 r2 (by show A.units + 1 + _ + 1 < cLine; omega)) (by omega)).1
 | lst ha hb hl _ ih =>
  intro A u v ru rv hu
  cases ru
  cases rv
  exact q501 (q504 I ha hb hl (fun j x y h1 h2 u v r1 r2 => ih j x y h1 h2 A.in1 u v r1 r2 (by show A.units + 1 + _ + 1 < cLine; omega)) (by omega)).1
theorem q506 {pins : List (Addr × Obj)} {σ : St} {H : Hp} {s : Shared} (I : Inv X pins σ H s) {n : Nat} {a b : Addr} (h : Alk X.K H n (.ref a) (.ref b)) (A : Around) (hu : A.units + n + 1 < cLine) : SeqAt.RcAt A s (.ref a) (.ref b) true /\ SeqAt.RcNeAt A s (.ref a) (.ref b) false := by
 cases h with
 | flat hf => exact absurd hf (by simp [flatV])
 | tup ha hb hl h => exact q500 I ha hb hl (fun j x y h1 h2 u v r1 r2 => q505 I (h j x y h1 h2) A.in1 u v r1 r2 (by show A.units + 1 + _ + 1 < cLine; omega)) (by omega)
 | lst ha hb hl h => exact q504 I ha hb hl (fun j x y h1 h2 u v r1 r2 => q505 I (h j x y h1 h2) A.in1 u v r1 r2 (by show A.units + 1 + _ + 1 < cLine; omega)) (by omega)
theorem q507 (hu : X.A.units + 64 < cLine) : OpR X (compareOp .NotEq) (fun x y H Q => ∃ (n : Nat) (a b : Addr), x = .ref a /\ y = .ref b /\ Alk X.K H n (.ref a) (.ref b) /\ n <= 60 /\ Q (.bl false) H) := by
 intro pins s σ H x y v u Q I rx ry h
 obtain ⟨n, a, b, rfl, rfl, hk, hn, q⟩ := h
 cases rx
 cases ry
 exact (q506 I hk X.A (by omega)).2 _ _ _ _ ⟨.bl false, H, I, rfl, q⟩
theorem op_eqAlk (hu : X.A.units + 64 < cLine) : OpR X (compareOp .Eq) (fun x y H Q => ∃ (n : Nat) (a b : Addr), x = .ref a /\ y = .ref b /\ Alk X.K H n (.ref a) (.ref b) /\ n <= 60 /\ Q (.bl true) H) := by
 intro pins s σ H x y v u Q I rx ry h
 obtain ⟨n, a, b, rfl, rfl, hk, hn, q⟩ := h
 cases rx
 cases ry
 exact (q506 I hk X.A (by omega)).1 _ _ _ _ ⟨.bl true, H, I, rfl, q⟩
end
end L2
namespace L2
open PySem PySem.Spec PyProof.Rows
def PTs (X : Cx) (ifs : List Expr) (tt : TT) : Prop :=
 ∀ (pins : List (Addr × Obj)) (s : Shared) (σ : St) (H : Hp) (Q : Bool -> Hp -> Prop), Inv X pins σ H s -> tt σ H Q ->
  wpAny (model X.prog X.w) X.A (forIn ifs true fun c r => if r = true then do let ok <- isTrue c X.env (eval c X.env); pure (ForInStep.yield ok) else pure (ForInStep.yield r)) (TP X pins σ Q) X.xe s
theorem pts_one {X : Cx} {cc : Expr} {tt : TT} (h : PT X cc tt) : PTs X [cc] tt := fun pins s σ H Q I hw => wpAny_tests_one (h pins s σ H Q I hw)
structure CompOkG (scope sc0 : Scope) (N cn : List Str) : Prop where
 has : ∀ p ∈ relN scope sc0, (p.2 = .cell \/ p.2 = .free) -> p.1 ∈ cn
 nc : ∀ p ∈ scope.names, p.2 ≠ .cell
 names : ∀ p ∈ scope.names, p.2 = .local -> scope.names.lookup p.1 = some .local
 frs : ∀ y ∈ N, (relN scope sc0).lookup y = some .cell /\ sc0.names.lookup y = some .cell /\ y ∈ cn
def tCompG (k : Nat) (wi : TI) (gt : TG) (tt : TT) (te : TE) (fr : List Nat) : TE := fun σ H Q => wi σ H fun J H1 => ∀ D, H1 D = none -> ∃ W : Nat -> Nat -> List V -> Hp -> Prop, (∃ m, W 0 m [] (upd H1 D (.lst []))) /\
 ∀ i m ys H2, W i m ys H2 -> H2 D = some (.lst ys) /\ ((J.stop i H2 /\ Q (.ref D) H2) \/ (J.go i H2 /\ ys.length < sizeLine /\ ∃ (N : V -> Hp -> Prop) (Z : Hp -> Prop), (∀ y H3, N y H3 -> H3 D = some (.lst ys) /\ ∃ m', m' < m /\ W (i + 1) m' (ys ++ [y]) (upd H3 D (.lst (ys ++ [y])))) /\ (∀ H3, Z H3 -> ∃ m', m' < m /\ W (i + 1) m' ys H3) /\
  ∀ x H', J.yld i H2 x H' -> ∀ vs : St, vs.length = k -> gt x (vs ++ fr.map fun j => (σ[j]?).getD none) H' fun σ' H3 => (∃ vs' : St, vs'.length = k /\ σ' = vs' ++ fr.map fun j => (σ[j]?).getD none) /\ tt σ' H3 fun b H4 => if b = true then te σ' H4 N else Z H4))
section
variable {prog : Program} {w : World} {A : Around} {R : Result -> Shared -> Prop} {s : Shared}
theorem q539 {elt target iter : Expr} {ifs : List Expr} {scope : Scope} {pos : Pos} {it acc : Value} {env : Env} (I : Nat -> Shared -> Prop)
  (turn : ∀ n s, I n s -> wpAny (model prog w) A (pyNext it) (fun r s₁ => match r with
   | none => R (.ok .next) s₁
   | some v => wpAny (model prog w) A (letOwnedTupleGo target it v) (fun _ s₁' => wpAny (model prog w) A (assign target env v) (fun _ s₂ =>
     wpAny (model prog w) A (forIn ifs true fun c r => if r = true then do let ok <- isTrue c env (eval c env); pure (ForInStep.yield ok) else pure (ForInStep.yield r)) (fun okb s₂' => if okb = true then
     wpAny (model prog w) A (eval elt env) (fun x s₃ => wpAny (model prog w) A (call (.builtin "list.append") [acc, x]) (fun _ s₄ => ∃ m, m < n /\ I m s₄) (nbOf prog w A env R) s₃) (nbOf prog w A env R) s₂'
     else ∃ m, m < n /\ I m s₂') (nbOf prog w A env R) s₂) (nbOf prog w A env R) s₁') (nbOf prog w A env R) s₁) (nbOf prog w A env R) s)
  (n : Nat) (h : I n s) :
  codeAny (model prog w) A (.compLoop (.ListComp elt [⟨target, iter, ifs, 0⟩] scope pos) 0 it acc env) R s := by
 refine codeAny_loop rfl I (fun n s hI => ?_) n h
 show wpAny _ _ ((compTurn (.ListComp elt [⟨target, iter, ifs, 0⟩] scope pos) 0 it acc env).onRaise (fun x => do noteFrame x env; theTreesLotGoes x)) _ _ s
 refine wpAny_noted ?_
 rw [compTurn_list]
 refine wpAny_bind (wpAny_standAt (wpAny_bind (wpAny_mono (turn n s hI) (fun r s₁ h₁ => ?_) fun _ _ h' => h')))
 cases r with
 | none => exact wpAny_pure h₁
 | some v =>
  refine wpAny_bind (wpAny_mono h₁ (fun _ s₁' h₁' => wpAny_bind (wpAny_mono h₁' (fun _ s₂ h₂ => wpAny_bind (wpAny_mono h₂ (fun okb s₂' h₂' => ?_) fun _ _ h' => h')) fun _ _ h' => h')) fun _ _ h' => h')
  cases okb with
  | false => exact wpAny_pure ⟨rfl, h₂'⟩
  | true => exact wpAny_bind (wpAny_bind (wpAny_mono h₂' (fun x s₃ h₃ => wpAny_bind (wpAny_mono h₃ (fun _ s₄ h₄ => wpAny_pure (wpAny_pure ⟨rfl, h₄⟩)) fun _ _ h' => h')) fun _ _ h' => h'))
end
theorem q540 {X : Cx} {elt iter tg : Expr} {ifs : List Expr} {x : Str} {pos : Pos} {scope sc0 : Scope} {cl : List (Str × Addr)} {cn TN N : List Str} {fr : List Nat} {gt : TG} {tt : TT} {te : TE} {pins : List (Addr × Obj)} {σ : St} {H2 : Hp} {s2 : Shared} {it : Addr} {fp : List Addr}
  {tn : Nat -> Heap -> Prop} {J : It} {RR : Value -> Addr -> Result -> Shared -> Prop} {R : Hp -> Prop} {E : Value -> Shared -> Prop} {W : Nat -> Nat -> List V -> Hp -> Prop} {m0 : Nat}
  (hc : X.calm = true) (he : ∀ (C : Addr) (s₂ : Shared) (H₂ : Hp) (fp : List Addr), PE (q28 X scope cl C x (TN ++ N) s₂ H₂ fp) elt te) (hct : ∀ (C : Addr) (s₂ : Shared) (H₂ : Hp) (fp : List Addr), PTs (q28 X scope cl C x (TN ++ N) s₂ H₂ fp) ifs tt) (hgt : ∀ (C : Addr) (s₂ : Shared) (H₂ : Hp) (fp : List Addr), PG (q28 X scope cl C x (TN ++ N) s₂ H₂ fp) tg gt)
  (hcl : q102 X.env cl) (hcn : cl.map (·.1) = cn) (hsc : X.env.scope = sc0) (hk : scope.kind = .function) (hok : CompOkG scope sc0 N cn) (hfr : fr.map (fun j => X.N[j]?) = N.map some)
  (I2 : Inv X pins σ H2 s2) (T : Turn X.prog X.w X.K tg J fp it tn) (st2 : tn 0 s2.heap) (f2 : ∀ b ∈ fp, FpOk X pins H2 b)
  (w0 : W 0 m0 [] (upd H2 s2.heap.objs.size (.lst [])))
  (turn : ∀ i m ys H, W i m ys H -> H s2.heap.objs.size = some (.lst ys) /\ ((J.stop i H /\ R H) \/ (J.go i H /\ ys.length < sizeLine /\ ∃ (N : V -> Hp -> Prop) (Z : Hp -> Prop),
   (∀ y H3, N y H3 -> H3 s2.heap.objs.size = some (.lst ys) /\ ∃ m', m' < m /\ W (i + 1) m' (ys ++ [y]) (upd H3 s2.heap.objs.size (.lst (ys ++ [y])))) /\ (∀ H3, Z H3 -> ∃ m', m' < m /\ W (i + 1) m' ys H3) /\
   ∀ x H', J.yld i H x H' -> ∀ vs : St, vs.length = TN.length + 1 -> gt x (vs ++ fr.map fun j => (σ[j]?).getD none) H' fun σ' H3 => (∃ vs' : St, vs'.length = TN.length + 1 /\ σ' = vs' ++ fr.map fun j => (σ[j]?).getD none) /\ tt σ' H3 fun b H4 => if b = true then te σ' H4 N else Z H4)))
  (hRR : ∀ (C : Addr) (H6 : Hp) (s6 : Shared) (m6 : Str -> Option Value), s6.heap.Ns C m6 -> Inv X pins σ H6 s6 -> FpOk X pins H6 C -> R H6 -> RR (.ref s2.heap.objs.size) C (.ok .next) s6) :
  wpAny (model X.prog X.w) X.A (newList []) (fun acc s₃ => wpAny (model X.prog X.w) X.A (newFunctionEnv scope X.env.globals cl [] X.env.qual none .none (some X.env)) (fun cenv s₄ =>
   codeAny (model X.prog X.w) X.A (.compStart (.ListComp elt [⟨tg, iter, ifs, 0⟩] scope pos) 0 (.ref it) acc { cenv with scope := relabel scope X.env }) (RR acc cenv.locals) s₄) E s₃) E s2 := by
 refine wpAny_newObj_type (wpAny_newFunctionEnv hok.nc (by intro y hy; simp at hy) (fun h4 hns hsb => ?_) hk)
 dsimp only at hns hsb ⊢
 have rel : ∀ y, (compEnvC scope cl 0 X.env).scope.names.lookup y = (relN scope sc0).lookup y := fun y => by
  show (relabel scope X.env).names.lookup y = _
  unfold relabel relN Env.kindOf
  rw [hsc]
 generalize hD : s2.heap.objs.size = D at *
 have I3 : Inv X pins σ (upd H2 D (.lst [])) { s2 with heap := s2.heap.push { cls := .type "list", dict := none, data := .seq ([] : List Value).toArray } } :=
  I2.laid (t' := s2.toks) (fun b u e => Heap.get?_push_of_some _ e) (Nat.le_of_eq hD) ⟨Nat.zero_le _, [], 0, .nil, by rw [<- hD]; exact Heap.get?_push_size _ rfl⟩
 have k23 : ∀ b u, s2.heap.get? b = some u -> (s2.heap.push { cls := .type "list", dict := none, data := .seq ([] : List Value).toArray }).get? b = some u := fun b u e => Heap.get?_push_of_some _ e
 have hsz : s2.heap.objs.size <= (s2.heap.push { cls := .type "list", dict := none, data := .seq ([] : List Value).toArray }).objs.size := by rw [Heap.size_push]; exact Nat.le_succ _
 generalize hh3 : s2.heap.push { cls := .type "list", dict := none, data := .seq ([] : List Value).toArray } = h3 at *
 have k34 : ∀ b u, h3.get? b = some u -> h4.get? b = some u := fun b u e => (hsb.2 b (Nat.ne_of_lt (Heap.lt_size e))).trans (Heap.get?_push_of_some _ e)
 generalize hC : h3.objs.size = C at *
 have I4 : Inv X pins σ (upd H2 D (.lst [])) { s2 with heap := h4, toks := s2.toks + ([] : List (Str × Value)).length } := I3.kept (t' := s2.toks + 0) k34
 generalize hH3 : upd H2 D (.lst []) = H3 at *
 have ltC : ∀ b o, s2.heap.get? b = some o -> b < C := fun b o e => Nat.lt_of_lt_of_le (Heap.lt_size e) hsz
 have lenF : fr.length = N.length := by simpa using congrArg List.length hfr
 have fpo : ∀ b ∈ fp, b ≠ C /\ b ∉ frs X.stack := fun b hb => by
  obtain ⟨o, e, _⟩ := T.obj 0 s2.heap st2 b hb
  refine ⟨Nat.ne_of_lt (ltC b o e), fun z => ?_⟩
  obtain ⟨_, n1, n2, _⟩ := f2 b hb
  rcases List.mem_cons.mp (I2.stkSub b z) with q | q
  ·exact n1 q
  ·exact n2 q
 have H3C : H3 C = none := I3.hok.fresh (Nat.le_of_eq hC)
 have okX : (q28 X scope cl C x (TN ++ N) { s2 with heap := h3 } H3 fp).Ok := by
  refine ⟨I2.ok.mod, hk, I2.ok.glob, I2.ok.blt, Nat.le_of_eq hC, fun y z c e1 e2 => I2.ok.inj y z c (hcl.look e1) (hcl.look e2), fun y hy => ?_, fun y c z => (fnt z).elim, fun z => I2.ok.hd z, I2.ok.frames, .inl rfl,
   fun b hb => ⟨(fpo b hb).1, fun y c e => (f2 b hb).2.2.2.2.1 y c (hcl.look e)⟩, fun b o e => I3.bs b o e, Nat.le_trans I2.ok.bsz I3.sz, fun b o e hb => ?_, fun b hb => (fpo b hb).2, I3.stack, I3.stkFree⟩
  ·have hy' : (relN scope sc0).lookup y = some .cell \/ (relN scope sc0).lookup y = some .free := by
    rcases hy with hy | hy
    ·exact .inl ((rel y).symm.trans hy)
    ·exact .inr ((rel y).symm.trans hy)
   have hm : y ∈ cn := by
    rcases hy' with q | q
    ·exact hok.has (y, .cell) (q98 q) (.inl rfl)
    ·exact hok.has (y, .free) (q98 q) (.inr rfl)
   exact q78 (cl := cl) (n := y) (by rw [hcn]; exact hm)
  ·rcases (f2 b hb).2.2.2.1 with z | z
   ·exact I2.ok.noex b o e z
   ·exact absurd (Nat.lt_of_lt_of_le (Heap.lt_size e) (Nat.le_trans I2.ok.bsz z)) (Nat.lt_irrefl _)
 have I5 : Inv (q28 X scope cl C x (TN ++ N) { s2 with heap := h3 } H3 fp) [] (List.replicate (TN.length + 1) none ++ fr.map fun j => (σ[j]?).getD none) H3 { s2 with heap := h4, toks := s2.toks + ([] : List (Str × Value)).length } := by
  refine ⟨okX, rfl, I4.bare, Un.kept k34, ⟨_, hns, fun i y v e1 e2 e3 => ?_⟩, fun y c e => I4.cell y c (hcl.look e), H3C, fun y c e => I4.freeC y c (hcl.look e), fun p hp => absurd (show p ∈ ([] : List (Addr × Obj)) from hp) (by simp), I4.hok, by simp [q28, lenF]; omega⟩
  by_cases hiT : i < TN.length + 1
  ·exfalso
   rw [List.getElem?_append_left (by rw [List.length_replicate]; exact hiT), List.getElem?_replicate, if_pos hiT] at e2
   cases e2
  ·obtain ⟨j, rfl⟩ : ∃ j, i = TN.length + 1 + j := ⟨i - (TN.length + 1), by omega⟩
   have e1' : N[j]? = some y := by
    have e1b : (x :: (TN ++ N))[TN.length + 1 + j]? = some y := e1
    rw [show TN.length + 1 + j = (TN.length + j) + 1 by omega, List.getElem?_cons_succ, List.getElem?_append_right (by omega), show TN.length + j - TN.length = j by omega] at e1b
    exact e1b
   have e2' : (fr.map fun j => (σ[j]?).getD none)[j]? = some (some v) := by
    rw [List.getElem?_append_right (by rw [List.length_replicate]; omega), List.length_replicate, show TN.length + 1 + j - (TN.length + 1) = j by omega] at e2
    exact e2
   obtain ⟨k, ek⟩ : ∃ k, fr[j]? = some k := by
    have : j < fr.length := by rw [lenF]; exact (List.getElem?_eq_some_iff.mp e1').1
    exact ⟨fr[j], List.getElem?_eq_getElem this⟩
   rw [List.getElem?_map, ek] at e2'
   have e2'' : (σ[k]?).getD none = some v := Option.some.inj e2'
   have eσ : σ[k]? = some (some v) := by
    cases q : σ[k]? with
    | none => rw [q] at e2''; cases e2''
    | some o => rw [q] at e2''; exact congrArg some e2''
   have eN : X.N[k]? = some y := by
    have z := congrArg (fun l => l[j]?) hfr
    simp only [List.getElem?_map, ek, e1', Option.map_some] at z
    exact Option.some.inj z
   obtain ⟨r1, r2, r3⟩ := hok.frs y (List.mem_of_getElem? e1')
   obtain ⟨m, _, hl⟩ := I4.loc
   obtain ⟨u, ru, look⟩ := hl k y v eN eσ (.inr (.inl (by rw [hsc]; exact r2)))
   refine ⟨u, ru, .inr ⟨.inl ((rel y).trans r1), ?_⟩⟩
   rcases look with ⟨l1, _⟩ | ⟨_, c, l1, l2⟩
   ·exfalso
    have l1' : X.env.scope.names.lookup y = some .local := l1
    rw [hsc, r2] at l1'
    cases l1'
   ·obtain ⟨c', l3⟩ := q78 (cl := cl) (n := y) (by rw [hcn]; exact r3)
    have l4 := hcl.look l3
    rw [l1] at l4
    cases l4
    exact ⟨c, l3, l2⟩
 have st4 : tn 0 h4 := T.keep 0 s2.heap h4 st2 fun b hb o e => k34 b o (k23 b o e)
 have fp5 : ∀ {H' : Hp}, (∀ b ∈ fp, H' b = none) -> ∀ b ∈ fp, FpOk (q28 X scope cl C x (TN ++ N) { s2 with heap := h3 } H3 fp) [] H' b := fun hn b hb =>
  ⟨hn b hb, (fpo b hb).1, (fpo b hb).2, .inl hb, fun y c e => (f2 b hb).2.2.2.2.1 y c (hcl.look e), fun p hp => absurd (show p ∈ ([] : List (Addr × Obj)) from hp) (by simp)⟩
 have fr3 : ∀ b ∈ fp, H3 b = none := fun b hb => by
  obtain ⟨o, e, _⟩ := T.obj 0 s2.heap st2 b hb
  have : b ≠ D := Nat.ne_of_lt (hD ▸ Heap.lt_size e)
  rw [<- hH3, q36 this]
  exact (f2 b hb).1
 have fin : ∀ (H6 : Hp) (s6 : Shared) (σ6 : St), Inv (q28 X scope cl C x (TN ++ N) { s2 with heap := h3 } H3 fp) [] σ6 H6 s6 -> Inv X pins σ H6 s6 /\ FpOk X pins H6 C := by
  intro H6 s6 σ6 I6
  refine ⟨I3.call' (s' := s6) (ch := fp) I6.os ⟨I6.base.keep, I6.base.slot, I6.base.free, I6.base.there, I6.base.tups, I6.base.frzs, I6.base.tbls⟩ I6.hok I6.bare (fun b hb => ?_), I3.fpOk (Nat.le_of_eq hC) I6.free⟩
  obtain ⟨_, n1, _, n3, n4, n5⟩ := f2 b hb
  exact ⟨n3, n1, n4, n5⟩
 have loop : codeAny (model X.prog X.w) X.A (.compLoop (.ListComp elt [⟨tg, iter, ifs, 0⟩] scope pos) 0 (.ref it) (.ref D) (compEnvC scope cl C X.env))
   (RR (.ref D) C) { s2 with heap := h4, toks := s2.toks + ([] : List (Str × Value)).length } := by
  refine q539 (fun n s' => ∃ (i : Nat) (vs : St) (ys : List V) (H' : Hp), vs.length = TN.length + 1 /\ Inv (q28 X scope cl C x (TN ++ N) { s2 with heap := h3 } H3 fp) [] (vs ++ fr.map fun j => (σ[j]?).getD none) H' s' /\ tn i s'.heap /\ (∀ b ∈ fp, H' b = none) /\ W i n ys H') ?_ m0
   ⟨0, List.replicate (TN.length + 1) none, [], H3, by simp, I5, st4, fr3, w0⟩
  rintro n s6 ⟨i, vs, ys, H6, hvs, I6, st6, fr6, w6⟩
  obtain ⟨hDl, hw⟩ := turn i n ys H6 w6
  rcases hw with ⟨stop, qn⟩ | ⟨go, hlen, N', Z', hN', hZ', step⟩
  ·refine thn (T.done (q28 X scope cl C x (TN ++ N) { s2 with heap := h3 } H3 fp) rfl rfl rfl hc i [] s6 _ H6 _ I6 (fp5 fr6) st6 stop) fun r s7 ⟨hr, I7⟩ => ?_
   subst hr
   obtain ⟨m7, hn7, _⟩ := I7.loc
   obtain ⟨J7, F7⟩ := fin H6 s7 _ I7
   exact hRR C H6 s7 m7 hn7 J7 F7 qn
  ·refine thn (T.item (q28 X scope cl C x (TN ++ N) { s2 with heap := h3 } H3 fp) rfl rfl rfl hc i [] s6 _ H6 _ I6 (fp5 fr6) st6 go) fun r s7 ⟨u, hr, h7⟩ => ?_
   subst hr
   refine thn h7 fun _ s8 ⟨x8, H8, I8, r8, y8, st8, fr8⟩ => ?_
   have I8' := I8.pinned (fp5 fr8) (T.obj _ _ st8)
   refine wpAny_mono (hgt C { s2 with heap := h3 } H3 fp _ s8 _ H8 x8 u _ I8' r8 (step x8 H8 y8 vs hvs)) (fun _ s9 h9 => ?_) fun _ _ z => False.elim z
   obtain ⟨σ9, H9a, I9, ⟨vs9, hl9, e9⟩, n9a⟩ := h9
   subst e9
   refine wpAny_mono (hct C { s2 with heap := h3 } H3 fp _ s9 _ H9a _ I9 n9a) (fun okb s9b h9b => ?_) fun _ _ z => False.elim z
   obtain ⟨H9, I9b, n9⟩ := h9b
   cases okb with
   | false =>
    rw [if_neg fnt] at n9 ⊢
    obtain ⟨m', hm, w9⟩ := hZ' _ n9
    refine ⟨m', hm, i + 1, vs9, ys, _, hl9, I9b.unpinned, T.keep _ _ _ st8 fun b hb o e => (I9b.pin (b, o) (List.mem_append_right _ (List.mem_append_right _ (q42 hb e)))).1, fun b hb => ?_, w9⟩
    obtain ⟨o, e, d⟩ := T.obj _ _ st8 b hb
    exact (I9b.pin (b, o) (List.mem_append_right _ (List.mem_append_right _ (q42 hb e)))).2.1
   | true =>
    rw [if_pos rfl] at n9 ⊢
    refine wpAny_mono (he C { s2 with heap := h3 } H3 fp _ s9b _ H9 _ I9b n9) (fun y s10 h10 => ?_) fun _ _ z => False.elim z
    obtain ⟨y10, H10, I10, r10, n10⟩ := h10
    obtain ⟨hD10, m', hm, w10⟩ := hN' y10 H10 n10
    refine wpAny_mono (q86 (X := q28 X scope cl C x (TN ++ N) { s2 with heap := h3 } H3 fp) _ s10 _ H10 (.ref D) [y10] (.ref D) [y] (fun _ H' => H' = upd H10 D (.lst (ys ++ [y10]))) I10 rfl (.cons r10 .nil) ⟨D, ys, y10, rfl, rfl, hD10, hlen, rfl⟩) (fun _ s11 h11 => ?_) fun _ _ z => False.elim z
    obtain ⟨_, H11, I11, _, e11⟩ := h11
    subst e11
    refine ⟨m', hm, i + 1, vs9, ys ++ [y10], _, hl9, I11.unpinned, T.keep _ _ _ st8 fun b hb o e => (I11.pin (b, o) (List.mem_append_right _ (List.mem_append_right _ (q42 hb e)))).1, fun b hb => ?_, w10⟩
    obtain ⟨o, e, d⟩ := T.obj _ _ st8 b hb
    exact (I11.pin (b, o) (List.mem_append_right _ (List.mem_append_right _ (q42 hb e)))).2.1
 exact codeAny_compStart_list loop (T.self _ 0 _ _ _ st4 loop)
theorem pe_compG {X : Cx} {elt iter tg : Expr} {ifs : List Expr} {x : Str} {pos : Pos} {scope sc0 : Scope} {cl : List (Str × Addr)} {cn TN N : List Str} {fr : List Nat} {wi : TI} {gt : TG} {tt : TT} {te : TE}
  (hc : X.calm = true) (hi : PI X tg iter wi) (he : ∀ (C : Addr) (s₂ : Shared) (H₂ : Hp) (fp : List Addr), PE (q28 X scope cl C x (TN ++ N) s₂ H₂ fp) elt te) (hct : ∀ (C : Addr) (s₂ : Shared) (H₂ : Hp) (fp : List Addr), PTs (q28 X scope cl C x (TN ++ N) s₂ H₂ fp) ifs tt) (hgt : ∀ (C : Addr) (s₂ : Shared) (H₂ : Hp) (fp : List Addr), PG (q28 X scope cl C x (TN ++ N) s₂ H₂ fp) tg gt)
  (hclos : closureFor scope X.env = pure cl) (hcl : q102 X.env cl) (hcn : cl.map (·.1) = cn) (hsc : X.env.scope = sc0) (hk : scope.kind = .function) (hok : CompOkG scope sc0 N cn)
  (hfr : fr.map (fun j => X.N[j]?) = N.map some) (hs : ∀ v, foldedSetIterable iter X.env v = pure v := by intro _; rfl) :
  PE X (.ListComp elt [⟨tg, iter, ifs, 0⟩] scope pos) (tCompG (TN.length + 1) wi gt tt te fr) := by
 intro pins s σ H Q I h
 rw [eval_ListComp]
 refine wpAny_comprehension_free (use := none) rfl hs hclos hk hok.names (thn (hi pins s σ H _ I h) fun v s1 h1 => thn h1 fun itv s2 h2 => ?_)
 obtain ⟨it, fp, tn, J, H2, e, I2, T, st2, f2, hq⟩ := h2
 subst e
 obtain ⟨W, ⟨m0, w0⟩, turn⟩ := hq s2.heap.objs.size (I2.hok.fresh (Nat.le_refl _))
 exact q540 (RR := fun acc C => compPost (model X.prog X.w) X.A X.xe none (EP X pins σ Q) acc C) (R := fun H6 => Q (.ref s2.heap.objs.size) H6) hc he hct hgt hcl hcn hsc hk hok hfr I2 T st2 f2 w0 turn
  fun C H6 s6 m6 hn I6 F6 q => ⟨m6, hn, fun h' sb => ⟨.ref s2.heap.objs.size, H6, I6.let_go F6 sb, rfl, q⟩⟩
theorem q541 {K : PySem.W.Frag} {a : Addr} {xs : List V} {Tn : V -> Hp -> (V -> Hp -> Prop) -> (Hp -> Prop) -> Prop} {D : Addr} {H1 : Hp} {R : Hp -> Prop} (hn : xs.length <= sizeLine) (Pv : Nat -> List V -> Hp -> Prop) (h0 : Pv 0 [] (upd H1 D (.lst [])))
  (hl : ∀ i ys H, Pv i ys H -> SqL K H a xs) (hD : ∀ i ys H, Pv i ys H -> H D = some (.lst ys) /\ ys.length <= i)
  (hs : ∀ i x ys H, xs[i]? = some x -> Pv i ys H -> Tn x H (fun y H3 => H3 D = some (.lst ys) /\ Pv (i + 1) (ys ++ [y]) (upd H3 D (.lst (ys ++ [y])))) (Pv (i + 1) ys))
  (hd : ∀ ys H, Pv xs.length ys H -> R H) :
  ∃ W : Nat -> Nat -> List V -> Hp -> Prop, (∃ m, W 0 m [] (upd H1 D (.lst []))) /\
   ∀ i m ys H2, W i m ys H2 -> H2 D = some (.lst ys) /\ (((Itl K a).stop i H2 /\ R H2) \/ ((Itl K a).go i H2 /\ ys.length < sizeLine /\ ∃ (N : V -> Hp -> Prop) (Z : Hp -> Prop), (∀ y H3, N y H3 -> H3 D = some (.lst ys) /\ ∃ m', m' < m /\ W (i + 1) m' (ys ++ [y]) (upd H3 D (.lst (ys ++ [y])))) /\ (∀ H3, Z H3 -> ∃ m', m' < m /\ W (i + 1) m' ys H3) /\
    ∀ x H', (Itl K a).yld i H2 x H' -> Tn x H' N Z)) := by
 refine ⟨fun i m ys H => m = xs.length - i /\ i <= xs.length /\ Pv i ys H, ⟨xs.length, by simp, Nat.zero_le _, h0⟩, ?_⟩
 rintro i m ys H2 ⟨rfl, hi, p⟩
 obtain ⟨d1, d2⟩ := hD i ys H2 p
 have q := hl i ys H2 p
 refine ⟨d1, ?_⟩
 by_cases hlt : i < xs.length
 ·refine .inr ⟨⟨xs, xs[i], q, by simp [hlt]⟩, by omega, fun y H3 => H3 D = some (.lst ys) /\ Pv (i + 1) (ys ++ [y]) (upd H3 D (.lst (ys ++ [y]))), Pv (i + 1) ys, fun y H3 ⟨z1, z2⟩ => ⟨z1, xs.length - (i + 1), by omega, rfl, hlt, z2⟩, fun H3 z => ⟨xs.length - (i + 1), by omega, rfl, hlt, z⟩, fun x H' y => ?_⟩
  obtain ⟨e, y⟩ := y
  subst e
  exact hs i x ys _ (y xs q) p
 ·have e : i = xs.length := by omega
  subst e
  exact .inl ⟨⟨xs, q, Nat.le_refl _⟩, hd ys H2 p⟩
end L2
namespace L2
open PySem PySem.Spec PyProof.Rows
section
variable {n : Nat} {lo : Int} {p : Nat -> Bool} {g : Nat -> V} {Tt : V -> Hp -> (Bool -> Hp -> Prop) -> Prop} {Te : V -> Hp -> (V -> Hp -> Prop) -> Prop} {D : Addr} {H1 : Hp} {R : Hp -> Prop}
end
end L2
namespace L2
open PySem PySem.Spec PyProof.Rows
section
variable {X : Cx}
theorem q412 (hc : X.calm = true) : CallR X (.builtin "sum") (fun xs H Q => ∃ (p : Addr) (ns : List Int), xs = [.ref p] /\ SqL X.K H p (ns.map V.int) /\ Q (.int ns.sum) H) := by
 intro pins s σ H xs us Q I r h
 obtain ⟨p, ns, rfl, hq, q⟩ := h
 obtain ⟨u, rfl, rx⟩ := vals1 r
 cases rx
 obtain ⟨its, r', pl, hz⟩ := I.list hq
 have hi := q77 r'
 obtain ⟨ys, hx⟩ := hi.allInts.items
 have hl' : s.heap.IsList p (intItems ys) := hx ▸ pl.isList
 refine sum_intListG (I.ok.hd hc) hl' fun h' tk t' hk => ?_
 have e1 : ns = ys.toList.map (·.1) := by
  rw [<- nums_intItems, <- hx]
  exact (show numsOf its.toArray.toList = ns from hi.numsOf).symm
 have e2 : preSum (numAt ys) ys.size = ns.sum := by
  rw [preSum_eq, List.take_of_length_le (by simp), e1]
 rw [e2]
 exact ⟨.int ns.sum, H, I.kept (t' := tk) hk, ⟨_, rfl⟩, q⟩
theorem pg_tupK {K : PySem.W.Frag} {es : List Expr} {k : Nat} {t : TGs} {n : Nat} {pos : Pos} (hK : X.K = K) (hc : X.calm = true) (h : PGs X es t)
  (hn : (assignEach es X.env).length = n := by rfl) (hst : (assignEach es X.env).findIdx? (·.1) = none := by rfl) : PG X (.Tuple es k pos) (gTup K n t) := by subst hK; exact q493 hc h hn hst
end
theorem q234 {K : PySem.W.Frag} {a : Addr} {xs : List V} {T : V -> Hp -> (V -> Hp -> Prop) -> Prop} {D : Addr} {H1 : Hp} {R : Hp -> Prop} (hn : xs.length <= sizeLine) (Pv : Nat -> List V -> Hp -> Prop) (h0 : Pv 0 [] (upd H1 D (.lst [])))
  (hl : ∀ i ys H, Pv i ys H -> SqL K H a xs) (hD : ∀ i ys H, Pv i ys H -> H D = some (.lst ys) /\ ys.length = i)
  (hs : ∀ i x ys H, xs[i]? = some x -> Pv i ys H -> T x H fun y H3 => H3 D = some (.lst ys) /\ Pv (i + 1) (ys ++ [y]) (upd H3 D (.lst (ys ++ [y]))))
  (hd : ∀ ys H, Pv xs.length ys H -> R H) :
  ∃ W : Nat -> Nat -> List V -> Hp -> Prop, (∃ m, W 0 m [] (upd H1 D (.lst []))) /\
   ∀ i m ys H2, W i m ys H2 -> H2 D = some (.lst ys) /\ (((Itl K a).stop i H2 /\ R H2) \/ ((Itl K a).go i H2 /\ ys.length < sizeLine /\ ∃ N : V -> Hp -> Prop, (∀ y H3, N y H3 -> H3 D = some (.lst ys) /\ ∃ m', m' < m /\ W (i + 1) m' (ys ++ [y]) (upd H3 D (.lst (ys ++ [y])))) /\
    ∀ x H', (Itl K a).yld i H2 x H' -> T x H' N)) := by
 refine ⟨fun i m ys H => m = xs.length - i /\ i <= xs.length /\ Pv i ys H, ⟨xs.length, by simp, Nat.zero_le _, h0⟩, ?_⟩
 rintro i m ys H2 ⟨rfl, hi, p⟩
 obtain ⟨d1, d2⟩ := hD i ys H2 p
 have q := hl i ys H2 p
 refine ⟨d1, ?_⟩
 by_cases hlt : i < xs.length
 ·refine .inr ⟨⟨xs, xs[i], q, by simp [hlt]⟩, by omega, fun y H3 => H3 D = some (.lst ys) /\ Pv (i + 1) (ys ++ [y]) (upd H3 D (.lst (ys ++ [y]))), fun y H3 ⟨z1, z2⟩ => ⟨z1, xs.length - (i + 1), by omega, rfl, hlt, z2⟩, fun x H' y => ?_⟩
  obtain ⟨e, y⟩ := y
  subst e
  exact hs i x ys _ (y xs q) p
 ·have e : i = xs.length := by omega
  subst e
  exact .inl ⟨⟨xs, q, Nat.le_refl _⟩, hd ys H2 p⟩
end L2
namespace HT
open PySem PySem.Spec PyProof.Rows
section
open PySem.SeqAt
open PySem.AutoSeq1 (wpAny_loadPart')
open PySem.MeetsSeq PySem.MeetsSeq2 PySem.MeetsSeq3
end
section
variable {prog : Program} {w : World} {A : Around} {E : Value -> Shared -> Prop} {s : Shared}
end
end HT
namespace L2
open PySem PySem.Spec PyProof.Rows
section
variable {X : Cx}
end
theorem q413 {K : PySem.W.Frag} {a : Addr} {xs : List V} {Tt : V -> Hp -> (Bool -> Hp -> Prop) -> Prop} {Te : V -> Hp -> (V -> Hp -> Prop) -> Prop} {D : Addr} {H1 : Hp} {R : Hp -> Prop} (hn : xs.length <= sizeLine) (Pv : Nat -> List V -> Hp -> Prop) (h0 : Pv 0 [] (upd H1 D (.lst [])))
  (hl : ∀ i ys H, Pv i ys H -> SqL K H a xs) (hD : ∀ i ys H, Pv i ys H -> H D = some (.lst ys) /\ ys.length <= i)
  (hs : ∀ i x ys H, xs[i]? = some x -> Pv i ys H -> Tt x H fun b H3 => if b = true then Te x H3 (fun y H4 => H4 D = some (.lst ys) /\ Pv (i + 1) (ys ++ [y]) (upd H4 D (.lst (ys ++ [y])))) else ∃ m', m' < xs.length - i /\ m' = xs.length - (i + 1) /\ i + 1 <= xs.length /\ Pv (i + 1) ys H3)
  (hd : ∀ ys H, Pv xs.length ys H -> R H) :
  ∃ W : Nat -> Nat -> List V -> Hp -> Prop, (∃ m, W 0 m [] (upd H1 D (.lst []))) /\
   ∀ i m ys H2, W i m ys H2 -> H2 D = some (.lst ys) /\ (((Itl K a).stop i H2 /\ R H2) \/ ((Itl K a).go i H2 /\ ys.length < sizeLine /\ ∃ N : V -> Hp -> Prop, (∀ y H3, N y H3 -> H3 D = some (.lst ys) /\ ∃ m', m' < m /\ W (i + 1) m' (ys ++ [y]) (upd H3 D (.lst (ys ++ [y])))) /\
    ∀ x H', (Itl K a).yld i H2 x H' -> Tt x H' fun b H3 => if b = true then Te x H3 N else ∃ m', m' < m /\ W (i + 1) m' ys H3)) := by
 refine ⟨fun i m ys H => m = xs.length - i /\ i <= xs.length /\ Pv i ys H, ⟨xs.length, by simp, Nat.zero_le _, h0⟩, ?_⟩
 rintro i m ys H2 ⟨rfl, hi, p⟩
 obtain ⟨d1, d2⟩ := hD i ys H2 p
 have q := hl i ys H2 p
 refine ⟨d1, ?_⟩
 by_cases hlt : i < xs.length
 ·refine .inr ⟨⟨xs, xs[i], q, by simp [hlt]⟩, by omega, fun y H3 => H3 D = some (.lst ys) /\ Pv (i + 1) (ys ++ [y]) (upd H3 D (.lst (ys ++ [y]))), fun y H3 ⟨z1, z2⟩ => ⟨z1, xs.length - (i + 1), by omega, rfl, hlt, z2⟩, fun x H' y => ?_⟩
  obtain ⟨e, y⟩ := y
  subst e
  exact hs i x ys _ (y xs q) p
 ·have e : i = xs.length := by omega
  subst e
  exact .inl ⟨⟨xs, q, Nat.le_refl _⟩, hd ys H2 p⟩
end L2
namespace L2
open PySem PySem.Spec PyProof.Rows
section
variable {X : Cx}
def tTupF (t : TA) : TE := fun σ H Q => t σ H fun xs H1 => xs.length <= sizeLine /\ ∀ p H', Same H1 H' -> TupF H' p xs -> Q (.ref p) H'
theorem q604 {es : List Expr} {t : TA} {pos : Pos} {x1} (h : PA X es t) : PE X (.Tuple es x1 pos) (tTupF t) := by
 intro pins s σ H Q I hq
 refine wpAny_Tuple_spliced (thn (h pos pins s σ H _ I hq) fun us s1 ⟨xs, H1, I1, r, z, q⟩ => ⟨by rw [<- r.length]; exact z, ?_⟩)
 have hf : H1 s1.heap.objs.size = none := I1.hok.fresh (Nat.le_refl _)
 refine ⟨.ref s1.heap.objs.size, upd H1 s1.heap.objs.size (.frz { cls := .type "tuple", data := .seq us.toArray } (.tup xs)), I1.laid (t' := s1.toks) (fun b u e => Heap.get?_push_of_some _ e) (Nat.le_refl _) ?_, rfl, q _ _ (q15 hf _) ⟨_, q13, rfl, rfl⟩⟩
 exact ⟨Heap.get?_push_size _ rfl, z, us, r, ⟨_, Heap.get?_push_size _ rfl, rfl, _, rfl⟩⟩
theorem q366 : OpR X (binaryOp .Add) (fun x y H Q => ∃ a b xs ys, x = .ref a /\ y = .ref b /\ TupF H a xs /\ TupF H b ys /\ xs.length + ys.length <= sizeLine /\
  ∀ p H', Same H H' -> TupF H' p (xs ++ ys) -> Q (.ref p) H') := by
 intro pins s σ H x y v u Q I rx ry h
 obtain ⟨a, b, xs, ys, rfl, rfl, ha, hb, hz, q1⟩ := h
 cases rx
 cases ry
 obtain ⟨its, r1, p1, _⟩ := I.tuple (ha.sq (K := X.K))
 obtain ⟨its2, r2, p2, _⟩ := I.tuple (hb.sq (K := X.K))
 have hz' : its.length + its2.length <= sizeLine := by rw [<- r1.length, <- r2.length]; exact hz
 obtain ⟨⟨cls, dd, data, sl⟩, ho, hc, n, hd⟩ := id p1
 obtain ⟨⟨cls2, dd2, data2, sl2⟩, ho2, hc2, n2, hd2⟩ := id p2
 simp only at hc hd hc2 hd2
 subst hc hd hc2 hd2
 have e : its.toArray ++ its2.toArray = (its ++ its2).toArray := by simp
 by_cases hv : its = []
 ·have hx : xs = [] := r1.nil_iff.mp hv
  subst hx
  exact concat_meets ⟨_, ho, rfl⟩ ⟨_, ho2, rfl⟩ noFill_tuple_add seq_tuple_add PySem.F.slot_tuple_add PySem.F.entry_tuple_add (PySem.F.args_tuple_add_2 _ _)
   (tuple_addW0 a b its.toArray its2.toArray n n2 dd dd2 sl sl2 (by simp [hv])) ⟨ho, ho2, ⟨.ref b, H, I, rfl, q1 b H (Same.refl H) (by simpa using hb)⟩⟩
 ·by_cases hw : its2 = []
  ·have hy : ys = [] := r2.nil_iff.mp hw
   subst hy
   exact concat_meets ⟨_, ho, rfl⟩ ⟨_, ho2, rfl⟩ noFill_tuple_add seq_tuple_add PySem.F.slot_tuple_add PySem.F.entry_tuple_add (PySem.F.args_tuple_add_2 _ _)
    (tuple_addW1 a b its.toArray its2.toArray n n2 dd dd2 sl sl2 (by simpa using hv) (by simp [hw])) ⟨ho, ho2, ⟨.ref a, H, I, rfl, q1 a H (Same.refl H) (by simpa using ha)⟩⟩
  ·refine concat_meets ⟨_, ho, rfl⟩ ⟨_, ho2, rfl⟩ noFill_tuple_add seq_tuple_add PySem.F.slot_tuple_add PySem.F.entry_tuple_add (PySem.F.args_tuple_add_2 _ _)
    (tuple_addW2 a b its.toArray its2.toArray n n2 dd dd2 sl sl2 (by simpa using hv) (by simpa using hw) (by rw [List.size_toArray, List.size_toArray]; exact hz')) ⟨ho, ho2, ?_⟩
   rw [e]
   refine ⟨.ref s.heap.objs.size, upd H s.heap.objs.size (.frz { cls := .type "tuple", data := .seq (its ++ its2).toArray } (.tup (xs ++ ys))), I.laid (t' := s.toks) (fun b ob q => Heap.get?_push_of_some _ q) (Nat.le_refl _) ?_, rfl, q1 _ _ (q15 (I.hok.fresh (Nat.le_refl _)) _) ⟨_, q13, rfl, rfl⟩⟩
   exact ⟨Heap.get?_push_size _ rfl, by rw [List.length_append]; exact hz, _, r1.append r2, IsTup.new _ _⟩
end
end L2
namespace L2
open PySem PySem.Spec PyProof.Rows
section
variable {prog : Program} {w : World} {A : Around} {E : Value -> Shared -> Prop} {s : Shared}
theorem q542 {ia tp : Addr} {i : Nat} {us : Array Value} {u : Value} {Q : Value -> Shared -> Prop} (a1 : s.heap.IsTupleIter ia tp i) (a2 : s.heap.IsTuple tp us) (a3 : us[i]? = some u)
  (k : ∀ h', h'.IsTupleIter ia tp (i + 1) -> Heap.SameBut ia s.heap h' -> Q u { s with heap := h' }) : wpAny (model prog w) A (Builtin.SmallTypes.nextOf (.ref ia)) Q E s := by
 obtain ⟨o, b1, b2, b3⟩ := id a1
 obtain ⟨ot, c1, _, nt, c2⟩ := a2
 unfold Builtin.SmallTypes.nextOf
 refine wpAny_bind (wpAny_callSpecial?_slot (name := Str.ofString "__next__") a1.typeIs F.slot_tuple_iterator_next (wpAny_call_entry F.slot_tuple_iterator_next a1.typeIs F.entry_tuple_iterator_next ?_ (F.args_tuple_iterator_next_1 _)))
 show wpAny _ _ (field (.ref ia) 0 >>= _) _ _ s
 refine wpAny_bind (wpAny_field b1 b3 (x := .ref tp) rfl ?_)
 show wpAny _ _ (if (Value.ref tp == Value.none) = true then _ else _) _ _ s
 rw [if_neg (show ¬ ((Value.ref tp == Value.none) = true) from fnt)]
 show wpAny _ _ (field (.ref ia) 1 >>= _) _ _ s
 refine wpAny_bind (wpAny_field b1 b3 (x := .int i 0) rfl ?_)
 show wpAny _ _ (seqItems? (.ref tp) >>= _) _ _ s
 refine wpAny_bind (wpAny_seqItems c1 c2 ?_)
 simp only [Int.toNat_natCast, a3]
 refine wpAny_bind (wpAny_setField b1 b3 (by simp) (wpAny_pure ⟨u, rfl, wpAny_pure (k _ ?_ (Heap.SameBut.update ..))⟩))
 exact ⟨_, Heap.get?_update_self _ b1 (Obj.isFreed_of_fields (Obj.data_mapFields b3 _)), (Obj.cls_mapFields ..).trans b2, by rw [Obj.data_mapFields b3]; simp [rawInt]⟩
theorem q605 {ia tp : Addr} {i : Nat} {us : Array Value} {Q : Value -> Shared -> Prop} (hh : A.handled = none) (a1 : s.heap.IsTupleIter ia tp i) (a2 : s.heap.IsTuple tp us) (a3 : us[i]? = none)
  (k : ∀ h' x, Heap.ExtBut ia s.heap h' -> (∃ o, h'.get? x = some o /\ o.cls = .type "StopIteration") -> E (.ref x) { s with heap := h' }) : wpAny (model prog w) A (Builtin.SmallTypes.nextOf (.ref ia)) Q E s := by
 obtain ⟨o, b1, b2, b3⟩ := id a1
 obtain ⟨ot, c1, _, nt, c2⟩ := a2
 unfold Builtin.SmallTypes.nextOf
 refine wpAny_bind (wpAny_callSpecial?_slot (name := Str.ofString "__next__") a1.typeIs F.slot_tuple_iterator_next (wpAny_call_entry F.slot_tuple_iterator_next a1.typeIs F.entry_tuple_iterator_next ?_ (F.args_tuple_iterator_next_1 _)))
 show wpAny _ _ (field (.ref ia) 0 >>= _) _ _ s
 refine wpAny_bind (wpAny_field b1 b3 (x := .ref tp) rfl ?_)
 show wpAny _ _ (if (Value.ref tp == Value.none) = true then _ else _) _ _ s
 rw [if_neg (show ¬ ((Value.ref tp == Value.none) = true) from fnt)]
 show wpAny _ _ (field (.ref ia) 1 >>= _) _ _ s
 refine wpAny_bind (wpAny_field b1 b3 (x := .int i 0) rfl ?_)
 show wpAny _ _ (seqItems? (.ref tp) >>= _) _ _ s
 refine wpAny_bind (wpAny_seqItems c1 c2 ?_)
 simp only [Int.toNat_natCast, a3]
 refine wpAny_bind (wpAny_rule (wpAny_bind (wpAny_setField b1 b3 (by simp) ?_)))
 show wpAny _ _ (newExc (.type "StopIteration") [] >>= fun _ => _) _ _ _
 refine wpAny_bind ?_
 simp only [newExc, newTuple]
 refine wpAny_bind (wpAny_newObj_type ?_ (by size_fits))
 refine wpAny_bind (m := firstArgMember _ _) (wpAny_of_eq (a := Value.none) (by first | rfl | simp [firstArgMember]) (wpAny_newObj_type ?_ (by size_fits)))
 simp only [raiseNew]
 refine wpAny_bind (wpAny_handled ?_)
 first | rw [show A.in1.handled = none from hh] | (rw [hh]; skip)
 exact wpAny_bind (wpAny_pure (wpAny_throw (k _ _ (((Heap.SameBut.update ..).extBut.push _).push _) ⟨_, Heap.get?_push_size _ rfl, rfl⟩)))
theorem q543 {en ia tp : Addr} {i : Nat} {us : Array Value} {u was : Value} {Q : Option Value -> Shared -> Prop} (e0 : IsEnum s.heap en ia i was) (a1 : s.heap.IsTupleIter ia tp i) (a2 : s.heap.IsTuple tp us) (a3 : us[i]? = some u) (ne : en ≠ ia)
  (k : ∀ h', IsEnumOut h' en ia ((i : Int) + 1) u s.heap.objs.size -> h'.IsTupleIter ia tp (i + 1) -> h'.get? s.heap.objs.size = some { cls := .type "tuple", data := .seq #[.int i s.toks, u] } ->
   (∀ b o, b ≠ en -> b ≠ ia -> s.heap.get? b = some o -> h'.get? b = some o) -> Q (some (.ref s.heap.objs.size)) { s with heap := h', toks := s.toks + 1 }) :
  wpAny (model prog w) A (pyNext (.ref en)) Q E s := by
 have ty : s.TypeIs (.ref en) "enumerate" := ⟨_, e0, rfl⟩
 unfold pyNext
 refine wpAny_bind (wpAny_attempt (wpAny_callSpecial?_slot (name := Str.ofString "__next__") ty F.slot_enumerate_next (wpAny_call_entry F.slot_enumerate_next ty F.entry_enumerate_next ?_ (F.args_enumerate_next_1 _))))
 obtain ⟨h0, g, d, tk, os⟩ := s
 show wpAny _ _ (field (.ref en) 2 >>= _) _ _ _
 refine wpAny_bind (wpAny_field e0 rfl (x := .ref ia) rfl (wpAny_bind (q542 a1 a2 a3 fun h1 n1 s1 => ?_)))
 replace s1 : Heap.SameBut ia h0 h1 := s1
 have e1 : IsEnum h1 en ia i was := (s1.2 en ne).trans e0
 show wpAny _ _ (field (.ref en) 3 >>= _) _ _ ⟨h1, g, d, tk, os⟩
 refine wpAny_bind (wpAny_field e1 rfl (x := rawInt i) rfl ?_)
 show wpAny _ _ (field (.ref en) 4 >>= _) _ _ ⟨h1, g, d, tk, os⟩
 refine wpAny_bind (wpAny_field e1 rfl (x := .none) rfl ?_)
 show wpAny _ _ (mkInt i >>= _) _ _ ⟨h1, g, d, tk, os⟩
 refine wpAny_bind (wpAny_mkInt ?_)
 show wpAny _ _ (setField (.ref en) 3 (rawInt ((i : Int) + 1)) >>= _) _ _ ⟨h1, g, d, tk + 1, os⟩
 refine wpAny_bind (wpAny_setField_rec e1 (by simp) fun h2 e2 s2 => ?_)
 replace s2 : Heap.SameBut en h1 h2 := s2
 replace e2 : IsEnum h2 en ia ((i : Int) + 1) was := e2
 show wpAny _ _ (setField (.ref en) 4 .none >>= _) _ _ ⟨h2, g, d, tk + 1, os⟩
 refine wpAny_bind (wpAny_setField_rec e2 (by simp) fun h3 e3 s3 => ?_)
 replace s3 : Heap.SameBut en h2 h3 := s3
 replace e3 : IsEnum h3 en ia ((i : Int) + 1) was := e3
 show wpAny _ _ (newTuple [.int i tk, u] >>= _) _ _ ⟨h3, g, d, tk + 1, os⟩
 refine wpAny_bind (wpAny_newTuple ?_)
 have z3 : h3.objs.size = h0.objs.size := by rw [s3.1, s2.1, s1.1]
 have l0 : en < h0.objs.size := Heap.lt_size e0
 have ni : ia ≠ en := Ne.symm ne
 generalize hh4 : h3.push { cls := .type "tuple", data := .seq #[.int i tk, u] } = h4
 have e4 : IsEnum h4 en ia ((i : Int) + 1) was := by rw [<- hh4]; exact Heap.get?_push_of_some _ e3
 have t4 : h4.get? h0.objs.size = some { cls := .type "tuple", data := .seq #[.int i tk, u] } := by rw [<- hh4, <- z3]; exact Heap.get?_push_size _ rfl
 have k4 : ∀ b o, b ≠ en -> b ≠ ia -> h0.get? b = some o -> h4.get? b = some o := fun b o m1 m2 q => by
  rw [<- hh4]
  exact Heap.get?_push_of_some _ (s3.extBut b o m1 (s2.extBut b o m1 (s1.extBut b o m2 q)))
 have n4 : h4.IsTupleIter ia tp (i + 1) := by
  rw [<- hh4]
  obtain ⟨o, q, r⟩ := (n1.extBut s2.extBut ni).extBut s3.extBut ni
  exact ⟨o, Heap.get?_push_of_some _ q, r⟩
 show wpAny _ _ (Builtin.SmallTypes.ownedTupleIsFree (.ref en) >>= _) _ _ ⟨h4, g, d, tk + 1, os⟩
 rw [z3]
 clear hh4
 refine wpAny_bind ?_
 unfold Builtin.SmallTypes.ownedTupleIsFree
 refine wpAny_bind (wpAny_field e4 rfl (x := .none) rfl (wpAny_pure ?_))
 simp only [if_true]
 refine wpAny_bind (wpAny_rule (wpAny_bind (wpAny_field e4 rfl (x := was) rfl (wpAny_bind (wpAny_setField_rec e4 (by simp) fun h5 e5 s5 => ?_)))))
 replace s5 : Heap.SameBut en h4 h5 := s5
 replace e5 : IsEnum h5 en ia ((i : Int) + 1) u := e5
 show wpAny _ _ (Builtin.SmallTypes.ownedTupleHandOut (.ref en) (.ref h0.objs.size) >>= _) _ _ ⟨h5, g, d, tk + 1, os⟩
 refine wpAny_bind ?_
 unfold Builtin.SmallTypes.ownedTupleHandOut
 refine wpAny_bind (wpAny_setField_rec e5 (by simp) fun h6 e6 s6 => ?_)
 replace s6 : Heap.SameBut en h5 h6 := s6
 replace e6 : IsEnumOut h6 en ia ((i : Int) + 1) u h0.objs.size := e6
 refine wpAny_setField_rec e6 (by simp) fun h7 e7 s7 => ?_
 replace s7 : Heap.SameBut en h6 h7 := s7
 replace e7 : IsEnumOut h7 en ia ((i : Int) + 1) u h0.objs.size := e7
 have up : ∀ b o, b ≠ en -> h4.get? b = some o -> h7.get? b = some o := fun b o m q => s7.extBut b o m (s6.extBut b o m (s5.extBut b o m q))
 refine wpAny_bind (wpAny_letGo (wpAny_pure ⟨_, rfl, wpAny_pure (k h7 e7 ?_ (up _ _ (Nat.ne_of_gt l0) t4) fun b o m1 m2 q => up b o m1 (k4 b o m1 m2 q))⟩))
 obtain ⟨o, q, r⟩ := n4
 exact ⟨o, up _ _ ni q, r⟩
theorem q606 {en ia tp : Addr} {i : Nat} {us : Array Value} {was : Value} {Q : Option Value -> Shared -> Prop} (hh : A.handled = none) (e0 : IsEnum s.heap en ia i was) (a1 : s.heap.IsTupleIter ia tp i) (a2 : s.heap.IsTuple tp us) (a3 : us[i]? = none)
  (k : ∀ h', Heap.ExtBut ia s.heap h' -> Q none { s with heap := h' }) : wpAny (model prog w) A (pyNext (.ref en)) Q E s := by
 have ty : s.TypeIs (.ref en) "enumerate" := ⟨_, e0, rfl⟩
 unfold pyNext
 refine wpAny_bind (wpAny_attempt (wpAny_callSpecial?_slot (name := Str.ofString "__next__") ty F.slot_enumerate_next (wpAny_call_entry F.slot_enumerate_next ty F.entry_enumerate_next ?_ (F.args_enumerate_next_1 _))))
 show wpAny _ _ (field (.ref en) 2 >>= _) _ _ _
 refine wpAny_bind (wpAny_field e0 rfl (x := .ref ia) rfl (wpAny_bind (q605 hh a1 a2 a3 fun h' x q1 q2 => ?_)))
 obtain ⟨o, o1, o2⟩ := q2
 exact wpAny_bind (wpAny_isInstance (T := "StopIteration") (b := true) ⟨o, o1, o2⟩ isSubtype_stop (wpAny_pure (k _ q1)))
end
end L2
namespace L2
open PySem PySem.Spec PyProof.Rows
def Ite (K : PySem.W.Frag) (a : Addr) : It :=
 ⟨fun i H => ∃ xs x, SqT K H a xs /\ xs[i]? = some x, fun i H x H' => ∃ p y, x = .ref p /\ H p = none /\ H' = upd H p (.tup [.int i, y]) /\ ∀ xs, SqT K H a xs -> xs[i]? = some y, fun i H => ∃ xs, SqT K H a xs /\ xs.length <= i⟩
theorem q607 : 2 <= sizeLine := szb rfl
theorem q544 {P : Program} {w : World} {K : PySem.W.Frag} {es : List Expr} {x1 : Nat} {pos : Pos} (a en ia : Addr) (ne : en ≠ ia) :
  Turn P w K (.Tuple es x1 pos) (Ite K a) [en, ia] en (fun i h => (∃ was, IsEnum h en ia (i : Nat) was) /\ h.IsTupleIter ia a i) where
 mem := by simp
 obj := fun i h st b hb => by
  obtain ⟨⟨was, q1⟩, o, q2, q3, q4⟩ := st
  rcases List.mem_cons.mp hb with z | z
  ·subst z
   exact ⟨_, q1, fun v y => by cases y⟩
  ·have z' : b = ia := by simpa using z
   subst z'
   exact ⟨o, q2, fun v y => by rw [q4] at y; cases y⟩
 keep := fun i h h' st k => by
  obtain ⟨⟨was, q1⟩, o, q2, q3⟩ := st
  exact ⟨⟨was, k en (by simp) _ q1⟩, o, k ia (by simp) _ q2, q3⟩
 item := by
  intro X hP hw hK hc i pins s σ H E I hf st hg
  subst hP hw hK
  obtain ⟨⟨was, q1⟩, q2⟩ := st
  obtain ⟨xs, x, hq, hx⟩ := hg
  obtain ⟨its, rv, p, hz⟩ := I.tuple hq
  obtain ⟨u, hu, ru⟩ := rv.get hx
  refine q543 q1 q2 (show s.heap.IsTuple a its.toArray from p) (u := u) (by simpa using hu) ne fun h1 e1 n1 t1 k1 => ⟨_, rfl, ?_⟩
  refine wpAny_letOwnedTupleGo_enum e1 fun h2 e2 s2 => ?_
  replace s2 : Heap.SameBut en h1 h2 := s2
  have len : en < s.heap.objs.size := Heap.lt_size q1
  have t2 : h2.get? s.heap.objs.size = some { cls := .type "tuple", data := .seq #[.int i s.toks, u] } := (s2.2 _ (Nat.ne_of_gt len)).trans t1
  have kk : ∀ b o, b ≠ en -> b ≠ ia -> s.heap.get? b = some o -> h2.get? b = some o := fun b o m1 m2 q => (s2.2 b m1).trans (k1 b o m1 m2 q)
  have fr : H s.heap.objs.size = none := I.hok.fresh (Nat.le_refl _)
  have f1 := hf en (by simp)
  have f2 := hf ia (by simp)
  have neq : ∀ b, H b ≠ none -> b ≠ en /\ b ≠ ia := fun b m => ⟨fun z => m (z ▸ f1.1), fun z => m (z ▸ f2.1)⟩
  have un : Un (frs X.stack) [en, ia] H (upd H s.heap.objs.size (.tup [.int i, x])) s.heap h2 := by
   have nn : ∀ b, b ∉ [en, ia] -> b ≠ en /\ b ≠ ia := fun b m => ⟨fun z => m (by simp [z]), fun z => m (by simp [z])⟩
   have np : ∀ b o, s.heap.get? b = some o -> b ≠ s.heap.objs.size := fun b o q => Nat.ne_of_lt (Heap.lt_size q)
   exact ⟨fun b o q _ _ m => kk b o (nn b m).1 (nn b m).2 q, fun b o q _ _ m => ⟨o.slots, kk b o (nn b m).1 (nn b m).2 q⟩, fun b o q m _ => by rw [q36 (np b o q)]; exact m, fun b o q m => ⟨o, kk b o (nn b m).1 (nn b m).2 q⟩,
    fun b ys q => by rw [q36 (q33 q fr)]; exact q, fun b o v q => by rw [q36 (q33 q fr)]; exact q, fun b ps q => ⟨#[], by rw [q36 (q33 q fr), q]; simp⟩⟩
  have hok : HOk X.prog X.w (upd H s.heap.objs.size (.tup [.int i, x])) h2 := fun b ob e => by
   by_cases hb : b = s.heap.objs.size
   ·subst hb
    rw [q13] at e
    cases e
    exact ⟨q607, [.int i s.toks, u], .cons ⟨_, rfl⟩ (.cons ru .nil), ⟨_, t2, rfl, _, rfl⟩⟩
   ·rw [q36 hb] at e
    refine (I.hok b ob e).stay (fun c v z q => ?_) (fun c q => by rw [q36 (q33 q fr)]; exact q) fun c ys q => by rw [q36 (q33 q fr)]; exact q
    have m : H c ≠ none := by
     rcases z with rfl | z
     ·rw [e]; exact fun y => nomatch y
     ·rw [z]; exact fun y => nomatch y
    exact kk c v (neq c m).1 (neq c m).2 q
  have J : Inv X pins σ (upd H s.heap.objs.size (.tup [.int i, x])) { s with heap := h2, toks := s.toks + 1 } := by
   refine I.call' (s' := { s with heap := h2, toks := s.toks + 1 }) (ch := [en, ia]) rfl un hok I.bare fun b hb => ?_
   rcases List.mem_cons.mp hb with z | z
   ·subst z
    exact ⟨f1.2.2.2.1, f1.2.1, f1.2.2.2.2.1, f1.2.2.2.2.2⟩
   ·have z' : b = ia := by simpa using z
    subst z'
    exact ⟨f2.2.2.2.1, f2.2.1, f2.2.2.2.2.1, f2.2.2.2.2.2⟩
  refine ⟨.ref s.heap.objs.size, _, J, rfl, ⟨s.heap.objs.size, x, rfl, fr, rfl, fun ys hy => by rw [I.tuple_inj hy hq]; exact hx⟩, ⟨⟨u, ?_⟩, ?_⟩, fun b hb => ?_⟩
  ·have : ((i + 1 : Nat) : Int) = (i : Int) + 1 := by omega
   rw [this]
   exact e2
  ·obtain ⟨o, q, r⟩ := n1
   exact ⟨o, (s2.2 ia (Ne.symm ne)).trans q, r⟩
  ·have hb' : b = en \/ b = ia := by simpa using hb
   have lb : b < s.heap.objs.size := by
    rcases hb' with z | z
    ·rw [z]; exact len
    ·obtain ⟨o, q, _⟩ := q2
     rw [z]; exact Heap.lt_size q
   rw [q36 (Nat.ne_of_lt lb)]
   exact (hf b hb).1
 done := by
  intro X hP hw hK hc i pins s σ H E I hf st hg
  subst hP hw hK
  obtain ⟨⟨was, q1⟩, q2⟩ := st
  obtain ⟨xs, hq, hx⟩ := hg
  obtain ⟨its, rv, p, hz⟩ := I.tuple hq
  obtain ⟨f0, f1, f2, f3, f4, f5⟩ := hf ia (by simp)
  have hl := rv.length
  exact q606 (I.ok.hd hc) q1 q2 (show s.heap.IsTuple a its.toArray from p) (by simp; omega) fun h' eb => ⟨rfl, I.turned (t' := s.toks) (fun b o hb e => eb b o hb e) f0 f1 f3 f4 f5⟩
 self := fun _ _ _ _ _ st h => by
  obtain ⟨⟨was, q1⟩, _⟩ := st
  exact wpAny_pyIter_enum q1 h
theorem q608 (tp : Addr) (us : Array Value) (n : Nat) (dct : Option Addr) (sl : Array (Option Value)) :
  Meets (Builtin.«enumerate.__new__» ⟨[.type "enumerate", .ref tp], []⟩) (fun _ R s => s.heap.get? tp = some { cls := .type "tuple", dict := dct, data := .seq us n, slots := sl } /\
   R (.ok (.ret (.ref (s.heap.push { cls := .type "tuple_iterator", data := .fields #[.ref tp, .int 0 0] }).objs.size)))
    { s with heap := (s.heap.push { cls := .type "tuple_iterator", data := .fields #[.ref tp, .int 0 0] }).push { cls := .type "enumerate", data := .fields #[.none, .bool false, .ref s.heap.objs.size, rawInt 0, .none, .none] } }) :=
 .of_wp fun prog w A R s z => by
  obtain ⟨hp, g, d, tk, os⟩ := s
  obtain ⟨z1, z2⟩ := z
  have sb := sub_enumerate
  have T : Heap.IsTuple (Shared.heap ⟨hp, g, d, tk, os⟩) tp us := ⟨_, z1, rfl, n, rfl⟩
  wp_walk using AutoSeq1.wpAny_loadPart' z1
  refine wpAny_stack_any fun st => wpAny_pure ?_
  split
  ·rename_i c _ _ _ _ _
   cases (c == Value.type "enumerate")
   all_goals
    wp_walk using AutoSeq1.wpAny_loadPart' z1, wpAny_pyIter_tuple T
    exact ⟨_, rfl, z2⟩
  ·wp_walk using AutoSeq1.wpAny_loadPart' z1, wpAny_pyIter_tuple T
   exact ⟨_, rfl, z2⟩
section
variable {prog : Program} {w : World} {A : Around} {E : Value -> Shared -> Prop} {s : Shared}
theorem q545 {tp : Addr} {us : Array Value} {Q : Value -> Shared -> Prop} (T : s.heap.IsTuple tp us)
  (k : ∀ h', IsEnum h' (s.heap.objs.size + 1) s.heap.objs.size 0 .none -> h'.IsTupleIter s.heap.objs.size tp 0 -> (∀ b o, s.heap.get? b = some o -> h'.get? b = some o) -> Q (.ref (s.heap.objs.size + 1)) { s with heap := h' }) :
  wpAny (model prog w) A (call (.type "enumerate") [.ref tp]) Q E s := by
 obtain ⟨⟨c, dct, dt, sl⟩, z1, z2, n, z3⟩ := T
 simp only at z2 z3
 subst z2 z3
 refine callType_new F.called_enumerate (by decide) (F.typeCall_enumerate_1 _) (F.newCall_enumerate_1 _) (fun obj => F.args_object_init_2 obj _) F.entry_enumerate_new (q608 tp us n dct sl) ⟨z1, ?_⟩
 generalize ho : ({ cls := .type "tuple_iterator", data := .fields #[.ref tp, .int 0 0] } : Obj) = o1
 have y1 : (s.heap.push o1).objs.size = s.heap.objs.size + 1 := Heap.size_push ..
 have y2 : ∀ o2 : Obj, o2.isFreed = false -> ((s.heap.push o1).push o2).get? (s.heap.objs.size + 1) = some o2 := fun o2 f => by
  have := Heap.get?_push_size (s.heap.push o1) (o := o2) f
  rwa [y1] at this
 show _ /\ _
 rw [y1]
 have y3 := y2 { cls := .type "enumerate", data := .fields #[.none, .bool false, .ref s.heap.objs.size, rawInt 0, .none, .none] } rfl
 refine ⟨⟨_, y3, rfl⟩, k _ y3 ⟨o1, Heap.get?_push_of_some _ (Heap.get?_push_size _ (by rw [<- ho]; rfl)), by rw [<- ho], by rw [<- ho]; rfl⟩ fun b o q => Heap.get?_push_of_some _ (Heap.get?_push_of_some _ q)⟩
end
section
variable {X : Cx} {es : List Expr} {x1 : Nat} {tpos : Pos}
def iEnum (K : PySem.W.Frag) (ta : TA) : TI := fun σ H R => ta σ H fun vs H1 => ∃ a, vs = [.ref a] /\ (∃ xs, SqT K H1 a xs) /\ R (Ite K a) H1
theorem pi_enum {l : Expr} {ta : TA} {p pos : Pos} (hg : Gl X "enumerate") (hm : X.mg "enumerate" = none) (ha : PA X [l] ta) (hs : starEach [l] X.env = [(false, eval l X.env)] := by rfl) :
  PI X (.Tuple es x1 tpos) (.Call (.Name "enumerate" p) [l] [] pos) (iEnum X.K ta) := by
 intro pins s σ H R I h
 refine Call_ (q343 I hg hm boot_enumerate (PyProof.Rows.callWith_type1 (thn (ha pos pins s σ H _ I h) fun us s1 ⟨vs, H1, I1, r1, q1⟩ => ?_) hs rfl))
 obtain ⟨a, e, ⟨xs, hq⟩, q⟩ := q1
 subst e
 cases r1 with
 | cons r rr =>
  cases rr
  cases r
  obtain ⟨its, rv, p, hz⟩ := I1.tuple hq
  refine q545 (show s1.heap.IsTuple a its.toArray from p) fun h' e1 e2 k => wpAny_pyIter_enum e1 ?_
  have I2 : Inv X pins σ H1 { s1 with heap := h' } := I1.kept (t' := s1.toks) k
  refine ⟨s1.heap.objs.size + 1, [s1.heap.objs.size + 1, s1.heap.objs.size], _, _, H1, rfl, I2, q544 a _ _ (Nat.succ_ne_self _), ⟨⟨_, e1⟩, e2⟩, fun b hb => ?_, q⟩
  have hb' : s1.heap.objs.size <= b := by
   have z : b = s1.heap.objs.size + 1 \/ b = s1.heap.objs.size := by simpa using hb
   rcases z with z | z
   ·rw [z]; exact Nat.le_succ _
   ·rw [z]; exact Nat.le_refl _
  exact I1.fpOk hb' (I1.hok.fresh hb')
theorem for_enum {K : PySem.W.Frag} {a : Addr} {xs : List V} {g : TG} {tb : TS} {D : Ends} {σ : St} {H : Hp} (Pv : Nat -> St -> Hp -> Prop) (h0 : Pv 0 σ H) (hl : ∀ i σ H, i <= xs.length -> Pv i σ H -> SqT K H a xs)
  (hs : ∀ i x σ H p, xs[i]? = some x -> Pv i σ H -> H p = none -> g (.ref p) σ (upd H p (.tup [.int i, x])) fun σ2 H2 => tb { D with nx := Pv (i + 1), ct := Pv (i + 1), bk := D.nx } σ2 H2) (hd : ∀ σ H, Pv xs.length σ H -> D.nx σ H) :
  ∃ W : Nat -> Nat -> St -> Hp -> Prop, (∃ m, W 0 m σ H) /\ ∀ i m σ H, W i m σ H ->
   ((Ite K a).stop i H /\ D.nx σ H) \/ ((Ite K a).go i H /\ ∃ N : St -> Hp -> Prop, (∀ σ' H', N σ' H' -> ∃ m', m' < m /\ W (i + 1) m' σ' H') /\ ∀ x H', (Ite K a).yld i H x H' -> g x σ H' fun σ2 H2 => tb { D with nx := N, ct := N, bk := D.nx } σ2 H2) := by
 refine ⟨fun i m σ H => m = xs.length - i /\ i <= xs.length /\ Pv i σ H, ⟨xs.length, by simp, Nat.zero_le _, h0⟩, ?_⟩
 rintro i m σ H ⟨rfl, hi, p⟩
 have q := hl i σ H hi p
 by_cases hlt : i < xs.length
 ·refine .inr ⟨⟨xs, xs[i], q, by simp [hlt]⟩, Pv (i + 1), fun σ' H' p' => ⟨xs.length - (i + 1), by omega, rfl, hlt, p'⟩, fun x H' y => ?_⟩
  obtain ⟨pp, yv, rfl, e2, rfl, y⟩ := y
  exact hs i yv σ _ pp (y xs q) p e2
 ·have e : i = xs.length := by omega
  subst e
  exact .inl ⟨⟨xs, q, Nat.le_refl _⟩, hd σ H p⟩
end
end L2
namespace L2
open PySem PySem.Spec PyProof.Rows
section
variable {X : Cx}
end
end L2
namespace L2
open PySem PySem.Spec PyProof.Rows
section
variable {X : Cx}
variable {a b c d : Expr} {ta tb tc td : TE} {pos : Pos}
end
end L2
namespace L2
open PySem PySem.Spec PyProof.Rows
section
variable {X : Cx} {K : PySem.W.Frag}
end
end L2
namespace L2
open PySem PySem.Spec PyProof.Rows
section
variable {X : Cx}
end
end L2
namespace TS
open PySem PySem.W PyProof.Rows
abbrev M2 := StateT SortSt Sem
section
variable {prog : Program} {w : World} {A : Around} {E : Value -> Shared -> Prop}
theorem c_for {β : Type} {f : Nat -> β -> M2 (ForInStep β)} {Q : β -> SortSt -> Shared -> Prop} (I : Nat -> β -> SortSt -> Shared -> Prop) :
  ∀ (l : List Nat) (n : Nat) (b : β) (st : SortSt) (s : Shared), I n b st s -> (∀ b st s, I (n + l.length) b st s -> Q b st s) ->
  (∀ k x b st s, n <= k -> k < n + l.length -> I k b st s -> kasC (model prog w) A E (f x b) (fun r st' s' => match r with | .done b' => Q b' st' s' | .yield b' => I (k + 1) b' st' s') st s) ->
  kasC (model prog w) A E (forIn l b f) Q st s
 | [], n, b, st, s, hi, hq, _ => kasC_nil (hq b st s hi)
 | x :: l, n, b, st, s, hi, hq, hs => by
  refine kasC_cons (wpAny_mono (hs n x b st s (Nat.le_refl _) (by simp) hi) (fun r s' h => ?_) fun _ _ e => e)
  obtain ⟨r, st'⟩ := r
  cases r with
  | done b' => exact h
  | yield b' =>
   refine c_for I l (n + 1) b' st' s' h (fun b st s hb => hq b st s (by simpa [Nat.add_assoc, Nat.add_comm, Nat.add_left_comm] using hb)) (fun k x b st s h1 h2 h3 => hs k x b st s (by omega) (by simp at h2 ⊢; omega) h3)
theorem c_range {β : Type} {f : Nat -> β -> M2 (ForInStep β)} {Q : β -> SortSt -> Shared -> Prop} {n : Nat} {b : β} {st : SortSt} {s : Shared} (I : Nat -> β -> SortSt -> Shared -> Prop) (h0 : I 0 b st s) (hq : ∀ b st s, I n b st s -> Q b st s)
  (hs : ∀ k x b st s, k < n -> I k b st s -> kasC (model prog w) A E (f x b) (fun r st' s' => match r with | .done b' => Q b' st' s' | .yield b' => I (k + 1) b' st' s') st s) : kasC (model prog w) A E (forIn [0:n] b f) Q st s := by
 refine kasC_range (c_for I (List.range' 0 (n - 0)) 0 b st s h0 (fun b st s h => hq b st s ?_) (fun k x b st s h1 h2 h3 => hs k x b st s ?_ h3))
 ·simpa using h
 ·simpa using h2
theorem q367 {β : Type} {f : Nat -> β -> M2 (ForInStep β)} {Q : β -> SortSt -> Shared -> Prop} {n : Nat} {b : β} {st : SortSt} {s : Shared} (I : Nat -> β -> SortSt -> Shared -> Prop) (R : β -> SortSt -> Shared -> Prop) (h0 : I 0 b st s) (he : ∀ b st s, I n b st s -> R b st s)
  (hs : ∀ k x b st s, k < n -> I k b st s -> kasC (model prog w) A E (f x b) (fun r st' s' => match r with | .done b' => R b' st' s' | .yield b' => I (k + 1) b' st' s') st s) (hR : ∀ b st s, R b st s -> Q b st s) : kasC (model prog w) A E (forIn [0:n] b f) Q st s :=
 wpAny_mono (c_range I h0 he hs) (fun r s' h => hR _ _ _ h) fun _ _ e => e
theorem c_elem {arr : Array Keyed} {i : Nat} {Q : Keyed -> SortSt -> Shared -> Prop} {st : SortSt} {s : Shared} (hi : i < arr.size) (h : Q (kas_item arr i) st s) : kasC (model prog w) A E (elem' arr i) Q st s := by
 rw [elem'_eq]
 have e : arr[i]? = some (kas_item arr i) := by
  unfold kas_item
  simp [Array.getD, hi]
 rw [e]
 exact kasC_pure h
def Good (prog : Program) (w : World) (A : Around) (E : Value -> Shared -> Prop) (κ : SortKind) (P : Keyed -> Prop) (lt : Keyed -> Keyed -> Bool) (s : Shared) : Prop :=
 ∀ (x y : Keyed) (st : SortSt) (Q : Option Bool -> SortSt -> Shared -> Prop), P x -> P y -> kindOf st = κ -> Q (some (lt x y)) st s -> kasC (model prog w) A E (lt' x y) Q st s
variable {κ : SortKind} {P : Keyed -> Prop} {lt : Keyed -> Keyed -> Bool}
end
section
variable {P : Keyed -> Prop} {lt : Keyed -> Keyed -> Bool}
structure Tot (P : Keyed -> Prop) (lt : Keyed -> Keyed -> Bool) : Prop where
 trans : ∀ x y z, P x -> P y -> P z -> lt y x = false -> lt z y = false -> lt z x = false
 asym : ∀ x y, P x -> P y -> lt x y = true -> lt y x = false
def Srt (lt : Keyed -> Keyed -> Bool) (l : List Keyed) : Prop := l.Pairwise fun x y => lt y x = false
structure MInv (lt : Keyed -> Keyed -> Bool) (al bl o : List Keyed) (i j : Nat) : Prop where
 perm : o.Perm (al.take i ++ bl.take j)
 srt : Srt lt o
 ba : ∀ x ∈ o, ∀ y ∈ al.drop i, lt y x = false
 bb : ∀ x ∈ o, ∀ y ∈ bl.drop j, lt y x = false
theorem q368 {a : Array Keyed} {i : Nat} (h : i < a.size) : a.toList[i]? = some (kas_item a i) := by
 unfold kas_item
 simp [Array.getD, h]
theorem q58 {a : Array Keyed} {i : Nat} (h : i < a.size) : kas_item a i ∈ a.toList := List.mem_of_getElem? (q368 h)
end
end TS
namespace TS
open PySem PySem.W PyProof.Rows
section
variable {P : Keyed -> Prop} {lt : Keyed -> Keyed -> Bool} {a b out : Array Keyed} {i j k : Nat}
end
section
variable {prog : Program} {w : World} {A : Around} {E : Value -> Shared -> Prop} {κ : SortKind} {P : Keyed -> Prop} {lt : Keyed -> Keyed -> Bool}
end
end TS
namespace TS
open PySem PySem.W PyProof.Rows
section
variable {prog : Program} {w : World} {A : Around} {E : Value -> Shared -> Prop} {κ : SortKind} {P : Keyed -> Prop} {lt : Keyed -> Keyed -> Bool}
end
end TS
namespace TS
open PySem PySem.W PyProof.Rows
section
variable {P : Keyed -> Prop} {lt : Keyed -> Keyed -> Bool}
structure HInv (lt : Keyed -> Keyed -> Bool) (al bl o : List Keyed) (i j : Nat) : Prop where
 perm : o.Perm (al.drop i ++ bl.drop j)
 srt : Srt lt o
 ba : ∀ x ∈ al.take i, ∀ y ∈ o, lt y x = false
 bb : ∀ x ∈ bl.take j, ∀ y ∈ o, lt y x = false
variable {a b out : Array Keyed} {i j k : Nat}
end
section
variable {prog : Program} {w : World} {A : Around} {E : Value -> Shared -> Prop} {κ : SortKind} {P : Keyed -> Prop} {lt : Keyed -> Keyed -> Bool}
end
end TS
namespace TS
open PySem PySem.W PyProof.Rows
section
variable {prog : Program} {w : World} {A : Around} {E : Value -> Shared -> Prop}
theorem c_upto {β : Type} {f : Nat -> β -> M2 (ForInStep β)} {R : β -> SortSt -> Shared -> Prop} (I : Nat -> β -> SortSt -> Shared -> Prop) :
  ∀ (m a : Nat) (b : β) (st : SortSt) (s : Shared), I a b st s -> (∀ b st s, I (a + m) b st s -> R b st s) ->
  (∀ k b st s, a <= k -> k < a + m -> I k b st s -> kasC (model prog w) A E (f k b) (fun r st' s' => match r with | .done b' => R b' st' s' | .yield b' => I (k + 1) b' st' s') st s) ->
  kasC (model prog w) A E (forIn (List.range' a m) b f) R st s
 | 0, a, b, st, s, hi, hq, _ => kasC_nil (hq b st s hi)
 | m + 1, a, b, st, s, hi, hq, hs => by
  rw [List.range'_succ]
  refine kasC_cons (wpAny_mono (hs a b st s (Nat.le_refl _) (by omega) hi) (fun r s' h => ?_) fun _ _ e => e)
  obtain ⟨r, st'⟩ := r
  cases r with
  | done b' => exact h
  | yield b' => exact c_upto I m (a + 1) b' st' s' h (fun b st s hb => hq b st s (by rw [show a + (m + 1) = a + 1 + m by omega]; exact hb)) (fun k b st s h1 h2 h3 => hs k b st s (by omega) (by omega) h3)
theorem q51 {β : Type} {f : Nat -> β -> M2 (ForInStep β)} {Q : β -> SortSt -> Shared -> Prop} {a n : Nat} {b : β} {st : SortSt} {s : Shared} (han : a <= n) (I : Nat -> β -> SortSt -> Shared -> Prop) (R : β -> SortSt -> Shared -> Prop) (h0 : I a b st s) (he : ∀ b st s, I n b st s -> R b st s)
  (hs : ∀ k b st s, a <= k -> k < n -> I k b st s -> kasC (model prog w) A E (f k b) (fun r st' s' => match r with | .done b' => R b' st' s' | .yield b' => I (k + 1) b' st' s') st s) (hR : ∀ b st s, R b st s -> Q b st s) : kasC (model prog w) A E (forIn [a:n] b f) Q st s := by
 refine kasC_range (wpAny_mono (c_upto I (n - a) a b st s h0 (fun b st s h => he b st s (by rw [show a + (n - a) = n by omega] at h; exact h)) (fun k b st s h1 h2 h3 => hs k b st s h1 (by omega) h3)) (fun r s' h => hR _ _ _ h) fun _ _ e => e)
end
section
variable {P : Keyed -> Prop} {lt : Keyed -> Keyed -> Bool}
theorem q285 {xs ys : Array Keyed} {i j : Nat} (h : xs[i]? = ys[j]?) : kas_item xs i = kas_item ys j := by
 unfold kas_item
 rw [Array.getD_eq_getD_getElem?, Array.getD_eq_getD_getElem?, h]
theorem q286 {xs : Array Keyed} {src d : Nat} (hs : src < xs.size) (hd : d <= src) (t : Nat) : kas_item (bubble xs src d) t = if t = src - d then kas_item xs src else if src - d < t /\ t <= src then kas_item xs (t - 1) else kas_item xs t := by
 have e := getElem?_bubble hs d hd t
 by_cases h1 : t = src - d
 ·rw [if_pos h1] at e ⊢; exact q285 e
 ·rw [if_neg h1] at e ⊢
  by_cases h2 : src - d < t /\ t <= src
  ·rw [if_pos h2] at e ⊢; exact q285 e
  ·rw [if_neg h2] at e ⊢; exact q285 e
theorem q136 {xs : Array Keyed} {i j : Nat} (hj : j <= xs.size) (t : Nat) : kas_item (mirror xs i j ((j - i) / 2)) t = if i <= t /\ t < j then kas_item xs (i + j - 1 - t) else kas_item xs t := by
 have e := getElem?_mirror_all (i := i) hj t
 by_cases h1 : i <= t /\ t < j
 ·rw [if_pos h1] at e ⊢; exact q285 e
 ·rw [if_neg h1] at e ⊢; exact q285 e
structure Loc (xs ys : Array Keyed) (lo hi : Nat) : Prop where
 size : ys.size = xs.size
 perm : ys.Perm xs
 out : ∀ t, t < lo \/ hi <= t -> ys[t]? = xs[t]?
theorem Loc.refl (xs : Array Keyed) (lo hi : Nat) : Loc xs xs lo hi := ⟨rfl, Array.Perm.refl _, fun _ _ => rfl⟩
theorem Loc.trans {xs ys zs : Array Keyed} {lo hi : Nat} (a : Loc xs ys lo hi) (b : Loc ys zs lo hi) : Loc xs zs lo hi := ⟨b.size.trans a.size, b.perm.trans a.perm, fun t ht => (b.out t ht).trans (a.out t ht)⟩
theorem Loc.wide {xs ys : Array Keyed} {lo hi lo' hi' : Nat} (a : Loc xs ys lo hi) (h1 : lo' <= lo) (h2 : hi <= hi') : Loc xs ys lo' hi' := ⟨a.size, a.perm, fun t ht => a.out t (by omega)⟩
theorem Loc.good {xs ys : Array Keyed} {lo hi : Nat} (a : Loc xs ys lo hi) (h : ∀ x ∈ xs.toList, P x) : ∀ x ∈ ys.toList, P x := fun x hx => h x ((Array.perm_iff_toList_perm.mp a.perm).mem_iff.mp hx)
theorem q546 {xs : Array Keyed} {src d : Nat} (hs : src < xs.size) (hd : d <= src) : Loc xs (bubble xs src d) (src - d) (src + 1) := ⟨bubble_size _ _ _, bubble_perm _ _ _, fun t ht => by
 rw [getElem?_bubble hs d hd t]
 by_cases h1 : t = src - d
 ·omega
 ·rw [if_neg h1, if_neg (by omega)]⟩
theorem q37 {xs : Array Keyed} {i j : Nat} (hj : j <= xs.size) : Loc xs (mirror xs i j ((j - i) / 2)) i j := ⟨mirror_size _ _ _ _, mirror_perm _ _ _ _, fun t ht => by
 rw [getElem?_mirror_all hj t, if_neg (by omega)]⟩
def Asc (lt : Keyed -> Keyed -> Bool) (xs : Array Keyed) (lo n : Nat) : Prop := ∀ p q, p < q -> q < n -> lt (kas_item xs (lo + q)) (kas_item xs (lo + p)) = false
def Su (st st' : SortSt) : Prop := kindOf st' = kindOf st /\ pendingOf st' = pendingOf st /\ failedOf st' = failedOf st
theorem Su.refl (st : SortSt) : Su st st := ⟨rfl, rfl, rfl⟩
theorem Su.trans {a b c : SortSt} (h : Su a b) (g : Su b c) : Su a c := ⟨g.1.trans h.1, g.2.1.trans h.2.1, g.2.2.trans h.2.2⟩
theorem ins_asc (T : Tot P lt) {xs : Array Keyed} {lo k l : Nat} (hp : ∀ x ∈ xs.toList, P x) (hz : lo + k < xs.size) (hl : l <= k) (hs : Asc lt xs lo k) (h1 : ∀ t, t < l -> lt (kas_item xs (lo + k)) (kas_item xs (lo + t)) = false) (h2 : ∀ t, l <= t -> t < k -> lt (kas_item xs (lo + k)) (kas_item xs (lo + t)) = true) :
  Asc lt (bubble xs (lo + k) (lo + k - (lo + l))) lo (k + 1) := by
 have pm : ∀ t, t <= k -> P (kas_item xs (lo + t)) := fun t ht => hp _ (q58 (by omega))
 intro p q hpq hq
 rw [q286 hz (by omega), q286 hz (by omega)]
 by_cases q1 : q = l
 ·rw [if_pos (by omega), if_neg (by omega), if_neg (by omega)]
  exact h1 p (by omega)
 ·rw [if_neg (show ¬ lo + q = lo + k - (lo + k - (lo + l)) by omega)]
  by_cases q2 : l < q
  ·rw [if_pos (show lo + k - (lo + k - (lo + l)) < lo + q /\ lo + q <= lo + k by omega), show lo + q - 1 = lo + (q - 1) by omega]
   by_cases p1 : p = l
   ·rw [if_pos (by omega)]
    exact T.asym _ _ (pm k (Nat.le_refl _)) (pm (q - 1) (by omega)) (h2 (q - 1) (by omega) (by omega))
   ·rw [if_neg (by omega)]
    by_cases p2 : l < p
    ·rw [if_pos (by omega), show lo + p - 1 = lo + (p - 1) by omega]
     exact hs (p - 1) (q - 1) (by omega) (by omega)
    ·rw [if_neg (by omega)]
     exact hs p (q - 1) (by omega) (by omega)
  ·rw [if_neg (by omega), if_neg (by omega), if_neg (by omega)]
   exact hs p q hpq (by omega)
end
section
variable {prog : Program} {w : World} {A : Around} {E : Value -> Shared -> Prop} {κ : SortKind} {P : Keyed -> Prop} {lt : Keyed -> Keyed -> Bool}
theorem q158 {s : Shared} (G : Good prog w A E κ P lt s) {i j : Nat} {Q : Option Bool -> SortSt -> Shared -> Prop} {st : SortSt} (hst : kindOf st = κ) (hp : ∀ x ∈ (arrOf st).toList, P x) (hi : i < (arrOf st).size) (hj : j < (arrOf st).size)
  (h : Q (some (lt (kas_item (arrOf st) i) (kas_item (arrOf st) j))) st s) : kasC (model prog w) A E (ltAt' i j) Q st s := by
 rw [ltAt'_eq]
 refine kasC_bind (kasC_get (kasC_bind (c_elem hi (kasC_bind (c_elem hj ?_)))))
 exact G _ _ _ _ (hp _ (q58 hi)) (hp _ (q58 hj)) hst h
theorem c_move {k l : Nat} {Q : Unit -> SortSt -> Shared -> Prop} {st : SortSt} {s : Shared} (h : ∀ st', Su st st' -> arrOf st' = bubble (arrOf st) k (k - l) -> Q () st' s) : kasC (model prog w) A E (moveDown' k l) Q st s := by
 rw [moveDown'_eq]
 exact kasC_modify (h _ ⟨rfl, rfl, rfl⟩ rfl)
theorem c_rev {i j : Nat} {Q : Unit -> SortSt -> Shared -> Prop} {st : SortSt} {s : Shared} (h : ∀ st', Su st st' -> arrOf st' = mirror (arrOf st) i j ((j - i) / 2) -> Q () st' s) : kasC (model prog w) A E (reverseSlice' i j) Q st s := by
 rw [reverseSlice'_eq]
 exact kasC_modify (h _ ⟨rfl, rfl, rfl⟩ rfl)
theorem q461 {s : Shared} (G : Good prog w A E κ P lt s) (T : Tot P lt) {lo n ok : Nat} {Q : Bool -> SortSt -> Shared -> Prop} {st : SortSt} (hst : kindOf st = κ) (hp : ∀ x ∈ (arrOf st).toList, P x) (hn : lo + n <= (arrOf st).size) (hok : ok <= n) (h1 : 1 <= n) (hs : Asc lt (arrOf st) lo ok)
  (h : ∀ st', Su st st' -> Loc (arrOf st) (arrOf st') lo (lo + n) -> Asc lt (arrOf st') lo n -> Q true st' s) : kasC (model prog w) A E (binarySort' lo n ok) Q st s := by
 refine kasC_bind (q51 (show max ok 1 <= n by omega) (fun k r st' s' => s' = s /\ r = (none, ()) /\ Su st st' /\ Loc (arrOf st) (arrOf st') lo (lo + n) /\ Asc lt (arrOf st') lo k) (fun r st' s' => s' = s /\ r = (none, ()) /\ Su st st' /\ Loc (arrOf st) (arrOf st') lo (lo + n) /\ Asc lt (arrOf st') lo n)
  ⟨rfl, rfl, Su.refl _, Loc.refl _ _ _, fun p q h1 h2 => hs p q h1 (by omega)⟩ (fun _ _ _ h => h) ?_ ?_)
 ·rintro k r st' s' hk1 hk2 ⟨rfl, rfl, S1, L1, A1⟩
  dsimp only
  have hp' := L1.good hp
  have hz : (arrOf st').size = (arrOf st).size := L1.size
  refine kasC_bind (q367 (fun u r st₂ s₂ => st₂ = st' /\ s₂ = s' /\ ∃ l r', r = (none, l, r') /\ l <= r' /\ r' <= k /\ (r' - l) + u <= k /\ (∀ t, t < l -> lt (kas_item (arrOf st') (lo + k)) (kas_item (arrOf st') (lo + t)) = false) /\ ∀ t, r' <= t -> t < k -> lt (kas_item (arrOf st') (lo + k)) (kas_item (arrOf st') (lo + t)) = true)
   (fun r st₂ s₂ => st₂ = st' /\ s₂ = s' /\ ∃ l r', r = (none, l, r') /\ l <= k /\ (∀ t, t < l -> lt (kas_item (arrOf st') (lo + k)) (kas_item (arrOf st') (lo + t)) = false) /\ ∀ t, l <= t -> t < k -> lt (kas_item (arrOf st') (lo + k)) (kas_item (arrOf st') (lo + t)) = true)
   ⟨rfl, rfl, 0, k, rfl, by omega, by omega, by omega, fun t ht => absurd ht (Nat.not_lt_zero _), fun t h1 h2 => by omega⟩ ?_ ?_ ?_)
  ·rintro r st₂ s₂ ⟨rfl, rfl, l, r', rfl, g1, g2, g3, g4, g5⟩
   exact ⟨rfl, rfl, l, r', rfl, by omega, g4, fun t h1 h2 => g5 t (by omega) h2⟩
  ·rintro u x r st₂ s₂ hu ⟨rfl, rfl, l, r', rfl, g1, g2, g3, g4, g5⟩
   dsimp only
   by_cases c : l >= r'
   ·rw [if_pos c]
    exact kasC_pure ⟨rfl, rfl, l, r', rfl, by omega, g4, fun t h1 h2 => g5 t (by omega) h2⟩
   rw [if_neg c]
   refine kasC_bind (q158 G (S1.1.trans hst) hp' (by omega) (by omega) ?_)
   dsimp only
   have pm : ∀ t, t <= k -> P (kas_item (arrOf st₂) (lo + t)) := fun t ht => hp' _ (q58 (by omega))
   cases hl : lt (kas_item (arrOf st₂) (lo + k)) (kas_item (arrOf st₂) (lo + (l + r') / 2)) with
   | true =>
    rw [if_pos rfl]
    refine kasC_pure ⟨rfl, rfl, _, _, rfl, by omega, by omega, by omega, g4, fun t h1 h2 => ?_⟩
    by_cases e : t = (l + r') / 2
    ·rw [e]; exact hl
    ·cases c2 : lt (kas_item (arrOf st₂) (lo + k)) (kas_item (arrOf st₂) (lo + t)) with
     | true => rfl
     | false =>
      have z := T.trans _ _ _ (pm ((l + r') / 2) (by omega)) (pm t (by omega)) (pm k (Nat.le_refl _)) (A1 _ _ (by omega) h2) c2
      rw [hl] at z
      cases z
   | false =>
    rw [if_neg fnt]
    refine kasC_pure ⟨rfl, rfl, _, _, rfl, by omega, by omega, by omega, fun t ht => ?_, g5⟩
    by_cases e : t = (l + r') / 2
    ·rw [e]; exact hl
    ·exact T.trans _ _ _ (pm t (by omega)) (pm ((l + r') / 2) (by omega)) (pm k (Nat.le_refl _)) (A1 _ _ (by omega) (by omega)) hl
  ·rintro r st₂ s₂ ⟨rfl, rfl, l, r', rfl, g1, g4, g5⟩
   dsimp only
   refine kasC_bind (c_move fun st₃ S3 e3 => kasC_pure ⟨rfl, rfl, S1.trans S3, ?_, ?_⟩)
   ·rw [e3]
    exact L1.trans ((q546 (by omega) (by omega)).wide (by omega) (by omega))
   ·rw [e3]
    exact ins_asc T hp' (by omega) g1 A1 g4 g5
 ·rintro r st' s' ⟨rfl, rfl, S1, L1, A1⟩
  exact kasC_pure (h _ S1 L1 A1)
end
end TS
namespace TS
open PySem PySem.W PyProof.Rows
section
variable {P : Keyed -> Prop} {lt : Keyed -> Keyed -> Bool}
def Desc (lt : Keyed -> Keyed -> Bool) (xs : Array Keyed) (lo n : Nat) : Prop := ∀ p q, p < q -> q < n -> lt (kas_item xs (lo + p)) (kas_item xs (lo + q)) = false
def EqT (lt : Keyed -> Keyed -> Bool) (xs : Array Keyed) (lo i m : Nat) : Prop := ∀ p q, i <= p -> p < m -> i <= q -> q < m -> lt (kas_item xs (lo + p)) (kas_item xs (lo + q)) = false
theorem q87 (T : Tot P lt) {xs : Array Keyed} {lo m : Nat} (hp : ∀ x ∈ xs.toList, P x) (hz : lo + m < xs.size) (h : Desc lt xs lo m) (h1 : 0 < m -> lt (kas_item xs (lo + m - 1)) (kas_item xs (lo + m)) = false) : Desc lt xs lo (m + 1) := by
 have pm : ∀ t, t <= m -> P (kas_item xs (lo + t)) := fun t ht => hp _ (q58 (by omega))
 intro p q hpq hq
 by_cases e : q = m
 ·have z := h1 (by omega)
  rw [show lo + m - 1 = lo + (m - 1) by omega] at z
  rw [e]
  by_cases e2 : p = m - 1
  ·rw [e2]; exact z
  ·exact T.trans _ _ _ (pm m (Nat.le_refl _)) (pm (m - 1) (by omega)) (pm p (by omega)) z (h p (m - 1) (by omega) (by omega))
 ·exact h p q hpq (by omega)
theorem q210 (T : Tot P lt) {xs : Array Keyed} {lo m : Nat} (hp : ∀ x ∈ xs.toList, P x) (hz : lo + m < xs.size) (h : Asc lt xs lo m) (h1 : 0 < m -> lt (kas_item xs (lo + m)) (kas_item xs (lo + m - 1)) = false) : Asc lt xs lo (m + 1) := by
 have pm : ∀ t, t <= m -> P (kas_item xs (lo + t)) := fun t ht => hp _ (q58 (by omega))
 intro p q hpq hq
 by_cases e : q = m
 ·have z := h1 (by omega)
  rw [show lo + m - 1 = lo + (m - 1) by omega] at z
  rw [e]
  by_cases e2 : p = m - 1
  ·rw [e2]; exact z
  ·exact T.trans _ _ _ (pm p (by omega)) (pm (m - 1) (by omega)) (pm m (Nat.le_refl _)) (h p (m - 1) (by omega) (by omega)) z
 ·exact h p q hpq (by omega)
theorem q103 {xs : Array Keyed} {lo i m t : Nat} (hz : lo + m <= xs.size) (ht : t < m) : kas_item (mirror xs (lo + i) (lo + m) ((lo + m - (lo + i)) / 2)) (lo + t) = if i <= t then kas_item xs (lo + (i + m - 1 - t)) else kas_item xs (lo + t) := by
 rw [q136 hz]
 by_cases c : i <= t
 ·rw [if_pos (by omega), if_pos c, show lo + i + (lo + m) - 1 - (lo + t) = lo + (i + m - 1 - t) by omega]
 ·rw [if_neg (by omega), if_neg c]
theorem q104 {xs : Array Keyed} {lo i m : Nat} (hz : lo + m <= xs.size) (h : Desc lt xs lo m) (he : EqT lt xs lo i m) : Desc lt (mirror xs (lo + i) (lo + m) ((lo + m - (lo + i)) / 2)) lo m := by
 intro p q hpq hq
 rw [q103 hz (by omega), q103 hz hq]
 by_cases c1 : i <= p
 ·rw [if_pos c1, if_pos (by omega)]
  exact he _ _ (by omega) (by omega) (by omega) (by omega)
 ·rw [if_neg c1]
  by_cases c2 : i <= q
  ·rw [if_pos c2]
   exact h _ _ (by omega) (by omega)
  ·rw [if_neg c2]
   exact h p q hpq hq
theorem q175 {xs : Array Keyed} {lo m : Nat} (hz : lo + m <= xs.size) (h : Desc lt xs lo m) : Asc lt (mirror xs lo (lo + m) ((lo + m - lo) / 2)) lo m := by
 have e : mirror xs lo (lo + m) ((lo + m - lo) / 2) = mirror xs (lo + 0) (lo + m) ((lo + m - (lo + 0)) / 2) := rfl
 rw [e]
 intro p q hpq hq
 rw [q103 hz hq, q103 hz (by omega), if_pos (Nat.zero_le _), if_pos (Nat.zero_le _)]
 exact h _ _ (by omega) (by omega)
end
section
variable {prog : Program} {w : World} {A : Around} {E : Value -> Shared -> Prop} {κ : SortKind} {P : Keyed -> Prop} {lt : Keyed -> Keyed -> Bool}
theorem q609 {s : Shared} (G : Good prog w A E κ P lt s) (T : Tot P lt) {lo nrem : Nat} {Q : Option Nat -> SortSt -> Shared -> Prop} {st : SortSt} (hst : kindOf st = κ) (hp : ∀ x ∈ (arrOf st).toList, P x) (hn : lo + nrem <= (arrOf st).size) (h1 : 1 <= nrem)
  (h : ∀ n st', 1 <= n -> n <= nrem -> Su st st' -> Loc (arrOf st) (arrOf st') lo (lo + nrem) -> Asc lt (arrOf st') lo n -> Q (some n) st' s) : kasC (model prog w) A E (countRun' lo nrem) Q st s := by
 have irr : ∀ x, P x -> lt x x = false := fun x hx => by
  cases c : lt x x with
  | false => rfl
  | true => exact c.symm.trans (T.asym x x hx hx c)
 refine kasC_bind (q51 (show 1 <= nrem by omega) (fun k r st₉ s₉ => st₉ = st /\ s₉ = s /\ r = (none, k) /\ Asc lt (arrOf st) lo k) (fun r st₉ s₉ => st₉ = st /\ s₉ = s /\ ∃ k, r = (none, k) /\ 1 <= k /\ k <= nrem /\ Asc lt (arrOf st) lo k /\ (k = nrem \/ lt (kas_item (arrOf st) (lo + k)) (kas_item (arrOf st) (lo + k - 1)) = true))
  ⟨rfl, rfl, rfl, fun p q a b => absurd b (by omega)⟩ (fun r st₉ s₉ ⟨e1, e2, e3, e4⟩ => ⟨e1, e2, nrem, e3, by omega, Nat.le_refl _, e4, .inl rfl⟩) ?_ ?_)
 ·rintro k r st₉ s₉ hk1 hk2 ⟨rfl, rfl, rfl, A9⟩
  dsimp only
  refine kasC_bind (q158 G hst hp (by omega) (by omega) ?_)
  dsimp only
  cases hl : lt (kas_item (arrOf st₉) (lo + k)) (kas_item (arrOf st₉) (lo + k - 1)) with
  | true =>
   rw [if_pos rfl]
   exact kasC_pure ⟨rfl, rfl, k, rfl, hk1, by omega, A9, .inr hl⟩
  | false =>
   rw [if_neg fnt]
   exact kasC_pure ⟨rfl, rfl, rfl, q210 T hp (by omega) A9 fun _ => hl⟩
 ·rintro r st₁ s₁ ⟨rfl, rfl, n, rfl, g1, g2, A1, hbr⟩
  dsimp only
  by_cases c1 : n = nrem
  ·rw [if_pos (by simp [c1])]
   exact kasC_pure (h n _ g1 g2 (Su.refl _) (Loc.refl _ _ _) A1)
  rw [if_neg (by simpa using c1)]
  have hbr' : lt (kas_item (arrOf st₁) (lo + n)) (kas_item (arrOf st₁) (lo + n - 1)) = true := by
   rcases hbr with z | z
   ·exact absurd z c1
   ·exact z
  have pm1 : ∀ t, t <= n -> P (kas_item (arrOf st₁) (lo + t)) := fun t ht => hp _ (q58 (by omega))
  rw [show lo + n - 1 = lo + (n - 1) by omega] at hbr'
  have hge1 := T.asym _ _ (pm1 n (Nat.le_refl _)) (pm1 (n - 1) (by omega)) hbr'
  by_cases c2 : n > 1
  ·rw [if_pos c2]
   refine kasC_bind (q158 G hst hp (by omega) (by omega) ?_)
   dsimp only
   cases hl0 : lt (kas_item (arrOf st₁) lo) (kas_item (arrOf st₁) (lo + n - 1)) with
   | true =>
    rw [if_pos rfl]
    exact kasC_pure (h n _ g1 g2 (Su.refl _) (Loc.refl _ _ _) A1)
   | false =>
    rw [if_neg fnt]
    rw [show lo + n - 1 = lo + (n - 1) by omega] at hl0
    have hl0' : lt (kas_item (arrOf st₁) (lo + 0)) (kas_item (arrOf st₁) (lo + (n - 1))) = false := hl0
    have E1 : EqT lt (arrOf st₁) lo 0 n := fun p q _ hp1 _ hq1 => by
     have z1 : lt (kas_item (arrOf st₁) (lo + (n - 1))) (kas_item (arrOf st₁) (lo + q)) = false := by
      by_cases e : q = n - 1
      ·rw [e]; exact irr _ (pm1 (n - 1) (by omega))
      ·exact A1 _ _ (by omega) (by omega)
     have z2 : lt (kas_item (arrOf st₁) (lo + p)) (kas_item (arrOf st₁) (lo + 0)) = false := by
      by_cases e : p = 0
      ·rw [e]; exact irr _ (pm1 0 (by omega))
      ·exact A1 _ _ (by omega) (by omega)
     have z3 := T.trans _ _ _ (pm1 q (by omega)) (pm1 (n - 1) (by omega)) (pm1 0 (by omega)) z1 hl0'
     exact T.trans _ _ _ (pm1 q (by omega)) (pm1 0 (by omega)) (pm1 p (by omega)) z3 z2
    refine kasC_bind (c_rev fun st₂ S2 e2 => ?_)
    have L2 : Loc (arrOf st₁) (arrOf st₂) lo (lo + nrem) := by
     rw [e2]
     exact (q37 (by omega)).wide (Nat.le_refl _) (by omega)
    have D2 : Desc lt (arrOf st₂) lo (n + 1) := by
     have D1 := q104 (i := 0) (show lo + n <= (arrOf st₁).size by omega) (fun p q a b => E1 p q (Nat.zero_le _) (by omega) (Nat.zero_le _) b) E1
     have hp2 := (q37 (xs := arrOf st₁) (i := lo) (j := lo + n) (by omega)).good hp
     have z1 : kas_item (mirror (arrOf st₁) lo (lo + n) ((lo + n - lo) / 2)) (lo + n) = kas_item (arrOf st₁) (lo + n) := by
      rw [q136 (by omega), if_neg (by omega)]
     rw [e2]
     refine q87 T hp2 (by rw [mirror_size]; omega) D1 fun _ => ?_
     have z2 := q103 (xs := arrOf st₁) (lo := lo) (i := 0) (m := n) (t := n - 1) (by omega) (by omega)
     rw [if_pos (Nat.zero_le _)] at z2
     rw [show lo + n - 1 = lo + (n - 1) by omega, z1]
     have z3 : kas_item (mirror (arrOf st₁) lo (lo + n) ((lo + n - lo) / 2)) (lo + (n - 1)) = kas_item (arrOf st₁) (lo + (0 + n - 1 - (n - 1))) := z2
     rw [z3]
     exact T.trans _ _ _ (pm1 n (Nat.le_refl _)) (pm1 (n - 1) (by omega)) (pm1 _ (by omega)) hge1 (E1 _ _ (Nat.zero_le _) (by omega) (Nat.zero_le _) (by omega))
    refine kasC_bind (kasC_lift (wpAny_rule ?_))
    refine kasC_bind (q51 (show n + 1 <= nrem by omega) (fun k r st₄ s₄ => s₄ = s₁ /\ Su st₁ st₄ /\ Loc (arrOf st₁) (arrOf st₄) lo (lo + nrem) /\ ∃ q, r = (none, k, q) /\ q + 1 <= k /\ Desc lt (arrOf st₄) lo k /\ EqT lt (arrOf st₄) lo (k - (q + 1)) k)
     (fun r st₄ s₄ => s₄ = s₁ /\ Su st₁ st₄ /\ Loc (arrOf st₁) (arrOf st₄) lo (lo + nrem) /\ ∃ m q, r = (none, m, q) /\ q + 1 <= m /\ m <= nrem /\ Desc lt (arrOf st₄) lo m /\ EqT lt (arrOf st₄) lo (m - (q + 1)) m)
     ⟨rfl, S2, L2, 0, rfl, by omega, D2, fun p q h1 h2 h3 h4 => by
      have ep : p = n := by omega
      have eq' : q = n := by omega
      rw [ep, eq']
      exact irr _ (L2.good hp _ (q58 (by have := L2.size; omega)))⟩ (fun r st₄ s₄ ⟨e1, e2, e3, q, e4, e5, e6, e7⟩ => ⟨e1, e2, e3, nrem, q, e4, e5, Nat.le_refl _, e6, e7⟩) ?_ ?_)
    ·rintro k r st₄ s₄ hk1 hk2 ⟨rfl, S4, L4, q, rfl, hq, D4, E4⟩
     dsimp only
     have hz4 := L4.size
     have hp4 := L4.good hp
     have hk4 : kindOf st₄ = κ := S4.1.trans hst
     have pm : ∀ t, t <= k -> P (kas_item (arrOf st₄) (lo + t)) := fun t ht => hp4 _ (q58 (by omega))
     refine kasC_bind (q158 G hk4 hp4 (by omega) (by omega) ?_)
     dsimp only
     cases hl : lt (kas_item (arrOf st₄) (lo + k)) (kas_item (arrOf st₄) (lo + k - 1)) with
     | true =>
      rw [if_pos rfl]
      rw [show lo + k - 1 = lo + (k - 1) by omega] at hl
      have hge := T.asym _ _ (pm k (Nat.le_refl _)) (pm (k - 1) (by omega)) hl
      by_cases hq0 : q > 0
      ·rw [if_pos hq0]
       refine kasC_bind (c_rev fun st₅ S5 e5 => kasC_pure ⟨rfl, S4.trans S5, ?_, 0, rfl, by omega, ?_, fun p q' h1 h2 h3 h4 => ?_⟩)
       ·rw [e5]
        exact L4.trans ((q37 (by omega)).wide (by omega) (by omega))
       ·rw [e5, show lo + k - (q + 1) = lo + (k - (q + 1)) by omega]
        have D5 := q104 (by omega) D4 E4
        have hp5 := (q37 (xs := arrOf st₄) (i := lo + (k - (q + 1))) (j := lo + k) (by omega)).good hp4
        have z1 : kas_item (mirror (arrOf st₄) (lo + (k - (q + 1))) (lo + k) ((lo + k - (lo + (k - (q + 1)))) / 2)) (lo + k) = kas_item (arrOf st₄) (lo + k) := by
         rw [q136 (by omega), if_neg (by omega)]
        refine q87 T hp5 (by rw [mirror_size]; omega) D5 fun _ => ?_
        rw [show lo + k - 1 = lo + (k - 1) by omega, z1, q103 (by omega) (by omega), if_pos (by omega)]
        exact T.trans _ _ _ (pm k (Nat.le_refl _)) (pm (k - 1) (by omega)) (pm _ (by omega)) hge (E4 _ _ (by omega) (by omega) (by omega) (by omega))
       ·have ep : p = k := by omega
        have eq' : q' = k := by omega
        rw [ep, eq']
        refine irr _ ?_
        have L5 : Loc (arrOf st₄) (arrOf st₅) (lo + k - (q + 1)) (lo + k) := by
         rw [e5]
         exact q37 (by omega)
        exact L5.good hp4 _ (q58 (by have := L5.size; omega))
      ·rw [if_neg hq0]
       refine kasC_pure ⟨rfl, S4, L4, 0, rfl, by omega, q87 T hp4 (by omega) D4 fun _ => ?_, fun p q' h1 h2 h3 h4 => ?_⟩
       ·rw [show lo + k - 1 = lo + (k - 1) by omega]
        exact hge
       ·have ep : p = k := by omega
        have eq' : q' = k := by omega
        rw [ep, eq']
        exact irr _ (pm k (Nat.le_refl _))
     | false =>
      rw [if_neg fnt]
      refine kasC_bind (q158 G hk4 hp4 (by omega) (by omega) ?_)
      dsimp only
      cases hl2 : lt (kas_item (arrOf st₄) (lo + k - 1)) (kas_item (arrOf st₄) (lo + k)) with
      | true =>
       rw [if_pos rfl]
       exact kasC_pure ⟨rfl, S4, L4, k, q, rfl, hq, by omega, D4, E4⟩
      | false =>
       rw [if_neg fnt]
       refine kasC_pure ⟨rfl, S4, L4, q + 1, rfl, by omega, q87 T hp4 (by omega) D4 fun _ => hl2, fun p q' h1 h2 h3 h4 => ?_⟩
       rw [show lo + k - 1 = lo + (k - 1) by omega] at hl hl2
       by_cases ep : p = k
       ·by_cases eq' : q' = k
        ·rw [ep, eq']
         exact irr _ (pm k (Nat.le_refl _))
        ·rw [ep]
         exact T.trans _ _ _ (pm q' (by omega)) (pm (k - 1) (by omega)) (pm k (Nat.le_refl _)) (E4 _ _ (by omega) (by omega) (by omega) (by omega)) hl
       ·by_cases eq' : q' = k
        ·rw [eq']
         exact T.trans _ _ _ (pm k (Nat.le_refl _)) (pm (k - 1) (by omega)) (pm p (by omega)) hl2 (E4 _ _ (by omega) (by omega) (by omega) (by omega))
        ·exact E4 _ _ (by omega) (by omega) (by omega) (by omega)
    ·rintro r st₄ s₄ ⟨rfl, S4, L4, m, q, rfl, hq, hm, D4, E4⟩
     dsimp only
     have hz4 := L4.size
     have hp4 := L4.good hp
     by_cases hq0 : q > 0
     ·rw [if_pos hq0]
      refine kasC_bind (c_rev fun st₅ S5 e5 => ?_)
      have L5 : Loc (arrOf st₁) (arrOf st₅) lo (lo + nrem) := by
       rw [e5]
       exact L4.trans ((q37 (by omega)).wide (by omega) (by omega))
      have D5 : Desc lt (arrOf st₅) lo m := by
       rw [e5, show lo + m - (q + 1) = lo + (m - (q + 1)) by omega]
       exact q104 (by omega) D4 E4
      have hz5 := L5.size
      refine kasC_bind (c_rev fun st₆ S6 e6 => ?_)
      have L6 : Loc (arrOf st₁) (arrOf st₆) lo (lo + nrem) := by
       rw [e6]
       exact L5.trans ((q37 (by omega)).wide (Nat.le_refl _) (by omega))
      have A6 : Asc lt (arrOf st₆) lo m := by
       rw [e6]
       exact q175 (by omega) D5
      have hz6 := L6.size
      have hp6 := L6.good hp
      have hk6 : kindOf st₆ = κ := ((S4.trans S5).trans S6).1.trans hst
      refine kasC_bind (q51 (show m <= nrem by omega) (fun k r st₉ s₉ => st₉ = st₆ /\ s₉ = s₄ /\ r = (none, k) /\ Asc lt (arrOf st₆) lo k) (fun r st₉ s₉ => st₉ = st₆ /\ s₉ = s₄ /\ ∃ k, r = (none, k) /\ m <= k /\ k <= nrem /\ Asc lt (arrOf st₆) lo k /\ (k = nrem \/ lt (kas_item (arrOf st₆) (lo + k)) (kas_item (arrOf st₆) (lo + k - 1)) = true))
       ⟨rfl, rfl, rfl, A6⟩ (fun r st₉ s₉ ⟨e1, e2, e3, e4⟩ => ⟨e1, e2, nrem, e3, by omega, Nat.le_refl _, e4, .inl rfl⟩) ?_ ?_)
      ·rintro k r st₉ s₉ hk1 hk2 ⟨rfl, rfl, rfl, A9⟩
       dsimp only
       refine kasC_bind (q158 G hk6 hp6 (by omega) (by omega) ?_)
       dsimp only
       cases hl : lt (kas_item (arrOf st₉) (lo + k)) (kas_item (arrOf st₉) (lo + k - 1)) with
       | true =>
        rw [if_pos rfl]
        exact kasC_pure ⟨rfl, rfl, k, rfl, hk1, by omega, A9, .inr hl⟩
       | false =>
        rw [if_neg fnt]
        exact kasC_pure ⟨rfl, rfl, rfl, q210 T hp6 (by omega) A9 fun _ => hl⟩
      ·rintro r st₇ s₇ ⟨rfl, rfl, k, rfl, g1, g2, g3, _⟩
       exact kasC_pure (h k _ (by omega) g2 ((S4.trans S5).trans S6) L6 g3)
     ·rw [if_neg hq0]
      refine kasC_bind (c_rev fun st₆ S6 e6 => ?_)
      have L6 : Loc (arrOf st₁) (arrOf st₆) lo (lo + nrem) := by
       rw [e6]
       exact L4.trans ((q37 (by omega)).wide (Nat.le_refl _) (by omega))
      have A6 : Asc lt (arrOf st₆) lo m := by
       rw [e6]
       exact q175 (by omega) D4
      have hz6 := L6.size
      have hp6 := L6.good hp
      have hk6 : kindOf st₆ = κ := (S4.trans S6).1.trans hst
      refine kasC_bind (q51 (show m <= nrem by omega) (fun k r st₉ s₉ => st₉ = st₆ /\ s₉ = s₄ /\ r = (none, k) /\ Asc lt (arrOf st₆) lo k) (fun r st₉ s₉ => st₉ = st₆ /\ s₉ = s₄ /\ ∃ k, r = (none, k) /\ m <= k /\ k <= nrem /\ Asc lt (arrOf st₆) lo k /\ (k = nrem \/ lt (kas_item (arrOf st₆) (lo + k)) (kas_item (arrOf st₆) (lo + k - 1)) = true))
       ⟨rfl, rfl, rfl, A6⟩ (fun r st₉ s₉ ⟨e1, e2, e3, e4⟩ => ⟨e1, e2, nrem, e3, by omega, Nat.le_refl _, e4, .inl rfl⟩) ?_ ?_)
      ·rintro k r st₉ s₉ hk1 hk2 ⟨rfl, rfl, rfl, A9⟩
       dsimp only
       refine kasC_bind (q158 G hk6 hp6 (by omega) (by omega) ?_)
       dsimp only
       cases hl : lt (kas_item (arrOf st₉) (lo + k)) (kas_item (arrOf st₉) (lo + k - 1)) with
       | true =>
        rw [if_pos rfl]
        exact kasC_pure ⟨rfl, rfl, k, rfl, hk1, by omega, A9, .inr hl⟩
       | false =>
        rw [if_neg fnt]
        exact kasC_pure ⟨rfl, rfl, rfl, q210 T hp6 (by omega) A9 fun _ => hl⟩
      ·rintro r st₇ s₇ ⟨rfl, rfl, k, rfl, g1, g2, g3, _⟩
       exact kasC_pure (h k _ (by omega) g2 (S4.trans S6) L6 g3)
  ·rw [if_neg c2]
   have en : n = 1 := by omega
   have D2 : Desc lt (arrOf st₁) lo (n + 1) := by
    refine q87 T hp (by omega) (fun p q a b => absurd b (by omega)) fun _ => ?_
    rw [show lo + n - 1 = lo + (n - 1) by omega]
    exact hge1
   have S2 := Su.refl st₁
   have L2 := Loc.refl (arrOf st₁) lo (lo + nrem)
   refine kasC_bind (kasC_lift (wpAny_rule ?_))
   refine kasC_bind (q51 (show n + 1 <= nrem by omega) (fun k r st₄ s₄ => s₄ = s₁ /\ Su st₁ st₄ /\ Loc (arrOf st₁) (arrOf st₄) lo (lo + nrem) /\ ∃ q, r = (none, k, q) /\ q + 1 <= k /\ Desc lt (arrOf st₄) lo k /\ EqT lt (arrOf st₄) lo (k - (q + 1)) k)
    (fun r st₄ s₄ => s₄ = s₁ /\ Su st₁ st₄ /\ Loc (arrOf st₁) (arrOf st₄) lo (lo + nrem) /\ ∃ m q, r = (none, m, q) /\ q + 1 <= m /\ m <= nrem /\ Desc lt (arrOf st₄) lo m /\ EqT lt (arrOf st₄) lo (m - (q + 1)) m)
    ⟨rfl, S2, L2, 0, rfl, by omega, D2, fun p q h1 h2 h3 h4 => by
     have ep : p = n := by omega
     have eq' : q = n := by omega
     rw [ep, eq']
     exact irr _ (L2.good hp _ (q58 (by have := L2.size; omega)))⟩ (fun r st₄ s₄ ⟨e1, e2, e3, q, e4, e5, e6, e7⟩ => ⟨e1, e2, e3, nrem, q, e4, e5, Nat.le_refl _, e6, e7⟩) ?_ ?_)
   ·rintro k r st₄ s₄ hk1 hk2 ⟨rfl, S4, L4, q, rfl, hq, D4, E4⟩
    dsimp only
    have hz4 := L4.size
    have hp4 := L4.good hp
    have hk4 : kindOf st₄ = κ := S4.1.trans hst
    have pm : ∀ t, t <= k -> P (kas_item (arrOf st₄) (lo + t)) := fun t ht => hp4 _ (q58 (by omega))
    refine kasC_bind (q158 G hk4 hp4 (by omega) (by omega) ?_)
    dsimp only
    cases hl : lt (kas_item (arrOf st₄) (lo + k)) (kas_item (arrOf st₄) (lo + k - 1)) with
    | true =>
     rw [if_pos rfl]
     rw [show lo + k - 1 = lo + (k - 1) by omega] at hl
     have hge := T.asym _ _ (pm k (Nat.le_refl _)) (pm (k - 1) (by omega)) hl
     by_cases hq0 : q > 0
     ·rw [if_pos hq0]
      refine kasC_bind (c_rev fun st₅ S5 e5 => kasC_pure ⟨rfl, S4.trans S5, ?_, 0, rfl, by omega, ?_, fun p q' h1 h2 h3 h4 => ?_⟩)
      ·rw [e5]
       exact L4.trans ((q37 (by omega)).wide (by omega) (by omega))
      ·rw [e5, show lo + k - (q + 1) = lo + (k - (q + 1)) by omega]
       have D5 := q104 (by omega) D4 E4
       have hp5 := (q37 (xs := arrOf st₄) (i := lo + (k - (q + 1))) (j := lo + k) (by omega)).good hp4
       have z1 : kas_item (mirror (arrOf st₄) (lo + (k - (q + 1))) (lo + k) ((lo + k - (lo + (k - (q + 1)))) / 2)) (lo + k) = kas_item (arrOf st₄) (lo + k) := by
        rw [q136 (by omega), if_neg (by omega)]
       refine q87 T hp5 (by rw [mirror_size]; omega) D5 fun _ => ?_
       rw [show lo + k - 1 = lo + (k - 1) by omega, z1, q103 (by omega) (by omega), if_pos (by omega)]
       exact T.trans _ _ _ (pm k (Nat.le_refl _)) (pm (k - 1) (by omega)) (pm _ (by omega)) hge (E4 _ _ (by omega) (by omega) (by omega) (by omega))
      ·have ep : p = k := by omega
       have eq' : q' = k := by omega
       rw [ep, eq']
       refine irr _ ?_
       have L5 : Loc (arrOf st₄) (arrOf st₅) (lo + k - (q + 1)) (lo + k) := by
        rw [e5]
        exact q37 (by omega)
       exact L5.good hp4 _ (q58 (by have := L5.size; omega))
     ·rw [if_neg hq0]
      refine kasC_pure ⟨rfl, S4, L4, 0, rfl, by omega, q87 T hp4 (by omega) D4 fun _ => ?_, fun p q' h1 h2 h3 h4 => ?_⟩
      ·rw [show lo + k - 1 = lo + (k - 1) by omega]
       exact hge
      ·have ep : p = k := by omega
       have eq' : q' = k := by omega
       rw [ep, eq']
       exact irr _ (pm k (Nat.le_refl _))
    | false =>
     rw [if_neg fnt]
     refine kasC_bind (q158 G hk4 hp4 (by omega) (by omega) ?_)
     dsimp only
     cases hl2 : lt (kas_item (arrOf st₄) (lo + k - 1)) (kas_item (arrOf st₄) (lo + k)) with
     | true =>
      rw [if_pos rfl]
      exact kasC_pure ⟨rfl, S4, L4, k, q, rfl, hq, by omega, D4, E4⟩
     | false =>
      rw [if_neg fnt]
      refine kasC_pure ⟨rfl, S4, L4, q + 1, rfl, by omega, q87 T hp4 (by omega) D4 fun _ => hl2, fun p q' h1 h2 h3 h4 => ?_⟩
      rw [show lo + k - 1 = lo + (k - 1) by omega] at hl hl2
      by_cases ep : p = k
      ·by_cases eq' : q' = k
       ·rw [ep, eq']
        exact irr _ (pm k (Nat.le_refl _))
       ·rw [ep]
        exact T.trans _ _ _ (pm q' (by omega)) (pm (k - 1) (by omega)) (pm k (Nat.le_refl _)) (E4 _ _ (by omega) (by omega) (by omega) (by omega)) hl
      ·by_cases eq' : q' = k
       ·rw [eq']
        exact T.trans _ _ _ (pm k (Nat.le_refl _)) (pm (k - 1) (by omega)) (pm p (by omega)) hl2 (E4 _ _ (by omega) (by omega) (by omega) (by omega))
       ·exact E4 _ _ (by omega) (by omega) (by omega) (by omega)
   ·rintro r st₄ s₄ ⟨rfl, S4, L4, m, q, rfl, hq, hm, D4, E4⟩
    dsimp only
    have hz4 := L4.size
    have hp4 := L4.good hp
    by_cases hq0 : q > 0
    ·rw [if_pos hq0]
     refine kasC_bind (c_rev fun st₅ S5 e5 => ?_)
     have L5 : Loc (arrOf st₁) (arrOf st₅) lo (lo + nrem) := by
      rw [e5]
      exact L4.trans ((q37 (by omega)).wide (by omega) (by omega))
     have D5 : Desc lt (arrOf st₅) lo m := by
      rw [e5, show lo + m - (q + 1) = lo + (m - (q + 1)) by omega]
      exact q104 (by omega) D4 E4
     have hz5 := L5.size
     refine kasC_bind (c_rev fun st₆ S6 e6 => ?_)
     have L6 : Loc (arrOf st₁) (arrOf st₆) lo (lo + nrem) := by
      rw [e6]
      exact L5.trans ((q37 (by omega)).wide (Nat.le_refl _) (by omega))
     have A6 : Asc lt (arrOf st₆) lo m := by
      rw [e6]
      exact q175 (by omega) D5
     have hz6 := L6.size
     have hp6 := L6.good hp
     have hk6 : kindOf st₆ = κ := ((S4.trans S5).trans S6).1.trans hst
     refine kasC_bind (q51 (show m <= nrem by omega) (fun k r st₉ s₉ => st₉ = st₆ /\ s₉ = s₄ /\ r = (none, k) /\ Asc lt (arrOf st₆) lo k) (fun r st₉ s₉ => st₉ = st₆ /\ s₉ = s₄ /\ ∃ k, r = (none, k) /\ m <= k /\ k <= nrem /\ Asc lt (arrOf st₆) lo k /\ (k = nrem \/ lt (kas_item (arrOf st₆) (lo + k)) (kas_item (arrOf st₆) (lo + k - 1)) = true))
      ⟨rfl, rfl, rfl, A6⟩ (fun r st₉ s₉ ⟨e1, e2, e3, e4⟩ => ⟨e1, e2, nrem, e3, by omega, Nat.le_refl _, e4, .inl rfl⟩) ?_ ?_)
     ·rintro k r st₉ s₉ hk1 hk2 ⟨rfl, rfl, rfl, A9⟩
      dsimp only
      refine kasC_bind (q158 G hk6 hp6 (by omega) (by omega) ?_)
      dsimp only
      cases hl : lt (kas_item (arrOf st₉) (lo + k)) (kas_item (arrOf st₉) (lo + k - 1)) with
      | true =>
       rw [if_pos rfl]
       exact kasC_pure ⟨rfl, rfl, k, rfl, hk1, by omega, A9, .inr hl⟩
      | false =>
       rw [if_neg fnt]
       exact kasC_pure ⟨rfl, rfl, rfl, q210 T hp6 (by omega) A9 fun _ => hl⟩
     ·rintro r st₇ s₇ ⟨rfl, rfl, k, rfl, g1, g2, g3, _⟩
      exact kasC_pure (h k _ (by omega) g2 ((S4.trans S5).trans S6) L6 g3)
    ·rw [if_neg hq0]
     refine kasC_bind (c_rev fun st₆ S6 e6 => ?_)
     have L6 : Loc (arrOf st₁) (arrOf st₆) lo (lo + nrem) := by
      rw [e6]
      exact L4.trans ((q37 (by omega)).wide (Nat.le_refl _) (by omega))
     have A6 : Asc lt (arrOf st₆) lo m := by
      rw [e6]
      exact q175 (by omega) D4
     have hz6 := L6.size
     have hp6 := L6.good hp
     have hk6 : kindOf st₆ = κ := (S4.trans S6).1.trans hst
     refine kasC_bind (q51 (show m <= nrem by omega) (fun k r st₉ s₉ => st₉ = st₆ /\ s₉ = s₄ /\ r = (none, k) /\ Asc lt (arrOf st₆) lo k) (fun r st₉ s₉ => st₉ = st₆ /\ s₉ = s₄ /\ ∃ k, r = (none, k) /\ m <= k /\ k <= nrem /\ Asc lt (arrOf st₆) lo k /\ (k = nrem \/ lt (kas_item (arrOf st₆) (lo + k)) (kas_item (arrOf st₆) (lo + k - 1)) = true))
      ⟨rfl, rfl, rfl, A6⟩ (fun r st₉ s₉ ⟨e1, e2, e3, e4⟩ => ⟨e1, e2, nrem, e3, by omega, Nat.le_refl _, e4, .inl rfl⟩) ?_ ?_)
     ·rintro k r st₉ s₉ hk1 hk2 ⟨rfl, rfl, rfl, A9⟩
      dsimp only
      refine kasC_bind (q158 G hk6 hp6 (by omega) (by omega) ?_)
      dsimp only
      cases hl : lt (kas_item (arrOf st₉) (lo + k)) (kas_item (arrOf st₉) (lo + k - 1)) with
      | true =>
       rw [if_pos rfl]
       exact kasC_pure ⟨rfl, rfl, k, rfl, hk1, by omega, A9, .inr hl⟩
      | false =>
       rw [if_neg fnt]
       exact kasC_pure ⟨rfl, rfl, rfl, q210 T hp6 (by omega) A9 fun _ => hl⟩
     ·rintro r st₇ s₇ ⟨rfl, rfl, k, rfl, g1, g2, g3, _⟩
      exact kasC_pure (h k _ (by omega) g2 (S4.trans S6) L6 g3)
end
end TS
namespace TS
open PySem PySem.W PyProof.Rows
section
variable {P : Keyed -> Prop} {lt : Keyed -> Keyed -> Bool}
theorem srt_of {xs : Array Keyed} (h : ∀ p q, p < q -> q < xs.size -> lt (kas_item xs q) (kas_item xs p) = false) : Srt lt xs.toList := by
 refine List.pairwise_iff_getElem.mpr fun i j hi hj hij => ?_
 have hj' : j < xs.size := by simpa using hj
 have hi' : i < xs.size := by simpa using hi
 have e1 := (List.getElem?_eq_some_iff.mp (q368 hi')).2
 have e2 := (List.getElem?_eq_some_iff.mp (q368 hj')).2
 rw [e1, e2]
 exact h i j hij hj'
end
section
variable {prog : Program} {w : World} {A : Around} {E : Value -> Shared -> Prop} {κ : SortKind} {P : Keyed -> Prop} {lt : Keyed -> Keyed -> Bool}
end
end TS
namespace TS
open PySem PySem.W PyProof.Rows
section
variable {P : Keyed -> Prop} {lt : Keyed -> Keyed -> Bool}
end
section
variable {prog : Program} {w : World} {A : Around} {E : Value -> Shared -> Prop} {κ : SortKind} {P : Keyed -> Prop} {lt : Keyed -> Keyed -> Bool}
theorem c_iteT {α : Type} {c : Prop} [Decidable c] {x y : M2 α} {Q : α -> SortSt -> Shared -> Prop} {st : SortSt} {s : Shared} (hc : c) (h : kasC (model prog w) A E x Q st s) : kasC (model prog w) A E (if c then x else y) Q st s := by rw [if_pos hc]; exact h
theorem c_iteF {α : Type} {c : Prop} [Decidable c] {x y : M2 α} {Q : α -> SortSt -> Shared -> Prop} {st : SortSt} {s : Shared} (hc : ¬ c) (h : kasC (model prog w) A E y Q st s) : kasC (model prog w) A E (if c then x else y) Q st s := by rw [if_neg hc]; exact h
end
end TS
namespace TS
open PySem PySem.W PyProof.Rows
abbrev I3 := Int × Int × Int
section
variable {prog : Program} {w : World} {A : Around} {E : Value -> Shared -> Prop} {s : Shared}
theorem one_lt {a b : Int} {t u : Tok} {Q : Bool -> Shared -> Prop} (h : Q (decide (a < b)) s) : wpAny (model prog w) A (oneLt' false (.int a t) (.int b u)) Q E s :=
 kat_one _ _ (lt_int h)
end
end TS
namespace TS
open PySem PySem.W PyProof.Rows
end TS
namespace L2
open PySem PySem.Spec PyProof.Rows
def absR : Value -> V
 | .ref a => .ref a
 | _ => .non
theorem q235 {α β γ : Type} {R : β -> γ -> Prop} {f : α -> β} {g : α -> γ} : ∀ (l : List α), (∀ v ∈ l, R (f v) (g v)) -> Paired R (l.map f) (l.map g)
 | [], _ => .nil
 | x :: l, h => .cons (h x (List.mem_cons_self ..)) (q235 l fun v hv => h v (List.mem_cons_of_mem _ hv))
section
variable {X : Cx}
end
end L2
namespace L2
open PySem PySem.Spec PyProof.Rows
structure M1 (X : Cx) (o : Expr) (m : Str) (apos : Pos) (e : Expr) (cpos : Pos) : Prop where
 base : attributeBase o m X.env (eval o X.env) = eval o X.env
 few : ((backTo cpos (starEach [e] X.env)).all (fun x => !x.1) && (backToKw cpos (keywordEach [] X.env)).all (fun x => x.1.isSome)
  && decide (([e] : List Expr).length + ([] : List Keyword).length + (if ([] : List Keyword).isEmpty then 0 else 1) < 30)) = true
 line : (apos.endLine == cpos.line) = true
 trees : backTo cpos (starEach [e] X.env) = [(false, eval e X.env)]
structure M2 (X : Cx) (o : Expr) (m : Str) (apos : Pos) (e f : Expr) (cpos : Pos) : Prop where
 base : attributeBase o m X.env (eval o X.env) = eval o X.env
 few : ((backTo cpos (starEach [e, f] X.env)).all (fun x => !x.1) && (backToKw cpos (keywordEach [] X.env)).all (fun x => x.1.isSome)
  && decide (([e, f] : List Expr).length + ([] : List Keyword).length + (if ([] : List Keyword).isEmpty then 0 else 1) < 30)) = true
 line : (apos.endLine == cpos.line) = true
 trees : backTo cpos (starEach [e, f] X.env) = [(false, eval e X.env), (false, eval f X.env)]
section
variable {X : Cx} {pins : List (Addr × Obj)} {σ : St} {H : Hp} {s : Shared} {a : Addr} {y d : V} {u r : Value} {o : Option V} {A : Around} {E : Value -> Shared -> Prop}
end
section
variable {X : Cx} {o e f : Expr} {apos cpos : Pos} {td ty tx : TE}
end
end L2
namespace TS
open PySem PySem.W PyProof.Rows
abbrev I2 := Int × Int
def lex2 (a b : I2) : Bool := if a.1 = b.1 then decide (a.2 < b.2) else decide (a.1 < b.1)
theorem q236 {a b : I2} : lex2 a b = false ↔ (b.1 < a.1 \/ (a.1 = b.1 /\ b.2 <= a.2)) := by
 unfold lex2
 split
 ·rw [decide_eq_false_iff_not]; omega
 ·rw [decide_eq_false_iff_not]; omega
theorem q610 {a b : I2} : lex2 a b = true ↔ ¬ (b.1 < a.1 \/ (a.1 = b.1 /\ b.2 <= a.2)) := by
 rw [<- q236, Bool.not_eq_false]
def TupI2 (h : Heap) (v : Value) (t : I2) : Prop := ∃ (a : Addr) (o : Obj) (n : Nat) (t1 t2 : Tok), v = .ref a /\ h.get? a = some o /\ o.cls = .type "tuple" /\ o.data = .seq #[.int t.1 t1, .int t.2 t2] n
section
variable {prog : Program} {w : World} {A : Around} {E : Value -> Shared -> Prop} {s : Shared}
theorem cmp2 {x y : Value} {t u : I2} {Q : Bool -> Shared -> Prop} (hx : TupI2 s.heap x t) (hy : TupI2 s.heap y u) (h : Q (lex2 t u) s) : wpAny (model prog w) A (keyLt' (tuples' true) x y) Q E s := by
 obtain ⟨a, o, n, t1, t2, rfl, ho, _, hd⟩ := hx
 obtain ⟨b, o', n', u1, u2, rfl, ho', _, hd'⟩ := hy
 refine kat_lt ho hd ho' hd' ?_
 unfold lex2 at h
 show KatLex prog w A true _ Q [(_, _), (_, _)] 0 s
 refine kat_cons (wpAny_eqBool_int (kat_go (fun e => kat_yes ?_) (fun e => kat_no ?_)))
 ·rw [if_pos (beq_iff_eq.mp e)] at h
  refine kat_cons (wpAny_eqBool_int (kat_go (fun e => kat_yes (kat_nil ?_)) (fun e => kat_no (one_lt h))))
  have e' := beq_iff_eq.mp e
  rw [decide_eq_false (by omega)] at h
  exact h
 ·rw [if_neg (fun z => by rw [beq_iff_eq.mpr z] at e; cases e)] at h
  exact oneLt_int h
theorem good2 (ts : Value -> I2) : Good prog w A E (tuples' true) (fun x => TupI2 s.heap x.1 (ts x.1)) (fun x y => lex2 (ts x.1) (ts y.1)) s := by
 intro x y st Q hx hy hk hq
 rw [lt'_eq]
 refine kasC_bind (kasC_get (kasC_bind (kasC_lift (wpAny_attempt ?_))))
 rw [hk]
 exact cmp2 (E := _) hx hy (kasC_pure hq)
theorem tot2 {P : Keyed -> Prop} (ts : Value -> I2) : Tot P (fun x y => lex2 (ts x.1) (ts y.1)) :=
 ⟨fun x y z _ _ _ h1 h2 => by rw [q236] at h1 h2 ⊢; omega, fun x y _ _ h => by rw [q610] at h; rw [q236]; omega⟩
theorem TupI2.keep {h h' : Heap} {v : Value} {t : I2} (k : ∀ b o, h.get? b = some o -> o.cls = .type "tuple" -> h'.get? b = some o) (z : TupI2 h v t) : TupI2 h' v t := by
 obtain ⟨a, o, n, t1, t2, e, ho, hc, hd⟩ := z
 exact ⟨a, o, n, t1, t2, e, k a o ho hc, hc, hd⟩
theorem q611 {h : Heap} {ts : Value -> I2} : ∀ (vs : List Value), (∀ v ∈ vs, TupI2 h v (ts v)) -> ∃ fs : List Value, KatTups h vs fs /\ fs.length = vs.length /\ ∀ v ∈ fs, ∃ i t, v = Value.int i t
 | [], _ => ⟨[], trivial, rfl, fun v hv => absurd hv (by simp)⟩
 | v :: vs, hT => by
  obtain ⟨fs, k1, k2, k3⟩ := q611 vs fun u hu => hT u (List.mem_cons_of_mem _ hu)
  obtain ⟨a, o, n, t1, t2, rfl, ho, hc, hd⟩ := hT v (List.mem_cons_self ..)
  exact ⟨_ :: fs, KatTups.cons ho hc hd (f := .int (ts (.ref a)).1 t1) rfl k1, by simp [k2], fun u hu => by
   rcases List.mem_cons.mp hu with e | e
   ·exact ⟨_, _, e⟩
   ·exact k3 u e⟩
theorem TupI2.inj {h : Heap} {v : Value} {t u : I2} (x : TupI2 h v t) (y : TupI2 h v u) : t = u := by
 obtain ⟨a, o, n, t1, t2, rfl, ho, _, hd⟩ := x
 obtain ⟨b, o', n', u1, u2, e, ho', _, hd'⟩ := y
 cases e
 rw [ho] at ho'
 cases ho'
 rw [hd] at hd'
 have z := congrArg Array.toList (Data.seq.inj hd').1
 simp only [List.cons.injEq, Value.int.injEq] at z
 exact Prod.ext z.1.1 z.2.1.1
open Classical in
noncomputable def tsOf2 (h : Heap) (v : Value) : I2 := if q : ∃ u, TupI2 h v u then q.choose else (0, 0)
theorem tsOf2_eq {h : Heap} {v : Value} {u : I2} (x : TupI2 h v u) : tsOf2 h v = u := by
 unfold tsOf2
 have q : ∃ u, TupI2 h v u := ⟨u, x⟩
 rw [dif_pos q]
 exact q.choose_spec.inj x
end
end TS
namespace L2
open PySem PySem.Spec PyProof.Rows
section
variable {X : Cx}
end
end L2
namespace TS
open PySem
abbrev Up (l : List Nat) : Prop := l.Pairwise (· < ·)
theorem q508 {l : List Nat} (h : Up l) {i j : Nat} {x y : Nat} (hx : l[i]? = some x) (hy : l[j]? = some y) (q : i < j) : x < y := by
 obtain ⟨a, rfl⟩ := List.getElem?_eq_some_iff.mp hx
 obtain ⟨b, rfl⟩ := List.getElem?_eq_some_iff.mp hy
 exact List.pairwise_iff_getElem.mp h i j a b q
theorem q612 {xs : Array Nat} {j : Nat} (hu : Up xs.toList) : ∀ (f lo hi : Nat), hi <= xs.size -> hi - lo <= f -> lo <= hi -> (∀ i x, xs[i]? = some x -> i < lo -> x < j) -> (∀ i x, xs[i]? = some x -> hi <= i -> j <= x) ->
  SetTable.below.go xs j f lo hi <= xs.size /\ (∀ i x, xs[i]? = some x -> i < SetTable.below.go xs j f lo hi -> x < j) /\ (∀ i x, xs[i]? = some x -> SetTable.below.go xs j f lo hi <= i -> j <= x)
 | 0, lo, hi, hz, hf, hlh, h1, h2 => by
  have e : lo = hi := by omega
  subst e
  exact ⟨hz, h1, h2⟩
 | f + 1, lo, hi, hz, hf, hlh, h1, h2 => by
  unfold SetTable.below.go
  by_cases q : lo < hi
  ·rw [if_pos q]
   dsimp only
   have hm : (lo + hi) / 2 < xs.size := by omega
   have g : xs[(lo + hi) / 2]? = some (xs.getD ((lo + hi) / 2) j) := by
    rw [Array.getElem?_eq_getElem hm]; simp [Array.getD, hm]
   have gl : xs.toList[(lo + hi) / 2]? = some (xs.getD ((lo + hi) / 2) j) := by rw [Array.getElem?_toList]; exact g
   by_cases q2 : xs.getD ((lo + hi) / 2) j < j
   ·rw [if_pos q2]
    refine q612 hu f _ hi hz (by omega) (by omega) (fun i x hx hi' => ?_) h2
    have hx' : xs.toList[i]? = some x := by rw [Array.getElem?_toList]; exact hx
    rcases Nat.lt_or_ge i ((lo + hi) / 2) with z | z
    ·exact Nat.lt_trans (q508 hu hx' gl z) q2
    ·have : i = (lo + hi) / 2 := by omega
     subst this
     rw [g] at hx; cases hx; exact q2
   ·rw [if_neg q2]
    refine q612 hu f lo _ (by omega) (by omega) (by omega) h1 fun i x hx hi' => ?_
    have hx' : xs.toList[i]? = some x := by rw [Array.getElem?_toList]; exact hx
    rcases Nat.lt_or_ge ((lo + hi) / 2) i with z | z
    ·exact Nat.le_trans (Nat.not_lt.mp q2) (Nat.le_of_lt (q508 hu gl hx' z))
    ·have : i = (lo + hi) / 2 := by omega
     subst this
     rw [g] at hx; cases hx; exact Nat.not_lt.mp q2
  ·rw [if_neg q]
   have e : lo = hi := by omega
   subst e
   exact ⟨hz, h1, h2⟩
theorem bel {xs : Array Nat} {j : Nat} (hu : Up xs.toList) : SetTable.below xs j <= xs.size /\ (∀ i x, xs[i]? = some x -> i < SetTable.below xs j -> x < j) /\ (∀ i x, xs[i]? = some x -> SetTable.below xs j <= i -> j <= x) := by
 refine q612 hu _ _ _ (Nat.le_refl _) (by omega) (Nat.zero_le _) (fun i x _ h => absurd h (Nat.not_lt_zero _)) fun i x hx h => ?_
 have := (Array.getElem?_eq_some_iff.mp hx).1
 omega
theorem bel_next {xs : Array Nat} (hu : Up xs.toList) {i x : Nat} (hx : xs[i]? = some x) : SetTable.below xs (x + 1) = i + 1 := by
 obtain ⟨b1, b2, b3⟩ := bel (j := x + 1) hu
 have hi := (Array.getElem?_eq_some_iff.mp hx).1
 rcases Nat.lt_or_ge (SetTable.below xs (x + 1)) (i + 1) with z | z
 ·exact absurd (b3 i x hx (by omega)) (by omega)
 ·rcases Nat.lt_or_ge (i + 1) (SetTable.below xs (x + 1)) with z2 | z2
  ·have h1 : i + 1 < xs.size := by omega
   have g : xs[i + 1]? = some xs[i + 1] := Array.getElem?_eq_getElem h1
   have l1 := b2 (i + 1) _ g z2
   have l2 := q508 hu (i := i) (j := i + 1) (by rw [Array.getElem?_toList]; exact hx) (by rw [Array.getElem?_toList]; exact g) (Nat.lt_succ_self _)
   omega
  ·omega
theorem bel_zero {xs : Array Nat} (hu : Up xs.toList) : SetTable.below xs 0 = 0 := by
 obtain ⟨b1, b2, b3⟩ := bel (j := 0) hu
 rcases Nat.eq_zero_or_pos (SetTable.below xs 0) with z | z
 ·exact z
 ·have h0 : 0 < xs.size := by omega
  exact absurd (b2 0 _ (Array.getElem?_eq_getElem h0) z) (Nat.not_lt_zero _)
theorem up_put {xs : Array Nat} {j : Nat} (hu : Up xs.toList) (hn : xs[SetTable.below xs j]? ≠ some j) : Up (SetTable.insertAt xs (SetTable.below xs j) j).toList := by
 obtain ⟨b1, b2, b3⟩ := bel (j := j) hu
 rw [SetTable.toList_insertAt]
 have lo : ∀ y ∈ xs.toList.take (SetTable.below xs j), y < j := fun y hy => by
  obtain ⟨i, hi⟩ := List.mem_iff_getElem?.mp hy
  rw [List.getElem?_take] at hi
  split at hi
  ·rename_i q
   rw [Array.getElem?_toList] at hi
   exact b2 i y hi q
  ·cases hi
 have hi : ∀ y ∈ xs.toList.drop (SetTable.below xs j), j < y := fun y hy => by
  obtain ⟨i, hi⟩ := List.mem_iff_getElem?.mp hy
  rw [List.getElem?_drop] at hi
  have hi' : xs[SetTable.below xs j + i]? = some y := by rw [<- Array.getElem?_toList]; exact hi
  have l1 := b3 _ y hi' (Nat.le_add_right _ _)
  rcases Nat.lt_or_ge j y with z | z
  ·exact z
  ·have e : y = j := by omega
   subst e
   cases i with
   | zero => exact absurd hi' hn
   | succ i =>
    have h0 : SetTable.below xs y < xs.size := by
     have := (Array.getElem?_eq_some_iff.mp hi').1
     omega
    have g : xs[SetTable.below xs y]? = some xs[SetTable.below xs y] := Array.getElem?_eq_getElem h0
    have l2 := b3 _ _ g (Nat.le_refl _)
    have l3 := q508 hu (i := SetTable.below xs y) (j := SetTable.below xs y + (i + 1)) (by rw [Array.getElem?_toList]; exact g) (by rw [Array.getElem?_toList]; exact hi') (by omega)
    omega
 refine List.pairwise_append.mpr ⟨hu.sublist (List.take_sublist _ _), List.pairwise_cons.mpr ⟨hi, hu.sublist (List.drop_sublist _ _)⟩, fun a ha b hb => ?_⟩
 rcases List.mem_cons.mp hb with z | z
 ·rw [z]; exact lo a ha
 ·exact Nat.lt_trans (lo a ha) (hi b z)
structure GT (b : Bool) (t : SetTable) : Prop where
 led : t.led = b
 up : t.plain = true -> Up t.place.toList
theorem GT.fresh (b : Bool) : GT b (.fresh 0 0 b) := ⟨rfl, fun _ => .nil⟩
theorem GT.standIn {b : Bool} {t : SetTable} (h : GT b t) (n : Nat) : GT b (t.standIn n) := ⟨h.led, fun z => by cases z⟩
theorem GT.off {b : Bool} {t : SetTable} (h : GT b t) : GT b { t with plain := false } := ⟨h.led, fun z => by cases z⟩
theorem GT.orStandIn {b : Bool} {t : SetTable} (h : GT b t) (n : Nat) : GT b (t.orStandIn n) := by
 unfold SetTable.orStandIn
 split
 ·exact h
 ·exact h.standIn n
theorem q237 {t : SetTable} {ha : Nat -> Int} {h : Int} : ∀ (f : Nat) (p : SetTable.Probe) (j : Nat) (d : Option Nat), (∀ x, p.dummy = some x -> t.place[SetTable.below t.place x]? ≠ some x) -> SetTable.probe.go t ha h f p = some (.empty j d) ->
  t.place[SetTable.below t.place (d.getD j)]? ≠ some (d.getD j)
 | 0, _, _, _, _, e => by simp [SetTable.probe.go] at e
 | f + 1, p, j, d, hp, e => by
  unfold SetTable.probe.go at e
  have adv : ∀ q : SetTable.Probe, (t.advance q).dummy = q.dummy := fun q => by
   unfold SetTable.advance
   split <;> rfl
  cases hs : t.slot p.j with
  | empty =>
   rw [hs] at e
   cases e
   have hl : t.place[SetTable.below t.place p.j]? ≠ some p.j := fun z => by
    unfold SetTable.slot at hs
    simp [z] at hs
   cases hd : p.dummy with
   | none => exact hl
   | some x => exact hp x hd
  | dummy =>
   rw [hs] at e
   refine q237 f _ j d (fun x hx => ?_) e
   rw [adv] at hx
   cases hx
   intro z
   unfold SetTable.slot at hs
   simp [z] at hs
  | live i =>
   rw [hs] at e
   dsimp only at e
   split at e
   ·cases e
   ·refine q237 f _ j d (fun x hx => ?_) e
    rw [adv] at hx
    exact hp x hx
theorem GT.layNew {b : Bool} {t : SetTable} (g : GT b t) (es : Array (Int × Value)) (h : Int) (x : Value) : GT b (layNew t es h x).2.1 := by
 unfold PySem.layNew
 split
 ·rename_i slot wd e
  dsimp only
  refine GT.orStandIn (t := (t.put slot).1) ⟨g.led, fun z => ?_⟩ _
  show Up (SetTable.insertAt t.place (SetTable.below t.place slot) slot).toList
  refine up_put (g.up z) ?_
  unfold SetTable.freeSlot at e
  split at e
  ·rename_i j d ep
   cases e
   exact q237 _ _ j d (fun x hx => by cases hx) ep
  ·cases e
 ·exact g.standIn _
theorem q613 : ∀ (f : Nat -> Option Nat) (l : List Nat), Up l -> Up ((l.filterMap fun j => (f j).map (j, ·)).map (·.1))
 | _, [], _ => .nil
 | f, j :: l, h => by
  obtain ⟨h1, h2⟩ := List.pairwise_cons.mp h
  have ih := q613 f l h2
  rw [List.filterMap_cons]
  cases hf : f j with
  | none => exact ih
  | some k =>
   dsimp only [Option.map]
   rw [List.map_cons]
   refine List.pairwise_cons.mpr ⟨fun y hy => ?_, ih⟩
   obtain ⟨⟨y1, y2⟩, hq, rfl⟩ := List.mem_map.mp hy
   obtain ⟨z, hz, hz'⟩ := List.mem_filterMap.mp hq
   cases hfz : f z with
   | none => rw [hfz] at hz'; cases hz'
   | some k' => rw [hfz] at hz'; cases hz'; exact h1 _ hz
theorem GT.relayAll {b : Bool} {t : SetTable} (g : GT b t) (es : Array (Int × Value)) (n : Nat) : GT b (relayAll t es n).2.1 := by
 unfold PySem.relayAll
 split
 ·rename_i t' order e
  dsimp only
  split
  ·unfold SetTable.relaid SetTable.laid at e
   cases hc : SetTable.layClean (SetTable.sizeAbove n - 1) (es.map (·.1)) with
   | none => rw [hc] at e; cases e
   | some ow =>
    rw [hc] at e
    cases e
    refine ⟨g.led, fun _ => ?_⟩
    show Up (List.toArray _).toList
    rw [List.toList_toArray]
    exact q613 (fun j => ow.getD j none) _ List.pairwise_lt_range
  ·exact g.standIn _
 ·exact g.standIn _
end TS
namespace TS
open PySem
def stD (ks : List Int) (k : Int) : List Int := if ks.any (· == k) then ks else ks ++ [k]
def byT (w : World) : Bool := w.params.followText "set-order"
def kOf : Value -> Int
 | .int k _ => k
 | _ => 0
def AllI (vs : List Value) : Prop := ∀ v ∈ vs, ∃ k t, v = Value.int k t
structure SetS (prog : Program) (w : World) (o : Obj) (es : Array (Int × Value)) (ep : Nat) (t : SetTable) (ks : List Int) : Prop where
 ex : o.ExactSet
 dat : o.data = .set es ep t
 el : ElemsOf (intKind prog w) es.toList
 few : es.size < scanBound
 fit : t.fits es.size = true
 gt : GT (!(byT w)) t
 pm : (es.toList.map fun e => kOf e.2).Perm ks
 nd : ks.Nodup
def SetI (prog : Program) (w : World) (h : Heap) (a : Addr) (ks : List Int) : Prop := ∃ o es ep t, h.get? a = some o /\ SetS prog w o es ep t ks
theorem iki (prog : Program) (w : World) (k : Int) (t : Tok) : (intKind prog w).is k (.int k t) = true := by simp [intKind, Value.isInt]
section
variable {prog : Program} {w : World} {A : Around} {E : Value -> Shared -> Prop} {s : Shared}
theorem el_int {es : List (Int × Value)} (h : ElemsOf (intKind prog w) es) {e : Int × Value} (he : e ∈ es) : ∃ t, e.2 = .int (kOf e.2) t := by
 obtain ⟨⟨k, hk, _⟩, _⟩ := h e he
 obtain ⟨t, ht⟩ := Value.isInt_shape hk
 exact ⟨t, by rw [ht]; rfl⟩
theorem is_kOf {es : List (Int × Value)} (h : ElemsOf (intKind prog w) es) {e : Int × Value} (he : e ∈ es) (k : Int) : (intKind prog w).is k e.2 = decide (k = kOf e.2) := by
 obtain ⟨t, ht⟩ := el_int h he
 exact KeyKind.is_eq_decide (knd := intKind prog w) (k := kOf e.2) (by rw [ht]; exact iki _ _ _ _) k
theorem q346 {h : Heap} {a : Addr} {o : Obj} {es es' : Array (Int × Value)} {ep : Nat} {t t' : SetTable} (ho : h.get? a = some o) (hd : o.data = .set es ep t) :
  (h.update a (Obj.putSet es' t')).get? a = some { o with data := .set es' (ep + 1) t' } := by
 have z := Heap.get?_update_self (Obj.putSet es' t') ho (by rw [putSet_of es' t' hd]; rfl)
 rwa [putSet_of es' t' hd] at z
theorem q509 {g : Bool -> Sem Unit} (hg : ∀ (b : Bool) (s₁ : Shared) (Q' : Unit -> Shared -> Prop), Q' () s₁ -> wpAny (model prog w) A (g b) Q' E s₁) {b : Bool} {a : Addr} {o : Obj} {es es1 : Array (Int × Value)} {ep : Nat} {t t2 : SetTable}
  (ho : s.heap.get? a = some o) (hd : o.data = .set es ep t) (f1 : es1.size < scanBound) (f2 : t2.fits es1.size = true) (f3 : GT b t2) {wd : Bool} {R : Option Bool -> Shared -> Prop}
  (h : ∀ h' es' ep' t', Heap.SameBut a s.heap h' -> h'.get? a = some { o with data := .set es' ep' t' } -> es'.toList.Perm es1.toList -> t'.fits es'.size = true -> GT b t' -> R (some true) { s with heap := h' }) :
  wpAny (model prog w) A (storeSet a es1 t2 >>= fun _ => if (!wd && t2.tooFull) = true then (g (relayAll t2 es1 (SetTable.grown es1.size)).2.2 >>= fun _ =>
   storeSet a (relayAll t2 es1 (SetTable.grown es1.size)).1 (relayAll t2 es1 (SetTable.grown es1.size)).2.1 >>= fun _ => pure (some true)) else pure (some true)) R E s := by
 refine wpAny_bind (wpAny_storeSet_of ho hd ?_ (fits_of_scanBound f1))
 have ho1 := q346 (es' := es1) (t' := t2) ho hd
 have sb := Heap.SameBut.update s.heap a (Obj.putSet es1 t2)
 split
 ·have hp := relayAll_perm t2 es1 (SetTable.grown es1.size)
  have hf := relayAll_fits t2 es1 (SetTable.grown es1.size)
  have hG := f3.relayAll es1 (SetTable.grown es1.size)
  generalize relayAll t2 es1 (SetTable.grown es1.size) = r at hp hf hG ⊢
  obtain ⟨es2, t3, gv⟩ := r
  dsimp only at hp hf hG ⊢
  have hsz : es2.size = es1.size := by rw [<- Array.length_toList, hp.length_eq, Array.length_toList]
  refine wpAny_bind (hg _ _ _ (wpAny_bind (wpAny_storeSet_of ho1 rfl ?_ (fits_of_scanBound (by rw [hsz]; exact f1)))))
  exact wpAny_pure (h _ es2 _ t3 (sb.trans (Heap.SameBut.update _ a _)) (q346 (o := { o with data := .set es1 (ep + 1) t2 }) ho1 rfl) hp hf hG)
 ·exact wpAny_pure (h _ es1 _ t2 sb ho1 (List.Perm.refl _) f2 f3)
theorem set_add {a : Addr} {ks : List Int} {k : Int} {tk : Tok} {Q : Shared -> Prop} (hS : SetI prog w s.heap a ks) (hr : ks.length + 1 < scanBound)
  (h : ∀ h', Heap.SameBut a s.heap h' -> SetI prog w h' a (stD ks k) -> Q { s with heap := h' }) : wpAny (model prog w) A (setAddHashed a (.int k tk) ((intKind prog w).hash k)) (fun _ s' => Q s') E s := by
 obtain ⟨o, es, ep, t, ho, hs⟩ := hS
 have hkey : (intKind prog w).is k (.int k tk) = true := iki _ _ _ _
 have hlen : es.size = ks.length := by rw [<- hs.pm.length_eq, List.length_map, Array.length_toList]
 unfold setAddHashed; unfold setAddHashedIn
 refine wpAny_holding (wpAny_bind (wpAny_setState_of ho hs.dat hs.fit ?_)); dsimp only
 rw [byScan_of (knd := intKind prog w) rfl hs.few hs.el, if_pos rfl]
 unfold setAddByScan
 refine wpAny_bind (wpAny_bind (wpAny_rule (wpAny_bind (wpAny_setScan_of hkey ho hs.dat hs.fit hs.el ?_))))
 have any_iff : ks.any (· == k) = true ↔ ∃ e ∈ es.toList, (intKind prog w).is k e.2 = true := by
  rw [List.any_eq_true]
  constructor
  ·rintro ⟨x, hx, e⟩
   obtain ⟨e', he', rfl⟩ := List.mem_map.mp (hs.pm.mem_iff.mpr hx)
   exact ⟨e', he', by rw [is_kOf hs.el he', decide_eq_true (beq_iff_eq.mp e).symm]⟩
  ·rintro ⟨e, he, hk⟩
   rw [is_kOf hs.el he, decide_eq_true_eq] at hk
   exact ⟨k, hs.pm.mem_iff.mp (List.mem_map.mpr ⟨e, he, hk.symm⟩), beq_self_eq_true _⟩
 cases hf : List.findIdx? (fun e => (intKind prog w).is k e.2) es.toList with
 | some j =>
  obtain ⟨hj, hp, _⟩ := List.findIdx?_eq_some_iff_getElem.mp hf
  have hin := any_iff.mpr ⟨es.toList[j], List.getElem_mem hj, hp⟩
  refine wpAny_pure (wpAny_pure ?_)
  have z := h s.heap (Heap.SameBut.refl a s.heap) (by unfold stD; rw [if_pos hin]; exact ⟨o, es, ep, t, ho, hs⟩)
  cases s
  exact z
 | none =>
  have hout : ¬ ks.any (· == k) = true := fun z => by
   obtain ⟨e, he, hk⟩ := any_iff.mp z
   have := List.findIdx?_eq_none_iff.mp hf e he
   rw [hk] at this
   cases this
  dsimp only
  have gw : ∀ (b : Bool) {s₁ : Shared} {Q' : Unit -> Shared -> Prop}, Q' () s₁ -> wpAny (model prog w) A (match b with | true => rule "set.scan.the-table-gave-way" | false => pure ()) Q' E s₁ := fun b s₁ Q' hq => by cases b <;> first | exact wpAny_pure hq | exact wpAny_rule hq
  have p1 := layNew_perm t es ((intKind prog w).hash k) (.int k tk)
  have p2 := layNew_fits t es ((intKind prog w).hash k) (.int k tk)
  have p3 := hs.gt.layNew es ((intKind prog w).hash k) (.int k tk)
  generalize layNew t es ((intKind prog w).hash k) (.int k tk) = L at p1 p2 p3 ⊢
  obtain ⟨es1, t1, wd, gv⟩ := L
  dsimp only at p1 p2 p3 ⊢
  rw [Array.toList_push] at p1
  have el1 : ElemsOf (intKind prog w) es1.toList := (hs.el.push hkey rfl).perm p1
  have n1 : es1.size = es.size + 1 := by rw [<- Array.length_toList, p1.length_eq, List.length_append, Array.length_toList]; rfl
  have fin : ∀ h' es' ep' t', Heap.SameBut a s.heap h' -> h'.get? a = some { o with data := .set es' ep' t' } -> es'.toList.Perm es1.toList -> t'.fits es'.size = true -> GT (!(byT w)) t' -> Q { s with heap := h' } := fun h' es' ep' t' e1 e2 e3 e4 e5 => by
   have n2 : es'.size = es1.size := by rw [<- Array.length_toList, e3.length_eq, Array.length_toList]
   refine h h' e1 ⟨_, es', ep', t', e2, hs.ex, rfl, el1.perm e3, by omega, e4, e5, ?_, ?_⟩
   ·unfold stD
    rw [if_neg hout]
    refine (e3.map _).trans ((p1.map _).trans ?_)
    rw [List.map_append]
    exact hs.pm.append_right _
   ·unfold stD
    rw [if_neg hout]
    refine List.nodup_append.mpr ⟨hs.nd, by simp, fun x hx y hy e => hout ?_⟩
    rw [List.mem_singleton] at hy
    exact List.any_eq_true.mpr ⟨x, hx, by rw [e, hy]; exact beq_self_eq_true _⟩
  refine wpAny_bind (gw _ ?_)
  split
  ·refine wpAny_bind ?_
   rw [hashByValue_scannable 8 (x := Value.int k tk) rfl]
   refine wpAny_pure (q509 ?_ ho hs.dat (by omega) ?_ ?_ fun h' es' ep' t' e1 e2 e3 e4 e5 => wpAny_pure (fin h' es' ep' t' e1 e2 e3 e4 e5))
   ·intro b s₁ Q' hq; cases b <;> first | exact wpAny_pure hq | exact wpAny_rule hq
   ·split
    ·exact p2
    ·exact SetTable.fits_plain_off p2
   ·split
    ·exact p3
    ·exact p3.off
  ·refine wpAny_bind (wpAny_pure ?_)
   rw [if_pos rfl]
   refine q509 ?_ ho hs.dat (by omega) p2 p3 fun h' es' ep' t' e1 e2 e3 e4 e5 => wpAny_pure (fin h' es' ep' t' e1 e2 e3 e4 e5)
   intro b s₁ Q' hq; cases b <;> first | exact wpAny_pure hq | exact wpAny_rule hq
end
end TS
namespace TS
open PySem
theorem q287 : Slot "set" "__iter__" "set.__iter__" :=
 .of (owner := "set") (n := "__iter__") (by rw [typeLookup_type, builtinLookup_eq_fast]; kernel_rfl) (by decide +kernel) (by decide +kernel) (by decide +kernel)
  (by first | exact .inl (by decide +kernel) | exact .inr (by decide +kernel)) (by rw [isSubtype_type]; kernel_rfl)
theorem q414 : entryFor table "set.__iter__" = some Builtin.«frozenset.__iter__» := entryFor_alias (id' := "frozenset.__iter__") (by kernel_rfl) rfl (by decide +kernel) (by kernel_rfl)
theorem owner_s : Manifest.owners.lookup (String.ofList ['t', 'e', 's'].reverse) = some Manifest.sig_set := by kernel_rfl
theorem q462 (a : Value) : argsOk "set.__iter__" ⟨[a], []⟩ := by
 unfold argsOk; rw [signature?_of (id := "set.__iter__") (n := ['_', '_', 'r', 'e', 't', 'i', '_', '_']) (o := ['t', 'e', 's']) (by kernel_rfl) owner_s]; kernel_rfl
theorem q88 : Slot "set_iterator" "__next__" "set_iterator.__next__" :=
 .of (owner := "set_iterator") (n := "__next__") (by rw [typeLookup_type, builtinLookup_eq_fast]; kernel_rfl) (by decide +kernel) (by decide +kernel) (by decide +kernel)
  (by first | exact .inl (by decide +kernel) | exact .inr (by decide +kernel)) (by rw [isSubtype_type]; kernel_rfl)
theorem q369 : entryFor table "set_iterator.__next__" = some Builtin.«set_iterator.__next__» := entryFor_of_tree (by kernel_rfl)
theorem q510 : Manifest.owners.lookup (String.ofList ['r', 'o', 't', 'a', 'r', 'e', 't', 'i', '_', 't', 'e', 's'].reverse) = some Manifest.sig_set_iterator := by kernel_rfl
theorem q415 (a : Value) : argsOk "set_iterator.__next__" ⟨[a], []⟩ := by
 unfold argsOk; rw [signature?_of (id := "set_iterator.__next__") (n := ['_', '_', 't', 'x', 'e', 'n', '_', '_']) (o := ['r', 'o', 't', 'a', 'r', 'e', 't', 'i', '_', 't', 'e', 's']) (by kernel_rfl) q510]; kernel_rfl
theorem q261 : Slot "set_iterator" "__iter__" "set_iterator.__iter__" :=
 .of (owner := "set_iterator") (n := "__iter__") (by rw [typeLookup_type, builtinLookup_eq_fast]; kernel_rfl) (by decide +kernel) (by decide +kernel) (by decide +kernel)
  (by first | exact .inl (by decide +kernel) | exact .inr (by decide +kernel)) (by rw [isSubtype_type]; kernel_rfl)
theorem q370 {α : Type} : ∀ (l : List α) (i : Nat) (h : i < l.length), (l[i] :: l.eraseIdx i).Perm l
 | x :: l, 0, _ => List.Perm.refl _
 | x :: l, i + 1, h => by
  show (l[i]'(by simpa using h) :: x :: l.eraseIdx i).Perm (x :: l)
  exact (List.Perm.swap _ _ _).trans (List.Perm.cons _ (q370 l i (by simpa using h)))
theorem q614 {α : Type} (nx : Nat -> Nat) : ∀ (f k : Nat) (l : List α) (out : Array α), l.length = f -> (pickOrder.go nx f k l out).toList.Perm (out.toList ++ l)
 | 0, _, l, out, h => by
  have : l = [] := List.length_eq_zero_iff.mp h
  subst this
  simp [pickOrder.go]
 | f + 1, k, l, out, h => by
  unfold pickOrder.go
  have hlt : nx k % l.length < l.length := Nat.mod_lt _ (by omega)
  rw [List.getElem?_eq_getElem hlt]
  dsimp only
  refine (q614 nx f (k + 1) _ _ (by rw [List.length_eraseIdx, if_pos hlt, h]; rfl)).trans ?_
  rw [Array.toList_push, List.append_assoc]
  exact List.Perm.append_left _ (q370 _ _ hlt)
theorem q615 {α : Type} (nx : Nat -> Nat) (xs : Array α) : (pickOrder nx xs).toList.Perm xs.toList := by
 have z := q614 nx xs.size 0 xs.toList #[] (by simp)
 simpa [pickOrder] using z
section
variable {prog : Program} {w : World} {A : Around} {E : Value -> Shared -> Prop} {s : Shared}
theorem q416 {α : Type} : ∀ (n : Nat) (xs : List α) {s : Shared} {Q : List α -> Shared -> Prop}, xs.length = n -> (∀ l d, l.Perm xs -> Q l { s with drawn := d }) -> wpAny (model prog w) A (drawOrder n xs) Q E s
 | 0, xs, s, Q, h, hq => by
  have : xs = [] := List.length_eq_zero_iff.mp h
  subst this
  exact wpAny_pure (hq [] s.drawn (List.Perm.refl _))
 | n + 1, [], s, Q, h, hq => by cases h
 | n + 1, x :: xs, s, Q, h, hq => by
  unfold drawOrder
  refine wpAny_bind (m := choose Source.order (x :: xs).length) (fun Γ p hΓ => ?_)
  show Sem.wp _ Γ (.choose _ _ _) _ _ p s
  rw [Sem.wp_choose]
  refine ⟨by simp, ?_⟩
  rw [Sem.wp_pure]
  generalize hd : ({ s with drawn := _ } : Shared) = s1
  have hlt : (model prog w).w.draws Source.order (s.drawn.get Source.order) % (x :: xs).length < (x :: xs).length := Nat.mod_lt _ (by simp)
  generalize (model prog w).w.draws Source.order (s.drawn.get Source.order) % (x :: xs).length = i at hlt
  rw [List.getElem?_eq_getElem hlt]
  dsimp only
  refine wpAny_bind (q416 n _ (by rw [List.length_eraseIdx, if_pos hlt, h]; rfl) fun l d p => ?_)
  subst hd
  exact wpAny_pure (hq _ d ((List.Perm.cons _ p).trans (q370 _ _ hlt)))
theorem q288 {α : Type} (hh : A.handled = none) {Q : α -> Shared -> Prop} {E' : Value -> Shared -> Prop} (h : ∀ (h' : Heap) (e : Addr), (∀ b o, s.heap.get? b = some o -> h'.get? b = some o) -> (∃ o, h'.get? e = some o /\ o.cls = .type "StopIteration") -> E' (.ref e) { s with heap := h' }) :
  wpAny (model prog w) A ((newExc (.type "StopIteration") [] >>= fun e => raiseNew e) : Sem α) Q E' s := by
 refine wpAny_bind ?_
 simp only [newExc, newTuple]
 refine wpAny_bind (wpAny_newObj_type ?_ (by size_fits))
 refine wpAny_bind (m := firstArgMember _ _) (wpAny_of_eq (a := Value.none) (by first | rfl | (simp only [firstArgMember]; rfl)) ?_)
 refine wpAny_newObj_type ?_ (by size_fits)
 simp only [raiseNew]
 refine wpAny_bind (wpAny_handled ?_)
 rw [hh]
 exact wpAny_bind (wpAny_pure (wpAny_throw (h _ _ (fun b o e => Heap.get?_push_of_some _ (Heap.get?_push_of_some _ e)) ⟨_, Heap.get?_push_size _ rfl, rfl⟩)))
abbrev itObj (first : Value) (i : Nat) (S : Addr) (n ep : Nat) : Obj := { cls := .type "set_iterator", dict := none, data := .fields #[first, rawInt i, .ref S, rawInt n, rawInt ep], slots := #[] }
theorem q463 {Q : Bool -> Shared -> Prop} (h : Q (byT w) s) : wpAny (model prog w) A setsByText Q E s := by
 unfold setsByText
 exact wpAny_bind (wpAny_askSetting (wpAny_pure h))
variable {S I : Addr} {o : Obj} {es : Array (Int × Value)} {ep : Nat} {t : SetTable} {ks : List Int}
def ordN (w : World) (S : Addr) (ep : Nat) (es : Array (Int × Value)) : Array (Int × Value) := if byT w then pickOrder (w.params.setOrder S ep) es else es
theorem q211 : (ordN w S ep es).toList.Perm es.toList := by
 unfold ordN
 split
 ·exact q615 _ _
 ·exact List.Perm.refl _
def slotN (w : World) (t : SetTable) : Nat -> Nat
 | 0 => 0
 | i + 1 => if byT w then 0 else t.place.getD i 0 + 1
def q269 (w : World) (es : Array (Int × Value)) (t : SetTable) : Prop := byT w = true \/ t.plain = true \/ es.size <= 1
theorem q511 {i : Nat} {Q : Option (Value × Nat) -> Shared -> Prop} (ho : s.heap.get? S = some o) (hs : SetS prog w o es ep t ks) (nd : q269 w es t) (hi : i <= es.size) (h : Q (((ordN w S ep es)[i]?).map fun e => (e.2, slotN w t (i + 1))) s) :
  wpAny (model prog w) A (setNext S (slotN w t i) i ep) Q E s := by
 unfold setNext
 refine wpAny_bind (wpAny_setState_of ho hs.dat hs.fit ?_)
 dsimp only
 refine wpAny_bind (q463 ?_)
 by_cases hb : byT w = true
 ·rw [if_pos hb, if_neg (by simp)]
  refine wpAny_bind ?_
  unfold setWalk
  refine wpAny_bind (wpAny_setState_of ho hs.dat hs.fit (wpAny_bind (q463 ?_)))
  rw [if_pos hb]
  refine wpAny_bind (wpAny_askSetting (wpAny_pure (wpAny_pure ?_)))
  have e1 : ordN w S ep es = pickOrder (w.params.setOrder S ep) es := if_pos hb
  have e2 : slotN w t (i + 1) = 0 := if_pos hb
  have e3 : slotN w t i = 0 := by cases i with | zero => rfl | succ i => exact if_pos hb
  rw [e1, e2] at h
  rw [e3]
  exact h
 ·rw [if_neg hb]
  have e1 : ordN w S ep es = es := if_neg hb
  have e2 : slotN w t (i + 1) = t.place.getD i 0 + 1 := if_neg hb
  have led : t.led = true := by rw [hs.gt.led]; simpa using hb
  have psz : t.place.size = es.size := by
   have z := hs.fit
   simp only [SetTable.fits, Bool.and_eq_true, beq_iff_eq] at z
   exact z.1
  rw [e1, e2] at h
  split
  ·rename_i hd
   have hd' : (!t.plain && decide (es.size > 1)) = true := hd
   rcases nd with z | z | z
   ·exact absurd z hb
   ·rw [z] at hd'; cases hd'
   ·rw [decide_eq_false (by omega), Bool.and_false] at hd'; cases hd'
  ·refine wpAny_bind ?_
   show wpAny _ _ (if (!t.led && !es.isEmpty) = true then unsupported "set:maker-not-led" else pure ()) _ _ _
   rw [led, if_neg (by simp)]
   refine wpAny_pure (wpAny_pure ?_)
   have hu : Up t.place.toList := by
    rcases nd with z | z | z
    ·exact absurd z hb
    ·exact hs.gt.up z
    ·match hl : t.place.toList, (show t.place.toList.length <= 1 by rw [Array.length_toList, psz]; exact z) with
     | [], _ => exact .nil
     | [x], _ => exact List.pairwise_singleton _ _
   have bz : ∀ j, j <= es.size -> SetTable.below t.place (slotN w t j) = j := fun j hj => by
    cases j with
    | zero => exact bel_zero hu
    | succ j =>
     have q : j < t.place.size := by omega
     rw [show slotN w t (j + 1) = t.place[j] + 1 by rw [show slotN w t (j + 1) = t.place.getD j 0 + 1 from if_neg hb]; simp [Array.getD, q]]
     exact bel_next hu (Array.getElem?_eq_getElem q)
   by_cases q : i < es.size
   ·rw [bz i (by omega), Array.getElem?_eq_getElem q, Array.getElem?_eq_getElem (show i < t.place.size by omega)]
    rw [Array.getElem?_eq_getElem q] at h
    have e3 : t.place.getD i 0 = t.place[i]'(by omega) := by simp [Array.getD, show i < t.place.size by omega]
    rw [e3] at h
    exact h
   ·rw [Array.getElem?_eq_none (by omega)] at h
    rw [bz i hi, Array.getElem?_eq_none (by omega)]
    exact h
end
end TS
namespace TS
open PySem
section
variable {prog : Program} {w : World} {A : Around} {E : Value -> Shared -> Prop} {s : Shared} {S I T : Addr} {o : Obj} {es : Array (Int × Value)} {ep : Nat} {t : SetTable} {ks : List Int}
theorem q616 {first : Value} {i n : Nat} {Q : Value -> Shared -> Prop} (hI : s.heap.get? I = some (itObj first i S n ep)) (h : Q (.ref I) s) : wpAny (model prog w) A (pyIter (.ref I)) Q E s := by
 have hT : s.TypeIs (.ref I) "set_iterator" := ⟨_, hI, rfl⟩
 refine wpAny_pyIter_slot hT q261 (wpAny_call_entry (b := Builtin.«dict_keyiterator.__iter__») q261 hT (entryFor_alias (id' := "dict_keyiterator.__iter__") (by kernel_rfl) rfl (by decide +kernel) (by kernel_rfl)) ?_ ?_)
 ·exact wpAny_pure ⟨_, rfl, "set_iterator", _, hT, q88.lookup, h⟩
 ·unfold argsOk; rw [signature?_of (id := "set_iterator.__iter__") (n := ['_', '_', 'r', 'e', 't', 'i', '_', '_']) (o := ['r', 'o', 't', 'a', 'r', 'e', 't', 'i', '_', 't', 'e', 's']) (by kernel_rfl) q510]; kernel_rfl
theorem q371 {first : Value} {i : Nat} {Q : Option Value -> Shared -> Prop} (ho : s.heap.get? S = some o) (hs : SetS prog w o es ep t ks) (hI : s.heap.get? I = some (itObj first i S es.size ep))
  (hN : ∀ Q' : PySem.Fin -> Shared -> Prop, ∀ E' : Value -> Shared -> Prop, (∀ v s', Q (some v) s' -> Q' (.done (.ret v)) s') -> (∀ e h', (∀ b u, b ≠ I -> s.heap.get? b = some u -> h'.get? b = some u) -> (∃ u, h'.get? e = some u /\ u.cls = .type "StopIteration") -> Q none { s with heap := h' } -> E' (.ref e) { s with heap := h' }) ->
   wpAny (model prog w) A.in1 (if let .int slot _ := first then (do
    match <- setNext S slot.toNat i ep with
    | some (x, next) =>
     setField (.ref I) 0 (rawInt next)
     setField (.ref I) 1 (rawInt (i + 1))
     ret x
    | none => setField (.ref I) 2 .none; raiseNew (<- newExc (.type "StopIteration") [])) else (do
    let some places <- seqItems? first | unsupported "internal:set_iterator"
    match places[i]? with
    | some (.int place _) =>
     let x <- setNextDrawn S place.toNat ep
     setField (.ref I) 1 (rawInt (i + 1))
     ret x
    | some _ => unsupported "internal:set_iterator"
    | none => setField (.ref I) 0 (rawInt 0); setField (.ref I) 2 .none; raiseNew (<- newExc (.type "StopIteration") []))) Q' E' s) : wpAny (model prog w) A (pyNext (.ref I)) Q E s := by
 have hT : s.TypeIs (.ref I) "set_iterator" := ⟨_, hI, rfl⟩
 unfold pyNext
 refine wpAny_bind (wpAny_attempt (wpAny_callSpecial?_slot (name := Str.ofString "__next__") hT q88
  (wpAny_call_entry q88 hT q369 ?_ (q415 _))))
 show wpAny _ _ (fieldsOf (.ref I) >>= _) _ _ s
 refine wpAny_bind (wpAny_fieldsOf hI rfl ?_)
 show wpAny _ _ (setEntries S >>= _) _ _ s
 refine wpAny_bind (wpAny_setEntries_of ho hs.dat hs.fit ?_)
 rw [if_neg (by simp)]
 refine wpAny_mono (hN _ _ (fun v s' hq => ⟨_, rfl, wpAny_pure hq⟩) fun e h' hk he hq => ?_) (fun _ _ q => q) fun _ _ q => q
 obtain ⟨u, hu, hc⟩ := he
 exact wpAny_bind (wpAny_isInstance (T := "StopIteration") (b := true) ⟨u, hu, hc⟩ isSubtype_stop (wpAny_pure hq))
theorem q64 {a : Addr} {h h' : Heap} (x : Heap.SameBut a h h') : ∀ b u, b ≠ a -> h.get? b = some u -> h'.get? b = some u := fun b u hb e => (x.2 b hb).trans e
theorem walk_n (hh : A.handled = none) (hne : S ≠ I) (hs : SetS prog w o es ep t ks) (nd : q269 w es t) :
  Walks prog w A I [I, S] [I] es.size (fun i v => ((ordN w S ep es).toList.map (·.2))[i]? = some v) (fun i h => h.get? I = some (itObj (rawInt (slotN w t i)) i S es.size ep) /\ h.get? S = some o) where
 sub := fun b hb => by simp at hb; simp [hb]
 frame := fun i h h' st hk => ⟨hk I (by simp) _ st.1, hk S (by simp) _ st.2⟩
 item := fun i s Q E hi st hQ => by
  have hlt : i < (ordN w S ep es).size := by
   rw [<- Array.length_toList, q211.length_eq, Array.length_toList]
   exact hi
  refine q371 st.2 hs st.1 fun Q' E' f1 f2 => ?_
  refine wpAny_bind (q511 (i := i) (E := E') st.2 hs nd (Nat.le_of_lt hi) ?_)
  rw [Array.getElem?_eq_getElem hlt]
  dsimp only [Option.map]
  refine wpAny_bind (wpAny_setField_rec st.1 (by simp) fun h1 g1 k1 => ?_)
  refine wpAny_bind (wpAny_setField_rec (s := { s with heap := h1 }) g1 (by simp) fun h2 g2 k2 => ?_)
  refine wpAny_pure (f1 _ _ (hQ _ h2 s.toks ?_ ⟨?_, ?_⟩ ?_))
  ·rw [List.getElem?_map, Array.getElem?_toList, Array.getElem?_eq_getElem hlt]
   rfl
  ·exact g2
  ·exact q64 k2 S _ hne (q64 k1 S _ hne st.2)
  ·exact fun b u hb e => q64 k2 b u (fun z => hb (by simp [z])) (q64 k1 b u (fun z => hb (by simp [z])) e)
 done := fun s Q E st hQ => by
  refine q371 st.2 hs st.1 fun Q' E' f1 f2 => ?_
  refine wpAny_bind (q511 (i := es.size) (E := E') st.2 hs nd (Nat.le_refl _) ?_)
  rw [Array.getElem?_eq_none (by rw [<- Array.length_toList, q211.length_eq, Array.length_toList]; exact Nat.le_refl _)]
  dsimp only [Option.map]
  refine wpAny_bind (wpAny_setField_rec st.1 (by simp) fun h1 g1 k1 => ?_)
  refine q288 (A := A.in1) (show A.in1.handled = none from hh) fun h' e g he => ?_
  have kk : ∀ b u, b ≠ I -> s.heap.get? b = some u -> h'.get? b = some u := fun b u hb z => g b u (q64 k1 b u hb z)
  exact f2 e h' kk he (hQ h' s.toks fun b u hb z => kk b u (fun q => hb (by simp [q])) z)
 self := fun i s Q E st hQ => q616 st.1 hQ
theorem walk_d (hh : A.handled = none) (hne : S ≠ I) (hnt : T ≠ I) {ps : List Nat} {u : Obj} (hs : SetS prog w o es ep t ks) (hp : ps.Perm (List.range es.size)) (hu : u.data = .seq (ps.map fun (i : Nat) => rawInt i).toArray 0) :
  Walks prog w A I [I, S, T] [I] es.size (fun i v => (ps.filterMap fun p => (es[p]?).map (·.2))[i]? = some v) (fun i h => h.get? I = some (itObj (.ref T) i S es.size ep) /\ h.get? S = some o /\ h.get? T = some u) where
 sub := fun b hb => by simp at hb; simp [hb]
 frame := fun i h h' st hk => ⟨hk I (by simp) _ st.1, hk S (by simp) _ st.2.1, hk T (by simp) _ st.2.2⟩
 item := fun i s Q E hi st hQ => by
  have hlt : i < ps.length := by rw [hp.length_eq, List.length_range]; exact hi
  have hin : ps[i] < es.size := List.mem_range.mp (hp.mem_iff.mp (List.getElem_mem hlt))
  refine q371 st.2.1 hs st.1 fun Q' E' f1 f2 => ?_
  refine wpAny_bind (wpAny_seqItems st.2.2 hu ?_)
  dsimp only
  have e1 : (ps.map fun (i : Nat) => rawInt i).toArray[i]? = some (rawInt ps[i]) := by simp [hlt]
  rw [e1]
  refine wpAny_bind ?_
  unfold setNextDrawn
  refine wpAny_bind (wpAny_setState_of st.2.1 hs.dat hs.fit ?_)
  dsimp only
  rw [if_neg (by simp)]
  show wpAny _ _ (match es[(ps[i] : Int).toNat]? with | some (_, x) => pure x | _ => unsupported "internal:set_iterator") _ _ _
  rw [Int.toNat_natCast, Array.getElem?_eq_getElem hin]
  refine wpAny_pure (wpAny_bind (wpAny_setField_rec st.1 (by simp) fun h1 g1 k1 => ?_))
  refine wpAny_pure (f1 _ _ (hQ _ h1 s.toks ?_ ⟨g1, q64 k1 S _ hne st.2.1, q64 k1 T _ hnt st.2.2⟩ fun b v hb e => q64 k1 b v (fun z => hb (by simp [z])) e))
  have e2 : (ps.filterMap fun p => (es[p]?).map (·.2)) = ps.pmap (fun p h => (es[p]'h).2) (fun p q => List.mem_range.mp (hp.mem_iff.mp q)) := by
   clear hu st hlt hin f1 f2 e1 g1 k1 hQ
   have go : ∀ (l : List Nat) (hl : ∀ p ∈ l, p < es.size), (l.filterMap fun p => (es[p]?).map (·.2)) = l.pmap (fun p h => (es[p]'h).2) hl := fun l => by
    induction l with
    | nil => intro _; rfl
    | cons p l ih =>
     intro hl
     rw [List.filterMap_cons_some (b := (es[p]'(hl p (.head _))).2) (by rw [Array.getElem?_eq_getElem (hl p (.head _))]; rfl), List.pmap_cons, ih fun q hq => hl q (.tail _ hq)]
   exact go ps _
  rw [e2, List.getElem?_pmap]
  simp [hlt]
 done := fun s Q E st hQ => by
  refine q371 st.2.1 hs st.1 fun Q' E' f1 f2 => ?_
  refine wpAny_bind (wpAny_seqItems st.2.2 hu ?_)
  dsimp only
  have e1 : (ps.map fun (i : Nat) => rawInt i).toArray[es.size]? = none := by
   rw [Array.getElem?_eq_none]
   simp [hp.length_eq]
  rw [e1]
  refine wpAny_bind (wpAny_setField_rec st.1 (by simp) fun h1 g1 k1 => ?_)
  refine wpAny_bind (wpAny_setField_rec (s := { s with heap := h1 }) g1 (by simp) fun h2 g2 k2 => ?_)
  refine q288 (A := A.in1) (show A.in1.handled = none from hh) fun h' e g he => ?_
  have kk : ∀ b u, b ≠ I -> s.heap.get? b = some u -> h'.get? b = some u := fun b u hb z => g b u (q64 k2 b u hb (q64 k1 b u hb z))
  exact f2 e h' kk he (hQ h' s.toks fun b u hb z => kk b u (fun q => hb (by simp [q])) z)
 self := fun i s Q E st hQ => q616 st.1 hQ
theorem q417 {ps : List Nat} (hp : ps.Perm (List.range es.size)) : (ps.filterMap fun p => (es[p]?).map (·.2)).Perm (es.toList.map (·.2)) := by
 refine (hp.filterMap _).trans (List.Perm.of_eq ?_)
 have z := filterMap_getElem?_range es
 rw [<- z, <- List.filterMap_eq_map, List.filterMap_filterMap]
 congr 1
 funext p
 cases es[p]? <;> rfl
theorem iter_set {Q : Value -> Shared -> Prop} (hh : A.handled = none) (ho : s.heap.get? S = some o) (hs : SetS prog w o es ep t ks)
  (h : ∀ (I : Addr) (fp : List Addr) (vs : List Value) (St : Nat -> Heap -> Prop) (h' : Heap) (d : Drawn), (∀ b u, s.heap.get? b = some u -> h'.get? b = some u) -> (∀ b ∈ fp, b = S \/ s.heap.objs.size <= b) -> s.heap.objs.size <= I ->
   Walks prog w A I fp [I] vs.length (fun i v => vs[i]? = some v) St -> St 0 h' -> vs.Perm (es.toList.map (·.2)) -> Q (.ref I) { s with heap := h', drawn := d }) : wpAny (model prog w) A (pyIter (.ref S)) Q E s := by
 have hT : s.TypeIs (.ref S) "set" := ⟨o, ho, hs.ex.1⟩
 have hlt : S < s.heap.objs.size := Heap.lt_size ho
 refine wpAny_pyIter_slot hT q287 (wpAny_call_entry q287 hT q414 ?_ (q462 _))
 unfold Builtin.«frozenset.__iter__»
 refine wpAny_bind (m := Builtin.Frozenset.slot0 "__iter__" _) (wpAny_of_eq (a := S) rfl ?_)
 refine wpAny_bind (wpAny_bind (wpAny_setEntries_of ho hs.dat hs.fit (wpAny_pure ?_)))
 refine wpAny_bind ?_
 unfold setDrawn
 refine wpAny_bind (wpAny_setState_of ho hs.dat hs.fit (wpAny_bind (q463 (wpAny_pure ?_))))
 by_cases nd : q269 w es t
 ·rw [if_neg ?_]
  ·refine wpAny_bind (wpAny_pure ?_)
   refine wpAny_bind (wpAny_setEpoch_of ho hs.dat hs.fit ?_)
   refine wpAny_bind (wpAny_newObj_type (wpAny_pure ⟨_, rfl, "set_iterator", _, ⟨_, Heap.get?_push_size _ rfl, rfl⟩, q88.lookup, ?_⟩))
   have e : ((ordN w S ep es).toList.map (·.2)).length = es.size := by rw [List.length_map, q211.length_eq, Array.length_toList]
   have W := walk_n (A := A) (I := s.heap.objs.size) hh (Nat.ne_of_lt hlt) hs nd
   rw [<- e] at W
   exact h _ _ _ _ _ s.drawn (fun b u z => Heap.get?_push_of_some _ z) (fun b hb => by
    rcases List.mem_cons.mp hb with z | z
    ·exact .inr (Nat.le_of_eq z.symm)
    ·exact .inl (List.mem_singleton.mp z)) (Nat.le_refl _) W ⟨by rw [e]; exact Heap.get?_push_size _ rfl, Heap.get?_push_of_some _ ho⟩ (q211.map _)
  ·show ¬ ((!(byT w) && (!t.plain && decide (es.size > 1))) = true)
   rcases nd with z | z | z
   ·simp [z]
   ·simp [z]
   ·rw [decide_eq_false (show ¬ es.size > 1 by omega)]; simp
 ·rw [if_pos ?_]
  ·refine wpAny_bind (q416 _ _ (by simp) fun ps d hp => ?_)
   refine wpAny_bind (wpAny_newTuple ?_ (hsz := ?_))
   rotate_left
   ·rw [List.length_map, hp.length_eq, List.length_range]; exact fits_of_scanBound hs.few
   refine wpAny_bind (wpAny_setEpoch_of (o := o) (Heap.get?_push_of_some _ ho) hs.dat hs.fit ?_)
   refine wpAny_bind (wpAny_newObj_type (wpAny_pure ⟨_, rfl, "set_iterator", _, ⟨_, Heap.get?_push_size _ rfl, rfl⟩, q88.lookup, ?_⟩))
   have e : (ps.filterMap fun p => (es[p]?).map (·.2)).length = es.size := by rw [(q417 hp).length_eq, List.length_map, Array.length_toList]
   have W := walk_d (A := A) (I := s.heap.objs.size + 1) (T := s.heap.objs.size) (u := { cls := .type "tuple", data := .seq (ps.map fun (i : Nat) => rawInt i).toArray }) hh (Nat.ne_of_lt (Nat.lt_succ_of_lt hlt)) (Nat.ne_of_lt (Nat.lt_succ_self _)) hs hp rfl
   rw [<- e] at W
   have hz : (s.heap.push { cls := .type "tuple", data := .seq (ps.map fun (i : Nat) => rawInt i).toArray }).objs.size = s.heap.objs.size + 1 := Heap.size_push ..
   refine (congrArg (fun a => Q (.ref a) _) hz).mpr (h _ _ _ _ _ d (fun b u z => Heap.get?_push_of_some _ (Heap.get?_push_of_some _ z)) (fun b hb => by
    rcases List.mem_cons.mp hb with z | z
    ·exact .inr (by rw [z]; exact Nat.le_succ _)
    ·rcases List.mem_cons.mp z with z | z
     ·exact .inl z
     ·exact .inr (Nat.le_of_eq (List.mem_singleton.mp z).symm)) (Nat.le_succ _) W ⟨?_, Heap.get?_push_of_some _ (Heap.get?_push_of_some _ ho), Heap.get?_push_of_some _ (Heap.get?_push_size _ rfl)⟩ (q417 hp))
   rw [e, <- hz]
   exact Heap.get?_push_size _ rfl
  ·show (!(byT w) && (!t.plain && decide (es.size > 1))) = true
   unfold q269 at nd
   simp only [not_or, Bool.not_eq_true, Nat.not_le] at nd
   simp [nd]
end
end TS
namespace TS
open PySem PyProof.Rows
section
variable {prog : Program} {w : World} {A : Around} {E : Value -> Shared -> Prop} {s : Shared}
theorem set_new (a : Value) {Q : Value -> Shared -> Prop} (h : Q (.ref s.heap.objs.size) { s with heap := s.heap.push { cls := .type "set", dict := none, data := .set #[] 0 (.fresh 0 0 (!(byT w))) } }) :
  codeAny (model prog w) A (.call (.builtin "set.__new__") ⟨[.type "set", a], []⟩) (wants Q E) s := by
 refine codeAny_of_tree ?_; show wpAny _ A.in1 (do checkBuiltinCall "set.__new__" ⟨[.type "set", a], []⟩; again (.builtin "set.__new__" ⟨[.type "set", a], []⟩)) _ _ s
 refine wpAny_bind (wpAny_of_eq (PySem.F.newCall_set_1 a) (wpAny_pure ⟨plainId_quiet PySem.F.plain_set_new _, codeAny_builtin PySem.F.entry_set_new ?_⟩))
 rw [Around.under_plainId PySem.F.plain_set_new _]
 unfold Builtin.«set.__new__»; unfold Builtin.Frozenset.newClass
 have hsub := sub_set_self
 obtain ⟨hp, g, d, tk, os⟩ := s
 dsimp only
 wp_walk
 refine wpAny_askSetting (wpAny_pure ?_); dsimp only
 simp only [newObj]
 exact wpAny_bind (wpAny_alloc (wpAny_pure (wpAny_pure h)))
theorem q512 {R : Result -> Shared -> Prop} {I : Addr} {fp wr : List Addr} {G : Array GenState -> Array GenState -> Prop} {n : Nat} {P : Nat -> Value -> Prop} {St : Nat -> Shared -> Prop} (W : WalksS prog w A.in1 I fp wr G n P St) {S : Addr} (hSf : S ∉ fp) {ns : List Int} (hl : ns.length = n)
  (hv : ∀ i v, P i v -> ∃ t, v = .int (ns.getD i 0) t) (hb : n + 1 < scanBound) : ∀ (k i : Nat) (s : Shared), n - i = k -> i <= n -> St i s -> SetI prog w s.heap S ((ns.take i).foldl stD []) ->
   (∀ s', Moved (S :: wr) G s s' -> SetI prog w s'.heap S (ns.foldl stD []) -> R (.ok (.ret .none)) s') -> codeAny (model prog w) A (.builtin "set.update.loop" ⟨[.ref S, .ref I], []⟩) R s
 | 0, i, s, hk, hi, hst, hS, hR => by
  have e : i = n := by omega
  refine codeAny_builtin F.entry_set_update_loop ?_
  rw [Around.under_plainId F.plain_set_update_loop _]
  show wpAny _ A.in1 (pyNext (.ref I) >>= _) _ _ s
  refine wpAny_bind (W.done s _ _ (e ▸ hst) fun s' hm => ?_)
  refine wpAny_pure (hR s' (hm.mono fun b q => List.mem_cons_of_mem _ q) ?_)
  rw [e, <- hl, List.take_length] at hS
  obtain ⟨o, es, ep, t, ho, hs⟩ := hS
  exact ⟨o, es, ep, t, hm.heap S _ (fun z => hSf (W.sub _ z)) ho, hs⟩
 | k + 1, i, s, hk, hi, hst, hS, hR => by
  have hlt : i < n := by omega
  refine codeAny_builtin F.entry_set_update_loop ?_
  rw [Around.under_plainId F.plain_set_update_loop _]
  show wpAny _ A.in1 (pyNext (.ref I) >>= _) _ _ s
  refine wpAny_bind (W.item i s _ _ hlt hst fun v s' hP hst' hm => ?_)
  obtain ⟨t, rfl⟩ := hv i v hP
  have hS' : SetI prog w s'.heap S ((ns.take i).foldl stD []) := by
   obtain ⟨o, es, ep, tb, ho, hs⟩ := hS
   exact ⟨o, es, ep, tb, hm.heap S _ (fun z => hSf (W.sub _ z)) ho, hs⟩
  refine wpAny_bind (wpAny_holding ?_)
  unfold setAdd
  refine wpAny_holding (wpAny_bind ((intKind prog w).pyHash (k := ns.getD i 0) (intKind_is _ _ _ _) ?_))
  have hlen : ∀ (l : List Int) (a : List Int), (l.foldl stD a).length <= a.length + l.length := fun l => by
   induction l with
   | nil => intro a; exact Nat.le_refl _
   | cons x l ih =>
    intro a
    have z : (stD a x).length <= a.length + 1 := by unfold stD; split <;> simp
    have := ih (stD a x)
    simp only [List.foldl_cons, List.length_cons]
    omega
  have hroom : ((ns.take i).foldl stD []).length + 1 < scanBound := by
   have z := hlen (ns.take i) []
   rw [List.length_take] at z
   simp only [List.length_nil] at z
   omega
  refine set_add (s := { s' with toks := s'.toks + 1 }) hS' hroom fun h' hsb hS2 => ?_
  have hS3 : SetI prog w h' S ((ns.take (i + 1)).foldl stD []) := by
   have hi' : i < ns.length := by omega
   rw [List.take_succ, List.foldl_append, List.getElem?_eq_getElem hi']
   rw [show ns.getD i 0 = ns[i] by simp [List.getD, List.getElem?_eq_getElem hi']] at hS2
   exact hS2
  refine wpAny_pure ⟨plainId_quiet F.plain_set_update_loop _, q512 W hSf hl hv hb k (i + 1) _ (by omega) hlt (W.frame _ s' _ _ hst' (Nat.le_succ _) fun b q o e => ?_) hS3 fun s'' m2 S2 => ?_⟩
  ·rw [hsb.2 b (fun z : b = S => hSf (z ▸ q))]; exact e
  ·refine hR s'' (Moved.trans W.gtrans ((hm.mono fun b q => List.mem_cons_of_mem _ q).then_heap (Nat.le_succ _) fun b o q e => ?_) m2) S2
   rw [hsb.2 b (fun z : b = S => q (by rw [z]; exact List.mem_cons_self))]; exact e
theorem q682 {l : Addr} {items : Array Value} {ns : List Int} {Q : Value -> Shared -> Prop} (hh : A.handled = none) (hl : s.heap.IsList l items) (hi : IntsAre items.toList ns) (hb : items.size + 1 < scanBound)
  (h : ∀ (h' : Heap) (tk : Nat), SetI prog w h' s.heap.objs.size (ns.foldl stD []) -> (∀ b o, s.heap.get? b = some o -> h'.get? b = some o) -> Q (.ref s.heap.objs.size) { s with heap := h', toks := tk }) : wpAny (model prog w) A (call (.type "set") [.ref l]) Q E s := by
 obtain ⟨c, tl, hmro⟩ := PySem.F.called_set.mro
 have c1 := PySem.F.called_set.made
 have c2 := PySem.F.called_set.sub
 have c3 := PySem.F.called_set.notType
 have c4 := PySem.F.called_set.canCreate
 have c5 := PySem.F.typeCall_set_1 (.ref l)
 refine wpAny_call (codeAny_of_tree ?_); show wpAny _ _ (callAny (.type "set") _) _ _ _
 refine wpAny_pure ⟨Code.quiet_builtin _ (by decide +kernel), codeAny_builtin PySem.F.entry_type_call ?_⟩
 rw [Around.under_plain (weight_type_call_type "set" [.ref l] []) rfl]
 repeat (any_goals (first | assumption | wp_step))
 generalize e0 : s.heap.push { cls := .type "set", dict := none, data := .set #[] 0 (.fresh 0 0 (!(byT w))) } = h0
 refine codeAny_mono (set_new (.ref l) (E := E) (Q := fun v s₁ => v = .ref s.heap.objs.size /\ s₁ = { s with heap := h0 }) ⟨rfl, by rw [e0]⟩) fun r s₁ hr => ?_
 cases r with
 | error e => exact hr
 | ok fl =>
  cases fl with
  | ret v =>
   obtain ⟨rfl, rfl⟩ := hr
   have g0 : h0.get? s.heap.objs.size = some { cls := .type "set", dict := none, data := .set #[] 0 (.fresh 0 0 (!(byT w))) } := by rw [<- e0]; exact Heap.get?_push_size _ rfl
   have k0 : ∀ b o, s.heap.get? b = some o -> h0.get? b = some o := fun b o z => by rw [<- e0]; exact Heap.get?_push_of_some _ z
   have n0 : h0.objs.size = s.heap.objs.size + 1 := by rw [<- e0]; exact Heap.size_push ..
   have hT : Shared.TypeIs { s with heap := h0 } (.ref s.heap.objs.size) "set" := ⟨_, g0, rfl⟩
   have i1 := PySem.F.called_set.init.lookup
   have i2 := PySem.F.called_set.init.bind (.ref s.heap.objs.size)
   repeat (any_goals (first | assumption | wp_step))
   refine codeAny_mono (codeAny_call_builtin (R := wants (fun r s₂ => r = .none /\ ∃ h' tk, s₂ = { s with heap := h', toks := tk } /\ SetI prog w h' s.heap.objs.size (ns.foldl stD []) /\ (∀ b o, s.heap.get? b = some o -> h'.get? b = some o)) E) PySem.F.called_set.init.plain PySem.F.entry_set_init (check_set_init_1 hT ?_)) fun r₂ s₂ hr₂ => ?_
   ·obtain ⟨ol, hol, hcl, nl, hdl⟩ := hl
    obtain ⟨ocls, odict, odata, oslots⟩ := ol
    simp only at hcl hdl
    subst hcl; subst hdl
    have hlS : l < s.heap.objs.size := Heap.lt_size hol
    have hol' := k0 _ _ hol
    have q1 := PySem.F.sub_list_set
    have q2 := PySem.F.sub_list_frozenset
    have q3 : (Value.type "list" == Value.type "dict") = false := by decide
    have hl1 : h0.IsList l items := ⟨_, hol', rfl, nl, rfl⟩
    unfold Builtin.«set.__init__»; unfold noKeywords; unfold Builtin.Frozenset.updateFrom
    generalize hPI : pyIter = PI
    wp_walk
    subst hPI
    refine wpAny_pyIter_list hl1 (wpAny_bind (wpAny_runValue ?_))
    have hh3 : A.in1.in1.in1.handled = none := by simp [hh]
    have hneI : l ≠ h0.objs.size := by rw [n0]; exact Nat.ne_of_lt (Nat.lt_succ_of_lt hlS)
    have hSf : s.heap.objs.size ∉ [h0.objs.size, l] := by
     rw [n0]; intro z
     rcases List.mem_cons.mp z with z | z
     ·exact absurd z (Nat.ne_of_lt (Nat.lt_succ_self _))
     ·exact absurd (List.mem_singleton.mp z) (Nat.ne_of_gt hlS)
    refine q512 ((Walks.list hh3 _ l hneI items).toS) hSf (ns := ns) (by rw [<- IntsAre.length hi, Array.length_toList]) (fun i v hv => IntsAre.int_at hi i v (by rw [Array.getElem?_toList]; exact hv)) hb (items.size - 0) 0 _ (by omega) (Nat.zero_le _)
     ⟨⟨_, Heap.get?_push_size _ rfl, rfl, rfl⟩, (hl1.push _)⟩ ⟨_, #[], 0, _, Heap.get?_push_of_some _ g0, ⟨rfl, rfl, rfl⟩, rfl, fun e he => by simp at he, by unfold scanBound; simp, rfl, GT.fresh _, List.Perm.refl _, List.nodup_nil⟩ ?_
    intro s' hm hS'
    obtain ⟨h', g', d', tk', os'⟩ := s'
    have eg : g' = s.gens := hm.gens
    have ed : d' = s.drawn := hm.drawn
    have eo : os' = s.os := hm.os
    subst eg; subst ed; subst eo
    refine wpAny_pure (wpAny_pure ⟨rfl, h', tk', rfl, hS', fun b o z => ?_⟩)
    have hb := Heap.lt_size z
    refine hm.heap b o (fun q => ?_) (Heap.get?_push_of_some _ (k0 b o z))
    rcases List.mem_cons.mp q with q | q
    ·exact absurd q (Nat.ne_of_lt hb)
    ·rw [List.mem_singleton, n0] at q
     exact absurd q (Nat.ne_of_lt (Nat.lt_succ_of_lt hb))
   ·cases r₂ with
    | error e => exact hr₂
    | ok fl₂ =>
     cases fl₂ with
     | ret r =>
      obtain ⟨rfl, h', tk, rfl, hS', hk'⟩ := hr₂
      repeat (any_goals (first | assumption | wp_step))
      exact h _ _ hS' hk'
     | _ => exact hr₂.elim
  | _ => exact hr.elim
theorem q464 {S : Addr} {ks : List Int} {Q : List Value -> Shared -> Prop} (hh : A.handled = none) (hS : SetI prog w s.heap S ks)
  (h : ∀ (h' : Heap) (tk : Nat) (d : Drawn) (vs : List Value), (∀ b o, s.heap.get? b = some o -> h'.get? b = some o) -> s.heap.objs.size <= h'.objs.size -> (vs.map kOf).Perm ks -> AllI vs -> Q vs { s with heap := h', toks := tk, drawn := d }) : wpAny (model prog w) A (collect (.ref S)) Q E s := by
 obtain ⟨o, es, ep, t, ho, hs⟩ := hS
 have hSlt : S < s.heap.objs.size := Heap.lt_size ho
 unfold collect
 refine wpAny_bind (wpAny_runValue (codeAny_builtin PySem.F.entry_proto_collect ?_))
 rw [Around.under_plainId PySem.F.plain_proto_collect _]
 show wpAny _ A.in1 (newList [] >>= fun l => again (.builtin "list.__iadd__" ⟨[l, .ref S], []⟩)) _ _ s
 refine wpAny_bind (wpAny_newObj_type (wpAny_pure ⟨plainId_quiet PySem.F.plain_list_iadd _, codeAny_builtin PySem.F.entry_list_iadd ?_⟩))
 rw [Around.under_plainId PySem.F.plain_list_iadd _]
 generalize e0 : s.heap.push { cls := .type "list", data := .seq ([] : List Value).toArray } = h0
 have g0 : h0.get? s.heap.objs.size = some { cls := .type "list", data := .seq ([] : List Value).toArray } := by rw [<- e0]; exact Heap.get?_push_size _ rfl
 have k0 : ∀ b o, s.heap.get? b = some o -> h0.get? b = some o := fun b o z => by rw [<- e0]; exact Heap.get?_push_of_some _ z
 have n0 : h0.objs.size = s.heap.objs.size + 1 := by rw [<- e0]; exact Heap.size_push ..
 have ho0 := k0 _ _ ho
 have h1 : Builtin.List.listSameRef (.ref s.heap.objs.size) (.ref S) = false := by simp [Builtin.List.listSameRef, Nat.ne_of_gt hSlt]
 have hT : Shared.TypeIs { s with heap := h0 } (.ref S) "set" := ⟨o, ho0, hs.ex.1⟩
 show wpAny _ A.in1 (Builtin.List.listExtendWith (.ref s.heap.objs.size) (.ref S) (.ref s.heap.objs.size)) _ _ _
 unfold Builtin.List.listExtendWith
 refine wpAny_bind (wpAny_typeOf hT ?_)
 rw [if_neg (by rw [h1]; decide)]
 refine wpAny_bind (iter_set (A := A.in1) (show A.in1.handled = none from hh) ho0 hs fun I fp vs St h1 d k1 f1 f2 W st pm => ?_)
 have hT1 : Shared.TypeIs { s with heap := h1, drawn := d } (.ref S) "set" := ⟨o, k1 _ _ ho0, hs.ex.1⟩
 refine wpAny_bind (wpAny_holding ?_)
 unfold Builtin.List.listLengthHint
 refine wpAny_bind (wpAny_specialOf hT1 PySem.F.slot_set_len.lookup ?_)
 generalize hid : ("set.__len__" : String) = id0
 wp_delta
 rw [show splitId id0 = some ("set", "__len__") from by subst hid; decide +kernel]
 subst hid
 refine wpAny_bind (wpAny_isInstance (T := "set") (b := true) hT1 (by rw [isSubtype_type]; kernel_rfl) ?_)
 refine wpAny_ite_split (fun z => absurd z (by decide)) (fun _ => ?_)
 refine wpAny_ite_split (fun _ => ?_) (fun z => absurd (by decide +kernel) z)
 refine wpAny_bind (wpAny_typeOf hT1 (wpAny_pure ?_))
 have hSf : s.heap.objs.size ∉ fp := fun z => by
  rcases f1 _ z with q | q
  ·exact absurd q (Nat.ne_of_gt hSlt)
  ·rw [n0] at q
   exact absurd q (Nat.not_succ_le_self _)
 have hn : vs.length <= sizeLine := by rw [pm.length_eq, List.length_map, Array.length_toList]; exact fits_of_scanBound hs.few
 have hend : ∀ (h2 : Heap) (c2 : Nat), (∀ b o, b ≠ s.heap.objs.size -> h1.get? b = some o -> h2.get? b = some o) -> h2.get? s.heap.objs.size = some { cls := .type "list", data := .seq #[] c2 } -> codeAny (model prog w) A (.builtin "list.extend.loop" ⟨[.ref s.heap.objs.size, .ref I, .ref s.heap.objs.size], []⟩) (fun r s' => match r with
   | .ok (.ret (.ref a)) => a = s.heap.objs.size /\ ∃ acc c, s'.heap.get? s.heap.objs.size = some { cls := .type "list", dict := none, data := .seq acc c, slots := #[] } /\ Q acc.toList s'
   | _ => False) { s with heap := h2, drawn := d } := by
  intro h2 c2 k2 g2
  refine codeAny_extend_loopS W.toS hn _ hSf _ vs.length 0 _ #[] _ rfl (Nat.zero_le _) (W.frame 0 _ _ st fun b q o z => k2 b o (fun y => hSf (y ▸ q)) z) g2 (ItemsOf.nil _) fun s' acc c hm hS' hacc => ?_
  refine ⟨rfl, acc, c, hS', ?_⟩
  have ea : acc.toList = vs := by
   apply List.ext_getElem?
   intro j
   rcases Nat.lt_or_ge j acc.size with z | z
   ·have := hacc.2 j _ (Array.getElem?_eq_getElem z)
    rw [this, Array.getElem?_toList, Array.getElem?_eq_getElem z]
   ·rw [List.getElem?_eq_none (by simpa using z), List.getElem?_eq_none (by rw [<- hacc.1]; exact z)]
  obtain ⟨h', g', d', tk', os'⟩ := s'
  have eg : g' = s.gens := hm.gens
  have ed : d' = d := hm.drawn
  have eo : os' = s.os := hm.os
  subst eg; subst ed; subst eo
  rw [ea]
  refine h h' tk' d' vs (fun b u z => hm.heap b u (fun q => ?_) (k2 b u (Nat.ne_of_lt (Heap.lt_size z)) (k1 b u (k0 b u z)))) (Nat.le_of_lt (Heap.lt_size hS')) ((pm.map kOf).trans ?_) fun v hv => ?_
  ·have := Heap.lt_size z
   rcases List.mem_cons.mp q with q | q
   ·exact absurd q (Nat.ne_of_lt this)
   ·rw [List.mem_singleton] at q
    rw [n0] at f2
    exact absurd q (Nat.ne_of_lt (Nat.lt_of_lt_of_le this (Nat.le_of_succ_le f2)))
  ·rw [List.map_map]
   exact hs.pm
  ·obtain ⟨e, he, rfl⟩ := List.mem_map.mp (pm.mem_iff.mp hv)
   obtain ⟨u, hu⟩ := el_int hs.el he
   exact ⟨_, u, hu⟩
 have g1 := k1 _ _ g0
 rw [if_pos (by decide)]
 refine wpAny_bind (wpAny_rule (wpAny_bind ?_))
 show wpAny _ _ (updateSeq s.heap.objs.size (·.push .none) >>= fun _ => updateSeq s.heap.objs.size (·.pop)) _ _ _
 refine wpAny_bind (wpAny_updateSeq g1 rfl ?_)
 have g2 := Heap.get?_update_self (Obj.mapSeq (·.push Value.none)) g1 rfl
 refine wpAny_updateSeq (hz := by seq_fits) g2 rfl ?_
 have g3 := Heap.get?_update_self (Obj.mapSeq (·.pop)) g2 rfl
 refine wpAny_pure ⟨plainId_quiet PySem.F.plain_extend_loop _, codeAny_mono (hend _ _ (fun b o hb z => (Heap.get?_update_other _ _ (Ne.symm hb)).trans ((Heap.get?_update_other _ _ (Ne.symm hb)).trans z)) g3) fun r s' hr => ?_⟩
 match r, hr with
 | .ok (.ret (.ref a)), hr =>
  obtain ⟨rfl, acc, c, e1, e2⟩ := hr
  exact wpAny_bind (wpAny_load e1 (wpAny_pure e2))
end
end TS
namespace TS
open PySem PySem.W PyProof.Rows
section
variable {prog : Program} {w : World} {A : Around} {E : Value -> Shared -> Prop} {s : Shared}
def ltI (x y : Value) : Bool := decide (kOf x < kOf y)
theorem good_i : Good prog w A E oneType' (fun x => ∃ k t, x.1 = Value.int k t) (fun x y => ltI x.1 y.1) s := by
 intro x y st Q hx hy hk hq
 rw [lt'_eq]
 refine kasC_bind (kasC_get (kasC_bind (kasC_lift (wpAny_attempt ?_))))
 rw [hk]
 obtain ⟨x1, x2⟩ := x
 obtain ⟨y1, y2⟩ := y
 obtain ⟨k, t, rfl⟩ := hx
 obtain ⟨k', t', rfl⟩ := hy
 exact kat_lt_int (E := _) (kasC_pure hq)
theorem tot_i : Tot (fun x : Keyed => ∃ k t, x.1 = Value.int k t) (fun x y => ltI x.1 y.1) :=
 ⟨fun x y z _ _ _ h1 h2 => by unfold ltI at *; rw [decide_eq_false_iff_not] at *; omega, fun x y _ _ h => by unfold ltI at *; rw [decide_eq_true_eq] at h; rw [decide_eq_false_iff_not]; omega⟩
theorem q513 : ∀ (vs : List Value), AllI vs -> IntsAre vs (vs.map kOf)
 | [], _ => .nil
 | v :: vs, h => by
  obtain ⟨k, t, rfl⟩ := h v (.head _)
  exact .cons k t (q513 vs fun u hu => h u (.tail _ hu))
end
end TS
namespace L2
open PySem PySem.Spec PyProof.Rows
theorem bt_set : bootBuiltins "set" = some (.type "set") := by decide +kernel
section
variable {X : Cx}
theorem Inv.draw {pins : List (Addr × Obj)} {σ : St} {H : Hp} {s : Shared} (I : Inv X pins σ H s) (d : Drawn) : Inv X pins σ H { s with drawn := d } :=
 ⟨I.ok, I.os, I.bare, I.base, I.loc, I.cell, I.free, I.freeC, I.pin, I.hok, I.len⟩
theorem q617 (hc : X.calm = true) {K : PySem.W.Frag} {P : Program} {w : World} (hK : X.K = K) (hP : X.prog = P) (hw : X.w = w) : CallR X (.type "set") (fun xs H Q => ∃ (p : Addr) (ns : List Int), xs = [.ref p] /\ SqL K H p (ns.map V.int) /\ ns.length <= 1000 /\
  ∀ r, H r = none -> Q (.ref r) (upd H r (.ext fun h => TS.SetI P w h r (ns.foldl TS.stD [])))) := by
 subst hK; subst hP; subst hw
 intro pins s σ H xs us Q I r h
 obtain ⟨p, ns, rfl, hq, hn, q⟩ := h
 obtain ⟨u, rfl, rx⟩ := vals1 r
 cases rx
 obtain ⟨its, r', pl, hz⟩ := I.list hq
 have hi := q77 r'
 have hl : its.length = ns.length := IntsAre.length hi
 refine TS.q682 (I.ok.hd hc) pl.isList (by simpa using hi) (by rw [List.size_toArray, hl]; unfold scanBound; omega) fun h' tk hS hk => ?_
 refine ⟨.ref s.heap.objs.size, _, I.laid (t' := tk) (o := .ext fun h => TS.SetI X.prog X.w h s.heap.objs.size (ns.foldl TS.stD [])) hk (Nat.le_refl _) ?_, rfl, q _ (I.hok.fresh (Nat.le_refl _))⟩
 obtain ⟨o, es, ep, t, ho, hs⟩ := id hS
 exact ⟨hS, ⟨o, ho⟩, fun h1 h2 ⟨o', es', ep', t', ho', hs'⟩ kp => ⟨o', es', ep', t', kp _ ho', hs'⟩⟩
theorem q514 : ∀ (vs : List Value), TS.AllI vs -> Vals ((vs.map TS.kOf).map V.int) vs
 | [], _ => .nil
 | v :: vs, h => by
  obtain ⟨k, t, rfl⟩ := h v (.head _)
  exact .cons ⟨t, rfl⟩ (q514 vs fun u hu => h u (.tail _ hu))
end
end L2
namespace RV
open PySem PyProof.Rows
theorem q372 : Manifest.owners.lookup (String.ofList ['d', 'e', 's', 'r', 'e', 'v', 'e', 'r'].reverse) = some Manifest.sig_reversed := by kernel_rfl
theorem q159 : Slot "reversed" "__next__" "reversed.__next__" :=
 .of (owner := "reversed") (n := "__next__") (by rw [typeLookup_type, builtinLookup_eq_fast]; kernel_rfl) (by decide +kernel) (by decide +kernel) (by decide +kernel)
  (by first | exact .inl (by decide +kernel) | exact .inr (by decide +kernel)) (by rw [isSubtype_type]; kernel_rfl)
theorem q347 : entryFor table "reversed.__next__" = some Builtin.«reversed.__next__» := entryFor_of_tree (by kernel_rfl)
theorem q418 (a : Value) : argsOk "reversed.__next__" ⟨[a], []⟩ := by
 unfold argsOk; rw [signature?_of (id := "reversed.__next__") (n := ['_', '_', 't', 'x', 'e', 'n', '_', '_']) (o := ['d', 'e', 's', 'r', 'e', 'v', 'e', 'r']) (by kernel_rfl) q372]; kernel_rfl
theorem q419 : Slot "reversed" "__iter__" "reversed.__iter__" :=
 .of (owner := "reversed") (n := "__iter__") (by rw [typeLookup_type, builtinLookup_eq_fast]; kernel_rfl) (by decide +kernel) (by decide +kernel) (by decide +kernel)
  (by first | exact .inl (by decide +kernel) | exact .inr (by decide +kernel)) (by rw [isSubtype_type]; kernel_rfl)
theorem q465 : typeLookup (.type "tuple") "__reversed__" = pure none := by rw [typeLookup_type, builtinLookup_eq_fast]; kernel_rfl
section
variable {prog : Program} {w : World} {A : Around} {E : Value -> Shared -> Prop} {s : Shared}
def rvObj (l : Addr) (i : Int) : Obj := { cls := .type "reversed", data := .fields #[.ref l, rawInt i] }
def IsRv (h : Heap) (a l : Addr) (i : Int) : Prop := ∃ o, h.get? a = some o /\ o.cls = .type "reversed" /\ o.data = .fields #[.ref l, rawInt i]
theorem IsRv.typeIs {a l : Addr} {i : Int} (x : IsRv s.heap a l i) : s.TypeIs (.ref a) "reversed" := let ⟨o, ho, hc, _⟩ := x; ⟨o, ho, hc⟩
theorem code_new {l : Addr} {items : Array Value} {Q₁ : Value -> Shared -> Prop} (hl : s.heap.IsTuple l items) (hz : items.size <= 1000)
  (h : ∀ tk, Q₁ (.ref s.heap.objs.size) { s with heap := s.heap.push (rvObj l ((items.size : Int) - 1)), toks := tk }) :
  codeAny (model prog w) A (.call (.builtin "reversed.__new__") ⟨[.type "reversed", .ref l], []⟩) (wants Q₁ E) s := by
 refine codeAny_of_tree ?_
 show wpAny _ A.in1 (do checkBuiltinCall "reversed.__new__" ⟨[.type "reversed", .ref l], []⟩; again (.builtin "reversed.__new__" ⟨[.type "reversed", .ref l], []⟩)) _ _ s
 refine wpAny_bind (wpAny_of_eq (F.newCall_reversed_1 _) (wpAny_pure ⟨plainId_quiet F.plain_reversed_new _, codeAny_builtin F.entry_reversed_new ?_⟩))
 rw [Around.under_plainId F.plain_reversed_new _]
 unfold Builtin.«reversed.__new__»
 refine wpAny_bind (wpAny_of_eq (newClass_reversed _) ?_)
 try dsimp only
 refine wpAny_bind (wpAny_of_eq (a := ()) (by first | rfl | kernel_rfl) ?_)
 refine wpAny_bind (wpAny_of_eq (a := ()) (by first | rfl | kernel_rfl) ?_)
 try dsimp only
 refine wpAny_bind (wpAny_specialOf hl.typeIs q465 ?_)
 try dsimp only
 refine wpAny_bind (wpAny_bind (wpAny_isInstance (T := "tuple") (b := false) hl.typeIs (by rw [isSubtype_type]; kernel_rfl) ?_))
 try dsimp only
 rw [if_neg fnt]
 refine wpAny_bind (wpAny_specialOf hl.typeIs F.slot_tuple_getitem.lookup ?_)
 try dsimp only
 rw [if_pos (show (["tuple.__getitem__", "str.__getitem__", "bytes.__getitem__", "bytearray.__getitem__", "memoryview.__getitem__", "numpy.ndarray.__getitem__", "sqlite3.Row.__getitem__"].contains "tuple.__getitem__") = true by decide +kernel)]
 refine wpAny_pure ?_
 rw [if_neg (by decide)]
 obtain ⟨o, ho, hc, n, hd⟩ := id hl
 refine wpAny_bind (PyProof.Rows.len_tuple ⟨o, ho, hc, n, hd⟩ (by omega) ?_)
 refine wpAny_bind (m := asInt? _) (wpAny_pure ?_)
 try dsimp only
 refine wpAny_bind ?_
 show wpAny _ _ (newObj (.type "reversed") (.fields #[.ref l, rawInt ((items.size : Int) - 1)])) _ _ _
 exact wpAny_newObj_type (wpAny_pure (h _))
theorem q618 {it l : Addr} {i : Nat} {items : Array Value} {x : Value} {Q : Option Value -> Shared -> Prop} (hit : IsRv s.heap it l (i : Int)) (hl : s.heap.IsTuple l items) (hz : items.size <= 1000) (hx : items[i]? = some x)
  (hQ : ∀ h' tk, IsRv h' it l ((i : Int) - 1) -> Heap.SameBut it s.heap h' -> Q (some x) { s with heap := h', toks := tk }) : wpAny (model prog w) A (pyNext (.ref it)) Q E s := by
 obtain ⟨o, ho, hc, hd⟩ := id hit
 unfold pyNext
 refine wpAny_bind (wpAny_attempt (wpAny_callSpecial?_slot (name := Str.ofString "__next__") hit.typeIs q159
  (wpAny_call_entry q159 hit.typeIs q347 ?_ (q418 _))))
 unfold Builtin.«reversed.__next__»
 refine wpAny_bind (wpAny_of_eq (a := (Value.ref it, [])) rfl ?_)
 try dsimp only
 refine wpAny_bind (wpAny_field ho hd (x := .ref l) rfl ?_)
 refine wpAny_bind (wpAny_field ho hd (x := rawInt (i : Int)) rfl ?_)
 show wpAny _ _ (if (i : Int) < 0 then _ else _) _ _ s
 rw [if_neg (by omega)]
 refine wpAny_bind (wpAny_specialOf hl.typeIs F.slot_tuple_getitem.lookup ?_)
 try dsimp only
 rw [if_neg (by decide)]
 obtain ⟨ol, hol, hcl, nl, hdl⟩ := id hl
 refine wpAny_bind (wpAny_mkInt ?_)
 have hi : i < items.size := (Array.getElem?_eq_some_iff.mp hx).1
 refine wpAny_bind (wpAny_attempt (PyProof.Rows.getItem_tuple (j := i) ⟨ol, hol, hcl, nl, hdl⟩ (by omega) (by omega) ?_ hx ?_))
 ·unfold seqIndex?
  simp
  omega
 try dsimp only
 refine wpAny_bind (wpAny_field ho hd (x := rawInt (i : Int)) rfl ?_)
 show wpAny _ _ (setField (Value.ref it) 1 (rawInt ((i : Int) - 1)) >>= _) _ _ _
 refine wpAny_bind (wpAny_setField ho hd (by simp) ?_)
 refine wpAny_pure ⟨x, rfl, wpAny_pure (hQ _ _ ?_ (Heap.SameBut.update ..))⟩
 exact ⟨_, Heap.get?_update_self _ ho (Obj.isFreed_of_fields (Obj.data_mapFields hd _)), (Obj.cls_mapFields ..).trans hc, by
  rw [Obj.data_mapFields hd]; simp⟩
theorem stop_rv {α : Type} (hh : A.handled = none) {Q : α -> Shared -> Prop} {E' : Value -> Shared -> Prop} (h : ∀ (h' : Heap) (e : Addr), (∀ b o, s.heap.get? b = some o -> h'.get? b = some o) -> (∃ o, h'.get? e = some o /\ o.cls = .type "StopIteration") -> E' (.ref e) { s with heap := h' }) :
  wpAny (model prog w) A (Builtin.SmallTypes.stopIteration : Sem α) Q E' s := by
 unfold Builtin.SmallTypes.stopIteration
 refine wpAny_bind ?_
 simp only [newExc, newTuple]
 refine wpAny_bind (wpAny_newObj_type ?_ (by size_fits))
 refine wpAny_bind (m := firstArgMember _ _) (wpAny_of_eq (a := Value.none) (by first | rfl | (simp only [firstArgMember]; rfl)) ?_)
 refine wpAny_newObj_type ?_ (by size_fits)
 simp only [raiseNew]
 refine wpAny_bind (wpAny_handled ?_)
 rw [hh]
 exact wpAny_bind (wpAny_pure (wpAny_throw (h _ _ (fun b o e => Heap.get?_push_of_some _ (Heap.get?_push_of_some _ e)) ⟨_, Heap.get?_push_size _ rfl, rfl⟩)))
theorem q619 {it l : Addr} {Q : Option Value -> Shared -> Prop} (hh : A.handled = none) (hit : IsRv s.heap it l (-1)) (hQ : ∀ h', (∀ b o, b ≠ it -> s.heap.get? b = some o -> h'.get? b = some o) -> Q none { s with heap := h' }) : wpAny (model prog w) A (pyNext (.ref it)) Q E s := by
 obtain ⟨o, ho, hc, hd⟩ := id hit
 unfold pyNext
 refine wpAny_bind (wpAny_attempt (wpAny_callSpecial?_slot (name := Str.ofString "__next__") hit.typeIs q159
  (wpAny_call_entry q159 hit.typeIs q347 ?_ (q418 _))))
 unfold Builtin.«reversed.__next__»
 refine wpAny_bind (wpAny_of_eq (a := (Value.ref it, [])) rfl ?_)
 try dsimp only
 refine wpAny_bind (wpAny_field ho hd (x := .ref l) rfl ?_)
 refine wpAny_bind (wpAny_field ho hd (x := rawInt (-1)) rfl ?_)
 show wpAny _ _ (if (-1 : Int) < 0 then _ else _) _ _ s
 rw [if_pos (by decide)]
 refine wpAny_bind (wpAny_rule (wpAny_bind ?_))
 show wpAny _ _ (setField (Value.ref it) 1 (rawInt (-1)) >>= fun _ => setField (Value.ref it) 0 .none) _ _ _
 refine wpAny_bind (wpAny_setField ho hd (by simp) ?_)
 have ho2 := Heap.get?_update_self (Obj.mapFields (·.setIfInBounds 1 (rawInt (-1)))) ho (Obj.isFreed_of_fields (Obj.data_mapFields hd _))
 refine wpAny_setField ho2 (Obj.data_mapFields hd _) (by simp) ?_
 refine wpAny_bind (stop_rv (A := A.in1) (show A.in1.handled = none from hh) fun h' e kp he => ?_)
 obtain ⟨u, hu, hcu⟩ := he
 refine wpAny_bind (wpAny_isInstance (T := "StopIteration") (b := true) ⟨u, hu, hcu⟩ isSubtype_stop (wpAny_pure (hQ h' fun b o hb e => kp b o ?_)))
 exact ((Heap.SameBut.update ..).2 b hb).trans (((Heap.SameBut.update ..).2 b hb).trans e)
theorem q620 {it l : Addr} {i : Int} {Q : Value -> Shared -> Prop} (hit : IsRv s.heap it l i) (h : Q (.ref it) s) : wpAny (model prog w) A (pyIter (.ref it)) Q E s := by
 refine wpAny_pyIter_slot hit.typeIs q419 (wpAny_call_entry (b := Builtin.«dict_keyiterator.__iter__») q419 hit.typeIs (entryFor_alias (id' := "dict_keyiterator.__iter__") (by kernel_rfl) rfl (by decide +kernel) (by kernel_rfl)) ?_ ?_)
 ·exact wpAny_pure ⟨_, rfl, "reversed", _, hit.typeIs, q159.lookup, h⟩
 ·unfold argsOk; rw [signature?_of (id := "reversed.__iter__") (n := ['_', '_', 'r', 'e', 't', 'i', '_', '_']) (o := ['d', 'e', 's', 'r', 'e', 'v', 'e', 'r']) (by kernel_rfl) q372]; kernel_rfl
theorem walk_rv (hh : A.handled = none) (I l : Addr) (hne : l ≠ I) (items : Array Value) (hz : items.size <= 1000) :
  Walks prog w A I [I, l] [I] items.size (fun i v => items.toList.reverse[i]? = some v) (fun i h => IsRv h I l ((items.size : Int) - 1 - i) /\ h.IsTuple l items) where
 sub := fun b hb => by simp at hb; simp [hb]
 frame := fun i h h' st hk => by
  obtain ⟨⟨o, ho, r⟩, ⟨u, hu, q⟩⟩ := st
  exact ⟨⟨o, hk I (by simp) _ ho, r⟩, ⟨u, hk l (by simp) _ hu, q⟩⟩
 item := fun i s Q E hi st hQ => by
  have e : ((items.size : Int) - 1 - i) = ((items.size - 1 - i : Nat) : Int) := by omega
  have h1 := st.1
  rw [e] at h1
  have hj : items.size - 1 - i < items.size := by omega
  refine q618 h1 st.2 hz (x := items[items.size - 1 - i]) (Array.getElem?_eq_getElem hj) fun h' tk hit' hs' => ?_
  refine hQ _ h' tk ?_ ⟨?_, ?_⟩ fun b o hb z => (hs'.2 b (fun q => hb (by simp [q]))).trans z
  ·rw [List.getElem?_reverse (by simpa using hi), Array.length_toList, Array.getElem?_toList, Array.getElem?_eq_getElem hj]
  ·have e2 : ((items.size : Int) - 1 - ((i + 1 : Nat) : Int)) = ((items.size - 1 - i : Nat) : Int) - 1 := by omega
   rw [e2]
   exact hit'
  ·obtain ⟨u, hu, q⟩ := st.2
   exact ⟨u, (hs'.2 l hne).trans hu, q⟩
 done := fun s Q E st hQ => by
  have h1 := st.1
  rw [show ((items.size : Int) - 1 - (items.size : Nat)) = -1 by omega] at h1
  exact q619 hh h1 fun h' kp => hQ h' s.toks fun b o hb z => kp b o (fun q => hb (by simp [q])) z
 self := fun i s Q E st hQ => q620 st.1 hQ
theorem q289 : Slot "reversed" "__length_hint__" "reversed.__length_hint__" :=
 .of (owner := "reversed") (n := "__length_hint__") (by rw [typeLookup_type, builtinLookup_eq_fast]; kernel_rfl) (by decide +kernel) (by decide +kernel) (by decide +kernel)
  (by first | exact .inl (by decide +kernel) | exact .inr (by decide +kernel)) (by rw [isSubtype_type]; kernel_rfl)
theorem q547 : entryFor table "reversed.__length_hint__" = some Builtin.«reversed.__length_hint__» := entryFor_of_tree (by kernel_rfl)
theorem no_len : typeLookup (.type "reversed") "__len__" = pure none := by rw [typeLookup_type, builtinLookup_eq_fast]; kernel_rfl
theorem q621 (a : Value) : argsOk "reversed.__length_hint__" ⟨[a], []⟩ := by
 unfold argsOk; rw [signature?_of (id := "reversed.__length_hint__") (n := ['_', '_', 't', 'n', 'i', 'h', '_', 'h', 't', 'g', 'n', 'e', 'l', '_', '_']) (o := ['d', 'e', 's', 'r', 'e', 'v', 'e', 'r']) (by kernel_rfl) q372]; kernel_rfl
theorem q622 {I l : Addr} {items : Array Value} {Q : Value -> Shared -> Prop} (hit : IsRv s.heap I l ((items.size : Int) - 1)) (hl : s.heap.IsTuple l items) (hz : items.size <= 1000) (h : ∀ tk t, Q (.int (items.size : Int) t) { s with toks := tk }) :
  wpAny (model prog w) A (call (.builtin "reversed.__length_hint__") [.ref I]) Q E s := by
 obtain ⟨o, ho, hc, hd⟩ := id hit
 refine wpAny_call_entry q289 hit.typeIs q547 ?_ (q621 _)
 unfold Builtin.«reversed.__length_hint__»
 refine wpAny_bind (wpAny_of_eq (a := Value.ref I) rfl ?_)
 refine wpAny_bind (wpAny_field ho hd (x := .ref l) rfl ?_)
 rw [if_neg (show ¬ ((Value.ref l == Value.none) = true) from fnt)]
 refine wpAny_bind (PyProof.Rows.len_tuple hl (by omega) ?_)
 refine wpAny_bind (m := asInt? _) (wpAny_pure ?_)
 try dsimp only
 refine wpAny_bind (wpAny_field (s := { s with toks := _ }) ho hd (x := rawInt ((items.size : Int) - 1)) rfl ?_)
 show wpAny _ _ (if (items.size : Int) < (items.size : Int) - 1 + 1 then _ else retInt ((items.size : Int) - 1 + 1)) _ _ _
 rw [if_neg (by omega), show (items.size : Int) - 1 + 1 = (items.size : Int) by omega]
 exact wpAny_bind (wpAny_mkInt (wpAny_pure ⟨_, rfl, h _ _⟩))
theorem q548 {I l : Addr} {items : Array Value} {Q : List Value -> Shared -> Prop} (hh : A.handled = none) (hit : IsRv s.heap I l ((items.size : Int) - 1)) (hl : s.heap.IsTuple l items) (hne : l ≠ I) (hz : items.size <= 1000)
  (h : ∀ (h' : Heap) (tk : Nat), (∀ b o, b ≠ I -> s.heap.get? b = some o -> h'.get? b = some o) -> s.heap.objs.size <= h'.objs.size -> Q items.toList.reverse { s with heap := h', toks := tk }) : wpAny (model prog w) A (collect (.ref I)) Q E s := by
 obtain ⟨oI, hoI, hcI, hdI⟩ := id hit
 obtain ⟨ol, hol, rl⟩ := id hl
 unfold collect
 refine wpAny_bind (wpAny_runValue (codeAny_builtin PySem.F.entry_proto_collect ?_))
 rw [Around.under_plainId PySem.F.plain_proto_collect _]
 show wpAny _ A.in1 (newList [] >>= fun l => again (.builtin "list.__iadd__" ⟨[l, .ref I], []⟩)) _ _ s
 refine wpAny_bind (wpAny_newObj_type (wpAny_pure ⟨plainId_quiet PySem.F.plain_list_iadd _, codeAny_builtin PySem.F.entry_list_iadd ?_⟩))
 rw [Around.under_plainId PySem.F.plain_list_iadd _]
 generalize e0 : s.heap.push { cls := .type "list", data := .seq ([] : List Value).toArray } = h0
 have g0 : h0.get? s.heap.objs.size = some { cls := .type "list", data := .seq ([] : List Value).toArray } := by rw [<- e0]; exact Heap.get?_push_size _ rfl
 have k0 : ∀ b o, s.heap.get? b = some o -> h0.get? b = some o := fun b o z => by rw [<- e0]; exact Heap.get?_push_of_some _ z
 have hit0 : IsRv h0 I l ((items.size : Int) - 1) := ⟨oI, k0 _ _ hoI, hcI, hdI⟩
 have hl0 : h0.IsTuple l items := ⟨ol, k0 _ _ hol, rl⟩
 have hIl : I < s.heap.objs.size := Heap.lt_size hoI
 have hll : l < s.heap.objs.size := Heap.lt_size hol
 have h1 : Builtin.List.listSameRef (.ref s.heap.objs.size) (.ref I) = false := by simp [Builtin.List.listSameRef, Nat.ne_of_gt hIl]
 have hT : Shared.TypeIs { s with heap := h0 } (.ref I) "reversed" := ⟨oI, k0 _ _ hoI, hcI⟩
 show wpAny _ A.in1 (Builtin.List.listExtendWith (.ref s.heap.objs.size) (.ref I) (.ref s.heap.objs.size)) _ _ _
 unfold Builtin.List.listExtendWith
 refine wpAny_bind (wpAny_typeOf hT ?_)
 rw [if_neg (by rw [h1]; decide)]
 refine wpAny_bind (q620 (s := { s with heap := h0 }) hit0 ?_)
 have W := walk_rv (prog := prog) (w := w) (A := A.in1) (show A.in1.handled = none from hh) I l hne items hz
 have hn : items.size <= sizeLine := by rw [sizeLine_eq]; omega
 have hSf : s.heap.objs.size ∉ [I, l] := fun z => by
  rcases List.mem_cons.mp z with q | q
  ·exact absurd q (Nat.ne_of_gt hIl)
  ·exact absurd (List.mem_singleton.mp q) (Nat.ne_of_gt hll)
 have hend : ∀ (h2 : Heap) (c2 tk2 : Nat), (∀ b o, b ≠ s.heap.objs.size -> h0.get? b = some o -> h2.get? b = some o) -> h2.get? s.heap.objs.size = some { cls := .type "list", data := .seq #[] c2 } -> codeAny (model prog w) A (.builtin "list.extend.loop" ⟨[.ref s.heap.objs.size, .ref I, .ref s.heap.objs.size], []⟩) (fun r s' => match r with
   | .ok (.ret (.ref a)) => a = s.heap.objs.size /\ ∃ acc c, s'.heap.get? s.heap.objs.size = some { cls := .type "list", dict := none, data := .seq acc c, slots := #[] } /\ Q acc.toList s'
   | _ => False) { s with heap := h2, toks := tk2 } := by
  intro h2 c2 tk2 k2 g2
  have st : IsRv h2 I l ((items.size : Int) - 1 - (0 : Nat)) /\ h2.IsTuple l items := by
   rw [show (items.size : Int) - 1 - (0 : Nat) = (items.size : Int) - 1 by omega]
   exact ⟨⟨oI, k2 _ _ (Nat.ne_of_lt hIl) (k0 _ _ hoI), hcI, hdI⟩, ⟨ol, k2 _ _ (Nat.ne_of_lt hll) (k0 _ _ hol), rl⟩⟩
  refine codeAny_extend_loopS W.toS hn _ hSf _ items.size 0 _ #[] _ rfl (Nat.zero_le _) st g2 (ItemsOf.nil _) fun s' acc c hm hS' hacc => ?_
  refine ⟨rfl, acc, c, hS', ?_⟩
  have ea : acc.toList = items.toList.reverse := by
   apply List.ext_getElem?
   intro j
   rcases Nat.lt_or_ge j acc.size with z | z
   ·rw [hacc.2 j _ (Array.getElem?_eq_getElem z), Array.getElem?_toList, Array.getElem?_eq_getElem z]
   ·rw [List.getElem?_eq_none (by simpa using z), List.getElem?_eq_none (by rw [List.length_reverse, Array.length_toList, <- hacc.1]; exact z)]
  obtain ⟨h', g', d', tk', os'⟩ := s'
  have eg : g' = s.gens := hm.gens
  have ed : d' = s.drawn := hm.drawn
  have eo : os' = s.os := hm.os
  subst eg; subst ed; subst eo
  rw [ea]
  refine h h' tk' (fun b u hb z => hm.heap b u (fun q => ?_) (k2 b u (Nat.ne_of_lt (Heap.lt_size z)) (k0 b u z))) (Nat.le_of_lt (Heap.lt_size hS'))
  rcases List.mem_cons.mp q with q | q
  ·exact absurd q (Nat.ne_of_lt (Heap.lt_size z))
  ·exact hb (List.mem_singleton.mp q)
 refine wpAny_bind (wpAny_holding ?_)
 unfold Builtin.List.listLengthHint
 refine wpAny_bind (wpAny_specialOf hT no_len ?_)
 show wpAny _ A.in1 (specialOf (Value.ref I) (Str.ofString "__length_hint__") >>= _) _ _ _
 refine wpAny_bind (wpAny_specialOf hT q289.lookup ?_)
 generalize hid : ("reversed.__length_hint__" : String) = id0
 wp_delta
 rw [show splitId id0 = some ("reversed", "__length_hint__") from by subst hid; decide +kernel]
 subst hid
 refine wpAny_bind (wpAny_isInstance (T := "reversed") (b := true) hT (by rw [isSubtype_type]; kernel_rfl) ?_)
 refine wpAny_ite_split (fun z => absurd z (by decide)) (fun _ => ?_)
 refine wpAny_ite_split (fun z => absurd z (by decide +kernel)) (fun _ => ?_)
 refine wpAny_bind (wpAny_rule ?_)
 refine wpAny_bind (wpAny_of_eq (q289.bind (.ref I)) ?_)
 refine wpAny_bind (wpAny_attempt (q622 (s := { s with heap := h0 }) hit0 hl0 hz fun tk t => ?_))
 generalize hn' : (items.size : Int) = n
 show wpAny _ _ (asInt? (.int n t) >>= _) _ _ _
 refine wpAny_bind (wpAny_of_eq (a := some n) rfl ?_)
 show wpAny _ _ (if (!Builtin.List.listFitsIndex n) = true then _ else if n < 0 then _ else if Builtin.List.listTooLong n.toNat = true then _ else pure (n != 0)) _ _ _
 rw [if_neg (by rw [fitsIndex_both (by omega) (by omega)]; decide), if_neg (by omega), if_neg (by simp [Builtin.List.listTooLong, sizeLine_eq]; omega)]
 refine wpAny_pure ?_
 have fin : ∀ (r : Result) (s' : Shared), (match r with
   | .ok (.ret (.ref a)) => a = s.heap.objs.size /\ ∃ acc c, s'.heap.get? s.heap.objs.size = some { cls := .type "list", dict := none, data := .seq acc c, slots := #[] } /\ Q acc.toList s'
   | _ => False) -> wants (fun v s' => wpAny (model prog w) A (match v with | .ref a => (do match (<- load a).data with | .seq xs _ => pure xs.toList | _ => unsupported "internal:collect") | _ => unsupported "internal:collect") Q E s') E r s' := fun r s' hr => by
  match r, hr with
  | .ok (.ret (.ref a)), hr =>
   obtain ⟨rfl, acc, c, e1, e2⟩ := hr
   exact wpAny_bind (wpAny_load e1 (wpAny_pure e2))
 refine wpAny_ite_split (fun _ => ?_) (fun _ => wpAny_pure ⟨plainId_quiet PySem.F.plain_extend_loop _, codeAny_mono (hend h0 0 tk (fun b o _ z => z) g0) fin⟩)
 refine wpAny_bind (wpAny_rule (wpAny_bind ?_))
 show wpAny _ _ (updateSeq s.heap.objs.size (·.push .none) >>= fun _ => updateSeq s.heap.objs.size (·.pop)) _ _ _
 refine wpAny_bind (wpAny_updateSeq g0 rfl ?_)
 have g2 := Heap.get?_update_self (Obj.mapSeq (·.push Value.none)) g0 rfl
 refine wpAny_updateSeq (hz := by seq_fits) g2 rfl ?_
 have g3 := Heap.get?_update_self (Obj.mapSeq (·.pop)) g2 rfl
 exact wpAny_pure ⟨plainId_quiet PySem.F.plain_extend_loop _, codeAny_mono (hend _ _ tk (fun b o hb z => (Heap.get?_update_other _ _ (Ne.symm hb)).trans ((Heap.get?_update_other _ _ (Ne.symm hb)).trans z)) g3) fin⟩
theorem q623 : Slot "reversed" "__init__" "object.__init__" :=
 .of (owner := "object") (n := "__init__") (by rw [typeLookup_type, builtinLookup_eq_fast]; kernel_rfl) (by decide +kernel) (by decide +kernel) (by decide +kernel)
  (by first | exact .inl (by decide +kernel) | exact .inr (by decide +kernel)) (by rw [isSubtype_type]; kernel_rfl)
theorem q290 : TypeCalled "reversed" "reversed.__new__" "object.__init__" := ⟨by decide +kernel, by decide +kernel, ⟨_, _, F.mro_reversed⟩, F.made_reversed, by decide +kernel, F.sub_reversed_self, q623⟩
theorem call_rv {l : Addr} {items : Array Value} {Q : Value -> Shared -> Prop} (hl : s.heap.IsTuple l items) (hz : items.size <= 1000)
  (h : ∀ tk, Q (.ref s.heap.objs.size) { s with heap := s.heap.push (rvObj l ((items.size : Int) - 1)), toks := tk }) : wpAny (model prog w) A (call (.type "reversed") [.ref l]) Q E s := by
 refine callType_codes (Q₁ := fun obj s₁ => s₁.TypeIs obj "reversed" /\ Q obj s₁) q290 (F.typeCall_reversed_1 _) F.entry_object_init (code_new hl hz fun tk => ⟨⟨_, Heap.get?_push_size _ rfl, rfl⟩, h tk⟩) fun obj s₁ h₁ => ?_
 exact ⟨h₁.1, F.args_object_init_2 obj _, object_init_meets q290.init.lookup q290.made (by decide) prog w A.in1 _ s₁ ⟨h₁.1, rfl, h₁.2⟩⟩
theorem q677 {I l : Addr} {items : Array Value} {Q : Value -> Shared -> Prop} (hh : A.handled = none) (hit : IsRv s.heap I l ((items.size : Int) - 1)) (hl : s.heap.IsTuple l items) (hne : l ≠ I) (hz : items.size <= 1000)
  (h : ∀ (h' : Heap) (tk : Nat), (∀ b o, b ≠ I -> s.heap.get? b = some o -> h'.get? b = some o) -> s.heap.objs.size <= h'.objs.size -> Q (.ref h'.objs.size) { s with heap := h'.push { cls := .type "tuple", data := .seq items.toList.reverse.toArray }, toks := tk }) : wpAny (model prog w) A (call (.type "tuple") [.ref I]) Q E s := by
 refine callType_codes (Q₁ := fun obj s₁ => s₁.TypeIs obj "tuple" /\ Q obj s₁) F.called_tuple (F.typeCall_tuple_1 _) F.entry_object_init ?_ fun obj s₁ h₁ =>
  ⟨h₁.1, F.args_object_init_2 obj _, object_init_meets F.called_tuple.init.lookup F.called_tuple.made (by decide) prog w A.in1 _ s₁ ⟨h₁.1, rfl, h₁.2⟩⟩
 refine codeAny_of_tree ?_; show wpAny _ A.in1.in1 (do checkBuiltinCall "tuple.__new__" ⟨[.type "tuple", .ref I], []⟩; again (.builtin "tuple.__new__" ⟨[.type "tuple", .ref I], []⟩)) _ _ s
 refine wpAny_bind (wpAny_of_eq (F.newCall_tuple_1 _) (wpAny_pure ⟨plainId_quiet F.plain_tuple_new _, codeAny_builtin F.entry_tuple_new ?_⟩))
 rw [Around.under_plainId F.plain_tuple_new _]
 have c1 := sub_tuple_self
 have c2 := init_tuple_lookup
 have c3 := madeHere_tuple
 have hTI := hit.typeIs (s := s)
 wp_walk using wpAny_typeOf hTI, q548 (A := A.in1.in1) (show A.in1.in1.handled = none from hh) hit hl hne hz
 intro h' tk k1 k2
 show wpAny _ _ (Builtin.Tuple.tupleExact items.toList.reverse.toArray >>= fun v => ret v) _ _ _
 unfold Builtin.Tuple.tupleExact
 exact wpAny_bind (wpAny_newObj_type (wpAny_pure ⟨⟨_, Heap.get?_push_size _ rfl, rfl⟩, h h' tk k1 k2⟩) (by show items.toList.reverse.toArray.size <= sizeLine; simp; rw [sizeLine_eq]; omega))
end
end RV
namespace L2
open PySem PySem.Spec PyProof.Rows
theorem q466 : bootBuiltins "reversed" = some (.type "reversed") := by decide +kernel
theorem q624 : bootBuiltins "tuple" = some (.type "tuple") := by decide +kernel
section
variable {X : Cx}
def tTR (K : PySem.W.Frag) (ta : TA) : TE := fun σ H Q => ta σ H fun vs H1 => ∃ (a : Addr) (xs : List V), vs = [.ref a] /\ SqT K H1 a xs /\ xs.length <= 1000 /\ ∀ l H', Same H1 H' -> TupF H' l xs.reverse -> Q (.ref l) H'
theorem vals_rev {xs : List V} {us : List Value} (h : Vals xs us) : Vals xs.reverse us.reverse := by
 induction h with
 | nil => exact .nil
 | cons r rr ih =>
  rw [List.reverse_cons, List.reverse_cons]
  exact Vals.append ih (.cons r .nil)
theorem q625 {a : Expr} {ta : TA} {p p' pos pos' : Pos} {K : PySem.W.Frag} (hc : X.calm = true) (hK : X.K = K) (hgl : Gl X "tuple") (hml : X.mg "tuple" = none) (hgr : Gl X "reversed") (hmr : X.mg "reversed" = none) (ha : PA X [a] ta)
  (hs : starEach [a] X.env = [(false, eval a X.env)] := by rfl) (he : starEach [.Call (.Name "reversed" p') [a] [] pos'] X.env = [(false, eval (.Call (.Name "reversed" p') [a] [] pos') X.env)] := by rfl) :
  PE X (.Call (.Name "tuple" p) [.Call (.Name "reversed" p') [a] [] pos'] [] pos) (tTR K ta) := by
 subst hK
 intro pins s σ H Q I h
 refine wpAny_Call_Name_kw (q343 I hgl hml q624 ?_ (by decide) (by decide))
 refine PyProof.Rows.callWith_type1 ?_ he rfl
 rw [he]
 refine Calls.spliced_cons ?_
 refine Call_ (q343 I hgr hmr q466 (PyProof.Rows.callWith_type1 (thn (ha pos' pins s σ H _ I h) fun us s1 ⟨vs, H1, I1, r1, q1⟩ => ?_) hs rfl))
 obtain ⟨l, xs, e, hq, hz, q⟩ := q1
 subst e
 cases r1 with
 | cons r rr =>
  cases rr
  cases r
  obtain ⟨its, rv, ht, hzz⟩ := I1.tuple hq
  have hl : its.length = xs.length := rv.length.symm
  have hl2 : its.toArray.size <= 1000 := by rw [List.size_toArray, hl]; exact hz
  have hlt : l < s1.heap.objs.size := by
   obtain ⟨o, ho, _⟩ := id ht
   exact Heap.lt_size ho
  refine RV.call_rv ht hl2 fun tk => (Calls.spliced_nil ?_)
  have g0 : (s1.heap.push (RV.rvObj l ((its.toArray.size : Int) - 1))).get? s1.heap.objs.size = some (RV.rvObj l ((its.toArray.size : Int) - 1)) := Heap.get?_push_size _ rfl
  have n0 : (s1.heap.push (RV.rvObj l ((its.toArray.size : Int) - 1))).objs.size = s1.heap.objs.size + 1 := Heap.size_push ..
  have k0 : ∀ b o, s1.heap.get? b = some o -> (s1.heap.push (RV.rvObj l ((its.toArray.size : Int) - 1))).get? b = some o := fun b o z => Heap.get?_push_of_some _ z
  generalize s1.heap.push (RV.rvObj l ((its.toArray.size : Int) - 1)) = h0 at *
  have ht0 : h0.IsTuple l its.toArray := by
   obtain ⟨o, ho, z⟩ := id ht
   exact ⟨o, k0 _ _ ho, z⟩
  refine RV.q677 (s := { s1 with heap := h0, toks := tk }) (I1.ok.hd hc) ⟨_, g0, rfl, rfl⟩ ht0 (Nat.ne_of_lt hlt) hl2 fun h' tk' kp hsz => ?_
  have kk : ∀ b o, s1.heap.get? b = some o -> h'.get? b = some o := fun b o z => kp b o (Nat.ne_of_lt (Heap.lt_size z)) (k0 b o z)
  have hle : s1.heap.objs.size <= h'.objs.size := by
   have : h0.objs.size <= h'.objs.size := hsz
   omega
  have I2 : Inv X pins σ (upd H1 h'.objs.size (.frz { cls := .type "tuple", data := .seq its.reverse.toArray } (.tup xs.reverse))) { s1 with heap := h'.push { cls := .type "tuple", data := .seq its.reverse.toArray }, toks := tk' } :=
   I1.laid (t' := tk') (fun b o e => Heap.get?_push_of_some _ (kk b o e)) hle (show ObjOk X.prog X.w _ _ _ (.frz _ (.tup xs.reverse)) from ⟨Heap.get?_push_size _ rfl, by rw [List.length_reverse]; exact hzz, its.reverse, vals_rev rv, IsTup.new _ _⟩)
  exact ⟨.ref h'.objs.size, _, I2, rfl, q _ _ (q15 (I1.hok.fresh hle) _) ⟨_, q13, rfl, rfl⟩⟩
end
end L2
namespace L2
open PySem PySem.Spec PyProof.Rows
section
variable {X : Cx}
end
end L2
namespace L2
open PySem PySem.Spec PyProof.Rows
section
variable {X : Cx} {st : Stmt} {t : TS}
end
end L2
namespace L2
open PySem
end L2
namespace L2
open PySem PySem.Spec PyProof.Rows
section
variable {X : Cx}
end
end L2
namespace L2
open PySem PySem.Spec PyProof.Rows
section
variable {X : Cx}
theorem q626 : MtR X "list.count" (fun x xs H Q => ∃ a ys v, x = .ref a /\ xs = [v] /\ SqL X.K H a ys /\ flatV v = true /\ ys.all flatV = true /\ Q (.int (ys.countP fun y => eqV y v : Nat)) H) := by
 intro pins s σ H x xs v us Q I rx rv h
 obtain ⟨a, ys, y, rfl, rfl, ha, f1, f2, q⟩ := h
 cases rx
 obtain ⟨u, rfl, ru⟩ := rv.one
 obtain ⟨its, r, p, hz⟩ := I.list ha
 obtain ⟨⟨cls, dd, data, sl⟩, ho, hc, n, hd⟩ := id p.isList
 simp only at hc hd
 subst hc hd
 refine call_meets F.slot_list_count ⟨_, ho, rfl⟩ F.entry_list_count (F.args_list_count_2 _ _) (SeqAt.list_countAt a its.toArray n dd sl u (eqU y)) ⟨ho, fun z hz => q267 ru f1 r f2 z (by simpa using hz), ?_⟩
 refine ⟨.int (ys.countP fun y' => eqV y' y : Nat), H, I.tok _, ?_, q⟩
 rw [<- q233 r f2]
 exact ⟨_, rfl⟩
theorem q627 : MtR X "list.index" (fun x xs H Q => ∃ (a : Addr) (ys : List V) (v : V) (j : Nat), x = .ref a /\ xs = [v] /\ SqL X.K H a ys /\ flatV v = true /\ ys.all flatV = true /\ j < ys.length /\ j < 10 ^ 6 /\ eqV (ys.getD j .non) v = true /\ (∀ m, m < j -> eqV (ys.getD m .non) v = false) /\ Q (.int j) H) := by
 intro pins s σ H x xs v us Q I rx rv h
 obtain ⟨a, ys, y, j, rfl, rfl, ha, f1, f2, hj, hj6, hit, hno, q⟩ := h
 cases rx
 obtain ⟨u, rfl, ru⟩ := rv.one
 obtain ⟨its, r, p, hz⟩ := I.list ha
 obtain ⟨⟨cls, dd, data, sl⟩, ho, hc, n, hd⟩ := id p.isList
 simp only at hc hd
 subst hc hd
 have hl := r.length
 have at' : ∀ m (hm : m < its.toArray.size), eqU y its.toArray[m] = eqV (ys.getD m .non) y := fun m hm => by
  have hm' : m < ys.length := by rw [List.size_toArray] at hm; omega
  obtain ⟨v1, e1, r1⟩ := r.get (i := m) (x := ys[m]) (by simp [hm'])
  have g1 : its.toArray[m] = v1 := by
   have := List.getElem?_eq_some_iff.mp e1
   simpa using this.2
  have e2 : ys.getD m .non = ys[m] := by simp [List.getD_eq_getElem?_getD, hm']
  rw [g1, e2]
  exact q594 r1 (List.all_eq_true.mp f2 _ (List.getElem_mem hm'))
 have hj' : j < its.toArray.size := by rw [List.size_toArray]; omega
 refine call_meets F.slot_list_index ⟨_, ho, rfl⟩ F.entry_list_index (F.args_list_index_2 _ _) (SeqAt.list_indexAt a its.toArray n dd sl u (eqU y) j hj' (by omega) (by rw [at' j hj']; exact hit) (fun m hm hmj => by rw [at' m hm]; exact hno m hmj)) ⟨ho, fun z hz => q267 ru f1 r f2 z (by simpa using hz), ?_⟩
 exact ⟨.int (j : Int), H, I.tok _, ⟨_, rfl⟩, q⟩
end
end L2
namespace L2
open PySem PySem.Spec PyProof.Rows
section
variable {X : Cx} {K : PySem.W.Frag}
theorem q628 (ns : List Int) : (ns.map V.int).all flatV = true := by
 rw [List.all_eq_true]
 intro x hx
 obtain ⟨n, _, rfl⟩ := List.mem_map.mp hx
 rfl
theorem q348 (n : Int) : ∀ ns : List Int, (ns.map V.int).countP (fun y => eqV y (.int n)) = ns.count n
 | [] => rfl
 | m :: ns => by
  rw [List.map_cons, List.countP_cons, List.count_cons, q348 n ns]
  rfl
theorem q420 (h : X.K = K) : MtR X "list.count" (fun x xs H Q => ∃ (a : Addr) (ns : List Int) (n : Int), x = .ref a /\ xs = [.int n] /\ SqL K H a (ns.map V.int) /\ Q (.int ((ns.count n : Nat) : Int)) H) := by
 subst h
 intro pins s σ H x xs v us Q I rx rv h
 obtain ⟨a, ns, n, rfl, rfl, ha, q⟩ := h
 refine q626 pins s σ H _ _ v us Q I rx rv ⟨a, _, _, rfl, rfl, ha, rfl, q628 ns, ?_⟩
 rw [q348]
 exact q
end
end L2
namespace L2
open PySem PySem.Spec PyProof.Rows
section
variable {X : Cx}
end
end L2
namespace TS
open PySem PySem.W PyProof.Rows
section
variable {prog : Program} {w : World} {A : Around} {E : Value -> Shared -> Prop} {s : Shared}
end
end TS
namespace L2
open PySem PySem.Spec PyProof.Rows
def q93 (K : PySem.W.Frag) (H : Hp) (y : V) (u : TS.I2) : Prop := ∃ a, y = .ref a /\ SqT K H a [.int u.1, .int u.2]
section
variable {X : Cx}
theorem q515 {pins : List (Addr × Obj)} {σ : St} {H : Hp} {s : Shared} (I : Inv X pins σ H s) : ∀ {ys : List V} {us : List TS.I2} {its : List Value}, Paired (q93 X.K H) ys us -> Vals ys its ->
  (∀ v ∈ its, TS.TupI2 s.heap v (TS.tsOf2 s.heap v) /\ q93 X.K H (absR v) (TS.tsOf2 s.heap v) /\ RelV (absR v) v) /\ ys = its.map absR /\ us = its.map (TS.tsOf2 s.heap)
 | _, _, _, .nil, .nil => ⟨fun v hv => absurd hv (by simp), rfl, rfl⟩
 | _, _, _, .cons (a := y) (b := u) ht hp, .cons r rr => by
  obtain ⟨h1, h2, h3⟩ := q515 I hp rr
  obtain ⟨a, rfl, hq⟩ := ht
  cases r
  obtain ⟨its2, r1, p1, _⟩ := I.tuple hq
  obtain ⟨o, ho, hc, n, hd⟩ := id p1
  cases r1 with
  | cons q1 r1 =>
   cases r1 with
   | cons q2 r1 =>
    cases r1
    obtain ⟨t1, rfl⟩ := q1
    obtain ⟨t2, rfl⟩ := q2
    have tp : TS.TupI2 s.heap (.ref a) u := ⟨a, o, n, t1, t2, rfl, ho, hc, hd⟩
    have e := TS.tsOf2_eq tp
    refine ⟨fun v hv => ?_, by rw [List.map_cons, <- h2]; rfl, by rw [List.map_cons, <- h3, e]⟩
    rcases List.mem_cons.mp hv with z | z
    ·rw [z, e]
     exact ⟨tp, ⟨a, rfl, hq⟩, rfl⟩
    ·exact h1 v z
end
end L2
namespace L2
open PySem PySem.Spec PyProof.Rows
section
variable {X : Cx}
end
end L2
namespace TS
open PySem PySem.W PyProof.Rows
section
variable {P : Keyed -> Prop} {lt : Keyed -> Keyed -> Bool}
variable {prog : Program} {w : World} {A : Around} {E : Value -> Shared -> Prop} {κ : SortKind} {P : Keyed -> Prop} {lt : Keyed -> Keyed -> Bool}
theorem q421 {s : Shared} (G : Good prog w A E κ P lt s) (T : Tot P lt) {Q : Unit -> SortSt -> Shared -> Prop} {st : SortSt} (hst : kindOf st = κ) (hf : failedOf st = none) (hpd : pendingOf st = #[]) (hp : ∀ x ∈ (arrOf st).toList, P x) (hn : 1 <= (arrOf st).size) (h64 : (arrOf st).size < 64)
  (h : ∀ st' : SortSt, failedOf st' = none -> (arrOf st').Perm (arrOf st) -> Asc lt (arrOf st') 0 (arrOf st').size -> Q () st' s) : kasC (model prog w) A E sortRuns' Q st s := by
 have hmr : minRun' (arrOf st).size (arrOf st).size 0 = (arrOf st).size := by
  have z : ∀ n : Fin 64, minRun' n.val n.val 0 = n.val := by decide +kernel
  exact z ⟨_, h64⟩
 refine kasC_bind (kasC_get ?_)
 try dsimp only
 refine kasC_bind (q367 (fun t r st' s' => s' = s /\ kindOf st' = κ /\ failedOf st' = none /\ Loc (arrOf st) (arrOf st') 0 (arrOf st).size /\ ((t = 0 /\ r = (none, 0) /\ pendingOf st' = #[]) \/ (r = (none, (arrOf st).size) /\ (pendingOf st').size = 1 /\ Asc lt (arrOf st') 0 (arrOf st).size)))
  (fun r st' s' => s' = s /\ kindOf st' = κ /\ failedOf st' = none /\ Loc (arrOf st) (arrOf st') 0 (arrOf st).size /\ r = (none, (arrOf st).size) /\ (pendingOf st').size = 1 /\ Asc lt (arrOf st') 0 (arrOf st).size)
  ⟨rfl, hst, hf, Loc.refl _ _ _, .inl ⟨rfl, rfl, hpd⟩⟩ ?_ ?_ ?_)
 ·rintro r st' s' ⟨e1, e2, e3, e4, ⟨e5, _⟩ | e5⟩
  ·have e5' : (arrOf st).size = 0 := e5
   omega
  ·exact ⟨e1, e2, e3, e4, e5⟩
 ·rintro t x r st' s' ht ⟨rfl, k1, f1, L1, ⟨rfl, rfl, p1⟩ | ⟨rfl, p1, A1⟩⟩
  ·try dsimp only
   have hz1 := L1.size
   have hp1 := L1.good hp
   rw [if_neg (by omega)]
   refine kasC_bind (q609 G T k1 hp1 (show 0 + ((arrOf st).size - 0) <= (arrOf st').size by omega) (show 1 <= (arrOf st).size - 0 by omega) fun fo st₂ fo1 fo2' S2 L2' A2 => ?_)
   try dsimp only
   have fo2 : fo <= (arrOf st).size - 0 := fo2'
   have L2 : Loc (arrOf st') (arrOf st₂) 0 (0 + ((arrOf st).size - 0)) := L2'
   have L12 : Loc (arrOf st) (arrOf st₂) 0 (arrOf st).size := L1.trans (L2.wide (Nat.zero_le _) (by omega))
   have k2 : kindOf st₂ = κ := S2.1.trans k1
   have f2 : failedOf st₂ = none := S2.2.2.trans f1
   have p2 : pendingOf st₂ = #[] := S2.2.1.trans p1
   have hz2 := L12.size
   by_cases c2 : fo < minRun' (arrOf st).size (arrOf st).size 0
   ·refine c_iteT c2 ?_
    refine kasC_bind (kasC_lift (wpAny_rule ?_))
    refine kasC_bind (q461 G T k2 (L12.good hp) (show 0 + (min ((arrOf st).size - 0) (minRun' (arrOf st).size (arrOf st).size 0)) <= (arrOf st₂).size by omega) (show fo <= (min ((arrOf st).size - 0) (minRun' (arrOf st).size (arrOf st).size 0)) by omega) (show 1 <= (min ((arrOf st).size - 0) (minRun' (arrOf st).size (arrOf st).size 0)) by omega) A2 fun st₃ S3 L3' A3' => ?_)
    have L3 : Loc (arrOf st₂) (arrOf st₃) 0 (0 + (min ((arrOf st).size - 0) (minRun' (arrOf st).size (arrOf st).size 0))) := L3'
    have A3 : Asc lt (arrOf st₃) 0 (min ((arrOf st).size - 0) (minRun' (arrOf st).size (arrOf st).size 0)) := A3'
    have hmin : min ((arrOf st).size - 0) (minRun' (arrOf st).size (arrOf st).size 0) = (arrOf st).size := by omega
    rw [hmin] at A3 L3
    have kS : kindOf st₃ = κ := S3.1.trans k2
    have fS : failedOf st₃ = none := S3.2.2.trans f2
    have LS : Loc (arrOf st) (arrOf st₃) 0 (arrOf st).size := L12.trans (L3.wide (Nat.zero_le _) (by omega))
    have p3 : pendingOf st₃ = #[] := S3.2.1.trans p2
    refine c_iteF (by simp) ?_
    refine kasC_bind (kasC_get ?_)
    try dsimp only
    cases hb : (pendingOf st₃).back? with
    | some x =>
     rw [p3] at hb
     cases hb
    | none =>
    refine kasC_bind (kasC_modify (kasC_pure ⟨rfl, kS, fS, LS, .inr ⟨?_, ?_, A3⟩⟩))
    ·show ((none : Option Unit), 0 + min ((arrOf st).size - 0) (minRun' (arrOf st).size (arrOf st).size 0)) = _
     rw [hmin, Nat.zero_add]
    ·show ((pendingOf st₃).push _).size = 1
     rw [p3]
     rfl
   ·refine c_iteF c2 ?_
    have hfo : fo = (arrOf st).size := by omega
    refine kasC_bind (kasC_get ?_)
    try dsimp only
    cases hb : (pendingOf st₂).back? with
    | some x =>
     rw [p2] at hb
     cases hb
    | none =>
    have A2' : Asc lt (arrOf st₂) 0 fo := A2
    rw [hfo] at A2'
    refine kasC_bind (kasC_modify (kasC_pure ⟨rfl, k2, f2, L12, .inr ⟨?_, ?_, A2'⟩⟩))
    ·show ((none : Option Unit), 0 + fo) = _
     rw [hfo, Nat.zero_add]
    ·show ((pendingOf st₂).push _).size = 1
     rw [p2]
     rfl
  ·try dsimp only
   rw [if_pos (Nat.le_refl _)]
   exact kasC_pure ⟨rfl, k1, f1, L1, rfl, p1, A1⟩
 ·rintro r st' s' ⟨rfl, k1, f1, L1, rfl, p1, A1⟩
  try dsimp only
  refine kasC_bind (q367 (fun t r st₂ s₂ => s₂ = s' /\ r = (none, ()) /\ failedOf st₂ = none /\ Loc (arrOf st) (arrOf st₂) 0 (arrOf st).size /\ (pendingOf st₂).size = 1 /\ Asc lt (arrOf st₂) 0 (arrOf st).size)
   (fun r st₂ s₂ => s₂ = s' /\ r = (none, ()) /\ failedOf st₂ = none /\ Loc (arrOf st) (arrOf st₂) 0 (arrOf st).size /\ (pendingOf st₂).size = 1 /\ Asc lt (arrOf st₂) 0 (arrOf st).size)
   ⟨rfl, rfl, f1, L1, p1, A1⟩ (fun _ _ _ z => z) ?_ ?_)
  ·rintro t x r st₂ s₂ ht ⟨rfl, rfl, f2, L2, p2, A2⟩
   try dsimp only
   refine kasC_bind (kasC_get ?_)
   try dsimp only
   rw [if_pos (Nat.le_of_eq p2)]
   exact kasC_pure ⟨rfl, rfl, f2, L2, p2, A2⟩
  ·rintro r st₂ s₂ ⟨rfl, rfl, f2, L2, p2, A2⟩
   refine kasC_pure (h st₂ f2 L2.perm ?_)
   rw [L2.size]
   exact A2
end
section
variable {prog : Program} {w : World} {A : Around} {E : Value -> Shared -> Prop} {s : Shared}
theorem q373 {a : Addr} {vs : List Value} {n : Nat} {ts : Value -> I2} {Q : PySem.Fin -> Shared -> Prop} (h64 : vs.length < 64) (ho : s.heap.get? a = some (seqObj "list" vs.toArray n)) (hT : ∀ v ∈ vs, TupI2 s.heap v (ts v)) (hz : vs.length <= sizeLine)
  (h : ∀ out : Array Value, out.toList.Perm vs -> (out.toList.Pairwise fun x y => lex2 (ts y) (ts x) = false) -> Q (.done (.ret .none)) { s with heap := sortedHeap s.heap a vs out }) : wpAny (model prog w) A (Builtin.«list.sort» ⟨[.ref a], []⟩) Q E s := by
 have ha : a < s.heap.objs.size := Heap.lt_size ho
 have hvz : vs.toArray.size = vs.length := List.size_toArray ..
 obtain ⟨e1, ho1⟩ : ∃ e1, (s.heap.update a (Obj.mapSeq fun _ => (#[] : Array Value))).get? a = some (seqObj "list" #[] e1) := ⟨_, get?_update_seq ho fun _ => #[]⟩
 rw [list_sort_plain]
 refine wpAny_bind (listItems_at ho rfl (wpAny_bind (listUpdate_at ho rfl ?_ (by rw [hvz]; exact hz) (Nat.zero_le _))))
 refine wpAny_bind (seqEpoch_at ho1 rfl (wpAny_bind (wpAny_newTuple (wpAny_bind (wpAny_newList (wpAny_holding ?_) (Nat.zero_le _))) (by show vs.length <= _; exact hz))))
 obtain ⟨h6, e6⟩ : ∃ h6, h6 = ((s.heap.update a (Obj.mapSeq fun _ => (#[] : Array Value))).push (seqObj "tuple" vs.toArray 0)).push (seqObj "list" #[] 0) := ⟨_, rfl⟩
 have ho6 : h6.get? a = some (seqObj "list" #[] e1) := by
  rw [e6]
  exact Heap.get?_push_of_some _ (Heap.get?_push_of_some _ ho1)
 have hT6 : ∀ v ∈ vs, TupI2 h6 v (ts v) := fun v hv => (hT v hv).keep fun b o hb hc => by
  have nb : b ≠ a := fun z => by
   rw [z, ho] at hb
   cases hb
   exact absurd (Value.type.inj hc) (by decide)
  rw [e6]
  exact Heap.get?_push_of_some _ (Heap.get?_push_of_some _ (((Heap.SameBut.update s.heap a (Obj.mapSeq fun _ => (#[] : Array Value))).2 b nb).trans hb))
 show wpAny (model prog w) A _ Q E { s with heap := ((s.heap.update a (Obj.mapSeq fun _ => (#[] : Array Value))).push (seqObj "tuple" vs.toArray 0)).push (seqObj "list" #[] 0) }
 have hfin : ∀ out : Array Value, out.toList.Perm vs -> (out.toList.Pairwise fun x y => lex2 (ts y) (ts x) = false) -> Q (.done (.ret .none)) { s with heap := h6.update a (Obj.mapSeq fun _ => out) } := fun out p1 p2 => by
  rw [e6]
  exact h out p1 p2
 rw [<- e6]
 dsimp only
 by_cases h2 : vs.toArray.size < 2
 ·rw [if_pos h2, if_pos h2]
  refine wpAny_bind (wpAny_pure ?_)
  rw [StateT.run_pure]
  refine wpAny_bind (wpAny_pure ?_)
  dsimp only
  have eo : ((arrOf (SortSt.mk' general' (vs.toArray.zip vs.toArray) #[] 7 none)).map (·.2)) = vs.toArray := by
   show (vs.toArray.zip vs.toArray).map (·.2) = vs.toArray
   apply Array.toList_inj.mp
   simp [List.map_snd_zip]
  rw [eo]
  refine wpAny_bind (seqEpoch_at ho6 rfl (wpAny_bind (listUpdate_at ho6 rfl ?_ (Nat.zero_le _) (by rw [hvz]; omega))))
  simp only [bne_self_eq_false, Bool.false_eq_true, if_false]
  refine wpAny_pure (hfin vs.toArray (List.Perm.refl _) ?_)
  match vs, h2 with
  | [], _ => exact .nil
  | [x], _ => exact List.pairwise_singleton _ _
  | x :: y :: l, h2 => exact absurd h2 (by simp)
 ·rw [if_neg h2, if_neg h2]
  obtain ⟨fs, k1, k2, k3⟩ := q611 vs hT6
  refine wpAny_bind (kat_kind (T := .type "int") (s := { s with heap := h6 }) k1 (by omega) (fun v hv => ?_) (by rfl) ?_)
  ·obtain ⟨i, t, rfl⟩ := k3 v hv
   exact Looks.of_pure rfl
  have zl : (vs.toArray.zip vs.toArray).toList = vs.zip vs := by simp
  have pz : ∀ x ∈ (vs.toArray.zip vs.toArray).toList, TupI2 h6 x.1 (ts x.1) := fun x hx => by
   rw [zl] at hx
   exact hT6 _ (mem_zip_self hx).2
  have run := q421 (prog := prog) (w := w) (A := A) (E := E) (good2 (s := { s with heap := h6 }) ts) (tot2 ts) (Q := fun _ st' s' => s' = { s with heap := h6 } /\ failedOf st' = none /\ (arrOf st').Perm (vs.toArray.zip vs.toArray) /\ Asc (fun x y => lex2 (ts x.1) (ts y.1)) (arrOf st') 0 (arrOf st').size)
   (st := SortSt.mk' (tuples' true) (vs.toArray.zip vs.toArray) #[] 7 none) rfl rfl rfl pz (by show 1 <= (vs.toArray.zip vs.toArray).size; simp; omega) (by show (vs.toArray.zip vs.toArray).size < 64; simp; omega) (fun st' f1 f2 f3 => ⟨rfl, f1, f2, f3⟩)
  refine wpAny_bind (wpAny_mono run ?_ fun _ _ e => e)
  rintro ⟨⟨⟩, st'⟩ s' ⟨rfl, f1, f2, f3⟩
  dsimp only
  have p0 := Array.perm_iff_toList_perm.mp f2
  rw [zl] at p0
  have osz : ((arrOf st').map (·.2)).size = vs.length := by
   rw [Array.size_map, <- Array.length_toList, p0.length_eq]
   simp
  refine wpAny_bind (seqEpoch_at ho6 rfl (wpAny_bind (listUpdate_at ho6 rfl ?_ (Nat.zero_le _) (Nat.le_trans (Nat.le_of_eq osz) (by omega)))))
  rw [f1]
  simp only [bne_self_eq_false, Bool.false_eq_true, if_false]
  refine wpAny_pure (hfin _ ?_ ?_)
  ·rw [Array.toList_map]
   refine (p0.map _).trans (List.Perm.of_eq ?_)
   exact List.map_snd_zip (Nat.le_refl _)
  ·rw [Array.toList_map, List.pairwise_map]
   have sr : Srt (fun x y => lex2 (ts x.1) (ts y.1)) (arrOf st').toList := srt_of fun p q g1 g2 => by
    have := f3 p q g1 g2
    rw [Nat.zero_add, Nat.zero_add] at this
    exact this
   refine List.Pairwise.imp_of_mem ?_ sr
   intro x y hx hy hxy
   have ex := (mem_zip_self (p0.mem_iff.mp hx)).1
   have ey := (mem_zip_self (p0.mem_iff.mp hy)).1
   rw [<- ex, <- ey]
   exact hxy
theorem q467 {κ : SortKind} {P : Value -> Prop} {lt : Value -> Value -> Bool} {a : Addr} {vs : List Value} {n : Nat} {Q : PySem.Fin -> Shared -> Prop} (h64 : vs.length < 64) (ho : s.heap.get? a = some (seqObj "list" vs.toArray n)) (hz : vs.length <= sizeLine)
  (hk : ∀ h6 : Heap, (∀ b o, b ≠ a -> s.heap.get? b = some o -> h6.get? b = some o) -> 2 <= vs.length -> ∀ Q' : SortKind -> Shared -> Prop, Q' κ { s with heap := h6 } -> wpAny (model prog w) A (keyKind' vs.toArray) Q' E { s with heap := h6 })
  (hg : ∀ h6 : Heap, (∀ b o, b ≠ a -> s.heap.get? b = some o -> h6.get? b = some o) -> Good prog w A E κ (fun x => P x.1) (fun x y => lt x.1 y.1) { s with heap := h6 })
  (ht : Tot (fun x => P x.1) (fun x y => lt x.1 y.1)) (hP : ∀ v ∈ vs, P v)
  (h : ∀ out : Array Value, out.toList.Perm vs -> (out.toList.Pairwise fun x y => lt y x = false) -> Q (.done (.ret .none)) { s with heap := sortedHeap s.heap a vs out }) : wpAny (model prog w) A (Builtin.«list.sort» ⟨[.ref a], []⟩) Q E s := by
 have hvz : vs.toArray.size = vs.length := List.size_toArray ..
 obtain ⟨e1, ho1⟩ : ∃ e1, (s.heap.update a (Obj.mapSeq fun _ => (#[] : Array Value))).get? a = some (seqObj "list" #[] e1) := ⟨_, get?_update_seq ho fun _ => #[]⟩
 rw [list_sort_plain]
 refine wpAny_bind (listItems_at ho rfl (wpAny_bind (listUpdate_at ho rfl ?_ (by rw [hvz]; exact hz) (Nat.zero_le _))))
 refine wpAny_bind (seqEpoch_at ho1 rfl (wpAny_bind (wpAny_newTuple (wpAny_bind (wpAny_newList (wpAny_holding ?_) (Nat.zero_le _))) (by show vs.length <= _; exact hz))))
 obtain ⟨h6, e6⟩ : ∃ h6, h6 = ((s.heap.update a (Obj.mapSeq fun _ => (#[] : Array Value))).push (seqObj "tuple" vs.toArray 0)).push (seqObj "list" #[] 0) := ⟨_, rfl⟩
 have ho6 : h6.get? a = some (seqObj "list" #[] e1) := by
  rw [e6]
  exact Heap.get?_push_of_some _ (Heap.get?_push_of_some _ ho1)
 have k6 : ∀ b o, b ≠ a -> s.heap.get? b = some o -> h6.get? b = some o := fun b o hb z => by
  rw [e6]
  exact Heap.get?_push_of_some _ (Heap.get?_push_of_some _ (((Heap.SameBut.update s.heap a (Obj.mapSeq fun _ => (#[] : Array Value))).2 b hb).trans z))
 show wpAny (model prog w) A _ Q E { s with heap := ((s.heap.update a (Obj.mapSeq fun _ => (#[] : Array Value))).push (seqObj "tuple" vs.toArray 0)).push (seqObj "list" #[] 0) }
 have hfin : ∀ out : Array Value, out.toList.Perm vs -> (out.toList.Pairwise fun x y => lt y x = false) -> Q (.done (.ret .none)) { s with heap := h6.update a (Obj.mapSeq fun _ => out) } := fun out p1 p2 => by
  rw [e6]
  exact h out p1 p2
 rw [<- e6]
 dsimp only
 by_cases h2 : vs.toArray.size < 2
 ·rw [if_pos h2, if_pos h2]
  refine wpAny_bind (wpAny_pure ?_)
  rw [StateT.run_pure]
  refine wpAny_bind (wpAny_pure ?_)
  dsimp only
  have eo : ((arrOf (SortSt.mk' general' (vs.toArray.zip vs.toArray) #[] 7 none)).map (·.2)) = vs.toArray := by
   show (vs.toArray.zip vs.toArray).map (·.2) = vs.toArray
   apply Array.toList_inj.mp
   simp [List.map_snd_zip]
  rw [eo]
  refine wpAny_bind (seqEpoch_at ho6 rfl (wpAny_bind (listUpdate_at ho6 rfl ?_ (Nat.zero_le _) (by rw [hvz]; exact Nat.le_succ_of_le hz))))
  simp only [bne_self_eq_false, Bool.false_eq_true, if_false]
  refine wpAny_pure (hfin vs.toArray (List.Perm.refl _) ?_)
  match vs, h2 with
  | [], _ => exact .nil
  | [x], _ => exact List.pairwise_singleton _ _
  | x :: y :: l, h2 => exact absurd h2 (by simp)
 ·rw [if_neg h2, if_neg h2]
  refine wpAny_bind (hk h6 k6 (by rw [<- hvz]; exact Nat.not_lt.mp h2) _ ?_)
  have zl : (vs.toArray.zip vs.toArray).toList = vs.zip vs := by simp
  have pz : ∀ x ∈ (vs.toArray.zip vs.toArray).toList, P x.1 := fun x hx => by
   rw [zl] at hx
   exact hP _ (mem_zip_self hx).2
  have run := q421 (prog := prog) (w := w) (A := A) (E := E) (hg h6 k6) ht (Q := fun _ st' s' => s' = { s with heap := h6 } /\ failedOf st' = none /\ (arrOf st').Perm (vs.toArray.zip vs.toArray) /\ Asc (fun x y => lt x.1 y.1) (arrOf st') 0 (arrOf st').size)
   (st := SortSt.mk' κ (vs.toArray.zip vs.toArray) #[] 7 none) rfl rfl rfl pz (by show 1 <= (vs.toArray.zip vs.toArray).size; simp; omega) (by show (vs.toArray.zip vs.toArray).size < 64; simp; omega) (fun st' f1 f2 f3 => ⟨rfl, f1, f2, f3⟩)
  refine wpAny_bind (wpAny_mono run ?_ fun _ _ e => e)
  rintro ⟨⟨⟩, st'⟩ s' ⟨rfl, f1, f2, f3⟩
  dsimp only
  have p0 := Array.perm_iff_toList_perm.mp f2
  rw [zl] at p0
  have osz : ((arrOf st').map (·.2)).size = vs.length := by
   rw [Array.size_map, <- Array.length_toList, p0.length_eq]
   simp
  refine wpAny_bind (seqEpoch_at ho6 rfl (wpAny_bind (listUpdate_at ho6 rfl ?_ (Nat.zero_le _) (Nat.le_trans (Nat.le_of_eq osz) (Nat.le_succ_of_le hz)))))
  rw [f1]
  simp only [bne_self_eq_false, Bool.false_eq_true, if_false]
  refine wpAny_pure (hfin _ ?_ ?_)
  ·rw [Array.toList_map]
   refine (p0.map _).trans (List.Perm.of_eq ?_)
   exact List.map_snd_zip (Nat.le_refl _)
  ·rw [Array.toList_map, List.pairwise_map]
   have sr : Srt (fun x y => lt x.1 y.1) (arrOf st').toList := srt_of fun p q g1 g2 => by
    have := f3 p q g1 g2
    rw [Nat.zero_add, Nat.zero_add] at this
    exact this
   refine List.Pairwise.imp_of_mem ?_ sr
   intro x y hx hy hxy
   have ex := (mem_zip_self (p0.mem_iff.mp hx)).1
   have ey := (mem_zip_self (p0.mem_iff.mp hy)).1
   rw [<- ex, <- ey]
   exact hxy
theorem q681 {S : Addr} {ks : List Int} {Q : Value -> Shared -> Prop} (h64 : ks.length < 64) (hh : A.handled = none) (hS : SetI prog w s.heap S ks)
  (h : ∀ (hF : Heap) (tk : Nat) (d : Drawn) (l : Addr) (e : Nat) (out : List Value), (∀ b o, s.heap.get? b = some o -> hF.get? b = some o) -> s.heap.objs.size <= l -> out.length <= sizeLine -> hF.get? l = some (seqObj "list" out.toArray e) -> AllI out -> (out.map kOf).Perm ks -> (out.map kOf).Pairwise (· < ·) ->
   Q (.ref l) { s with heap := hF, toks := tk, drawn := d }) : wpAny (model prog w) A (call (.builtin "sorted") [.ref S]) Q E s := by
 have nd : ks.Nodup := by obtain ⟨_, _, _, _, _, hs⟩ := hS; exact hs.nd
 have kz : ks.length <= sizeLine := by
  obtain ⟨_, es, _, _, _, hs⟩ := hS
  rw [<- hs.pm.length_eq, List.length_map, Array.length_toList]
  exact fits_of_scanBound hs.few
 refine Calls.call_function_entry kind_sorted plain_sorted entry_sorted (args_sorted1 _) ?_
 unfold Builtin.«sorted»
 refine wpAny_bind (m := checkCount "sorted" 1 1 _) (wpAny_pure (wpAny_bind (q464 (A := A.in1) (show A.in1.handled = none from hh) hS fun h' tk d vs k1 sz pm ai => ?_)))
 have hz : vs.length <= sizeLine := by rw [<- List.length_map (f := kOf), pm.length_eq]; exact kz
 refine wpAny_bind (wpAny_newList ?_ hz)
 have hoL : (h'.push (seqObj "list" vs.toArray 0)).get? h'.objs.size = some (seqObj "list" vs.toArray 0) := Heap.get?_push_size _ rfl
 show wpAny _ _ _ _ _ { s with heap := h'.push (seqObj "list" vs.toArray 0), toks := tk, drawn := d }
 refine wpAny_bind (wpAny_holding (wpAny_call_entry slot_list_sort ⟨_, hoL, rfl⟩ entry_list_sort (q467 (κ := oneType') (P := fun v => ∃ k t, v = Value.int k t) (lt := ltI) (by rw [<- List.length_map (f := kOf), pm.length_eq]; exact h64) hoL hz (fun h6 _ h2 Q' hq => ?_) (fun h6 _ => good_i) tot_i ai fun out a1 a2 => ⟨_, rfl, wpAny_pure ⟨_, rfl, ?_⟩⟩) (args_list_sort _)))
 ·rw [ksk_kind (kz := vs.map kOf) (by simpa using q513 vs ai) (by simpa using h2)]
  exact wpAny_pure hq
 obtain ⟨e, he⟩ := sortedHeap_at (h := h'.push (seqObj "list" vs.toArray 0)) (a := h'.objs.size) (vs := vs) (out := out) hoL
 have po : (out.toList.map kOf).Perm ks := (a1.map _).trans pm
 refine h _ tk d h'.objs.size e out.toList (fun b o hb => ?_) sz (by rw [a1.length_eq]; exact hz) (by rw [Array.toArray_toList]; exact he) (fun v hv => ai v (a1.mem_iff.mp hv)) po ?_
 ·have hlt := Heap.lt_size (k1 b o hb)
  rw [sortedHeap_old (Nat.ne_of_lt hlt) (by rw [size_push']; exact Nat.lt_succ_of_lt hlt)]
  exact Heap.get?_push_of_some _ (k1 b o hb)
 ·have le : (out.toList.map kOf).Pairwise (· <= ·) := by
   rw [List.pairwise_map]
   refine a2.imp fun {x y} q => ?_
   unfold ltI at q
   rw [decide_eq_false_iff_not] at q
   omega
  have ne : (out.toList.map kOf).Nodup := po.nodup_iff.mpr nd
  exact (List.pairwise_and_iff.mpr ⟨le, ne⟩).imp fun {x y} q => by omega
theorem q683 {l : Addr} {vs : List Value} {ts : Value -> I2} {Q : Value -> Shared -> Prop} (h64 : vs.length < 64) (hl : s.heap.IsList l vs.toArray) (hT : ∀ v ∈ vs, TupI2 s.heap v (ts v)) (hz : vs.length <= sizeLine)
  (h : ∀ out : Array Value, out.toList.Perm vs -> (out.toList.Pairwise fun x y => lex2 (ts y) (ts x) = false) -> Q (.ref (s.heap.objs.size + 1)) { s with heap := sortedAll s.heap vs out }) : wpAny (model prog w) A (call (.builtin "sorted") [.ref l]) Q E s := by
 refine Calls.call_function_entry kind_sorted plain_sorted entry_sorted (args_sorted1 _) ?_
 unfold Builtin.«sorted»
 refine wpAny_bind (m := checkCount "sorted" 1 1 _) (wpAny_pure (wpAny_bind (collect_list hl (wpAny_bind (wpAny_newList ?_ (by show vs.length <= _; exact hz))) hz)))
 have hsz : ((s.heap.push (seqObj "list" #[] 0)).update s.heap.objs.size (Obj.mapSeq (· ++ vs.toArray))).objs.size = s.heap.objs.size + 1 := by rw [Heap.size_update, size_push']
 have hoL : (((s.heap.push (seqObj "list" #[] 0)).update s.heap.objs.size (Obj.mapSeq (· ++ vs.toArray))).push (seqObj "list" vs.toArray 0)).get? (s.heap.objs.size + 1) = some (seqObj "list" vs.toArray 0) := by rw [<- hsz]; exact Heap.get?_push_size _ rfl
 have hT2 : ∀ v ∈ vs, TupI2 (((s.heap.push (seqObj "list" #[] 0)).update s.heap.objs.size (Obj.mapSeq (· ++ vs.toArray))).push (seqObj "list" vs.toArray 0)) v (ts v) := fun v hv => (hT v hv).keep fun b o hb hc => by
  have nb : b ≠ s.heap.objs.size := Nat.ne_of_lt (Heap.lt_size hb)
  exact Heap.get?_push_of_some _ (((Heap.SameBut.update (s.heap.push (seqObj "list" #[] 0)) s.heap.objs.size (Obj.mapSeq (· ++ vs.toArray))).2 b nb).trans (Heap.get?_push_of_some _ hb))
 show wpAny _ _ _ _ _ { s with heap := ((s.heap.push (seqObj "list" #[] 0)).update s.heap.objs.size (Obj.mapSeq (· ++ vs.toArray))).push (seqObj "list" vs.toArray 0) }
 rw [hsz]
 exact wpAny_bind (wpAny_holding (wpAny_call_entry slot_list_sort ⟨_, hoL, rfl⟩ entry_list_sort (q373 h64 hoL hT2 hz fun out a1 a2 => ⟨_, rfl, wpAny_pure ⟨_, rfl, h out a1 a2⟩⟩) (args_list_sort _)))
end
end TS
namespace L2
open PySem PySem.Spec PyProof.Rows
section
variable {X : Cx}
theorem q374 (hc : X.calm = true) {P : Program} {w : World} (hP : X.prog = P) (hw : X.w = w) : CallR X (.builtin "sorted") (fun xs H Q => ∃ (r : Addr) (ks : List Int), xs = [.ref r] /\ ks.length < 64 /\ H r = some (.ext fun h => TS.SetI P w h r ks) /\
  ∀ (l : Addr) (ms : List Int), H l = none -> ms.Perm ks -> ms.Pairwise (· < ·) -> Q (.ref l) (upd H l (.lst (ms.map V.int)))) := by
 subst hP; subst hw
 intro pins s σ H xs us Q I r h
 obtain ⟨rv, ks, rfl, h64, hr, q⟩ := h
 obtain ⟨u, rfl, rx⟩ := vals1 r
 cases rx
 have hS : TS.SetI X.prog X.w s.heap rv ks := (I.hok rv _ hr).1
 refine TS.q681 h64 (I.ok.hd hc) hS fun hF tk d l e out kp hl hz hL ha hp ho => ?_
 refine ⟨.ref l, _, (I.draw d).laid (t' := tk) (a := l) (o := .lst ((out.map TS.kOf).map V.int)) kp hl ?_, rfl, q l (out.map TS.kOf) (I.hok.fresh hl) hp ho⟩
 refine ⟨?_, out, e, q514 out ha, hL⟩
 rw [List.length_map, List.length_map]
 exact hz
theorem q212 {K : PySem.W.Frag} (hK : X.K = K) : CallR X (.builtin "sorted") (fun xs H Q => ∃ (p : Addr) (ys : List V) (us : List TS.I2), xs = [.ref p] /\ ys.length < 64 /\ SqL K H p ys /\ Paired (q93 K H) ys us /\
  ∀ (l : Addr) (zs : List V) (vs : List TS.I2), H l = none -> (zs.zip vs).Perm (ys.zip us) -> Paired (q93 K H) zs vs -> (vs.Pairwise fun x y => TS.lex2 y x = false) -> Q (.ref l) (upd H l (.lst zs))) := by
 subst hK
 intro pins s σ H xs us Q I r h
 obtain ⟨p, ys, ts, rfl, h64, hq, hp, q⟩ := h
 obtain ⟨u, rfl, rx⟩ := vals1 r
 cases rx
 obtain ⟨its, r', pl, hz⟩ := I.list hq
 have hl := r'.length
 obtain ⟨h1, h2, h3⟩ := q515 I hp r'
 refine TS.q683 (by omega) (ts := TS.tsOf2 s.heap) pl.isList (fun v hv => (h1 v hv).1) (by omega) fun out a1 a2 => ?_
 obtain ⟨e, he⟩ := PyProof.Rows.sortedAll_at s.heap its out
 have hml : out.toList.length = its.length := a1.length_eq
 have hm : ∀ v ∈ out.toList, v ∈ its := fun v hv => a1.mem_iff.mp hv
 refine ⟨.ref (s.heap.objs.size + 1), _, I.laid (t' := s.toks) (a := s.heap.objs.size + 1) (o := .lst (out.toList.map absR)) (fun b ob z => PyProof.Rows.sortedAll_old z) (Nat.le_succ _) ?_, rfl, q _ (out.toList.map absR) (out.toList.map (TS.tsOf2 s.heap)) (I.hok.fresh (Nat.le_succ _)) ?_ ?_ ?_⟩
 ·refine ⟨by rw [List.length_map]; omega, out.toList, e, ?_, ?_⟩
  ·have z := q235 (R := RelV) (f := absR) (g := id) out.toList fun v hv => (h1 v (hm v hv)).2.2
   rw [List.map_id] at z
   exact z
  ·rw [he]
 ·rw [h2, h3, List.zip_map', List.zip_map']
  exact a1.map _
 ·exact q235 out.toList fun v hv => (h1 v (hm v hv)).2.1
 ·rw [List.pairwise_map]
  exact a2
end
end L2
namespace My
open PySem L2
def top (i : Nat) : Stmt := PySem.Challenge.pw_manyleast_k67_whole_worths_led_through.main.body.getD i (.Pass ⟨0, 0, 0, 0⟩)
abbrev q137 : Stmt := top 5
abbrev q375 : Stmt := top 6
abbrev q468 : Stmt := top 7
abbrev q291 : Stmt := top 8
abbrev q376 : Stmt := top 9
abbrev q469 : Stmt := top 11
abbrev q238 : Stmt := top 12
abbrev q292 : Stmt := top 14
abbrev q239 : Stmt := top 15
abbrev q293 : Stmt := top 16
abbrev q294 : Stmt := top 17
abbrev q186 : Stmt := top 18
abbrev q213 : Stmt := top 20
abbrev q270 : Stmt := top 21
abbrev s_led : Stmt := top 22
abbrev q138 : Stmt := top 23
abbrev q377 : Stmt := top 24
abbrev q187 : Stmt := top 26
abbrev q160 : Stmt := top 27
abbrev q188 : Stmt := top 28
abbrev q139 : Stmt := top 29
abbrev q295 : Stmt := top 30
abbrev q470 : Stmt := top 31
abbrev q296 : Stmt := top 32
abbrev q297 : Stmt := top 34
abbrev q189 : Stmt := top 35
abbrev q140 : Stmt := top 36
abbrev q118 : Stmt := top 37
abbrev q240 : Stmt := top 38
abbrev q378 : Stmt := top 40
abbrev q241 : Stmt := top 41
abbrev q190 : Stmt := top 42
abbrev q191 : Stmt := top 43
abbrev q298 : Stmt := top 44
abbrev q379 : Stmt := top 45
abbrev q299 : Stmt := top 47
abbrev q380 : Stmt := top 48
abbrev q381 : Stmt := top 49
abbrev q214 : Stmt := top 50
abbrev q192 : Stmt := top 52
abbrev q629 : Stmt := top 53
abbrev q471 : Stmt := top 54
abbrev q105 : Stmt := top 55
abbrev q193 : Stmt := top 57
abbrev q242 : Stmt := top 58
abbrev q194 : Stmt := top 59
abbrev q141 : Stmt := top 60
abbrev q119 : Stmt := top 61
abbrev q72 : Stmt := top 62
abbrev q142 : Stmt := top 63
abbrev q59 : Stmt := top 64
abbrev s_law : Stmt := top 65
theorem q331 : FnScope ["levels", "many", "level"] ["levels"] (q18 q137) := ⟨rfl, rfl, rfl, by decide +kernel, rfl, by decide +kernel, by decide +kernel⟩
theorem q630 : FnScope ["bounds"] ["bounds"] (q18 q375) := ⟨rfl, rfl, rfl, by decide +kernel, rfl, by decide +kernel, by decide +kernel⟩
theorem sc_where : FnScope ["bounds", "number"] ["bounds", "number"] (q18 q468) := ⟨rfl, rfl, rfl, by decide +kernel, rfl, by decide +kernel, by decide +kernel⟩
theorem q549 : FnScope ["bounds", "way", "least", "many", "turn"] ["bounds", "way"] (q18 q291) := ⟨rfl, rfl, rfl, by decide +kernel, rfl, by decide +kernel, by decide +kernel⟩
theorem q631 : FnScope ["bounds", "number", "least", "many", "way", "level"] ["bounds", "number"] (q18 q376) := ⟨rfl, rfl, rfl, by decide +kernel, rfl, by decide +kernel, by decide +kernel⟩
theorem sc_ahead : FnScope ["marks", "mark", "place"] ["marks", "mark", "place"] (q18 q469) := ⟨rfl, rfl, rfl, by decide +kernel, rfl, by decide +kernel, by decide +kernel⟩
theorem q472 : FnScope ["marks", "mark", "number", "left", "place", "other"] ["marks", "mark", "number"] (q18 q238) := ⟨rfl, rfl, rfl, by decide +kernel, rfl, by decide +kernel, by decide +kernel⟩
theorem q550 : FnScope ["bounds", "row", "number"] ["bounds", "row"] (q18 q292) := ⟨rfl, rfl, rfl, by decide +kernel, rfl, by decide +kernel, by decide +kernel⟩
theorem sc_grown : FnScope ["least", "many", "row", "half", "middle", "marks", "lower", "upper"] ["least", "many", "row"] (q18 q239) := ⟨rfl, rfl, rfl, by decide +kernel, rfl, by decide +kernel, by decide +kernel⟩
theorem q551 : FnScope ["tree", "mark"] ["tree", "mark"] (q18 q293) := ⟨rfl, rfl, rfl, by decide +kernel, rfl, by decide +kernel, by decide +kernel⟩
theorem q552 : FnScope ["tree"] ["tree"] (q18 q294) := ⟨rfl, rfl, rfl, by decide +kernel, rfl, by decide +kernel, by decide +kernel⟩
theorem q422 : FnScope ["bounds", "tree", "place", "least", "many", "part", "inner", "mark"] ["bounds", "tree", "place"] (q18 q186) := ⟨rfl, rfl, rfl, by decide +kernel, rfl, by decide +kernel, by decide +kernel⟩
theorem q553 : FnScope ["gathering"] ["gathering"] (q18 q213) := ⟨rfl, rfl, rfl, by decide +kernel, rfl, by decide +kernel, by decide +kernel⟩
theorem q632 : FnScope ["gathering"] ["gathering"] (q18 q270) := ⟨rfl, rfl, rfl, by decide +kernel, rfl, by decide +kernel, by decide +kernel⟩
theorem sc_led : FnScope ["gathering", "way"] ["gathering", "way"] (q18 s_led) := ⟨rfl, rfl, rfl, by decide +kernel, rfl, by decide +kernel, by decide +kernel⟩
theorem q332 : FnScope ["stretch", "way", "part", "start", "end", "turn", "half"] ["stretch", "way"] (q18 q138) := ⟨rfl, rfl, rfl, by decide +kernel, rfl, by decide +kernel, by decide +kernel⟩
theorem q633 : FnScope ["tree", "way", "place", "inner"] ["tree", "way", "place"] (q18 q377) := ⟨rfl, rfl, rfl, by decide +kernel, rfl, by decide +kernel, by decide +kernel⟩
theorem q423 : FnScope ["bounds", "gathering", "k", "way", "alike"] ["bounds", "gathering", "k"] (q18 q187) := ⟨rfl, rfl, rfl, by decide +kernel, rfl, by decide +kernel, by decide +kernel⟩
theorem q382 : FnScope ["levels", "gathering", "k", "way", "parts", "left", "level", "lower", "turn"] ["levels", "gathering", "k"] (q18 q160) := ⟨rfl, rfl, rfl, by decide +kernel, rfl, by decide +kernel, by decide +kernel⟩
theorem q424 : FnScope ["gathering", "way", "number", "parts", "left", "j"] ["gathering", "way", "number"] (q18 q188) := ⟨rfl, rfl, rfl, by decide +kernel, rfl, by decide +kernel, by decide +kernel⟩
theorem q333 : FnScope ["gathering", "way", "many", "parts", "turn"] ["gathering", "way"] (q18 q139) := ⟨rfl, rfl, rfl, by decide +kernel, rfl, by decide +kernel, by decide +kernel⟩
theorem q554 : FnScope ["bounds", "gathering", "j", "place", "stretch", "way", "before"] ["bounds", "gathering", "j", "place"] (q18 q295) := ⟨rfl, rfl, rfl, by decide +kernel, rfl, by decide +kernel, by decide +kernel⟩
theorem sc_below : FnScope ["bounds", "gathering", "number", "side"] ["bounds", "gathering", "number"] (q18 q470) := ⟨rfl, rfl, rfl, by decide +kernel, rfl, by decide +kernel, by decide +kernel⟩
theorem q555 : FnScope ["bounds", "gathering", "low", "high"] ["bounds", "gathering", "low", "high"] (q18 q296) := ⟨rfl, rfl, rfl, by decide +kernel, rfl, by decide +kernel, by decide +kernel⟩
theorem q556 : FnScope ["bounds", "gathering", "number", "k"] ["bounds", "gathering", "number"] (q18 q297) := ⟨rfl, rfl, rfl, by decide +kernel, rfl, by decide +kernel, by decide +kernel⟩
theorem q425 : FnScope ["bounds", "gathering", "number", "k"] ["bounds", "gathering", "number"] (q18 q189) := ⟨rfl, rfl, rfl, by decide +kernel, rfl, by decide +kernel, by decide +kernel⟩
theorem q334 : FnScope ["bounds", "gathering", "k", "way"] ["bounds", "gathering", "k"] (q18 q140) := ⟨rfl, rfl, rfl, by decide +kernel, rfl, by decide +kernel, by decide +kernel⟩
theorem q300 : FnScope ["bounds", "gathering", "k"] ["bounds", "gathering", "k"] (q18 q118) := ⟨rfl, rfl, rfl, by decide +kernel, rfl, by decide +kernel, by decide +kernel⟩
theorem q473 : FnScope ["least", "many", "parts", "k", "half", "lower", "upper", "first"] ["least", "many", "parts", "k"] (q18 q240) := ⟨rfl, rfl, rfl, by decide +kernel, rfl, by decide +kernel, by decide +kernel⟩
theorem q634 : FnScope ["bounds", "tree", "place", "number"] ["bounds", "tree", "place", "number"] (q18 q378) := ⟨rfl, rfl, rfl, by decide +kernel, rfl, by decide +kernel, by decide +kernel⟩
theorem q474 : FnScope ["tree", "way", "place", "turn", "marks", "half"] ["tree", "way", "place"] (q18 q241) := ⟨rfl, rfl, rfl, by decide +kernel, rfl, by decide +kernel, by decide +kernel⟩
theorem q426 : FnScope ["marks", "tree", "turn", "half"] ["marks", "tree", "turn", "half"] (q18 q190) := ⟨rfl, rfl, rfl, by decide +kernel, rfl, by decide +kernel, by decide +kernel⟩
theorem q427 : FnScope ["bounds", "tree", "place", "number"] ["bounds", "tree", "place"] (q18 q191) := ⟨rfl, rfl, rfl, by decide +kernel, rfl, by decide +kernel, by decide +kernel⟩
theorem q557 : FnScope ["tree", "place", "marks", "turn", "half"] ["tree", "place"] (q18 q298) := ⟨rfl, rfl, rfl, by decide +kernel, rfl, by decide +kernel, by decide +kernel⟩
theorem q635 : FnScope ["bounds", "tree", "place", "number"] ["bounds", "tree", "place", "number"] (q18 q379) := ⟨rfl, rfl, rfl, by decide +kernel, rfl, by decide +kernel, by decide +kernel⟩
theorem q558 : FnScope ["stretch", "tree", "start", "end", "lower", "upper"] ["stretch"] (q18 q299) := ⟨rfl, rfl, rfl, by decide +kernel, rfl, by decide +kernel, by decide +kernel⟩
theorem q636 : FnScope ["one", "other"] ["one", "other"] (q18 q380) := ⟨rfl, rfl, rfl, by decide +kernel, rfl, by decide +kernel, by decide +kernel⟩
theorem q637 : FnScope ["tree"] ["tree"] (q18 q381) := ⟨rfl, rfl, rfl, by decide +kernel, rfl, by decide +kernel, by decide +kernel⟩
theorem q559 : FnScope ["tree"] ["tree"] (q18 q214) := ⟨rfl, rfl, rfl, by decide +kernel, rfl, by decide +kernel, by decide +kernel⟩
theorem q428 : FnScope ["bounds", "gathering"] ["bounds", "gathering"] (q18 q192) := ⟨rfl, rfl, rfl, by decide +kernel, rfl, by decide +kernel, by decide +kernel⟩
theorem sc_most : FnScope ["bounds", "gathering", "best", "counted"] ["bounds", "gathering"] (q18 q629) := ⟨rfl, rfl, rfl, by decide +kernel, rfl, by decide +kernel, by decide +kernel⟩
theorem sc_often : FnScope ["bounds", "gathering", "part"] ["bounds", "gathering", "part"] (q18 q471) := ⟨rfl, rfl, rfl, by decide +kernel, rfl, by decide +kernel, by decide +kernel⟩
theorem q264 : FnScope ["least", "many", "parts", "part", "floor", "things", "half", "lower", "upper"] ["least", "many", "parts", "part", "floor"] (q18 q105) := ⟨rfl, rfl, rfl, by decide +kernel, rfl, by decide +kernel, by decide +kernel⟩
theorem q429 : FnScope ["_law_script", "_law_k", "_law_number"] ["_law_script", "_law_k"] (q18 q193) := ⟨rfl, rfl, rfl, by decide +kernel, rfl, by decide +kernel, by decide +kernel⟩
theorem q475 : FnScope ["_law_cell_here"] ["_law_cell_here"] (q18 q242) := ⟨rfl, rfl, rfl, by decide +kernel, rfl, by decide +kernel, by decide +kernel⟩
theorem q430 : FnScope ["_law_pen_here", "_law_size", "_law_digit", "_law_number"] ["_law_pen_here", "_law_size"] (q18 q194) := ⟨rfl, rfl, rfl, by decide +kernel, rfl, by decide +kernel, by decide +kernel⟩
theorem q335 : FnScope ["_law_pen_here", "_law_levels", "_law_low"] ["_law_pen_here"] (q18 q141) := ⟨rfl, rfl, rfl, by decide +kernel, rfl, by decide +kernel, by decide +kernel⟩
theorem q301 : FnScope ["_law_pen_here", "_law_bounds_here", "_law_long", "_law_found", "_law_k"] ["_law_pen_here", "_law_bounds_here", "_law_long"] (q18 q119) := ⟨rfl, rfl, rfl, by decide +kernel, rfl, by decide +kernel, by decide +kernel⟩
theorem q195 : FnScope ["_law_bounds_here", "_law_gathering", "_law_found", "_law_one"] ["_law_bounds_here", "_law_gathering"] (q18 q72) := ⟨rfl, rfl, rfl, by decide +kernel, rfl, by decide +kernel, by decide +kernel⟩
theorem q431 : FnScope ["_law_pen_here", "_law_bounds_here", "_law_tree", "_law_row", "_law_other", "_law_way", "_law_place", "_law_number", "_law_last", "_law_end"] ["_law_pen_here", "_law_bounds_here", "_law_tree", "_law_row", "_law_other"] (q18 q142) := ⟨rfl, rfl, rfl, by decide +kernel, rfl, by decide +kernel, by decide +kernel⟩
theorem q336 : FnScope ["_law_pen_here", "_law_bounds_here", "_law_gathering", "_law_whole", "_law_turn", "_law_k", "_law_worth", "_law_j", "_law_place", "_law_lower", "_law_told", "_law_manys", "_law_part", "_law_due"] ["_law_pen_here", "_law_bounds_here", "_law_gathering"] (q18 q59) := ⟨rfl, rfl, rfl, by decide +kernel, rfl, by decide +kernel, by decide +kernel⟩
theorem sc_law : FnScope ["_law_script", "_law_pen_here", "_law_bounds_here", "_law_row", "_law_other", "_law_tree", "_law_k", "_law_start", "_law_end", "_law_gathering"] ["_law_script"] (q18 s_law) := ⟨rfl, rfl, rfl, by decide +kernel, rfl, by decide +kernel, by decide +kernel⟩
structure Bz (mg : Str -> Option Value) : Prop where
 enumerate_ : mg "enumerate" = none
 int_ : mg "int" = none
 len_ : mg "len" = none
 max_ : mg "max" = none
 min_ : mg "min" = none
 range_ : mg "range" = none
 reversed_ : mg "reversed" = none
 set_ : mg "set" = none
 sorted_ : mg "sorted" = none
 sum_ : mg "sum" = none
 tuple_ : mg "tuple" = none
def Wths (low : Int) (L : Nat) (ns : List Int) : Prop := ∀ x ∈ ns, low <= x /\ x < low + 2 ^ L
theorem Wths.snoc {low : Int} {L : Nat} {ns : List Int} {y : Int} (h : Wths low L ns) (h0 : low <= y) (h1 : y < low + 2 ^ L) : Wths low L (ns ++ [y]) := fun x hx => by
 rcases List.mem_append.mp hx with h' | h'
 ·exact h x h'
 ·cases List.mem_singleton.mp h'
  exact ⟨h0, h1⟩
def PenN (H : Hp) (pen : Addr) : Prop := ∃ c n : Int, H pen = some (.lst [.int c, .int n])
theorem PenN.same {H H' : Hp} {pen : Addr} (p : PenN H pen) (s : Same H H') : PenN H' pen := by
 obtain ⟨c, n, h⟩ := p
 exact ⟨c, n, s _ _ h⟩
theorem PenN.new {H : Hp} {pen q : Addr} (p : PenN H pen) (h : H q = none) (o : HO) : PenN (upd H q o) pen := p.same (q15 h o)
theorem PenN.at {H : Hp} {pen : Addr} (p : PenN H pen) : ∃ xs, H pen = some (.lst xs) := by
 obtain ⟨c, n, h⟩ := p
 exact ⟨_, h⟩
theorem PenN.ne {H : Hp} {pen b : Addr} {xs : List V} (p : PenN H pen) (h : H b = some (.tup xs)) : b ≠ pen := by
 obtain ⟨c, n, e⟩ := p
 exact ne_of h e (by intro z; cases z)
theorem PenN.fresh {H : Hp} {pen b : Addr} (p : PenN H pen) (h : H b = none) : b ≠ pen := by
 obtain ⟨c, n, e⟩ := p
 exact Ne.symm (q33 e h)
theorem PenN.other {H : Hp} {pen q : Addr} (p : PenN H pen) (hq : q ≠ pen) (o : HO) : PenN (upd H q o) pen := by
 obtain ⟨c, n, e⟩ := p
 exact ⟨c, n, by rw [q36 (Ne.symm hq)]; exact e⟩
theorem PenN.tk {H H' : Hp} {pen : Addr} (p : PenN H pen) (k : Keep pen H H') : TKeep H H' := by
 obtain ⟨xs, e⟩ := p.at
 exact TKeep.keep k e
abbrev q196 : Nat := 1
inductive isp__law_cell (K : PySem.W.Frag) (vs : List V) (H : Hp) (Q : VK) (E : XK) : Prop
 | mk (a : Addr) (ns : List Int) (k : Int) (hz0 : vs = [.ref a, .int k]) (hz1 : SqL K H a (ns.map V.int)) (hz2 : ns.length <= 63) (hz3 : 0 <= k) (hz4 : k < 1000000) (hz5 : ∀ n : Int, Q (.int n) H) : isp__law_cell K vs H Q E
def q161 (K : PySem.W.Frag) : Sp := isp__law_cell K
abbrev q243 : Nat := 1
inductive isp__law_pen (u0 : PySem.W.Frag) (vs : List V) (H : Hp) (Q : VK) (E : XK) : Prop
 | mk (c : Int) (hz0 : vs = [.int c]) (hz1 : ∀ p, H p = none -> Q (.ref p) (upd H p (.lst [.int c, .int 0]))) : isp__law_pen u0 vs H Q E
def q197 (u0 : PySem.W.Frag) : Sp := isp__law_pen u0
abbrev q70 : Nat := 1
inductive isp__law_take (u0 : PySem.W.Frag) (vs : List V) (H : Hp) (Q : VK) (E : XK) : Prop
 | mk (pen : Addr) (size : Int) (hz0 : vs = [.ref pen, .int size]) (hz1 : PenN H pen) (hz2 : 0 < size) (hz3 : size < 10 ^ 60) (hz4 : ∀ (v : Int) (H' : Hp), Keep pen H H' -> PenN H' pen -> 0 <= v -> v < size -> Q (.int v) H') : isp__law_take u0 vs H Q E
def q56 (u0 : PySem.W.Frag) : Sp := isp__law_take u0
abbrev q143 : Nat := 2
inductive isp__law_bounds (u0 : PySem.W.Frag) (vs : List V) (H : Hp) (Q : VK) (E : XK) : Prop
 | mk (pen : Addr) (hz0 : vs = [.ref pen]) (hz1 : PenN H pen) (hz2 : ∀ (b : Addr) (low : Int) (L : Nat) (H' : Hp), Keep pen H H' -> PenN H' pen -> H' b = some (.tup [.int low, .int (L : Int)]) -> L <= 40 -> Q (.ref b) H') : isp__law_bounds u0 vs H Q E
def q120 (u0 : PySem.W.Frag) : Sp := isp__law_bounds u0
abbrev q121 : Nat := 2
inductive isp__law_numbers (u0 : PySem.W.Frag) (vs : List V) (H : Hp) (Q : VK) (E : XK) : Prop
 | mk (pen b : Addr) (low g : Int) (L : Nat) (hz0 : vs = [.ref pen, .ref b, .int g]) (hz1 : PenN H pen) (hz2 : H b = some (.tup [.int low, .int (L : Int)])) (hz3 : L <= 40) (hz4 : 0 <= g) (hz5 : g <= 300) (hz6 : ∀ (r : Addr) (ns : List Int) (H' : Hp), Keep pen H H' -> PenN H' pen -> H' r = some (.lst (ns.map V.int)) -> H r = none -> (ns.length : Int) <= g -> Wths low L ns -> Q (.ref r) H') : isp__law_numbers u0 vs H Q E
def q106 (u0 : PySem.W.Frag) : Sp := isp__law_numbers u0
section
variable {P : Program} {w : World} {K : PySem.W.Frag} {mg : Str -> Option Value} {base : Heap}
theorem q432 (d : Def K mg "_law_cell" q193 ["_law_script", "_law_k"]) (z : Bz mg)  : Cal P w K mg base q196 "_law_cell" ["_law_script", "_law_k"] (q161 K) := by
 have sc := q429
 refine d.cal fun f fd F => F.ok sc (fun vs H Q E h => ?_) (fun cdv A outer s H vs Q E hr h => ?_)
 ·obtain ⟨a, ns, k, rfl, _⟩ := h
  rfl
 obtain ⟨a, ns, k, rfl, hS, h63, h0, hk, q⟩ := h
 refine ⟨_, (q11 (ps_if (q17 op_lt (pv 1) (q26 q24 (by rfl) z.len_ q62 (q10 (pv 0) q12)) (q20 _))
 (q16 (q21 (pe_ix q35 (pv 0) (pv 1) (fun _ _ => rfl))))
 q23)
 (q11 (q19 (i := 2) sc.nd rfl (Or.inl rfl) (pe_op q29 (pe_op q101 (pv 1) q14) q14))
 (q11 (ps_if (q17 op_gt (q26 q24 (by rfl) z.len_ q62 (q10 (pv 0) q12)) q14 (q20 _))
 (q16 (q19 (i := 2) sc.nd rfl (Or.inl rfl) (pe_op q29 (pe_op q101 (pe_op q184 (pe_ix q35 (pv 0) (pe_op q184 (pe_op q101 (pv 1) q14) (q26 q24 (by rfl) z.len_ q62 (q10 (pv 0) q12))) (fun _ _ => rfl)) q14) q14) (pe_op q101 (pv 1) q14))))
 q23)
 (q16 (q21 (pe_op q184 (pe_op q101 (pv 2) (pv 2)) q14)))))), ?_⟩
 have hl : (ns.map V.int).length = ns.length := List.length_map _
 refine ⟨_, rfl, _, rfl, a, _, rfl, .inl hS, _, _, rfl, rfl, _, rfl, ?_⟩
 refine ite2 (fun c => ?_) (fun c => ?_)
 ·have c' : k < (((ns.map V.int).length : Nat) : Int) := of_decide_eq_true c
  rw [hl] at c'
  obtain ⟨v, _, hv⟩ := q209 h0 c'
  exact ⟨_, rfl, _, rfl, a, _, _, _, rfl, rfl, hS, hv, q v⟩
 ·refine ⟨_, rfl, _, _, rfl, rfl, .inr ⟨by decide, by decide⟩, _, _, rfl, rfl, ?_⟩
  refine ⟨_, rfl, a, _, rfl, .inl hS, _, _, rfl, rfl, _, rfl, ?_⟩
  refine ite2 (fun c2 => ?_) (fun c2 => ?_)
  ·have c2' : (0 : Int) < (((ns.map V.int).length : Nat) : Int) := of_decide_eq_true c2
   have m0 : 0 <= (k * 7) % (((ns.map V.int).length : Nat) : Int) := Int.emod_nonneg _ (by omega)
   have m1 : (k * 7) % (((ns.map V.int).length : Nat) : Int) < (((ns.map V.int).length : Nat) : Int) := Int.emod_lt_of_pos _ c2'
   obtain ⟨v, _, hv⟩ := q209 (l := ns) m0 (by rw [hl] at m1 ⊢; exact m1)
   have b0 : 0 <= v % 2147483647 := Int.emod_nonneg _ (by decide)
   have b1 : v % 2147483647 < 2147483647 := Int.emod_lt_of_pos _ (by decide)
   refine ⟨_, rfl, _, rfl, _, _, rfl, rfl, .inr ⟨by decide, by decide⟩, _, rfl, a, _, rfl, .inl hS, _, _, rfl, rfl, c2', a, _, _, _, rfl, rfl, hS, hv, _, _, rfl, rfl, (by show (0 : Int) < 2147483647; decide), _, _, rfl, rfl, .inr ⟨by decide, by decide⟩, _, rfl, _, _, rfl, rfl, .inr ⟨by decide, by decide⟩, _, _, rfl, rfl, ?_⟩
   exact ⟨_, rfl, _, rfl, _, _, rfl, rfl, .inl ⟨by omega, by omega⟩, _, _, rfl, rfl, (by show (0 : Int) < 2147483629; decide), q _⟩
  ·exact ⟨_, rfl, _, rfl, _, _, rfl, rfl, .inl ⟨by omega, by omega⟩, _, _, rfl, rfl, (by show (0 : Int) < 2147483629; decide), q _⟩
theorem q476 (d : Def K mg "_law_pen" q242 ["_law_cell_here"]) (z : Bz mg)  : Cal P w K mg base q243 "_law_pen" ["_law_cell_here"] (q197 K) := by
 have sc := q475
 refine d.cal fun f fd F => F.ok sc (fun vs H Q E h => ?_) (fun cdv A outer s H vs Q E hr h => ?_)
 ·obtain ⟨c, rfl, _⟩ := h
  rfl
 obtain ⟨c, rfl, q⟩ := h
 refine ⟨_, (q16 (q21 (q55 (q10 (pv 0) (q10 q14 q12))))), ?_⟩
 exact ⟨_, rfl, szb rfl, q⟩
theorem q433 (d : Def K mg "_law_take" q194 ["_law_pen_here", "_law_size"]) (z : Bz mg)  : Cal P w K mg base q70 "_law_take" ["_law_pen_here", "_law_size"] (q56 K) := by
 have sc := q430
 refine d.cal fun f fd F => F.ok sc (fun vs H Q E h => ?_) (fun cdv A outer s H vs Q E hr h => ?_)
 ·obtain ⟨pen, size, rfl, _⟩ := h
  rfl
 obtain ⟨pen, size, rfl, ⟨c, n, hp⟩, s0, s1, q⟩ := h
 refine ⟨_, (q11 (ps_if (PW.pt (pw_or (q17 op_lt (pe_ix q35 (pv 0) q14 (fun _ _ => rfl)) q14 (q20 _)) (q92 (PW.pt (q278 (q17 op_eq (pe_ix q35 (pv 0) q14 (fun _ _ => rfl)) q14 (q20 _)) (q229 (q17 op_ge (pe_ix q35 (pv 0) q14 (fun _ _ => rfl)) (pe_op q496 q14 q14) (q20 _))))))))
 (q11 (q400 (pe_un q401 q14) (q578 (pv 0) q14 q363))
 (q11 (q19 (i := 2) sc.nd rfl (Or.inl rfl) (pe_op q184 (pe_ix q35 (pv 0) q14 (fun _ _ => rfl)) (pv 1)))
 (q11 (q400 (pe_op q112 (pe_ix q35 (pv 0) q14 (fun _ _ => rfl)) (pv 1)) (q578 (pv 0) q14 q363))
 (q16 (q21 (pv 2))))))
 q23)
 (q11 (q400 (pe_op q29 (pe_ix q35 (pv 0) q14 (fun _ _ => rfl)) q14) (q578 (pv 0) q14 q363))
 (q11 (q19 (i := 3) sc.nd rfl (Or.inl rfl) (pe_op q184 (pe_op q29 (pe_op q29 (pe_op q184 (pe_ix q35 (pv 0) q14 (fun _ _ => rfl)) q14) (pe_op q101 q14 (pe_ix q35 (pv 0) q14 (fun _ _ => rfl)))) q14) q14))
 (q11 (q19 (i := 3) sc.nd rfl (Or.inl rfl) (pe_op q184 (pe_op q101 (pv 3) (pe_op q29 (pv 3) q14)) q14))
 (q16 (q21 (pe_op q184 (pe_op q112 (pe_op q184 (pe_op q101 (pv 3) (pe_op q29 (pv 3) q14)) q14) q14) (pv 1)))))))), ?_⟩
 refine ⟨_, rfl, pen, _, _, _, rfl, rfl, SqL.of hp, rfl, _, _, rfl, rfl, _, rfl, ?_⟩
 refine ite2 (fun c1 => ?_) (fun c1 => ?_)
 ·refine iteT ?_
  refine ⟨_, rfl, _, rfl, pen, _, _, 1, rfl, rfl, hp, rfl, ?_⟩
  refine ⟨_, rfl, pen, _, _, _, rfl, rfl, SqL.of q13, rfl, _, rfl, _, _, rfl, rfl, s0, ?_⟩
  refine ⟨_, rfl, pen, _, _, _, rfl, rfl, SqL.of q13, rfl, _, rfl, _, _, rfl, rfl, ⟨s0, s1⟩, _, rfl, pen, _, _, 0, rfl, rfl, q13, rfl, _, rfl, ?_⟩
  exact q _ _ ((Keep.set pen H _).trans (Keep.set pen _ _)) ⟨_, _, q13⟩ (Int.emod_nonneg _ (by omega)) (Int.emod_lt_of_pos _ s0)
 ·refine ⟨_, rfl, pen, _, _, _, rfl, rfl, SqL.of hp, rfl, rfl, _, rfl, ?_⟩
  refine ite2 (fun c2 => ?_) (fun c2 => ?_)
  ·refine ⟨_, rfl, pen, _, _, _, rfl, rfl, SqL.of hp, rfl, _, _, rfl, rfl, ⟨by decide, by decide, by decide⟩, _, _, rfl, rfl, _, rfl, ?_⟩
   refine ite2 (fun c3 => ?_) (fun c3 => ?_)
   ·
    refine ⟨_, rfl, _, rfl, pen, _, _, 1, rfl, rfl, hp, rfl, ?_⟩
    refine ⟨_, rfl, pen, _, _, _, rfl, rfl, SqL.of q13, rfl, _, rfl, _, _, rfl, rfl, s0, ?_⟩
    refine ⟨_, rfl, pen, _, _, _, rfl, rfl, SqL.of q13, rfl, _, rfl, _, _, rfl, rfl, ⟨s0, s1⟩, _, rfl, pen, _, _, 0, rfl, rfl, q13, rfl, _, rfl, ?_⟩
    exact q _ _ ((Keep.set pen H _).trans (Keep.set pen _ _)) ⟨_, _, q13⟩ (Int.emod_nonneg _ (by omega)) (Int.emod_lt_of_pos _ s0)
   ·
    refine ⟨_, rfl, pen, _, _, _, rfl, rfl, SqL.of hp, rfl, _, _, rfl, rfl, _, rfl, pen, _, _, 1, rfl, rfl, hp, rfl, ?_⟩
    refine ⟨_, rfl, pen, _, _, _, rfl, rfl, SqL.of q13, rfl, _, _, rfl, rfl, (by show (0 : Int) < 2147483647; decide), _, rfl, pen, _, _, _, rfl, rfl, SqL.of q13, rfl, _, _, rfl, rfl, .inl ⟨by decide, by decide⟩, _, _, rfl, rfl, _, _, rfl, rfl, _, _, rfl, rfl, (by show (0 : Int) < 2147483629; decide), ?_⟩
    generalize hx : ((c % 2147483647 + 40503 * (n + 1) + 11) % 2147483629) = x1
    have g0 : 0 <= x1 := by rw [<- hx]; exact Int.emod_nonneg _ (by decide)
    have g1 : x1 < 2147483629 := by rw [<- hx]; exact Int.emod_lt_of_pos _ (by decide)
    refine ⟨_, rfl, _, rfl, _, _, rfl, rfl, _, _, rfl, rfl, .inl ⟨by omega, by omega⟩, _, _, rfl, rfl, (by show (0 : Int) < 2147483587; decide), ?_⟩
    generalize hy : (x1 * (x1 + 48271) % 2147483587) = x2
    have d0 : 0 <= x2 := by rw [<- hy]; exact Int.emod_nonneg _ (by decide)
    have d1 : x2 < 2147483587 := by rw [<- hy]; exact Int.emod_lt_of_pos _ (by decide)
    refine ⟨_, rfl, _, rfl, _, _, rfl, rfl, _, _, rfl, rfl, .inl ⟨by omega, by omega⟩, _, _, rfl, rfl, (by show (0 : Int) < 2305843009213693951; decide), _, _, rfl, rfl, ⟨by decide, by decide⟩, _, rfl, _, _, rfl, rfl, s0, ?_⟩
    exact q _ _ (Keep.set pen H _) ⟨_, _, q13⟩ (Int.emod_nonneg _ (by omega)) (Int.emod_lt_of_pos _ s0)
  ·refine iteF ?_
   refine ⟨_, rfl, pen, _, _, _, rfl, rfl, SqL.of hp, rfl, _, _, rfl, rfl, _, rfl, pen, _, _, 1, rfl, rfl, hp, rfl, ?_⟩
   refine ⟨_, rfl, pen, _, _, _, rfl, rfl, SqL.of q13, rfl, _, _, rfl, rfl, (by show (0 : Int) < 2147483647; decide), _, rfl, pen, _, _, _, rfl, rfl, SqL.of q13, rfl, _, _, rfl, rfl, .inl ⟨by decide, by decide⟩, _, _, rfl, rfl, _, _, rfl, rfl, _, _, rfl, rfl, (by show (0 : Int) < 2147483629; decide), ?_⟩
   generalize hx : ((c % 2147483647 + 40503 * (n + 1) + 11) % 2147483629) = x1
   have g0 : 0 <= x1 := by rw [<- hx]; exact Int.emod_nonneg _ (by decide)
   have g1 : x1 < 2147483629 := by rw [<- hx]; exact Int.emod_lt_of_pos _ (by decide)
   refine ⟨_, rfl, _, rfl, _, _, rfl, rfl, _, _, rfl, rfl, .inl ⟨by omega, by omega⟩, _, _, rfl, rfl, (by show (0 : Int) < 2147483587; decide), ?_⟩
   generalize hy : (x1 * (x1 + 48271) % 2147483587) = x2
   have d0 : 0 <= x2 := by rw [<- hy]; exact Int.emod_nonneg _ (by decide)
   have d1 : x2 < 2147483587 := by rw [<- hy]; exact Int.emod_lt_of_pos _ (by decide)
   refine ⟨_, rfl, _, rfl, _, _, rfl, rfl, _, _, rfl, rfl, .inl ⟨by omega, by omega⟩, _, _, rfl, rfl, (by show (0 : Int) < 2305843009213693951; decide), _, _, rfl, rfl, ⟨by decide, by decide⟩, _, rfl, _, _, rfl, rfl, s0, ?_⟩
   exact q _ _ (Keep.set pen H _) ⟨_, _, q13⟩ (Int.emod_nonneg _ (by omega)) (Int.emod_lt_of_pos _ s0)
theorem q337 (d : Def K mg "_law_bounds" q141 ["_law_pen_here"]) (z : Bz mg) (c__law_take : Cal P w K mg base q70 "_law_take" ["_law_pen_here", "_law_size"] (q56 K)) : Cal P w K mg base q143 "_law_bounds" ["_law_pen_here"] (q120 K) := by
 have sc := q335
 refine d.cal fun f fd F => F.ok sc (fun vs H Q E h => ?_) (fun cdv A outer s H vs Q E hr h => ?_)
 ·obtain ⟨pen, rfl, _⟩ := h
  rfl
 obtain ⟨pen, rfl, P0, q⟩ := h
 refine ⟨_, (q11 (q19 (i := 1) sc.nd rfl (Or.inl rfl) (pe_ix q35 (q55 (q10 (pe_fn c__law_take (hr.mono (by decide)) (by rfl) (q10 (pv 0) (q10 q14 q12))) (q10 q14 (q10 (pe_fn c__law_take (hr.mono (by decide)) (by rfl) (q10 (pv 0) (q10 q14 q12))) (q10 q14 q12))))) (pe_fn c__law_take (hr.mono (by decide)) (by rfl) (q10 (pv 0) (q10 q14 q12))) (fun _ _ => rfl)))
 (q11 (q19 (i := 2) sc.nd rfl (Or.inl rfl) (pe_ix q35 (q55 (q10 q14 (q10 (pe_un q401 q14) (q10 (pe_op q54 (pe_fn c__law_take (hr.mono (by decide)) (by rfl) (q10 (pv 0) (q10 (pe_op q496 q14 q14) q12))) (pe_op q496 q14 q14)) (q10 q14 q12))))) (pe_fn c__law_take (hr.mono (by decide)) (by rfl) (q10 (pv 0) (q10 q14 q12))) (fun _ _ => rfl)))
 (q16 (q21 (q27 (q10 (pv 2) (q10 (pv 1) q12))))))), ?_⟩
 refine ⟨_, rfl, pen, 5, rfl, P0, by decide, by decide, fun v1 H1 k1 P1 a1 b1 => ?_⟩
 refine ⟨_, rfl, pen, 41, rfl, P1, by decide, by decide, fun v2 H2 k2 P2 a2 b2 => ⟨szb rfl, fun p hp => ?_⟩⟩
 refine ⟨_, rfl, pen, 4, rfl, P2.new hp _, by decide, by decide, fun v3 H3 k3 P3 a3 b3 => ?_⟩
 obtain ⟨L', hm, hv⟩ := q209 (l := [v1, 3, v2, 2]) a3 b3
 have hL : 0 <= L' /\ L' <= 40 := by
  simp only [List.mem_cons, List.not_mem_nil, or_false] at hm
  omega
 obtain ⟨L, rfl⟩ := Int.eq_ofNat_of_zero_le hL.1
 have hL2 : L <= 40 := by omega
 have k03 : Keep pen H H3 := k1.trans (k2.trans ((Keep.new hp _).trans k3))
 refine ⟨p, _, _, _, rfl, rfl, SqL.of (k3 _ _ (P2.fresh hp) q13), hv, ?_⟩
 refine ⟨_, rfl, _, rfl, _, _, rfl, rfl, ⟨by decide, by decide, by decide⟩, pen, _, rfl, P3, by decide, by decide, fun v4 H4 k4 P4 a4 b4 => ⟨_, _, rfl, rfl, ⟨by decide, by decide, by decide⟩, _, _, rfl, rfl, szb rfl, fun p2 hp2 => ?_⟩⟩
 refine ⟨_, rfl, pen, 4, rfl, P4.new hp2 _, by decide, by decide, fun v5 H5 k5 P5 a5 b5 => ?_⟩
 obtain ⟨low, hm2, hv2⟩ := q209 (l := [0, -7, v4 - 10 ^ (38 : Int).toNat, 1]) a5 b5
 refine ⟨p2, _, _, _, rfl, rfl, SqL.of (k5 _ _ (P4.fresh hp2) q13), hv2, ?_⟩
 refine ⟨_, rfl, _, rfl, szb rfl, fun b hb => ?_⟩
 exact q b low L _ (k03.trans (k4.trans ((Keep.new hp2 _).trans (k5.trans (Keep.new hb _))))) (P5.new hb _) q13 hL2
theorem q302 (d : Def K mg "_law_numbers" q119 ["_law_pen_here", "_law_bounds_here", "_law_long"]) (z : Bz mg) (c__law_take : Cal P w K mg base q70 "_law_take" ["_law_pen_here", "_law_size"] (q56 K)) : Cal P w K mg base q121 "_law_numbers" ["_law_pen_here", "_law_bounds_here", "_law_long"] (q106 K) := by
 have sc := q301
 refine d.cal fun f fd F => F.ok sc (fun vs H Q E h => ?_) (fun cdv A outer s H vs Q E hr h => ?_)
 ·obtain ⟨pen, b, low, g, L, rfl, _⟩ := h
  rfl
 obtain ⟨pen, b, low, g, L, rfl, P0, hb, hL, g0, g1, q⟩ := h
 refine ⟨_, (q11 (q19 (i := 3) sc.nd rfl (Or.inl rfl) (q55 q12))
 (q11 (q152 PassesOwn.never rfl (q126 rfl z.range_ (q10 (pe_fn c__law_take (hr.mono (by decide)) (by rfl) (q10 (pv 0) (q10 (pe_op q29 (pv 2) q14) q12))) q12)) (q48 (i := 4) sc.nd rfl (Or.inl rfl))
 (q16 (ps_if (PW.pt (q278 (q17 op_eq (pe_fn c__law_take (hr.mono (by decide)) (by rfl) (q10 (pv 0) (q10 q14 q12))) q14 (q20 _)) (q229 (q17 (q600 hr.units) (pv 3) (q55 q12) (q20 _)))))
 (q16 (q230 (pe_bm PySem.F.plainAttrs_list PySem.F.slot_list_append PySem.F.type_list_append q86 (pv 3) (q10 (pe_ix q35 (pv 3) (pe_fn c__law_take (hr.mono (by decide)) (by rfl) (q10 (pv 0) (q10 (q26 q24 (by rfl) z.len_ q62 (q10 (pv 3) q12)) q12))) (fun _ _ => rfl)) q12))))
 (q16 (q230 (pe_bm PySem.F.plainAttrs_list PySem.F.slot_list_append PySem.F.type_list_append q86 (pv 3) (q10 (pe_op q29 (pe_ix q22 (pv 1) q14 (fun _ _ => rfl)) (pe_fn c__law_take (hr.mono (by decide)) (by rfl) (q10 (pv 0) (q10 (pe_op q581 q14 (pe_ix q22 (pv 1) q14 (fun _ _ => rfl))) q12)))) q12)))))))
 (q16 (q21 (pv 3))))), ?_⟩
 have hp := p2pos L
 have hq := p2le hL
 refine ⟨szb rfl, fun r hr => ?_⟩
 have P1 : PenN (upd H r (.lst [])) pen := P0.new hr _
 have hrp : r ≠ pen := P0.fresh hr
 refine ⟨_, rfl, _, rfl, _, _, rfl, rfl, pen, _, rfl, P1, by omega, by omega, fun m H2 k2 P2 m0 m1 => ⟨m, rfl, by omega, by omega, q127 (n := m.toNat) (fun i σ H3 => ∃ (ns : List Int) (v4 : Option V), σ = [some (.ref pen), some (.ref b), some (.int g), some (.ref r), v4] /\ H3 r = some (.lst (ns.map V.int)) /\ ns.length = i /\ Wths low L ns /\ Keep pen H H3 /\ PenN H3 pen)
  ⟨[], none, rfl, k2 _ _ hrp q13, rfl, fun x hx => absurd hx (by simp), (Keep.new hr _).trans k2, P2⟩ ?_ ?_⟩⟩
 ·rintro i σ H3 hi ⟨ns, v4, rfl, hr3, hl, hw, k3, P3⟩
  have fin : ∀ (y : Int) (H9 : Hp), low <= y -> y < low + 2 ^ L -> Keep pen H3 H9 -> PenN H9 pen -> H9 r = some (.lst (ns.map V.int)) /\ (ns.map V.int).length < sizeLine /\
    ∃ (ns' : List Int) (v4' : Option V), [some (V.ref pen), some (.ref b), some (.int g), some (.ref r), some (.int (0 + (i : Int)))] = [some (V.ref pen), some (.ref b), some (.int g), some (.ref r), v4'] /\ (upd H9 r (.lst (ns.map V.int ++ [.int y]))) r = some (.lst (ns'.map V.int)) /\ ns'.length = i + 1 /\ Wths low L ns' /\
     Keep pen H (upd H9 r (.lst (ns.map V.int ++ [.int y]))) /\ PenN (upd H9 r (.lst (ns.map V.int ++ [.int y]))) pen := by
   intro y H9 y0 y1 k9 P9
   have hr9 := k9 _ _ hrp hr3
   refine ⟨hr9, by rw [List.length_map, hl]; exact q129 (by omega), ns ++ [y], _, rfl, ?_, by rw [List.length_append, hl] <;> rfl, hw.snoc y0 y1, (k3.trans k9).own hr, P9.other hrp _⟩
   rw [q13, List.map_append]
   rfl
  refine ⟨_, rfl, pen, 4, rfl, P3, by decide, by decide, fun u H4 k4 P4 a4 b4 => ⟨rfl, _, rfl, ?_⟩⟩
  have hr4 := k4 _ _ hrp hr3
  have hb4 : H4 b = some (.tup [.int low, .int (L : Int)]) := k4 _ _ (P0.ne hb) (k3 _ _ (P0.ne hb) hb)
  refine ite2 (fun c => ?_) (fun c => ?_)
  ·refine ⟨_, rfl, szb rfl, fun e he => ?_⟩
   have s5 : Same H4 (upd H4 e (.lst [])) := q15 he _
   refine ⟨r, e, ns, [], rfl, rfl, SqL.of (s5 _ _ hr4), SqL.of q13, _, rfl, ?_⟩
   have P5 := P4.same s5
   have hr5 := s5 _ _ hr4
   have hb5 := s5 _ _ hb4
   have k5 : Keep pen H3 (upd H4 e (.lst [])) := k4.trans (Keep.same s5)
   generalize upd H4 e (.lst []) = H5 at *
   refine ite2 (fun c2 => ?_) (fun c2 => ?_)
   ·have hne : 0 < ns.length := by
     cases ns with
     | nil => exact absurd c2 (by decide)
     | cons x l => exact Nat.succ_pos _
    refine ⟨_, rfl, .inl ⟨rfl, _, SqL.of hr5⟩, _, rfl, _, rfl, _, rfl, r, _, rfl, .inl (SqL.of hr5), pen, _, rfl, P5, by rw [List.length_map]; omega, by rw [List.length_map]; omega, fun u6 H6 k6 P6 a6 b6 => ?_⟩
    rw [List.length_map] at b6
    obtain ⟨y, hy, hv⟩ := q209 (l := ns) a6 b6
    obtain ⟨f1, f2, f3⟩ := fin y H6 (hw y hy).1 (hw y hy).2 (k5.trans k6) P6
    exact ⟨r, _, _, _, rfl, rfl, SqL.of f1, hv, r, _, _, rfl, rfl, f1, f2, f3⟩
   ·
    refine ⟨_, rfl, .inl ⟨rfl, _, SqL.of hr5⟩, _, rfl, b, _, _, _, rfl, rfl, SqT.of hb5, rfl, _, rfl, _, rfl, b, _, _, _, rfl, rfl, SqT.of hb5, rfl, _, _, rfl, rfl, ⟨by omega, by omega, by decide⟩, ?_⟩
    dsimp only; rw [q502]
    refine ⟨pen, _, rfl, P5, hp, by omega, fun u6 H6 k6 P6 a6 b6 => ⟨_, _, rfl, rfl, ?_⟩⟩
    obtain ⟨f1, f2, f3⟩ := fin (low + u6) H6 (by omega) (by omega) (k5.trans k6) P6
    exact ⟨r, _, _, rfl, rfl, f1, f2, f3⟩
  ·refine iteF ?_
   have P5 := P4
   have hr5 := hr4
   have hb5 := hb4
   have k5 := k4
   refine ⟨_, rfl, .inl ⟨rfl, _, SqL.of hr5⟩, _, rfl, b, _, _, _, rfl, rfl, SqT.of hb5, rfl, _, rfl, _, rfl, b, _, _, _, rfl, rfl, SqT.of hb5, rfl, _, _, rfl, rfl, ⟨by omega, by omega, by decide⟩, ?_⟩
   dsimp only; rw [q502]
   refine ⟨pen, _, rfl, P5, hp, by omega, fun u6 H6 k6 P6 a6 b6 => ⟨_, _, rfl, rfl, ?_⟩⟩
   obtain ⟨f1, f2, f3⟩ := fin (low + u6) H6 (by omega) (by omega) (k5.trans k6) P6
   exact ⟨r, _, _, rfl, rfl, f1, f2, f3⟩
 ·rintro σ H3 ⟨ns, v4, rfl, hr3, hl, hw, k3, P3⟩
  exact ⟨_, rfl, q r ns H3 k3 P3 hr3 hr (by omega) hw⟩
end
abbrev q34 : Nat := 1
inductive isp_many_worths (u0 : PySem.W.Frag) (vs : List V) (H : Hp) (Q : VK) (E : XK) : Prop
 | mk (L : Nat) (hz0 : vs = [.int (L : Int)]) (hz1 : L <= 40) (hz2 : Q (.int (2 ^ L)) H) : isp_many_worths u0 vs H Q E
def q30 (u0 : PySem.W.Frag) : Sp := isp_many_worths u0
abbrev q383 : Nat := 2
inductive isp_top_of (K : PySem.W.Frag) (vs : List V) (H : Hp) (Q : VK) (E : XK) : Prop
 | mk (b : Addr) (low : Int) (L : Nat) (hz0 : vs = [.ref b]) (hz1 : SqT K H b [.int low, .int (L : Int)]) (hz2 : L <= 40) (hz3 : Q (.int (low + 2 ^ L - 1)) H) : isp_top_of K vs H Q E
def q303 (K : PySem.W.Frag) : Sp := isp_top_of K
section
variable {P : Program} {w : World} {K : PySem.W.Frag} {mg : Str -> Option Value} {base : Heap}
theorem q338 (d : Def K mg "many_worths" q137 ["levels"]) (z : Bz mg)  : Cal P w K mg base q34 "many_worths" ["levels"] (q30 K) := by
 have sc := q331
 refine d.cal fun f fd F => F.ok sc (fun vs H Q E h => ?_) (fun cdv A outer s H vs Q E hr h => ?_)
 ·obtain ⟨L, rfl, _⟩ := h
  rfl
 obtain ⟨L, rfl, hL, q⟩ := h
 refine ⟨_, (q11 (q19 (i := 1) sc.nd rfl (Or.inl rfl) q14)
 (q11 (q152 PassesOwn.never rfl (q126 rfl z.range_ (q10 (pv 0) q12)) (q48 (i := 2) sc.nd rfl (Or.inl rfl))
 (q16 (q19 (i := 1) sc.nd rfl (Or.inl rfl) (pe_op q101 (pv 1) q14))))
 (q16 (q21 (pv 1))))), ?_⟩
 refine ⟨_, rfl, (L : Int), rfl, by omega, by omega, q127 (n := L) (fun i σ H2 => ∃ v : Option V, σ = [some (.int (L : Int)), some (.int (2 ^ i)), v] /\ H2 = H) ⟨none, rfl, rfl⟩ ?_ ?_⟩
 ·rintro i σ H2 hi ⟨v, rfl, rfl⟩
  refine ⟨_, rfl, _, _, rfl, rfl, .inr ⟨by decide, by decide⟩, ?_⟩
  exact ⟨_, by rw [Int.pow_succ]; rfl, rfl⟩
 ·rintro σ H2 ⟨v, rfl, rfl⟩
  exact ⟨_, rfl, q⟩
theorem q638 (d : Def K mg "top_of" q375 ["bounds"]) (z : Bz mg) (c_many_worths : Cal P w K mg base q34 "many_worths" ["levels"] (q30 K)) : Cal P w K mg base q383 "top_of" ["bounds"] (q303 K) := by
 have sc := q630
 refine d.cal fun f fd F => F.ok sc (fun vs H Q E h => ?_) (fun cdv A outer s H vs Q E hr h => ?_)
 ·obtain ⟨b, low, L, rfl, _⟩ := h
  rfl
 obtain ⟨b, low, L, rfl, hb, hL, q⟩ := h
 refine ⟨_, (q16 (q21 (pe_op q54 (pe_op q29 (pe_ix q22 (pv 0) q14 (fun _ _ => rfl)) (pe_fn c_many_worths (hr.mono (by decide)) (by rfl) (q10 (pe_ix q22 (pv 0) q14 (fun _ _ => rfl)) q12))) q14))), ?_⟩
 exact ⟨_, rfl, b, _, _, _, rfl, rfl, hb, rfl, _, rfl, b, _, _, _, rfl, rfl, hb, rfl, L, rfl, hL, _, _, rfl, rfl, _, _, rfl, rfl, q⟩
end
abbrev q304 : Nat := 3
def q305 (low : Int) (L : Nat) (n : Int) : Str := if n < low then "below" else if low + 2 ^ L - 1 < n then "above" else "within"
theorem q639 {low n : Int} {L : Nat} (h : low <= n /\ n < low + 2 ^ L) : q305 low L n = "within" := by
 unfold q305
 rw [if_neg (by omega), if_neg (by omega)]
inductive isp_where (K : PySem.W.Frag) (vs : List V) (H : Hp) (Q : VK) (E : XK) : Prop
 | mk (b : Addr) (low n : Int) (L : Nat) (hz0 : vs = [.ref b, .int n]) (hz1 : SqT K H b [.int low, .int (L : Int)]) (hz2 : L <= 40) (hz3 : Q (.str (q305 low L n)) H) : isp_where K vs H Q E
def q215 (K : PySem.W.Frag) : Sp := isp_where K
section
variable {P : Program} {w : World} {K : PySem.W.Frag} {mg : Str -> Option Value} {base : Heap}
theorem ok_where (d : Def K mg "where" q468 ["bounds", "number"]) (z : Bz mg) (c_top_of : Cal P w K mg base q383 "top_of" ["bounds"] (q303 K)) : Cal P w K mg base q304 "where" ["bounds", "number"] (q215 K) := by
 have sc := sc_where
 refine d.cal fun f fd F => F.ok sc (fun vs H Q E h => ?_) (fun cdv A outer s H vs Q E hr h => ?_)
 ·obtain ⟨b, low, n, L, rfl, _⟩ := h
  rfl
 obtain ⟨b, low, n, L, rfl, hb, hL, q⟩ := h
 refine ⟨_, (q11 (ps_if (q17 op_lt (pv 1) (pe_ix q22 (pv 0) q14 (fun _ _ => rfl)) (q20 _))
 (q16 (q21 q47))
 q23)
 (q11 (ps_if (q17 op_gt (pv 1) (pe_fn c_top_of (hr.mono (by decide)) (by rfl) (q10 (pv 0) q12)) (q20 _))
 (q16 (q21 q47))
 q23)
 (q16 (q21 q47)))), ?_⟩
 unfold q305 at q
 refine ⟨_, rfl, _, rfl, b, _, _, _, rfl, rfl, hb, rfl, _, _, rfl, rfl, _, rfl, ?_⟩
 refine ite2 (fun c => ?_) (fun c => ?_)
 ·rw [if_pos (of_decide_eq_true c)] at q
  exact q
 ·rw [if_neg (fun z => c (decide_eq_true z))] at q
  refine ⟨_, rfl, _, rfl, b, low, L, rfl, hb, hL, _, _, rfl, rfl, _, rfl, ?_⟩
  refine ite2 (fun c => ?_) (fun c => ?_)
  ·rw [if_pos (of_decide_eq_true c)] at q
   exact q
  ·rw [if_neg (fun z => c (decide_eq_true z))] at q
   exact q
end
def grow (low : Int) : Nat -> List Int -> Tr
 | 0, ns => if ns = [] then .non else .many ns.length
 | e + 1, ns => if ns = [] then .non else .part (ns.map fun n => if n < low + 2 ^ e then 0 else 1) (grow low e (ns.filter fun n => decide (n < low + 2 ^ e))) (grow (low + 2 ^ e) e (ns.filter fun n => decide (low + 2 ^ e <= n)))
theorem q45 (low : Int) (e : Nat) : grow low e [] = .non := by cases e <;> rfl
theorem q31 {low : Int} {ns : List Int} (h : ns ≠ []) : grow low 0 ns = .many ns.length := by unfold grow; rw [if_neg h]
theorem q216 {low : Int} {e : Nat} {ns : List Int} (h : ns ≠ []) : grow low (e + 1) ns = .part (ns.map fun n => if n < low + 2 ^ e then 0 else 1) (grow low e (ns.filter fun n => decide (n < low + 2 ^ e))) (grow (low + 2 ^ e) e (ns.filter fun n => decide (low + 2 ^ e <= n))) := by
 rw [grow, if_neg h]
def Tr.fit (b : Nat) : Tr -> Prop
 | .non => True
 | .many _ => True
 | .part ms l r => ms.length <= b /\ Tr.fit b l /\ Tr.fit b r
abbrev kb_grown : Nat := 0
abbrev q516 : Nat := 40
abbrev q477 : Nat := 41
inductive ispe_grown (K : PySem.W.Frag) (e : Nat) (vs : List V) (H : Hp) (Q : VK) (E : XK) : Prop
 | mk (least : Int) (a : Addr) (ns : List Int) (hz0 : vs = [.int least, .int (2 ^ e), .ref a]) (hz1 : SqL K H a (ns.map V.int)) (hz2 : ns.length <= 1000) (hz3 : ∀ (H' : Hp) (v : V), Same H H' -> q25 H' v (grow least e ns) -> Q v H') : ispe_grown K e vs H Q E
def q434 (K : PySem.W.Frag) (e : Nat) : Sp := ispe_grown K e
def q384 (K : PySem.W.Frag) : Sp := fun vs H Q E => ∃ e, e <= q516 /\ q434 K e vs H Q E
section
variable {P : Program} {w : World} {K : PySem.W.Frag} {mg : Str -> Option Value} {base : Heap}
theorem ok_grown (d : Def K mg "grown" q239 ["least", "many", "row"]) (z : Bz mg)  : Cal P w K mg base q477 "grown" ["least", "many", "row"] (q384 K) := by
 have sc := sc_grown
 refine d.recur (k := kb_grown) (sp := q434 K) q516 fun e hen c_grown f fd F => F.ok sc (fun vs H Q E h => ?_) (fun cdv A outer s H vs Q E hr h => ?_)
 ·obtain ⟨least, a, ns, rfl, _⟩ := h
  rfl
 obtain ⟨least, a, ns, rfl, ha, hl, q⟩ := h
 refine ⟨_, (q11 (ps_if (q17 op_eq (q26 q24 (by rfl) z.len_ q62 (q10 (pv 2) q12)) q14 (q20 _))
 (q16 (q21 q63))
 q23)
 (q11 (ps_if (q17 op_eq (pv 1) q14 (q20 _))
 (q16 (q21 (q27 (q10 q47 (q10 (q26 q24 (by rfl) z.len_ q62 (q10 (pv 2) q12)) q12)))))
 q23)
 (q11 (q19 (i := 3) sc.nd rfl (Or.inl rfl) (pe_op q112 (pv 1) q14))
 (q11 (q19 (i := 4) sc.nd rfl (Or.inr rfl) (pe_op q29 (pv 0) (pv 3)))
 (q11 (q19 (i := 5) sc.nd rfl (Or.inl rfl) (q128 q135 (by rfl) z.tuple_ q268 (q10 (q232 (cl := [("middle", s.heap.objs.size + 1 + 0)]) (cn := ["middle"]) (N := ["middle"]) (fr := [4]) (sc0 := q18 q239) rfl (q91 (pv 2)) (fun C s₂ H₂ fp => (q358 (q17 op_lt (pv 0) (pv 1) (q20 _)) q14 q14)) (by with_unfolding_all rfl) ⟨by with_unfolding_all rfl, trivial⟩ rfl rfl rfl ⟨by decide +kernel, by decide +kernel, by decide +kernel, by decide +kernel, by decide +kernel, by decide +kernel, by decide +kernel⟩ rfl) q12)))
 (q11 (q19 (i := 6) sc.nd rfl (Or.inl rfl) (pe_fn c_grown (hr.mono (Nat.le_refl _)) (by rfl) (q10 (pv 0) (q10 (pv 3) (q10 (q284 (cl := [("middle", s.heap.objs.size + 1 + 0)]) (cn := ["middle"]) (N := ["middle"]) (fr := [4]) (sc0 := q18 q239) rfl (q91 (pv 2)) (fun C s₂ H₂ fp => (pv 0)) (fun C s₂ H₂ fp => (q17 op_lt (pv 0) (pv 1) (q20 _))) (by with_unfolding_all rfl) ⟨by with_unfolding_all rfl, trivial⟩ rfl rfl rfl ⟨by decide +kernel, by decide +kernel, by decide +kernel, by decide +kernel, by decide +kernel, by decide +kernel, by decide +kernel⟩ rfl) q12)))))
 (q11 (q19 (i := 7) sc.nd rfl (Or.inl rfl) (pe_fn c_grown (hr.mono (Nat.le_refl _)) (by rfl) (q10 (pv 4) (q10 (pv 3) (q10 (q284 (cl := [("middle", s.heap.objs.size + 1 + 0)]) (cn := ["middle"]) (N := ["middle"]) (fr := [4]) (sc0 := q18 q239) rfl (q91 (pv 2)) (fun C s₂ H₂ fp => (pv 0)) (fun C s₂ H₂ fp => (q17 op_ge (pv 0) (pv 1) (q20 _))) (by with_unfolding_all rfl) ⟨by with_unfolding_all rfl, trivial⟩ rfl rfl rfl ⟨by decide +kernel, by decide +kernel, by decide +kernel, by decide +kernel, by decide +kernel, by decide +kernel, by decide +kernel⟩ rfl) q12)))))
 (q16 (q21 (q27 (q10 q47 (q10 (pv 5) (q10 (pv 6) (q10 (pv 7) q12)))))))))))))), ?_⟩
 have hz : ns.length <= sizeLine := sz hl
 refine ⟨_, rfl, a, _, rfl, .inl ha, rfl, _, rfl, ?_⟩
 refine ite2 (fun c => ?_) (fun c => ?_)
 ·have c' : (((ns.map V.int).length : Nat) : Int) = 0 := V.int.inj (of_decide_eq_true c)
  rw [List.length_map] at c'
  have e0 : ns = [] := List.eq_nil_of_length_eq_zero (by omega)
  subst e0
  exact q H .non (Same.refl H) (by rw [q45]; rfl)
 ·have hne : ns ≠ [] := fun z => c (by rw [z]; exact decide_eq_true rfl)
  refine ⟨_, rfl, rfl, _, rfl, ?_⟩
  refine ite2 (fun c2 => ?_) (fun c2 => ?_)
  ·have e0 : e = 0 := p2one (V.int.inj (of_decide_eq_true c2))
   subst e0
   refine ⟨_, rfl, a, _, rfl, .inl ha, szb rfl, fun p hp => q _ _ (q15 hp _) ?_⟩
   rw [q31 hne]
   refine ⟨p, rfl, ?_⟩
   rw [q13, List.length_map]
  ·cases e with
   | zero => exact absurd (decide_eq_true rfl) c2
   | succ e =>
    refine ⟨_, rfl, _, _, rfl, rfl, ⟨by decide, by decide⟩, ?_⟩
    dsimp only
    rw [p2half]
    refine ⟨_, rfl, _, rfl, _, _, rfl, rfl, ?_⟩
    refine ⟨_, rfl, a, rfl, ⟨_, ha⟩, fun D hD => ?_⟩
    refine q411 (g := fun n => .int (if n < least + 2 ^ e then 0 else 1)) ha hD hz (fun n _ H1 Q1 _ q1 => ?_) ?_
    ·refine ⟨_, rfl, _, rfl, _, _, rfl, rfl, _, rfl, ?_⟩
     refine ite2 (fun c3 => ?_) (fun c3 => ?_)
     ·rw [if_pos (of_decide_eq_true c3)] at q1
      exact q1
     ·rw [if_neg (fun z => c3 (decide_eq_true z))] at q1
      exact q1
    have s1 : Same H (upd H D (.lst (ns.map fun n => V.int (if n < least + 2 ^ e then 0 else 1)))) := q15 hD _
    refine ⟨D, _, rfl, SqL.of q13, fun m H2 s2 hm => ?_⟩
    have s02 : Same H H2 := s1.trans s2
    have hm' : TupF H2 m ((ns.map fun n => if n < least + 2 ^ e then (0 : Int) else 1).map V.int) := by rw [List.map_map]; exact hm
    refine ⟨_, rfl, _, rfl, _, rfl, a, rfl, ⟨_, s02.seq ha⟩, fun D2 hD2 => ?_⟩
    refine q185 (p := fun n => decide (n < least + 2 ^ e)) (g := V.int) (s02.seq ha) hD2 hz (fun n _ H1 Q1 _ q1 => ⟨_, rfl, _, rfl, _, _, rfl, rfl, _, rfl, q1⟩) (fun n _ _ H1 Q1 _ q1 => ⟨_, rfl, q1⟩) ?_
    refine ⟨least, D2, _, rfl, SqL.of q13, Nat.le_trans (List.length_filter_le _ _) hl, fun H3 lo s3 hlo => ?_⟩
    have s03 : Same H H3 := s02.trans ((q15 hD2 _).trans s3)
    refine ⟨_, rfl, _, rfl, _, rfl, a, rfl, ⟨_, s03.seq ha⟩, fun D3 hD3 => ?_⟩
    refine q185 (p := fun n => decide (least + 2 ^ e <= n)) (g := V.int) (s03.seq ha) hD3 hz (fun n _ H1 Q1 _ q1 => ⟨_, rfl, _, rfl, _, _, rfl, rfl, _, rfl, q1⟩) (fun n _ _ H1 Q1 _ q1 => ⟨_, rfl, q1⟩) ?_
    refine ⟨least + 2 ^ e, D3, _, rfl, SqL.of q13, Nat.le_trans (List.length_filter_le _ _) hl, fun H4 hi s4 hhi => ?_⟩
    have s34 : Same H3 H4 := (q15 hD3 _).trans s4
    refine ⟨_, rfl, _, rfl, _, rfl, szb rfl, fun p hp => q _ _ (s03.trans (s34.trans (q15 hp _))) ?_⟩
    rw [q216 hne]
    have sp : Same H4 (upd H4 p (.tup [.str "part", .ref m, lo, hi])) := q15 hp _
    have s24 : Same H2 H4 := (q15 hD2 _).trans (s3.trans s34)
    exact ⟨p, m, lo, hi, rfl, q13, (hm'.same s24).same sp, (hlo.same s34).same sp, hhi.same sp⟩
end
abbrev q217 : Nat := 42
inductive isp_tree_of (K : PySem.W.Frag) (vs : List V) (H : Hp) (Q : VK) (E : XK) : Prop
 | mk (b a : Addr) (low : Int) (L : Nat) (ns : List Int) (hz0 : vs = [.ref b, .ref a]) (hz1 : SqT K H b [.int low, .int (L : Int)]) (hz2 : L <= 40) (hz3 : SqL K H a (ns.map V.int)) (hz4 : ns.length <= 1000) (hz5 : Wths low L ns) (hz6 : ∀ (H' : Hp) (v : V), Same H H' -> q25 H' v (grow low L ns) -> Q v H') : isp_tree_of K vs H Q E
def q176 (K : PySem.W.Frag) : Sp := isp_tree_of K
section
variable {P : Program} {w : World} {K : PySem.W.Frag} {mg : Str -> Option Value} {base : Heap}
theorem q560 (d : Def K mg "tree_of" q292 ["bounds", "row"]) (z : Bz mg) (c_grown : Cal P w K mg base q477 "grown" ["least", "many", "row"] (q384 K)) (c_many_worths : Cal P w K mg base q34 "many_worths" ["levels"] (q30 K)) (c_where : Cal P w K mg base q304 "where" ["bounds", "number"] (q215 K)) : Cal P w K mg base q217 "tree_of" ["bounds", "row"] (q176 K) := by
 have sc := q550
 refine d.cal fun f fd F => F.ok sc (fun vs H Q E h => ?_) (fun cdv A outer s H vs Q E hr h => ?_)
 ·obtain ⟨b, a, low, L, ns, rfl, _⟩ := h
  rfl
 obtain ⟨b, a, low, L, ns, rfl, hb, hL, ha, hl, hw, q⟩ := h
 refine ⟨_, (q11 (q152 PassesOwn.never rfl (q91 (pv 1)) (q48 (i := 2) sc.nd rfl (Or.inl rfl))
 (q16 (ps_if (q17 op_ne (pe_fn c_where (hr.mono (by decide)) (by rfl) (q10 (pv 0) (q10 (pv 2) q12))) q47 (q20 _))
 (q16 q84)
 q23)))
 (q16 (q21 (pe_fn c_grown (hr.mono (by decide)) (by rfl) (q10 (pe_ix q22 (pv 0) q14 (fun _ _ => rfl)) (q10 (pe_fn c_many_worths (hr.mono (by decide)) (by rfl) (q10 (pe_ix q22 (pv 0) q14 (fun _ _ => rfl)) q12)) (q10 (pv 1) q12))))))), ?_⟩
 refine ⟨_, rfl, a, rfl, ⟨_, ha⟩, q495 (K := K) (a := a) (xs := ns.map V.int) (fun i σ H2 => ∃ v : Option V, σ = [some (.ref b), some (.ref a), v] /\ H2 = H) ⟨none, rfl, rfl⟩ (fun i σ H2 _ ⟨_, _, e⟩ => by rw [e]; exact ha) ?_ ?_⟩
 ·rintro i x σ H2 hi ⟨v, rfl, rfl⟩
  obtain ⟨n, hn, rfl⟩ := List.mem_map.mp (List.mem_of_getElem? hi)
  refine ⟨_, rfl, _, rfl, b, low, n, L, rfl, hb, hL, rfl, _, rfl, iteNS (by rw [q639 (hw n hn)]) ?_⟩
  exact ⟨_, rfl, rfl⟩
 ·rintro σ H2 ⟨v, rfl, rfl⟩
  refine ⟨_, rfl, b, _, _, _, rfl, rfl, hb, rfl, _, rfl, b, _, _, _, rfl, rfl, hb, rfl, L, rfl, hL, ?_⟩
  exact ⟨_, rfl, L, hL, low, a, ns, rfl, ha, hl, q⟩
end
def q640 : Tr -> Int
 | .non => 0
 | .many n => n
 | .part ms _ _ => ms.length
def q162 : Tr -> Int -> Tr
 | .part _ l r, mk => if mk = 0 then l else r
 | _, _ => .non
theorem q306 (low : Int) (e : Nat) (ns : List Int) : q640 (grow low e ns) = ns.length := by
 by_cases h : ns = []
 ·rw [h, q45]; rfl
 ·cases e with
  | zero => rw [q31 h]; rfl
  | succ e =>
   rw [q216 h]
   show ((List.map _ ns).length : Int) = _
   rw [List.length_map]
abbrev q65 : Nat := 1
inductive isp_size_of (u0 : PySem.W.Frag) (vs : List V) (H : Hp) (Q : VK) (E : XK) : Prop
 | mk (v : V) (t : Tr) (hz0 : vs = [v]) (hz1 : q25 H v t) (hz2 : Q (.int (q640 t)) H) : isp_size_of u0 vs H Q E
def q79 (u0 : PySem.W.Frag) : Sp := isp_size_of u0
section
variable {P : Program} {w : World} {K : PySem.W.Frag} {mg : Str -> Option Value} {base : Heap}
theorem q561 (d : Def K mg "size_of" q294 ["tree"]) (z : Bz mg)  : Cal P w K mg base q65 "size_of" ["tree"] (q79 K) := by
 have sc := q552
 refine d.cal fun f fd F => F.ok sc (fun vs H Q E h => ?_) (fun cdv A outer s H vs Q E hr h => ?_)
 ·obtain ⟨v, t, rfl, _⟩ := h
  rfl
 obtain ⟨v, t, rfl, ht, q⟩ := h
 refine ⟨_, (q11 (ps_if (q17 q156 (pv 0) q63 (q20 _))
 (q16 (q21 q14))
 q23)
 (q11 (ps_if (q17 op_eq (pe_ix q22 (pv 0) q14 (fun _ _ => rfl)) q47 (q20 _))
 (q16 (q21 (pe_ix q22 (pv 0) q14 (fun _ _ => rfl))))
 q23)
 (q16 (q21 (q26 q24 (by rfl) z.len_ q62 (q10 (pe_ix q22 (pv 0) q14 (fun _ _ => rfl)) q12)))))), ?_⟩
 refine ⟨_, rfl, rfl, _, rfl, ?_⟩
 cases t with
 | non =>
  cases ht
  exact ite2 (fun c => q) (fun c => absurd (decide_eq_true rfl) c)
 | many n =>
  obtain ⟨a, rfl, ha⟩ := ht
  refine ite2 (fun c => absurd (of_decide_eq_true c) (by intro z; cases z)) (fun c => ?_)
  refine ⟨_, rfl, a, _, _, _, rfl, rfl, SqT.of ha, rfl, rfl, _, rfl, ?_⟩
  refine ite2 (fun c => ?_) (fun c => absurd (decide_eq_true rfl) c)
  exact ⟨_, rfl, a, _, _, _, rfl, rfl, SqT.of ha, rfl, q⟩
 | part ms l r =>
  obtain ⟨a, m, x, y, rfl, ha, hm, hl, hr'⟩ := ht
  refine ite2 (fun c => absurd (of_decide_eq_true c) (by intro z; cases z)) (fun c => ?_)
  refine ⟨_, rfl, a, _, _, _, rfl, rfl, SqT.of ha, rfl, rfl, _, rfl, ?_⟩
  refine ite2 (fun c => absurd (of_decide_eq_true c) (by decide)) (fun c => ?_)
  refine ⟨_, rfl, a, _, _, _, rfl, rfl, SqT.of ha, rfl, m, _, rfl, .inr hm.sq, ?_⟩
  rw [List.length_map]
  exact q
end
abbrev q57 : Nat := 1
inductive isp_half_of (u0 : PySem.W.Frag) (vs : List V) (H : Hp) (Q : VK) (E : XK) : Prop
 | mk (v : V) (t : Tr) (mk : Int) (hz0 : vs = [v, .int mk]) (hz1 : q25 H v t) (hz2 : (mk = 0 \/ mk = 1)) (hz3 : ∀ u, q25 H u (q162 t mk) -> Q u H) : isp_half_of u0 vs H Q E
def q71 (u0 : PySem.W.Frag) : Sp := isp_half_of u0
section
variable {P : Program} {w : World} {K : PySem.W.Frag} {mg : Str -> Option Value} {base : Heap}
theorem q562 (d : Def K mg "half_of" q293 ["tree", "mark"]) (z : Bz mg)  : Cal P w K mg base q57 "half_of" ["tree", "mark"] (q71 K) := by
 have sc := q551
 refine d.cal fun f fd F => F.ok sc (fun vs H Q E h => ?_) (fun cdv A outer s H vs Q E hr h => ?_)
 ·obtain ⟨v, t, mk, rfl, _⟩ := h
  rfl
 obtain ⟨v, t, mk, rfl, ht, hmk, q⟩ := h
 refine ⟨_, (q11 (ps_if (PW.pt (pw_or (q17 q156 (pv 0) q63 (q20 _)) (q92 (q17 op_eq (pe_ix q22 (pv 0) q14 (fun _ _ => rfl)) q47 (q20 _)))))
 (q16 (q21 q63))
 q23)
 (q16 (q21 (pe_ix q22 (pv 0) (pe_op q29 q14 (pv 1)) (fun _ _ => rfl))))), ?_⟩
 refine ⟨_, rfl, rfl, _, rfl, ?_⟩
 cases t with
 | non =>
  cases ht
  exact ite2 (fun c => q .non rfl) (fun c => absurd (decide_eq_true rfl) c)
 | many n =>
  obtain ⟨a, rfl, ha⟩ := ht
  refine ite2 (fun c => absurd (of_decide_eq_true c) (by intro z; cases z)) (fun c => ?_)
  refine ⟨_, rfl, a, _, _, _, rfl, rfl, SqT.of ha, rfl, rfl, _, rfl, ?_⟩
  exact ite2 (fun c => q .non rfl) (fun c => absurd (decide_eq_true rfl) c)
 | part ms l r =>
  obtain ⟨a, m, x, y, rfl, ha, hm, hl, hr'⟩ := ht
  refine ite2 (fun c => absurd (of_decide_eq_true c) (by intro z; cases z)) (fun c => ?_)
  refine ⟨_, rfl, a, _, _, _, rfl, rfl, SqT.of ha, rfl, rfl, _, rfl, ?_⟩
  refine ite2 (fun c => absurd (of_decide_eq_true c) (by decide)) (fun c => ?_)
  refine ⟨_, rfl, _, rfl, _, _, rfl, rfl, ?_⟩
  rcases hmk with rfl | rfl
  ·exact ⟨a, _, _, _, rfl, rfl, SqT.of ha, rfl, q x hl⟩
  ·exact ⟨a, _, _, _, rfl, rfl, SqT.of ha, rfl, q y hr'⟩
end
def idxs (p : Int -> Bool) : List Int -> List Nat
 | [] => []
 | o :: os => if p o = true then 0 :: (idxs p os).map (· + 1) else (idxs p os).map (· + 1)
theorem q435 {p q r : Int -> Bool} {f : Int -> Int} : ∀ (os : List Int) (k : Nat), (∀ o ∈ os, p o = (q o && r (f o))) -> (idxs p os)[k]? = ((idxs r ((os.filter q).map f))[k]?).bind fun j => (idxs q os)[j]?
 | [], k, _ => by simp [idxs]
 | o :: os, k, h => by
  have h0 := h o (List.mem_cons_self ..)
  have ih := fun k => q435 (p := p) (q := q) (r := r) (f := f) os k fun x hx => h x (List.mem_cons_of_mem _ hx)
  cases hq : q o with
  | false =>
   have hp : p o = false := by rw [h0, hq]; rfl
   simp only [idxs, hp, hq, List.filter_cons, Bool.false_eq_true, if_false, List.getElem?_map, ih]
   cases (idxs r ((os.filter q).map f))[k]? <;> simp
  | true =>
   cases hr : r (f o) with
   | false =>
    have hp : p o = false := by rw [h0, hq, hr]; rfl
    simp only [idxs, hp, hq, hr, List.filter_cons, Bool.false_eq_true, if_false, if_true, List.map_cons, List.getElem?_map, ih]
    cases (idxs r ((os.filter q).map f))[k]? <;> simp
   | true =>
    have hp : p o = true := by rw [h0, hq, hr]; rfl
    cases k with
    | zero => simp [idxs, hp, hq, hr, List.filter_cons]
    | succ k =>
     simp only [idxs, hp, hq, hr, List.filter_cons, if_true, List.map_cons, List.getElem?_cons_succ, List.getElem?_map, ih]
     cases (idxs r ((os.filter q).map f))[k]? <;> simp
theorem q436 : ∀ (os : List Int), idxs (fun _ => true) os = List.range os.length
 | [] => rfl
 | o :: os => by
  rw [idxs, if_pos rfl, q436 os, List.length_cons, List.range_succ_eq_map]
def inW : Nat -> Int -> List Int -> Bool
 | _, _, [] => true
 | 0, _, _ :: _ => false
 | e + 1, o, w :: ws => (o / 2 ^ e == w) && inW e (o % 2 ^ e) ws
def mk0 (e : Nat) (o : Int) : Int := if o < 2 ^ e then 0 else 1
def halfO (e : Nat) (w : Int) (os : List Int) : List Int := (os.filter fun o => mk0 e o == w).map fun o => o % 2 ^ e
theorem q641 {e : Nat} {o : Int} (h0 : 0 <= o) (h1 : o < 2 ^ (e + 1)) : o / 2 ^ e = mk0 e o := by
 have hp : (0 : Int) < 2 ^ e := Int.pow_pos (by decide)
 have hs : (2 : Int) ^ (e + 1) = 2 ^ e + 2 ^ e := by rw [Int.pow_succ]; omega
 unfold mk0
 split
 ·exact Int.ediv_eq_zero_of_lt h0 (by assumption)
 ·have e1 : o = (o - 2 ^ e) + 1 * 2 ^ e := by omega
  rw [e1, Int.add_mul_ediv_right _ _ (by omega), Int.ediv_eq_zero_of_lt (by omega) (by omega)]
  rfl
def spots (L : Nat) (os ws : List Int) : List Nat := idxs (fun o => inW L o ws) os
theorem q563 {e : Nat} {os ws : List Int} {w : Int} (h : ∀ o ∈ os, 0 <= o /\ o < (2 : Int) ^ (e + 1)) (k : Nat) :
  (spots (e + 1) os (w :: ws))[k]? = ((spots e (halfO e w os) ws)[k]?).bind fun j => (idxs (fun o => mk0 e o == w) os)[j]? := by
 unfold spots halfO
 refine q435 os k fun o ho => ?_
 obtain ⟨h0, h1⟩ := h o ho
 show ((o / 2 ^ e == w) && inW e (o % 2 ^ e) ws) = _
 rw [q641 h0 h1]
def plc (mk : Int) : List Int -> Int -> Nat -> Option Nat
 | [], _, _ => none
 | m :: r, l, i => if m = mk then (if l = 0 then some i else plc mk r (l - 1) (i + 1)) else plc mk r l (i + 1)
theorem q385 {w : Int} {f : Int -> Int} : ∀ (os : List Int) (j i : Nat), plc w (os.map f) (j : Int) i = ((idxs (fun o => f o == w) os)[j]?).map (· + i)
 | [], j, i => by simp [plc, idxs]
 | o :: os, j, i => by
  rw [List.map_cons, plc, idxs]
  by_cases c : f o = w
  ·rw [if_pos c, if_pos (beq_iff_eq.mpr c)]
   cases j with
   | zero => simp
   | succ j =>
    rw [if_neg (by omega), show (((j + 1 : Nat) : Int) - 1) = (j : Int) by omega, q385 os j (i + 1), List.getElem?_cons_succ, List.getElem?_map, Option.map_map]
    congr 1
    funext x
    show x + (i + 1) = (x + 1) + i
    omega
  ·rw [if_neg c, if_neg (by rw [beq_iff_eq]; exact c), q385 os j (i + 1), List.getElem?_map, Option.map_map]
   congr 1
   funext x
   show x + (i + 1) = (x + 1) + i
   omega
def InO (L : Nat) (os : List Int) : Prop := ∀ o ∈ os, 0 <= o /\ o < (2 : Int) ^ L
def growO : Nat -> List Int -> Tr
 | 0, os => if os = [] then .non else .many os.length
 | e + 1, os => if os = [] then .non else .part (os.map (mk0 e)) (growO e (os.filter fun o => decide (o < 2 ^ e))) (growO e ((os.filter fun o => decide ((2 : Int) ^ e <= o)).map fun o => o - 2 ^ e))
theorem q130 (e : Nat) : growO e [] = .non := by cases e <;> rfl
theorem q244 {os : List Int} (h : os ≠ []) : growO 0 os = .many os.length := by unfold growO; rw [if_neg h]
theorem q80 {e : Nat} {os : List Int} (h : os ≠ []) : growO (e + 1) os = .part (os.map (mk0 e)) (growO e (os.filter fun o => decide (o < 2 ^ e))) (growO e ((os.filter fun o => decide ((2 : Int) ^ e <= o)).map fun o => o - 2 ^ e)) := by
 rw [growO, if_neg h]
theorem halfO_0 {e : Nat} {os : List Int} (h : InO (e + 1) os) : halfO e 0 os = os.filter fun o => decide (o < 2 ^ e) := by
 unfold halfO
 have e1 : (os.filter fun o => mk0 e o == 0) = os.filter fun o => decide (o < 2 ^ e) := List.filter_congr fun o _ => by
  unfold mk0
  by_cases c : o < 2 ^ e
  ·rw [if_pos c, decide_eq_true c]; rfl
  ·rw [if_neg c, decide_eq_false c]; rfl
 rw [e1]
 have e2 : ∀ o ∈ (os.filter fun o => decide (o < (2 : Int) ^ e)), o % 2 ^ e = o := fun o ho => by
  obtain ⟨h1, h2⟩ := List.mem_filter.mp ho
  exact Int.emod_eq_of_lt (h o h1).1 (of_decide_eq_true h2)
 rw [List.map_congr_left e2, List.map_id']
theorem halfO_1 {e : Nat} {os : List Int} (h : InO (e + 1) os) : halfO e 1 os = (os.filter fun o => decide ((2 : Int) ^ e <= o)).map fun o => o - 2 ^ e := by
 unfold halfO
 have e1 : (os.filter fun o => mk0 e o == 1) = os.filter fun o => decide ((2 : Int) ^ e <= o) := List.filter_congr fun o _ => by
  unfold mk0
  by_cases c : o < 2 ^ e
  ·rw [if_pos c, decide_eq_false (by omega)]; rfl
  ·rw [if_neg c, decide_eq_true (by omega)]; rfl
 rw [e1]
 refine List.map_congr_left fun o ho => ?_
 obtain ⟨h1, h2⟩ := List.mem_filter.mp ho
 have h3 : (2 : Int) ^ e <= o := of_decide_eq_true h2
 have h4 := (h o h1).2
 have hs : (2 : Int) ^ (e + 1) = 2 ^ e + 2 ^ e := by rw [Int.pow_succ]; omega
 have e3 : o = (o - 2 ^ e) + 2 ^ e := by omega
 have e4 : o % 2 ^ e = (o - 2 ^ e) % 2 ^ e := by rw [e3, Int.add_emod_right]; congr 1; omega
 rw [e4]
 exact Int.emod_eq_of_lt (by omega) (by omega)
theorem q46 {e : Nat} {os : List Int} {w : Int} : InO e (halfO e w os) := fun o ho => by
 obtain ⟨x, _, rfl⟩ := List.mem_map.mp ho
 have hp : (0 : Int) < 2 ^ e := Int.pow_pos (by decide)
 exact ⟨Int.emod_nonneg _ (by omega), Int.emod_lt_of_pos _ hp⟩
theorem q163 {e : Nat} {os : List Int} {w : Int} : (halfO e w os).length <= os.length := by
 unfold halfO
 rw [List.length_map]
 exact List.length_filter_le _ _
theorem q245 {e : Nat} {os : List Int} {w : Int} (h : InO (e + 1) os) (hw : w = 0 \/ w = 1) : q162 (growO (e + 1) os) w = growO e (halfO e w os) := by
 by_cases hn : os = []
 ·subst hn
  rw [q130]
  show Tr.non = growO e ([] : List Int)
  rw [q130]
 ·rw [q80 hn]
  rcases hw with rfl | rfl
  ·rw [halfO_0 h]; rfl
  ·rw [halfO_1 h]; rfl
theorem q349 (e : Nat) (os : List Int) : q640 (growO e os) = os.length := by
 by_cases h : os = []
 ·rw [h, q130]; rfl
 ·cases e with
  | zero => rw [q244 h]; rfl
  | succ e =>
   rw [q80 h]
   show ((List.map _ os).length : Int) = _
   rw [List.length_map]
theorem q642 {L : Nat} {ws : List Int} : spots L [] ws = [] := rfl
theorem q478 {L : Nat} {os : List Int} : spots L os [] = List.range os.length := by
 unfold spots
 have e : (fun o => inW L o []) = fun _ => true := by
  funext o
  cases L <;> rfl
 rw [e, q436]
theorem q564 {e : Nat} {os ws : List Int} {w : Int} (h : InO (e + 1) os) (k : Nat) :
  (spots (e + 1) os (w :: ws))[k]? = ((spots e (halfO e w os) ws)[k]?).bind fun j => plc w (os.map (mk0 e)) (j : Int) 0 := by
 rw [q563 h]
 congr 1
 funext j
 rw [q385]
 simp
def B01 (l : List Int) : Prop := ∀ m ∈ l, m = 0 \/ m = 1
theorem q437 {l : List Int} {i : Nat} {m : Int} (h : l[i]? = some m) : l.drop i = m :: l.drop (i + 1) := by
 obtain ⟨h1, h2⟩ := List.getElem?_eq_some_iff.mp h
 rw [List.drop_eq_getElem_cons h1, h2]
theorem plc_cons {mk m l : Int} {r : List Int} {i : Nat} : plc mk (m :: r) l i = if m = mk then (if l = 0 then some i else plc mk r (l - 1) (i + 1)) else plc mk r l (i + 1) := rfl
theorem q95 (ms : List Int) (k : Nat) : cutV (ms.map V.int) none (some (k : Int)) = (ms.take k).map V.int := by
 unfold cutV
 rw [HT.q685, HT.q684, List.drop_zero, Nat.sub_zero, List.map_take]
 by_cases h : k <= (ms.map V.int).length
 ·rw [Nat.min_eq_left h]
 ·rw [Nat.min_eq_right (by omega), List.take_length, List.take_of_length_le (by omega)]
abbrev q177 : Nat := 1
inductive isp_place_of (K : PySem.W.Frag) (vs : List V) (H : Hp) (Q : VK) (E : XK) : Prop
 | mk (t : Addr) (ms : List Int) (mk num : Int) (p : Nat) (hz0 : vs = [.ref t, .int mk, .int num]) (hz1 : SqT K H t (ms.map V.int)) (hz2 : plc mk ms num 0 = some p) (hz3 : ∀ H', Same H H' -> Q (.int (p : Nat)) H') : isp_place_of K vs H Q E
def q198 (K : PySem.W.Frag) : Sp := isp_place_of K
section
variable {P : Program} {w : World} {K : PySem.W.Frag} {mg : Str -> Option Value} {base : Heap}
theorem q479 (d : Def K mg "place_of" q238 ["marks", "mark", "number"]) (z : Bz mg)  : Cal P w K mg base q177 "place_of" ["marks", "mark", "number"] (q198 K) := by
 have sc := q472
 refine d.cal fun f fd F => F.ok sc (fun vs H Q E h => ?_) (fun cdv A outer s H vs Q E hr h => ?_)
 ·obtain ⟨t, ms, mk, num, p0, rfl, _⟩ := h
  rfl
 obtain ⟨t, ms, mk, num, p0, rfl, ht, hp0, q⟩ := h
 refine ⟨_, (q11 (q19 (i := 3) sc.nd rfl (Or.inl rfl) (pv 2))
 (q11 (q152 PassesOwn.never rfl (pi_enum rfl z.enumerate_ (q10 (pv 0) q12)) (q493 rfl (q94 (q48 (i := 4) sc.nd rfl (Or.inl rfl)) (q94 (q48 (i := 5) sc.nd rfl (Or.inl rfl)) q359)))
 (q16 (ps_if (q17 op_eq (pv 5) (pv 1) (q20 _))
 (q11 (ps_if (q17 op_eq (pv 3) q14 (q20 _))
 (q16 (q21 (pv 4)))
 q23)
 (q16 (q19 (i := 3) sc.nd rfl (Or.inl rfl) (pe_op q54 (pv 3) q14))))
 q23)))
 (q16 q84))), ?_⟩
 refine ⟨_, rfl, _, rfl, t, rfl, ⟨_, ht⟩, for_enum (xs := ms.map V.int) (fun i σ H2 => ∃ (L : Int) (v u : Option V), σ = [some (.ref t), some (.int mk), some (.int num), some (.int L), v, u] /\ Same H H2 /\ plc mk (ms.drop i) L i = some p0)
  ⟨num, none, none, rfl, Same.refl H, hp0⟩ (fun i σ H2 _ ⟨_, _, _, _, s2, _⟩ => s2.seqT ht) ?_ ?_⟩
 ·rintro i x σ H2 p hx ⟨L, v, u, rfl, s2, hp⟩ hpn
  obtain ⟨m, gm, rfl⟩ : ∃ m, ms[i]? = some m /\ V.int m = x := by
   rw [List.getElem?_map] at hx
   cases e : ms[i]? with
   | none => rw [e] at hx; cases hx
   | some m => rw [e] at hx; exact ⟨m, rfl, Option.some.inj hx⟩
  have s3 : Same H (upd H2 p (.tup [.int (i : Nat), .int m])) := s2.trans (q15 hpn _)
  rw [q437 gm, plc_cons] at hp
  refine ⟨p, _, rfl, SqT.of q13, rfl, _, _, rfl, _, _, rfl, rfl, ?_⟩
  refine ⟨_, rfl, _, rfl, rfl, _, rfl, ?_⟩
  refine ite2 (fun c => ?_) (fun c => ?_)
  ·have c' : m = mk := V.int.inj (of_decide_eq_true c)
   rw [if_pos c'] at hp
   refine ⟨_, rfl, rfl, _, rfl, ?_⟩
   refine ite2 (fun c2 => ?_) (fun c2 => ?_)
   ·have c2' : L = 0 := V.int.inj (of_decide_eq_true c2)
    rw [if_pos c2'] at hp
    cases hp
    exact ⟨_, rfl, q _ s3⟩
   ·have c2' : ¬ L = 0 := fun z => c2 (by rw [z]; exact decide_eq_true rfl)
    rw [if_neg c2'] at hp
    exact ⟨_, rfl, _, _, rfl, rfl, _, _, _, rfl, s3, hp⟩
  ·have c' : ¬ m = mk := fun z => c (by rw [z]; exact decide_eq_true rfl)
   rw [if_neg c'] at hp
   exact ⟨_, _, _, rfl, s3, hp⟩
 ·rintro σ H2 ⟨L, v, u, rfl, s2, hp⟩
  rw [List.length_map, List.drop_length] at hp
  cases hp
end
theorem all_flat (ms : List Int) : (ms.map V.int).all flatV = true := by
 rw [List.all_eq_true]
 intro x hx
 obtain ⟨i, _, rfl⟩ := List.mem_map.mp hx
 rfl
theorem q643 (ms : List Int) (m : Int) : (ms.map V.int).countP (fun y => eqV y (.int m)) = ms.count m := by
 rw [List.countP_map, List.count_eq_countP]
 rfl
abbrev q164 : Nat := 1
inductive isp_ahead (u0 : PySem.W.Frag) (vs : List V) (H : Hp) (Q : VK) (E : XK) : Prop
 | mk (t : Addr) (ms : List Int) (mk : Int) (pl : Nat) (hz0 : vs = [.ref t, .int mk, .int (pl : Int)]) (hz1 : TupF H t (ms.map V.int)) (hz2 : ∀ H', Same H H' -> Q (.int ((ms.take pl).count mk : Nat)) H') : isp_ahead u0 vs H Q E
def q178 (u0 : PySem.W.Frag) : Sp := isp_ahead u0
section
variable {P : Program} {w : World} {K : PySem.W.Frag} {mg : Str -> Option Value} {base : Heap}
theorem ok_ahead (d : Def K mg "ahead" q469 ["marks", "mark", "place"]) (z : Bz mg)  : Cal P w K mg base q164 "ahead" ["marks", "mark", "place"] (q178 K) := by
 have sc := sc_ahead
 refine d.cal fun f fd F => F.ok sc (fun vs H Q E h => ?_) (fun cdv A outer s H vs Q E hr h => ?_)
 ·obtain ⟨t, ms, mk, pl, rfl, _⟩ := h
  rfl
 obtain ⟨t, ms, mk, pl, rfl, ht, q⟩ := h
 refine ⟨_, (q16 (q21 (pe_bmF PySem.F.plainAttrs_tuple PySem.F.slot_tuple_count PySem.F.type_tuple_count q599 (q41 q157 (pv 0) q52 (q44 (q26 (q586 rfl) (by rfl) z.max_ bt_max (q10 (pv 2) (q10 q14 q12))))) (q10 (pv 1) q12)))), ?_⟩
 have e1 : (if (0 : Int) > (pl : Int) then (0 : Int) else (pl : Int)) = (pl : Int) := if_neg (by omega)
 refine ⟨_, rfl, _, rfl, _, _, rfl, _, rfl, t, _, rfl, ht, fun p H1 s1 h1 => ?_⟩
 rw [e1, q95] at h1
 obtain ⟨o, ho, hc, hd⟩ := id h1
 refine ⟨⟨p, o, _, rfl, ho, hc, hd⟩, _, rfl, p, _, _, rfl, rfl, h1.sq, rfl, all_flat _, ?_⟩
 rw [q643]
 exact q H1 s1
end
abbrev G3 := List Int × Nat × Nat
def GoodS (L : Nat) (g : G3) : Prop := InO L g.1 /\ g.2.1 <= g.2.2 /\ g.2.2 <= g.1.length /\ g.1.length <= 300
def led1 (e : Nat) (w : Int) (g : G3) : G3 := (halfO e w g.1, ((g.1.map (mk0 e)).take g.2.1).count w, ((g.1.map (mk0 e)).take g.2.2).count w)
def ledS : Nat -> List Int -> G3 -> G3
 | _, [], g => g
 | 0, _ :: _, g => g
 | e + 1, w :: ws, g => ledS e ws (led1 e w g)
theorem q60 (L : Nat) (g : G3) : ledS L [] g = g := by cases L <;> rfl
theorem q73 (e : Nat) (w : Int) (ws : List Int) (g : G3) : ledS (e + 1) (w :: ws) g = ledS e ws (led1 e w g) := rfl
theorem q271 (e : Nat) (w : Int) (os : List Int) : (os.map (mk0 e)).count w = (halfO e w os).length := by
 unfold halfO
 rw [List.length_map, List.count_eq_countP, List.countP_map, List.countP_eq_length_filter]
 rfl
theorem q131 {e : Nat} {w : Int} {g : G3} (h : GoodS (e + 1) g) : GoodS e (led1 e w g) := by
 obtain ⟨h1, h2, h3, h4⟩ := h
 refine ⟨q46, ?_, ?_, Nat.le_trans q163 h4⟩
 ·exact (List.take_sublist_take_left h2).count_le w
 ·show ((g.1.map (mk0 e)).take g.2.2).count w <= (halfO e w g.1).length
  rw [<- q271]
  exact (List.take_sublist _ _).count_le w
theorem q438 {e : Nat} {w : Int} {g : G3} (h : halfO e w g.1 = []) : led1 e w g = ([], 0, 0) := by
 have z : ∀ k, ((g.1.map (mk0 e)).take k).count w = 0 := fun k => by
  have h1 := (List.take_sublist k (g.1.map (mk0 e))).count_le w
  rw [q271, h, List.length_nil] at h1
  omega
 unfold led1
 rw [h, z, z]
theorem q517 : ∀ (e : Nat) (ws : List Int), ledS e ws ([], 0, 0) = ([], 0, 0)
 | e, [] => q60 e _
 | 0, _ :: _ => rfl
 | e + 1, w :: ws => by
  rw [q73, q438 (e := e) (w := w) (g := ([], 0, 0)) rfl]
  exact q517 e ws
def manyG (gs : List G3) : Int := (gs.map fun g => (g.2.2 : Int) - g.2.1).sum
theorem cnt01 {e : Nat} (os : List Int) (k : Nat) : ((os.map (mk0 e)).take k).count 0 + ((os.map (mk0 e)).take k).count 1 = min k os.length := by
 have z : ∀ l : List Int, (l.map (mk0 e)).count 0 + (l.map (mk0 e)).count 1 = l.length := fun l => by
  induction l with
  | nil => rfl
  | cons x l ih =>
   rw [List.map_cons, List.count_cons, List.count_cons, List.length_cons]
   unfold mk0 at ih ⊢
   by_cases c : x < 2 ^ e
   ·simp only [c, if_true] at ih ⊢
    simp
    omega
   ·simp only [c, if_false] at ih ⊢
    simp
    omega
 rw [<- List.map_take, z, List.length_take]
theorem q350 {p q : Int -> Bool} : ∀ {os : List Int}, (∀ o ∈ os, p o = q o) -> idxs p os = idxs q os
 | [], _ => rfl
 | o :: os, h => by
  rw [idxs, idxs, h o (List.mem_cons_self ..), q350 fun x hx => h x (List.mem_cons_of_mem _ hx)]
def StrAt (H : Hp) (L : Nat) (v : V) (g : G3) : Prop := ∃ t u, v = .ref t /\ H t = some (.tup [u, .int (g.2.1 : Int), .int (g.2.2 : Int)]) /\ q25 H u (growO L g.1)
def GatAt (H : Hp) (L : Nat) (xs : List V) (gs : List G3) : Prop := xs.length = gs.length /\ ∀ (j : Nat) (x : V) (g : G3), xs[j]? = some x -> gs[j]? = some g -> StrAt H L x g
theorem StrAt.tk {H H' : Hp} {L : Nat} {v : V} {g : G3} (h : StrAt H L v g) (k : TKeep H H') : StrAt H' L v g := by
 obtain ⟨t, u, e, h1, h2⟩ := h
 exact ⟨t, u, e, (k _ _).1 h1, h2.tk k⟩
theorem GatAt.tk {H H' : Hp} {L : Nat} {xs : List V} {gs : List G3} (h : GatAt H L xs gs) (k : TKeep H H') : GatAt H' L xs gs := ⟨h.1, fun j x g h1 h2 => (h.2 j x g h1 h2).tk k⟩
theorem GatAt.same {H H' : Hp} {L : Nat} {xs : List V} {gs : List G3} (h : GatAt H L xs gs) (s : Same H H') : GatAt H' L xs gs := h.tk (.same s)
theorem GatAt.nil (H : Hp) (L : Nat) : GatAt H L [] [] := ⟨rfl, fun j x g h1 _ => by simp at h1⟩
theorem q386 {α : Type} {l : List α} {x y : α} {j : Nat} (h : (l ++ [x])[j]? = some y) : (j < l.length /\ l[j]? = some y) \/ (j = l.length /\ y = x) := by
 by_cases hj : j < l.length
 ·rw [List.getElem?_append_left hj] at h
  exact .inl ⟨hj, h⟩
 ·have hlt : j < (l ++ [x]).length := (List.getElem?_eq_some_iff.mp h).1
  rw [List.length_append, List.length_singleton] at hlt
  have e : j = l.length := by omega
  subst e
  rw [List.getElem?_append_right (Nat.le_refl _), Nat.sub_self] at h
  exact .inr ⟨rfl, (Option.some.inj h).symm⟩
theorem GatAt.snoc {H : Hp} {L : Nat} {xs : List V} {gs : List G3} {x : V} {g : G3} (h : GatAt H L xs gs) (hx : StrAt H L x g) : GatAt H L (xs ++ [x]) (gs ++ [g]) := by
 refine ⟨by rw [List.length_append, List.length_append, h.1] <;> rfl, fun j y k h1 h2 => ?_⟩
 have hl := h.1
 rcases q386 h1 with ⟨a1, a2⟩ | ⟨a1, a2⟩
 ·rcases q386 h2 with ⟨b1, b2⟩ | ⟨b1, b2⟩
  ·exact h.2 j y k a2 b2
  ·omega
 ·rcases q386 h2 with ⟨b1, b2⟩ | ⟨b1, b2⟩
  ·omega
  ·rw [a2, b2]; exact hx
theorem Same.own {H H' : Hp} {r : Addr} {o : HO} (k : Same H H') (hr : H r = none) : Same H (upd H' r o) := fun c u z => by
 rw [q36 (q33 z hr)]
 exact k c u z
theorem q644 {H : Hp} {e : Nat} {os : List Int} (h : q25 H .non (growO e os)) : os = [] := by
 apply Classical.byContradiction
 intro hn
 cases e with
 | zero =>
  rw [q244 hn] at h
  obtain ⟨a, z, _⟩ := h
  cases z
 | succ e =>
  rw [q80 hn] at h
  obtain ⟨a, m, x, y, z, _⟩ := h
  cases z
abbrev q61 : Nat := 2
def q66 (K : PySem.W.Frag) : Sp := fun vs H Q _ => ∃ (v : V) (wy : Addr) (L : Nat) (ws : List Int) (g : G3), vs = [v, .ref wy] /\ StrAt H L v g /\ GoodS L g /\ SqT K H wy (ws.map V.int) /\ ws.length <= L /\ B01 ws /\
 ∀ (H' : Hp) (v' : V), Same H H' -> StrAt H' (L - ws.length) v' (ledS L ws g) -> Q v' H'
abbrev k_led : Nat := 3
inductive isp_led (K : PySem.W.Frag) (vs : List V) (H : Hp) (Q : VK) (E : XK) : Prop
 | mk (ga wy : Addr) (xs : List V) (L : Nat) (ws : List Int) (gs : List G3) (hz0 : vs = [.ref ga, .ref wy]) (hz1 : SqL K H ga xs) (hz2 : GatAt H L xs gs) (hz3 : (∀ g ∈ gs, GoodS L g)) (hz4 : gs.length <= 1000) (hz5 : SqT K H wy (ws.map V.int)) (hz6 : ws.length <= L) (hz7 : B01 ws) (hz8 : ∀ (H' : Hp) (D : Addr) (ys : List V), Same H H' -> H' D = some (.lst ys) -> H D = none -> GatAt H' (L - ws.length) ys (gs.map (ledS L ws)) -> Q (.ref D) H') : isp_led K vs H Q E
def q218 (K : PySem.W.Frag) : Sp := isp_led K
abbrev q39 : Nat := 1
inductive isp_many_in (K : PySem.W.Frag) (vs : List V) (H : Hp) (Q : VK) (E : XK) : Prop
 | mk (ga : Addr) (xs : List V) (L : Nat) (gs : List G3) (hz0 : vs = [.ref ga]) (hz1 : SqL K H ga xs) (hz2 : GatAt H L xs gs) (hz3 : gs.length <= 1000) (hz4 : ∀ H', Same H H' -> Q (.int (manyG gs)) H') : isp_many_in K vs H Q E
def q38 (K : PySem.W.Frag) : Sp := isp_many_in K
section
variable {P : Program} {w : World} {K : PySem.W.Frag} {mg : Str -> Option Value} {base : Heap}
theorem q565 (d : Def K mg "many_in" q213 ["gathering"]) (z : Bz mg)  : Cal P w K mg base q39 "many_in" ["gathering"] (q38 K) := by
 have sc := q553
 refine d.cal fun f fd F => F.ok sc (fun vs H Q E h => ?_) (fun cdv A outer s H vs Q E hr h => ?_)
 ·obtain ⟨ga, xs, L, gs, rfl, _⟩ := h
  rfl
 obtain ⟨ga, xs, L, gs, rfl, hga, hg, hl, q⟩ := h
 refine ⟨_, (q16 (q21 (q26 (q412 rfl) (by rfl) z.sum_ bt_sum (q10 (q232 (cl := []) (cn := []) (N := []) (fr := []) (sc0 := q18 q213) rfl (q91 (pv 0)) (fun C s₂ H₂ fp => (pe_op q54 (pe_ix (q365 (K := K) rfl) (pv 0) q14 (fun _ _ => rfl)) (pe_ix (q365 (K := K) rfl) (pv 0) q14 (fun _ _ => rfl)))) (by with_unfolding_all rfl) trivial rfl rfl rfl ⟨by decide +kernel, by decide +kernel, by decide +kernel, by decide +kernel, by decide +kernel, by decide +kernel, by decide +kernel⟩ rfl) q12)))), ?_⟩
 have hxl := hg.1
 refine ⟨_, rfl, ga, rfl, ⟨_, hga⟩, fun D hD => ?_⟩
 refine q234 (xs := xs) (sz (by omega)) (fun i ys H2 => ys = (gs.take i).map (fun g => V.int ((g.2.2 : Int) - g.2.1)) /\ i <= gs.length /\ H2 = upd H D (.lst ys)) ⟨by simp, Nat.zero_le _, rfl⟩ (fun i ys H2 ⟨_, _, e⟩ => by rw [e]; exact (q15 hD _).seq hga)
  (fun i ys H2 ⟨e1, e2, e3⟩ => ⟨by rw [e3]; exact q13, by rw [e1, List.length_map, List.length_take]; omega⟩) ?_ ?_
 ·rintro i x ys H2 hx ⟨e1, e2, rfl⟩
  have hi : i < gs.length := by rw [<- hxl]; exact (List.getElem?_eq_some_iff.mp hx).1
  have gi : gs[i]? = some gs[i] := List.getElem?_eq_getElem hi
  generalize gs[i] = g at gi
  obtain ⟨t, u, rfl, ht, _⟩ := hg.2 i x g hx gi
  have ht' : SqT K (upd H D (.lst ys)) t [u, .int (g.2.1 : Int), .int (g.2.2 : Int)] := SqT.of (q15 hD _ _ _ ht)
  refine ⟨_, rfl, t, _, _, _, rfl, rfl, ht', rfl, _, rfl, t, _, _, _, rfl, rfl, ht', rfl, _, _, rfl, rfl, q13, ?_, by omega, by rw [q228]⟩
  rw [List.take_add_one, gi, List.map_append, <- e1]
  rfl
 ·rintro ys H2 ⟨e1, e2, rfl⟩
  rw [hxl, List.take_length] at e1
  refine ⟨D, gs.map (fun (g : G3) => (g.2.2 : Int) - (g.2.1 : Int)), rfl, SqL.of ?_, q _ (q15 hD _)⟩
  rw [q13, e1, List.map_map]
  rfl
theorem q339 (d : Def K mg "led_stretch" q138 ["stretch", "way"]) (z : Bz mg) (c_ahead : Cal P w K mg base q164 "ahead" ["marks", "mark", "place"] (q178 K)) (c_half_of : Cal P w K mg base q57 "half_of" ["tree", "mark"] (q71 K)) : Cal P w K mg base q61 "led_stretch" ["stretch", "way"] (q66 K) := by
 have sc := q332
 refine d.cal fun f fd F => F.ok sc (fun vs H Q E h => ?_) (fun cdv A outer s H vs Q E hr h => ?_)
 ·obtain ⟨v, wy, L, ws, g, rfl, _⟩ := h
  rfl
 obtain ⟨v, wy, L, ws, g, rfl, ⟨t, u, rfl, ht, hu⟩, hgood, hw, hwl, h01, q⟩ := h
 refine ⟨_, (q11 (q19 (i := 2) sc.nd rfl (Or.inl rfl) (pe_ix q22 (pv 0) q14 (fun _ _ => rfl)))
 (q11 (q19 (i := 3) sc.nd rfl (Or.inl rfl) (pe_ix q22 (pv 0) q14 (fun _ _ => rfl)))
 (q11 (q19 (i := 4) sc.nd rfl (Or.inl rfl) (pe_ix q22 (pv 0) q14 (fun _ _ => rfl)))
 (q11 (q152 PassesOwn.never rfl (q494 (pv 1)) (q48 (i := 5) sc.nd rfl (Or.inl rfl))
 (q11 (q19 (i := 6) sc.nd rfl (Or.inl rfl) (pe_fn c_half_of (hr.mono (by decide)) (by rfl) (q10 (pv 2) (q10 (pv 5) q12))))
 (q11 (ps_if (q17 q156 (pv 6) q63 (q20 _))
 (q16 (q21 (q27 (q10 q63 (q10 q14 (q10 q14 q12))))))
 q23)
 (q11 (q19 (i := 3) sc.nd rfl (Or.inl rfl) (pe_fn c_ahead (hr.mono (by decide)) (by rfl) (q10 (pe_ix q22 (pv 2) q14 (fun _ _ => rfl)) (q10 (pv 5) (q10 (pv 3) q12)))))
 (q11 (q19 (i := 4) sc.nd rfl (Or.inl rfl) (pe_fn c_ahead (hr.mono (by decide)) (by rfl) (q10 (pe_ix q22 (pv 2) q14 (fun _ _ => rfl)) (q10 (pv 5) (q10 (pv 4) q12)))))
 (q16 (q19 (i := 2) sc.nd rfl (Or.inl rfl) (pv 6))))))))
 (q16 (q21 (q27 (q10 (pv 2) (q10 (pv 3) (q10 (pv 4) q12)))))))))), ?_⟩
 have htt : SqT K H t [u, .int (g.2.1 : Int), .int (g.2.2 : Int)] := SqT.of ht
 refine ⟨_, rfl, t, _, _, _, rfl, rfl, htt, rfl, _, rfl, t, _, _, _, rfl, rfl, htt, rfl, _, rfl, t, _, _, _, rfl, rfl, htt, rfl, ?_⟩
 refine ⟨_, rfl, wy, rfl, ⟨_, hw⟩, q458 (K := K) (a := wy) (xs := ws.map V.int) (fun i σ H2 => ∃ (u' : V) (g' : G3) (v5 v6 : Option V), σ = [some (.ref t), some (.ref wy), some u', some (.int (g'.2.1 : Int)), some (.int (g'.2.2 : Int)), v5, v6] /\ Same H H2 /\ q25 H2 u' (growO (L - i) g'.1) /\ GoodS (L - i) g' /\ i <= ws.length /\ ledS L ws g = ledS (L - i) (ws.drop i) g')
  ⟨u, g, none, none, rfl, Same.refl H, hu, hgood, Nat.zero_le _, rfl⟩ (fun i σ H2 _ ⟨_, _, _, _, _, s2, _⟩ => s2.seqT hw) ?_ ?_⟩
 ·rintro i x σ H2 hi ⟨u', g', v5, v6, rfl, s2, hu', hg', hil, hled⟩
  obtain ⟨wv, hwv, rfl⟩ : ∃ t, ws[i]? = some t /\ x = .int t := by
   rw [List.getElem?_map] at hi
   cases e : ws[i]? with
   | none => rw [e] at hi; cases hi
   | some m => rw [e] at hi; exact ⟨m, rfl, (Option.some.inj hi).symm⟩
  have hil2 : i < ws.length := (List.getElem?_eq_some_iff.mp hwv).1
  have hw01 := h01 wv (List.mem_of_getElem? hwv)
  obtain ⟨e, he⟩ : ∃ e, L - i = e + 1 := ⟨L - i - 1, by omega⟩
  have he2 : L - (i + 1) = e := by omega
  have hdr : ws.drop i = wv :: ws.drop (i + 1) := by
   obtain ⟨h1, h2⟩ := List.getElem?_eq_some_iff.mp hwv
   rw [List.drop_eq_getElem_cons h1, h2]
  rw [he] at hu' hg' hled
  rw [hdr, q73] at hled
  refine ⟨_, rfl, _, rfl, u', _, wv, rfl, hu', hw01, fun u2 hu2 => ?_⟩
  rw [q245 hg'.1 hw01] at hu2
  refine ⟨_, rfl, rfl, _, rfl, ?_⟩
  refine ite2 (fun c => ?_) (fun c => ?_)
  ·have c' : u2 = .non := of_decide_eq_true c
   subst c'
   have h0 := q644 hu2
   rw [q438 h0, q517] at hled
   refine ⟨szb rfl, fun p hp => q _ _ (s2.trans (q15 hp _)) ?_⟩
   rw [hled]
   exact ⟨p, .non, rfl, q13, by rw [q130]; rfl⟩
  ·have hne : g'.1 ≠ [] := fun z => c (by
    rw [z] at hu2
    have e0 : halfO e wv [] = [] := rfl
    rw [e0, q130] at hu2
    exact decide_eq_true hu2)
   have hu3 := hu'
   rw [q80 hne] at hu3
   obtain ⟨a, m, x1, y1, rfl, ha, hm, _, _⟩ := hu3
   refine ⟨_, rfl, a, _, _, _, rfl, rfl, SqT.of ha, rfl, _, rfl, _, rfl, m, g'.1.map (mk0 e), wv, g'.2.1, rfl, hm, fun H3 s3 => ?_⟩
   refine ⟨_, rfl, a, _, _, _, rfl, rfl, SqT.of (s3 _ _ ha), rfl, _, rfl, _, rfl, m, g'.1.map (mk0 e), wv, g'.2.2, rfl, hm.same s3, fun H4 s4 => ?_⟩
   refine ⟨_, rfl, u2, led1 e wv g', _, _, rfl, s2.trans (s3.trans s4), ?_, ?_, by omega, ?_⟩
   ·rw [he2]; exact (hu2.same s3).same s4
   ·rw [he2]; exact q131 hg'
   ·rw [he2]; exact hled
 ·rintro σ H2 ⟨u', g', v5, v6, rfl, s2, hu', hg', hil, hled⟩
  rw [List.length_map] at hu' hled
  rw [List.drop_length, q60] at hled
  refine ⟨_, rfl, _, rfl, _, rfl, szb rfl, fun p hp => q _ _ (s2.trans (q15 hp _)) ?_⟩
  rw [hled]
  exact ⟨p, u', rfl, q13, hu'.same (q15 hp _)⟩
theorem ok_led (d : Def K mg "led" s_led ["gathering", "way"]) (z : Bz mg) (c_led_stretch : Cal P w K mg base q61 "led_stretch" ["stretch", "way"] (q66 K)) : Cal P w K mg base k_led "led" ["gathering", "way"] (q218 K) := by
 have sc := sc_led
 refine d.cal fun f fd F => F.ok sc (fun vs H Q E h => ?_) (fun cdv A outer s H vs Q E hr h => ?_)
 ·obtain ⟨ga, wy, xs, L, ws, gs, rfl, _⟩ := h
  rfl
 obtain ⟨ga, wy, xs, L, ws, gs, rfl, hga, hg, hgood, hl, hw, hwl, h01, q⟩ := h
 refine ⟨_, (q16 (q21 (q232 (cl := [("way", s.heap.objs.size + 1 + 0)]) (cn := ["way"]) (N := ["way"]) (fr := [1]) (sc0 := q18 s_led) rfl (q91 (pv 0)) (fun C s₂ H₂ fp => (pe_fn c_led_stretch (hr.mono (by decide)) (by rfl) (q10 (pv 0) (q10 (pv 1) q12)))) (by with_unfolding_all rfl) ⟨by with_unfolding_all rfl, trivial⟩ rfl rfl rfl ⟨by decide +kernel, by decide +kernel, by decide +kernel, by decide +kernel, by decide +kernel, by decide +kernel, by decide +kernel⟩ rfl))), ?_⟩
 have hxl := hg.1
 refine ⟨_, rfl, ga, rfl, ⟨_, hga⟩, fun D hD => ?_⟩
 refine q234 (xs := xs) (sz (by omega)) (fun i ys H2 => H2 D = some (.lst ys) /\ ys.length = i /\ Same H H2 /\ GatAt H2 (L - ws.length) ys ((gs.take i).map (ledS L ws))) ⟨q13, rfl, q15 hD _, by simp only [List.take_zero, List.map_nil]; exact GatAt.nil _ _⟩ (fun i ys H2 ⟨_, _, e, _⟩ => e.seq hga)
  (fun i ys H2 ⟨e1, e2, _, _⟩ => ⟨e1, e2⟩) ?_ ?_
 ·rintro i x ys H2 hx ⟨e1, e2, s2, hg2⟩
  have hi : i < gs.length := by rw [<- hxl]; exact (List.getElem?_eq_some_iff.mp hx).1
  have gi : gs[i]? = some gs[i] := List.getElem?_eq_getElem hi
  generalize gs[i] = g at gi
  refine ⟨_, rfl, _, rfl, x, wy, L, ws, g, rfl, (hg.2 i x g hx gi).tk (.same s2), hgood g (List.mem_of_getElem? gi), s2.seqT hw, hwl, h01, fun H3 v' s3 hv' => ?_⟩
  have e3 := s3 _ _ e1
  have tk : TKeep H3 (upd H3 D (.lst (ys ++ [v']))) := TKeep.set e3
  refine ⟨e3, q13, by rw [List.length_append, e2] <;> rfl, Same.own (s2.trans s3) hD, ?_⟩
  rw [List.take_add_one, gi, List.map_append]
  exact ((hg2.same s3).tk tk).snoc (hv'.tk tk)
 ·rintro ys H2 ⟨e1, e2, s2, hg2⟩
  rw [hxl, List.take_length] at hg2
  exact q H2 D ys s2 e1 hD hg2
end
theorem q246 {q : Int -> Bool} : ∀ (os : List Int) (s : Nat), (os.filter q).take ((os.take s).countP q) = (os.take s).filter q
 | [], s => by simp
 | x :: os, 0 => by simp
 | x :: os, s + 1 => by
  rw [List.take_succ_cons, List.countP_cons, List.filter_cons, List.filter_cons]
  by_cases c : q x = true
  ·rw [if_pos c, if_pos c, if_pos c, List.take_succ_cons, q246 os s]
  ·rw [if_neg c, if_neg c, if_neg c, Nat.add_zero]
   exact q246 os s
theorem q247 {e : Nat} {w : Int} (os : List Int) (s : Nat) : (halfO e w os).take (((os.map (mk0 e)).take s).count w) = halfO e w (os.take s) := by
 unfold halfO
 rw [<- List.map_take, <- List.map_take, List.count_eq_countP, List.countP_map]
 congr 1
 exact q246 os s
theorem q81 {e : Nat} {w : Int} {p : Int -> Bool} (os : List Int) : (halfO e w os).countP p = os.countP fun o => (mk0 e o == w) && p (o % 2 ^ e) := by
 unfold halfO
 rw [List.countP_map, List.countP_filter]
 congr 1
 funext o
 show (p (o % 2 ^ e) && (mk0 e o == w)) = _
 rw [Bool.and_comm]
theorem q272 {e : Nat} {o w : Int} {ws : List Int} (h : 0 <= o /\ o < (2 : Int) ^ (e + 1)) : inW (e + 1) o (w :: ws) = ((mk0 e o == w) && inW e (o % 2 ^ e) ws) := by
 show ((o / 2 ^ e == w) && inW e (o % 2 ^ e) ws) = _
 rw [q641 h.1 h.2]
def selO (L : Nat) (os ws : List Int) : List Int := (os.filter fun o => inW L o ws).map fun o => o % 2 ^ (L - ws.length)
theorem mod_pow {a b : Nat} {o : Int} (h : a <= b) : (o % 2 ^ b) % 2 ^ a = o % 2 ^ a := by
 refine Int.emod_emod_of_dvd o ?_
 exact ⟨2 ^ (b - a), by rw [<- Int.pow_add]; congr 1; omega⟩
theorem q518 : ∀ (L : Nat) (ws os : List Int) (s t : Nat), ws.length <= L -> InO L os ->
  ledS L ws (os, s, t) = (selO L os ws, (os.take s).countP (fun o => inW L o ws), (os.take t).countP (fun o => inW L o ws)) \/ (os.length < s \/ os.length < t)
 | L, [], os, s, t, _, hin => by
  by_cases hs : os.length < s
  ·exact .inr (.inl hs)
  ·by_cases ht : os.length < t
   ·exact .inr (.inr ht)
   ·refine .inl ?_
    rw [q60]
    have e : (fun o => inW L o []) = fun _ => true := by
     funext o
     cases L <;> rfl
    unfold selO
    rw [e]
    have c1 : ∀ l : List Int, l.countP (fun _ => true) = l.length := fun l => by simp
    have c2 : (os.filter fun _ => true) = os := by simp
    rw [c1, c1, c2, List.length_take, List.length_take, Nat.min_eq_left (by omega), Nat.min_eq_left (by omega)]
    have c3 : os.map (fun o => o % 2 ^ (L - ([] : List Int).length)) = os := by
     have : ∀ o ∈ os, o % 2 ^ (L - ([] : List Int).length) = id o := fun o ho => Int.emod_eq_of_lt (hin o ho).1 (hin o ho).2
     rw [List.map_congr_left this, List.map_id]
    rw [c3]
 | 0, _ :: _, _, _, _, h, _ => absurd h (Nat.not_succ_le_zero _)
 | e + 1, w :: ws, os, s, t, h, hin => by
  by_cases hs : os.length < s
  ·exact .inr (.inl hs)
  ·by_cases ht : os.length < t
   ·exact .inr (.inr ht)
   ·refine .inl ?_
    have hl : ws.length <= e := by rw [List.length_cons] at h; omega
    rw [q73]
    have hc : ∀ k, ((os.map (mk0 e)).take k).count w <= (halfO e w os).length := fun k => by
     rw [<- q271]
     exact (List.take_sublist _ _).count_le w
    have ih := q518 e ws (halfO e w os) (((os.map (mk0 e)).take s).count w) (((os.map (mk0 e)).take t).count w) hl q46
    rcases ih with ih | ih | ih
    ·show ledS e ws (halfO e w os, _, _) = _
     rw [ih, q247, q247, q81, q81]
     have hcong : ∀ l : List Int, (∀ o ∈ l, o ∈ os) -> l.countP (fun o => (mk0 e o == w) && inW e (o % 2 ^ e) ws) = l.countP fun o => inW (e + 1) o (w :: ws) := fun l hl => by
      refine List.countP_congr fun o ho => ?_
      rw [q272 (hin o (hl o ho))]
     rw [hcong _ fun o ho => List.mem_of_mem_take ho, hcong _ fun o ho => List.mem_of_mem_take ho]
     have hsel : selO e (halfO e w os) ws = selO (e + 1) os (w :: ws) := by
      unfold selO halfO
      rw [List.filter_map, List.filter_filter, List.map_map, List.length_cons, Nat.add_sub_add_right]
      have f1 : (os.filter fun a => ((fun o => inW e o ws) ∘ fun o => o % 2 ^ e) a && (mk0 e a == w)) = os.filter fun o => inW (e + 1) o (w :: ws) := List.filter_congr fun o ho => by
       rw [q272 (hin o ho), Bool.and_comm]
       rfl
      rw [f1]
      refine List.map_congr_left fun o _ => ?_
      exact mod_pow (by omega)
     rw [hsel]
    ·have := hc s; omega
    ·have := hc t; omega
theorem q439 {p : Int -> Bool} : ∀ (os : List Int), (idxs p os).map (fun i => (os[i]?).getD 0) = os.filter p
 | [] => rfl
 | o :: os => by
  rw [idxs, List.filter_cons]
  have e : ((idxs p os).map (· + 1)).map (fun i => ((o :: os)[i]?).getD 0) = os.filter p := by
   rw [List.map_map, <- q439 os]
   refine List.map_congr_left fun i _ => ?_
   simp
  by_cases c : p o = true
  ·rw [if_pos c, if_pos c, List.map_cons, e]
   rfl
  ·rw [if_neg c, if_neg c, e]
theorem q219 {q : Int -> Bool} (os : List Int) {a b : Nat} (h : a <= b) : (os.take a).countP q <= (os.take b).countP q := by
 have e : os.take a = (os.take b).take a := by rw [List.take_take, Nat.min_eq_left h]
 rw [e]
 exact (List.take_sublist a (os.take b)).countP_le
theorem cnt_step {q : Int -> Bool} {os : List Int} {i : Nat} {o : Int} (h : os[i]? = some o) (hq : q o = true) : (os.take (i + 1)).countP q = (os.take i).countP q + 1 := by
 rw [List.take_add_one, h, List.countP_append]
 simp [hq]
theorem q387 {q : Int -> Bool} : ∀ (os : List Int) (j i : Nat), (idxs q os)[j]? = some i -> ∃ o, os[i]? = some o /\ q o = true /\ (os.take i).countP q = j
 | [], j, i, h => by simp [idxs] at h
 | o :: os, j, i, h => by
  rw [idxs] at h
  by_cases c : q o = true
  ·rw [if_pos c] at h
   cases j with
   | zero =>
    have : i = 0 := by simpa using h.symm
    subst this
    exact ⟨o, rfl, c, rfl⟩
   | succ j =>
    have h' : ((idxs q os).map (· + 1))[j]? = some i := by simpa using h
    rw [List.getElem?_map] at h'
    cases e : (idxs q os)[j]? with
    | none => rw [e] at h'; cases h'
    | some i' =>
     rw [e] at h'
     have : i = i' + 1 := (Option.some.inj h').symm
     subst this
     obtain ⟨o', h1, h2, h3⟩ := q387 os j i' e
     exact ⟨o', by simpa using h1, h2, by rw [List.take_succ_cons, List.countP_cons, h3, if_pos c]⟩
  ·rw [if_neg c] at h
   have h' : ((idxs q os).map (· + 1))[j]? = some i := by simpa using h
   rw [List.getElem?_map] at h'
   cases e : (idxs q os)[j]? with
   | none => rw [e] at h'; cases h'
   | some i' =>
    rw [e] at h'
    have : i = i' + 1 := (Option.some.inj h').symm
    subst this
    obtain ⟨o', h1, h2, h3⟩ := q387 os j i' e
    exact ⟨o', by simpa using h1, h2, by rw [List.take_succ_cons, List.countP_cons, h3, if_neg c] <;> rfl⟩
theorem q645 {q : Int -> Bool} : ∀ (os : List Int) (i : Nat) (o : Int), os[i]? = some o -> q o = true -> (os.filter q)[(os.take i).countP q]? = some o
 | [], i, o, h, _ => by simp at h
 | a :: os, 0, o, h, hq => by
  have : a = o := by simpa using h
  subst this
  rw [List.filter_cons, if_pos hq]
  rfl
 | a :: os, i + 1, o, h, hq => by
  have ih := q645 os i o (by simpa using h) hq
  rw [List.filter_cons, List.take_succ_cons, List.countP_cons]
  by_cases c : q a = true
  ·rw [if_pos c, if_pos c]
   simpa using ih
  ·rw [if_neg c, if_neg c]
   simpa using ih
theorem cnt_take (e : Nat) (w : Int) (os : List Int) (s : Nat) : ((os.map (mk0 e)).take s).count w = (os.take s).countP (fun o => mk0 e o == w) := by
 rw [<- List.map_take, List.count_eq_countP, List.countP_map]
 rfl
theorem half_at {e : Nat} {w : Int} {os : List Int} {i : Nat} {o : Int} (h : os[i]? = some o) (hw : mk0 e o = w) : (halfO e w os)[(os.take i).countP (fun o => mk0 e o == w)]? = some (o % 2 ^ e) := by
 unfold halfO
 rw [List.getElem?_map, q645 os i o h (by simp [hw])]
 rfl
theorem q154 {e : Nat} {o w : Int} (h0 : 0 <= o) (h1 : o < 2 ^ (e + 1)) (hw : mk0 e o = w) : o % 2 ^ e + w * 2 ^ e = o := by
 have d := q641 h0 h1
 rw [hw] at d
 have := Int.emod_add_mul_ediv o (2 ^ e)
 rw [d, Int.mul_comm] at this
 exact this
theorem mk0b (e : Nat) (o : Int) : mk0 e o = 0 \/ mk0 e o = 1 := by
 unfold mk0
 by_cases h : o < 2 ^ e
 ·exact .inl (if_pos h)
 ·exact .inr (if_neg h)
def sel (g : G3) : List Int := (g.1.take g.2.2).drop g.2.1
def Wh (gs : List G3) : List Int := gs.flatMap sel
theorem sel_len {L : Nat} {g : G3} (h : GoodS L g) : ((sel g).length : Int) = (g.2.2 : Int) - g.2.1 := by
 obtain ⟨_, h1, h2, _⟩ := h
 unfold sel
 rw [List.length_drop, List.length_take, Nat.min_eq_left h2]
 omega
theorem q107 {L : Nat} : ∀ {gs : List G3}, (∀ g ∈ gs, GoodS L g) -> manyG gs = ((Wh gs).length : Nat)
 | [], _ => rfl
 | g :: gs, h => by
  have ih := q107 (gs := gs) fun x hx => h x (List.mem_cons_of_mem _ hx)
  have hg := sel_len (h g List.mem_cons_self)
  unfold manyG at ih ⊢
  unfold Wh at ih ⊢
  rw [List.map_cons, List.sum_cons, ih, List.flatMap_cons, List.length_append]
  omega
theorem q440 {e : Nat} {w : Int} (a b : List Int) : halfO e w (a ++ b) = halfO e w a ++ halfO e w b := by
 unfold halfO
 rw [List.filter_append, List.map_append]
theorem q165 {e : Nat} {w : Int} (os : List Int) : (os.map (mk0 e)).count w = (halfO e w os).length := q271 e w os
theorem sel_led1 {e : Nat} {w : Int} {g : G3} (h : GoodS (e + 1) g) : sel (led1 e w g) = halfO e w (sel g) := by
 obtain ⟨_, h1, h2, _⟩ := h
 show ((halfO e w g.1).take (((g.1.map (mk0 e)).take g.2.2).count w)).drop (((g.1.map (mk0 e)).take g.2.1).count w) = _
 rw [q247]
 have e1 : g.1.take g.2.2 = g.1.take g.2.1 ++ sel g := by
  unfold sel
  have := (List.take_append_drop g.2.1 (g.1.take g.2.2)).symm
  rw [List.take_take, Nat.min_eq_left h1] at this
  exact this
 rw [e1, q440]
 have e2 : ((g.1.map (mk0 e)).take g.2.1).count w = (halfO e w (g.1.take g.2.1)).length := by
  rw [<- List.map_take]
  exact q165 _
 rw [e2, List.drop_left]
theorem W_led {e : Nat} {w : Int} : ∀ {gs : List G3}, (∀ g ∈ gs, GoodS (e + 1) g) -> Wh (gs.map (led1 e w)) = halfO e w (Wh gs)
 | [], _ => rfl
 | g :: gs, h => by
  have ih := W_led (w := w) (gs := gs) fun x hx => h x (List.mem_cons_of_mem _ hx)
  unfold Wh at ih ⊢
  rw [List.map_cons, List.flatMap_cons, List.flatMap_cons, q440, ih, sel_led1 (h g List.mem_cons_self)]
def fillG (gs : List G3) : List G3 := gs.filter fun g => decide (g.2.1 < g.2.2)
theorem q132 : ∀ {gs : List G3}, Wh (fillG gs) = Wh gs
 | [] => rfl
 | g :: gs => by
  have ih := q132 (gs := gs)
  unfold fillG Wh at ih ⊢
  rw [List.filter_cons]
  by_cases c : g.2.1 < g.2.2
  ·rw [if_pos (decide_eq_true c), List.flatMap_cons, List.flatMap_cons, ih]
  ·rw [if_neg (by simpa using c), ih, List.flatMap_cons]
   have : sel g = [] := by
    unfold sel
    rw [List.drop_eq_nil_iff, List.length_take]
    omega
   rw [this, List.nil_append]
theorem q89 {L : Nat} {gs : List G3} (h : ∀ g ∈ gs, GoodS L g) : ∀ g ∈ fillG gs, GoodS L g := fun g hg => h g (List.mem_filter.mp hg).1
theorem W_in {L : Nat} {gs : List G3} (h : ∀ g ∈ gs, GoodS L g) : InO L (Wh gs) := fun o ho => by
 obtain ⟨g, hg, ho⟩ := List.mem_flatMap.mp ho
 exact (h g hg).1 o (List.mem_of_mem_take (List.mem_of_mem_drop ho))
theorem W_app (a b : List G3) : Wh (a ++ b) = Wh a ++ Wh b := List.flatMap_append
abbrev P2 := Int × Int
def caF (part floor : Int) : Nat -> Int -> List Int -> List P2
 | 0, least, ws => if (ws.length : Int) * part <= floor then [] else [(least, (ws.length : Int))]
 | e + 1, least, ws => if (ws.length : Int) * part <= floor then [] else caF part floor e least (halfO e 0 ws) ++ caF part floor e (least + 2 ^ e) (halfO e 1 ws)
theorem ca_le {part floor : Int} : ∀ (e : Nat) (least : Int) (ws : List Int), ∀ p ∈ caF part floor e least ws, p.2 <= (ws.length : Int)
 | 0, least, ws, p, hp => by
  unfold caF at hp
  by_cases c : (ws.length : Int) * part <= floor
  ·rw [if_pos c] at hp; cases hp
  ·rw [if_neg c] at hp; rw [List.mem_singleton.mp hp]; exact Int.le_refl _
 | e + 1, least, ws, p, hp => by
  unfold caF at hp
  by_cases c : (ws.length : Int) * part <= floor
  ·rw [if_pos c] at hp; cases hp
  ·rw [if_neg c] at hp
   have l0 := q163 (e := e) (os := ws) (w := 0)
   have l1 := q163 (e := e) (os := ws) (w := 1)
   rcases List.mem_append.mp hp with hp | hp
   ·have := ca_le e _ _ p hp; omega
   ·have := ca_le e _ _ p hp; omega
theorem q441 {part floor : Int} (hp : 1 <= part) (hf : 0 <= floor) : ∀ (e : Nat) (least : Int) (ws : List Int), caF part floor e least ws = (caF 1 0 e least ws).filter fun p => decide (floor < p.2 * part) := by
 have mono : ∀ {a b : Int}, a <= b -> a * part <= b * part := fun h => Int.mul_le_mul_of_nonneg_right h (by omega)
 have none_of : ∀ (e : Nat) (least : Int) (ws : List Int), (ws.length : Int) * part <= floor -> (caF 1 0 e least ws).filter (fun p => decide (floor < p.2 * part)) = [] := fun e least ws c => by
  rw [List.filter_eq_nil_iff]
  intro p h
  have := mono (ca_le e least ws p h)
  simp
  omega
 have pos : ∀ {n : Nat}, ¬ (n : Int) * part <= floor -> ¬ (n : Int) * 1 <= 0 := fun {n} c z => c (by
  have : n = 0 := by omega
  rw [this]
  simp
  exact hf)
 intro e
 induction e with
 | zero =>
  intro least ws
  by_cases c : (ws.length : Int) * part <= floor
  ·rw [none_of 0 least ws c]
   unfold caF
   rw [if_pos c]
  ·unfold caF
   rw [if_neg c, if_neg (pos c), List.filter_cons, if_pos (decide_eq_true (by show floor < (ws.length : Int) * part; omega)), List.filter_nil]
 | succ e ih =>
  intro least ws
  by_cases c : (ws.length : Int) * part <= floor
  ·rw [none_of (e + 1) least ws c]
   unfold caF
   rw [if_pos c]
  ·unfold caF
   rw [if_neg c, if_neg (pos c), List.filter_append, ih, ih]
theorem q99 {e : Nat} {w x : Int} {ws : List Int} (h : InO (e + 1) ws) (hw : w = 0 \/ w = 1) (h0 : 0 <= x) (h1 : x < 2 ^ e) : (halfO e w ws).count x = ws.count (x + w * 2 ^ e) := by
 rw [List.count_eq_countP, List.count_eq_countP, q81]
 refine List.countP_congr fun o ho => ?_
 have hin := h o ho
 have hp := p2pos e
 rw [Bool.and_eq_true, beq_iff_eq, beq_iff_eq, beq_iff_eq]
 constructor
 ·rintro ⟨a, b⟩
  rw [<- b]
  exact (q154 hin.1 hin.2 a).symm
 ·intro a
  have e2 : (2 : Int) ^ (e + 1) = 2 * 2 ^ e := by rw [Int.pow_succ]; omega
  have hm : mk0 e o = w := by
   unfold mk0
   rcases hw with rfl | rfl
   ·rw [if_pos (by omega)]
   ·rw [if_neg (by omega)]
  refine ⟨hm, ?_⟩
  have := q154 hin.1 hin.2 hm
  omega
theorem q220 : ∀ (e : Nat) (least : Int) (ws : List Int), InO e ws -> ∀ (w m : Int), (w, m) ∈ caF 1 0 e least ws ↔ (m = (ws.count (w - least) : Nat) /\ 0 < m)
 | 0, least, ws, hin, w, m => by
  have hz : ∀ x ∈ ws, x = 0 := fun x hx => by
   have := hin x hx
   simp at this
   omega
  unfold caF
  by_cases c : (ws.length : Int) * 1 <= 0
  ·rw [if_pos c]
   have : ws = [] := List.eq_nil_of_length_eq_zero (by omega)
   subst this
   simp
   omega
  ·rw [if_neg c, List.mem_singleton]
   have call : ws.count 0 = ws.length := List.count_eq_length.mpr fun b hb => (hz b hb).symm
   constructor
   ·intro z
    cases z
    rw [Int.sub_self, call]
    exact ⟨rfl, by omega⟩
   ·rintro ⟨h1, h2⟩
    have : (w - least) ∈ ws := List.count_pos_iff.mp (by omega)
    have z := hz _ this
    rw [z, call] at h1
    have : w = least := by omega
    rw [this, h1]
 | e + 1, least, ws, hin, w, m => by
  have hp := p2pos e
  have e2 : (2 : Int) ^ (e + 1) = 2 * 2 ^ e := by rw [Int.pow_succ]; omega
  unfold caF
  by_cases c : (ws.length : Int) * 1 <= 0
  ·rw [if_pos c]
   have : ws = [] := List.eq_nil_of_length_eq_zero (by omega)
   subst this
   simp
   omega
  ·rw [if_neg c, List.mem_append, q220 e _ _ q46, q220 e _ _ q46]
   have rng : ∀ {x : Int} {us : List Int}, InO e us -> 0 < us.count x -> 0 <= x /\ x < 2 ^ e := fun h h0 => h _ (List.count_pos_iff.mp h0)
   constructor
   ·rintro (⟨h1, h2⟩ | ⟨h1, h2⟩)
    ·have r := rng q46 (show 0 < (halfO e 0 ws).count (w - least) by omega)
     rw [q99 hin (.inl rfl) r.1 r.2] at h1
     have : w - least + 0 * 2 ^ e = w - least := by omega
     rw [this] at h1
     exact ⟨h1, h2⟩
    ·have r := rng q46 (show 0 < (halfO e 1 ws).count (w - (least + 2 ^ e)) by omega)
     rw [q99 hin (.inr rfl) r.1 r.2] at h1
     have : w - (least + 2 ^ e) + 1 * 2 ^ e = w - least := by omega
     rw [this] at h1
     exact ⟨h1, h2⟩
   ·rintro ⟨h1, h2⟩
    have r := hin _ (List.count_pos_iff.mp (show 0 < ws.count (w - least) by omega))
    by_cases d : w - least < 2 ^ e
    ·refine .inl ⟨?_, h2⟩
     rw [q99 hin (.inl rfl) r.1 d]
     have : w - least + 0 * 2 ^ e = w - least := by omega
     rw [this]
     exact h1
    ·refine .inr ⟨?_, h2⟩
     rw [q99 hin (.inr rfl) (by omega) (by omega)]
     have : w - (least + 2 ^ e) + 1 * 2 ^ e = w - least := by omega
     rw [this]
     exact h1
theorem q166 {e : Nat} {least : Int} {ws : List Int} (hin : InO e ws) {p : P2} (h : p ∈ caF 1 0 e least ws) : least <= p.1 /\ p.1 < least + 2 ^ e /\ 0 < p.2 /\ p.2 = (ws.count (p.1 - least) : Nat) := by
 obtain ⟨h1, h2⟩ := (q220 e least ws hin p.1 p.2).mp h
 have r := hin _ (List.count_pos_iff.mp (show 0 < ws.count (p.1 - least) by omega))
 exact ⟨by omega, by omega, h2, h1⟩
theorem q122 : ∀ (e : Nat) (least : Int) (ws : List Int), InO e ws -> (caF 1 0 e least ws).Pairwise fun p q => p.1 < q.1
 | 0, least, ws, _ => by
  unfold caF
  by_cases c : (ws.length : Int) * 1 <= 0
  ·rw [if_pos c]; exact .nil
  ·rw [if_neg c]; simp
 | e + 1, least, ws, hin => by
  unfold caF
  by_cases c : (ws.length : Int) * 1 <= 0
  ·rw [if_pos c]; exact .nil
  ·rw [if_neg c, List.pairwise_append]
   refine ⟨q122 e _ _ q46, q122 e _ _ q46, fun p hp q hq => ?_⟩
   have := q166 q46 hp
   have := q166 q46 hq
   omega
theorem q388 {e : Nat} (ws : List Int) : (halfO e 0 ws).length + (halfO e 1 ws).length = ws.length := by
 have := cnt01 (e := e) ws ws.length
 rw [Nat.min_self, List.take_of_length_le (by simp), q165, q165] at this
 exact this
def sumM (ps : List P2) : Int := (ps.map fun p => p.2).sum
theorem q442 : ∀ (e : Nat) (least : Int) (ws : List Int), sumM (caF 1 0 e least ws) = (ws.length : Int)
 | 0, least, ws => by
  unfold caF
  by_cases c : (ws.length : Int) * 1 <= 0
  ·rw [if_pos c]; show (0 : Int) = _; omega
  ·rw [if_neg c]; show (ws.length : Int) + 0 = _; omega
 | e + 1, least, ws => by
  unfold caF
  by_cases c : (ws.length : Int) * 1 <= 0
  ·rw [if_pos c]; show (0 : Int) = _; omega
  ·rw [if_neg c]
   have h1 := q442 e least (halfO e 0 ws)
   have h2 := q442 e (least + 2 ^ e) (halfO e 1 ws)
   have h3 := q388 (e := e) ws
   unfold sumM at h1 h2 ⊢
   rw [List.map_append, List.sum_append, h1, h2]
   omega
def bstep (b : Option P2) (p : P2) : Option P2 := match b with
 | none => some p
 | some q => if p.2 > q.2 then some p else some q
def bst (ps : List P2) : Option P2 := ps.foldl bstep none
theorem q480 : ∀ (ps : List P2) (q : P2), ∃ r, ps.foldl bstep (some q) = some r /\ (r = q \/ r ∈ ps) /\ q.2 <= r.2 /\ (∀ p ∈ ps, p.2 <= r.2) /\ (((q :: ps).filter fun p => decide (p.2 = r.2)).head? = some r)
 | [], q => ⟨q, rfl, .inl rfl, Int.le_refl _, (fun p hp => nomatch hp), by simp⟩
 | x :: ps, q => by
  rw [List.foldl_cons]
  by_cases c : x.2 > q.2
  ·have e : bstep (some q) x = some x := by show (if _ then _ else _) = _; rw [if_pos c]
   rw [e]
   obtain ⟨r, h1, h2, h3, h4, h5⟩ := q480 ps x
   refine ⟨r, h1, .inr ?_, by omega, fun p hp => ?_, ?_⟩
   ·rcases h2 with rfl | h2
    ·exact List.mem_cons_self
    ·exact List.mem_cons_of_mem _ h2
   ·rcases List.mem_cons.mp hp with rfl | hp
    ·exact h3
    ·exact h4 p hp
   ·rw [List.filter_cons, if_neg (by simp; omega)]
    exact h5
  ·have e : bstep (some q) x = some q := by show (if _ then _ else _) = _; rw [if_neg c]
   rw [e]
   obtain ⟨r, h1, h2, h3, h4, h5⟩ := q480 ps q
   refine ⟨r, h1, ?_, h3, fun p hp => ?_, ?_⟩
   ·rcases h2 with rfl | h2
    ·exact .inl rfl
    ·exact .inr (List.mem_cons_of_mem _ h2)
   ·rcases List.mem_cons.mp hp with rfl | hp
    ·omega
    ·exact h4 p hp
   ·rw [List.filter_cons] at h5 ⊢
    by_cases d : q.2 = r.2
    ·rw [if_pos (decide_eq_true d)] at h5 ⊢
     exact h5
    ·rw [if_neg (by simpa using d)] at h5 ⊢
     rw [List.filter_cons, if_neg (by simp; omega)]
     exact h5
theorem bst_some {ps : List P2} (h : ps ≠ []) : ∃ r, bst ps = some r /\ r ∈ ps /\ (∀ p ∈ ps, p.2 <= r.2) /\ ((ps.filter fun p => decide (p.2 = r.2)).head? = some r) := by
 cases ps with
 | nil => exact absurd rfl h
 | cons q ps =>
  obtain ⟨r, h1, h2, h3, h4, h5⟩ := q480 ps q
  refine ⟨r, h1, ?_, fun p hp => ?_, h5⟩
  ·rcases h2 with rfl | h2
   ·exact List.mem_cons_self
   ·exact List.mem_cons_of_mem _ h2
  ·rcases List.mem_cons.mp hp with rfl | hp
   ·exact h3
   ·exact h4 p hp
theorem few {part W : Int} (hp : 1 <= part) (hW : 0 <= W) : ∀ (ps : List P2), (∀ p ∈ ps, W < p.2 * part) -> ((ps.length : Int) * (W + 1) <= sumM ps * part)
 | [], _ => by simp [sumM]
 | p :: ps, h => by
  have ih := few hp hW ps fun q hq => h q (List.mem_cons_of_mem _ hq)
  have h0 := h p List.mem_cons_self
  unfold sumM at ih ⊢
  rw [List.map_cons, List.sum_cons, List.length_cons, Int.add_mul]
  have : ((ps.length + 1 : Nat) : Int) * (W + 1) = (ps.length : Int) * (W + 1) + (W + 1) := by
   rw [Int.natCast_add, Int.add_mul]; simp
  rw [this]
  omega
def stS (p : Int × Int) (t : Int) : Int × Int := (if t = 1 then p.1 + p.2 / 2 else p.1, p.2 / 2)
def spanS (low : Int) (L : Nat) (ws : List Int) : Int × Int := ws.foldl stS (low, 2 ^ L)
theorem q273 (e : Nat) : (2 : Int) ^ (e + 1) / 2 = 2 ^ e := by rw [Int.pow_succ]; omega
theorem q646 {α : Type} {l : List α} {i : Nat} {x : α} (h : l[i]? = some x) : l.take (i + 1) = l.take i ++ [x] := by rw [List.take_add_one, h]; rfl
theorem ints_get {ws : List Int} {i : Nat} {x : V} (h : (ws.map V.int)[i]? = some x) : ∃ t, ws[i]? = some t /\ x = .int t := by
 rw [List.getElem?_map] at h
 cases e : ws[i]? with
 | none => rw [e] at h; cases h
 | some t => rw [e] at h; exact ⟨t, rfl, (Option.some.inj h).symm⟩
theorem q443 {α β : Type} {f : β -> α -> β} {b : β} {l : List α} {i : Nat} {x : α} (h : l[i]? = some x) : (l.take (i + 1)).foldl f b = f ((l.take i).foldl f b) x := by
 rw [q646 h, List.foldl_append]; rfl
abbrev q221 : Nat := 2
inductive isp_span_of (K : PySem.W.Frag) (vs : List V) (H : Hp) (Q : VK) (E : XK) : Prop
 | mk (b wy : Addr) (low : Int) (L : Nat) (ws : List Int) (hz0 : vs = [.ref b, .ref wy]) (hz1 : SqT K H b [.int low, .int (L : Int)]) (hz2 : L <= 40) (hz3 : SqT K H wy (ws.map V.int)) (hz4 : ∀ p, H p = none -> Q (.ref p) (upd H p (.tup [.int (spanS low L ws).1, .int ((spanS low L ws).1 + (spanS low L ws).2 - 1)]))) : isp_span_of K vs H Q E
def q179 (K : PySem.W.Frag) : Sp := isp_span_of K
section
variable {P : Program} {w : World} {K : PySem.W.Frag} {mg : Str -> Option Value} {base : Heap}
theorem q566 (d : Def K mg "span_of" q291 ["bounds", "way"]) (z : Bz mg) (c_many_worths : Cal P w K mg base q34 "many_worths" ["levels"] (q30 K)) : Cal P w K mg base q221 "span_of" ["bounds", "way"] (q179 K) := by
 have sc := q549
 refine d.cal fun f fd F => F.ok sc (fun vs H Q E h => ?_) (fun cdv A outer s H vs Q E hr h => ?_)
 ·obtain ⟨b, wy, low, L, ws, rfl, _⟩ := h
  rfl
 obtain ⟨b, wy, low, L, ws, rfl, hb, hL, hw, q⟩ := h
 refine ⟨_, (q11 (q19 (i := 2) sc.nd rfl (Or.inl rfl) (pe_ix q22 (pv 0) q14 (fun _ _ => rfl)))
 (q11 (q19 (i := 3) sc.nd rfl (Or.inl rfl) (pe_fn c_many_worths (hr.mono (by decide)) (by rfl) (q10 (pe_ix q22 (pv 0) q14 (fun _ _ => rfl)) q12)))
 (q11 (q152 PassesOwn.never rfl (q494 (pv 1)) (q48 (i := 4) sc.nd rfl (Or.inl rfl))
 (q11 (q19 (i := 3) sc.nd rfl (Or.inl rfl) (pe_op q112 (pv 3) q14))
 (q16 (ps_if (q17 op_eq (pv 4) q14 (q20 _))
 (q16 (q19 (i := 2) sc.nd rfl (Or.inl rfl) (pe_op q29 (pv 2) (pv 3))))
 q23))))
 (q16 (q21 (q27 (q10 (pv 2) (q10 (pe_op q54 (pe_op q29 (pv 2) (pv 3)) q14) q12)))))))), ?_⟩
 refine ⟨_, rfl, b, _, _, _, rfl, rfl, hb, rfl, _, rfl, b, _, _, _, rfl, rfl, hb, rfl, L, rfl, hL, ?_⟩
 refine ⟨_, rfl, wy, rfl, ⟨_, hw⟩, q458 (K := K) (a := wy) (xs := ws.map V.int) (fun i σ H2 => ∃ v : Option V, σ = [some (.ref b), some (.ref wy), some (.int ((ws.take i).foldl stS (low, 2 ^ L)).1), some (.int ((ws.take i).foldl stS (low, 2 ^ L)).2), v] /\ H2 = H)
  ⟨none, rfl, rfl⟩ (fun i σ H2 _ ⟨_, _, e⟩ => by rw [e]; exact hw) ?_ ?_⟩
 ·rintro i x σ H2 hi ⟨v, rfl, rfl⟩
  obtain ⟨t, ht, rfl⟩ := ints_get hi
  refine ⟨_, rfl, _, _, rfl, rfl, ⟨by decide, by decide⟩, ?_⟩
  refine ⟨_, rfl, rfl, _, rfl, ?_⟩
  refine ite2 (fun c => ?_) (fun c => ?_)
  ·have c' : t = 1 := V.int.inj (of_decide_eq_true c)
   refine ⟨_, rfl, _, rfl, _, _, rfl, rfl, some (.int t), ?_, rfl⟩
   rw [q443 ht]
   unfold stS
   rw [if_pos c']
   rfl
  ·have c' : ¬ t = 1 := fun z => c (by rw [z]; exact decide_eq_true rfl)
   refine ⟨some (.int t), ?_, rfl⟩
   rw [q443 ht]
   unfold stS
   rw [if_neg c']
   rfl
 ·rintro σ H2 ⟨v, rfl, rfl⟩
  refine ⟨_, rfl, _, rfl, _, rfl, _, _, rfl, rfl, _, _, rfl, rfl, szb rfl, fun p hp => ?_⟩
  have e : ws.take (ws.map V.int).length = ws := by rw [List.length_map]; exact List.take_length
  have q' := q p hp
  unfold spanS at q'
  rw [<- e] at q'
  exact q'
end
theorem q307 {H H1 : Hp} {D : Addr} (s : Same H H1) (hD : H D = none) (o : HO) : Same H (upd H1 D o) := fun b u q => by rw [q36 (q33 q hD)]; exact s b u q
def btw (least lo hi : Int) : Int -> Bool := fun o => decide (lo <= least + o /\ least + o <= hi)
def AllAt {α : Type} (R : Hp -> V -> α -> Prop) (H : Hp) (xs : List V) (ps : List α) : Prop := xs.length = ps.length /\ ∀ (j : Nat) (x : V) (p : α), xs[j]? = some x -> ps[j]? = some p -> R H x p
section
variable {α : Type} {R : Hp -> V -> α -> Prop} {H H' : Hp} {xs ys : List V} {ps qs : List α}
theorem AllAt.imp (h : AllAt R H xs ps) (f : ∀ x p, R H x p -> R H' x p) : AllAt R H' xs ps := ⟨h.1, fun j x p h1 h2 => f x p (h.2 j x p h1 h2)⟩
theorem AllAt.nil : AllAt R H [] [] := ⟨rfl, fun j x p h1 _ => by simp at h1⟩
theorem AllAt.get (h : AllAt R H xs ps) {j : Nat} {x : V} (hx : xs[j]? = some x) : ∃ p, ps[j]? = some p /\ R H x p := by
 have hj : j < ps.length := by rw [<- h.1]; exact (List.getElem?_eq_some_iff.mp hx).1
 exact ⟨ps[j], List.getElem?_eq_getElem hj, h.2 j x ps[j] hx (List.getElem?_eq_getElem hj)⟩
theorem AllAt.app (h : AllAt R H xs ps) (k : AllAt R H ys qs) : AllAt R H (xs ++ ys) (ps ++ qs) := by
 refine ⟨by rw [List.length_append, List.length_append, h.1, k.1], fun j y p h1 h2 => ?_⟩
 by_cases c : j < xs.length
 ·rw [List.getElem?_append_left c] at h1
  rw [List.getElem?_append_left (by rw [<- h.1]; exact c)] at h2
  exact h.2 j y p h1 h2
 ·rw [List.getElem?_append_right (by omega)] at h1
  rw [List.getElem?_append_right (by rw [<- h.1]; omega), <- h.1] at h2
  exact k.2 _ y p h1 h2
end
def PsR (H : Hp) (v : V) (p : P2) : Prop := ∃ a, v = .ref a /\ H a = some (.tup [.int p.1, .int p.2])
theorem PsR.tk {H H' : Hp} (k : TKeep H H') {v : V} {p : P2} (h : PsR H v p) : PsR H' v p := by
 obtain ⟨a, e, h1⟩ := h
 exact ⟨a, e, (k _ _).1 h1⟩
theorem ps_tk {H H' : Hp} {xs : List V} {ps : List P2} (h : AllAt PsR H xs ps) (k : TKeep H H') : AllAt PsR H' xs ps := h.imp fun _ _ z => z.tk k
theorem q647 {H H' : Hp} {xs : List V} {ps : List P2} (h : AllAt PsR H xs ps) (s : Same H H') : AllAt PsR H' xs ps := ps_tk h (.same s)
theorem ca_len {part floor : Int} (hp : 1 <= part) (hf : 0 <= floor) {e : Nat} {least : Int} {ws : List Int} (hin : InO e ws) : (caF part floor e least ws).length <= ws.length := by
 rw [q441 hp hf]
 refine Nat.le_trans (List.length_filter_le _ _) ?_
 have h := few (part := 1) (W := 0) (by decide) (by decide) (caF 1 0 e least ws) (fun p hp => by have := (q166 hin hp).2.2.1; omega)
 rw [q442] at h
 omega
abbrev q74 : Nat := 1
inductive isp_filled (K : PySem.W.Frag) (vs : List V) (H : Hp) (Q : VK) (E : XK) : Prop
 | mk (ga : Addr) (xs : List V) (L : Nat) (gs : List G3) (hz0 : vs = [.ref ga]) (hz1 : SqL K H ga xs) (hz2 : GatAt H L xs gs) (hz3 : gs.length <= 1000) (hz4 : ∀ (H' : Hp) (D : Addr) (ys : List V), Same H H' -> H' D = some (.lst ys) -> H D = none -> GatAt H' L ys (fillG gs) -> Q (.ref D) H') : isp_filled K vs H Q E
def q108 (K : PySem.W.Frag) : Sp := isp_filled K
section
variable {P : Program} {w : World} {K : PySem.W.Frag} {mg : Str -> Option Value} {base : Heap}
theorem q648 (d : Def K mg "filled" q270 ["gathering"]) (z : Bz mg)  : Cal P w K mg base q74 "filled" ["gathering"] (q108 K) := by
 have sc := q632
 refine d.cal fun f fd F => F.ok sc (fun vs H Q E h => ?_) (fun cdv A outer s H vs Q E hr h => ?_)
 ·obtain ⟨ga, xs, L, gs, rfl, _⟩ := h
  rfl
 obtain ⟨ga, xs, L, gs, rfl, hga, hg, hl, q⟩ := h
 refine ⟨_, (q16 (q21 (q284 (cl := []) (cn := []) (N := []) (fr := []) (sc0 := q18 q270) rfl (q91 (pv 0)) (fun C s₂ H₂ fp => (pv 0)) (fun C s₂ H₂ fp => (q17 op_lt (pe_ix (q365 (K := K) rfl) (pv 0) q14 (fun _ _ => rfl)) (pe_ix (q365 (K := K) rfl) (pv 0) q14 (fun _ _ => rfl)) (q20 _))) (by with_unfolding_all rfl) trivial rfl rfl rfl ⟨by decide +kernel, by decide +kernel, by decide +kernel, by decide +kernel, by decide +kernel, by decide +kernel, by decide +kernel⟩ rfl))), ?_⟩
 have hxl := hg.1
 refine ⟨_, rfl, ga, rfl, ⟨_, hga⟩, fun D hD => ?_⟩
 refine q413 (K := K) (xs := xs) (sz (by omega)) (fun i ys H2 => H2 = upd H D (.lst ys) /\ ys.length <= i /\ GatAt H L ys (fillG (gs.take i))) ⟨rfl, Nat.le_refl _, GatAt.nil _ _⟩ (fun i ys H2 ⟨e, _⟩ => by rw [e]; exact (q15 hD _).seq hga)
  (fun i ys H2 ⟨e, e2, _⟩ => ⟨by rw [e]; exact q13, e2⟩) ?_ ?_
 ·rintro i x ys H2 hx ⟨rfl, e2, e3⟩
  have hi : i < gs.length := by rw [<- hxl]; exact (List.getElem?_eq_some_iff.mp hx).1
  have gi : gs[i]? = some gs[i] := List.getElem?_eq_getElem hi
  generalize gs[i] = g at gi
  have hsx := hg.2 i x g hx gi
  obtain ⟨t, u, rfl, ht, hu⟩ := hsx
  have ht' : SqT K (upd H D (.lst ys)) t [u, .int (g.2.1 : Int), .int (g.2.2 : Int)] := SqT.of (q15 hD _ _ _ ht)
  refine ⟨_, rfl, t, _, _, _, rfl, rfl, ht', rfl, _, rfl, t, _, _, _, rfl, rfl, ht', rfl, _, _, rfl, rfl, _, rfl, ?_⟩
  have et : fillG (gs.take (i + 1)) = fillG (gs.take i) ++ fillG [g] := by
   unfold fillG
   rw [List.take_add_one, gi, List.filter_append]
   rfl
  refine ite2 (fun c => ?_) (fun c => ?_)
  ·have c' := of_decide_eq_true c
   have ef : fillG [g] = [g] := by
    unfold fillG
    rw [List.filter_cons, if_pos (decide_eq_true (by omega))]
    rfl
   refine ⟨_, rfl, q13, by rw [q228], by rw [List.length_append]; simp; omega, ?_⟩
   rw [et, ef]
   exact e3.snoc ⟨t, u, rfl, ht, hu⟩
  ·have c' : ¬ (g.2.1 : Int) < g.2.2 := fun z => c (decide_eq_true z)
   have ef : fillG [g] = [] := by
    unfold fillG
    rw [List.filter_cons, if_neg (by simp; omega)]
    rfl
   refine ⟨_, by omega, rfl, by omega, rfl, by omega, ?_⟩
   rw [et, ef, List.append_nil]
   exact e3
 ·rintro ys H2 ⟨rfl, e2, e3⟩
  rw [hxl, List.take_length] at e3
  exact q _ D ys (q15 hD _) q13 hD (e3.same (q15 hD _))
end
def wayW : Nat -> Int -> List Int
 | 0, _ => []
 | e + 1, o => if o < 2 ^ e then 0 :: wayW e o else 1 :: wayW e (o - 2 ^ e)
theorem q144 {e : Nat} {o : Int} (h : o < 2 ^ e) : wayW (e + 1) o = 0 :: wayW e o := by
 show (if o < 2 ^ e then _ else _) = _
 rw [if_pos h]
theorem q145 {e : Nat} {o : Int} (h : ¬ o < 2 ^ e) : wayW (e + 1) o = 1 :: wayW e (o - 2 ^ e) := by
 show (if o < 2 ^ e then _ else _) = _
 rw [if_neg h]
theorem pow2 (e : Nat) : (2 : Int) ^ (e + 1) = 2 ^ e + 2 ^ e := by rw [Int.pow_succ]; omega
theorem q113 : ∀ (e : Nat) (o : Int), (wayW e o).length = e
 | 0, _ => rfl
 | e + 1, o => by
  by_cases h : o < 2 ^ e
  ·rw [q144 h, List.length_cons, q113 e]
  ·rw [q145 h, List.length_cons, q113 e]
theorem q199 : ∀ (e : Nat) (o : Int), ∀ m ∈ wayW e o, m = 0 \/ m = 1
 | 0, _, m, hm => by cases hm
 | e + 1, o, m, hm => by
  by_cases h : o < 2 ^ e
  ·rw [q144 h] at hm
   rcases List.mem_cons.mp hm with z | z
   ·exact .inl z
   ·exact q199 e _ m z
  ·rw [q145 h] at hm
   rcases List.mem_cons.mp hm with z | z
   ·exact .inr z
   ·exact q199 e _ m z
theorem where_in {low n : Int} {L : Nat} : q305 low L n = "within" ↔ (low <= n /\ n <= low + 2 ^ L - 1) := by
 unfold q305
 by_cases h : n < low
 ·rw [if_pos h]
  exact ⟨fun z => absurd z (by decide), fun z => by omega⟩
 ·rw [if_neg h]
  by_cases h2 : low + 2 ^ L - 1 < n
  ·rw [if_pos h2]
   exact ⟨fun z => absurd z (by decide), fun z => by omega⟩
  ·rw [if_neg h2]
   exact ⟨fun _ => by omega, fun _ => rfl⟩
def mlF : Nat -> List Int -> List Int -> Int
 | _, [], _ => 0
 | 0, _ :: _, _ => 0
 | e + 1, w :: ws, us => (if w = 1 then ((halfO e 0 us).length : Int) else 0) + mlF e ws (halfO e w us)
theorem q649 : ∀ (e : Nat) (o : Int) (us : List Int), 0 <= o -> o < 2 ^ e -> InO e us -> mlF e (wayW e o) us = (us.countP fun x => decide (x < o) : Nat)
 | 0, o, us, h0, h1, hin => by
  have : us.countP (fun x => decide (x < o)) = 0 := List.countP_eq_zero.mpr fun x hx => by
   have := hin x hx
   simp at *
   omega
  rw [this]
  rfl
 | e + 1, o, us, h0, h1, hin => by
  have p := pow2 e
  have hp := p2pos e
  by_cases c : o < 2 ^ e
  ·rw [q144 c, mlF, if_neg (by decide), q649 e o _ h0 c q46, q81, Int.zero_add]
   congr 1
   refine List.countP_congr fun x hx => ?_
   have hx' := hin x hx
   rw [Bool.and_eq_true, beq_iff_eq, decide_eq_true_eq, decide_eq_true_eq]
   constructor
   ·rintro ⟨a, b⟩
    have := q154 hx'.1 hx'.2 a
    omega
   ·intro a
    have hm : mk0 e x = 0 := by unfold mk0; rw [if_pos (by omega)]
    have := q154 hx'.1 hx'.2 hm
    exact ⟨hm, by omega⟩
  ·rw [q145 c, mlF, if_pos rfl, q649 e (o - 2 ^ e) _ (by omega) (by omega) q46, q81]
   have l0 : (halfO e 0 us).length = us.countP fun x => mk0 e x == 0 := by
    unfold halfO
    rw [List.length_map, List.countP_eq_length_filter]
   rw [l0]
   have key : ∀ us : List Int, (∀ x ∈ us, 0 <= x /\ x < (2 : Int) ^ (e + 1)) -> (us.countP fun x => mk0 e x == 0) + (us.countP fun x => (mk0 e x == 1) && decide (x % 2 ^ e < o - 2 ^ e)) = us.countP fun x => decide (x < o) := by
    intro us
    induction us with
    | nil => intro _; rfl
    | cons x us ih =>
     intro h
     have ih' := ih fun y hy => h y (List.mem_cons_of_mem _ hy)
     have hx' := h x List.mem_cons_self
     rw [List.countP_cons, List.countP_cons, List.countP_cons, <- ih']
     rcases mk0b e x with m | m
     ·have hxl : x < 2 ^ e := by
       unfold mk0 at m
       by_cases z : x < 2 ^ e
       ·exact z
       ·rw [if_neg z] at m; omega
      rw [m]
      simp [show x < o by omega]
      omega
     ·have := q154 hx'.1 hx'.2 m
      have hxg : ¬ x < 2 ^ e := by
       unfold mk0 at m
       intro z
       rw [if_pos z] at m; omega
      rw [m]
      by_cases z : x < o
      ·have z2 : x % 2 ^ e < o - 2 ^ e := by omega
       simp [z, z2]
       omega
      ·have z2 : ¬ x % 2 ^ e < o - 2 ^ e := by omega
       simp [z, z2]
   have := key us hin
   omega
abbrev q222 : Nat := 4
inductive isp_way_of (K : PySem.W.Frag) (vs : List V) (H : Hp) (Q : VK) (E : XK) : Prop
 | mk (b : Addr) (low num : Int) (L : Nat) (hz0 : vs = [.ref b, .int num]) (hz1 : SqT K H b [.int low, .int (L : Int)]) (hz2 : L <= 40) (hz3 : (low <= num /\ num <= low + 2 ^ L - 1)) (hz4 : ∀ t H', Same H H' -> TupF H' t ((wayW L (num - low)).map V.int) -> Q (.ref t) H') : isp_way_of K vs H Q E
def q167 (K : PySem.W.Frag) : Sp := isp_way_of K
abbrev q75 : Nat := 4
inductive isp_many_lesser (K : PySem.W.Frag) (vs : List V) (H : Hp) (Q : VK) (E : XK) : Prop
 | mk (ga wy : Addr) (xs : List V) (L : Nat) (o : Int) (gs : List G3) (hz0 : vs = [.ref ga, .ref wy]) (hz1 : SqL K H ga xs) (hz2 : GatAt H L xs gs) (hz3 : (∀ g ∈ gs, GoodS L g)) (hz4 : gs.length <= 100) (hz5 : SqT K H wy ((wayW L o).map V.int)) (hz6 : 0 <= o) (hz7 : o < 2 ^ L) (hz8 : ∀ H', Same H H' -> Q (.int ((Wh gs).countP fun x => decide (x < o) : Nat)) H') : isp_many_lesser K vs H Q E
def q67 (K : PySem.W.Frag) : Sp := isp_many_lesser K
abbrev q248 : Nat := 5
inductive isp_below (K : PySem.W.Frag) (vs : List V) (H : Hp) (Q : VK) (E : XK) : Prop
 | mk (b ga : Addr) (xs : List V) (low num : Int) (L : Nat) (gs : List G3) (hz0 : vs = [.ref b, .ref ga, .int num]) (hz1 : SqT K H b [.int low, .int (L : Int)]) (hz2 : L <= 40) (hz3 : SqL K H ga xs) (hz4 : GatAt H L xs gs) (hz5 : (∀ g ∈ gs, GoodS L g)) (hz6 : gs.length <= 100) (hz7 : ∀ H', Same H H' -> Q (.int ((Wh gs).countP fun x => decide (x < num - low) : Nat)) H') : isp_below K vs H Q E
def q180 (K : PySem.W.Frag) : Sp := isp_below K
abbrev q308 : Nat := 6
inductive isp_between (K : PySem.W.Frag) (vs : List V) (H : Hp) (Q : VK) (E : XK) : Prop
 | mk (b ga : Addr) (xs : List V) (low lo hi : Int) (L : Nat) (gs : List G3) (hz0 : vs = [.ref b, .ref ga, .int lo, .int hi]) (hz1 : SqT K H b [.int low, .int (L : Int)]) (hz2 : L <= 40) (hz3 : SqL K H ga xs) (hz4 : GatAt H L xs gs) (hz5 : (∀ g ∈ gs, GoodS L g)) (hz6 : gs.length <= 100) (hz7 : ∀ H', Same H H' -> Q (.int ((Wh gs).countP (btw low lo hi) : Nat)) H') : isp_between K vs H Q E
def q249 (K : PySem.W.Frag) : Sp := isp_between K
theorem q309 {low lo hi : Int} (h : lo <= hi) : ∀ us : List Int, (us.countP fun x => decide (x < hi + 1 - low)) = (us.countP fun x => decide (x < lo - low)) + us.countP (btw low lo hi)
 | [] => rfl
 | x :: us => by
  rw [List.countP_cons, List.countP_cons, List.countP_cons, q309 h us]
  unfold btw
  by_cases c1 : x < lo - low
  ·have c2 : x < hi + 1 - low := by omega
   have c3 : ¬ (lo <= low + x /\ low + x <= hi) := by omega
   simp [c1, c2, c3]
   omega
  ·by_cases c2 : x < hi + 1 - low
   ·have c3 : lo <= low + x /\ low + x <= hi := by omega
    simp [c1, c2, c3]
    omega
   ·have c3 : ¬ (lo <= low + x /\ low + x <= hi) := by omega
    simp [c1, c2, c3]
section
variable {P : Program} {w : World} {K : PySem.W.Frag} {mg : Str -> Option Value} {base : Heap}
theorem q650 (d : Def K mg "way_of" q376 ["bounds", "number"]) (z : Bz mg) (c_many_worths : Cal P w K mg base q34 "many_worths" ["levels"] (q30 K)) (c_where : Cal P w K mg base q304 "where" ["bounds", "number"] (q215 K)) : Cal P w K mg base q222 "way_of" ["bounds", "number"] (q167 K) := by
 have sc := q631
 refine d.cal fun f fd F => F.ok sc (fun vs H Q E h => ?_) (fun cdv A outer s H vs Q E hr h => ?_)
 ·obtain ⟨b, low, num, L, rfl, _⟩ := h
  rfl
 obtain ⟨b, low, num, L, rfl, hb, hL, c', q⟩ := h
 refine ⟨_, (q11 (ps_if (q17 op_ne (pe_fn c_where (hr.mono (by decide)) (by rfl) (q10 (pv 0) (q10 (pv 1) q12))) q47 (q20 _))
 (q16 q84)
 q23)
 (q11 (q19 (i := 2) sc.nd rfl (Or.inl rfl) (pe_ix q22 (pv 0) q14 (fun _ _ => rfl)))
 (q11 (q19 (i := 3) sc.nd rfl (Or.inl rfl) (pe_fn c_many_worths (hr.mono (by decide)) (by rfl) (q10 (pe_ix q22 (pv 0) q14 (fun _ _ => rfl)) q12)))
 (q11 (q19 (i := 4) sc.nd rfl (Or.inl rfl) (q55 q12))
 (q11 (q152 PassesOwn.never rfl (q126 rfl z.range_ (q10 (pe_ix q22 (pv 0) q14 (fun _ _ => rfl)) q12)) (q48 (i := 5) sc.nd rfl (Or.inl rfl))
 (q11 (q19 (i := 3) sc.nd rfl (Or.inl rfl) (pe_op q112 (pv 3) q14))
 (q16 (ps_if (q17 op_lt (pv 1) (pe_op q29 (pv 2) (pv 3)) (q20 _))
 (q16 (q230 (pe_bm PySem.F.plainAttrs_list PySem.F.slot_list_append PySem.F.type_list_append q86 (pv 4) (q10 q14 q12))))
 (q11 (q230 (pe_bm PySem.F.plainAttrs_list PySem.F.slot_list_append PySem.F.type_list_append q86 (pv 4) (q10 q14 q12)))
 (q16 (q19 (i := 2) sc.nd rfl (Or.inl rfl) (pe_op q29 (pv 2) (pv 3)))))))))
 (q16 (q21 (q128 q135 (by rfl) z.tuple_ q268 (q10 (pv 4) q12))))))))), ?_⟩
 refine ⟨_, rfl, _, rfl, b, low, num, L, rfl, hb, hL, rfl, _, rfl, ?_⟩
 refine ite2 (fun c => ?_) (fun c => ?_)
 ·rw [where_in.mpr c', decide_eq_true rfl] at c
  cases c
 ·skip
  refine ⟨_, rfl, b, _, _, _, rfl, rfl, hb, rfl, _, rfl, b, _, _, _, rfl, rfl, hb, rfl, L, rfl, hL, szb rfl, fun wy hwy => ?_⟩
  have hb2 : ∀ o, SqT K (upd H wy o) b [.int low, .int (L : Int)] := fun o => (q15 hwy o).seqT hb
  refine ⟨_, rfl, b, _, _, _, rfl, rfl, hb2 _, rfl, (L : Int), rfl, by omega, by omega, q127 (n := L) (fun i σ H2 => ∃ (le : Int) (ws : List Int) (v : Option V), σ = [some (.ref b), some (.int num), some (.int le), some (.int (2 ^ (L - i))), some (.ref wy), v] /\
   H2 = upd H wy (.lst (ws.map V.int)) /\ ws.length = i /\ 0 <= num - le /\ num - le < 2 ^ (L - i) /\ wayW L (num - low) = ws ++ wayW (L - i) (num - le)) ⟨low, [], none, rfl, rfl, rfl, by omega, by show num - low < 2 ^ L; omega, rfl⟩ ?_ ?_⟩
  ·rintro i σ H2 hi ⟨le, ws, v, rfl, rfl, hl, h0, h1, hw⟩
   obtain ⟨e, he⟩ : ∃ e, L - i = e + 1 := ⟨L - i - 1, by omega⟩
   have he2 : L - (i + 1) = e := by omega
   have p := pow2 e
   have ph := q273 e
   rw [he] at h1 hw ⊢
   refine ⟨_, rfl, _, _, rfl, rfl, ⟨by decide, by decide⟩, ?_⟩
   refine ⟨_, rfl, _, rfl, _, rfl, _, _, rfl, rfl, _, _, rfl, rfl, _, rfl, ?_⟩
   rw [ph, he2]
   refine ite2 (fun c => ?_) (fun c => ?_)
   ·have c2 : num < le + 2 ^ e := of_decide_eq_true c
    rw [q144 (show num - le < 2 ^ e by omega)] at hw
    refine ⟨_, rfl, .inl ⟨rfl, _, SqL.of q13⟩, wy, _, _, rfl, rfl, q13, ?_, ?_⟩
    ·rw [List.length_map]; exact Nat.lt_of_le_of_lt (show ws.length <= 1000 by omega) (q129 (Nat.le_refl _))
    ·exact ⟨le, ws ++ [0], some (.int (0 + (i : Int))), congrArg (fun q : Int => [some (V.ref b), some (V.int num), some (V.int le), some (V.int q), some (V.ref wy), some (V.int (0 + (i : Int)))]) ph, by rw [q228, List.map_append] <;> rfl, by rw [List.length_append, hl] <;> rfl, h0, by omega, by rw [hw, List.append_assoc] <;> rfl⟩
   ·have c2 : ¬ num < le + 2 ^ e := fun z => c (decide_eq_true z)
    rw [q145 (show ¬ num - le < 2 ^ e by omega)] at hw
    refine ⟨_, rfl, .inl ⟨rfl, _, SqL.of q13⟩, wy, _, _, rfl, rfl, q13, ?_, ?_⟩
    ·rw [List.length_map]; exact Nat.lt_of_le_of_lt (show ws.length <= 1000 by omega) (q129 (Nat.le_refl _))
    ·refine ⟨_, rfl, _, rfl, _, _, rfl, rfl, le + 2 ^ e, ws ++ [1], some (.int (0 + (i : Int))), congrArg (fun q : Int => [some (V.ref b), some (V.int num), some (V.int (le + q)), some (V.int q), some (V.ref wy), some (V.int (0 + (i : Int)))]) ph, by rw [q228, List.map_append] <;> rfl, by rw [List.length_append, hl] <;> rfl, by omega, by omega, ?_⟩
     have e2 : num - (le + 2 ^ e) = num - le - 2 ^ e := by omega
     rw [hw, e2, List.append_assoc]
     rfl
  ·rintro σ H2 ⟨le, ws, v, rfl, rfl, hl, h0, h1, hw⟩
   rw [Nat.sub_self] at hw
   have hw2 : wayW L (num - low) = ws := by rw [hw]; exact List.append_nil ws
   refine ⟨_, rfl, wy, _, rfl, SqL.of q13, fun t H' s' ht => ?_⟩
   exact q t _ ((q15 hwy _).trans s') (by rw [hw2]; exact ht)
theorem q340 (d : Def K mg "many_lesser" q139 ["gathering", "way"]) (z : Bz mg) (c_led : Cal P w K mg base k_led "led" ["gathering", "way"] (q218 K)) (c_many_in : Cal P w K mg base q39 "many_in" ["gathering"] (q38 K)) : Cal P w K mg base q75 "many_lesser" ["gathering", "way"] (q67 K) := by
 have sc := q333
 refine d.cal fun f fd F => F.ok sc (fun vs H Q E h => ?_) (fun cdv A outer s H vs Q E hr h => ?_)
 ·obtain ⟨ga, wy, xs, L, o, gs, rfl, _⟩ := h
  rfl
 obtain ⟨ga, wy, xs, L, o, gs, rfl, hga, hg, hgd, hl, hwy, h0, h1, q⟩ := h
 refine ⟨_, (q11 (q19 (i := 2) sc.nd rfl (Or.inl rfl) q14)
 (q11 (q19 (i := 3) sc.nd rfl (Or.inl rfl) (pv 0))
 (q11 (q152 PassesOwn.never rfl (q494 (pv 1)) (q48 (i := 4) sc.nd rfl (Or.inl rfl))
 (q11 (ps_if (q17 op_eq (pv 4) q14 (q20 _))
 (q16 (q19 (i := 2) sc.nd rfl (Or.inl rfl) (pe_op q29 (pv 2) (pe_fn c_many_in (hr.mono (by decide)) (by rfl) (q10 (pe_fn c_led (hr.mono (by decide)) (by rfl) (q10 (pv 3) (q10 (q27 (q10 q14 q12)) q12))) q12)))))
 q23)
 (q16 (q19 (i := 3) sc.nd rfl (Or.inl rfl) (pe_fn c_led (hr.mono (by decide)) (by rfl) (q10 (pv 3) (q10 (q27 (q10 (pv 4) q12)) q12)))))))
 (q16 (q21 (pv 2)))))), ?_⟩
 rw [<- q649 L o (Wh gs) h0 h1 (W_in hgd)] at q
 have hwl := q113 L o
 have hw01 := q199 L o
 generalize wayW L o = ws at *
 refine ⟨_, rfl, ?_⟩
 refine ⟨_, rfl, wy, rfl, ⟨_, hwy⟩, q458 (K := K) (a := wy) (xs := ws.map V.int) (fun i σ H2 => ∃ (m : Int) (pa : Addr) (zs : List V) (gs' : List G3) (v4 : Option V), σ = [some (.ref ga), some (.ref wy), some (.int m), some (.ref pa), v4] /\ Same H H2 /\ SqL K H2 pa zs /\ GatAt H2 (L - i) zs gs' /\ (∀ g ∈ gs', GoodS (L - i) g) /\ gs'.length <= 100 /\ i <= ws.length /\ mlF L ws (Wh gs) = m + mlF (L - i) (ws.drop i) (Wh gs'))
  ⟨0, ga, xs, gs, none, rfl, Same.refl H, hga, hg, hgd, hl, Nat.zero_le _, by rw [List.drop_zero, Int.zero_add]; rfl⟩ (fun i σ H2 _ ⟨_, _, _, _, _, _, s2, _⟩ => s2.seqT hwy) ?_ ?_⟩
 ·rintro i x σ H2 hi ⟨m, pa, zs, gs', v4, rfl, s2, hpa, hg', hgd', hl', hil, hm⟩
  obtain ⟨wv, hwv, rfl⟩ : ∃ t, ws[i]? = some t /\ x = .int t := by
   rw [List.getElem?_map] at hi
   cases e : ws[i]? with
   | none => rw [e] at hi; cases hi
   | some m => rw [e] at hi; exact ⟨m, rfl, (Option.some.inj hi).symm⟩
  have hil2 : i < ws.length := (List.getElem?_eq_some_iff.mp hwv).1
  have hv01 := hw01 wv (List.mem_of_getElem? hwv)
  obtain ⟨e, he⟩ : ∃ e, L - i = e + 1 := ⟨L - i - 1, by omega⟩
  have he2 : L - (i + 1) = e := by omega
  rw [he] at hg' hgd' hm
  rw [q437 hwv, mlF] at hm
  have el : ∀ w : Int, gs'.map (ledS (e + 1) [w]) = gs'.map (led1 e w) := fun w => List.map_congr_left fun g _ => by rw [q73, q60]
  have good1 : ∀ w, ∀ g ∈ gs'.map (led1 e w), GoodS e g := fun w g hg => by
   obtain ⟨g', hg', rfl⟩ := List.mem_map.mp hg
   exact q131 (hgd' g' hg')
  have step : ∀ (H3 : Hp), Same H2 H3 -> ∀ (m' : Int), mlF L ws (Wh gs) = m' + mlF e (ws.drop (i + 1)) (halfO e wv (Wh gs')) -> True := fun _ _ _ _ => trivial
  refine ⟨_, rfl, rfl, _, rfl, ?_⟩
  rcases hv01 with rfl | rfl
  ·refine ite2 (fun c => absurd (V.int.inj (of_decide_eq_true c)) (by decide)) (fun _ => ?_)
   rw [if_neg (by decide), Int.zero_add] at hm
   refine ⟨_, rfl, _, rfl, szb rfl, fun w1 hw1 => ?_⟩
   have s3 := q15 hw1 (.tup [V.int 0])
   have hw1' : upd H2 w1 (.tup [V.int 0]) w1 = some (.tup [V.int 0]) := q13
   generalize upd H2 w1 (.tup [V.int 0]) = H3 at *
   refine ⟨pa, w1, zs, e + 1, [0], gs', rfl, s3.seq hpa, hg'.same s3, hgd', by omega, SqT.of hw1', by simp, (fun x hx => by rw [List.mem_singleton.mp hx]; exact .inl rfl), fun H4 D4 z4 s4 hD4 hD4n hg4 => ?_⟩
   rw [el] at hg4
   exact ⟨m, D4, z4, _, _, rfl, s2.trans (s3.trans s4), SqL.of hD4, by rw [he2]; exact hg4, by rw [he2]; exact good1 0, by rw [List.length_map]; exact hl', by omega, by rw [he2, W_led hgd']; exact hm⟩
  ·refine ite2 (fun _ => ?_) (fun c => absurd (decide_eq_true rfl) c)
   rw [if_pos rfl] at hm
   refine ⟨_, rfl, _, rfl, szb rfl, fun w0 hw0 => ?_⟩
   have s3 := q15 hw0 (.tup [V.int 0])
   have hw0' : upd H2 w0 (.tup [V.int 0]) w0 = some (.tup [V.int 0]) := q13
   generalize upd H2 w0 (.tup [V.int 0]) = H3 at *
   refine ⟨pa, w0, zs, e + 1, [0], gs', rfl, s3.seq hpa, hg'.same s3, hgd', by omega, SqT.of hw0', by simp, (fun x hx => by rw [List.mem_singleton.mp hx]; exact .inl rfl), fun H4 D4 z4 s4 hD4 hD4n hg4 => ?_⟩
   rw [el] at hg4
   refine ⟨D4, z4, e, _, rfl, SqL.of hD4, hg4, by rw [List.length_map]; omega, fun H5 s5 => ⟨_, _, rfl, rfl, ?_⟩⟩
   have s25 := (s3.trans s4).trans s5
   refine ⟨_, rfl, _, rfl, szb rfl, fun w1 hw1 => ?_⟩
   have s6 := q15 hw1 (.tup [V.int 1])
   have hw1' : upd H5 w1 (.tup [V.int 1]) w1 = some (.tup [V.int 1]) := q13
   generalize upd H5 w1 (.tup [V.int 1]) = H6 at *
   have s26 := s25.trans s6
   refine ⟨pa, w1, zs, e + 1, [1], gs', rfl, s26.seq hpa, hg'.same s26, hgd', by omega, SqT.of hw1', by simp, (fun x hx => by rw [List.mem_singleton.mp hx]; exact .inr rfl), fun H7 D7 z7 s7 hD7 hD7n hg7 => ?_⟩
   rw [el] at hg7
   refine ⟨_, D7, z7, _, _, rfl, s2.trans (s26.trans s7), SqL.of hD7, by rw [he2]; exact hg7, by rw [he2]; exact good1 1, by rw [List.length_map]; exact hl', by omega, ?_⟩
   rw [he2, W_led hgd', q107 (good1 0), W_led hgd', hm]
   omega
 ·rintro σ H2 ⟨m, pa, zs, gs', v4, rfl, s2, hpa, hg', hgd', hl', hil, hm⟩
  rw [List.length_map, List.drop_length] at hm
  have e0 : mlF (L - ws.length) [] (Wh gs') = 0 := by cases L - ws.length <;> rfl
  rw [e0, Int.add_zero] at hm
  rw [hm] at q
  exact ⟨_, rfl, q H2 s2⟩
theorem ok_below (d : Def K mg "below" q470 ["bounds", "gathering", "number"]) (z : Bz mg) (c_many_in : Cal P w K mg base q39 "many_in" ["gathering"] (q38 K)) (c_many_lesser : Cal P w K mg base q75 "many_lesser" ["gathering", "way"] (q67 K)) (c_way_of : Cal P w K mg base q222 "way_of" ["bounds", "number"] (q167 K)) (c_where : Cal P w K mg base q304 "where" ["bounds", "number"] (q215 K)) : Cal P w K mg base q248 "below" ["bounds", "gathering", "number"] (q180 K) := by
 have sc := sc_below
 refine d.cal fun f fd F => F.ok sc (fun vs H Q E h => ?_) (fun cdv A outer s H vs Q E hr h => ?_)
 ·obtain ⟨b, ga, xs, low, num, L, gs, rfl, _⟩ := h
  rfl
 obtain ⟨b, ga, xs, low, num, L, gs, rfl, hb, hL, hga, hg, hgd, hl, q⟩ := h
 refine ⟨_, (q11 (q19 (i := 3) sc.nd rfl (Or.inl rfl) (pe_fn c_where (hr.mono (by decide)) (by rfl) (q10 (pv 0) (q10 (pv 2) q12))))
 (q11 (ps_if (q17 op_eq (pv 3) q47 (q20 _))
 (q16 (q21 q14))
 q23)
 (q11 (ps_if (q17 op_eq (pv 3) q47 (q20 _))
 (q16 (q21 (pe_fn c_many_in (hr.mono (by decide)) (by rfl) (q10 (pv 1) q12))))
 q23)
 (q16 (q21 (pe_fn c_many_lesser (hr.mono (by decide)) (by rfl) (q10 (pv 1) (q10 (pe_fn c_way_of (hr.mono (by decide)) (by rfl) (q10 (pv 0) (q10 (pv 2) q12))) q12)))))))), ?_⟩
 have hin := W_in hgd
 have hp := p2pos L
 refine ⟨_, rfl, _, rfl, b, low, num, L, rfl, hb, hL, ?_⟩
 unfold q305
 by_cases c1 : num < low
 ·rw [if_pos c1]
  refine ⟨_, rfl, rfl, _, rfl, ite2 (fun _ => ?_) (fun c => absurd (decide_eq_true rfl) c)⟩
  have e0 : (Wh gs).countP (fun x => decide (x < num - low)) = 0 := List.countP_eq_zero.mpr fun x hx => by
   have := hin x hx
   simp
   omega
  rw [e0] at q
  exact q H (Same.refl H)
 rw [if_neg c1]
 by_cases c2 : low + 2 ^ L - 1 < num
 ·rw [if_pos c2]
  refine ⟨_, rfl, rfl, _, rfl, ite2 (fun c => absurd (of_decide_eq_true c) (by decide)) (fun _ => ?_)⟩
  refine ⟨_, rfl, rfl, _, rfl, ite2 (fun _ => ?_) (fun c => absurd (decide_eq_true rfl) c)⟩
  have e0 : (Wh gs).countP (fun x => decide (x < num - low)) = (Wh gs).length := List.countP_eq_length.mpr fun x hx => by
   have := hin x hx
   exact decide_eq_true (by omega)
  rw [e0] at q
  refine ⟨_, rfl, ga, xs, L, gs, rfl, hga, hg, by omega, fun H1 s1 => ?_⟩
  rw [q107 hgd]
  exact q H1 s1
 rw [if_neg c2]
 refine ⟨_, rfl, rfl, _, rfl, ite2 (fun c => absurd (of_decide_eq_true c) (by decide)) (fun _ => ?_)⟩
 refine ⟨_, rfl, rfl, _, rfl, ite2 (fun c => absurd (of_decide_eq_true c) (by decide)) (fun _ => ?_)⟩
 refine ⟨_, rfl, _, rfl, _, rfl, b, low, num, L, rfl, hb, hL, ⟨by omega, by omega⟩, fun t H1 s1 ht => ?_⟩
 exact ⟨ga, t, xs, L, num - low, gs, rfl, s1.seq hga, hg.same s1, hgd, hl, ht.sq, by omega, by omega, fun H2 s2 => q H2 (s1.trans s2)⟩
theorem q567 (d : Def K mg "between" q296 ["bounds", "gathering", "low", "high"]) (z : Bz mg) (c_below : Cal P w K mg base q248 "below" ["bounds", "gathering", "number"] (q180 K)) : Cal P w K mg base q308 "between" ["bounds", "gathering", "low", "high"] (q249 K) := by
 have sc := q555
 refine d.cal fun f fd F => F.ok sc (fun vs H Q E h => ?_) (fun cdv A outer s H vs Q E hr h => ?_)
 ·obtain ⟨b, ga, xs, low, lo, hi, L, gs, rfl, _⟩ := h
  rfl
 obtain ⟨b, ga, xs, low, lo, hi, L, gs, rfl, hb, hL, hga, hg, hgd, hl, q⟩ := h
 refine ⟨_, (q11 (ps_if (q17 op_gt (pv 2) (pv 3) (q20 _))
 (q16 (q21 q14))
 q23)
 (q16 (q21 (pe_op q54 (pe_fn c_below (hr.mono (by decide)) (by rfl) (q10 (pv 0) (q10 (pv 1) (q10 (pe_op q29 (pv 3) q14) q12)))) (pe_fn c_below (hr.mono (by decide)) (by rfl) (q10 (pv 0) (q10 (pv 1) (q10 (pv 2) q12)))))))), ?_⟩
 refine ⟨_, rfl, _, rfl, _, _, rfl, rfl, _, rfl, ?_⟩
 refine ite2 (fun c => ?_) (fun c => ?_)
 ·have c' := of_decide_eq_true c
  have e0 : (Wh gs).countP (btw low lo hi) = 0 := List.countP_eq_zero.mpr fun x hx => by
   unfold btw
   simp
   omega
  rw [e0] at q
  exact q H (Same.refl H)
 ·have c' : ¬ hi < lo := fun z => c (decide_eq_true z)
  refine ⟨_, rfl, _, rfl, _, rfl, _, _, rfl, rfl, b, ga, xs, low, hi + 1, L, gs, rfl, hb, hL, hga, hg, hgd, hl, fun H1 s1 => ?_⟩
  refine ⟨_, rfl, _, rfl, _, rfl, b, ga, xs, low, lo, L, gs, rfl, s1.seqT hb, hL, s1.seq hga, hg.same s1, hgd, hl, fun H2 s2 => ⟨_, _, rfl, rfl, ?_⟩⟩
  have q' := q H2 (s1.trans s2)
  have e0 := q309 (low := low) (show lo <= hi by omega) (Wh gs)
  have e1 : (((Wh gs).countP (fun x => decide (x < hi + 1 - low)) : Nat) : Int) - (((Wh gs).countP (fun x => decide (x < lo - low)) : Nat) : Int) = (((Wh gs).countP (btw low lo hi) : Nat) : Int) := by omega
  rw [<- e1] at q'
  exact q'
end
theorem q274 : ∀ (e : Nat) (l o : Int), 0 <= o -> o < 2 ^ e -> (wayW e o).foldl stS (l, 2 ^ e) = (l + o, 1)
 | 0, l, o, h0, h1 => by
  have e1 : o = 0 := by
   have z : (2 : Int) ^ 0 = 1 := rfl
   omega
  rw [e1, Int.add_zero]
  rfl
 | e + 1, l, o, h0, h1 => by
  have p := pow2 e
  have q := q273 e
  by_cases h : o < 2 ^ e
  ·rw [q144 h, List.foldl_cons]
   have z : stS (l, 2 ^ (e + 1)) 0 = (l, 2 ^ e) := by unfold stS; rw [if_neg (by decide)]; simp only [q]
   rw [z]
   exact q274 e l o h0 h
  ·rw [q145 h, List.foldl_cons]
   have z : stS (l, 2 ^ (e + 1)) 1 = (l + 2 ^ e, 2 ^ e) := by unfold stS; rw [if_pos rfl]; simp only [q]
   rw [z, q274 e (l + 2 ^ e) (o - 2 ^ e) (by omega) (by omega)]
   congr 1
   omega
def kth : Nat -> List Int -> Nat -> Int
 | 0, _, _ => 0
 | e + 1, us, k => if k < (halfO e 0 us).length then kth e (halfO e 0 us) k else 2 ^ e + kth e (halfO e 1 us) (k - (halfO e 0 us).length)
theorem q519 {e : Nat} {us : List Int} {k : Nat} (h : k < (halfO e 0 us).length) : kth (e + 1) us k = kth e (halfO e 0 us) k := by rw [kth, if_pos h]
theorem q520 {e : Nat} {us : List Int} {k : Nat} (h : ¬ k < (halfO e 0 us).length) : kth (e + 1) us k = 2 ^ e + kth e (halfO e 1 us) (k - (halfO e 0 us).length) := by rw [kth, if_neg h]
theorem q123 : ∀ (e : Nat) (us : List Int) (k : Nat), 0 <= kth e us k /\ kth e us k < 2 ^ e
 | 0, us, k => ⟨Int.le_refl _, (by decide : (0 : Int) < 2 ^ 0)⟩
 | e + 1, us, k => by
  have hp := pow2 e
  have h2 := p2pos e
  by_cases c : k < (halfO e 0 us).length
  ·rw [q519 c]
   have := q123 e (halfO e 0 us) k
   omega
  ·rw [q520 c]
   have := q123 e (halfO e 1 us) (k - (halfO e 0 us).length)
   omega
theorem wayW_lo {e : Nat} {us : List Int} {k : Nat} (h : k < (halfO e 0 us).length) : wayW (e + 1) (kth (e + 1) us k) = 0 :: wayW e (kth e (halfO e 0 us) k) := by
 rw [q519 h]
 exact q144 (q123 e _ k).2
theorem wayW_hi {e : Nat} {us : List Int} {k : Nat} (h : ¬ k < (halfO e 0 us).length) : wayW (e + 1) (kth (e + 1) us k) = 1 :: wayW e (kth e (halfO e 1 us) (k - (halfO e 0 us).length)) := by
 rw [q520 h, q145 (by have := (q123 e (halfO e 1 us) (k - (halfO e 0 us).length)).1; omega)]
 have : 2 ^ e + kth e (halfO e 1 us) (k - (halfO e 0 us).length) - 2 ^ e = kth e (halfO e 1 us) (k - (halfO e 0 us).length) := by omega
 rw [this]
theorem q181 {e : Nat} {us : List Int} (hin : InO (e + 1) us) (o : Int) : (o <= 2 ^ e -> us.countP (fun x => decide (x < o)) = (halfO e 0 us).countP (fun x => decide (x < o))) /\
  (2 ^ e <= o -> us.countP (fun x => decide (x < o)) = (halfO e 0 us).length + (halfO e 1 us).countP (fun x => decide (x < o - 2 ^ e))) := by
 have l0 : (halfO e 0 us).length = us.countP fun x => mk0 e x == 0 := by
  unfold halfO
  rw [List.length_map, List.countP_eq_length_filter]
 rw [l0, q81, q81]
 clear l0
 induction us with
 | nil => exact ⟨fun _ => rfl, fun _ => rfl⟩
 | cons x us ih =>
  obtain ⟨i1, i2⟩ := ih fun y hy => hin y (List.mem_cons_of_mem _ hy)
  have hx := hin x List.mem_cons_self
  rw [List.countP_cons, List.countP_cons, List.countP_cons, List.countP_cons]
  rcases mk0b e x with m | m
  ·have hm := q154 hx.1 hx.2 m
   have hxl : x < 2 ^ e := by
    unfold mk0 at m
    by_cases z : x < 2 ^ e
    ·exact z
    ·rw [if_neg z] at m; omega
   have e1 : x % 2 ^ e = x := by omega
   rw [m, e1]
   refine ⟨fun h => ?_, fun h => ?_⟩
   ·rw [i1 h]; simp
   ·rw [i2 h]
    have : x < o := by omega
    simp [this]
    omega
  ·have hm := q154 hx.1 hx.2 m
   have hxg : ¬ x < 2 ^ e := by
    unfold mk0 at m
    intro z
    rw [if_pos z] at m; omega
   rw [m]
   refine ⟨fun h => ?_, fun h => ?_⟩
   ·rw [i1 h]
    have : ¬ x < o := by omega
    simp [this]
   ·rw [i2 h]
    by_cases z : x < o
    ·have z2 : x % 2 ^ e < o - 2 ^ e := by omega
     simp [z, z2]
     omega
    ·have z2 : ¬ x % 2 ^ e < o - 2 ^ e := by omega
     simp [z, z2]
abbrev ltC (us : List Int) (o : Int) : Nat := us.countP fun x => decide (x < o)
theorem q168 : ∀ (e : Nat) (us : List Int) (k : Nat), InO e us -> k < us.length -> ltC us (kth e us k) <= k /\ k < ltC us (kth e us k + 1)
 | 0, us, k, hin, hk => by
  have h0 : us.countP (fun x => decide (x < (0 : Int))) = 0 := List.countP_eq_zero.mpr fun x hx => by have := hin x hx; simp; omega
  have h1 : us.countP (fun x => decide (x < (0 : Int) + 1)) = us.length := List.countP_eq_length.mpr fun x hx => by have := hin x hx; simp at this; exact decide_eq_true (by omega)
  show us.countP (fun x => decide (x < (0 : Int))) <= k /\ k < us.countP (fun x => decide (x < (0 : Int) + 1))
  omega
 | e + 1, us, k, hin, hk => by
  have hs := q388 (e := e) us
  by_cases c : k < (halfO e 0 us).length
  ·rw [q519 c]
   have r := q123 e (halfO e 0 us) k
   obtain ⟨i1, i2⟩ := q168 e (halfO e 0 us) k q46 c
   have e1 := (q181 hin (kth e (halfO e 0 us) k)).1 (by omega)
   have e2 := (q181 hin (kth e (halfO e 0 us) k + 1)).1 (by omega)
   unfold ltC at *
   rw [e1, e2]
   exact ⟨i1, i2⟩
  ·rw [q520 c]
   have r := q123 e (halfO e 1 us) (k - (halfO e 0 us).length)
   obtain ⟨i1, i2⟩ := q168 e (halfO e 1 us) (k - (halfO e 0 us).length) q46 (by omega)
   have e1 := (q181 hin (2 ^ e + kth e (halfO e 1 us) (k - (halfO e 0 us).length))).2 (by omega)
   have e2 := (q181 hin (2 ^ e + kth e (halfO e 1 us) (k - (halfO e 0 us).length) + 1)).2 (by omega)
   unfold ltC at *
   rw [e1, e2]
   have a1 : 2 ^ e + kth e (halfO e 1 us) (k - (halfO e 0 us).length) - 2 ^ e = kth e (halfO e 1 us) (k - (halfO e 0 us).length) := by omega
   have a2 : 2 ^ e + kth e (halfO e 1 us) (k - (halfO e 0 us).length) + 1 - 2 ^ e = kth e (halfO e 1 us) (k - (halfO e 0 us).length) + 1 := by omega
   rw [a1, a2]
   omega
theorem q146 {us : List Int} {a b : Int} (h : a <= b) : ltC us a <= ltC us b := List.countP_mono_left fun x _ hx => decide_eq_true (by have := of_decide_eq_true hx; omega)
theorem q147 (us : List Int) (o : Int) : ltC us (o + 1) = ltC us o + us.count o := by
 unfold ltC
 rw [List.count_eq_countP]
 induction us with
 | nil => rfl
 | cons x us ih =>
  rw [List.countP_cons, List.countP_cons, List.countP_cons, ih]
  by_cases c1 : x < o
  ·have c2 : x < o + 1 := by omega
   have c3 : ¬ x = o := by omega
   simp only [decide_eq_true c1, decide_eq_true c2, if_true, show (x == o) = false from beq_eq_false_iff_ne.mpr c3]
   simp
   omega
  ·by_cases c3 : x = o
   ·have c2 : x < o + 1 := by omega
    simp only [decide_eq_false c1, decide_eq_true c2, show (x == o) = true from beq_iff_eq.mpr c3]
    simp
    omega
   ·have c2 : ¬ x < o + 1 := by omega
    simp [c1, c2, c3]
def sumF : Nat -> Int -> List Int -> Nat -> Int
 | 0, least, _, k => least * (k : Int)
 | e + 1, least, us, k => sumF e least (halfO e 0 us) (min k (halfO e 0 us).length) + sumF e (least + 2 ^ e) (halfO e 1 us) (k - min k (halfO e 0 us).length)
theorem q310 : ∀ (e : Nat) (least : Int) (us : List Int) (k : Nat), sumF e least us (k + 1) - sumF e least us k = least + kth e us k
 | 0, least, us, k => by
  show least * ((k + 1 : Nat) : Int) - least * (k : Int) = least + 0
  rw [Int.natCast_add, Int.mul_add]
  simp
  omega
 | e + 1, least, us, k => by
  show (sumF e least (halfO e 0 us) (min (k + 1) _) + sumF e (least + 2 ^ e) (halfO e 1 us) (k + 1 - min (k + 1) _)) - (sumF e least (halfO e 0 us) (min k _) + sumF e (least + 2 ^ e) (halfO e 1 us) (k - min k _)) = _
  by_cases c : k < (halfO e 0 us).length
  ·rw [q519 c, Nat.min_eq_left (by omega), Nat.min_eq_left (by omega), Nat.sub_self, Nat.sub_self]
   have := q310 e least (halfO e 0 us) k
   omega
  ·rw [q520 c, Nat.min_eq_right (by omega), Nat.min_eq_right (by omega)]
   have e1 : k + 1 - (halfO e 0 us).length = (k - (halfO e 0 us).length) + 1 := by omega
   rw [e1]
   have := q310 e (least + 2 ^ e) (halfO e 1 us) (k - (halfO e 0 us).length)
   omega
theorem q223 : ∀ (e : Nat) (least : Int) (us : List Int), sumF e least us 0 = 0
 | 0, least, us => by show least * 0 = 0; omega
 | e + 1, least, us => by
  show sumF e least (halfO e 0 us) (min 0 _) + sumF e (least + 2 ^ e) (halfO e 1 us) (0 - min 0 _) = 0
  rw [Nat.zero_min, Nat.sub_zero, q223 e, q223 e]
  rfl
theorem q224 : ∀ (L : Nat) (o : Int) (gs : List G3), 0 <= o -> o < 2 ^ L -> (∀ g ∈ gs, GoodS L g) -> manyG (gs.map (ledS L (wayW L o))) = ((Wh gs).count o : Nat)
 | 0, o, gs, h0, h1, hg => by
  have e0 : gs.map (ledS 0 (wayW 0 o)) = gs := by
   have : ∀ g ∈ gs, ledS 0 (wayW 0 o) g = id g := fun g _ => q60 0 g
   rw [List.map_congr_left this, List.map_id]
  rw [e0, q107 hg]
  have ho : o = 0 := by have : (2 : Int) ^ 0 = 1 := rfl; omega
  have hin := W_in hg
  rw [ho, List.count_eq_length.mpr fun b hb => by have := hin b hb; simp at this; omega]
 | e + 1, o, gs, h0, h1, hg => by
  have hp := pow2 e
  have good1 : ∀ w, ∀ g ∈ gs.map (led1 e w), GoodS e g := fun w g hg' => by
   obtain ⟨g', hg2, rfl⟩ := List.mem_map.mp hg'
   exact q131 (hg g' hg2)
  have em : ∀ (w : Int) (ws : List Int), gs.map (ledS (e + 1) (w :: ws)) = (gs.map (led1 e w)).map (ledS e ws) := fun w ws => by
   rw [List.map_map]
   exact List.map_congr_left fun g _ => q73 e w ws g
  by_cases c : o < 2 ^ e
  ·rw [q144 c, em, q224 e o _ h0 c (good1 0), W_led hg, q99 (W_in hg) (.inl rfl) h0 c]
   have : o + 0 * 2 ^ e = o := by omega
   rw [this]
  ·rw [q145 c, em, q224 e (o - 2 ^ e) _ (by omega) (by omega) (good1 1), W_led hg, q99 (W_in hg) (.inr rfl) (by omega) (by omega)]
   have : o - 2 ^ e + 1 * 2 ^ e = o := by omega
   rw [this]
def stp (L : Nat) (low : Int) (us : List Int) : List P2 := caF 1 0 L low us
theorem q568 {ss : List P2} {f : P2 -> Bool} (hs : ss.Pairwise fun p q => p.1 < q.1) {p : P2} (hp : p ∈ ss) (hf : f p = true) (hl : ∀ q ∈ ss, f q = true -> p.1 <= q.1) : ss.find? f = some p := by
 induction ss with
 | nil => cases hp
 | cons x ss ih =>
  rw [List.find?_cons]
  cases hx : f x with
  | true =>
   rcases List.mem_cons.mp hp with rfl | hp'
   ·rfl
   ·have h1 := (List.pairwise_cons.mp hs).1 p hp'
    have h2 := hl x List.mem_cons_self hx
    omega
  | false =>
   rcases List.mem_cons.mp hp with rfl | hp'
   ·rw [hf] at hx; cases hx
   ·exact ih (List.pairwise_cons.mp hs).2 hp' fun q hq => hl q (List.mem_cons_of_mem _ hq)
theorem q651 {ss : List P2} (hs : ss.Pairwise fun p q => p.1 < q.1) {i : Nat} {p : P2} (hp : ss[i]? = some p) : ss.find? (fun q => decide (p.1 < q.1)) = ss[i + 1]? := by
 induction ss generalizing i with
 | nil => simp at hp
 | cons x ss ih =>
  obtain ⟨h1, h2⟩ := List.pairwise_cons.mp hs
  cases i with
  | zero =>
   have : x = p := by simpa using hp
   subst this
   rw [List.find?_cons, decide_eq_false (by omega)]
   show ss.find? _ = ss[0]?
   cases ss with
   | nil => rfl
   | cons y ss =>
    rw [List.find?_cons, decide_eq_true (h1 y List.mem_cons_self)]
    rfl
  | succ i =>
   have hp' : ss[i]? = some p := by simpa using hp
   have := h1 p (List.mem_of_getElem? hp')
   rw [List.find?_cons, decide_eq_false (by omega)]
   simpa using ih h2 hp'
theorem q521 (us : List Int) (o : Int) : ltC us o <= us.length := List.countP_le_length
theorem up_find {L : Nat} {low num : Int} {us : List Int} (hin : InO L us) :
  (ltC us (num + 1 - low) = us.length -> (stp L low us).find? (fun q => decide (num < q.1)) = none) /\
  (ltC us (num + 1 - low) ≠ us.length -> (stp L low us).find? (fun q => decide (num < q.1)) = some ((low + kth L us (ltC us (num + 1 - low)), ((us.count (kth L us (ltC us (num + 1 - low))) : Nat) : Int)) : P2)) := by
 have hle := q521 us (num + 1 - low)
 constructor
 ·intro h
  rw [List.find?_eq_none]
  intro q hq hf
  have r := q166 hin hq
  have hm : q.1 - low ∈ us := List.count_pos_iff.mp (by omega)
  have := List.countP_eq_length.mp h _ hm
  have := of_decide_eq_true this
  have := of_decide_eq_true hf
  omega
 ·intro h
  have hk : ltC us (num + 1 - low) < us.length := by omega
  obtain ⟨c1, c2⟩ := q168 L us _ hin hk
  have r := q123 L us (ltC us (num + 1 - low))
  generalize hko : kth L us (ltC us (num + 1 - low)) = o at *
  have hge : num + 1 - low <= o := by
   apply Classical.byContradiction
   intro c
   have := q146 (us := us) (show o + 1 <= num + 1 - low by omega)
   omega
  rw [q147] at c2
  have hcnt : 0 < us.count o := by
   have := q146 (us := us) hge
   omega
  refine q568 (f := fun q => decide (num < q.1)) (q122 L low us hin) ((q220 L low us hin _ _).mpr ⟨by rw [show low + o - low = o by omega], by omega⟩) (decide_eq_true (by show num < low + o; omega)) (fun q hq hf => ?_)
  show low + o <= q.1
  have rq := q166 hin hq
  have hf' := of_decide_eq_true hf
  apply Classical.byContradiction
  intro c
  have h1 := q146 (us := us) (show num + 1 - low <= q.1 - low by omega)
  have h2 := q146 (us := us) (show q.1 - low + 1 <= o by omega)
  rw [q147] at h2
  have : 0 < us.count (q.1 - low) := by omega
  omega
theorem q652 {L : Nat} {low num : Int} {us : List Int} (hin : InO L us) :
  (ltC us (num - low) = 0 -> (stp L low us).reverse.find? (fun q => decide (q.1 < num)) = none) /\
  (ltC us (num - low) ≠ 0 -> (stp L low us).reverse.find? (fun q => decide (q.1 < num)) = some ((low + kth L us (ltC us (num - low) - 1), ((us.count (kth L us (ltC us (num - low) - 1)) : Nat) : Int)) : P2)) := by
 have hle := q521 us (num - low)
 constructor
 ·intro h
  rw [List.find?_eq_none]
  intro q hq hf
  have r := q166 hin (List.mem_reverse.mp hq)
  have hm : q.1 - low ∈ us := List.count_pos_iff.mp (by omega)
  have := List.countP_eq_zero.mp h _ hm
  have h2 := of_decide_eq_true hf
  exact this (decide_eq_true (by omega))
 ·intro h
  have hk : ltC us (num - low) - 1 < us.length := by omega
  obtain ⟨c1, c2⟩ := q168 L us _ hin hk
  have r := q123 L us (ltC us (num - low) - 1)
  generalize hko : kth L us (ltC us (num - low) - 1) = o at *
  have hlt : o < num - low := by
   apply Classical.byContradiction
   intro c
   have := q146 (us := us) (show num - low <= o by omega)
   omega
  rw [q147] at c2
  have hcnt : 0 < us.count o := by omega
  have hmem : ((low + o, ((us.count o : Nat) : Int)) : P2) ∈ stp L low us := (q220 L low us hin _ _).mpr ⟨by rw [show low + o - low = o by omega], by omega⟩
  have key : ∀ {ss : List P2}, ss.Pairwise (fun p q => p.1 > q.1) -> ∀ {p : P2} {f : P2 -> Bool}, p ∈ ss -> f p = true -> (∀ q ∈ ss, f q = true -> q.1 <= p.1) -> ss.find? f = some p := by
   intro ss
   induction ss with
   | nil => intro _ p f hp; cases hp
   | cons x ss ih =>
    intro hs p f hp hf hl
    rw [List.find?_cons]
    cases hx : f x with
    | true =>
     rcases List.mem_cons.mp hp with rfl | hp'
     ·rfl
     ·have h1 := (List.pairwise_cons.mp hs).1 p hp'
      have h2 := hl x List.mem_cons_self hx
      omega
    | false =>
     rcases List.mem_cons.mp hp with rfl | hp'
     ·rw [hf] at hx; cases hx
     ·exact ih (List.pairwise_cons.mp hs).2 hp' hf fun q hq => hl q (List.mem_cons_of_mem _ hq)
  refine key (f := fun q => decide (q.1 < num)) (List.pairwise_reverse.mpr (q122 L low us hin)) (List.mem_reverse.mpr hmem) (decide_eq_true (by show low + o < num; omega)) (fun q hq hf => ?_)
  show q.1 <= low + o
  have rq := q166 hin (List.mem_reverse.mp hq)
  have hf' := of_decide_eq_true hf
  apply Classical.byContradiction
  intro c
  have h1 := q146 (us := us) (show o + 1 <= q.1 - low by omega)
  have h2 := q146 (us := us) (show q.1 - low + 1 <= num - low by omega)
  rw [q147] at h2
  rw [q147] at h1
  have : 0 < us.count (q.1 - low) := by omega
  omega
abbrev q225 : Nat := 1
abbrev q444 : Nat := 40
abbrev q389 : Nat := 42
inductive ispe_lifted (u0 : PySem.W.Frag) (e : Nat) (vs : List V) (H : Hp) (Q : VK) (E : XK) : Prop
 | mk (v : V) (wy : Addr) (k i : Nat) (L : Nat) (os ws : List Int) (hz0 : vs = [v, .ref wy, .int (k : Int)]) (hz1 : q25 H v (growO L os)) (hz2 : TupF H wy (ws.map V.int)) (hz3 : ws.length = e) (hz4 : e <= L) (hz5 : B01 ws) (hz6 : InO L os) (hz7 : (spots L os ws)[k]? = some i) (hz8 : ∀ H', Same H H' -> Q (.int (i : Int)) H') : ispe_lifted u0 e vs H Q E
def q351 (u0 : PySem.W.Frag) (e : Nat) : Sp := ispe_lifted u0 e
def q311 (K : PySem.W.Frag) : Sp := fun vs H Q E => ∃ e, e <= q444 /\ q351 K e vs H Q E
theorem q390 (w : Int) (ws : List Int) : cutV ((w :: ws).map V.int) (some 1) none = ws.map V.int := by
 unfold cutV
 have e1 : HT.sIx ((w :: ws).map V.int).length 0 (some 1) = 1 := by
  rw [List.length_map, List.length_cons]
  simp [HT.sIx]
  try omega
 rw [e1, HT.q684, List.map_cons, List.drop_succ_cons, List.drop_zero, List.length_cons, Nat.add_sub_cancel]
 exact List.take_length
abbrev q109 : Nat := 3
inductive isp_number_at (K : PySem.W.Frag) (vs : List V) (H : Hp) (Q : VK) (E : XK) : Prop
 | mk (b : Addr) (v : V) (i : Nat) (o low : Int) (L : Nat) (os : List Int) (hz0 : vs = [.ref b, v, .int (i : Int)]) (hz1 : SqT K H b [.int low, .int (L : Int)]) (hz2 : L <= 40) (hz3 : q25 H v (growO L os)) (hz4 : InO L os) (hz5 : os[i]? = some o) (hz6 : ∀ H', Same H H' -> Q (.int (low + o)) H') : isp_number_at K vs H Q E
def q90 (K : PySem.W.Frag) : Sp := isp_number_at K
def muN : St -> Nat := fun σ => match σ[4]? with
 | some (some (V.int m)) => m.toNat
 | _ => 0
abbrev q114 : Nat := 4
inductive isp_way_of_nth (K : PySem.W.Frag) (vs : List V) (H : Hp) (Q : VK) (E : XK) : Prop
 | mk (ga : Addr) (xs : List V) (L k : Nat) (gs : List G3) (hz0 : vs = [.int (L : Int), .ref ga, .int (k : Int)]) (hz1 : L <= 40) (hz2 : H ga = some (.lst xs)) (hz3 : GatAt H L xs gs) (hz4 : (∀ g ∈ gs, GoodS L g)) (hz5 : gs.length <= 100) (hz6 : (Wh gs).length <= 900) (hz7 : k < (Wh gs).length) (hz8 : ∀ t H', Same H H' -> TupF H' t ((wayW L (kth L (Wh gs) k)).map V.int) -> Q (.ref t) H') : isp_way_of_nth K vs H Q E
def q96 (K : PySem.W.Frag) : Sp := isp_way_of_nth K
abbrev q97 : Nat := 5
inductive isp_counted_nth (K : PySem.W.Frag) (vs : List V) (H : Hp) (Q : VK) (E : XK) : Prop
 | mk (b ga : Addr) (xs : List V) (low : Int) (L k : Nat) (gs : List G3) (hz0 : vs = [.ref b, .ref ga, .int (k : Int)]) (hz1 : SqT K H b [.int low, .int (L : Int)]) (hz2 : L <= 40) (hz3 : H ga = some (.lst xs)) (hz4 : GatAt H L xs gs) (hz5 : (∀ g ∈ gs, GoodS L g)) (hz6 : gs.length <= 100) (hz7 : (Wh gs).length <= 900) (hz8 : k < (Wh gs).length) (hz9 : ∀ v H', Same H H' -> PsR H' v (low + kth L (Wh gs) k, (((Wh gs).count (kth L (Wh gs) k) : Nat) : Int)) -> Q v H') : isp_counted_nth K vs H Q E
def q85 (K : PySem.W.Frag) : Sp := isp_counted_nth K
def NxV (H : Hp) (v : V) : Option P2 -> Prop
 | none => v = .non
 | some p => PsR H v p
abbrev q312 : Nat := 6
inductive isp_next_up (K : PySem.W.Frag) (vs : List V) (H : Hp) (Q : VK) (E : XK) : Prop
 | mk (b ga : Addr) (xs : List V) (low num : Int) (L : Nat) (gs : List G3) (hz0 : vs = [.ref b, .ref ga, .int num]) (hz1 : SqT K H b [.int low, .int (L : Int)]) (hz2 : L <= 40) (hz3 : H ga = some (.lst xs)) (hz4 : GatAt H L xs gs) (hz5 : (∀ g ∈ gs, GoodS L g)) (hz6 : gs.length <= 100) (hz7 : (Wh gs).length <= 900) (hz8 : ∀ v H', Same H H' -> NxV H' v ((stp L low (Wh gs)).find? fun q => decide (num < q.1)) -> Q v H') : isp_next_up K vs H Q E
def q182 (K : PySem.W.Frag) : Sp := isp_next_up K
abbrev q200 : Nat := 6
inductive isp_next_down (K : PySem.W.Frag) (vs : List V) (H : Hp) (Q : VK) (E : XK) : Prop
 | mk (b ga : Addr) (xs : List V) (low num : Int) (L : Nat) (gs : List G3) (hz0 : vs = [.ref b, .ref ga, .int num]) (hz1 : SqT K H b [.int low, .int (L : Int)]) (hz2 : L <= 40) (hz3 : H ga = some (.lst xs)) (hz4 : GatAt H L xs gs) (hz5 : (∀ g ∈ gs, GoodS L g)) (hz6 : gs.length <= 100) (hz7 : (Wh gs).length <= 900) (hz8 : ∀ v H', Same H H' -> NxV H' v ((stp L low (Wh gs)).reverse.find? fun q => decide (q.1 < num)) -> Q v H') : isp_next_down K vs H Q E
def q169 (K : PySem.W.Frag) : Sp := isp_next_down K
abbrev q82 : Nat := 3
abbrev q313 : Nat := 40
abbrev q250 : Nat := 44
inductive ispe_sum_from (K : PySem.W.Frag) (e : Nat) (vs : List V) (H : Hp) (Q : VK) (E : XK) : Prop
 | mk (least : Int) (pa : Addr) (xs : List V) (k : Nat) (gs : List G3) (hz0 : vs = [.int least, .int (2 ^ e), .ref pa, .int (k : Int)]) (hz1 : SqL K H pa xs) (hz2 : GatAt H e xs gs) (hz3 : (∀ g ∈ gs, GoodS e g)) (hz4 : gs.length <= 100) (hz5 : k <= 900) (hz6 : ∀ H', Same H H' -> Q (.int (sumF e least (Wh gs) k)) H') : ispe_sum_from K e vs H Q E
def q262 (K : PySem.W.Frag) (e : Nat) : Sp := ispe_sum_from K e
def q201 (K : PySem.W.Frag) : Sp := fun vs H Q E => ∃ e, e <= q313 /\ q262 K e vs H Q E
abbrev q124 : Nat := 45
inductive isp_sum_of_least (K : PySem.W.Frag) (vs : List V) (H : Hp) (Q : VK) (E : XK) : Prop
 | mk (b ga : Addr) (xs : List V) (low : Int) (L k : Nat) (gs : List G3) (hz0 : vs = [.ref b, .ref ga, .int (k : Int)]) (hz1 : SqT K H b [.int low, .int (L : Int)]) (hz2 : L <= 40) (hz3 : SqL K H ga xs) (hz4 : GatAt H L xs gs) (hz5 : (∀ g ∈ gs, GoodS L g)) (hz6 : gs.length <= 100) (hz7 : (Wh gs).length <= 900) (hz8 : k <= (Wh gs).length) (hz9 : ∀ H', Same H H' -> Q (.int (sumF L low (Wh gs) k)) H') : isp_sum_of_least K vs H Q E
def q110 (K : PySem.W.Frag) : Sp := isp_sum_of_least K
section
variable {P : Program} {w : World} {K : PySem.W.Frag} {mg : Str -> Option Value} {base : Heap}
theorem q653 (d : Def K mg "lifted" q377 ["tree", "way", "place"]) (z : Bz mg) (c_half_of : Cal P w K mg base q57 "half_of" ["tree", "mark"] (q71 K)) (c_place_of : Cal P w K mg base q177 "place_of" ["marks", "mark", "number"] (q198 K)) (c_size_of : Cal P w K mg base q65 "size_of" ["tree"] (q79 K)) : Cal P w K mg base q389 "lifted" ["tree", "way", "place"] (q311 K) := by
 have sc := q633
 refine d.recur (k := q225) (sp := q351 K) q444 fun e hen c_lifted f fd F => F.ok sc (fun vs H Q E h => ?_) (fun cdv A outer s H vs Q E hr h => ?_)
 ·obtain ⟨v, wy, k, i, L, os, ws, rfl, _⟩ := h
  rfl
 obtain ⟨v, wy, k, i, L, os, ws, rfl, ht, hw, hwl, heL, h01, hin, hi, q⟩ := h
 refine ⟨_, (q11 (ps_if (q17 op_eq (q26 q24 (by rfl) z.len_ q62 (q10 (pv 1) q12)) q14 (q20 _))
 (q11 (ps_if (PW.pt (pw_or (q17 op_lt (pv 2) q14 (q20 _)) (q92 (q17 op_ge (pv 2) (pe_fn c_size_of (hr.mono (Nat.le_trans (by decide : q65 <= q225) (Nat.le_add_left _ _))) (by rfl) (q10 (pv 0) q12)) (q20 _)))))
 (q16 q84)
 q23)
 (q16 (q21 (pv 2))))
 q23)
 (q11 (q19 (i := 3) sc.nd rfl (Or.inl rfl) (pe_fn c_lifted (hr.mono (Nat.le_refl _)) (by rfl) (q10 (pe_fn c_half_of (hr.mono (Nat.le_trans (by decide : q57 <= q225) (Nat.le_add_left _ _))) (by rfl) (q10 (pv 0) (q10 (pe_ix q22 (pv 1) q14 (fun _ _ => rfl)) q12))) (q10 (q41 q157 (pv 1) (q44 q14) q52) (q10 (pv 2) q12)))))
 (q16 (q21 (pe_fn c_place_of (hr.mono (Nat.le_trans (by decide : q177 <= q225) (Nat.le_add_left _ _))) (by rfl) (q10 (pe_ix q22 (pv 0) q14 (fun _ _ => rfl)) (q10 (pe_ix q22 (pv 1) q14 (fun _ _ => rfl)) (q10 (pv 3) q12)))))))), ?_⟩
 refine ⟨_, rfl, wy, _, rfl, .inr hw.sq, rfl, _, rfl, ?_⟩
 cases ws with
 | nil =>
  refine ite2 (fun _ => ?_) (fun c => absurd (decide_eq_true rfl) c)
  rw [q478] at hi
  have hk : k < os.length := by
   have := (List.getElem?_eq_some_iff.mp hi).1
   rwa [List.length_range] at this
  rw [List.getElem?_range hk] at hi
  cases hi
  refine ⟨_, rfl, _, _, rfl, rfl, _, rfl, ?_⟩
  refine ite2 (fun c => absurd (of_decide_eq_true c) (by omega)) (fun _ => ?_)
  refine ⟨_, rfl, _, rfl, v, _, rfl, ht, _, _, rfl, rfl, _, rfl, ?_⟩
  rw [q349]
  refine ite2 (fun c => absurd (of_decide_eq_true c) (by omega)) (fun _ => ?_)
  exact ⟨_, rfl, q H (Same.refl H)⟩
 | cons w0 ws =>
  refine ite2 (fun c => ?_) (fun _ => ?_)
  ·exfalso
   have := V.int.inj (of_decide_eq_true c)
   rw [List.length_map, List.length_cons] at this
   omega
  obtain ⟨e', rfl⟩ : ∃ e', e = e' + 1 := ⟨ws.length, by rw [<- hwl]; rfl⟩
  obtain ⟨L', rfl⟩ : ∃ L', L = L' + 1 := ⟨L - 1, by omega⟩
  have hw0 : w0 = 0 \/ w0 = 1 := h01 w0 (List.mem_cons_self ..)
  have h01' : B01 ws := fun m hm => h01 m (List.mem_cons_of_mem _ hm)
  have hwl' : ws.length = e' := by rw [List.length_cons] at hwl; omega
  have h0at : atI ((w0 :: ws).map V.int) 0 = some (.int w0) := by
   show atI _ ((0 : Nat) : Int) = _
   exact q69 rfl
  have hdn := q564 (w := w0) (ws := ws) hin k
  rw [hi] at hdn
  cases hi2 : (spots L' (halfO L' w0 os) ws)[k]? with
  | none => rw [hi2, Option.bind_none] at hdn; cases hdn
  | some i2 =>
   rw [hi2, Option.bind_some] at hdn
   refine ⟨_, rfl, _, rfl, wy, _, _, _, rfl, rfl, hw.sq, h0at, v, _, w0, rfl, ht, hw0, fun u hu => ?_⟩
   rw [q245 hin hw0] at hu
   refine ⟨_, rfl, 1, rfl, wy, _, rfl, hw, fun w2 H1 s1 hw2 => ⟨_, rfl, ?_⟩⟩
   rw [q390] at hw2
   refine ⟨u, w2, k, i2, L', halfO L' w0 os, ws, rfl, hu.same s1, hw2, hwl', by omega, h01', q46, hi2, fun H2 s2 => ?_⟩
   have s02 := s1.trans s2
   have hne : os ≠ [] := fun z => by
    rw [z] at hi2
    have e0 : halfO L' w0 [] = [] := rfl
    rw [e0, q642] at hi2
    simp at hi2
   have ht2 := ht.same s02
   rw [q80 hne] at ht2
   obtain ⟨a, m, x, y, rfl, ha, hm, _, _⟩ := ht2
   exact ⟨_, rfl, a, _, _, _, rfl, rfl, SqT.of ha, rfl, _, rfl, wy, _, _, _, rfl, rfl, (hw.same s02).sq, h0at, _, rfl, m, os.map (mk0 L'), w0, (i2 : Int), i, rfl, hm.sq, hdn.symm, fun H3 s3 => q H3 (s02.trans s3)⟩
theorem q445 (d : Def K mg "number_at" q186 ["bounds", "tree", "place"]) (z : Bz mg) (c_ahead : Cal P w K mg base q164 "ahead" ["marks", "mark", "place"] (q178 K)) (c_half_of : Cal P w K mg base q57 "half_of" ["tree", "mark"] (q71 K)) (c_many_worths : Cal P w K mg base q34 "many_worths" ["levels"] (q30 K)) (c_size_of : Cal P w K mg base q65 "size_of" ["tree"] (q79 K)) : Cal P w K mg base q109 "number_at" ["bounds", "tree", "place"] (q90 K) := by
 have sc := q422
 refine d.cal fun f fd F => F.ok sc (fun vs H Q E h => ?_) (fun cdv A outer s H vs Q E hr h => ?_)
 ·obtain ⟨b, v, i, o, low, L, os, rfl, _⟩ := h
  rfl
 obtain ⟨b, v, i, o, low, L, os, rfl, hb, hL, ht, hin, gi, q⟩ := h
 refine ⟨_, (q11 (ps_if (PW.pt (pw_or (q17 op_lt (pv 2) q14 (q20 _)) (q92 (q17 op_ge (pv 2) (pe_fn c_size_of (hr.mono (by decide)) (by rfl) (q10 (pv 1) q12)) (q20 _)))))
 (q16 q84)
 q23)
 (q11 (q19 (i := 3) sc.nd rfl (Or.inl rfl) (pe_ix q22 (pv 0) q14 (fun _ _ => rfl)))
 (q11 (q19 (i := 4) sc.nd rfl (Or.inl rfl) (pe_fn c_many_worths (hr.mono (by decide)) (by rfl) (q10 (pe_ix q22 (pv 0) q14 (fun _ _ => rfl)) q12)))
 (q11 (q19 (i := 5) sc.nd rfl (Or.inl rfl) (pv 1))
 (q11 (q19 (i := 6) sc.nd rfl (Or.inl rfl) (pv 2))
 (q11 (q360 PassesOwn.never (q17 op_eq (pe_ix q22 (pv 5) q14 (fun _ _ => rfl)) q47 (q20 _))
 (q11 (q19 (i := 4) sc.nd rfl (Or.inl rfl) (pe_op q112 (pv 4) q14))
 (q11 (q19 (i := 7) sc.nd rfl (Or.inl rfl) (pe_ix q22 (pe_ix q22 (pv 5) q14 (fun _ _ => rfl)) (pv 6) (fun _ _ => rfl)))
 (q11 (q19 (i := 6) sc.nd rfl (Or.inl rfl) (pe_fn c_ahead (hr.mono (by decide)) (by rfl) (q10 (pe_ix q22 (pv 5) q14 (fun _ _ => rfl)) (q10 (pv 7) (q10 (pv 6) q12)))))
 (q11 (q19 (i := 3) sc.nd rfl (Or.inl rfl) (pe_op q29 (pv 3) (pe_op q101 (pv 7) (pv 4))))
 (q16 (q19 (i := 5) sc.nd rfl (Or.inl rfl) (pe_fn c_half_of (hr.mono (by decide)) (by rfl) (q10 (pv 5) (q10 (pv 7) q12))))))))))
 (q16 (q21 (pv 3))))))))), ?_⟩
 have hi : i < os.length := (List.getElem?_eq_some_iff.mp gi).1
 refine ⟨_, rfl, _, _, rfl, rfl, _, rfl, ?_⟩
 refine ite2 (fun c => absurd (of_decide_eq_true c) (by omega)) (fun _ => ?_)
 refine ⟨_, rfl, _, rfl, v, _, rfl, ht, _, _, rfl, rfl, _, rfl, ?_⟩
 rw [q349]
 refine ite2 (fun c => absurd (of_decide_eq_true c) (by omega)) (fun _ => ?_)
 refine ⟨_, rfl, b, _, _, _, rfl, rfl, hb, rfl, _, rfl, b, _, _, _, rfl, rfl, hb, rfl, L, rfl, hL, _, rfl, _, rfl, ?_⟩
 refine q361 (fun σ H2 => ∃ (e : Nat) (ls : Int) (u : V) (j : Nat) (ms : List Int) (o' : Int) (mv : Option V), σ = [some (.ref b), some v, some (.int (i : Int)), some (.int ls), some (.int (2 ^ e)), some u, some (.int (j : Int)), mv] /\ e <= 40 /\ Same H H2 /\ q25 H2 u (growO e ms) /\ InO e ms /\ ms[j]? = some o' /\ ls + o' = low + o) (fun σ _ => muN σ)
  ⟨L, low, v, i, os, o, none, rfl, hL, Same.refl H, ht, hin, gi, rfl⟩ ?_ ?_
 ·rintro σ H2 ⟨e, ls, u, j, ms, o', mv, rfl, he, s2, ht2, hin2, gj, hlo⟩
  have hne : ms ≠ [] := fun z => by rw [z] at gj; simp at gj
  have ho' := hin2 o' (List.mem_of_getElem? gj)
  cases e with
  | zero =>
   rw [q244 hne] at ht2
   obtain ⟨a, rfl, ha⟩ := ht2
   refine ⟨_, rfl, a, _, _, _, rfl, rfl, SqT.of ha, rfl, rfl, _, rfl, ?_⟩
   refine ite2 (fun c => absurd (of_decide_eq_true c) (by decide)) (fun c => ?_)
   have e1 : ls = low + o := by
    have : (2 : Int) ^ 0 = 1 := rfl
    omega
   refine ⟨_, rfl, ?_⟩
   rw [e1]
   exact q H2 s2
  | succ e =>
   have ht2' := ht2
   rw [q80 hne] at ht2
   obtain ⟨a, m, x, y, rfl, ha, hm, hx, hy⟩ := id ht2
   refine ⟨_, rfl, a, _, _, _, rfl, rfl, SqT.of ha, rfl, rfl, _, rfl, ?_⟩
   refine ite2 (fun c => ?_) (fun c => absurd (decide_eq_true rfl) c)
   refine ⟨_, rfl, _, _, rfl, rfl, ⟨by decide, by decide⟩, ?_⟩
   dsimp only
   rw [q273]
   have gk : ((ms.map (mk0 e)).map V.int)[j]? = some (.int (mk0 e o')) := by rw [List.getElem?_map, List.getElem?_map, gj]; rfl
   have hk := mk0b e o'
   refine ⟨_, rfl, a, _, _, _, rfl, rfl, SqT.of ha, rfl, _, rfl, m, _, _, _, rfl, rfl, hm.sq, q69 gk, ?_⟩
   refine ⟨_, rfl, a, _, _, _, rfl, rfl, SqT.of ha, rfl, _, rfl, _, rfl, m, ms.map (mk0 e), _, j, rfl, hm, fun H3 s3 => ?_⟩
   refine ⟨_, rfl, _, rfl, _, rfl, _, _, rfl, rfl, .inl ⟨by omega, by omega⟩, _, _, rfl, rfl, ?_⟩
   refine ⟨_, rfl, _, rfl, _, _, _, rfl, ht2'.same s3, hk, fun u' hu' => ?_⟩
   rw [q245 hin2 hk] at hu'
   have hh := half_at gj (rfl : mk0 e o' = mk0 e o')
   rw [<- cnt_take] at hh
   have mm := q154 ho'.1 ho'.2 (rfl : mk0 e o' = mk0 e o')
   refine ⟨⟨e, ls + mk0 e o' * 2 ^ e, u', _, _, _, _, rfl, by omega, s2.trans s3, hu', q46, hh, by omega⟩, ?_⟩
   show ((2 : Int) ^ e).toNat < ((2 : Int) ^ (e + 1)).toNat
   have := p2pos e
   have := pow2 e
   omega
 ·rintro σ H2 Q1 Q2 hq ⟨_, e0, p, xs, i, v, e1, e2, e3, e4, e5, k, e6, h⟩
  exact ⟨_, e0, p, xs, i, v, e1, e2, e3, e4, e5, k, e6, hq _ _ h⟩
theorem q391 (d : Def K mg "way_of_nth" q160 ["levels", "gathering", "k"]) (z : Bz mg) (c_led : Cal P w K mg base k_led "led" ["gathering", "way"] (q218 K)) (c_many_in : Cal P w K mg base q39 "many_in" ["gathering"] (q38 K)) : Cal P w K mg base q114 "way_of_nth" ["levels", "gathering", "k"] (q96 K) := by
 have sc := q382
 refine d.cal fun f fd F => F.ok sc (fun vs H Q E h => ?_) (fun cdv A outer s H vs Q E hr h => ?_)
 ·obtain ⟨ga, xs, L, k, gs, rfl, _⟩ := h
  rfl
 obtain ⟨ga, xs, L, k, gs, rfl, hL, hga, hg, hgd, hl, hw9, hk, q⟩ := h
 refine ⟨_, (q11 (q19 (i := 3) sc.nd rfl (Or.inl rfl) (q55 q12))
 (q11 (q19 (i := 4) sc.nd rfl (Or.inl rfl) (pv 1))
 (q11 (q19 (i := 5) sc.nd rfl (Or.inl rfl) (pv 2))
 (q11 (q152 PassesOwn.never rfl (q126 rfl z.range_ (q10 (pv 0) q12)) (q48 (i := 6) sc.nd rfl (Or.inl rfl))
 (q11 (q19 (i := 7) sc.nd rfl (Or.inl rfl) (pe_fn c_many_in (hr.mono (by decide)) (by rfl) (q10 (pe_fn c_led (hr.mono (by decide)) (by rfl) (q10 (pv 4) (q10 (q27 (q10 q14 q12)) q12))) q12)))
 (q11 (q19 (i := 8) sc.nd rfl (Or.inl rfl) (q358 (q17 op_lt (pv 5) (pv 7) (q20 _)) q14 q14))
 (q11 (q19 (i := 5) sc.nd rfl (Or.inl rfl) (pe_op q54 (pv 5) (pe_op q101 (pv 8) (pv 7))))
 (q11 (q19 (i := 4) sc.nd rfl (Or.inl rfl) (pe_fn c_led (hr.mono (by decide)) (by rfl) (q10 (pv 4) (q10 (q27 (q10 (pv 8) q12)) q12))))
 (q16 (q230 (pe_bm PySem.F.plainAttrs_list PySem.F.slot_list_append PySem.F.type_list_append q86 (pv 3) (q10 (pv 8) q12)))))))))
 (q16 (q21 (q128 q135 (by rfl) z.tuple_ q268 (q10 (pv 3) q12)))))))), ?_⟩
 refine ⟨szb rfl, fun wl hwl => ?_⟩
 have s1 := q15 hwl (.lst [])
 have hwl1 : upd H wl (.lst []) wl = some (.lst []) := q13
 generalize upd H wl (.lst []) = H1 at *
 have hgw : ga ≠ wl := fun z => by rw [z, hwl] at hga; cases hga
 refine ⟨_, rfl, _, rfl, _, rfl, (L : Int), rfl, by omega, by omega, q127 (n := L) (fun i σ H2 => ∃ (pa : Addr) (zs : List V) (gs' : List G3) (k' : Nat) (ws : List Int) (v6 v7 v8 : Option V), σ = [some (.int (L : Int)), some (.ref ga), some (.int (k : Int)), some (.ref wl), some (.ref pa), some (.int (k' : Int)), v6, v7, v8] /\ Same H H2 /\ H2 wl = some (.lst (ws.map V.int)) /\ ws.length = i /\ H2 pa = some (.lst zs) /\ GatAt H2 (L - i) zs gs' /\ (∀ g ∈ gs', GoodS (L - i) g) /\ gs'.length <= 100 /\ (Wh gs').length <= 900 /\ k' < (Wh gs').length /\ pa ≠ wl /\
   wayW L (kth L (Wh gs) k) = ws ++ wayW (L - i) (kth (L - i) (Wh gs') k')) ⟨ga, xs, gs, k, [], none, none, none, rfl, s1, hwl1, rfl, s1 _ _ hga, hg.same s1, hgd, hl, hw9, hk, hgw, rfl⟩ ?_ ?_⟩
 ·rintro i σ H2 hi ⟨pa, zs, gs', k', ws, v6, v7, v8, rfl, s2, hwl2, hwsl, hpa, hg', hgd', hl', hw9', hk', hpw, hway⟩
  obtain ⟨e, he⟩ : ∃ e, L - i = e + 1 := ⟨L - i - 1, by omega⟩
  have he2 : L - (i + 1) = e := by omega
  rw [he] at hg' hgd' hway
  have el : ∀ w : Int, gs'.map (ledS (e + 1) [w]) = gs'.map (led1 e w) := fun w => List.map_congr_left fun g _ => by rw [q73, q60]
  have good1 : ∀ w, ∀ g ∈ gs'.map (led1 e w), GoodS e g := fun w g hg => by
   obtain ⟨g', hg', rfl⟩ := List.mem_map.mp hg
   exact q131 (hgd' g' hg')
  have hsum := q388 (e := e) (Wh gs')
  have lenH : ∀ w : Int, (halfO e w (Wh gs')).length <= 900 := fun w => Nat.le_trans q163 hw9'
  refine ⟨_, rfl, szb rfl, fun w0 hw0 => ?_⟩
  have s3 := q15 hw0 (.tup [V.int 0])
  have hw0' : upd H2 w0 (.tup [V.int 0]) w0 = some (.tup [V.int 0]) := q13
  generalize upd H2 w0 (.tup [V.int 0]) = H3 at *
  refine ⟨pa, w0, zs, e + 1, [0], gs', rfl, SqL.of (s3 _ _ hpa), hg'.same s3, hgd', by omega, SqT.of hw0', by simp, (fun x hx => by rw [List.mem_singleton.mp hx]; exact .inl rfl), fun H4 D4 z4 s4 hD4 hD4n hg4 => ?_⟩
  rw [el] at hg4
  refine ⟨D4, z4, e, _, rfl, SqL.of hD4, hg4, by rw [List.length_map]; omega, fun H5 s5 => ?_⟩
  rw [q107 (good1 0), W_led hgd']
  have s25 := (s3.trans s4).trans s5
  refine ⟨_, rfl, _, rfl, _, _, rfl, rfl, _, rfl, ?_⟩
  refine ite2 (fun c => ?_) (fun c => ?_)
  ·have c' : k' < (halfO e 0 (Wh gs')).length := by have := of_decide_eq_true c; omega
   rw [wayW_lo c'] at hway
   refine ⟨_, rfl, _, rfl, _, rfl, _, _, rfl, rfl, .inl ⟨by decide, by decide⟩, _, _, rfl, rfl, ?_⟩
   refine ⟨_, rfl, _, rfl, szb rfl, fun w1 hw1 => ?_⟩
   have s6 := q15 hw1 (.tup [V.int 0])
   have hw1' : upd H5 w1 (.tup [V.int 0]) w1 = some (.tup [V.int 0]) := q13
   generalize upd H5 w1 (.tup [V.int 0]) = H6 at *
   have s26 := s25.trans s6
   refine ⟨pa, w1, zs, e + 1, [0], gs', rfl, SqL.of (s26 _ _ hpa), hg'.same s26, hgd', by omega, SqT.of hw1', by simp, (fun x hx => by rw [List.mem_singleton.mp hx]; exact .inl rfl), fun H7 D7 z7 s7 hD7 hD7n hg7 => ?_⟩
   rw [el] at hg7
   have s27 := s26.trans s7
   have hwl7 := s27 _ _ hwl2
   have hD7w : D7 ≠ wl := fun z => by rw [z, s26 _ _ hwl2] at hD7n; cases hD7n
   refine ⟨_, rfl, .inl ⟨rfl, _, SqL.of hwl7⟩, _, rfl, wl, _, _, rfl, rfl, hwl7, by rw [List.length_map]; exact q129 (by omega), ?_⟩
   have tk : TKeep H7 (upd H7 wl (.lst (ws.map V.int ++ [V.int 0]))) := .set hwl7
   refine ⟨D7, z7, gs'.map (led1 e 0), k', ws ++ [0], some (V.int (0 + (i : Int))), some (V.int ((halfO e 0 (Wh gs')).length : Nat)), some (V.int 0), ?_, q307 (s2.trans s27) hwl _, by rw [q13, List.map_append]; rfl, by rw [List.length_append, hwsl]; rfl, by rw [q36 hD7w]; exact hD7, by rw [he2]; exact hg7.tk tk, by rw [he2]; exact good1 0, by rw [List.length_map]; exact hl', by rw [W_led hgd']; exact lenH 0, by rw [W_led hgd']; exact c', hD7w, ?_⟩
   ·have : (k' : Int) - 0 * ((halfO e 0 (Wh gs')).length : Nat) = (k' : Int) := by omega
    exact congrArg (fun q : Int => [some (V.int (L : Int)), some (V.ref ga), some (V.int (k : Int)), some (V.ref wl), some (V.ref D7), some (V.int q), some (V.int (0 + (i : Int))), some (V.int ((halfO e 0 (Wh gs')).length : Nat)), some (V.int 0)]) this
   ·rw [hway, he2, W_led hgd', List.append_assoc]; rfl
  ·have c' : ¬ k' < (halfO e 0 (Wh gs')).length := fun z => c (decide_eq_true (by omega))
   rw [wayW_hi c'] at hway
   refine ⟨_, rfl, _, rfl, _, rfl, _, _, rfl, rfl, .inl ⟨by decide, by decide⟩, _, _, rfl, rfl, ?_⟩
   refine ⟨_, rfl, _, rfl, szb rfl, fun w1 hw1 => ?_⟩
   have s6 := q15 hw1 (.tup [V.int 1])
   have hw1' : upd H5 w1 (.tup [V.int 1]) w1 = some (.tup [V.int 1]) := q13
   generalize upd H5 w1 (.tup [V.int 1]) = H6 at *
   have s26 := s25.trans s6
   refine ⟨pa, w1, zs, e + 1, [1], gs', rfl, SqL.of (s26 _ _ hpa), hg'.same s26, hgd', by omega, SqT.of hw1', by simp, (fun x hx => by rw [List.mem_singleton.mp hx]; exact .inr rfl), fun H7 D7 z7 s7 hD7 hD7n hg7 => ?_⟩
   rw [el] at hg7
   have s27 := s26.trans s7
   have hwl7 := s27 _ _ hwl2
   have hD7w : D7 ≠ wl := fun z => by rw [z, s26 _ _ hwl2] at hD7n; cases hD7n
   refine ⟨_, rfl, .inl ⟨rfl, _, SqL.of hwl7⟩, _, rfl, wl, _, _, rfl, rfl, hwl7, by rw [List.length_map]; exact q129 (by omega), ?_⟩
   have tk : TKeep H7 (upd H7 wl (.lst (ws.map V.int ++ [V.int 1]))) := .set hwl7
   refine ⟨D7, z7, gs'.map (led1 e 1), k' - (halfO e 0 (Wh gs')).length, ws ++ [1], some (V.int (0 + (i : Int))), some (V.int ((halfO e 0 (Wh gs')).length : Nat)), some (V.int 1), ?_, q307 (s2.trans s27) hwl _, by rw [q13, List.map_append]; rfl, by rw [List.length_append, hwsl]; rfl, by rw [q36 hD7w]; exact hD7, by rw [he2]; exact hg7.tk tk, by rw [he2]; exact good1 1, by rw [List.length_map]; exact hl', by rw [W_led hgd']; exact lenH 1, by rw [W_led hgd']; omega, hD7w, ?_⟩
   ·have : (k' : Int) - 1 * ((halfO e 0 (Wh gs')).length : Nat) = ((k' - (halfO e 0 (Wh gs')).length : Nat) : Int) := by omega
    exact congrArg (fun q : Int => [some (V.int (L : Int)), some (V.ref ga), some (V.int (k : Int)), some (V.ref wl), some (V.ref D7), some (V.int q), some (V.int (0 + (i : Int))), some (V.int ((halfO e 0 (Wh gs')).length : Nat)), some (V.int 1)]) this
   ·rw [hway, he2, W_led hgd', List.append_assoc]; rfl
 ·rintro σ H2 ⟨pa, zs, gs', k', ws, v6, v7, v8, rfl, s2, hwl2, hwsl, hpa, hg', hgd', hl', hw9', hk', hpw, hway⟩
  rw [Nat.sub_self] at hway
  have hw2 : wayW L (kth L (Wh gs) k) = ws := by rw [hway]; exact List.append_nil ws
  rw [hw2] at q
  exact ⟨_, rfl, wl, _, rfl, SqL.of hwl2, fun t H' s' ht => q t H' (s2.trans s') ht⟩
theorem q341 (d : Def K mg "counted_nth" q140 ["bounds", "gathering", "k"]) (z : Bz mg) (c_led : Cal P w K mg base k_led "led" ["gathering", "way"] (q218 K)) (c_many_in : Cal P w K mg base q39 "many_in" ["gathering"] (q38 K)) (c_span_of : Cal P w K mg base q221 "span_of" ["bounds", "way"] (q179 K)) (c_way_of_nth : Cal P w K mg base q114 "way_of_nth" ["levels", "gathering", "k"] (q96 K)) : Cal P w K mg base q97 "counted_nth" ["bounds", "gathering", "k"] (q85 K) := by
 have sc := q334
 refine d.cal fun f fd F => F.ok sc (fun vs H Q E h => ?_) (fun cdv A outer s H vs Q E hr h => ?_)
 ·obtain ⟨b, ga, xs, low, L, k, gs, rfl, _⟩ := h
  rfl
 obtain ⟨b, ga, xs, low, L, k, gs, rfl, hb, hL, hga, hg, hgd, hl, hw9, hk, q⟩ := h
 refine ⟨_, (q11 (q19 (i := 3) sc.nd rfl (Or.inl rfl) (pe_fn c_way_of_nth (hr.mono (by decide)) (by rfl) (q10 (pe_ix q22 (pv 0) q14 (fun _ _ => rfl)) (q10 (pv 1) (q10 (pv 2) q12)))))
 (q16 (q21 (q27 (q10 (pe_ix q22 (pe_fn c_span_of (hr.mono (by decide)) (by rfl) (q10 (pv 0) (q10 (pv 3) q12))) q14 (fun _ _ => rfl)) (q10 (pe_fn c_many_in (hr.mono (by decide)) (by rfl) (q10 (pe_fn c_led (hr.mono (by decide)) (by rfl) (q10 (pv 1) (q10 (pv 3) q12))) q12)) q12)))))), ?_⟩
 have r := q123 L (Wh gs) k
 refine ⟨_, rfl, b, _, _, _, rfl, rfl, hb, rfl, _, rfl, _, rfl, ga, xs, L, k, gs, rfl, hL, hga, hg, hgd, hl, hw9, hk, fun t H1 s1 ht => ?_⟩
 generalize kth L (Wh gs) k = o at *
 refine ⟨_, rfl, _, rfl, b, t, low, L, wayW L o, rfl, s1.seqT hb, hL, ht.sq, fun p hp => ?_⟩
 have hsp : spanS low L (wayW L o) = (low + o, 1) := q274 L low o r.1 r.2
 rw [hsp]
 have s2 := q15 hp (.tup [V.int (low + o), .int (low + o + 1 - 1)])
 have hp2 : upd H1 p (.tup [V.int (low + o), .int (low + o + 1 - 1)]) p = some (.tup [V.int (low + o), .int (low + o + 1 - 1)]) := q13
 dsimp only
 generalize upd H1 p (.tup [V.int (low + o), .int (low + o + 1 - 1)]) = H2 at *
 have s02 := s1.trans s2
 refine ⟨p, _, _, _, rfl, rfl, SqT.of hp2, rfl, ?_⟩
 refine ⟨_, rfl, _, rfl, ga, t, xs, L, wayW L o, gs, rfl, SqL.of (s02 _ _ hga), hg.same s02, hgd, by omega, (ht.same s2).sq, by rw [q113]; exact Nat.le_refl _, q199 L o, fun H3 D3 z3 s3 hD3 _ hg3 => ?_⟩
 refine ⟨D3, z3, _, _, rfl, SqL.of hD3, hg3, by rw [List.length_map]; omega, fun H4 s4 => ?_⟩
 rw [q224 L o gs r.1 r.2 hgd]
 exact ⟨szb rfl, fun v hv => q _ _ (((s02.trans s3).trans s4).trans (q15 hv _)) ⟨v, rfl, q13⟩⟩
theorem q569 (d : Def K mg "next_up" q297 ["bounds", "gathering", "number"]) (z : Bz mg) (c_below : Cal P w K mg base q248 "below" ["bounds", "gathering", "number"] (q180 K)) (c_counted_nth : Cal P w K mg base q97 "counted_nth" ["bounds", "gathering", "k"] (q85 K)) (c_many_in : Cal P w K mg base q39 "many_in" ["gathering"] (q38 K)) : Cal P w K mg base q312 "next_up" ["bounds", "gathering", "number"] (q182 K) := by
 have sc := q556
 refine d.cal fun f fd F => F.ok sc (fun vs H Q E h => ?_) (fun cdv A outer s H vs Q E hr h => ?_)
 ·obtain ⟨b, ga, xs, low, num, L, gs, rfl, _⟩ := h
  rfl
 obtain ⟨b, ga, xs, low, num, L, gs, rfl, hb, hL, hga, hg, hgd, hl, hw9, q⟩ := h
 refine ⟨_, (q11 (q19 (i := 3) sc.nd rfl (Or.inl rfl) (pe_fn c_below (hr.mono (by decide)) (by rfl) (q10 (pv 0) (q10 (pv 1) (q10 (pe_op q29 (pv 2) q14) q12)))))
 (q11 (ps_if (q17 op_eq (pv 3) (pe_fn c_many_in (hr.mono (by decide)) (by rfl) (q10 (pv 1) q12)) (q20 _))
 (q16 (q21 q63))
 q23)
 (q16 (q21 (pe_fn c_counted_nth (hr.mono (by decide)) (by rfl) (q10 (pv 0) (q10 (pv 1) (q10 (pv 3) q12)))))))), ?_⟩
 obtain ⟨u1, u2⟩ := up_find (L := L) (low := low) (num := num) (W_in hgd)
 have hle := q521 (Wh gs) (num + 1 - low)
 refine ⟨_, rfl, _, rfl, _, rfl, _, _, rfl, rfl, b, ga, xs, low, num + 1, L, gs, rfl, hb, hL, SqL.of hga, hg, hgd, hl, fun H1 s1 => ?_⟩
 change ∀ v H', Same H H' -> NxV H' v _ -> Q v H' at q
 refine ⟨_, rfl, _, rfl, ga, xs, L, gs, rfl, SqL.of (s1 _ _ hga), hg.same s1, by omega, fun H2 s2 => ?_⟩
 rw [q107 hgd]
 refine ⟨rfl, _, rfl, ?_⟩
 by_cases c : ltC (Wh gs) (num + 1 - low) = (Wh gs).length
 ·rw [u1 c] at q
  refine ite2 (fun _ => q .non H2 (s1.trans s2) rfl) (fun c2 => absurd (decide_eq_true (by show V.int ((ltC (Wh gs) (num + 1 - low) : Nat) : Int) = _; rw [c])) c2)
 ·rw [u2 c] at q
  refine ite2 (fun c2 => absurd (by have := V.int.inj (of_decide_eq_true c2); unfold ltC; omega) c) (fun _ => ?_)
  have s02 := s1.trans s2
  exact ⟨_, rfl, _, rfl, _, rfl, b, ga, xs, low, L, ltC (Wh gs) (num + 1 - low), gs, rfl, s02.seqT hb, hL, s02 _ _ hga, hg.same s02, hgd, hl, hw9, by omega, fun v H3 s3 hv => q v H3 (s02.trans s3) hv⟩
theorem q446 (d : Def K mg "next_down" q189 ["bounds", "gathering", "number"]) (z : Bz mg) (c_below : Cal P w K mg base q248 "below" ["bounds", "gathering", "number"] (q180 K)) (c_counted_nth : Cal P w K mg base q97 "counted_nth" ["bounds", "gathering", "k"] (q85 K)) : Cal P w K mg base q200 "next_down" ["bounds", "gathering", "number"] (q169 K) := by
 have sc := q425
 refine d.cal fun f fd F => F.ok sc (fun vs H Q E h => ?_) (fun cdv A outer s H vs Q E hr h => ?_)
 ·obtain ⟨b, ga, xs, low, num, L, gs, rfl, _⟩ := h
  rfl
 obtain ⟨b, ga, xs, low, num, L, gs, rfl, hb, hL, hga, hg, hgd, hl, hw9, q⟩ := h
 refine ⟨_, (q11 (q19 (i := 3) sc.nd rfl (Or.inl rfl) (pe_op q54 (pe_fn c_below (hr.mono (by decide)) (by rfl) (q10 (pv 0) (q10 (pv 1) (q10 (pv 2) q12)))) q14))
 (q11 (ps_if (q17 op_lt (pv 3) q14 (q20 _))
 (q16 (q21 q63))
 q23)
 (q16 (q21 (pe_fn c_counted_nth (hr.mono (by decide)) (by rfl) (q10 (pv 0) (q10 (pv 1) (q10 (pv 3) q12)))))))), ?_⟩
 obtain ⟨u1, u2⟩ := q652 (L := L) (low := low) (num := num) (W_in hgd)
 have hle := q521 (Wh gs) (num - low)
 refine ⟨_, rfl, _, rfl, _, rfl, b, ga, xs, low, num, L, gs, rfl, hb, hL, SqL.of hga, hg, hgd, hl, fun H1 s1 => ⟨_, _, rfl, rfl, ?_⟩⟩
 change ∀ v H', Same H H' -> NxV H' v _ -> Q v H' at q
 refine ⟨_, rfl, _, _, rfl, rfl, _, rfl, ?_⟩
 by_cases c : ltC (Wh gs) (num - low) = 0
 ·rw [u1 c] at q
  exact ite2 (fun _ => q .non H1 s1 rfl) (fun c2 => absurd (decide_eq_true (by show ((ltC (Wh gs) (num - low) : Nat) : Int) - 1 < 0; omega)) c2)
 ·rw [u2 c] at q
  refine ite2 (fun c2 => absurd (show ((ltC (Wh gs) (num - low) : Nat) : Int) - 1 < 0 from of_decide_eq_true c2) (by omega)) (fun _ => ?_)
  refine ⟨_, rfl, _, rfl, _, rfl, b, ga, xs, low, L, ltC (Wh gs) (num - low) - 1, gs, ?_, s1.seqT hb, hL, s1 _ _ hga, hg.same s1, hgd, hl, hw9, by omega, fun v H3 s3 hv => q v H3 (s1.trans s3) hv⟩
  exact congrArg (fun q : Int => [V.ref b, V.ref ga, V.int q]) (show ((ltC (Wh gs) (num - low) : Nat) : Int) - 1 = ((ltC (Wh gs) (num - low) - 1 : Nat) : Int) by omega)
end
theorem q481 : ∀ (L : Nat) (o x : Int), 0 <= o -> o < 2 ^ L -> 0 <= x -> x < 2 ^ L -> inW L x (wayW L o) = decide (x = o)
 | 0, o, x, h0, h1, h2, h3 => by
  have : (2 : Int) ^ 0 = 1 := rfl
  rw [decide_eq_true (by omega)]
  rfl
 | e + 1, o, x, h0, h1, h2, h3 => by
  have p := pow2 e
  have hp := p2pos e
  by_cases c : o < 2 ^ e
  ·rw [q144 c, q272 ⟨h2, h3⟩]
   rcases mk0b e x with m | m
   ·have mm := q154 h2 h3 m
    have r0 := Int.emod_nonneg x (show (2 : Int) ^ e ≠ 0 by omega)
    have r1 := Int.emod_lt_of_pos x hp
    rw [m, q481 e o (x % 2 ^ e) h0 c r0 r1]
    have : x % 2 ^ e = x := by omega
    rw [this]
    rfl
   ·have mm := q154 h2 h3 m
    have r0 := Int.emod_nonneg x (show (2 : Int) ^ e ≠ 0 by omega)
    rw [m, decide_eq_false (by omega)]
    rfl
  ·rw [q145 c, q272 ⟨h2, h3⟩]
   have r0 := Int.emod_nonneg x (show (2 : Int) ^ e ≠ 0 by omega)
   have r1 := Int.emod_lt_of_pos x hp
   rcases mk0b e x with m | m
   ·have mm := q154 h2 h3 m
    rw [m, decide_eq_false (by omega)]
    rfl
   ·have mm := q154 h2 h3 m
    rw [m, q481 e (o - 2 ^ e) (x % 2 ^ e) (by omega) (by omega) r0 r1]
    by_cases z : x = o
    ·rw [decide_eq_true z, decide_eq_true (by omega)]
     rfl
    ·rw [decide_eq_false z, decide_eq_false (by omega)]
     rfl
theorem C_sel2 {q : Int -> Bool} {os : List Int} {s t : Nat} (h : s <= t) : (os.take s).countP q + (sel (os, s, t)).countP q = (os.take t).countP q := by
 have e : os.take t = os.take s ++ sel (os, s, t) := by
  unfold sel
  have := (List.take_append_drop s (os.take t)).symm
  rw [List.take_take, Nat.min_eq_left h] at this
  exact this
 rw [e, List.countP_append]
theorem q522 (g : G3) : Wh [g] = sel g := by unfold Wh; rw [List.flatMap_cons, List.flatMap_nil, List.append_nil]
theorem cnt_q (us : List Int) (o : Int) : us.count o = us.countP fun x => decide (x = o) := by
 rw [List.count_eq_countP]
 refine List.countP_congr fun x _ => ?_
 rw [beq_iff_eq, decide_eq_true_eq]
theorem lift_at {L : Nat} {g : G3} {o : Int} {left : Nat} (hg : GoodS L g) (h0 : 0 <= o) (h1 : o < 2 ^ L) (hl : left < (sel g).count o) :
  ∃ i, (spots L g.1 (wayW L o))[(ledS L (wayW L o) g).2.1 + left]? = some i /\ g.2.1 <= i /\ i < g.2.2 /\ g.1[i]? = some o /\ (sel (g.1, g.2.1, i)).count o = left := by
 obtain ⟨os, s, t⟩ := g
 obtain ⟨hin, hst, htl, _⟩ := hg
 change s <= t at hst
 change t <= os.length at htl
 have hq : ∀ x ∈ os, inW L x (wayW L o) = decide (x = o) := fun x hx => q481 L o x h0 h1 (hin x hx).1 (hin x hx).2
 have hs : spots L os (wayW L o) = idxs (fun x => decide (x = o)) os := q350 hq
 have hcc : ∀ k, (os.take k).countP (fun x => inW L x (wayW L o)) = (os.take k).countP fun x => decide (x = o) := fun k => List.countP_congr fun x hx => by rw [hq x (List.mem_of_mem_take hx)]
 have hled : (ledS L (wayW L o) (os, s, t)).2.1 = (os.take s).countP fun x => decide (x = o) := by
  rcases q518 L (wayW L o) os s t (by rw [q113]; exact Nat.le_refl _) hin with e | e | e
  ·rw [e]; exact hcc s
  ·omega
  ·omega
 rw [cnt_q] at hl
 have c1 := C_sel2 (q := fun x => decide (x = o)) (os := os) hst
 have c2 := q219 (q := fun x => decide (x = o)) os htl
 rw [List.take_of_length_le (Nat.le_refl os.length)] at c2
 have hlen : (idxs (fun x => decide (x = o)) os).length = os.countP fun x => decide (x = o) := by
  have := congrArg List.length (q439 (p := fun x => decide (x = o)) os)
  rw [List.length_map] at this
  rw [this, List.countP_eq_length_filter]
 have hk : (os.take s).countP (fun x => decide (x = o)) + left < (idxs (fun x => decide (x = o)) os).length := by omega
 obtain ⟨i, hi⟩ : ∃ i, (idxs (fun x => decide (x = o)) os)[(os.take s).countP (fun x => decide (x = o)) + left]? = some i := ⟨_, List.getElem?_eq_getElem hk⟩
 obtain ⟨o', k1, k2, k3⟩ := q387 os _ i hi
 have eo : o' = o := of_decide_eq_true k2
 subst eo
 have hsi : s <= i := by
  apply Classical.byContradiction
  intro c
  have m := q219 (q := fun x => decide (x = o')) os (show i + 1 <= s by omega)
  rw [cnt_step k1 k2] at m
  omega
 have hit : i < t := by
  apply Classical.byContradiction
  intro c
  have m := q219 (q := fun x => decide (x = o')) os (show t <= i by omega)
  omega
 refine ⟨i, ?_, hsi, hit, k1, ?_⟩
 ·show (spots L os (wayW L o'))[(ledS L (wayW L o') (os, s, t)).2.1 + left]? = some i
  rw [hs, hled]
  exact hi
 ·show (sel (os, s, i)).count o' = left
  rw [cnt_q]
  have c3 := C_sel2 (q := fun x => decide (x = o')) (os := os) hsi
  omega
def Thing (gs : List G3) (o : Int) (num j pl : Nat) : Prop := ∃ g, gs[j]? = some g /\ g.2.1 <= pl /\ pl < g.2.2 /\ g.1[pl]? = some o /\ num = (Wh (gs.take j ++ [(g.1, g.2.1, pl)])).count o
theorem Wh_take {gs : List G3} {j : Nat} {g : G3} (h : gs[j]? = some g) : Wh (gs.take (j + 1)) = Wh (gs.take j) ++ sel g := by
 rw [List.take_add_one, h]
 show Wh (gs.take j ++ [g]) = _
 rw [W_app, q522]
theorem cutTake {xs : List V} {j : Nat} : cutV xs none (some (j : Int)) = xs.take j := by
 unfold cutV
 rw [HT.q685, HT.q684, List.drop_zero, Nat.sub_zero]
 by_cases h : j <= xs.length
 ·rw [Nat.min_eq_left h]
 ·rw [Nat.min_eq_right (by omega), List.take_length, List.take_of_length_le (by omega)]
theorem gat_app {H : Hp} {L : Nat} {xs ys : List V} {gs hs : List G3} (h : GatAt H L xs gs) (k : GatAt H L ys hs) : GatAt H L (xs ++ ys) (gs ++ hs) := by
 have h' : AllAt (fun H v g => StrAt H L v g) H xs gs := h
 have k' : AllAt (fun H v g => StrAt H L v g) H ys hs := k
 exact h'.app k'
theorem gat_take {H : Hp} {L : Nat} {xs : List V} {gs : List G3} (h : GatAt H L xs gs) (j : Nat) : GatAt H L (xs.take j) (gs.take j) := by
 refine ⟨by rw [List.length_take, List.length_take, h.1], fun i x g h1 h2 => ?_⟩
 have hi : i < j := by
  have := (List.getElem?_eq_some_iff.mp h1).1
  rw [List.length_take] at this
  omega
 rw [List.getElem?_take_of_lt hi] at h1 h2
 exact h.2 i x g h1 h2
theorem q251 {H : Hp} {L : Nat} {v : V} {g : G3} (h : StrAt H L v g) : GatAt H L [v] [g] := (GatAt.nil H L).snoc h
abbrev q202 : Nat := 43
inductive isp_nth_alike (u0 : PySem.W.Frag) (vs : List V) (H : Hp) (Q : VK) (E : XK) : Prop
 | mk (ga wy : Addr) (xs : List V) (L num : Nat) (o : Int) (gs : List G3) (hz0 : vs = [.ref ga, .ref wy, .int (num : Int)]) (hz1 : L <= 40) (hz2 : H ga = some (.lst xs)) (hz3 : GatAt H L xs gs) (hz4 : (∀ g ∈ gs, GoodS L g)) (hz5 : gs.length <= 100) (hz6 : TupF H wy ((wayW L o).map V.int)) (hz7 : 0 <= o) (hz8 : o < 2 ^ L) (hz9 : num < (Wh gs).count o) (hz10 : ∀ (p : Addr) (j pl : Nat) (H' : Hp), Same H H' -> H' p = some (.tup [.int (j : Int), .int (pl : Int)]) -> Thing gs o num j pl -> Q (.ref p) H') : isp_nth_alike u0 vs H Q E
def q170 (u0 : PySem.W.Frag) : Sp := isp_nth_alike u0
abbrev q203 : Nat := 44
inductive isp_nth_least (K : PySem.W.Frag) (vs : List V) (H : Hp) (Q : VK) (E : XK) : Prop
 | mk (b ga : Addr) (xs : List V) (low : Int) (L k : Nat) (gs : List G3) (hz0 : vs = [.ref b, .ref ga, .int (k : Int)]) (hz1 : SqT K H b [.int low, .int (L : Int)]) (hz2 : L <= 40) (hz3 : H ga = some (.lst xs)) (hz4 : GatAt H L xs gs) (hz5 : (∀ g ∈ gs, GoodS L g)) (hz6 : gs.length <= 100) (hz7 : (Wh gs).length <= 900) (hz8 : k < (Wh gs).length) (hz9 : ∀ (p : Addr) (j pl : Nat) (H' : Hp), Same H H' -> SqT K H' p [.int (low + kth L (Wh gs) k), .int (j : Int), .int (pl : Int)] -> Thing gs (kth L (Wh gs) k) (k - ltC (Wh gs) (kth L (Wh gs) k)) j pl -> Q (.ref p) H') : isp_nth_least K vs H Q E
def q171 (K : PySem.W.Frag) : Sp := isp_nth_least K
abbrev q314 : Nat := 5
inductive isp_rank_of (K : PySem.W.Frag) (vs : List V) (H : Hp) (Q : VK) (E : XK) : Prop
 | mk (b ga : Addr) (xs : List V) (low o : Int) (L j pl : Nat) (gs : List G3) (g : G3) (hz0 : vs = [.ref b, .ref ga, .int (j : Int), .int (pl : Int)]) (hz1 : SqT K H b [.int low, .int (L : Int)]) (hz2 : L <= 40) (hz3 : H ga = some (.lst xs)) (hz4 : GatAt H L xs gs) (hz5 : (∀ g ∈ gs, GoodS L g)) (hz6 : gs.length <= 90) (hz7 : gs[j]? = some g) (hz8 : g.2.1 <= pl) (hz9 : pl < g.2.2) (hz10 : g.1[pl]? = some o) (hz11 : ∀ H', Same H H' -> Q (.int (((ltC (Wh gs) o : Nat) : Int) + (((Wh (gs.take j ++ [(g.1, g.2.1, pl)])).count o : Nat) : Int))) H') : isp_rank_of K vs H Q E
def q252 (K : PySem.W.Frag) : Sp := isp_rank_of K
def muJ (n : Nat) : St -> Nat := fun σ => match σ[5]? with
 | some (some (V.int m)) => n - m.toNat
 | _ => 0
section
variable {P : Program} {w : World} {K : PySem.W.Frag} {mg : Str -> Option Value} {base : Heap}
theorem q482 (d : Def K mg "sum_from" q240 ["least", "many", "parts", "k"]) (z : Bz mg) (c_filled : Cal P w K mg base q74 "filled" ["gathering"] (q108 K)) (c_led : Cal P w K mg base k_led "led" ["gathering", "way"] (q218 K)) (c_many_in : Cal P w K mg base q39 "many_in" ["gathering"] (q38 K)) : Cal P w K mg base q250 "sum_from" ["least", "many", "parts", "k"] (q201 K) := by
 have sc := q473
 refine d.recur (k := q82) (sp := q262 K) q313 fun e hen c_sum_from f fd F => F.ok sc (fun vs H Q E h => ?_) (fun cdv A outer s H vs Q E hr h => ?_)
 ·obtain ⟨least, pa, xs, k, gs, rfl, _⟩ := h
  rfl
 obtain ⟨least, pa, xs, k, gs, rfl, hpa, hg, hgd, hl, hk, q⟩ := h
 refine ⟨_, (q11 (ps_if (q17 op_eq (pv 3) q14 (q20 _))
 (q16 (q21 q14))
 q23)
 (q11 (ps_if (q17 op_eq (pv 1) q14 (q20 _))
 (q16 (q21 (pe_op q101 (pv 0) (pv 3))))
 q23)
 (q11 (q19 (i := 4) sc.nd rfl (Or.inl rfl) (pe_op q112 (pv 1) q14))
 (q11 (q19 (i := 5) sc.nd rfl (Or.inl rfl) (pe_fn c_filled (hr.mono (Nat.le_trans (by decide : q74 <= q82) (Nat.le_add_left _ _))) (by rfl) (q10 (pe_fn c_led (hr.mono (Nat.le_trans (by decide : k_led <= q82) (Nat.le_add_left _ _))) (by rfl) (q10 (pv 2) (q10 (q27 (q10 q14 q12)) q12))) q12)))
 (q11 (q19 (i := 6) sc.nd rfl (Or.inl rfl) (pe_fn c_filled (hr.mono (Nat.le_trans (by decide : q74 <= q82) (Nat.le_add_left _ _))) (by rfl) (q10 (pe_fn c_led (hr.mono (Nat.le_trans (by decide : k_led <= q82) (Nat.le_add_left _ _))) (by rfl) (q10 (pv 2) (q10 (q27 (q10 q14 q12)) q12))) q12)))
 (q11 (q19 (i := 7) sc.nd rfl (Or.inl rfl) (q26 (q587 rfl) (by rfl) z.min_ bt_min (q10 (pv 3) (q10 (pe_fn c_many_in (hr.mono (Nat.le_trans (by decide : q39 <= q82) (Nat.le_add_left _ _))) (by rfl) (q10 (pv 5) q12)) q12))))
 (q16 (q21 (pe_op q29 (pe_fn c_sum_from (hr.mono (Nat.le_refl _)) (by rfl) (q10 (pv 0) (q10 (pv 4) (q10 (pv 5) (q10 (pv 7) q12))))) (pe_fn c_sum_from (hr.mono (Nat.le_refl _)) (by rfl) (q10 (pe_op q29 (pv 0) (pv 4)) (q10 (pv 4) (q10 (pv 6) (q10 (pe_op q54 (pv 3) (pv 7)) q12)))))))))))))), ?_⟩
 refine ⟨_, rfl, rfl, _, rfl, ?_⟩
 refine ite2 (fun c => ?_) (fun c => ?_)
 ·have k0 : k = 0 := by have := V.int.inj (of_decide_eq_true c); omega
  subst k0
  rw [q223] at q
  exact q H (Same.refl H)
 refine ⟨_, rfl, rfl, _, rfl, ?_⟩
 cases e with
 | zero =>
  refine ite2 (fun _ => ?_) (fun c => absurd (decide_eq_true rfl) c)
  exact ⟨_, rfl, _, rfl, _, _, rfl, rfl, .inr ⟨by omega, by omega⟩, q H (Same.refl H)⟩
 | succ e =>
  have hp2 := p2pos e
  have e2 := pow2 e
  refine ite2 (fun c => absurd (V.int.inj (of_decide_eq_true c)) (by omega)) (fun _ => ?_)
  refine ⟨_, rfl, _, _, rfl, rfl, ⟨by decide, by decide⟩, ?_⟩
  dsimp only
  rw [q273]
  have good1 : ∀ w, ∀ g ∈ gs.map (led1 e w), GoodS e g := fun w g hg => by
   obtain ⟨g', hg', rfl⟩ := List.mem_map.mp hg
   exact q131 (hgd g' hg')
  have el : ∀ w : Int, gs.map (ledS (e + 1) [w]) = gs.map (led1 e w) := fun w => List.map_congr_left fun g _ => by rw [q73, q60]
  have lf : ∀ w, (fillG (gs.map (led1 e w))).length <= 100 := fun w => Nat.le_trans (List.length_filter_le _ _) (by rw [List.length_map]; exact hl)
  refine ⟨_, rfl, szb rfl, fun w0 hw0 => ?_⟩
  have s2 := q15 hw0 (.tup [V.int 0])
  have hw0' : upd H w0 (.tup [V.int 0]) w0 = some (.tup [V.int 0]) := q13
  generalize upd H w0 (.tup [V.int 0]) = H2 at *
  refine ⟨pa, w0, xs, e + 1, [0], gs, rfl, s2.seq hpa, hg.same s2, hgd, by omega, SqT.of hw0', by simp, (fun x hx => by rw [List.mem_singleton.mp hx]; exact .inl rfl), fun H3 D3 z3 s3 hD3 hD3n hg3 => ?_⟩
  rw [el] at hg3
  refine ⟨D3, z3, e, _, rfl, SqL.of hD3, hg3, by rw [List.length_map]; omega, fun H4 D4 z4 s4 hD4 hD4n hg4 => ?_⟩
  have s04 := (s2.trans s3).trans s4
  refine ⟨_, rfl, szb rfl, fun w1 hw1 => ?_⟩
  have s5 := q15 hw1 (.tup [V.int 1])
  have hw1' : upd H4 w1 (.tup [V.int 1]) w1 = some (.tup [V.int 1]) := q13
  generalize upd H4 w1 (.tup [V.int 1]) = H5 at *
  have s05 := s04.trans s5
  refine ⟨pa, w1, xs, e + 1, [1], gs, rfl, s05.seq hpa, hg.same s05, hgd, by omega, SqT.of hw1', by simp, (fun x hx => by rw [List.mem_singleton.mp hx]; exact .inr rfl), fun H6 D6 z6 s6 hD6 hD6n hg6 => ?_⟩
  rw [el] at hg6
  refine ⟨D6, z6, e, _, rfl, SqL.of hD6, hg6, by rw [List.length_map]; omega, fun H7 D7 z7 s7 hD7 hD7n hg7 => ?_⟩
  have s47 := (s5.trans s6).trans s7
  have hD47 := s47 _ _ hD4
  have hg47 := hg4.same s47
  refine ⟨_, rfl, _, rfl, D4, z4, e, _, rfl, SqL.of hD47, hg47, Nat.le_trans (lf 0) (by decide), fun H8 s8 => ?_⟩
  rw [q107 (q89 (good1 0)), q132, W_led hgd]
  have em : (if (((halfO e 0 (Wh gs)).length : Nat) : Int) < (k : Int) then (((halfO e 0 (Wh gs)).length : Nat) : Int) else (k : Int)) = ((min k (halfO e 0 (Wh gs)).length : Nat) : Int) := by
   by_cases c : (((halfO e 0 (Wh gs)).length : Nat) : Int) < (k : Int)
   ·rw [if_pos c, Nat.min_eq_right (by omega)]
   ·rw [if_neg c, Nat.min_eq_left (by omega)]
  refine ⟨_, _, rfl, ?_⟩
  rw [em]
  have hmk : min k (halfO e 0 (Wh gs)).length <= k := Nat.min_le_left _ _
  generalize hmm : min k (halfO e 0 (Wh gs)).length = m at *
  refine ⟨_, rfl, _, rfl, _, rfl, _, rfl, least, D4, z4, m, fillG (gs.map (led1 e 0)), rfl, SqL.of (s8 _ _ hD47), hg47.same s8, q89 (good1 0), lf 0, by omega, fun H9 s9 => ?_⟩
  rw [q132, W_led hgd]
  have s89 := s8.trans s9
  refine ⟨_, rfl, _, rfl, _, _, rfl, rfl, _, rfl, _, rfl, _, rfl, _, rfl, _, _, rfl, rfl, ?_⟩
  refine ⟨least + 2 ^ e, D7, z7, k - m, fillG (gs.map (led1 e 1)), ?_, SqL.of (s89 _ _ hD7), hg7.same s89, q89 (good1 1), lf 1, by omega, fun H10 s10 => ⟨_, _, rfl, rfl, ?_⟩⟩
  ·exact congrArg (fun q : Int => [V.int (least + 2 ^ e), V.int (2 ^ e), V.ref D7, V.int q]) (show (k : Int) - (m : Int) = ((k - m : Nat) : Int) by omega)
  rw [q132, W_led hgd]
  have q' := q H10 (((s04.trans s47).trans s89).trans s10)
  have ef : sumF (e + 1) least (Wh gs) k = sumF e least (halfO e 0 (Wh gs)) m + sumF e (least + 2 ^ e) (halfO e 1 (Wh gs)) (k - m) := by
   show sumF e least (halfO e 0 (Wh gs)) (min k _) + sumF e (least + 2 ^ e) (halfO e 1 (Wh gs)) (k - min k _) = _
   rw [hmm]
  rw [ef] at q'
  exact q'
theorem q315 (d : Def K mg "sum_of_least" q118 ["bounds", "gathering", "k"]) (z : Bz mg) (c_filled : Cal P w K mg base q74 "filled" ["gathering"] (q108 K)) (c_many_in : Cal P w K mg base q39 "many_in" ["gathering"] (q38 K)) (c_many_worths : Cal P w K mg base q34 "many_worths" ["levels"] (q30 K)) (c_sum_from : Cal P w K mg base q250 "sum_from" ["least", "many", "parts", "k"] (q201 K)) : Cal P w K mg base q124 "sum_of_least" ["bounds", "gathering", "k"] (q110 K) := by
 have sc := q300
 refine d.cal fun f fd F => F.ok sc (fun vs H Q E h => ?_) (fun cdv A outer s H vs Q E hr h => ?_)
 ·obtain ⟨b, ga, xs, low, L, k, gs, rfl, _⟩ := h
  rfl
 obtain ⟨b, ga, xs, low, L, k, gs, rfl, hb, hL, hga, hg, hgd, hl, hw9, hk, q⟩ := h
 refine ⟨_, (q11 (ps_if (PW.pt (pw_or (q17 op_lt (pv 2) q14 (q20 _)) (q92 (q17 op_gt (pv 2) (pe_fn c_many_in (hr.mono (by decide)) (by rfl) (q10 (pv 1) q12)) (q20 _)))))
 (q16 q84)
 q23)
 (q16 (q21 (pe_fn c_sum_from (hr.mono (by decide)) (by rfl) (q10 (pe_ix q22 (pv 0) q14 (fun _ _ => rfl)) (q10 (pe_fn c_many_worths (hr.mono (by decide)) (by rfl) (q10 (pe_ix q22 (pv 0) q14 (fun _ _ => rfl)) q12)) (q10 (pe_fn c_filled (hr.mono (by decide)) (by rfl) (q10 (pv 1) q12)) (q10 (pv 2) q12)))))))), ?_⟩
 refine ⟨_, rfl, _, _, rfl, rfl, _, rfl, ?_⟩
 refine ite2 (fun c => absurd (of_decide_eq_true c) (by omega)) (fun _ => ?_)
 refine ⟨_, rfl, _, rfl, ga, xs, L, gs, rfl, hga, hg, by omega, fun H1 s1 => ?_⟩
 rw [q107 hgd]
 refine ⟨_, _, rfl, rfl, _, rfl, ?_⟩
 refine ite2 (fun c => absurd (of_decide_eq_true c) (by omega)) (fun _ => ?_)
 refine ⟨_, rfl, b, _, _, _, rfl, rfl, s1.seqT hb, rfl, _, rfl, b, _, _, _, rfl, rfl, s1.seqT hb, rfl, L, rfl, hL, _, rfl, ga, xs, L, gs, rfl, s1.seq hga, hg.same s1, by omega, fun H2 D2 z2 s2 hD2 _ hg2 => ?_⟩
 refine ⟨_, rfl, L, hL, low, D2, z2, k, fillG gs, rfl, SqL.of hD2, hg2, q89 hgd, Nat.le_trans (List.length_filter_le _ _) hl, by omega, fun H3 s3 => ?_⟩
 rw [q132]
 exact q H3 ((s1.trans s2).trans s3)
end
section
variable {P : Program} {w : World} {K : PySem.W.Frag} {mg : Str -> Option Value} {base : Heap}
theorem q447 (d : Def K mg "nth_alike" q188 ["gathering", "way", "number"]) (z : Bz mg) (c_led : Cal P w K mg base k_led "led" ["gathering", "way"] (q218 K)) (c_lifted : Cal P w K mg base q389 "lifted" ["tree", "way", "place"] (q311 K)) (c_many_in : Cal P w K mg base q39 "many_in" ["gathering"] (q38 K)) : Cal P w K mg base q202 "nth_alike" ["gathering", "way", "number"] (q170 K) := by
 have sc := q424
 refine d.cal fun f fd F => F.ok sc (fun vs H Q E h => ?_) (fun cdv A outer s H vs Q E hr h => ?_)
 ·obtain ⟨ga, wy, xs, L, num, o, gs, rfl, _⟩ := h
  rfl
 obtain ⟨ga, wy, xs, L, num, o, gs, rfl, hL, hga, hg, hgd, hl, hwy, h0, h1, hnum, q⟩ := h
 refine ⟨_, (q11 (q19 (i := 3) sc.nd rfl (Or.inl rfl) (pe_fn c_led (hr.mono (by decide)) (by rfl) (q10 (pv 0) (q10 (pv 1) q12))))
 (q11 (q19 (i := 4) sc.nd rfl (Or.inl rfl) (pv 2))
 (q11 (q19 (i := 5) sc.nd rfl (Or.inl rfl) q14)
 (q11 (q360 PassesOwn.never (q17 op_ge (pv 4) (pe_fn c_many_in (hr.mono (by decide)) (by rfl) (q10 (q55 (q10 (pe_ix q35 (pv 3) (pv 5) (fun _ _ => rfl)) q12)) q12)) (q20 _))
 (q11 (q19 (i := 4) sc.nd rfl (Or.inl rfl) (pe_op q54 (pv 4) (pe_fn c_many_in (hr.mono (by decide)) (by rfl) (q10 (q55 (q10 (pe_ix q35 (pv 3) (pv 5) (fun _ _ => rfl)) q12)) q12))))
 (q16 (q19 (i := 5) sc.nd rfl (Or.inl rfl) (pe_op q29 (pv 5) q14)))))
 (q16 (q21 (q27 (q10 (pv 5) (q10 (pe_fn c_lifted (hr.mono (by decide)) (by rfl) (q10 (pe_ix q22 (pe_ix q35 (pv 0) (pv 5) (fun _ _ => rfl)) q14 (fun _ _ => rfl)) (q10 (pv 1) (q10 (pe_op q29 (pe_ix q22 (pe_ix q35 (pv 3) (pv 5) (fun _ _ => rfl)) q14 (fun _ _ => rfl)) (pv 4)) q12)))) q12))))))))), ?_⟩
 have hwl := q113 L o
 refine ⟨_, rfl, _, rfl, ga, wy, xs, L, wayW L o, gs, rfl, SqL.of hga, hg, hgd, by omega, hwy.sq, by omega, q199 L o, fun H1 D zs s1 hD _ hg1 => ?_⟩
 rw [hwl, Nat.sub_self] at hg1
 have one : ∀ g ∈ gs, manyG [ledS L (wayW L o) g] = ((sel g).count o : Nat) := fun g hgm => by
  have := q224 L o [g] h0 h1 (fun x hx => by rw [List.mem_singleton.mp hx]; exact hgd g hgm)
  rw [q522] at this
  exact this
 have hjlt : ∀ (j left : Nat), left + (Wh (gs.take j)).count o = num -> j < gs.length := fun j left e => by
  apply Classical.byContradiction
  intro c
  rw [List.take_of_length_le (by omega)] at e
  omega
 refine ⟨_, rfl, ?_⟩
 have at1 : ∀ j : Nat, j < gs.length -> ∃ g z t t' u u', gs[j]? = some g /\ zs[j]? = some z /\ z = V.ref t' /\ H1 t' = some (.tup [u', .int ((ledS L (wayW L o) g).2.1 : Int), .int ((ledS L (wayW L o) g).2.2 : Int)]) /\ StrAt H1 0 z (ledS L (wayW L o) g) /\ xs[j]? = some (V.ref t) /\ H t = some (.tup [u, .int (g.2.1 : Int), .int (g.2.2 : Int)]) /\ q25 H u (growO L g.1) := by
  intro j hj
  have gj : gs[j]? = some gs[j] := List.getElem?_eq_getElem hj
  have hjz : j < zs.length := by rw [hg1.1, List.length_map]; exact hj
  have hjx : j < xs.length := by rw [hg.1]; exact hj
  have gz := List.getElem?_eq_getElem hjz
  have gx := List.getElem?_eq_getElem hjx
  have hstr := hg1.2 j _ _ gz (by rw [List.getElem?_map, gj]; rfl)
  obtain ⟨t', u', e1, e2, e3⟩ := id hstr
  obtain ⟨t, u, f1, f2, f3⟩ := hg.2 j _ _ gx gj
  rw [f1] at gx
  exact ⟨_, _, t, t', u, u', gj, gz, e1, e2, hstr, gx, f2, f3⟩
 refine q361 (fun σ H2 => ∃ (left j : Nat), σ = [some (.ref ga), some (.ref wy), some (.int (num : Int)), some (.ref D), some (.int (left : Int)), some (.int (j : Int))] /\ Same H1 H2 /\ left + (Wh (gs.take j)).count o = num) (fun σ _ => muJ gs.length σ)
  ⟨num, 0, rfl, Same.refl _, rfl⟩ ?_ ?_
 ·rintro σ H2 ⟨left, j, rfl, s2, hinv⟩
  have hj := hjlt j left hinv
  obtain ⟨g, z, t, t', u, u', gj, gz, e1, e2, hstr, gx, f2, f3⟩ := at1 j hj
  have hgm := List.mem_of_getElem? gj
  have hwt := Wh_take gj
  refine ⟨_, rfl, _, rfl, _, rfl, D, _, _, _, rfl, rfl, SqL.of (s2 _ _ hD), q69 gz, szb rfl, fun l1 hl1 => ?_⟩
  have s3 := q15 hl1 (.lst [z])
  have hl1' : upd H2 l1 (.lst [z]) l1 = some (.lst [z]) := q13
  generalize upd H2 l1 (.lst [z]) = H3 at *
  have s13 := s2.trans s3
  refine ⟨l1, [z], 0, [ledS L (wayW L o) g], rfl, SqL.of hl1', q251 (hstr.tk (.same s13)), by simp, fun H4 s4 => ?_⟩
  rw [one g hgm]
  refine ⟨_, _, rfl, rfl, _, rfl, ?_⟩
  have s14 := s13.trans s4
  refine ite2 (fun c => ?_) (fun c => ?_)
  ·have c' : (sel g).count o <= left := by have := of_decide_eq_true c; omega
   refine ⟨_, rfl, _, rfl, _, rfl, D, _, _, _, rfl, rfl, SqL.of (s14 _ _ hD), q69 gz, szb rfl, fun l2 hl2 => ?_⟩
   have s5 := q15 hl2 (.lst [z])
   have hl2' : upd H4 l2 (.lst [z]) l2 = some (.lst [z]) := q13
   generalize upd H4 l2 (.lst [z]) = H5 at *
   have s15 := s14.trans s5
   refine ⟨l2, [z], 0, [ledS L (wayW L o) g], rfl, SqL.of hl2', q251 (hstr.tk (.same s15)), by simp, fun H6 s6 => ?_⟩
   rw [one g hgm]
   refine ⟨_, _, rfl, rfl, _, rfl, _, _, rfl, rfl, ⟨left - (sel g).count o, j + 1, ?_, s15.trans s6, ?_⟩, ?_⟩
   ·have a1 : (left : Int) - ((sel g).count o : Nat) = ((left - (sel g).count o : Nat) : Int) := by omega
    have a2 : (j : Int) + 1 = ((j + 1 : Nat) : Int) := by omega
    show [some (V.ref ga), some (V.ref wy), some (V.int (num : Int)), some (V.ref D), some (V.int ((left : Int) - ((sel g).count o : Nat))), some (V.int ((j : Int) + 1))] = _
    rw [a1, a2]
   ·rw [hwt, List.count_append]; omega
   ·show gs.length - ((j : Int) + 1).toNat < gs.length - ((j : Int)).toNat
    omega
  ·have c' : left < (sel g).count o := by
    apply Classical.byContradiction
    intro z2
    exact c (decide_eq_true (by omega))
   obtain ⟨i, k1, k2, k3, k4, k5⟩ := lift_at (hgd g hgm) h0 h1 c'
   have s04 := s1.trans s14
   refine ⟨_, rfl, _, rfl, _, rfl, ga, _, _, _, rfl, rfl, SqL.of (s04 _ _ hga), q69 gx, t, _, _, _, rfl, rfl, SqT.of (s04 _ _ f2), rfl, _, rfl, _, rfl, _, rfl, D, _, _, _, rfl, rfl, SqL.of (s14 _ _ hD), q69 gz, ?_⟩
   rw [e1]
   refine ⟨t', _, _, _, rfl, rfl, SqT.of (s14 _ _ e2), rfl, _, rfl, _, _, rfl, rfl, ?_⟩
   refine ⟨L, hL, u, wy, (ledS L (wayW L o) g).2.1 + left, i, L, g.1, wayW L o, ?_, f3.same s04, hwy.same s04, hwl, Nat.le_refl _, q199 L o, (hgd g hgm).1, k1, fun H5 s5 => ⟨szb rfl, fun p hp => ?_⟩⟩
   ·exact congrArg (fun q : Int => [u, V.ref wy, V.int q]) (show ((ledS L (wayW L o) g).2.1 : Int) + (left : Int) = (((ledS L (wayW L o) g).2.1 + left : Nat) : Int) by omega)
   refine q p j i _ ((s04.trans s5).trans (q15 hp _)) q13 ⟨g, gj, k2, k3, k4, ?_⟩
   rw [W_app, q522, List.count_append, k5]
   omega
 ·rintro σ H2 Q1 Q2 hq ⟨_, e0, _, e1, _, e2, a, us, i, v, f1, f2, f3, f4, g0, g⟩
  refine ⟨_, e0, _, e1, _, e2, a, us, i, v, f1, f2, f3, f4, g0, fun p hp => ?_⟩
  obtain ⟨ga', xs', L', gs', h1, h2, h3, h4, h5⟩ := g p hp
  refine ⟨ga', xs', L', gs', h1, h2, h3, h4, fun H' s' => ?_⟩
  obtain ⟨i', j', w1, w2, k, w3, w4⟩ := h5 H' s'
  exact ⟨i', j', w1, w2, k, w3, hq _ _ w4⟩
theorem q448 (d : Def K mg "nth_least" q187 ["bounds", "gathering", "k"]) (z : Bz mg) (c_many_in : Cal P w K mg base q39 "many_in" ["gathering"] (q38 K)) (c_many_lesser : Cal P w K mg base q75 "many_lesser" ["gathering", "way"] (q67 K)) (c_nth_alike : Cal P w K mg base q202 "nth_alike" ["gathering", "way", "number"] (q170 K)) (c_span_of : Cal P w K mg base q221 "span_of" ["bounds", "way"] (q179 K)) (c_way_of_nth : Cal P w K mg base q114 "way_of_nth" ["levels", "gathering", "k"] (q96 K)) : Cal P w K mg base q203 "nth_least" ["bounds", "gathering", "k"] (q171 K) := by
 have sc := q423
 refine d.cal fun f fd F => F.ok sc (fun vs H Q E h => ?_) (fun cdv A outer s H vs Q E hr h => ?_)
 ·obtain ⟨b, ga, xs, low, L, k, gs, rfl, _⟩ := h
  rfl
 obtain ⟨b, ga, xs, low, L, k, gs, rfl, hb, hL, hga, hg, hgd, hl, hw9, hk, q⟩ := h
 refine ⟨_, (q11 (ps_if (PW.pt (pw_or (q17 op_lt (pv 2) q14 (q20 _)) (q92 (q17 op_ge (pv 2) (pe_fn c_many_in (hr.mono (by decide)) (by rfl) (q10 (pv 1) q12)) (q20 _)))))
 (q16 q84)
 q23)
 (q11 (q19 (i := 3) sc.nd rfl (Or.inl rfl) (pe_fn c_way_of_nth (hr.mono (by decide)) (by rfl) (q10 (pe_ix q22 (pv 0) q14 (fun _ _ => rfl)) (q10 (pv 1) (q10 (pv 2) q12)))))
 (q11 (q19 (i := 4) sc.nd rfl (Or.inl rfl) (pe_op q54 (pv 2) (pe_fn c_many_lesser (hr.mono (by decide)) (by rfl) (q10 (pv 1) (q10 (pv 3) q12)))))
 (q16 (q21 (pe_op op_catU (q27 (q10 (pe_ix q22 (pe_fn c_span_of (hr.mono (by decide)) (by rfl) (q10 (pv 0) (q10 (pv 3) q12))) q14 (fun _ _ => rfl)) q12)) (pe_fn c_nth_alike (hr.mono (by decide)) (by rfl) (q10 (pv 1) (q10 (pv 3) (q10 (pv 4) q12)))))))))), ?_⟩
 have r := q123 L (Wh gs) k
 obtain ⟨c1, c2⟩ := q168 L (Wh gs) k (W_in hgd) hk
 rw [q147] at c2
 refine ⟨_, rfl, _, _, rfl, rfl, _, rfl, ?_⟩
 refine ite2 (fun c => absurd (of_decide_eq_true c) (by omega)) (fun _ => ?_)
 refine ⟨_, rfl, _, rfl, ga, xs, L, gs, rfl, SqL.of hga, hg, by omega, fun H1 s1 => ?_⟩
 rw [q107 hgd]
 refine ⟨_, _, rfl, rfl, _, rfl, ?_⟩
 refine ite2 (fun c => absurd (of_decide_eq_true c) (by omega)) (fun _ => ?_)
 refine ⟨_, rfl, b, _, _, _, rfl, rfl, s1.seqT hb, rfl, _, rfl, _, rfl, ga, xs, L, k, gs, rfl, hL, s1 _ _ hga, hg.same s1, hgd, hl, hw9, hk, fun t H2 s2 ht => ?_⟩
 have s02 := s1.trans s2
 generalize kth L (Wh gs) k = o at *
 refine ⟨_, rfl, _, rfl, _, rfl, ga, t, xs, L, o, gs, rfl, SqL.of (s02 _ _ hga), hg.same s02, hgd, hl, ht.sq, r.1, r.2, fun H3 s3 => ⟨_, _, rfl, rfl, ?_⟩⟩
 have s03 := s02.trans s3
 refine ⟨_, rfl, _, rfl, b, t, low, L, wayW L o, rfl, s03.seqT hb, hL, (ht.same s3).sq, fun p hp => ?_⟩
 have hsp : spanS low L (wayW L o) = (low + o, 1) := q274 L low o r.1 r.2
 rw [hsp]
 have s4 := q15 hp (.tup [V.int (low + o), .int (low + o + 1 - 1)])
 have hp4 : upd H3 p (.tup [V.int (low + o), .int (low + o + 1 - 1)]) p = some (.tup [V.int (low + o), .int (low + o + 1 - 1)]) := q13
 dsimp only
 generalize upd H3 p (.tup [V.int (low + o), .int (low + o + 1 - 1)]) = H4 at *
 refine ⟨p, _, _, _, rfl, rfl, SqT.of hp4, rfl, szb rfl, fun p1 hp1 => ?_⟩
 have s5 := q15 hp1 (.tup [V.int (low + o)])
 have hp5 : upd H4 p1 (.tup [V.int (low + o)]) p1 = some (.tup [V.int (low + o)]) := q13
 generalize upd H4 p1 (.tup [V.int (low + o)]) = H5 at *
 have s05 := (s03.trans s4).trans s5
 refine ⟨_, rfl, _, rfl, _, rfl, ga, t, xs, L, k - ltC (Wh gs) o, o, gs, ?_, hL, s05 _ _ hga, hg.same s05, hgd, hl, (((ht.same s3).same s4).same s5), r.1, r.2, by omega, fun p2 j pl H6 s6 hp2 hth => ?_⟩
 ·exact congrArg (fun q : Int => [V.ref ga, V.ref t, V.int q]) (show (k : Int) - ((ltC (Wh gs) o : Nat) : Int) = ((k - ltC (Wh gs) o : Nat) : Int) by omega)
 refine ⟨p1, p2, _, _, rfl, rfl, SqT.of (s6 _ _ hp5), SqT.of hp2, szb rfl, fun p3 H7 s7 h3 _ => ?_⟩
 exact q p3 j pl H7 ((s05.trans s6).trans s7) h3 hth
theorem q570 (d : Def K mg "rank_of" q295 ["bounds", "gathering", "j", "place"]) (z : Bz mg) (c_led : Cal P w K mg base k_led "led" ["gathering", "way"] (q218 K)) (c_many_in : Cal P w K mg base q39 "many_in" ["gathering"] (q38 K)) (c_many_lesser : Cal P w K mg base q75 "many_lesser" ["gathering", "way"] (q67 K)) (c_number_at : Cal P w K mg base q109 "number_at" ["bounds", "tree", "place"] (q90 K)) (c_way_of : Cal P w K mg base q222 "way_of" ["bounds", "number"] (q167 K)) : Cal P w K mg base q314 "rank_of" ["bounds", "gathering", "j", "place"] (q252 K) := by
 have sc := q554
 refine d.cal fun f fd F => F.ok sc (fun vs H Q E h => ?_) (fun cdv A outer s H vs Q E hr h => ?_)
 ·obtain ⟨b, ga, xs, low, o, L, j, pl, gs, g, rfl, _⟩ := h
  rfl
 obtain ⟨b, ga, xs, low, o, L, j, pl, gs, g, rfl, hb, hL, hga, hg, hgd, hl, gj, hs, ht, ho, q⟩ := h
 refine ⟨_, (q11 (ps_if (PW.pt (pw_or (q17 op_lt (pv 2) q14 (q20 _)) (q92 (q17 op_ge (pv 2) (q26 q24 (by rfl) z.len_ q62 (q10 (pv 1) q12)) (q20 _)))))
 (q16 q84)
 q23)
 (q11 (q19 (i := 4) sc.nd rfl (Or.inl rfl) (pe_ix q35 (pv 1) (pv 2) (fun _ _ => rfl)))
 (q11 (ps_if (PW.pt (pw_or (q17 op_lt (pv 3) (pe_ix q22 (pv 4) q14 (fun _ _ => rfl)) (q20 _)) (q92 (q17 op_ge (pv 3) (pe_ix q22 (pv 4) q14 (fun _ _ => rfl)) (q20 _)))))
 (q16 q84)
 q23)
 (q11 (q19 (i := 5) sc.nd rfl (Or.inl rfl) (pe_fn c_way_of (hr.mono (by decide)) (by rfl) (q10 (pv 0) (q10 (pe_fn c_number_at (hr.mono (by decide)) (by rfl) (q10 (pv 0) (q10 (pe_ix q22 (pv 4) q14 (fun _ _ => rfl)) (q10 (pv 3) q12)))) q12))))
 (q11 (q19 (i := 6) sc.nd rfl (Or.inl rfl) (pe_op q260 (q41 q117 (pv 1) q52 (q44 (pv 2))) (q55 (q10 (q27 (q10 (pe_ix q22 (pv 4) q14 (fun _ _ => rfl)) (q10 (pe_ix q22 (pv 4) q14 (fun _ _ => rfl)) (q10 (pv 3) q12)))) q12))))
 (q16 (q21 (pe_op q29 (pe_fn c_many_lesser (hr.mono (by decide)) (by rfl) (q10 (pv 1) (q10 (pv 5) q12))) (pe_fn c_many_in (hr.mono (by decide)) (by rfl) (q10 (pe_fn c_led (hr.mono (by decide)) (by rfl) (q10 (pv 6) (q10 (pv 5) q12))) q12)))))))))), ?_⟩
 have hj : j < gs.length := (List.getElem?_eq_some_iff.mp gj).1
 have hjx : j < xs.length := by rw [hg.1]; exact hj
 have gx := List.getElem?_eq_getElem hjx
 obtain ⟨t, u, e1, e2, e3⟩ := hg.2 j _ _ gx gj
 rw [e1] at gx
 have hgg := hgd g (List.mem_of_getElem? gj)
 have hin := hgg.1 o (List.mem_of_getElem? ho)
 have htt : SqT K H t [u, .int (g.2.1 : Int), .int (g.2.2 : Int)] := SqT.of e2
 refine ⟨_, rfl, _, _, rfl, rfl, _, rfl, ?_⟩
 refine ite2 (fun c => absurd (of_decide_eq_true c) (by omega)) (fun _ => ?_)
 refine ⟨_, rfl, _, rfl, ga, _, rfl, .inl (SqL.of hga), _, _, rfl, rfl, _, rfl, ?_⟩
 refine ite2 (fun c => absurd (of_decide_eq_true c) (by omega)) (fun _ => ?_)
 refine ⟨_, rfl, _, rfl, ga, _, _, _, rfl, rfl, SqL.of hga, q69 gx, ?_⟩
 refine ⟨_, rfl, _, rfl, t, _, _, _, rfl, rfl, htt, rfl, _, _, rfl, rfl, _, rfl, ?_⟩
 refine ite2 (fun c => absurd (of_decide_eq_true c) (by omega)) (fun _ => ?_)
 refine ⟨_, rfl, _, rfl, t, _, _, _, rfl, rfl, htt, rfl, _, _, rfl, rfl, _, rfl, ?_⟩
 refine ite2 (fun c => absurd (of_decide_eq_true c) (by omega)) (fun _ => ?_)
 refine ⟨_, rfl, _, rfl, _, rfl, t, _, _, _, rfl, rfl, htt, rfl, _, rfl, b, u, pl, o, low, L, g.1, rfl, hb, hL, e3, hgg.1, ho, fun H1 s1 => ?_⟩
 refine ⟨b, low, low + o, L, rfl, s1.seqT hb, hL, ⟨by omega, by omega⟩, fun wy H2 s2 hwy => ?_⟩
 have ew : low + o - low = o := by omega
 rw [ew] at hwy
 have s02 := s1.trans s2
 have htt2 : SqT K H2 t [u, .int (g.2.1 : Int), .int (g.2.2 : Int)] := SqT.of (s02 _ _ e2)
 refine ⟨_, rfl, _, rfl, _, rfl, ga, _, rfl, SqL.of (s02 _ _ hga), fun S hS => ?_⟩
 rw [cutTake]
 have s3 := q15 hS (.lst (xs.take j))
 have hS3 : upd H2 S (.lst (xs.take j)) S = some (.lst (xs.take j)) := q13
 generalize upd H2 S (.lst (xs.take j)) = H3 at *
 have s03 := s02.trans s3
 refine ⟨_, rfl, t, _, _, _, rfl, rfl, s3.seqT htt2, rfl, _, rfl, t, _, _, _, rfl, rfl, s3.seqT htt2, rfl, _, rfl, szb rfl, fun t2 ht2 => ?_⟩
 have s4 := q15 ht2 (.tup [u, .int (g.2.1 : Int), .int (pl : Int)])
 have ht4 : upd H3 t2 (.tup [u, .int (g.2.1 : Int), .int (pl : Int)]) t2 = some (.tup [u, .int (g.2.1 : Int), .int (pl : Int)]) := q13
 generalize upd H3 t2 (.tup [u, .int (g.2.1 : Int), .int (pl : Int)]) = H4 at *
 refine ⟨szb rfl, fun l5 hl5 => ?_⟩
 have s5 := q15 hl5 (.lst [V.ref t2])
 have hl5' : upd H4 l5 (.lst [V.ref t2]) l5 = some (.lst [V.ref t2]) := q13
 generalize upd H4 l5 (.lst [V.ref t2]) = H5 at *
 have s35 := s4.trans s5
 refine ⟨S, l5, _, _, rfl, rfl, s35 _ _ hS3, hl5', sz (by rw [List.length_take]; simp; omega), fun bf hbf => ?_⟩
 have s6 := q15 hbf (.lst (xs.take j ++ [V.ref t2]))
 have hbf6 : upd H5 bf (.lst (xs.take j ++ [V.ref t2])) bf = some (.lst (xs.take j ++ [V.ref t2])) := q13
 generalize upd H5 bf (.lst (xs.take j ++ [V.ref t2])) = H6 at *
 have s06 := (s03.trans s35).trans s6
 have hG6 : GatAt H6 L (xs.take j ++ [V.ref t2]) (gs.take j ++ [(g.1, g.2.1, pl)]) := gat_app ((gat_take hg j).same s06) (q251 ⟨t2, u, rfl, (s5.trans s6) _ _ ht4, e3.same s06⟩)
 have hgd6 : ∀ x ∈ gs.take j ++ [(g.1, g.2.1, pl)], GoodS L x := fun x hx => by
  rcases List.mem_append.mp hx with hx | hx
  ·exact hgd x (List.mem_of_mem_take hx)
  ·rw [List.mem_singleton.mp hx]
   exact ⟨hgg.1, hs, by have := hgg.2.2.1; show pl <= g.1.length; omega, hgg.2.2.2⟩
 have hlen6 : (gs.take j ++ [(g.1, g.2.1, pl)]).length <= 100 := by rw [List.length_append, List.length_take]; simp; omega
 have hwy6 := ((hwy.same s3).same s35).same s6
 refine ⟨_, rfl, _, rfl, ga, wy, xs, L, o, gs, rfl, SqL.of (s06 _ _ hga), hg.same s06, hgd, by omega, hwy6.sq, hin.1, hin.2, fun H7 s7 => ?_⟩
 refine ⟨_, rfl, _, rfl, bf, wy, _, L, wayW L o, _, rfl, SqL.of (s7 _ _ hbf6), hG6.same s7, hgd6, by omega, (hwy6.same s7).sq, by rw [q113]; exact Nat.le_refl _, q199 L o, fun H8 D8 z8 s8 hD8 _ hg8 => ?_⟩
 refine ⟨D8, z8, _, _, rfl, SqL.of hD8, hg8, by rw [List.length_map]; omega, fun H9 s9 => ⟨_, _, rfl, rfl, ?_⟩⟩
 rw [q224 L o _ hin.1 hin.2 hgd6]
 exact q H9 (((s06.trans s7).trans s8).trans s9)
end
abbrev q43 : Nat := 3
abbrev q155 : Nat := 40
abbrev q76 : Nat := 44
inductive ispe_counted_above (K : PySem.W.Frag) (e : Nat) (vs : List V) (H : Hp) (Q : VK) (E : XK) : Prop
 | mk (least part floor : Int) (pa : Addr) (xs : List V) (gs : List G3) (hz0 : vs = [.int least, .int (2 ^ e), .ref pa, .int part, .int floor]) (hz1 : SqL K H pa xs) (hz2 : GatAt H e xs gs) (hz3 : (∀ g ∈ gs, GoodS e g)) (hz4 : gs.length <= 100) (hz5 : (Wh gs).length <= 900) (hz6 : 1 <= part) (hz7 : 0 <= floor) (hz8 : ∀ (H' : Hp) (D : Addr) (ys : List V), Same H H' -> H' D = some (.lst ys) -> H D = none -> AllAt PsR H' ys (caF part floor e least (Wh gs)) -> Q (.ref D) H') : ispe_counted_above K e vs H Q E
def q133 (K : PySem.W.Frag) (e : Nat) : Sp := ispe_counted_above K e
def q68 (K : PySem.W.Frag) : Sp := fun vs H Q E => ∃ e, e <= q155 /\ q133 K e vs H Q E
abbrev q204 : Nat := 45
inductive isp_worths_in (K : PySem.W.Frag) (vs : List V) (H : Hp) (Q : VK) (E : XK) : Prop
 | mk (b ga : Addr) (xs : List V) (low : Int) (L : Nat) (gs : List G3) (hz0 : vs = [.ref b, .ref ga]) (hz1 : SqT K H b [.int low, .int (L : Int)]) (hz2 : L <= 40) (hz3 : SqL K H ga xs) (hz4 : GatAt H L xs gs) (hz5 : (∀ g ∈ gs, GoodS L g)) (hz6 : gs.length <= 100) (hz7 : (Wh gs).length <= 900) (hz8 : ∀ (H' : Hp) (D : Addr) (ys : List V), Same H H' -> H' D = some (.lst ys) -> H D = none -> AllAt PsR H' ys (caF 1 0 L low (Wh gs)) -> Q (.ref D) H') : isp_worths_in K vs H Q E
def q172 (K : PySem.W.Frag) : Sp := isp_worths_in K
abbrev q483 : Nat := 45
inductive isp_often (K : PySem.W.Frag) (vs : List V) (H : Hp) (Q : VK) (E : XK) : Prop
 | mk (b ga : Addr) (xs : List V) (low part : Int) (L : Nat) (gs : List G3) (hz0 : vs = [.ref b, .ref ga, .int part]) (hz1 : SqT K H b [.int low, .int (L : Int)]) (hz2 : L <= 40) (hz3 : SqL K H ga xs) (hz4 : GatAt H L xs gs) (hz5 : (∀ g ∈ gs, GoodS L g)) (hz6 : gs.length <= 100) (hz7 : (Wh gs).length <= 900) (hz8 : 1 <= part) (hz9 : ∀ (H' : Hp) (D : Addr) (ys : List V), Same H H' -> H' D = some (.lst ys) -> H D = none -> AllAt PsR H' ys (caF part ((Wh gs).length : Nat) L low (Wh gs)) -> Q (.ref D) H') : isp_often K vs H Q E
def q392 (K : PySem.W.Frag) : Sp := isp_often K
def BstV (H : Hp) (v : V) : Option P2 -> Prop
 | none => v = .non
 | some p => PsR H v p
abbrev q654 : Nat := 46
inductive isp_most (K : PySem.W.Frag) (vs : List V) (H : Hp) (Q : VK) (E : XK) : Prop
 | mk (b ga : Addr) (xs : List V) (low : Int) (L : Nat) (gs : List G3) (hz0 : vs = [.ref b, .ref ga]) (hz1 : SqT K H b [.int low, .int (L : Int)]) (hz2 : L <= 40) (hz3 : SqL K H ga xs) (hz4 : GatAt H L xs gs) (hz5 : (∀ g ∈ gs, GoodS L g)) (hz6 : gs.length <= 100) (hz7 : (Wh gs).length <= 900) (hz8 : ∀ (H' : Hp) (v : V), Same H H' -> BstV H' v (bst (caF 1 0 L low (Wh gs))) -> Q v H') : isp_most K vs H Q E
def q484 (K : PySem.W.Frag) : Sp := isp_most K
section
variable {P : Program} {w : World} {K : PySem.W.Frag} {mg : Str -> Option Value} {base : Heap}
theorem q265 (d : Def K mg "counted_above" q105 ["least", "many", "parts", "part", "floor"]) (z : Bz mg) (c_filled : Cal P w K mg base q74 "filled" ["gathering"] (q108 K)) (c_led : Cal P w K mg base k_led "led" ["gathering", "way"] (q218 K)) (c_many_in : Cal P w K mg base q39 "many_in" ["gathering"] (q38 K)) : Cal P w K mg base q76 "counted_above" ["least", "many", "parts", "part", "floor"] (q68 K) := by
 have sc := q264
 refine d.recur (k := q43) (sp := q133 K) q155 fun e hen c_counted_above f fd F => F.ok sc (fun vs H Q E h => ?_) (fun cdv A outer s H vs Q E hr h => ?_)
 ·obtain ⟨least, part, floor, pa, xs, gs, rfl, _⟩ := h
  rfl
 obtain ⟨least, part, floor, pa, xs, gs, rfl, hpa, hg, hgd, hl, hw, hp1, hf0, q⟩ := h
 refine ⟨_, (q11 (q19 (i := 5) sc.nd rfl (Or.inl rfl) (pe_fn c_many_in (hr.mono (Nat.le_trans (by decide : q39 <= q43) (Nat.le_add_left _ _))) (by rfl) (q10 (pv 2) q12)))
 (q11 (ps_if (q17 op_le (pe_op q101 (pv 5) (pv 3)) (pv 4) (q20 _))
 (q16 (q21 (q55 q12)))
 q23)
 (q11 (ps_if (q17 op_eq (pv 1) q14 (q20 _))
 (q16 (q21 (q55 (q10 (q27 (q10 (pv 0) (q10 (pv 5) q12))) q12))))
 q23)
 (q11 (q19 (i := 6) sc.nd rfl (Or.inl rfl) (pe_op q112 (pv 1) q14))
 (q11 (q19 (i := 7) sc.nd rfl (Or.inl rfl) (pe_fn c_counted_above (hr.mono (Nat.le_refl _)) (by rfl) (q10 (pv 0) (q10 (pv 6) (q10 (pe_fn c_filled (hr.mono (Nat.le_trans (by decide : q74 <= q43) (Nat.le_add_left _ _))) (by rfl) (q10 (pe_fn c_led (hr.mono (Nat.le_trans (by decide : k_led <= q43) (Nat.le_add_left _ _))) (by rfl) (q10 (pv 2) (q10 (q27 (q10 q14 q12)) q12))) q12)) (q10 (pv 3) (q10 (pv 4) q12)))))))
 (q11 (q19 (i := 8) sc.nd rfl (Or.inl rfl) (pe_fn c_counted_above (hr.mono (Nat.le_refl _)) (by rfl) (q10 (pe_op q29 (pv 0) (pv 6)) (q10 (pv 6) (q10 (pe_fn c_filled (hr.mono (Nat.le_trans (by decide : q74 <= q43) (Nat.le_add_left _ _))) (by rfl) (q10 (pe_fn c_led (hr.mono (Nat.le_trans (by decide : k_led <= q43) (Nat.le_add_left _ _))) (by rfl) (q10 (pv 2) (q10 (q27 (q10 q14 q12)) q12))) q12)) (q10 (pv 3) (q10 (pv 4) q12)))))))
 (q16 (q21 (pe_op q260 (pv 7) (pv 8)))))))))), ?_⟩
 have hin := W_in hgd
 have hcl := ca_len (part := part) (floor := floor) (least := least) hp1 hf0 hin
 refine ⟨_, rfl, pa, xs, e, gs, rfl, hpa, hg, by omega, fun H1 s1 => ?_⟩
 rw [q107 hgd]
 refine ⟨_, rfl, _, rfl, _, _, rfl, rfl, .inl ⟨by omega, by omega⟩, _, rfl, _, _, rfl, rfl, _, rfl, ?_⟩
 refine ite2 (fun c => ?_) (fun c => ?_)
 ·have c' := of_decide_eq_true c
  have e0 : caF part floor e least (Wh gs) = [] := by
   cases e <;> (unfold caF; rw [if_pos c'])
  rw [e0] at q
  exact ⟨szb rfl, fun D hD => q _ D [] (s1.trans (q15 hD _)) q13 (s1.free hD) AllAt.nil⟩
 have c' : ¬ ((Wh gs).length : Int) * part <= floor := fun z => c (decide_eq_true z)
 refine ⟨_, rfl, rfl, _, rfl, ?_⟩
 cases e with
 | zero =>
  refine ite2 (fun _ => ?_) (fun c => absurd (decide_eq_true rfl) c)
  have e0 : caF part floor 0 least (Wh gs) = [(least, (((Wh gs).length : Nat) : Int))] := by unfold caF; rw [if_neg c']
  rw [e0] at q
  refine ⟨_, rfl, _, rfl, szb rfl, fun t ht => ⟨szb rfl, fun D hD => ?_⟩⟩
  have s2 := q15 ht (.tup [.int least, .int ((Wh gs).length : Nat)])
  have s3 := q15 hD (.lst [.ref t])
  refine q _ D [.ref t] ((s1.trans s2).trans s3) q13 ((s1.trans s2).free hD) ⟨rfl, fun j x p h1 h2 => ?_⟩
  match j, h1, h2 with
  | 0, h1, h2 => cases h1; cases h2; exact ⟨t, rfl, s3 _ _ q13⟩
  | j + 1, h1, h2 => simp at h1
 | succ e =>
  have hp2 := p2pos e
  have e2 : (2 : Int) ^ (e + 1) = 2 * 2 ^ e := by rw [Int.pow_succ]; omega
  refine ite2 (fun c => absurd (V.int.inj (of_decide_eq_true c)) (by omega)) (fun _ => ?_)
  have hh : (2 : Int) ^ (e + 1) / 2 = 2 ^ e := by rw [Int.pow_succ]; exact Int.mul_ediv_cancel _ (by decide)
  refine ⟨_, rfl, _, _, rfl, rfl, ⟨by decide, by decide⟩, ?_⟩
  dsimp only
  rw [hh]
  have e0 : caF part floor (e + 1) least (Wh gs) = caF part floor e least (halfO e 0 (Wh gs)) ++ caF part floor e (least + 2 ^ e) (halfO e 1 (Wh gs)) := by rw [caF, if_neg c']
  rw [e0] at q hcl
  have good1 : ∀ w, ∀ g ∈ gs.map (led1 e w), GoodS e g := fun w g hg => by
   obtain ⟨g', hg', rfl⟩ := List.mem_map.mp hg
   exact q131 (hgd g' hg')
  have el : ∀ w : Int, gs.map (ledS (e + 1) [w]) = gs.map (led1 e w) := fun w => List.map_congr_left fun g _ => by rw [q73, q60]
  have e1l : e + 1 - [(0 : Int)].length = e := rfl
  have lenH : ∀ w : Int, (halfO e w (Wh gs)).length <= 900 := fun w => Nat.le_trans q163 hw
  refine ⟨_, rfl, _, rfl, _, rfl, szb rfl, fun w0 hw0 => ?_⟩
  have s2 := q15 hw0 (.tup [V.int 0])
  have hw0' : upd H1 w0 (.tup [V.int 0]) w0 = some (.tup [V.int 0]) := q13
  generalize upd H1 w0 (.tup [V.int 0]) = H2 at *
  have s02 := s1.trans s2
  refine ⟨pa, w0, xs, e + 1, [0], gs, rfl, s02.seq hpa, hg.same s02, hgd, by omega, SqT.of hw0', by simp, (fun x hx => by rw [List.mem_singleton.mp hx]; exact .inl rfl), fun H3 D3 z3 s3 hD3 hD3n hg3 => ?_⟩
  rw [el] at hg3
  have hg3' : GatAt H3 e z3 (gs.map (led1 e 0)) := hg3
  refine ⟨D3, z3, e, _, rfl, SqL.of hD3, hg3', by rw [List.length_map]; omega, fun H4 D4 z4 s4 hD4 hD4n hg4 => ?_⟩
  refine ⟨_, rfl, _, rfl, least, part, floor, D4, z4, fillG (gs.map (led1 e 0)), rfl, SqL.of hD4, hg4, q89 (good1 0), ?_, by rw [q132, W_led hgd]; exact lenH 0, hp1, hf0, fun H5 D5 z5 s5 hD5 hD5n hp5 => ?_⟩
  ·exact Nat.le_trans (List.length_filter_le _ _) (by rw [List.length_map]; exact hl)
  rw [q132, W_led hgd] at hp5
  have s05 := ((s02.trans s3).trans s4).trans s5
  refine ⟨_, rfl, _, rfl, _, _, rfl, rfl, _, rfl, _, rfl, szb rfl, fun w1 hw1 => ?_⟩
  have s6 := q15 hw1 (.tup [V.int 1])
  have hw1' : upd H5 w1 (.tup [V.int 1]) w1 = some (.tup [V.int 1]) := q13
  generalize upd H5 w1 (.tup [V.int 1]) = H6 at *
  have s06 := s05.trans s6
  refine ⟨pa, w1, xs, e + 1, [1], gs, rfl, s06.seq hpa, hg.same s06, hgd, by omega, SqT.of hw1', by simp, (fun x hx => by rw [List.mem_singleton.mp hx]; exact .inr rfl), fun H7 D7 z7 s7 hD7 hD7n hg7 => ?_⟩
  rw [el] at hg7
  have hg7' : GatAt H7 e z7 (gs.map (led1 e 1)) := hg7
  refine ⟨D7, z7, e, _, rfl, SqL.of hD7, hg7', by rw [List.length_map]; omega, fun H8 D8 z8 s8 hD8 hD8n hg8 => ?_⟩
  refine ⟨_, rfl, _, rfl, least + 2 ^ e, part, floor, D8, z8, fillG (gs.map (led1 e 1)), rfl, SqL.of hD8, hg8, q89 (good1 1), ?_, by rw [q132, W_led hgd]; exact lenH 1, hp1, hf0, fun H9 D9 z9 s9 hD9 hD9n hp9 => ?_⟩
  ·exact Nat.le_trans (List.length_filter_le _ _) (by rw [List.length_map]; exact hl)
  rw [q132, W_led hgd] at hp9
  have s59 := ((s6.trans s7).trans s8).trans s9
  have hD59 := s59 _ _ hD5
  have hp59 := q647 hp5 s59
  refine ⟨_, rfl, _, rfl, D5, D9, z5, z9, rfl, rfl, hD59, hD9, sz (by rw [hp5.1, hp9.1, <- List.length_append]; omega), fun D hD => ?_⟩
  exact q _ D _ ((s05.trans s59).trans (q15 hD _)) q13 ((s05.trans s59).free hD) (q647 (hp59.app hp9) (q15 hD _))
theorem q449 (d : Def K mg "worths_in" q192 ["bounds", "gathering"]) (z : Bz mg) (c_counted_above : Cal P w K mg base q76 "counted_above" ["least", "many", "parts", "part", "floor"] (q68 K)) (c_filled : Cal P w K mg base q74 "filled" ["gathering"] (q108 K)) (c_many_worths : Cal P w K mg base q34 "many_worths" ["levels"] (q30 K)) : Cal P w K mg base q204 "worths_in" ["bounds", "gathering"] (q172 K) := by
 have sc := q428
 refine d.cal fun f fd F => F.ok sc (fun vs H Q E h => ?_) (fun cdv A outer s H vs Q E hr h => ?_)
 ·obtain ⟨b, ga, xs, low, L, gs, rfl, _⟩ := h
  rfl
 obtain ⟨b, ga, xs, low, L, gs, rfl, hb, hL, hga, hg, hgd, hl, hw, q⟩ := h
 refine ⟨_, (q16 (q21 (pe_fn c_counted_above (hr.mono (by decide)) (by rfl) (q10 (pe_ix q22 (pv 0) q14 (fun _ _ => rfl)) (q10 (pe_fn c_many_worths (hr.mono (by decide)) (by rfl) (q10 (pe_ix q22 (pv 0) q14 (fun _ _ => rfl)) q12)) (q10 (pe_fn c_filled (hr.mono (by decide)) (by rfl) (q10 (pv 1) q12)) (q10 q14 (q10 q14 q12)))))))), ?_⟩
 refine ⟨_, rfl, b, _, _, _, rfl, rfl, hb, rfl, _, rfl, b, _, _, _, rfl, rfl, hb, rfl, L, rfl, hL, _, rfl, ga, xs, L, gs, rfl, hga, hg, by omega, fun H1 D1 z1 s1 hD1 hD1n hg1 => ?_⟩
 refine ⟨L, hL, low, 1, 0, D1, z1, fillG gs, rfl, SqL.of hD1, hg1, q89 hgd, Nat.le_trans (List.length_filter_le _ _) hl, by rw [q132]; exact hw, by decide, by decide, fun H2 D2 z2 s2 hD2 hD2n hp2 => ?_⟩
 rw [q132] at hp2
 exact q H2 D2 z2 (s1.trans s2) hD2 (s1.free hD2n) hp2
theorem ok_often (d : Def K mg "often" q471 ["bounds", "gathering", "part"]) (z : Bz mg) (c_counted_above : Cal P w K mg base q76 "counted_above" ["least", "many", "parts", "part", "floor"] (q68 K)) (c_filled : Cal P w K mg base q74 "filled" ["gathering"] (q108 K)) (c_many_in : Cal P w K mg base q39 "many_in" ["gathering"] (q38 K)) (c_many_worths : Cal P w K mg base q34 "many_worths" ["levels"] (q30 K)) : Cal P w K mg base q483 "often" ["bounds", "gathering", "part"] (q392 K) := by
 have sc := sc_often
 refine d.cal fun f fd F => F.ok sc (fun vs H Q E h => ?_) (fun cdv A outer s H vs Q E hr h => ?_)
 ·obtain ⟨b, ga, xs, low, part, L, gs, rfl, _⟩ := h
  rfl
 obtain ⟨b, ga, xs, low, part, L, gs, rfl, hb, hL, hga, hg, hgd, hl, hw, hp, q⟩ := h
 refine ⟨_, (q16 (q21 (pe_fn c_counted_above (hr.mono (by decide)) (by rfl) (q10 (pe_ix q22 (pv 0) q14 (fun _ _ => rfl)) (q10 (pe_fn c_many_worths (hr.mono (by decide)) (by rfl) (q10 (pe_ix q22 (pv 0) q14 (fun _ _ => rfl)) q12)) (q10 (pe_fn c_filled (hr.mono (by decide)) (by rfl) (q10 (pv 1) q12)) (q10 (pv 2) (q10 (pe_fn c_many_in (hr.mono (by decide)) (by rfl) (q10 (pv 1) q12)) q12)))))))), ?_⟩
 refine ⟨_, rfl, b, _, _, _, rfl, rfl, hb, rfl, _, rfl, b, _, _, _, rfl, rfl, hb, rfl, L, rfl, hL, _, rfl, ga, xs, L, gs, rfl, hga, hg, by omega, fun H1 D1 z1 s1 hD1 hD1n hg1 => ?_⟩
 refine ⟨_, rfl, _, rfl, ga, xs, L, gs, rfl, s1.seq hga, hg.same s1, by omega, fun H1' s1' => ?_⟩
 rw [q107 hgd]
 refine ⟨L, hL, low, part, _, D1, z1, fillG gs, rfl, SqL.of (s1' _ _ hD1), hg1.same s1', q89 hgd, Nat.le_trans (List.length_filter_le _ _) hl, by rw [q132]; exact hw, hp, by omega, fun H2 D2 z2 s2 hD2 hD2n hp2 => ?_⟩
 rw [q132] at hp2
 exact q H2 D2 z2 ((s1.trans s1').trans s2) hD2 ((s1.trans s1').free hD2n) hp2
theorem ok_most (d : Def K mg "most" q629 ["bounds", "gathering"]) (z : Bz mg) (c_worths_in : Cal P w K mg base q204 "worths_in" ["bounds", "gathering"] (q172 K)) : Cal P w K mg base q654 "most" ["bounds", "gathering"] (q484 K) := by
 have sc := sc_most
 refine d.cal fun f fd F => F.ok sc (fun vs H Q E h => ?_) (fun cdv A outer s H vs Q E hr h => ?_)
 ·obtain ⟨b, ga, xs, low, L, gs, rfl, _⟩ := h
  rfl
 obtain ⟨b, ga, xs, low, L, gs, rfl, hb, hL, hga, hg, hgd, hl, hw, q⟩ := h
 refine ⟨_, (q11 (q19 (i := 2) sc.nd rfl (Or.inl rfl) q63)
 (q11 (q152 PassesOwn.never rfl (q91 (pe_fn c_worths_in (hr.mono (by decide)) (by rfl) (q10 (pv 0) (q10 (pv 1) q12)))) (q48 (i := 3) sc.nd rfl (Or.inl rfl))
 (q16 (ps_if (PW.pt (pw_or (q17 q156 (pv 2) q63 (q20 _)) (q92 (q17 op_gt (pe_ix q22 (pv 3) q14 (fun _ _ => rfl)) (pe_ix q22 (pv 2) q14 (fun _ _ => rfl)) (q20 _)))))
 (q16 (q19 (i := 2) sc.nd rfl (Or.inl rfl) (pv 3)))
 q23)))
 (q16 (q21 (pv 2))))), ?_⟩
 refine ⟨_, rfl, _, rfl, b, ga, xs, low, L, gs, rfl, hb, hL, hga, hg, hgd, hl, hw, fun H1 D1 z1 s1 hD1 hD1n hp1 => ?_⟩
 generalize caF 1 0 L low (Wh gs) = ps at *
 refine ⟨D1, rfl, ⟨_, SqL.of hD1⟩, q495 (K := K) (a := D1) (xs := z1) (fun j σ H2 => ∃ (bv : V) (v3 : Option V), σ = [some (.ref b), some (.ref ga), some bv, v3] /\ H2 = H1 /\ BstV H1 bv ((ps.take j).foldl bstep none)) ⟨.non, none, rfl, rfl, rfl⟩ (fun j σ H2 _ ⟨_, _, _, e, _⟩ => by rw [e]; exact SqL.of hD1) ?_ ?_⟩
 ·rintro j x σ H2 hx ⟨bv, v3, rfl, rfl, hbv⟩
  obtain ⟨p, gp, hpx⟩ := hp1.get hx
  have et : (ps.take (j + 1)).foldl bstep none = bstep ((ps.take j).foldl bstep none) p := by
   rw [List.take_add_one, gp, List.foldl_append]
   rfl
  generalize (ps.take j).foldl bstep none = bo at *
  refine ⟨_, rfl, rfl, _, rfl, ?_⟩
  cases bo with
  | none =>
   cases (show bv = .non from hbv)
   refine ite2 (fun _ => ?_) (fun c => absurd rfl c)
   refine ⟨_, rfl, x, _, rfl, rfl, ?_⟩
   rw [et]
   exact hpx
  | some q0 =>
   obtain ⟨ab, rfl, hab⟩ := hbv
   obtain ⟨ap, rfl, hap⟩ := hpx
   refine ite2 (fun c => absurd (of_decide_eq_true c) (by intro z; cases z)) (fun _ => ?_)
   refine ⟨_, rfl, ap, _, _, _, rfl, rfl, SqT.of hap, rfl, _, rfl, ab, _, _, _, rfl, rfl, SqT.of hab, rfl, _, _, rfl, rfl, _, rfl, ?_⟩
   refine ite2 (fun c => ?_) (fun c => ?_)
   ·refine ⟨_, rfl, _, _, rfl, rfl, ?_⟩
    rw [et]
    show BstV H2 _ (if p.2 > q0.2 then some p else some q0)
    rw [if_pos (of_decide_eq_true c)]
    exact ⟨ap, rfl, hap⟩
   ·refine ⟨_, _, rfl, rfl, ?_⟩
    rw [et]
    show BstV H2 _ (if p.2 > q0.2 then some p else some q0)
    rw [if_neg (fun z => c (decide_eq_true z))]
    exact ⟨ab, rfl, hab⟩
 ·rintro σ H2 ⟨bv, v3, rfl, rfl, hbv⟩
  rw [hp1.1, List.take_length] at hbv
  exact ⟨_, rfl, q _ bv s1 hbv⟩
end
def mkOf (mid n : Int) : Int := if n < mid then 0 else 1
theorem mk01 (mid n : Int) : mkOf mid n = 0 \/ mkOf mid n = 1 := by
 unfold mkOf
 split
 ·exact .inl rfl
 ·exact .inr rfl
theorem q393 {mid n : Int} (h : n < mid) : mkOf mid n = 0 := if_pos h
theorem q394 {mid n : Int} (h : ¬ n < mid) : mkOf mid n = 1 := if_neg h
def loI (mid : Int) : Int -> Bool := fun n => decide (n < mid)
def hiI (mid : Int) : Int -> Bool := fun n => decide (mid <= n)
theorem cnt_lo {mid : Int} (l : List Int) : (l.map (mkOf mid)).count 0 = l.countP (loI mid) := by
 induction l with
 | nil => rfl
 | cons n l ih =>
  rw [List.map_cons, List.count_cons, List.countP_cons, ih]
  unfold mkOf loI
  by_cases c : n < mid
  ·simp [c]
  ·simp [c]
theorem cnt_hi {mid : Int} (l : List Int) : (l.map (mkOf mid)).count 1 = l.countP (hiI mid) := by
 induction l with
 | nil => rfl
 | cons n l ih =>
  rw [List.map_cons, List.count_cons, List.countP_cons, ih]
  unfold mkOf hiI
  by_cases c : n < mid
  ·have c2 : ¬ mid <= n := by omega
   simp [c, c2]
  ·have c2 : mid <= n := by omega
   simp [c, c2]
theorem Wths.lower {low : Int} {e : Nat} {ns : List Int} (h : Wths low (e + 1) ns) : Wths low e (ns.filter (loI (low + 2 ^ e))) := fun x hx => by
 obtain ⟨h1, h2⟩ := List.mem_filter.mp hx
 exact ⟨(h x h1).1, of_decide_eq_true h2⟩
theorem Wths.upper {low : Int} {e : Nat} {ns : List Int} (h : Wths low (e + 1) ns) : Wths (low + 2 ^ e) e (ns.filter (hiI (low + 2 ^ e))) := fun x hx => by
 obtain ⟨h1, h2⟩ := List.mem_filter.mp hx
 have := (h x h1).2
 rw [p2succ] at this
 exact ⟨of_decide_eq_true h2, by omega⟩
theorem q32 {low : Int} {e : Nat} {ns : List Int} (h : ns ≠ []) : grow low (e + 1) ns = .part (ns.map (mkOf (low + 2 ^ e))) (grow low e (ns.filter (loI (low + 2 ^ e)))) (grow (low + 2 ^ e) e (ns.filter (hiI (low + 2 ^ e)))) := q216 h
theorem q485 (low : Int) (e : Nat) (ns : List Int) : q162 (grow low (e + 1) ns) 0 = grow low e (ns.filter (loI (low + 2 ^ e))) := by
 by_cases h : ns = []
 ·rw [h, q45, List.filter_nil, q45]; rfl
 ·rw [q32 h]; rfl
theorem q486 (low : Int) (e : Nat) (ns : List Int) : q162 (grow low (e + 1) ns) 1 = grow (low + 2 ^ e) e (ns.filter (hiI (low + 2 ^ e))) := by
 by_cases h : ns = []
 ·rw [h, q45, List.filter_nil, q45]; rfl
 ·rw [q32 h]; rfl
theorem q183 (p : Int -> Bool) (ns : List Int) (pl : Nat) : ns.filter p = (ns.take pl).filter p ++ (ns.drop pl).filter p := by
 rw [<- List.filter_append, List.take_append_drop]
theorem q316 (p : Int -> Bool) (ns : List Int) (pl : Nat) : (ns.filter p).take ((ns.take pl).countP p) = (ns.take pl).filter p := by
 rw [q183 p ns pl, List.countP_eq_length_filter]
 exact List.take_left
theorem q226 (p : Int -> Bool) (ns : List Int) (pl : Nat) : (ns.filter p).drop ((ns.take pl).countP p) = (ns.drop pl).filter p := by
 rw [q183 p ns pl, List.countP_eq_length_filter]
 exact List.drop_left
def insAt (ns : List Int) (pl : Nat) (x : Int) : List Int := ns.take pl ++ x :: ns.drop pl
theorem ins_ne (ns : List Int) (pl : Nat) (x : Int) : insAt ns pl x ≠ [] := by unfold insAt; simp
theorem q487 (ns : List Int) (pl : Nat) (x : Int) : (insAt ns pl x).length = ns.length + 1 := by
 unfold insAt
 rw [List.length_append, List.length_cons, List.length_take, List.length_drop]
 omega
theorem ins_map (f : Int -> Int) (ns : List Int) (pl : Nat) (x : Int) : (insAt ns pl x).map f = (ns.map f).take pl ++ f x :: (ns.map f).drop pl := by
 unfold insAt
 rw [List.map_append, List.map_cons, List.map_take, List.map_drop]
theorem ins_in {p : Int -> Bool} {ns : List Int} {pl : Nat} {x : Int} (h : p x = true) : (insAt ns pl x).filter p = insAt (ns.filter p) ((ns.take pl).countP p) x := by
 unfold insAt
 rw [q316, q226, List.filter_append, List.filter_cons, if_pos h]
theorem q655 {p : Int -> Bool} {ns : List Int} {pl : Nat} {x : Int} (h : ¬ p x = true) : (insAt ns pl x).filter p = ns.filter p := by
 unfold insAt
 rw [List.filter_append, List.filter_cons, if_neg h, <- q183]
theorem q523 {low : Int} {L : Nat} {ns : List Int} {pl : Nat} {x : Int} (h : Wths low L ns) (h0 : low <= x) (h1 : x < low + 2 ^ L) : Wths low L (insAt ns pl x) := fun y hy => by
 unfold insAt at hy
 rcases List.mem_append.mp hy with z | z
 ·exact h y (List.mem_of_mem_take z)
 ·rcases List.mem_cons.mp z with z | z
  ·rw [z]; exact ⟨h0, h1⟩
  ·exact h y (List.mem_of_mem_drop z)
def hlf (mid mk : Int) : Int -> Bool := if mk = 0 then loI mid else hiI mid
def lowOf (low : Int) (e : Nat) (mk : Int) : Int := if mk = 0 then low else low + 2 ^ e
theorem q317 {low mk : Int} {e : Nat} {ns : List Int} (h : mk = 0 \/ mk = 1) : q162 (grow low (e + 1) ns) mk = grow (lowOf low e mk) e (ns.filter (hlf (low + 2 ^ e) mk)) := by
 rcases h with rfl | rfl
 ·exact q485 low e ns
 ·exact q486 low e ns
theorem q275 {mid mk : Int} {ns : List Int} {pl : Nat} (h : mk = 0 \/ mk = 1) : ((ns.map (mkOf mid)).take pl).count mk = (ns.take pl).countP (hlf mid mk) := by
 rw [<- List.map_take]
 rcases h with rfl | rfl
 ·exact cnt_lo _
 ·exact cnt_hi _
theorem hlf_self (mid x : Int) : hlf mid (mkOf mid x) x = true := by
 by_cases c : x < mid
 ·rw [q393 c]; exact decide_eq_true c
 ·rw [q394 c]; exact decide_eq_true (by omega)
theorem Wths.half {low mk : Int} {e : Nat} {ns : List Int} (h : Wths low (e + 1) ns) (hk : mk = 0 \/ mk = 1) : Wths (lowOf low e mk) e (ns.filter (hlf (low + 2 ^ e) mk)) := by
 rcases hk with rfl | rfl
 ·exact h.lower
 ·exact h.upper
theorem grow_ins (low : Int) (e : Nat) (ns : List Int) (pl : Nat) (x mk : Int) (hk : mkOf (low + 2 ^ e) x = mk) : grow low (e + 1) (insAt ns pl x) =
  .part ((ns.map (mkOf (low + 2 ^ e))).take pl ++ mk :: (ns.map (mkOf (low + 2 ^ e))).drop pl)
   (if mk = 0 then grow (lowOf low e mk) e (insAt (ns.filter (hlf (low + 2 ^ e) mk)) ((ns.take pl).countP (hlf (low + 2 ^ e) mk)) x) else q162 (grow low (e + 1) ns) 0)
   (if mk = 0 then q162 (grow low (e + 1) ns) 1 else grow (lowOf low e mk) e (insAt (ns.filter (hlf (low + 2 ^ e) mk)) ((ns.take pl).countP (hlf (low + 2 ^ e) mk)) x)) := by
 rw [q32 (ins_ne ns pl x), ins_map, hk]
 by_cases c : x < low + 2 ^ e
 ·rw [q393 c] at hk
  subst hk
  rw [if_pos rfl, if_pos rfl, q486, ins_in (p := loI _) (decide_eq_true c), q655 (p := hiI _) (by intro z; have := of_decide_eq_true z; omega)]
  rfl
 ·rw [q394 c] at hk
  subst hk
  rw [if_neg (by decide), if_neg (by decide), q485, ins_in (p := hiI _) (decide_eq_true (by omega)), q655 (p := loI _) (by intro z; exact c (of_decide_eq_true z))]
  rfl
theorem way_half {low num : Int} {e : Nat} (h0 : low <= num) (h1 : num < low + 2 ^ (e + 1)) : wayW (e + 1) (num - low) = mkOf (low + 2 ^ e) num :: wayW e (num - lowOf low e (mkOf (low + 2 ^ e) num)) /\
  lowOf low e (mkOf (low + 2 ^ e) num) <= num /\ num < lowOf low e (mkOf (low + 2 ^ e) num) + 2 ^ e := by
 have hp := pow2 e
 by_cases c : num < low + 2 ^ e
 ·rw [q393 c, q144 (show num - low < 2 ^ e by omega)]
  exact ⟨rfl, h0, c⟩
 ·rw [q394 c, q145 (show ¬ num - low < 2 ^ e by omega)]
  refine ⟨?_, ?_, ?_⟩
  ·show 1 :: wayW e (num - low - 2 ^ e) = 1 :: wayW e (num - (low + 2 ^ e))
   rw [show num - low - 2 ^ e = num - (low + 2 ^ e) by omega]
  ·show low + 2 ^ e <= num
   omega
  ·show num < low + 2 ^ e + 2 ^ e
   omega
def delAt (ns : List Int) (pl : Nat) : List Int := ns.take pl ++ ns.drop (pl + 1)
theorem q488 {ns : List Int} {pl : Nat} (h : pl < ns.length) : (delAt ns pl).length + 1 = ns.length := by
 unfold delAt
 rw [List.length_append, List.length_take, List.length_drop]
 omega
theorem del_map (f : Int -> Int) (ns : List Int) (pl : Nat) : (delAt ns pl).map f = (ns.map f).take pl ++ (ns.map f).drop (pl + 1) := by
 unfold delAt
 rw [List.map_append, List.map_take, List.map_drop]
theorem q395 {ns : List Int} {pl : Nat} {x : Int} (h : ns[pl]? = some x) : ns.drop pl = x :: ns.drop (pl + 1) := by
 obtain ⟨h1, h2⟩ := List.getElem?_eq_some_iff.mp h
 rw [<- h2]
 exact List.drop_eq_getElem_cons h1
theorem del_in {p : Int -> Bool} {ns : List Int} {pl : Nat} {x : Int} (hx : ns[pl]? = some x) (h : p x = true) : (delAt ns pl).filter p = delAt (ns.filter p) ((ns.take pl).countP p) := by
 have e := q226 p ns pl
 rw [q395 hx, List.filter_cons, if_pos h] at e
 have e2 : (ns.filter p).drop ((ns.take pl).countP p + 1) = (ns.drop (pl + 1)).filter p := by simpa [List.drop_drop, Nat.add_comm] using congrArg (List.drop 1) e
 unfold delAt
 rw [q316, List.filter_append, e2]
theorem q656 {p : Int -> Bool} {ns : List Int} {pl : Nat} {x : Int} (hx : ns[pl]? = some x) (h : ¬ p x = true) : (delAt ns pl).filter p = ns.filter p := by
 have e := q183 p ns pl
 rw [q395 hx, List.filter_cons, if_neg h] at e
 unfold delAt
 rw [List.filter_append, e]
theorem del_wths {low : Int} {L : Nat} {ns : List Int} {pl : Nat} (h : Wths low L ns) : Wths low L (delAt ns pl) := fun y hy => by
 unfold delAt at hy
 rcases List.mem_append.mp hy with z | z
 ·exact h y (List.mem_of_mem_take z)
 ·exact h y (List.mem_of_mem_drop z)
theorem filt_get {p : Int -> Bool} {ns : List Int} {pl : Nat} {x : Int} (hx : ns[pl]? = some x) (h : p x = true) : (ns.filter p)[(ns.take pl).countP p]? = some x := by
 have e := q226 p ns pl
 rw [q395 hx, List.filter_cons, if_pos h] at e
 have z := congrArg (fun l => l[0]?) e
 simpa [List.getElem?_drop] using z
theorem grow_del {low : Int} {e : Nat} {ns : List Int} {pl : Nat} {x mk : Int} (hx : ns[pl]? = some x) (h2 : delAt ns pl ≠ []) (hk : mkOf (low + 2 ^ e) x = mk) : grow low (e + 1) (delAt ns pl) =
  .part ((ns.map (mkOf (low + 2 ^ e))).take pl ++ (ns.map (mkOf (low + 2 ^ e))).drop (pl + 1))
   (if mk = 0 then grow (lowOf low e mk) e (delAt (ns.filter (hlf (low + 2 ^ e) mk)) ((ns.take pl).countP (hlf (low + 2 ^ e) mk))) else q162 (grow low (e + 1) ns) 0)
   (if mk = 0 then q162 (grow low (e + 1) ns) 1 else grow (lowOf low e mk) e (delAt (ns.filter (hlf (low + 2 ^ e) mk)) ((ns.take pl).countP (hlf (low + 2 ^ e) mk)))) := by
 rw [q32 h2, del_map]
 by_cases c : x < low + 2 ^ e
 ·rw [q393 c] at hk
  subst hk
  rw [if_pos rfl, if_pos rfl, q486, del_in (p := loI _) hx (decide_eq_true c), q656 (p := hiI _) hx (by intro z; have := of_decide_eq_true z; omega)]
  rfl
 ·rw [q394 c] at hk
  subst hk
  rw [if_neg (by decide), if_neg (by decide), q485, del_in (p := hiI _) hx (decide_eq_true (by omega)), q656 (p := loI _) hx (by intro z; exact c (of_decide_eq_true z))]
  rfl
theorem ins_del {ns : List Int} {pl : Nat} {x : Int} (h : pl < ns.length) : insAt (delAt ns pl) pl x = ns.take pl ++ x :: ns.drop (pl + 1) := by
 have e1 : (ns.take pl).length = pl := by rw [List.length_take]; omega
 unfold insAt delAt
 rw [List.take_append_of_le_length (by omega), List.drop_append_of_le_length (by omega), List.take_of_length_le (by omega), List.drop_of_length_le (by omega)]
 rfl
theorem q148 (ms : List Int) (k : Nat) : cutV (ms.map V.int) (some (k : Int)) none = (ms.drop k).map V.int := by
 unfold cutV
 rw [HT.q685, HT.q684, List.map_drop]
 by_cases h : k <= (ms.map V.int).length
 ·rw [Nat.min_eq_left h]
  exact List.take_of_length_le (by rw [List.length_drop]; exact Nat.le_refl _)
 ·have h' : (ms.map V.int).length <= k := by omega
  rw [Nat.min_eq_right h', List.drop_of_length_le h', List.drop_of_length_le (Nat.le_refl _)]
  exact List.take_nil
theorem q100 (d : Int) : ∀ (e : Nat) (low : Int) (ns : List Int), grow (low + d) e (ns.map fun n => n + d) = grow low e ns
 | 0, low, ns => by
  by_cases h : ns = []
  ·rw [h]; rfl
  ·rw [q31 h, q31 (by simpa using h), List.length_map]
 | e + 1, low, ns => by
  by_cases h : ns = []
  ·rw [h]; rfl
  ·have h2 : (ns.map fun n => n + d) ≠ [] := by simpa using h
   rw [q32 h, q32 h2]
   have e1 : (ns.map fun n => n + d).map (mkOf (low + d + 2 ^ e)) = ns.map (mkOf (low + 2 ^ e)) := by
    rw [List.map_map]
    refine List.map_congr_left fun n _ => ?_
    show (if n + d < low + d + 2 ^ e then (0 : Int) else 1) = if n < low + 2 ^ e then 0 else 1
    by_cases c : n < low + 2 ^ e
    ·rw [if_pos c, if_pos (by omega)]
    ·rw [if_neg c, if_neg (by omega)]
   have e2 : (ns.map fun n => n + d).filter (loI (low + d + 2 ^ e)) = (ns.filter (loI (low + 2 ^ e))).map fun n => n + d := by
    rw [List.filter_map]
    congr 1
    refine List.filter_congr fun n _ => ?_
    show decide (n + d < low + d + 2 ^ e) = decide (n < low + 2 ^ e)
    by_cases c : n < low + 2 ^ e
    ·rw [decide_eq_true c, decide_eq_true (by omega)]
    ·rw [decide_eq_false c, decide_eq_false (by omega)]
   have e3 : (ns.map fun n => n + d).filter (hiI (low + d + 2 ^ e)) = (ns.filter (hiI (low + 2 ^ e))).map fun n => n + d := by
    rw [List.filter_map]
    congr 1
    refine List.filter_congr fun n _ => ?_
    show decide (low + d + 2 ^ e <= n + d) = decide (low + 2 ^ e <= n)
    by_cases c : low + 2 ^ e <= n
    ·rw [decide_eq_true c, decide_eq_true (by omega)]
    ·rw [decide_eq_false c, decide_eq_false (by omega)]
   rw [e1, e2, e3, q100 d e, show low + d + 2 ^ e = (low + 2 ^ e) + d by omega, q100 d e]
def flp (low : Int) (e : Nat) (n : Int) : Int := 2 * low + 2 ^ e - 1 - n
theorem flp_mk (low : Int) (e : Nat) (ns : List Int) : (ns.map (flp low (e + 1))).map (mkOf (low + 2 ^ e)) = (ns.map (mkOf (low + 2 ^ e))).map fun m => 1 - m := by
 rw [List.map_map, List.map_map]
 refine List.map_congr_left fun n _ => ?_
 show (if flp low (e + 1) n < low + 2 ^ e then (0 : Int) else 1) = 1 - if n < low + 2 ^ e then 0 else 1
 unfold flp
 have p : (2 : Int) ^ (e + 1) = 2 * 2 ^ e := by rw [Int.pow_succ]; omega
 by_cases c : n < low + 2 ^ e
 ·rw [if_pos c, if_neg (by omega)]; rfl
 ·rw [if_neg c, if_pos (by omega)]; rfl
theorem flp_lo (low : Int) (e : Nat) (ns : List Int) : grow low e ((ns.map (flp low (e + 1))).filter (loI (low + 2 ^ e))) = grow (low + 2 ^ e) e ((ns.filter (hiI (low + 2 ^ e))).map (flp (low + 2 ^ e) e)) := by
 have p : (2 : Int) ^ (e + 1) = 2 * 2 ^ e := by rw [Int.pow_succ]; omega
 rw [<- q100 (2 ^ e) e low]
 congr 1
 rw [List.filter_map, List.map_map]
 have e1 : ns.filter (loI (low + 2 ^ e) ∘ flp low (e + 1)) = ns.filter (hiI (low + 2 ^ e)) := List.filter_congr fun n _ => by
  show decide (flp low (e + 1) n < low + 2 ^ e) = decide (low + 2 ^ e <= n)
  unfold flp
  by_cases c : low + 2 ^ e <= n
  ·rw [decide_eq_true c, decide_eq_true (by omega)]
  ·rw [decide_eq_false c, decide_eq_false (by omega)]
 rw [e1]
 refine List.map_congr_left fun n _ => ?_
 show flp low (e + 1) n + 2 ^ e = flp (low + 2 ^ e) e n
 unfold flp
 omega
theorem flp_hi (low : Int) (e : Nat) (ns : List Int) : grow (low + 2 ^ e) e ((ns.map (flp low (e + 1))).filter (hiI (low + 2 ^ e))) = grow low e ((ns.filter (loI (low + 2 ^ e))).map (flp low e)) := by
 have p : (2 : Int) ^ (e + 1) = 2 * 2 ^ e := by rw [Int.pow_succ]; omega
 rw [<- q100 (2 ^ e) e low]
 congr 1
 rw [List.filter_map, List.map_map]
 have e1 : ns.filter (hiI (low + 2 ^ e) ∘ flp low (e + 1)) = ns.filter (loI (low + 2 ^ e)) := List.filter_congr fun n _ => by
  show decide (low + 2 ^ e <= flp low (e + 1) n) = decide (n < low + 2 ^ e)
  unfold flp
  by_cases c : n < low + 2 ^ e
  ·rw [decide_eq_true c, decide_eq_true (by omega)]
  ·rw [decide_eq_false c, decide_eq_false (by omega)]
 rw [e1]
 refine List.map_congr_left fun n _ => ?_
 show flp low (e + 1) n = flp low e n + 2 ^ e
 unfold flp
 omega
theorem q253 : ∀ (e : Nat) (os : List Int), growO e os = grow 0 e os
 | 0, os => rfl
 | e + 1, os => by
  by_cases h : os = []
  ·rw [h, q130, q45]
  ·rw [q80 h, q216 h, q253 e, q253 e]
   have z : (0 : Int) + 2 ^ e = 2 ^ e := Int.zero_add _
   rw [z]
   have e2 := q100 (2 ^ e) e 0 ((os.filter fun o => decide ((2 : Int) ^ e <= o)).map fun o => o - 2 ^ e)
   rw [List.map_map, z] at e2
   have e3 : ((os.filter fun o => decide ((2 : Int) ^ e <= o)).map ((fun n => n + 2 ^ e) ∘ fun o => o - 2 ^ e)) = os.filter fun o => decide ((2 : Int) ^ e <= o) := by
    rw [show ((fun n : Int => n + 2 ^ e) ∘ fun o => o - 2 ^ e) = id from funext fun o => by show o - 2 ^ e + 2 ^ e = o; omega, List.map_id]
   rw [e3] at e2
   rw [<- e2]
   rfl
theorem q149 (low : Int) (e : Nat) (ns : List Int) : grow low e ns = growO e (ns.map fun n => n - low) := by
 rw [q253, <- q100 low e 0, List.map_map, Int.zero_add]
 congr 1
 rw [show ((fun n : Int => n + low) ∘ fun n => n - low) = id from funext fun o => by show o - low + low = o; omega, List.map_id]
theorem off_mk (low : Int) (e : Nat) (ns : List Int) : (ns.map fun n => n - low).map (mk0 e) = ns.map (mkOf (low + 2 ^ e)) := by
 rw [List.map_map]
 refine List.map_congr_left fun n _ => ?_
 show (if n - low < 2 ^ e then (0 : Int) else 1) = if n < low + 2 ^ e then 0 else 1
 by_cases c : n < low + 2 ^ e
 ·rw [if_pos c, if_pos (by omega)]
 ·rw [if_neg c, if_neg (by omega)]
theorem q657 {low : Int} {e : Nat} {ns : List Int} (h : Wths low e ns) : InO e (ns.map fun n => n - low) := fun o ho => by
 obtain ⟨n, hn, rfl⟩ := List.mem_map.mp ho
 have := h n hn
 omega
theorem half_off {low mk : Int} {e : Nat} {ns : List Int} (hw : Wths low (e + 1) ns) (hmk : mk = 0 \/ mk = 1) : halfO e mk (ns.map fun n => n - low) = (ns.filter (hlf (low + 2 ^ e) mk)).map fun n => n - lowOf low e mk := by
 have p : (2 : Int) ^ (e + 1) = 2 * 2 ^ e := by rw [Int.pow_succ]; omega
 unfold halfO
 rw [List.filter_map, List.map_map]
 have e1 : ns.filter ((fun o => mk0 e o == mk) ∘ fun n => n - low) = ns.filter (hlf (low + 2 ^ e) mk) := List.filter_congr fun n hn => by
  show ((if n - low < 2 ^ e then (0 : Int) else 1) == mk) = hlf (low + 2 ^ e) mk n
  rcases hmk with rfl | rfl
  ·show _ = decide (n < low + 2 ^ e)
   by_cases c : n < low + 2 ^ e
   ·rw [if_pos (by omega), decide_eq_true c]; rfl
   ·rw [if_neg (by omega), decide_eq_false c]; rfl
  ·show _ = decide (low + 2 ^ e <= n)
   by_cases c : low + 2 ^ e <= n
   ·rw [if_neg (by omega), decide_eq_true c]; rfl
   ·rw [if_pos (by omega), decide_eq_false c]; rfl
 rw [e1]
 refine List.map_congr_left fun n hn => ?_
 obtain ⟨hn, hf⟩ := List.mem_filter.mp hn
 have hwn := hw n hn
 show (n - low) % 2 ^ e = n - lowOf low e mk
 have hp := p2pos e
 rcases hmk with rfl | rfl
 ·have c : n < low + 2 ^ e := of_decide_eq_true hf
  show _ = n - low
  exact Int.emod_eq_of_lt (by omega) (by omega)
 ·have c : low + 2 ^ e <= n := of_decide_eq_true hf
  show _ = n - (low + 2 ^ e)
  rw [<- Int.sub_emod_right, Int.emod_eq_of_lt (by omega) (by omega)]
  omega
theorem q658 {K : PySem.W.Frag} {H : Hp} {Q : V -> Hp -> Prop} {sa wy : Addr} {v : V} {st en : Nat} {low mk : Int} {e : Nat} {ns : List Int} (hs : H sa = some (.tup [v, .int (st : Int), .int (en : Int)])) (hwy : SqT K H wy [.int mk]) (hmk : mk = 0 \/ mk = 1)
  (ht : q25 H v (grow low (e + 1) ns)) (hw : Wths low (e + 1) ns) (h1 : st <= en) (h2 : en <= ns.length) (hl : ns.length <= 300)
  (q : ∀ (p : Addr) (u : V) (H' : Hp), Same H H' -> H' p = some (.tup [u, .int ((ns.take st).countP (hlf (low + 2 ^ e) mk) : Nat), .int ((ns.take en).countP (hlf (low + 2 ^ e) mk) : Nat)]) -> q25 H' u (grow (lowOf low e mk) e (ns.filter (hlf (low + 2 ^ e) mk))) -> Q (.ref p) H') (E) :
  q66 K [.ref sa, .ref wy] H Q E := by
 refine ⟨.ref sa, wy, e + 1, [mk], (ns.map fun n => n - low, st, en), rfl, ⟨sa, v, rfl, hs, by rw [<- q149]; exact ht⟩, ⟨q657 hw, h1, by rw [List.length_map]; exact h2, by rw [List.length_map]; exact hl⟩, hwy, by simp, fun m hm => by rw [List.mem_singleton.mp hm]; exact hmk, fun H' v' s' hv' => ?_⟩
 obtain ⟨p, u, rfl, hp, hu⟩ := hv'
 rw [q73, q60] at hp hu
 have c : ∀ k : Nat, (((ns.map fun n => n - low).map (mk0 e)).take k).count mk = (ns.take k).countP (hlf (low + 2 ^ e) mk) := fun k => by rw [off_mk, q275 hmk]
 refine q p u H' s' ?_ ?_
 ·rw [<- c, <- c]
  exact hp
 ·rw [q149, <- half_off hw hmk]
  exact hu
def segI (ns : List Int) (st en : Nat) : List Int := (ns.take en).drop st
theorem seg_len {ns : List Int} {st en : Nat} (h : en <= ns.length) : (segI ns st en).length = en - st := by
 unfold segI
 rw [List.length_drop, List.length_take]
 omega
theorem seg_map (f : Int -> Int) (ns : List Int) (st en : Nat) : (segI ns st en).map f = ((ns.map f).take en).drop st := by
 unfold segI
 rw [List.map_drop, List.map_take]
theorem take_le {ns : List Int} {st en : Nat} (h : st <= en) : (ns.take en).take st = ns.take st := by
 rw [List.take_take, Nat.min_eq_left h]
theorem q352 (p : Int -> Bool) {ns : List Int} {st en : Nat} (h : st <= en) : (segI ns st en).filter p = segI (ns.filter p) ((ns.take st).countP p) ((ns.take en).countP p) := by
 have e := q226 p (ns.take en) st
 rw [take_le h] at e
 unfold segI
 rw [q316, e]
theorem cnt_le (p : Int -> Bool) (ns : List Int) (en : Nat) : (ns.take en).countP p <= (ns.filter p).length := by
 rw [<- List.countP_eq_length_filter]
 exact List.Sublist.countP_le (List.take_sublist _ _)
theorem q276 {low : Int} {e : Nat} {ns : List Int} {H : Hp} (h : q25 H .non (grow low e ns)) : ns = [] := by
 by_cases z : ns = []
 ·exact z
 ·cases e with
  | zero => rw [q31 z] at h; obtain ⟨a, e1, _⟩ := h; cases e1
  | succ e => rw [q32 z] at h; obtain ⟨a, m, x, y, e1, _⟩ := h; cases e1
theorem q489 (ms : List Int) (st en : Nat) (h : st <= en) (h2 : en <= ms.length) : cutV (ms.map V.int) (some (st : Int)) (some (en : Int)) = ((ms.take en).drop st).map V.int := by
 unfold cutV
 rw [HT.q685, HT.q685, List.length_map, Nat.min_eq_left h2, Nat.min_eq_left (Nat.le_trans h h2), List.map_drop, List.map_take, List.drop_take]
abbrev q254 : Nat := 2
abbrev q353 : Nat := 40
abbrev q318 : Nat := 43
inductive ispe_cut_out (K : PySem.W.Frag) (e : Nat) (vs : List V) (H : Hp) (Q : VK) (E : XK) : Prop
 | mk (sa : Addr) (v : V) (st en : Nat) (low : Int) (ns : List Int) (hz0 : vs = [.ref sa]) (hz1 : H sa = some (.tup [v, .int (st : Int), .int (en : Int)])) (hz2 : q25 H v (grow low e ns)) (hz3 : Wths low e ns) (hz4 : st <= en) (hz5 : en <= ns.length) (hz6 : ns.length <= 300) (hz7 : ∀ (u : V) (H' : Hp), Same H H' -> q25 H' u (grow low e (segI ns st en)) -> Q u H') : ispe_cut_out K e vs H Q E
def q319 (K : PySem.W.Frag) (e : Nat) : Sp := ispe_cut_out K e
def q255 (K : PySem.W.Frag) : Sp := fun vs H Q E => ∃ e, e <= q353 /\ q319 K e vs H Q E
abbrev q659 : Nat := 0
abbrev q450 : Nat := 40
abbrev q396 : Nat := 41
inductive ispe_joined (u0 : PySem.W.Frag) (e : Nat) (vs : List V) (H : Hp) (Q : VK) (E : XK) : Prop
 | mk (v w : V) (low : Int) (ns ms : List Int) (hz0 : vs = [v, w]) (hz1 : q25 H v (grow low e ns)) (hz2 : q25 H w (grow low e ms)) (hz3 : ns.length <= 450) (hz4 : ms.length <= 450) (hz5 : ∀ (u : V) (H' : Hp), Same H H' -> q25 H' u (grow low e (ns ++ ms)) -> Q u H') : ispe_joined u0 e vs H Q E
def q354 (u0 : PySem.W.Frag) (e : Nat) : Sp := ispe_joined u0 e
def q320 (K : PySem.W.Frag) : Sp := fun vs H Q E => ∃ e, e <= q450 /\ q354 K e vs H Q E
section
variable {P : Program} {w : World} {K : PySem.W.Frag} {mg : Str -> Option Value} {base : Heap}
theorem q571 (d : Def K mg "cut_out" q299 ["stretch"]) (z : Bz mg) (c_led_stretch : Cal P w K mg base q61 "led_stretch" ["stretch", "way"] (q66 K)) : Cal P w K mg base q318 "cut_out" ["stretch"] (q255 K) := by
 have sc := q558
 refine d.recur (k := q254) (sp := q319 K) q353 fun e hen c_cut_out f fd F => F.ok sc (fun vs H Q E h => ?_) (fun cdv A outer s H vs Q E hr h => ?_)
 ·obtain ⟨sa, v, st, en, low, ns, rfl, _⟩ := h
  rfl
 obtain ⟨sa, v, st, en, low, ns, rfl, hs, ht, hw, h1, h2, hl, q⟩ := h
 have hsq : SqT K H sa [v, .int (st : Int), .int (en : Int)] := SqT.of hs
 refine ⟨_, (q11 (q19 (i := 1) sc.nd rfl (Or.inl rfl) (pe_ix q22 (pv 0) q14 (fun _ _ => rfl)))
 (q11 (q19 (i := 2) sc.nd rfl (Or.inl rfl) (pe_ix q22 (pv 0) q14 (fun _ _ => rfl)))
 (q11 (q19 (i := 3) sc.nd rfl (Or.inl rfl) (pe_ix q22 (pv 0) q14 (fun _ _ => rfl)))
 (q11 (ps_if (q17 op_eq (pv 2) (pv 3) (q20 _))
 (q16 (q21 q63))
 q23)
 (q11 (ps_if (q17 op_eq (pe_ix q22 (pv 1) q14 (fun _ _ => rfl)) q47 (q20 _))
 (q16 (q21 (q27 (q10 q47 (q10 (pe_op q54 (pv 3) (pv 2)) q12)))))
 q23)
 (q11 (q19 (i := 4) sc.nd rfl (Or.inl rfl) (pe_fn c_cut_out (hr.mono (Nat.le_refl _)) (by rfl) (q10 (pe_fn c_led_stretch (hr.mono (Nat.le_trans (by decide : q61 <= q254) (Nat.le_add_left _ _))) (by rfl) (q10 (pv 0) (q10 (q27 (q10 q14 q12)) q12))) q12)))
 (q11 (q19 (i := 5) sc.nd rfl (Or.inl rfl) (pe_fn c_cut_out (hr.mono (Nat.le_refl _)) (by rfl) (q10 (pe_fn c_led_stretch (hr.mono (Nat.le_trans (by decide : q61 <= q254) (Nat.le_add_left _ _))) (by rfl) (q10 (pv 0) (q10 (q27 (q10 q14 q12)) q12))) q12)))
 (q16 (q21 (q27 (q10 q47 (q10 (q41 q157 (pe_ix q22 (pv 1) q14 (fun _ _ => rfl)) (q44 (pv 2)) (q44 (pv 3))) (q10 (pv 4) (q10 (pv 5) q12)))))))))))))), ?_⟩
 refine ⟨_, rfl, sa, _, _, _, rfl, rfl, hsq, rfl, ?_⟩
 refine ⟨_, rfl, sa, _, _, _, rfl, rfl, hsq, rfl, ?_⟩
 refine ⟨_, rfl, sa, _, _, _, rfl, rfl, hsq, rfl, ?_⟩
 have hsl := seg_len (st := st) h2
 refine ⟨_, rfl, _, rfl, rfl, _, rfl, ?_⟩
 refine ite2 (fun c => ?_) (fun c => ?_)
 ·have c' : (st : Int) = (en : Int) := V.int.inj (of_decide_eq_true c)
  have e0 : segI ns st en = [] := List.eq_nil_of_length_eq_zero (by omega)
  refine q .non H (Same.refl H) ?_
  rw [e0, q45]
  rfl
 ·have c' : st ≠ en := fun z => c (decide_eq_true (by rw [z]))
  have hne : ns ≠ [] := fun z => by rw [z, List.length_nil] at h2; omega
  have hsne : segI ns st en ≠ [] := fun z => by rw [z, List.length_nil] at hsl; omega
  cases e with
  | zero =>
   have ht1 := ht
   rw [q31 hne] at ht1
   obtain ⟨a, rfl, ha⟩ := ht1
   refine ⟨_, rfl, a, _, _, _, rfl, rfl, SqT.of ha, rfl, rfl, _, rfl, ?_⟩
   refine ite2 (fun c => ?_) (fun c => absurd (decide_eq_true rfl) c)
   refine ⟨_, rfl, _, rfl, _, _, rfl, rfl, szb rfl, fun p hp => q _ _ (q15 hp _) ?_⟩
   rw [q31 hsne]
   refine ⟨p, rfl, ?_⟩
   rw [q13, hsl, show ((en - st : Nat) : Int) = (en : Int) - (st : Int) by omega]
  | succ e =>
   have ht1 := ht
   rw [q32 hne] at ht1
   obtain ⟨a, m, xl, xr, hv, ha, hm, _, _⟩ := ht1
   have hseg : grow low (e + 1) (segI ns st en) = .part (((ns.map (mkOf (low + 2 ^ e))).take en).drop st) (grow (lowOf low e 0) e (segI (ns.filter (hlf (low + 2 ^ e) 0)) ((ns.take st).countP (hlf (low + 2 ^ e) 0)) ((ns.take en).countP (hlf (low + 2 ^ e) 0)))) (grow (lowOf low e 1) e (segI (ns.filter (hlf (low + 2 ^ e) 1)) ((ns.take st).countP (hlf (low + 2 ^ e) 1)) ((ns.take en).countP (hlf (low + 2 ^ e) 1)))) := by
    rw [q32 hsne, seg_map, <- q352 _ h1, <- q352 _ h1]
    rfl
   rw [hseg] at q
   refine ⟨_, rfl, a, _, _, _, (by rw [hv]), rfl, SqT.of ha, rfl, rfl, _, rfl, ?_⟩
   refine ite2 (fun c => absurd (of_decide_eq_true c) (by decide)) (fun c => ?_)
   refine ⟨_, rfl, szb rfl, fun w0 hw0 => ?_⟩
   have s1 : Same H (upd H w0 (.tup [.int 0])) := q15 hw0 _
   refine q658 (s1 _ _ hs) (SqT.of q13) (.inl rfl) (ht.same s1) hw h1 h2 hl (fun p2 u2 H2 s2 hp2 hu2 => ?_) E
   refine ⟨p2, u2, _, _, lowOf low e 0, _, rfl, hp2, hu2, Wths.half hw (.inl rfl), q219 _ h1, cnt_le _ _ _, Nat.le_trans (List.length_filter_le _ _) hl, fun u3 H3 s3 hu3 => ?_⟩
   have s03 : Same H H3 := s1.trans (s2.trans s3)
   refine ⟨_, rfl, szb rfl, fun w4 hw4 => ?_⟩
   have s4 : Same H3 (upd H3 w4 (.tup [.int 1])) := q15 hw4 _
   have s04 := s03.trans s4
   refine q658 (s04 _ _ hs) (SqT.of q13) (.inr rfl) (ht.same s04) hw h1 h2 hl (fun p5 u5 H5 s5 hp5 hu5 => ?_) E
   refine ⟨p5, u5, _, _, lowOf low e 1, _, rfl, hp5, hu5, Wths.half hw (.inr rfl), q219 _ h1, cnt_le _ _ _, Nat.le_trans (List.length_filter_le _ _) hl, fun u6 H6 s6 hu6 => ?_⟩
   have s46 : Same H3 H6 := s4.trans (s5.trans s6)
   have s06 := s03.trans s46
   refine ⟨_, rfl, a, _, _, _, (by rw [hv]), rfl, SqT.of (s06 _ _ ha), rfl, _, rfl, _, rfl, _, rfl, _, rfl, m, _, rfl, hm.same s06, fun p7 H7 s7 h7 => ?_⟩
   rw [q489 _ _ _ h1 (by rw [List.length_map]; exact h2)] at h7
   refine ⟨_, rfl, _, rfl, szb rfl, fun p hp => q _ _ (s06.trans (s7.trans (q15 hp _))) ?_⟩
   have s8 : Same H7 (upd H7 p (.tup [.str "part", .ref p7, u3, u6])) := q15 hp _
   have s37 : Same H3 H7 := s46.trans s7
   exact ⟨p, p7, u3, u6, rfl, q13, h7.same s8, (hu3.same s37).same s8, (hu6.same s7).same s8⟩
theorem q660 (d : Def K mg "joined" q380 ["one", "other"]) (z : Bz mg)  : Cal P w K mg base q396 "joined" ["one", "other"] (q320 K) := by
 have sc := q636
 refine d.recur (k := q659) (sp := q354 K) q450 fun e hen c_joined f fd F => F.ok sc (fun vs H Q E h => ?_) (fun cdv A outer s H vs Q E hr h => ?_)
 ·obtain ⟨v, w, low, ns, ms, rfl, _⟩ := h
  rfl
 obtain ⟨v, w, low, ns, ms, rfl, hv, hw, hl, hl2, q⟩ := h
 refine ⟨_, (q11 (ps_if (q17 q156 (pv 0) q63 (q20 _))
 (q16 (q21 (pv 1)))
 q23)
 (q11 (ps_if (q17 q156 (pv 1) q63 (q20 _))
 (q16 (q21 (pv 0)))
 q23)
 (q11 (ps_if (q17 op_eq (pe_ix q22 (pv 0) q14 (fun _ _ => rfl)) q47 (q20 _))
 (q16 (q21 (q27 (q10 q47 (q10 (pe_op q29 (pe_ix q22 (pv 0) q14 (fun _ _ => rfl)) (pe_ix q22 (pv 1) q14 (fun _ _ => rfl))) q12)))))
 q23)
 (q16 (q21 (q27 (q10 q47 (q10 (pe_op q366 (pe_ix q22 (pv 0) q14 (fun _ _ => rfl)) (pe_ix q22 (pv 1) q14 (fun _ _ => rfl))) (q10 (pe_fn c_joined (hr.mono (Nat.le_refl _)) (by rfl) (q10 (pe_ix q22 (pv 0) q14 (fun _ _ => rfl)) (q10 (pe_ix q22 (pv 1) q14 (fun _ _ => rfl)) q12))) (q10 (pe_fn c_joined (hr.mono (Nat.le_refl _)) (by rfl) (q10 (pe_ix q22 (pv 0) q14 (fun _ _ => rfl)) (q10 (pe_ix q22 (pv 1) q14 (fun _ _ => rfl)) q12))) q12)))))))))), ?_⟩
 by_cases hn : ns = []
 ·subst hn
  rw [q45] at hv
  have hv' : v = .non := hv
  subst hv'
  refine ⟨_, rfl, rfl, _, rfl, ?_⟩
  refine ite2 (fun c => ?_) (fun c => absurd (decide_eq_true rfl) c)
  exact ⟨_, rfl, q w H (Same.refl H) hw⟩
 ·have hvn : v ≠ .non := fun z => by rw [z] at hv; exact hn (q276 hv)
  refine ⟨_, rfl, rfl, _, rfl, ?_⟩
  refine ite2 (fun c => absurd (of_decide_eq_true c) hvn) (fun _ => ?_)
  by_cases hm : ms = []
  ·subst hm
   rw [q45] at hw
   have hw' : w = .non := hw
   subst hw'
   refine ⟨_, rfl, rfl, _, rfl, ?_⟩
   refine ite2 (fun c => ?_) (fun c => absurd (decide_eq_true rfl) c)
   exact ⟨_, rfl, q v H (Same.refl H) (by rw [List.append_nil]; exact hv)⟩
  ·have hwn : w ≠ .non := fun z => by rw [z] at hw; exact hm (q276 hw)
   have hnm : ns ++ ms ≠ [] := fun z => hn (List.append_eq_nil_iff.mp z).1
   refine ⟨_, rfl, rfl, _, rfl, ?_⟩
   refine ite2 (fun c => absurd (of_decide_eq_true c) hwn) (fun _ => ?_)
   cases e with
   | zero =>
    rw [q31 hn] at hv
    rw [q31 hm] at hw
    obtain ⟨a, rfl, ha⟩ := hv
    obtain ⟨b, rfl, hb⟩ := hw
    refine ⟨_, rfl, a, _, _, _, rfl, rfl, SqT.of ha, rfl, rfl, _, rfl, ?_⟩
    refine ite2 (fun c => ?_) (fun c => absurd (decide_eq_true rfl) c)
    refine ⟨_, rfl, a, _, _, _, rfl, rfl, SqT.of ha, rfl, _, rfl, b, _, _, _, rfl, rfl, SqT.of hb, rfl, _, _, rfl, rfl, szb rfl, fun p hp => q _ _ (q15 hp _) ?_⟩
    rw [q31 hnm]
    refine ⟨p, rfl, ?_⟩
    rw [q13, List.length_append, Int.natCast_add]
   | succ e =>
    rw [q32 hn] at hv
    rw [q32 hm] at hw
    rw [q32 hnm, List.map_append, List.filter_append, List.filter_append] at q
    obtain ⟨a, m1, x1, y1, rfl, ha, hm1, hx1, hy1⟩ := hv
    obtain ⟨b, m2, x2, y2, rfl, hb, hm2, hx2, hy2⟩ := hw
    refine ⟨_, rfl, a, _, _, _, rfl, rfl, SqT.of ha, rfl, rfl, _, rfl, ?_⟩
    refine ite2 (fun c => absurd (of_decide_eq_true c) (by decide)) (fun c => ?_)
    refine ⟨_, rfl, a, _, _, _, rfl, rfl, SqT.of ha, rfl, _, rfl, b, _, _, _, rfl, rfl, SqT.of hb, rfl, m1, m2, _, _, rfl, rfl, hm1, hm2, sz (by simp only [List.length_map]; omega), fun p3 H3 s3 h3 => ?_⟩
    rw [<- List.map_append] at h3
    have ha3 := s3 _ _ ha
    have hb3 := s3 _ _ hb
    refine ⟨_, rfl, a, _, _, _, rfl, rfl, SqT.of ha3, rfl, _, rfl, b, _, _, _, rfl, rfl, SqT.of hb3, rfl, x1, x2, low, _, _, rfl, hx1.same s3, hx2.same s3, Nat.le_trans (List.length_filter_le _ _) hl, Nat.le_trans (List.length_filter_le _ _) hl2, fun u4 H4 s4 hu4 => ?_⟩
    have s34 := s3.trans s4
    refine ⟨_, rfl, a, _, _, _, rfl, rfl, SqT.of (s34 _ _ ha), rfl, _, rfl, b, _, _, _, rfl, rfl, SqT.of (s34 _ _ hb), rfl, y1, y2, low + 2 ^ e, _, _, rfl, hy1.same s34, hy2.same s34, Nat.le_trans (List.length_filter_le _ _) hl, Nat.le_trans (List.length_filter_le _ _) hl2, fun u5 H5 s5 hu5 => ⟨szb rfl, fun p hp => q _ _ (s34.trans (s5.trans (q15 hp _))) ?_⟩⟩
    have s6 : Same H5 (upd H5 p (.tup [.str "part", .ref p3, u4, u5])) := q15 hp _
    exact ⟨p, p3, u4, u5, rfl, q13, ((h3.same s4).same s5).same s6, (hu4.same s5).same s6, hu5.same s6⟩
end
abbrev q661 : Nat := 0
abbrev q451 : Nat := 40
abbrev q397 : Nat := 41
inductive ispe_turned (u0 : PySem.W.Frag) (e : Nat) (vs : List V) (H : Hp) (Q : VK) (E : XK) : Prop
 | mk (v : V) (low : Int) (ns : List Int) (hz0 : vs = [v]) (hz1 : q25 H v (grow low e ns)) (hz2 : ns.length <= 900) (hz3 : ∀ (u : V) (H' : Hp), Same H H' -> q25 H' u (grow low e ns.reverse) -> Q u H') : ispe_turned u0 e vs H Q E
def q355 (u0 : PySem.W.Frag) (e : Nat) : Sp := ispe_turned u0 e
def q321 (K : PySem.W.Frag) : Sp := fun vs H Q E => ∃ e, e <= q451 /\ q355 K e vs H Q E
abbrev q572 : Nat := 0
abbrev q356 : Nat := 40
abbrev q322 : Nat := 41
inductive ispe_flipped (u0 : PySem.W.Frag) (e : Nat) (vs : List V) (H : Hp) (Q : VK) (E : XK) : Prop
 | mk (v : V) (low : Int) (ns : List Int) (hz0 : vs = [v]) (hz1 : q25 H v (grow low e ns)) (hz2 : ns.length <= 900) (hz3 : ∀ (u : V) (H' : Hp), Same H H' -> q25 H' u (grow low e (ns.map (flp low e))) -> Q u H') : ispe_flipped u0 e vs H Q E
def q323 (u0 : PySem.W.Frag) (e : Nat) : Sp := ispe_flipped u0 e
def q256 (K : PySem.W.Frag) : Sp := fun vs H Q E => ∃ e, e <= q356 /\ q323 K e vs H Q E
section
variable {P : Program} {w : World} {K : PySem.W.Frag} {mg : Str -> Option Value} {base : Heap}
theorem q662 (d : Def K mg "turned" q381 ["tree"]) (z : Bz mg)  : Cal P w K mg base q397 "turned" ["tree"] (q321 K) := by
 have sc := q637
 refine d.recur (k := q661) (sp := q355 K) q451 fun e hen c_turned f fd F => F.ok sc (fun vs H Q E h => ?_) (fun cdv A outer s H vs Q E hr h => ?_)
 ·obtain ⟨v, low, ns, rfl, _⟩ := h
  rfl
 obtain ⟨v, low, ns, rfl, hv, hl, q⟩ := h
 refine ⟨_, (q11 (ps_if (PW.pt (pw_or (q17 q156 (pv 0) q63 (q20 _)) (q92 (q17 op_eq (pe_ix q22 (pv 0) q14 (fun _ _ => rfl)) q47 (q20 _)))))
 (q16 (q21 (pv 0)))
 q23)
 (q16 (q21 (q27 (q10 q47 (q10 (q625 rfl (K := K) rfl (by rfl) z.tuple_ (by rfl) z.reversed_ (q10 (pe_ix q22 (pv 0) q14 (fun _ _ => rfl)) q12)) (q10 (pe_fn c_turned (hr.mono (Nat.le_refl _)) (by rfl) (q10 (pe_ix q22 (pv 0) q14 (fun _ _ => rfl)) q12)) (q10 (pe_fn c_turned (hr.mono (Nat.le_refl _)) (by rfl) (q10 (pe_ix q22 (pv 0) q14 (fun _ _ => rfl)) q12)) q12)))))))), ?_⟩
 refine ⟨_, rfl, rfl, _, rfl, ?_⟩
 by_cases hn : ns = []
 ·subst hn
  rw [q45] at hv
  have hv' : v = .non := hv
  subst hv'
  refine ite2 (fun c => ?_) (fun c => absurd (decide_eq_true rfl) c)
  exact ⟨_, rfl, q _ H (Same.refl H) (by rw [List.reverse_nil, q45]; exact hv)⟩
 have hvn : v ≠ .non := fun z => by rw [z] at hv; exact hn (q276 hv)
 refine ite2 (fun c => absurd (of_decide_eq_true c) hvn) (fun _ => ?_)
 have hrn : ns.reverse ≠ [] := by simpa using hn
 cases e with
 | zero =>
  have hv0 := hv
  rw [q31 hn] at hv
  obtain ⟨a, rfl, ha⟩ := hv
  refine ⟨_, rfl, a, _, _, _, rfl, rfl, SqT.of ha, rfl, rfl, _, rfl, ?_⟩
  refine ite2 (fun c => ?_) (fun c => absurd (decide_eq_true rfl) c)
  refine ⟨_, rfl, q _ H (Same.refl H) ?_⟩
  rw [q31 hrn, List.length_reverse, <- q31 hn (low := low)]
  exact hv0
 | succ e =>
  rw [q32 hn] at hv
  rw [q32 hrn, List.map_reverse, List.filter_reverse, List.filter_reverse] at q
  obtain ⟨a, m, x, y, rfl, ha, hm, hx, hy⟩ := hv
  refine ⟨_, rfl, a, _, _, _, rfl, rfl, SqT.of ha, rfl, rfl, _, rfl, ?_⟩
  refine ite2 (fun c => absurd (of_decide_eq_true c) (by decide)) (fun c => ?_)
  refine ⟨_, rfl, a, _, _, _, rfl, rfl, SqT.of ha, rfl, m, _, rfl, hm.sq, by simp only [List.length_map]; omega, fun p3 H3 s3 h3 => ?_⟩
  rw [<- List.map_reverse] at h3
  refine ⟨_, rfl, a, _, _, _, rfl, rfl, SqT.of (s3 _ _ ha), rfl, x, low, _, rfl, hx.same s3, Nat.le_trans (List.length_filter_le _ _) hl, fun u4 H4 s4 hu4 => ?_⟩
  have s34 := s3.trans s4
  refine ⟨_, rfl, a, _, _, _, rfl, rfl, SqT.of (s34 _ _ ha), rfl, y, low + 2 ^ e, _, rfl, hy.same s34, Nat.le_trans (List.length_filter_le _ _) hl, fun u5 H5 s5 hu5 => ⟨szb rfl, fun p hp => q _ _ (s34.trans (s5.trans (q15 hp _))) ?_⟩⟩
  have s6 : Same H5 (upd H5 p (.tup [.str "part", .ref p3, u4, u5])) := q15 hp _
  exact ⟨p, p3, u4, u5, rfl, q13, ((h3.same s4).same s5).same s6, (hu4.same s5).same s6, hu5.same s6⟩
theorem q573 (d : Def K mg "flipped" q214 ["tree"]) (z : Bz mg)  : Cal P w K mg base q322 "flipped" ["tree"] (q256 K) := by
 have sc := q559
 refine d.recur (k := q572) (sp := q323 K) q356 fun e hen c_flipped f fd F => F.ok sc (fun vs H Q E h => ?_) (fun cdv A outer s H vs Q E hr h => ?_)
 ·obtain ⟨v, low, ns, rfl, _⟩ := h
  rfl
 obtain ⟨v, low, ns, rfl, hv, hl, q⟩ := h
 refine ⟨_, (q11 (ps_if (PW.pt (pw_or (q17 q156 (pv 0) q63 (q20 _)) (q92 (q17 op_eq (pe_ix q22 (pv 0) q14 (fun _ _ => rfl)) q47 (q20 _)))))
 (q16 (q21 (pv 0)))
 q23)
 (q16 (q21 (q27 (q10 q47 (q10 (q128 q135 (by rfl) z.tuple_ q268 (q10 (q232 (cl := []) (cn := []) (N := []) (fr := []) (sc0 := q18 q214) rfl (q494 (pe_ix q22 (pv 0) q14 (fun _ _ => rfl))) (fun C s₂ H₂ fp => (pe_op q54 q14 (pv 0))) (by with_unfolding_all rfl) trivial rfl rfl rfl ⟨by decide +kernel, by decide +kernel, by decide +kernel, by decide +kernel, by decide +kernel, by decide +kernel, by decide +kernel⟩ rfl) q12)) (q10 (pe_fn c_flipped (hr.mono (Nat.le_refl _)) (by rfl) (q10 (pe_ix q22 (pv 0) q14 (fun _ _ => rfl)) q12)) (q10 (pe_fn c_flipped (hr.mono (Nat.le_refl _)) (by rfl) (q10 (pe_ix q22 (pv 0) q14 (fun _ _ => rfl)) q12)) q12)))))))), ?_⟩
 refine ⟨_, rfl, rfl, _, rfl, ?_⟩
 by_cases hn : ns = []
 ·subst hn
  rw [q45] at hv
  have hv' : v = .non := hv
  subst hv'
  refine ite2 (fun c => ?_) (fun c => absurd (decide_eq_true rfl) c)
  exact ⟨_, rfl, q _ H (Same.refl H) (by rw [List.map_nil, q45]; exact hv)⟩
 have hvn : v ≠ .non := fun z => by rw [z] at hv; exact hn (q276 hv)
 refine ite2 (fun c => absurd (of_decide_eq_true c) hvn) (fun _ => ?_)
 have hrn : ns.map (flp low e) ≠ [] := by simpa using hn
 cases e with
 | zero =>
  have hv0 := hv
  rw [q31 hn] at hv
  obtain ⟨a, rfl, ha⟩ := hv
  refine ⟨_, rfl, a, _, _, _, rfl, rfl, SqT.of ha, rfl, rfl, _, rfl, ?_⟩
  refine ite2 (fun c => ?_) (fun c => absurd (decide_eq_true rfl) c)
  refine ⟨_, rfl, q _ H (Same.refl H) ?_⟩
  rw [q31 hrn, List.length_map, <- q31 hn (low := low)]
  exact hv0
 | succ e =>
  rw [q32 hn] at hv
  rw [q32 hrn, flp_mk, flp_lo, flp_hi] at q
  obtain ⟨a, m, x, y, rfl, ha, hm, hx, hy⟩ := hv
  refine ⟨_, rfl, a, _, _, _, rfl, rfl, SqT.of ha, rfl, rfl, _, rfl, ?_⟩
  refine ite2 (fun c => absurd (of_decide_eq_true c) (by decide)) (fun c => ?_)
  refine ⟨_, rfl, a, _, _, _, rfl, rfl, SqT.of ha, rfl, m, rfl, ⟨_, hm.sq⟩, fun D hD => ?_⟩
  refine comp_tup (xs := (ns.map (mkOf (low + 2 ^ e))).map V.int) (sz (by simp only [List.length_map]; omega)) (fun k ds H2 => H2 D = some (.lst ds) /\ ds.length = k /\ Same H H2 /\ ds = (((ns.map (mkOf (low + 2 ^ e))).take k).map fun m => 1 - m).map V.int) ⟨q13, rfl, q15 hD _, rfl⟩ (fun k ds H2 ⟨_, _, s2, _⟩ => (hm.same s2).sq) (fun k ds H2 ⟨e1, e2, _, _⟩ => ⟨e1, e2⟩) ?_ ?_
  ·rintro k x0 ds H2 hk ⟨e1, e2, s2, e4⟩
   obtain ⟨z, hz, rfl⟩ : ∃ z, (ns.map (mkOf (low + 2 ^ e)))[k]? = some z /\ x0 = .int z := by
    rw [List.getElem?_map] at hk
    cases eq : (ns.map (mkOf (low + 2 ^ e)))[k]? with
    | none => rw [eq] at hk; cases hk
    | some z => rw [eq] at hk; exact ⟨z, rfl, (Option.some.inj hk).symm⟩
   refine ⟨_, rfl, _, _, rfl, rfl, e1, q13, by rw [List.length_append, e2] <;> rfl, Same.own s2 hD, ?_⟩
   rw [List.take_add_one, hz, e4]
   simp
  rintro ds H2 ⟨e1, e2, s2, e4⟩
  rw [List.length_map, List.take_length] at e4
  subst e4
  refine ⟨D, _, rfl, SqL.of e1, fun p3 H3 s3' h3 => ?_⟩
  have s3 := s2.trans s3'
  refine ⟨_, rfl, a, _, _, _, rfl, rfl, SqT.of (s3 _ _ ha), rfl, y, low + 2 ^ e, _, rfl, hy.same s3, Nat.le_trans (List.length_filter_le _ _) hl, fun u4 H4 s4 hu4 => ?_⟩
  have s34 := s3.trans s4
  refine ⟨_, rfl, a, _, _, _, rfl, rfl, SqT.of (s34 _ _ ha), rfl, x, low, _, rfl, hx.same s34, Nat.le_trans (List.length_filter_le _ _) hl, fun u5 H5 s5 hu5 => ⟨szb rfl, fun p hp => q _ _ (s34.trans (s5.trans (q15 hp _))) ?_⟩⟩
  have s6 : Same H5 (upd H5 p (.tup [.str "part", .ref p3, u4, u5])) := q15 hp _
  exact ⟨p, p3, u4, u5, rfl, q13, ((h3.same s4).same s5).same s6, (hu4.same s5).same s6, hu5.same s6⟩
end
abbrev q83 : Nat := 2
inductive isp_with_half (u0 : PySem.W.Frag) (vs : List V) (H : Hp) (Q : VK) (E : XK) : Prop
 | mk (m : Addr) (ms : List Int) (v : V) (t : Tr) (mk : Int) (u : V) (t' : Tr) (hz0 : vs = [.ref m, v, .int mk, u]) (hz1 : TupF H m (ms.map V.int)) (hz2 : q25 H v t) (hz3 : (mk = 0 \/ mk = 1)) (hz4 : q25 H u t') (hz5 : ∀ (p : Addr) (H' : Hp), Same H H' -> q25 H' (.ref p) (.part ms (if mk = 0 then t' else q162 t 0) (if mk = 0 then q162 t 1 else t')) -> Q (.ref p) H') : isp_with_half u0 vs H Q E
def q115 (u0 : PySem.W.Frag) : Sp := isp_with_half u0
abbrev q111 : Nat := 2
abbrev q324 : Nat := 40
abbrev q257 : Nat := 43
inductive ispe_with_way (u0 : PySem.W.Frag) (e : Nat) (vs : List V) (H : Hp) (Q : VK) (E : XK) : Prop
 | mk (v : V) (wy : Addr) (pl : Nat) (low num : Int) (ns : List Int) (hz0 : vs = [v, .ref wy, .int (pl : Int)]) (hz1 : q25 H v (grow low e ns)) (hz2 : TupF H wy ((wayW e (num - low)).map V.int)) (hz3 : low <= num) (hz4 : num < low + 2 ^ e) (hz5 : ns.length <= 900) (hz6 : ∀ (u : V) (H' : Hp), Same H H' -> q25 H' u (grow low e (insAt ns pl num)) -> Q u H') : ispe_with_way u0 e vs H Q E
def q263 (u0 : PySem.W.Frag) (e : Nat) : Sp := ispe_with_way u0 e
def q205 (K : PySem.W.Frag) : Sp := fun vs H Q E => ∃ e, e <= q324 /\ q263 K e vs H Q E
abbrev q277 : Nat := 44
inductive isp_put_in (K : PySem.W.Frag) (vs : List V) (H : Hp) (Q : VK) (E : XK) : Prop
 | mk (b : Addr) (v : V) (pl : Nat) (low num : Int) (L : Nat) (ns : List Int) (hz0 : vs = [.ref b, v, .int (pl : Int), .int num]) (hz1 : SqT K H b [.int low, .int (L : Int)]) (hz2 : L <= 40) (hz3 : q25 H v (grow low L ns)) (hz4 : pl <= ns.length) (hz5 : ns.length <= 900) (hz6 : low <= num) (hz7 : num < low + 2 ^ L) (hz8 : ∀ (u : V) (H' : Hp), Same H H' -> q25 H' u (grow low L (insAt ns pl num)) -> Q u H') : isp_put_in K vs H Q E
def q227 (K : PySem.W.Frag) : Sp := isp_put_in K
section
variable {P : Program} {w : World} {K : PySem.W.Frag} {mg : Str -> Option Value} {base : Heap}
theorem q452 (d : Def K mg "with_half" q190 ["marks", "tree", "turn", "half"]) (z : Bz mg) (c_half_of : Cal P w K mg base q57 "half_of" ["tree", "mark"] (q71 K)) : Cal P w K mg base q83 "with_half" ["marks", "tree", "turn", "half"] (q115 K) := by
 have sc := q426
 refine d.cal fun f fd F => F.ok sc (fun vs H Q E h => ?_) (fun cdv A outer s H vs Q E hr h => ?_)
 ·obtain ⟨m, ms, v, t, mk, u, t', rfl, _⟩ := h
  rfl
 obtain ⟨m, ms, v, t, mk, u, t', rfl, hm, ht, hmk, hu, q⟩ := h
 refine ⟨_, (q11 (ps_if (q17 op_eq (pv 2) q14 (q20 _))
 (q16 (q21 (q27 (q10 q47 (q10 (pv 0) (q10 (pv 3) (q10 (pe_fn c_half_of (hr.mono (by decide)) (by rfl) (q10 (pv 1) (q10 q14 q12))) q12)))))))
 q23)
 (q16 (q21 (q27 (q10 q47 (q10 (pv 0) (q10 (pe_fn c_half_of (hr.mono (by decide)) (by rfl) (q10 (pv 1) (q10 q14 q12))) (q10 (pv 3) q12)))))))), ?_⟩
 refine ⟨_, rfl, rfl, _, rfl, ?_⟩
 rcases hmk with rfl | rfl
 ·refine ite2 (fun c => ?_) (fun c => absurd (decide_eq_true rfl) c)
  refine ⟨_, rfl, _, rfl, _, rfl, v, t, 1, rfl, ht, .inr rfl, fun x hx => ⟨szb rfl, fun p hp => q p _ (q15 hp _) ?_⟩⟩
  have s1 : Same H (upd H p (.tup [.str "part", .ref m, u, x])) := q15 hp _
  exact ⟨p, m, u, x, rfl, q13, hm.same s1, hu.same s1, hx.same s1⟩
 ·refine ite2 (fun c => absurd (of_decide_eq_true c) (by decide)) (fun c => ?_)
  refine ⟨_, rfl, _, rfl, v, t, 0, rfl, ht, .inl rfl, fun x hx => ⟨_, rfl, szb rfl, fun p hp => q p _ (q15 hp _) ?_⟩⟩
  have s1 : Same H (upd H p (.tup [.str "part", .ref m, x, u])) := q15 hp _
  exact ⟨p, m, x, u, rfl, q13, hm.same s1, hx.same s1, hu.same s1⟩
theorem q490 (d : Def K mg "with_way" q241 ["tree", "way", "place"]) (z : Bz mg) (c_ahead : Cal P w K mg base q164 "ahead" ["marks", "mark", "place"] (q178 K)) (c_half_of : Cal P w K mg base q57 "half_of" ["tree", "mark"] (q71 K)) (c_size_of : Cal P w K mg base q65 "size_of" ["tree"] (q79 K)) (c_with_half : Cal P w K mg base q83 "with_half" ["marks", "tree", "turn", "half"] (q115 K)) : Cal P w K mg base q257 "with_way" ["tree", "way", "place"] (q205 K) := by
 have sc := q474
 refine d.recur (k := q111) (sp := q263 K) q324 fun e hen c_with_way f fd F => F.ok sc (fun vs H Q E h => ?_) (fun cdv A outer s H vs Q E hr h => ?_)
 ·obtain ⟨v, wy, pl, low, num, ns, rfl, _⟩ := h
  rfl
 obtain ⟨v, wy, pl, low, num, ns, rfl, ht, hw, n0, n1, hl, q⟩ := h
 refine ⟨_, (q11 (ps_if (q17 op_eq (q26 q24 (by rfl) z.len_ q62 (q10 (pv 1) q12)) q14 (q20 _))
 (q16 (q21 (q27 (q10 q47 (q10 (pe_op q29 (pe_fn c_size_of (hr.mono (Nat.le_trans (by decide : q65 <= q111) (Nat.le_add_left _ _))) (by rfl) (q10 (pv 0) q12)) q14) q12)))))
 q23)
 (q11 (q19 (i := 3) sc.nd rfl (Or.inl rfl) (pe_ix q22 (pv 1) q14 (fun _ _ => rfl)))
 (q11 (q19 (i := 4) sc.nd rfl (Or.inl rfl) (q358 (q17 q156 (pv 0) q63 (q20 _)) (q604 q12) (pe_ix q22 (pv 0) q14 (fun _ _ => rfl))))
 (q11 (q19 (i := 5) sc.nd rfl (Or.inl rfl) (pe_fn c_with_way (hr.mono (Nat.le_refl _)) (by rfl) (q10 (pe_fn c_half_of (hr.mono (Nat.le_trans (by decide : q57 <= q111) (Nat.le_add_left _ _))) (by rfl) (q10 (pv 0) (q10 (pv 3) q12))) (q10 (q41 q157 (pv 1) (q44 q14) q52) (q10 (pe_fn c_ahead (hr.mono (Nat.le_trans (by decide : q164 <= q111) (Nat.le_add_left _ _))) (by rfl) (q10 (pv 4) (q10 (pv 3) (q10 (pv 2) q12)))) q12)))))
 (q16 (q21 (pe_fn c_with_half (hr.mono (Nat.le_trans (by decide : q83 <= q111) (Nat.le_add_left _ _))) (by rfl) (q10 (pe_op q366 (pe_op q366 (q41 q157 (pv 4) q52 (q44 (pv 2))) (q604 (q10 (pv 3) q12))) (q41 q157 (pv 4) (q44 (pv 2)) q52)) (q10 (pv 0) (q10 (pv 3) (q10 (pv 5) q12))))))))))), ?_⟩
 refine ⟨_, rfl, wy, _, rfl, .inr hw.sq, rfl, _, rfl, ?_⟩
 cases e with
 | zero =>
  refine ite2 (fun c => ?_) (fun c => absurd (decide_eq_true rfl) c)
  refine ⟨_, rfl, v, _, rfl, ht, _, _, rfl, rfl, szb rfl, fun p hp => q _ _ (q15 hp _) ?_⟩
  rw [q31 (ins_ne ns pl num), q487]
  refine ⟨p, rfl, ?_⟩
  rw [q13, q306]
  rfl
 | succ e =>
  obtain ⟨hwy, l0, l1⟩ := way_half n0 n1
  rw [hwy] at hw
  rw [grow_ins low e ns pl num _ rfl] at q
  have hmk := mk01 (low + 2 ^ e) num
  refine ite2 (fun c => ?_) (fun _ => ?_)
  ·exfalso
   have := V.int.inj (of_decide_eq_true c)
   rw [List.length_map, q113] at this
   omega
  generalize mkOf (low + 2 ^ e) num = mk at *
  have h0at : atI ((mk :: wayW e (num - lowOf low e mk)).map V.int) 0 = some (.int mk) := by
   show atI _ ((0 : Nat) : Int) = _
   exact q69 rfl
  refine ⟨_, rfl, wy, _, _, _, rfl, rfl, hw.sq, h0at, ?_⟩
  by_cases hns : ns = []
  ·have hv : v = .non := by
    rw [hns, q45] at ht
    exact ht
   subst hv
   refine ⟨_, rfl, rfl, _, rfl, ?_⟩
   refine ite2 (fun c => ?_) (fun c => absurd (decide_eq_true rfl) c)
   refine ⟨szb rfl, fun m H1 s1 hm0 => ?_⟩
   have hm : TupF H1 m ((ns.map (mkOf (low + 2 ^ e))).map V.int) := by rw [hns]; exact hm0
   generalize V.non = v at *
   have ht1 := ht.same s1
   refine ⟨_, rfl, _, rfl, v, _, mk, rfl, ht1, hmk, fun h hh => ?_⟩
   rw [q317 hmk] at hh
   refine ⟨_, rfl, 1, rfl, wy, _, rfl, hw.same s1, fun w2 H2 s2 hw2 => ?_⟩
   rw [q390] at hw2
   have hm2 := hm.same s2
   refine ⟨_, rfl, _, rfl, _, rfl, m, ns.map (mkOf (low + 2 ^ e)), mk, pl, rfl, hm2, fun H3 s3 => ?_⟩
   refine ⟨h, w2, (ns.take pl).countP (hlf (low + 2 ^ e) mk), lowOf low e mk, num, ns.filter (hlf (low + 2 ^ e) mk), by rw [q275 hmk] <;> rfl, (hh.same s2).same s3, hw2.same s3, l0, l1, Nat.le_trans (List.length_filter_le _ _) hl, fun u H4 s4 hu => ?_⟩
   have hm4 := (hm2.same s3).same s4
   refine ⟨_, rfl, _, rfl, _, rfl, m, _, rfl, hm4, fun p5 H5 s5 h5 => ?_⟩
   rw [q95] at h5
   refine ⟨_, rfl, szb rfl, fun p6 H6 s6 h6 => ?_⟩
   refine ⟨p5, p6, _, _, rfl, rfl, h5.same s6, h6, sz (by simp only [List.length_map, List.length_take, List.length_cons, List.length_nil]; omega), fun p7 H7 s7 h7 => ?_⟩
   have hm7 := ((hm4.same s5).same s6).same s7
   refine ⟨_, rfl, _, rfl, _, rfl, m, _, rfl, hm7, fun p8 H8 s8 h8 => ?_⟩
   rw [q148] at h8
   refine ⟨p7, p8, _, _, rfl, rfl, h7.same s8, h8, sz (by simp only [List.length_append, List.length_map, List.length_take, List.length_drop, List.length_cons, List.length_nil]; omega), fun p9 H9 s9 h9 => ?_⟩
   have s49 : Same H4 H9 := s5.trans (s6.trans (s7.trans (s8.trans s9)))
   have s09 : Same H H9 := s1.trans (s2.trans (s3.trans (s4.trans s49)))
   have h9' : TupF H9 p9 (((ns.map (mkOf (low + 2 ^ e))).take pl ++ mk :: (ns.map (mkOf (low + 2 ^ e))).drop pl).map V.int) := by simpa using h9
   exact ⟨_, rfl, _, rfl, _, rfl, p9, _, v, _, mk, u, _, rfl, h9', ht.same s09, hmk, hu.same s49, fun p H10 s10 h10 => q _ _ (s09.trans s10) h10⟩
  ·have ht1 := ht
   rw [q32 hns] at ht1
   obtain ⟨a, m, x, y, hv, ha, hm, _, _⟩ := ht1
   subst hv
   refine ⟨_, rfl, rfl, _, rfl, ?_⟩
   refine ite2 (fun c => absurd (of_decide_eq_true c) (by intro z; cases z)) (fun c => ?_)
   refine ⟨_, rfl, a, _, _, _, rfl, rfl, SqT.of ha, rfl, ?_⟩
   have s1 := Same.refl H
   clear ha
   generalize V.ref a = v at *
   have ht1 := ht.same s1
   refine ⟨_, rfl, _, rfl, v, _, mk, rfl, ht1, hmk, fun h hh => ?_⟩
   rw [q317 hmk] at hh
   refine ⟨_, rfl, 1, rfl, wy, _, rfl, hw.same s1, fun w2 H2 s2 hw2 => ?_⟩
   rw [q390] at hw2
   have hm2 := hm.same s2
   refine ⟨_, rfl, _, rfl, _, rfl, m, ns.map (mkOf (low + 2 ^ e)), mk, pl, rfl, hm2, fun H3 s3 => ?_⟩
   refine ⟨h, w2, (ns.take pl).countP (hlf (low + 2 ^ e) mk), lowOf low e mk, num, ns.filter (hlf (low + 2 ^ e) mk), by rw [q275 hmk] <;> rfl, (hh.same s2).same s3, hw2.same s3, l0, l1, Nat.le_trans (List.length_filter_le _ _) hl, fun u H4 s4 hu => ?_⟩
   have hm4 := (hm2.same s3).same s4
   refine ⟨_, rfl, _, rfl, _, rfl, m, _, rfl, hm4, fun p5 H5 s5 h5 => ?_⟩
   rw [q95] at h5
   refine ⟨_, rfl, szb rfl, fun p6 H6 s6 h6 => ?_⟩
   refine ⟨p5, p6, _, _, rfl, rfl, h5.same s6, h6, sz (by simp only [List.length_map, List.length_take, List.length_cons, List.length_nil]; omega), fun p7 H7 s7 h7 => ?_⟩
   have hm7 := ((hm4.same s5).same s6).same s7
   refine ⟨_, rfl, _, rfl, _, rfl, m, _, rfl, hm7, fun p8 H8 s8 h8 => ?_⟩
   rw [q148] at h8
   refine ⟨p7, p8, _, _, rfl, rfl, h7.same s8, h8, sz (by simp only [List.length_append, List.length_map, List.length_take, List.length_drop, List.length_cons, List.length_nil]; omega), fun p9 H9 s9 h9 => ?_⟩
   have s49 : Same H4 H9 := s5.trans (s6.trans (s7.trans (s8.trans s9)))
   have s09 : Same H H9 := s1.trans (s2.trans (s3.trans (s4.trans s49)))
   have h9' : TupF H9 p9 (((ns.map (mkOf (low + 2 ^ e))).take pl ++ mk :: (ns.map (mkOf (low + 2 ^ e))).drop pl).map V.int) := by simpa using h9
   exact ⟨_, rfl, _, rfl, _, rfl, p9, _, v, _, mk, u, _, rfl, h9', ht.same s09, hmk, hu.same s49, fun p H10 s10 h10 => q _ _ (s09.trans s10) h10⟩
theorem q663 (d : Def K mg "put_in" q378 ["bounds", "tree", "place", "number"]) (z : Bz mg) (c_size_of : Cal P w K mg base q65 "size_of" ["tree"] (q79 K)) (c_way_of : Cal P w K mg base q222 "way_of" ["bounds", "number"] (q167 K)) (c_with_way : Cal P w K mg base q257 "with_way" ["tree", "way", "place"] (q205 K)) : Cal P w K mg base q277 "put_in" ["bounds", "tree", "place", "number"] (q227 K) := by
 have sc := q634
 refine d.cal fun f fd F => F.ok sc (fun vs H Q E h => ?_) (fun cdv A outer s H vs Q E hr h => ?_)
 ·obtain ⟨b, v, pl, low, num, L, ns, rfl, _⟩ := h
  rfl
 obtain ⟨b, v, pl, low, num, L, ns, rfl, hb, hL, ht, hpl, hl, n0, n1, q⟩ := h
 refine ⟨_, (q11 (ps_if (PW.pt (pw_or (q17 op_lt (pv 2) q14 (q20 _)) (q92 (q17 op_gt (pv 2) (pe_fn c_size_of (hr.mono (by decide)) (by rfl) (q10 (pv 1) q12)) (q20 _)))))
 (q16 q84)
 q23)
 (q16 (q21 (pe_fn c_with_way (hr.mono (by decide)) (by rfl) (q10 (pv 1) (q10 (pe_fn c_way_of (hr.mono (by decide)) (by rfl) (q10 (pv 0) (q10 (pv 3) q12))) (q10 (pv 2) q12))))))), ?_⟩
 refine ⟨_, rfl, _, _, rfl, rfl, _, rfl, ?_⟩
 refine ite2 (fun c => absurd (of_decide_eq_true c) (by omega)) (fun _ => ?_)
 refine ⟨_, rfl, _, rfl, v, _, rfl, ht, _, _, rfl, rfl, _, rfl, ?_⟩
 rw [q306]
 refine ite2 (fun c => absurd (of_decide_eq_true c) (by omega)) (fun _ => ?_)
 exact ⟨_, rfl, _, rfl, _, rfl, b, low, num, L, rfl, hb, hL, ⟨n0, by omega⟩, fun t H1 s1 ht1 => ⟨_, rfl, L, hL, v, t, pl, low, num, ns, rfl, ht.same s1, ht1, n0, n1, hl, fun u H2 s2 hu => q u H2 (s1.trans s2) hu⟩⟩
end
abbrev q134 : Nat := 2
abbrev q357 : Nat := 40
abbrev q325 : Nat := 43
inductive ispe_without (u0 : PySem.W.Frag) (e : Nat) (vs : List V) (H : Hp) (Q : VK) (E : XK) : Prop
 | mk (v : V) (pl : Nat) (low x : Int) (ns : List Int) (hz0 : vs = [v, .int (pl : Int)]) (hz1 : q25 H v (grow low e ns)) (hz2 : ns[pl]? = some x) (hz3 : ns.length <= 900) (hz4 : ∀ (u : V) (H' : Hp), Same H H' -> q25 H' u (grow low e (delAt ns pl)) -> Q u H') : ispe_without u0 e vs H Q E
def q326 (u0 : PySem.W.Frag) (e : Nat) : Sp := ispe_without u0 e
def q258 (K : PySem.W.Frag) : Sp := fun vs H Q E => ∃ e, e <= q357 /\ q326 K e vs H Q E
abbrev q150 : Nat := 44
inductive isp_taken_out (K : PySem.W.Frag) (vs : List V) (H : Hp) (Q : VK) (E : XK) : Prop
 | mk (b : Addr) (v : V) (pl : Nat) (low x : Int) (L : Nat) (ns : List Int) (hz0 : vs = [.ref b, v, .int (pl : Int)]) (hz1 : SqT K H b [.int low, .int (L : Int)]) (hz2 : L <= 40) (hz3 : q25 H v (grow low L ns)) (hz4 : Wths low L ns) (hz5 : ns[pl]? = some x) (hz6 : ns.length <= 900) (hz7 : ∀ (p : Addr) (u : V) (H' : Hp), Same H H' -> H' p = some (.tup [u, .int x]) -> q25 H' u (grow low L (delAt ns pl)) -> Q (.ref p) H') : isp_taken_out K vs H Q E
def q116 (K : PySem.W.Frag) : Sp := isp_taken_out K
section
variable {P : Program} {w : World} {K : PySem.W.Frag} {mg : Str -> Option Value} {base : Heap}
theorem q574 (d : Def K mg "without" q298 ["tree", "place"]) (z : Bz mg) (c_ahead : Cal P w K mg base q164 "ahead" ["marks", "mark", "place"] (q178 K)) (c_half_of : Cal P w K mg base q57 "half_of" ["tree", "mark"] (q71 K)) (c_size_of : Cal P w K mg base q65 "size_of" ["tree"] (q79 K)) (c_with_half : Cal P w K mg base q83 "with_half" ["marks", "tree", "turn", "half"] (q115 K)) : Cal P w K mg base q325 "without" ["tree", "place"] (q258 K) := by
 have sc := q557
 refine d.recur (k := q134) (sp := q326 K) q357 fun e hen c_without f fd F => F.ok sc (fun vs H Q E h => ?_) (fun cdv A outer s H vs Q E hr h => ?_)
 ·obtain ⟨v, pl, low, x, ns, rfl, _⟩ := h
  rfl
 obtain ⟨v, pl, low, x, ns, rfl, ht, hx, hl, q⟩ := h
 refine ⟨_, (q11 (ps_if (q17 op_eq (pe_fn c_size_of (hr.mono (Nat.le_trans (by decide : q65 <= q134) (Nat.le_add_left _ _))) (by rfl) (q10 (pv 0) q12)) q14 (q20 _))
 (q16 (q21 q63))
 q23)
 (q11 (ps_if (q17 op_eq (pe_ix q22 (pv 0) q14 (fun _ _ => rfl)) q47 (q20 _))
 (q16 (q21 (q27 (q10 q47 (q10 (pe_op q54 (pe_ix q22 (pv 0) q14 (fun _ _ => rfl)) q14) q12)))))
 q23)
 (q11 (q19 (i := 2) sc.nd rfl (Or.inl rfl) (pe_ix q22 (pv 0) q14 (fun _ _ => rfl)))
 (q11 (q19 (i := 3) sc.nd rfl (Or.inl rfl) (pe_ix q22 (pv 2) (pv 1) (fun _ _ => rfl)))
 (q11 (q19 (i := 4) sc.nd rfl (Or.inl rfl) (pe_fn c_without (hr.mono (Nat.le_refl _)) (by rfl) (q10 (pe_fn c_half_of (hr.mono (Nat.le_trans (by decide : q57 <= q134) (Nat.le_add_left _ _))) (by rfl) (q10 (pv 0) (q10 (pv 3) q12))) (q10 (pe_fn c_ahead (hr.mono (Nat.le_trans (by decide : q164 <= q134) (Nat.le_add_left _ _))) (by rfl) (q10 (pv 2) (q10 (pv 3) (q10 (pv 1) q12)))) q12))))
 (q16 (q21 (pe_fn c_with_half (hr.mono (Nat.le_trans (by decide : q83 <= q134) (Nat.le_add_left _ _))) (by rfl) (q10 (pe_op q366 (q41 q157 (pv 2) q52 (q44 (pv 1))) (q41 q157 (pv 2) (q44 (pe_op q29 (pv 1) q14)) q52)) (q10 (pv 0) (q10 (pv 3) (q10 (pv 4) q12)))))))))))), ?_⟩
 have hpl : pl < ns.length := (List.getElem?_eq_some_iff.mp hx).1
 have hdl := q488 hpl
 have hne : ns ≠ [] := fun z => by rw [z] at hpl; exact absurd hpl (Nat.not_lt_zero _)
 refine ⟨_, rfl, v, _, rfl, ht, rfl, _, rfl, ?_⟩
 rw [q306]
 refine ite2 (fun c => ?_) (fun c => ?_)
 ·have c' : ((ns.length : Nat) : Int) = 1 := V.int.inj (of_decide_eq_true c)
  have e0 : delAt ns pl = [] := List.eq_nil_of_length_eq_zero (by omega)
  refine q .non H (Same.refl H) ?_
  rw [e0, q45]
  rfl
 ·have c' : ns.length ≠ 1 := fun z => c (decide_eq_true (by rw [z]; rfl))
  have hdne : delAt ns pl ≠ [] := fun z => by rw [z, List.length_nil] at hdl; omega
  cases e with
  | zero =>
   have ht1 := ht
   rw [q31 hne] at ht1
   obtain ⟨a, rfl, ha⟩ := ht1
   refine ⟨_, rfl, a, _, _, _, rfl, rfl, SqT.of ha, rfl, rfl, _, rfl, ?_⟩
   refine ite2 (fun c => ?_) (fun c => absurd (decide_eq_true rfl) c)
   refine ⟨_, rfl, a, _, _, _, rfl, rfl, SqT.of ha, rfl, _, _, rfl, rfl, szb rfl, fun p hp => q _ _ (q15 hp _) ?_⟩
   rw [q31 hdne]
   refine ⟨p, rfl, ?_⟩
   rw [q13, show ((delAt ns pl).length : Int) = (ns.length : Int) - 1 by omega]
  | succ e =>
   have ht1 := ht
   rw [q32 hne] at ht1
   obtain ⟨a, m, xl, xr, rfl, ha, hm, _, _⟩ := ht1
   have gk : ((ns.map (mkOf (low + 2 ^ e))).map V.int)[pl]? = some (.int (mkOf (low + 2 ^ e) x)) := by rw [List.getElem?_map, List.getElem?_map, hx]; rfl
   have hmk := mk01 (low + 2 ^ e) x
   have hself := hlf_self (low + 2 ^ e) x
   rw [grow_del hx hdne rfl] at q
   generalize mkOf (low + 2 ^ e) x = mk at *
   refine ⟨_, rfl, a, _, _, _, rfl, rfl, SqT.of ha, rfl, rfl, _, rfl, ?_⟩
   refine ite2 (fun c => absurd (of_decide_eq_true c) (by decide)) (fun c => ?_)
   refine ⟨_, rfl, a, _, _, _, rfl, rfl, SqT.of ha, rfl, ?_⟩
   refine ⟨_, rfl, _, rfl, m, _, _, _, rfl, rfl, hm.sq, q69 gk, ?_⟩
   refine ⟨_, rfl, _, rfl, _, _, mk, rfl, ht, hmk, fun h hh => ?_⟩
   rw [q317 hmk] at hh
   refine ⟨_, rfl, _, rfl, _, rfl, m, ns.map (mkOf (low + 2 ^ e)), mk, pl, rfl, hm, fun H1 s1 => ?_⟩
   refine ⟨h, (ns.take pl).countP (hlf (low + 2 ^ e) mk), lowOf low e mk, x, ns.filter (hlf (low + 2 ^ e) mk), by rw [q275 hmk] <;> rfl, hh.same s1, filt_get hx hself, Nat.le_trans (List.length_filter_le _ _) hl, fun u H2 s2 hu => ?_⟩
   have hm2 := (hm.same s1).same s2
   refine ⟨_, rfl, _, rfl, _, rfl, m, _, rfl, hm2, fun p3 H3 s3 h3 => ?_⟩
   rw [q95] at h3
   refine ⟨_, rfl, _, rfl, _, _, rfl, rfl, _, rfl, m, _, rfl, hm2.same s3, fun p4 H4 s4 h4 => ?_⟩
   have h4' : TupF H4 p4 (((ns.map (mkOf (low + 2 ^ e))).drop (pl + 1)).map V.int) := by rw [<- q148]; exact h4
   refine ⟨p3, p4, _, _, rfl, rfl, h3.same s4, h4', sz (by simp only [List.length_map, List.length_take, List.length_drop]; omega), fun p5 H5 s5 h5 => ?_⟩
   have s25 : Same H2 H5 := s3.trans (s4.trans s5)
   have s05 : Same H H5 := s1.trans (s2.trans s25)
   rw [<- List.map_append] at h5
   exact ⟨_, rfl, _, rfl, _, rfl, p5, _, _, _, mk, u, _, rfl, h5, ht.same s05, hmk, hu.same s25, fun p H6 s6 h6 => q _ _ (s05.trans s6) h6⟩
theorem q453 (d : Def K mg "taken_out" q191 ["bounds", "tree", "place"]) (z : Bz mg) (c_number_at : Cal P w K mg base q109 "number_at" ["bounds", "tree", "place"] (q90 K)) (c_without : Cal P w K mg base q325 "without" ["tree", "place"] (q258 K)) : Cal P w K mg base q150 "taken_out" ["bounds", "tree", "place"] (q116 K) := by
 have sc := q427
 refine d.cal fun f fd F => F.ok sc (fun vs H Q E h => ?_) (fun cdv A outer s H vs Q E hr h => ?_)
 ·obtain ⟨b, v, pl, low, x, L, ns, rfl, _⟩ := h
  rfl
 obtain ⟨b, v, pl, low, x, L, ns, rfl, hb, hL, ht, hw, hx, hl, q⟩ := h
 refine ⟨_, (q11 (q19 (i := 3) sc.nd rfl (Or.inl rfl) (pe_fn c_number_at (hr.mono (by decide)) (by rfl) (q10 (pv 0) (q10 (pv 1) (q10 (pv 2) q12)))))
 (q16 (q21 (q27 (q10 (pe_fn c_without (hr.mono (by decide)) (by rfl) (q10 (pv 1) (q10 (pv 2) q12))) (q10 (pv 3) q12)))))), ?_⟩
 refine ⟨_, rfl, _, rfl, _, rfl, b, v, pl, x - low, low, L, ns.map fun n => n - low, rfl, hb, hL, by rw [<- q149]; exact ht, q657 hw, by rw [List.getElem?_map, hx]; rfl, fun H1 s1 => ?_⟩
 rw [show low + (x - low) = x by omega]
 refine ⟨_, rfl, _, rfl, L, hL, v, pl, low, x, ns, rfl, ht.same s1, hx, hl, fun u H2 s2 hu => ⟨_, rfl, szb rfl, fun p hp => ?_⟩⟩
 exact q p u _ (s1.trans (s2.trans (q15 hp _))) q13 (hu.same (q15 hp _))
end
abbrev q398 : Nat := 45
inductive isp_set_at (K : PySem.W.Frag) (vs : List V) (H : Hp) (Q : VK) (E : XK) : Prop
 | mk (b : Addr) (v : V) (pl : Nat) (low x num : Int) (L : Nat) (ns : List Int) (hz0 : vs = [.ref b, v, .int (pl : Int), .int num]) (hz1 : SqT K H b [.int low, .int (L : Int)]) (hz2 : L <= 40) (hz3 : q25 H v (grow low L ns)) (hz4 : Wths low L ns) (hz5 : ns[pl]? = some x) (hz6 : ns.length <= 900) (hz7 : low <= num) (hz8 : num < low + 2 ^ L) (hz9 : ∀ (u : V) (H' : Hp), Same H H' -> q25 H' u (grow low L (ns.take pl ++ num :: ns.drop (pl + 1))) -> Q u H') : isp_set_at K vs H Q E
def q327 (K : PySem.W.Frag) : Sp := isp_set_at K
section
variable {P : Program} {w : World} {K : PySem.W.Frag} {mg : Str -> Option Value} {base : Heap}
theorem q664 (d : Def K mg "set_at" q379 ["bounds", "tree", "place", "number"]) (z : Bz mg) (c_put_in : Cal P w K mg base q277 "put_in" ["bounds", "tree", "place", "number"] (q227 K)) (c_taken_out : Cal P w K mg base q150 "taken_out" ["bounds", "tree", "place"] (q116 K)) : Cal P w K mg base q398 "set_at" ["bounds", "tree", "place", "number"] (q327 K) := by
 have sc := q635
 refine d.cal fun f fd F => F.ok sc (fun vs H Q E h => ?_) (fun cdv A outer s H vs Q E hr h => ?_)
 ·obtain ⟨b, v, pl, low, x, num, L, ns, rfl, _⟩ := h
  rfl
 obtain ⟨b, v, pl, low, x, num, L, ns, rfl, hb, hL, ht, hw, hx, hl, n0, n1, q⟩ := h
 refine ⟨_, (q16 (q21 (pe_fn c_put_in (hr.mono (by decide)) (by rfl) (q10 (pv 0) (q10 (pe_ix q22 (pe_fn c_taken_out (hr.mono (by decide)) (by rfl) (q10 (pv 0) (q10 (pv 1) (q10 (pv 2) q12)))) q14 (fun _ _ => rfl)) (q10 (pv 2) (q10 (pv 3) q12))))))), ?_⟩
 have hpl : pl < ns.length := (List.getElem?_eq_some_iff.mp hx).1
 have hdl := q488 hpl
 rw [<- ins_del hpl] at q
 refine ⟨_, rfl, _, rfl, _, rfl, _, rfl, b, v, pl, low, x, L, ns, rfl, hb, hL, ht, hw, hx, hl, fun p u H1 s1 hp hu => ?_⟩
 exact ⟨p, _, _, _, rfl, rfl, SqT.of hp, rfl, _, rfl, _, rfl, b, u, pl, low, num, L, delAt ns pl, rfl, s1.seqT hb, hL, hu, by omega, by omega, n0, n1, fun u2 H2 s2 hu2 => q u2 H2 (s1.trans s2) hu2⟩
end
def muF (fl : Addr) : St -> Hp -> Nat := fun _ H => match H fl with
 | some (.lst ys) => 2000 - ys.length
 | _ => 0
theorem q665 {L : Nat} {low : Int} {us : List Int} (hin : InO L us) : (stp L low us).length <= us.length := by
 have h := few (part := 1) (W := 0) (by decide) (by decide) (caF 1 0 L low us) (fun p hp => by have := (q166 hin hp).2.2.1; omega)
 rw [q442] at h
 unfold stp
 omega
theorem q575 {ss : List P2} {f : P2 -> Bool} (h : ∀ p ∈ ss, f p = true) : ss.find? f = ss[0]? := by
 cases ss with
 | nil => rfl
 | cons x ss => rw [List.find?_cons, h x List.mem_cons_self]; rfl
def ledT (ss : List P2) : List Int := ss.flatMap fun p => List.replicate p.2.toNat p.1
theorem q328 (ss : List P2) (p : P2) : ledT (ss ++ [p]) = ledT ss ++ List.replicate p.2.toNat p.1 := by
 unfold ledT
 rw [List.flatMap_append, List.flatMap_cons, List.flatMap_nil, List.append_nil]
theorem q524 : ∀ (ss : List P2), (∀ p ∈ ss, 0 < p.2) -> ((ledT ss).length : Int) = sumM ss
 | [], _ => rfl
 | p :: ss, h => by
  have ih := q524 ss fun q hq => h q (List.mem_cons_of_mem _ hq)
  have h0 := h p List.mem_cons_self
  show (((List.replicate p.2.toNat p.1 ++ ledT ss).length : Nat) : Int) = p.2 + sumM ss
  rw [List.length_append, List.length_replicate]
  omega
theorem q454 (ss : List P2) (i : Nat) : (ledT (ss.take i)).length <= (ledT ss).length := by
 have e : ledT ss = ledT (ss.take i) ++ ledT (ss.drop i) := by
  unfold ledT
  rw [<- List.flatMap_append, List.take_append_drop]
 rw [e, List.length_append]
 omega
abbrev q53 : Nat := 7
inductive isp__law_led_through (K : PySem.W.Frag) (vs : List V) (H : Hp) (Q : VK) (E : XK) : Prop
 | mk (b ga : Addr) (xs : List V) (low : Int) (L : Nat) (gs : List G3) (hz0 : vs = [.ref b, .ref ga]) (hz1 : SqT K H b [.int low, .int (L : Int)]) (hz2 : L <= 40) (hz3 : H ga = some (.lst xs)) (hz4 : GatAt H L xs gs) (hz5 : (∀ g ∈ gs, GoodS L g)) (hz6 : gs.length <= 100) (hz7 : (Wh gs).length <= 150) (hz8 : ∀ (H' : Hp) (D : Addr), Same H H' -> H' D = some (.lst ((ledT (stp L low (Wh gs))).map V.int)) -> H D = none -> Q (.ref D) H') : isp__law_led_through K vs H Q E
def q50 (K : PySem.W.Frag) : Sp := isp__law_led_through K
section
variable {P : Program} {w : World} {K : PySem.W.Frag} {mg : Str -> Option Value} {base : Heap}
theorem q206 (d : Def K mg "_law_led_through" q72 ["_law_bounds_here", "_law_gathering"]) (z : Bz mg) (c_next_up : Cal P w K mg base q312 "next_up" ["bounds", "gathering", "number"] (q182 K)) : Cal P w K mg base q53 "_law_led_through" ["_law_bounds_here", "_law_gathering"] (q50 K) := by
 have sc := q195
 refine d.cal fun f fd F => F.ok sc (fun vs H Q E h => ?_) (fun cdv A outer s H vs Q E hr h => ?_)
 ·obtain ⟨b, ga, xs, low, L, gs, rfl, _⟩ := h
  rfl
 obtain ⟨b, ga, xs, low, L, gs, rfl, hb, hL, hga, hg, hgd, hl, hw15, q⟩ := h
 refine ⟨_, (q11 (q19 (i := 2) sc.nd rfl (Or.inl rfl) (q55 q12))
 (q11 (q19 (i := 3) sc.nd rfl (Or.inl rfl) (pe_fn c_next_up (hr.mono (by decide)) (by rfl) (q10 (pv 0) (q10 (pv 1) (q10 (pe_op q54 (pe_ix q22 (pv 0) q14 (fun _ _ => rfl)) q14) q12)))))
 (q11 (q360 PassesOwn.never (PW.pt (q278 (q17 q585 (pv 3) q63 (q20 _)) (q278 (q17 op_gt (pe_ix q22 (pv 3) q14 (fun _ _ => rfl)) q14 (q20 _)) (q229 (q17 op_lt (q26 q24 (by rfl) z.len_ q62 (q10 (pv 2) q12)) q14 (q20 _))))))
 (q11 (q230 (pe_bm PySem.F.plainAttrs_list PySem.F.slot_list_extend PySem.F.type_list_extend q595 (pv 2) (q10 (pe_op op_rep (q55 (q10 (pe_ix q22 (pv 3) q14 (fun _ _ => rfl)) q12)) (pe_ix q22 (pv 3) q14 (fun _ _ => rfl))) q12)))
 (q16 (q19 (i := 3) sc.nd rfl (Or.inl rfl) (pe_fn c_next_up (hr.mono (by decide)) (by rfl) (q10 (pv 0) (q10 (pv 1) (q10 (pe_ix q22 (pv 3) q14 (fun _ _ => rfl)) q12))))))))
 (q16 (q21 (pv 2)))))), ?_⟩
 have hw9 : (Wh gs).length <= 900 := by omega
 have hin := W_in hgd
 have hrise := q122 L low (Wh gs) hin
 have hpos : ∀ p ∈ stp L low (Wh gs), 0 < p.2 := fun p hp => (q166 hin hp).2.2.1
 have hT : (ledT (stp L low (Wh gs))).length <= 150 := by
  have z := q524 _ hpos
  have z2 : sumM (stp L low (Wh gs)) = ((Wh gs).length : Int) := q442 L low (Wh gs)
  omega
 have hlow : ∀ p ∈ stp L low (Wh gs), decide (low - 1 < p.1) = true := fun p hp => decide_eq_true (by have := (q166 hin hp).1; omega)
 refine ⟨szb rfl, fun fl hfl => ?_⟩
 have s1 := q15 hfl (.lst [])
 have hfl1 : upd H fl (.lst []) fl = some (.lst []) := q13
 generalize upd H fl (.lst []) = H1 at *
 refine ⟨_, rfl, _, rfl, _, rfl, b, _, _, _, rfl, rfl, s1.seqT hb, rfl, _, _, rfl, rfl, b, ga, xs, low, low - 1, L, gs, rfl, s1.seqT hb, hL, s1 _ _ hga, hg.same s1, hgd, hl, hw9, fun v H2 s2 hv => ?_⟩
 rw [q575 hlow] at hv
 change (stp L low (Wh gs)).Pairwise _ at hrise
 have hnext : ∀ {i : Nat} {p : P2}, (stp L low (Wh gs))[i]? = some p -> (stp L low (Wh gs)).find? (fun q => decide (p.1 < q.1)) = (stp L low (Wh gs))[i + 1]? := fun h => q651 hrise h
 have nup : ∀ (num : Int) (H' : Hp) (Q' : V -> Hp -> Prop), Same H H' -> (∀ v H'', Same H' H'' -> NxV H'' v ((stp L low (Wh gs)).find? fun q => decide (num < q.1)) -> Q' v H'') -> q182 K [V.ref b, V.ref ga, V.int num] H' Q' E0 := fun num H' Q' s' hq => ⟨b, ga, xs, low, num, L, gs, rfl, s'.seqT hb, hL, s' _ _ hga, hg.same s', hgd, hl, hw9, hq⟩
 generalize stp L low (Wh gs) = ss at *
 refine q361 (fun σ H3 => ∃ (i : Nat) (ov : V), σ = [some (.ref b), some (.ref ga), some (.ref fl), some ov] /\ Same H H3 /\ H3 fl = some (.lst ((ledT (ss.take i)).map V.int)) /\ NxV H3 ov ss[i]? /\ i <= ss.length) (muF fl)
  ⟨0, v, rfl, s1.trans s2, s2 _ _ hfl1, hv, Nat.zero_le _⟩ ?_ ?_
 ·rintro σ H3 ⟨i, ov, rfl, s3, hfl3, hov, hil⟩
  refine ⟨_, rfl, rfl, _, rfl, ?_⟩
  cases hsi : ss[i]? with
  | none =>
   rw [hsi] at hov
   cases (show ov = .non from hov)
   refine iteF (iteF ?_)
   have hie : i = ss.length := by have := List.getElem?_eq_none_iff.mp hsi; omega
   rw [hie, List.take_length] at hfl3
   exact ⟨_, rfl, q H3 fl s3 hfl3 hfl⟩
  | some p =>
   rw [hsi] at hov
   obtain ⟨pa, rfl, hpa⟩ := hov
   have hp0 := hpos p (List.mem_of_getElem? hsi)
   have hlt := q454 ss i
   have hlt1 := q454 ss (i + 1)
   have est : ss.take (i + 1) = ss.take i ++ [p] := by rw [List.take_add_one, hsi]; rfl
   rw [est, q328, List.length_append, List.length_replicate] at hlt1
   have hlm : ((ledT (ss.take i)).map V.int).length = (ledT (ss.take i)).length := List.length_map _
   refine ite2 (fun _ => ?_) (fun c => absurd rfl c)
   refine ⟨_, rfl, pa, _, _, _, rfl, rfl, SqT.of hpa, rfl, _, _, rfl, rfl, _, rfl, ite2 (fun _ => ?_) (fun c => absurd (decide_eq_true hp0) c)⟩
   refine ⟨_, rfl, fl, _, rfl, .inl (SqL.of hfl3), _, _, rfl, rfl, _, rfl, ite2 (fun _ => ?_) (fun c => absurd (decide_eq_true (by rw [hlm]; omega)) c)⟩
   refine ⟨_, rfl, .inl ⟨rfl, _, SqL.of hfl3⟩, _, rfl, pa, _, _, _, rfl, rfl, SqT.of hpa, rfl, szb rfl, fun l4 hl4 => ?_⟩
   have s4 := q15 hl4 (.lst [V.int p.1])
   have h4 : upd H3 l4 (.lst [V.int p.1]) l4 = some (.lst [V.int p.1]) := q13
   generalize upd H3 l4 (.lst [V.int p.1]) = H4 at *
   have hsz : (ledT (ss.take i)).length + p.2.toNat <= 150 := by omega
   refine ⟨_, rfl, pa, _, _, _, rfl, rfl, SqT.of (s4 _ _ hpa), rfl, l4, _, _, rfl, rfl, h4, by omega, by omega, ?_, fun l5 hl5 => ?_⟩
   ·show 1 * p.2.toNat <= sizeLine
    exact sz (by omega)
   have erep : (List.replicate p.2.toNat [V.int p.1]).flatten = (List.replicate p.2.toNat p.1).map V.int := by
    rw [List.map_replicate]
    induction p.2.toNat with
    | zero => rfl
    | succ m ih => simp [List.replicate_succ]
   rw [erep]
   have s5 := q15 hl5 (.lst ((List.replicate p.2.toNat p.1).map V.int))
   have h5 : upd H4 l5 (.lst ((List.replicate p.2.toNat p.1).map V.int)) l5 = some (.lst ((List.replicate p.2.toNat p.1).map V.int)) := q13
   generalize upd H4 l5 (.lst ((List.replicate p.2.toNat p.1).map V.int)) = H5 at *
   have s35 := s4.trans s5
   have hfl5 := s35 _ _ hfl3
   have hpa5 := s35 _ _ hpa
   refine ⟨fl, l5, _, _, rfl, rfl, hfl5, h5, sz (by rw [List.length_map, List.length_map, List.length_replicate]; omega), ?_⟩
   rw [<- List.map_append, <- q328, <- est]
   have hpf : pa ≠ fl := fun z => by rw [z, hfl3] at hpa; cases hpa
   have hpa6 : upd H5 fl (.lst ((ledT (ss.take (i + 1))).map V.int)) pa = some (.tup [.int p.1, .int p.2]) := by rw [q36 hpf]; exact hpa5
   have s06 : Same H (upd H5 fl (.lst ((ledT (ss.take (i + 1))).map V.int))) := q307 (s3.trans s35) hfl _
   have hfl6 : upd H5 fl (.lst ((ledT (ss.take (i + 1))).map V.int)) fl = some (.lst ((ledT (ss.take (i + 1))).map V.int)) := q13
   generalize upd H5 fl (.lst ((ledT (ss.take (i + 1))).map V.int)) = H6 at *
   refine ⟨_, rfl, _, rfl, _, rfl, pa, _, _, _, rfl, rfl, SqT.of hpa6, rfl, nup p.1 H6 _ s06 fun v H7 s7 hv7 => ?_⟩
   rw [hnext hsi] at hv7
   have hii : i < ss.length := (List.getElem?_eq_some_iff.mp hsi).1
   refine ⟨⟨i + 1, v, rfl, s06.trans s7, s7 _ _ hfl6, hv7, by omega⟩, ?_⟩
   unfold muF
   rw [s7 _ _ hfl6, hfl3]
   show 2000 - ((ledT (ss.take (i + 1))).map V.int).length < 2000 - ((ledT (ss.take i)).map V.int).length
   rw [hlm, List.length_map, est, q328, List.length_append, List.length_replicate]
   omega
 ·rintro σ H2 Q1 Q2 hq ⟨_, e0, e1, k, e2, h⟩
  refine ⟨_, e0, e1, k, e2, ?_⟩
  cases k with
  | false => exact hq _ _ h
  | true =>
   obtain ⟨x, f0, pa, xs', i', y', f1, f2, f3, f4, a1, b1, g1, g2, k, g3, h⟩ := h
   refine ⟨x, f0, pa, xs', i', y', f1, f2, f3, f4, a1, b1, g1, g2, k, g3, ?_⟩
   cases k with
   | false => exact hq _ _ h
   | true =>
    obtain ⟨x, f0, p, ys, f1, f2, a1, b1, g1, g2, k, g3, h⟩ := h
    exact ⟨x, f0, p, ys, f1, f2, a1, b1, g1, g2, k, g3, hq _ _ h⟩
end
abbrev q207 : Nat := 46
inductive isp__law_deed (K : PySem.W.Frag) (vs : List V) (H : Hp) (Q : VK) (E : XK) : Prop
 | mk (pen b r o : Addr) (v : V) (low : Int) (L : Nat) (ns ms : List Int) (hz0 : vs = [.ref pen, .ref b, v, .ref r, .ref o]) (hz1 : PenN H pen) (hz2 : H b = some (.tup [.int low, .int (L : Int)])) (hz3 : L <= 40) (hz4 : q25 H v (grow low L ns)) (hz5 : H r = some (.lst (ns.map V.int))) (hz6 : r ≠ pen) (hz7 : Wths low L ns) (hz8 : ns.length <= 100) (hz9 : H o = some (.lst (ms.map V.int))) (hz10 : o ≠ pen) (hz11 : Wths low L ms) (hz12 : ms.length <= 5) (hz13 : ∀ (p r' : Addr) (u : V) (ns' : List Int) (H' : Hp), Keep pen H H' -> PenN H' pen -> H' p = some (.tup [u, .ref r']) -> q25 H' u (grow low L ns') -> H' r' = some (.lst (ns'.map V.int)) -> r' ≠ pen -> Wths low L ns' -> (ns'.length <= ns.length + 1 \/ ns'.length <= 24) -> Q (.ref p) H') : isp__law_deed K vs H Q E
def q173 (K : PySem.W.Frag) : Sp := isp__law_deed K
section
variable {P : Program} {w : World} {K : PySem.W.Frag} {mg : Str -> Option Value} {base : Heap}
theorem q455 (d : Def K mg "_law_deed" q142 ["_law_pen_here", "_law_bounds_here", "_law_tree", "_law_row", "_law_other"]) (z : Bz mg) (c__law_take : Cal P w K mg base q70 "_law_take" ["_law_pen_here", "_law_size"] (q56 K)) (c_cut_out : Cal P w K mg base q318 "cut_out" ["stretch"] (q255 K)) (c_flipped : Cal P w K mg base q322 "flipped" ["tree"] (q256 K)) (c_joined : Cal P w K mg base q396 "joined" ["one", "other"] (q320 K)) (c_put_in : Cal P w K mg base q277 "put_in" ["bounds", "tree", "place", "number"] (q227 K)) (c_set_at : Cal P w K mg base q398 "set_at" ["bounds", "tree", "place", "number"] (q327 K)) (c_taken_out : Cal P w K mg base q150 "taken_out" ["bounds", "tree", "place"] (q116 K)) (c_tree_of : Cal P w K mg base q217 "tree_of" ["bounds", "row"] (q176 K)) (c_turned : Cal P w K mg base q397 "turned" ["tree"] (q321 K)) : Cal P w K mg base q207 "_law_deed" ["_law_pen_here", "_law_bounds_here", "_law_tree", "_law_row", "_law_other"] (q173 K) := by
 have sc := q431
 refine d.cal fun f fd F => F.ok sc (fun vs H Q E h => ?_) (fun cdv A outer s H vs Q E hr h => ?_)
 ·obtain ⟨pen, b, r, o, v, low, L, ns, ms, rfl, _⟩ := h
  rfl
 obtain ⟨pen, b, r, o, v, low, L, ns, ms, rfl, P0, hb, hL, ht, hr0, hrp, hw, hl, ho, hop, hwm, hlm5, q⟩ := h
 refine ⟨_, (q11 (q19 (i := 5) sc.nd rfl (Or.inl rfl) (pe_fn c__law_take (hr.mono (by decide)) (by rfl) (q10 (pv 0) (q10 q14 q12))))
 (q11 (q19 (i := 6) sc.nd rfl (Or.inl rfl) (pe_fn c__law_take (hr.mono (by decide)) (by rfl) (q10 (pv 0) (q10 (pe_op q29 (q26 q24 (by rfl) z.len_ q62 (q10 (pv 3) q12)) q14) q12))))
 (q11 (q19 (i := 7) sc.nd rfl (Or.inl rfl) (pe_op q29 (pe_ix q22 (pv 1) q14 (fun _ _ => rfl)) (pe_fn c__law_take (hr.mono (by decide)) (by rfl) (q10 (pv 0) (q10 (pe_op q581 q14 (pe_ix q22 (pv 1) q14 (fun _ _ => rfl))) q12)))))
 (q11 (ps_if (PW.pt (pw_or (q17 op_eq (pv 5) q14 (q20 _)) (q92 (q17 (q602 hr.units) (pv 3) (q55 q12) (q20 _)))))
 (q16 (q21 (q27 (q10 (pe_fn c_put_in (hr.mono (by decide)) (by rfl) (q10 (pv 1) (q10 (pv 2) (q10 (pv 6) (q10 (pv 7) q12))))) (q10 (pe_op q260 (pe_op q260 (q41 q117 (pv 3) q52 (q44 (pv 6))) (q55 (q10 (pv 7) q12))) (q41 q117 (pv 3) (q44 (pv 6)) q52)) q12)))))
 q23)
 (q11 (q19 (i := 6) sc.nd rfl (Or.inl rfl) (pe_op q184 (pv 6) (q26 q24 (by rfl) z.len_ q62 (q10 (pv 3) q12))))
 (q11 (ps_if (q17 op_eq (pv 5) q14 (q20 _))
 (q16 (q21 (q27 (q10 (pe_ix q22 (pe_fn c_taken_out (hr.mono (by decide)) (by rfl) (q10 (pv 1) (q10 (pv 2) (q10 (pv 6) q12)))) q14 (fun _ _ => rfl)) (q10 (pe_op q260 (q41 q117 (pv 3) q52 (q44 (pv 6))) (q41 q117 (pv 3) (q44 (pe_op q29 (pv 6) q14)) q52)) q12)))))
 q23)
 (q11 (ps_if (q17 op_eq (pv 5) q14 (q20 _))
 (q16 (q21 (q27 (q10 (pe_fn c_set_at (hr.mono (by decide)) (by rfl) (q10 (pv 1) (q10 (pv 2) (q10 (pv 6) (q10 (pv 7) q12))))) (q10 (pe_op q260 (pe_op q260 (q41 q117 (pv 3) q52 (q44 (pv 6))) (q55 (q10 (pv 7) q12))) (q41 q117 (pv 3) (q44 (pe_op q29 (pv 6) q14)) q52)) q12)))))
 q23)
 (q11 (ps_if (q17 op_eq (pv 5) q14 (q20 _))
 (q16 (q21 (q27 (q10 (pe_fn c_turned (hr.mono (by decide)) (by rfl) (q10 (pv 2) q12)) (q10 (pe_rev (pv 3)) q12)))))
 q23)
 (q11 (ps_if (q17 op_eq (pv 5) q14 (q20 _))
 (q11 (q19 (i := 8) sc.nd rfl (Or.inr rfl) (pe_op q54 (pe_op q29 (pe_op q101 q14 (pe_ix q22 (pv 1) q14 (fun _ _ => rfl))) (pe_op q581 q14 (pe_ix q22 (pv 1) q14 (fun _ _ => rfl)))) q14))
 (q16 (q21 (q27 (q10 (pe_fn c_flipped (hr.mono (by decide)) (by rfl) (q10 (pv 2) q12)) (q10 (q232 (cl := [("_law_last", s.heap.objs.size + 1 + 0)]) (cn := ["_law_last"]) (N := ["_law_last"]) (fr := [8]) (sc0 := q18 q142) rfl (q91 (pv 3)) (fun C s₂ H₂ fp => (pe_op q54 (pv 1) (pv 0))) (by with_unfolding_all rfl) ⟨by with_unfolding_all rfl, trivial⟩ rfl rfl rfl ⟨by decide +kernel, by decide +kernel, by decide +kernel, by decide +kernel, by decide +kernel, by decide +kernel, by decide +kernel⟩ rfl) q12))))))
 q23)
 (q11 (ps_if (PW.pt (q278 (q17 op_eq (pv 5) q14 (q20 _)) (q229 (q17 op_lt (q26 q24 (by rfl) z.len_ q62 (q10 (pv 3) q12)) q14 (q20 _)))))
 (q16 (q21 (q27 (q10 (pe_fn c_joined (hr.mono (by decide)) (by rfl) (q10 (pv 2) (q10 (pe_fn c_tree_of (hr.mono (by decide)) (by rfl) (q10 (pv 1) (q10 (pv 4) q12))) q12))) (q10 (pe_op q260 (pv 3) (pv 4)) q12)))))
 q23)
 (q11 (q19 (i := 9) sc.nd rfl (Or.inl rfl) (pe_op q29 (pv 6) (pe_fn c__law_take (hr.mono (by decide)) (by rfl) (q10 (pv 0) (q10 (pe_op q29 (pe_op q54 (q26 q24 (by rfl) z.len_ q62 (q10 (pv 3) q12)) (pv 6)) q14) q12)))))
 (q16 (q21 (q27 (q10 (pe_fn c_cut_out (hr.mono (by decide)) (by rfl) (q10 (q27 (q10 (pv 2) (q10 (pv 6) (q10 (pv 9) q12)))) q12)) (q10 (q41 q117 (pv 3) (q44 (pv 6)) (q44 (pv 9))) q12)))))))))))))))), ?_⟩
 have hlm : (ns.map V.int).length = ns.length := List.length_map _
 have hpk := p2pos L
 have hq40 := p2le hL
 refine ⟨_, rfl, pen, 7, rfl, P0, by decide, by decide, fun way H1 k1 P1 w0 w1 => ?_⟩
 refine ⟨_, rfl, _, rfl, r, _, rfl, .inl (SqL.of (k1 _ _ hrp hr0)), _, _, rfl, rfl, pen, _, rfl, P1, by rw [hlm]; omega, by rw [hlm]; omega, fun pv H2 k2 P2 p0 p1 => ?_⟩
 have hr2 := k2 _ _ hrp (k1 _ _ hrp hr0)
 have hb2 := k2 _ _ (P1.ne (k1 _ _ (P0.ne hb) hb)) (k1 _ _ (P0.ne hb) hb)
 have ho2 := k2 _ _ hop (k1 _ _ hop ho)
 have ht2 := (ht.tk (P0.tk k1)).tk (P1.tk k2)
 rw [hlm] at p1
 obtain ⟨pl, rfl⟩ := Int.eq_ofNat_of_zero_le p0
 refine ⟨_, rfl, b, _, _, _, rfl, rfl, SqT.of hb2, rfl, _, rfl, _, rfl, b, _, _, _, rfl, rfl, SqT.of hb2, rfl, _, _, rfl, rfl, ⟨by omega, by omega, by decide⟩, ?_⟩
 dsimp only
 rw [q502]
 refine ⟨pen, _, rfl, P2, by omega, by omega, fun nv H3 k3' P3 n0 n1 => ⟨_, _, rfl, rfl, ?_⟩⟩
 have hr3 := k3' _ _ hrp hr2
 have hb3 := k3' _ _ (P2.ne hb2) hb2
 have ho3 := k3' _ _ hop ho2
 have ht3 := ht2.tk (P2.tk k3')
 have k3 : Keep pen H H3 := (k1.trans k2).trans k3'
 clear k1 k2 k3' P0 P1 P2 hr0 hr2 hb hb2 ho ho2 ht ht2
 refine ⟨_, rfl, rfl, _, rfl, ite2 (fun c => ?_) (fun c => ?_)⟩
 ·have hput : True := trivial
  refine ⟨_, rfl, _, rfl, _, rfl, _, rfl, b, v, pl, low, low + nv, L, ns, rfl, SqT.of hb3, hL, ht3, by omega, by omega, by omega, by omega, fun u H4 s4 hu => ?_⟩
  refine ⟨_, rfl, _, rfl, _, rfl, r, _, rfl, SqL.of (s4 _ _ hr3), fun q1 hq1 => ?_⟩
  rw [q95]
  have t5 : Same H4 (upd H4 q1 (.lst ((ns.take pl).map V.int))) := q15 hq1 _
  have e5 : upd H4 q1 (.lst ((ns.take pl).map V.int)) q1 = some (.lst ((ns.take pl).map V.int)) := q13
  generalize upd H4 q1 (.lst ((ns.take pl).map V.int)) = H5 at *
  refine ⟨_, rfl, szb rfl, fun q2 hq2 => ?_⟩
  have t6 : Same H5 (upd H5 q2 (.lst [.int (low + nv)])) := q15 hq2 _
  have e6 : upd H5 q2 (.lst [.int (low + nv)]) q2 = some (.lst [.int (low + nv)]) := q13
  generalize upd H5 q2 (.lst [.int (low + nv)]) = H6 at *
  refine ⟨q1, q2, _, _, rfl, rfl, t6 _ _ e5, e6, sz (by simp only [List.length_map, List.length_take, List.length_cons, List.length_nil]; omega), fun q3 hq3 => ?_⟩
  have t7 : Same H6 (upd H6 q3 (.lst ((ns.take pl).map V.int ++ [.int (low + nv)]))) := q15 hq3 _
  have e7 : upd H6 q3 (.lst ((ns.take pl).map V.int ++ [.int (low + nv)])) q3 = some (.lst ((ns.take pl).map V.int ++ [.int (low + nv)])) := q13
  generalize upd H6 q3 (.lst ((ns.take pl).map V.int ++ [.int (low + nv)])) = H7 at *
  have t47 : Same H4 H7 := t5.trans (t6.trans t7)
  refine ⟨_, rfl, _, rfl, _, rfl, r, _, rfl, SqL.of (t47 _ _ (s4 _ _ hr3)), fun q4 hq4 => ?_⟩
  rw [q148]
  have t8 : Same H7 (upd H7 q4 (.lst ((ns.drop pl).map V.int))) := q15 hq4 _
  have e8 : upd H7 q4 (.lst ((ns.drop pl).map V.int)) q4 = some (.lst ((ns.drop pl).map V.int)) := q13
  generalize upd H7 q4 (.lst ((ns.drop pl).map V.int)) = H8 at *
  refine ⟨q3, q4, _, _, rfl, rfl, t8 _ _ e7, e8, sz (by simp only [List.length_append, List.length_map, List.length_take, List.length_drop, List.length_cons, List.length_nil]; omega), fun q5 hq5 => ?_⟩
  have en : (ns.take pl).map V.int ++ [.int (low + nv)] ++ (ns.drop pl).map V.int = (insAt ns pl (low + nv)).map V.int := by
   unfold insAt
   simp
  rw [en]
  have hqp : q5 ≠ pen := (P3.same (s4.trans (t47.trans t8))).fresh hq5
  have t9 := q15 hq5 (.lst ((insAt ns pl (low + nv)).map V.int))
  have e9 : upd H8 q5 (.lst ((insAt ns pl (low + nv)).map V.int)) q5 = some (.lst ((insAt ns pl (low + nv)).map V.int)) := q13
  generalize upd H8 q5 (.lst ((insAt ns pl (low + nv)).map V.int)) = H9 at *
  refine ⟨szb rfl, fun tp htp => ?_⟩
  have t49 := t47.trans (t8.trans t9)
  have s39 := s4.trans t49
  have t10 := q15 htp (.tup [u, .ref q5])
  have hql := q487 ns pl (low + nv)
  exact q tp q5 u _ _ (k3.trans (.same (s39.trans t10))) (P3.same (s39.trans t10)) q13 (hu.same (t49.trans t10)) (t10 _ _ e9) hqp (q523 hw (by omega) (by omega)) (.inl (by omega))
 refine ⟨_, rfl, szb rfl, fun e0 he0 => ?_⟩
 have s3e := q15 he0 (.lst [])
 have hr3 := s3e _ _ hr3
 have hb3 := s3e _ _ hb3
 have ho3 := s3e _ _ ho3
 have ht3 := ht3.same s3e
 have k3 : Keep pen H _ := k3.trans (.same s3e)
 have P3 := P3.same s3e
 have he3 : upd H3 e0 (.lst []) e0 = some (.lst []) := q13
 generalize upd H3 e0 (.lst []) = H3 at *
 refine ⟨r, e0, ns, [], rfl, rfl, SqL.of hr3, SqL.of he3, _, rfl, ite2 (fun c => ?_) (fun c2 => ?_)⟩
 ·have hput : True := trivial
  refine ⟨_, rfl, _, rfl, _, rfl, _, rfl, b, v, pl, low, low + nv, L, ns, rfl, SqT.of hb3, hL, ht3, by omega, by omega, by omega, by omega, fun u H4 s4 hu => ?_⟩
  refine ⟨_, rfl, _, rfl, _, rfl, r, _, rfl, SqL.of (s4 _ _ hr3), fun q1 hq1 => ?_⟩
  rw [q95]
  have t5 : Same H4 (upd H4 q1 (.lst ((ns.take pl).map V.int))) := q15 hq1 _
  have e5 : upd H4 q1 (.lst ((ns.take pl).map V.int)) q1 = some (.lst ((ns.take pl).map V.int)) := q13
  generalize upd H4 q1 (.lst ((ns.take pl).map V.int)) = H5 at *
  refine ⟨_, rfl, szb rfl, fun q2 hq2 => ?_⟩
  have t6 : Same H5 (upd H5 q2 (.lst [.int (low + nv)])) := q15 hq2 _
  have e6 : upd H5 q2 (.lst [.int (low + nv)]) q2 = some (.lst [.int (low + nv)]) := q13
  generalize upd H5 q2 (.lst [.int (low + nv)]) = H6 at *
  refine ⟨q1, q2, _, _, rfl, rfl, t6 _ _ e5, e6, sz (by simp only [List.length_map, List.length_take, List.length_cons, List.length_nil]; omega), fun q3 hq3 => ?_⟩
  have t7 : Same H6 (upd H6 q3 (.lst ((ns.take pl).map V.int ++ [.int (low + nv)]))) := q15 hq3 _
  have e7 : upd H6 q3 (.lst ((ns.take pl).map V.int ++ [.int (low + nv)])) q3 = some (.lst ((ns.take pl).map V.int ++ [.int (low + nv)])) := q13
  generalize upd H6 q3 (.lst ((ns.take pl).map V.int ++ [.int (low + nv)])) = H7 at *
  have t47 : Same H4 H7 := t5.trans (t6.trans t7)
  refine ⟨_, rfl, _, rfl, _, rfl, r, _, rfl, SqL.of (t47 _ _ (s4 _ _ hr3)), fun q4 hq4 => ?_⟩
  rw [q148]
  have t8 : Same H7 (upd H7 q4 (.lst ((ns.drop pl).map V.int))) := q15 hq4 _
  have e8 : upd H7 q4 (.lst ((ns.drop pl).map V.int)) q4 = some (.lst ((ns.drop pl).map V.int)) := q13
  generalize upd H7 q4 (.lst ((ns.drop pl).map V.int)) = H8 at *
  refine ⟨q3, q4, _, _, rfl, rfl, t8 _ _ e7, e8, sz (by simp only [List.length_append, List.length_map, List.length_take, List.length_drop, List.length_cons, List.length_nil]; omega), fun q5 hq5 => ?_⟩
  have en : (ns.take pl).map V.int ++ [.int (low + nv)] ++ (ns.drop pl).map V.int = (insAt ns pl (low + nv)).map V.int := by
   unfold insAt
   simp
  rw [en]
  have hqp : q5 ≠ pen := (P3.same (s4.trans (t47.trans t8))).fresh hq5
  have t9 := q15 hq5 (.lst ((insAt ns pl (low + nv)).map V.int))
  have e9 : upd H8 q5 (.lst ((insAt ns pl (low + nv)).map V.int)) q5 = some (.lst ((insAt ns pl (low + nv)).map V.int)) := q13
  generalize upd H8 q5 (.lst ((insAt ns pl (low + nv)).map V.int)) = H9 at *
  refine ⟨szb rfl, fun tp htp => ?_⟩
  have t49 := t47.trans (t8.trans t9)
  have s39 := s4.trans t49
  have t10 := q15 htp (.tup [u, .ref q5])
  have hql := q487 ns pl (low + nv)
  exact q tp q5 u _ _ (k3.trans (.same (s39.trans t10))) (P3.same (s39.trans t10)) q13 (hu.same (t49.trans t10)) (t10 _ _ e9) hqp (q523 hw (by omega) (by omega)) (.inl (by omega))
 have hne : ns ≠ [] := fun z => c2 (decide_eq_true z)
 have hnl : 0 < ns.length := List.length_pos_iff.mpr hne
 refine ⟨_, rfl, _, rfl, r, _, rfl, .inl (SqL.of hr3), _, _, rfl, rfl, (by rw [hlm]; omega), ?_⟩
 dsimp only
 obtain ⟨pl, ep, hpl⟩ : ∃ k : Nat, (pl : Int) % (((ns.map V.int).length : Nat) : Int) = (k : Int) /\ k < ns.length := by
  rw [hlm]
  exact ⟨pl % ns.length, by omega, Nat.mod_lt _ hnl⟩
 rw [ep]
 have hx : ns[pl]? = some ns[pl] := List.getElem?_eq_getElem hpl
 generalize ns[pl] = x at hx
 refine ⟨_, rfl, rfl, _, rfl, ite2 (fun c => ?_) (fun c => ?_)⟩
 ·have hput : True := trivial
  refine ⟨_, rfl, _, rfl, _, rfl, b, v, pl, low, x, L, ns, rfl, SqT.of hb3, hL, ht3, hw, hx, by omega, fun p u H4 s4 hp hu => ⟨p, _, _, _, rfl, rfl, SqT.of hp, rfl, ?_⟩⟩
  refine ⟨_, rfl, _, rfl, _, rfl, r, _, rfl, SqL.of (s4 _ _ hr3), fun q1 hq1 => ?_⟩
  rw [q95]
  have t5 := q15 hq1 (.lst ((ns.take pl).map V.int))
  have e5 : upd H4 q1 (.lst ((ns.take pl).map V.int)) q1 = some (.lst ((ns.take pl).map V.int)) := q13
  generalize upd H4 q1 (.lst ((ns.take pl).map V.int)) = H5 at *
  refine ⟨_, rfl, _, rfl, _, _, rfl, rfl, _, rfl, r, _, rfl, SqL.of (t5 _ _ (s4 _ _ hr3)), fun q4 hq4 => ?_⟩
  rw [show ((pl : Int) + 1) = ((pl + 1 : Nat) : Int) by omega, q148]
  have t8 := q15 hq4 (.lst ((ns.drop (pl + 1)).map V.int))
  have e8 : upd H5 q4 (.lst ((ns.drop (pl + 1)).map V.int)) q4 = some (.lst ((ns.drop (pl + 1)).map V.int)) := q13
  generalize upd H5 q4 (.lst ((ns.drop (pl + 1)).map V.int)) = H8 at *
  refine ⟨q1, q4, _, _, rfl, rfl, t8 _ _ e5, e8, sz (by simp only [List.length_map, List.length_take, List.length_drop]; omega), fun q5 hq5 => ?_⟩
  have en : (ns.take pl).map V.int ++ (ns.drop (pl + 1)).map V.int = (delAt ns pl).map V.int := by
   unfold delAt
   rw [List.map_append]
  rw [en]
  have hdl := q488 hpl
  have hqp : q5 ≠ pen := (P3.same (s4.trans (t5.trans t8))).fresh hq5
  have t9 := q15 hq5 (.lst ((delAt ns pl).map V.int))
  have e9 : upd H8 q5 (.lst ((delAt ns pl).map V.int)) q5 = some (.lst ((delAt ns pl).map V.int)) := q13
  generalize upd H8 q5 (.lst ((delAt ns pl).map V.int)) = H9 at *
  refine ⟨szb rfl, fun tp htp => ?_⟩
  have t49 := Same.trans (t5.trans t8) t9
  have s39 := s4.trans t49
  have t10 := q15 htp (.tup [u, .ref q5])
  exact q tp q5 u _ _ (k3.trans (.same (s39.trans t10))) (P3.same (s39.trans t10)) q13 (hu.same (t49.trans t10)) (t10 _ _ e9) hqp (del_wths hw) (.inl (by omega))
 refine ⟨_, rfl, rfl, _, rfl, ite2 (fun c => ?_) (fun c => ?_)⟩
 ·have hput : True := trivial
  refine ⟨_, rfl, _, rfl, _, rfl, _, rfl, b, v, pl, low, x, low + nv, L, ns, rfl, SqT.of hb3, hL, ht3, hw, hx, by omega, by omega, by omega, fun u H4 s4 hu => ?_⟩
  refine ⟨_, rfl, _, rfl, _, rfl, r, _, rfl, SqL.of (s4 _ _ hr3), fun q1 hq1 => ?_⟩
  rw [q95]
  have t5 := q15 hq1 (.lst ((ns.take pl).map V.int))
  have e5 : upd H4 q1 (.lst ((ns.take pl).map V.int)) q1 = some (.lst ((ns.take pl).map V.int)) := q13
  generalize upd H4 q1 (.lst ((ns.take pl).map V.int)) = H5 at *
  refine ⟨_, rfl, szb rfl, fun q2 hq2 => ?_⟩
  have t6 := q15 hq2 (.lst [V.int (low + nv)])
  have e6 : upd H5 q2 (.lst [V.int (low + nv)]) q2 = some (.lst [V.int (low + nv)]) := q13
  generalize upd H5 q2 (.lst [V.int (low + nv)]) = H6 at *
  refine ⟨q1, q2, _, _, rfl, rfl, t6 _ _ e5, e6, sz (by simp only [List.length_map, List.length_take, List.length_cons, List.length_nil]; omega), fun q3 hq3 => ?_⟩
  have t7 := q15 hq3 (.lst ((ns.take pl).map V.int ++ [.int (low + nv)]))
  have e7 : upd H6 q3 (.lst ((ns.take pl).map V.int ++ [.int (low + nv)])) q3 = some (.lst ((ns.take pl).map V.int ++ [.int (low + nv)])) := q13
  generalize upd H6 q3 (.lst ((ns.take pl).map V.int ++ [.int (low + nv)])) = H7 at *
  have t47 : Same H4 H7 := t5.trans (t6.trans t7)
  refine ⟨_, rfl, _, rfl, _, _, rfl, rfl, _, rfl, r, _, rfl, SqL.of (t47 _ _ (s4 _ _ hr3)), fun q4 hq4 => ?_⟩
  rw [show ((pl : Int) + 1) = ((pl + 1 : Nat) : Int) by omega, q148]
  have t8 := q15 hq4 (.lst ((ns.drop (pl + 1)).map V.int))
  have e8 : upd H7 q4 (.lst ((ns.drop (pl + 1)).map V.int)) q4 = some (.lst ((ns.drop (pl + 1)).map V.int)) := q13
  generalize upd H7 q4 (.lst ((ns.drop (pl + 1)).map V.int)) = H8 at *
  refine ⟨q3, q4, _, _, rfl, rfl, t8 _ _ e7, e8, sz (by simp only [List.length_append, List.length_map, List.length_take, List.length_drop, List.length_cons, List.length_nil]; omega), fun q5 hq5 => ?_⟩
  have en : (ns.take pl).map V.int ++ [.int (low + nv)] ++ (ns.drop (pl + 1)).map V.int = (ns.take pl ++ (low + nv) :: ns.drop (pl + 1)).map V.int := by simp
  rw [en]
  have hsl : (ns.take pl ++ (low + nv) :: ns.drop (pl + 1)).length = ns.length := by rw [List.length_append, List.length_cons, List.length_take, List.length_drop]; omega
  have hsw : Wths low L (ns.take pl ++ (low + nv) :: ns.drop (pl + 1)) := fun y hy => by
   rcases List.mem_append.mp hy with z | z
   ·exact hw y (List.mem_of_mem_take z)
   ·rcases List.mem_cons.mp z with z | z
    ·rw [z]; omega
    ·exact hw y (List.mem_of_mem_drop z)
  have hqp : q5 ≠ pen := (P3.same (s4.trans (t47.trans t8))).fresh hq5
  have t9 := q15 hq5 (.lst ((ns.take pl ++ (low + nv) :: ns.drop (pl + 1)).map V.int))
  have e9 : upd H8 q5 (.lst ((ns.take pl ++ (low + nv) :: ns.drop (pl + 1)).map V.int)) q5 = some (.lst ((ns.take pl ++ (low + nv) :: ns.drop (pl + 1)).map V.int)) := q13
  generalize upd H8 q5 (.lst ((ns.take pl ++ (low + nv) :: ns.drop (pl + 1)).map V.int)) = H9 at *
  refine ⟨szb rfl, fun tp htp => ?_⟩
  have t49 := Same.trans (t47.trans t8) t9
  have s39 := s4.trans t49
  have t10 := q15 htp (.tup [u, .ref q5])
  exact q tp q5 u _ _ (k3.trans (.same (s39.trans t10))) (P3.same (s39.trans t10)) q13 (hu.same (t49.trans t10)) (t10 _ _ e9) hqp hsw (.inl (by omega))
 refine ⟨_, rfl, rfl, _, rfl, ite2 (fun c => ?_) (fun c => ?_)⟩
 ·have hput : True := trivial
  refine ⟨_, rfl, L, hL, v, low, ns, rfl, ht3, by omega, fun u H4 s4 hu => ?_⟩
  refine ⟨_, rfl, r, _, rfl, SqL.of (s4 _ _ hr3), fun q5 hq5 => ?_⟩
  have en : (ns.map V.int).reverse = ns.reverse.map V.int := List.map_reverse.symm
  rw [en]
  have hqp : q5 ≠ pen := (P3.same s4).fresh hq5
  have t9 := q15 hq5 (.lst (ns.reverse.map V.int))
  have e9 : upd H4 q5 (.lst (ns.reverse.map V.int)) q5 = some (.lst (ns.reverse.map V.int)) := q13
  generalize upd H4 q5 (.lst (ns.reverse.map V.int)) = H9 at *
  refine ⟨szb rfl, fun tp htp => ?_⟩
  have t49 := t9
  have s39 := s4.trans t49
  have t10 := q15 htp (.tup [u, .ref q5])
  exact q tp q5 u _ _ (k3.trans (.same (s39.trans t10))) (P3.same (s39.trans t10)) q13 (hu.same (t49.trans t10)) (t10 _ _ e9) hqp (fun y hy => hw y (List.mem_reverse.mp hy)) (.inl (by rw [List.length_reverse]; omega))
 refine ⟨_, rfl, rfl, _, rfl, ite2 (fun c => ?_) (fun c => ?_)⟩
 ·have hput : True := trivial
  refine ⟨_, rfl, b, _, _, _, rfl, rfl, SqT.of hb3, rfl, _, _, rfl, rfl, .inl ⟨by decide, by decide⟩, _, rfl, b, _, _, _, rfl, rfl, SqT.of hb3, rfl, _, _, rfl, rfl, ⟨by omega, by omega, by decide⟩, ?_⟩
  dsimp only
  rw [q502]
  refine ⟨_, _, rfl, rfl, _, _, rfl, rfl, ?_⟩
  refine ⟨_, rfl, L, hL, v, low, ns, rfl, ht3, by omega, fun u H4 s4 hu => ?_⟩
  refine ⟨_, rfl, r, rfl, ⟨_, SqL.of (s4 _ _ hr3)⟩, fun q5 hq5 => ?_⟩
  refine q411 (g := fun n => V.int (flp low L n)) (SqL.of (s4 _ _ hr3)) hq5 (sz (by omega)) (fun n _ G5 Q1 _ q1 => ⟨_, rfl, _, rfl, _, _, rfl, rfl, q1⟩) ?_
  rw [show (ns.map fun n => V.int (flp low L n)) = (ns.map (flp low L)).map V.int by rw [List.map_map]; rfl]
  have hfw : Wths low L (ns.map (flp low L)) := fun y hy => by
   obtain ⟨n, hn, rfl⟩ := List.mem_map.mp hy
   have := hw n hn
   unfold flp
   omega
  have hqp : q5 ≠ pen := (P3.same s4).fresh hq5
  have t9 := q15 hq5 (.lst ((ns.map (flp low L)).map V.int))
  have e9 : upd H4 q5 (.lst ((ns.map (flp low L)).map V.int)) q5 = some (.lst ((ns.map (flp low L)).map V.int)) := q13
  generalize upd H4 q5 (.lst ((ns.map (flp low L)).map V.int)) = H9 at *
  refine ⟨szb rfl, fun tp htp => ?_⟩
  have s39 := Same.trans s4 t9
  have t10 := q15 htp (.tup [u, .ref q5])
  exact q tp q5 u _ _ (k3.trans (.same (s39.trans t10))) (P3.same (s39.trans t10)) q13 (hu.same (t9.trans t10)) (t10 _ _ e9) hqp hfw (.inl (by rw [List.length_map]; omega))
 refine ⟨_, rfl, rfl, _, rfl, ite2 (fun c => ?_) (fun c => ?_)⟩
 ·refine ⟨_, rfl, r, _, rfl, .inl (SqL.of hr3), _, _, rfl, rfl, _, rfl, ite2 (fun c => ?_) (fun c => ?_)⟩
  ·have h20 : ns.length < 20 := by
    have z := of_decide_eq_true c
    rw [hlm] at z
    omega
   refine ⟨_, rfl, _, rfl, _, rfl, b, o, low, L, ms, rfl, SqT.of hb3, hL, SqL.of ho3, by omega, hwm, fun H4 w4 s4 hw4 => ?_⟩
   refine ⟨L, hL, v, w4, low, ns, ms, rfl, ht3.same s4, hw4, by omega, by omega, fun u H5 s5 hu => ?_⟩
   have s35 := s4.trans s5
   refine ⟨_, rfl, _, rfl, r, o, _, _, rfl, rfl, s35 _ _ hr3, s35 _ _ ho3, sz (by rw [List.length_map, List.length_map]; omega), fun q5 hq5 => ?_⟩
   rw [<- List.map_append]
   have hjw : Wths low L (ns ++ ms) := fun y hy => by
    rcases List.mem_append.mp hy with z | z
    ·exact hw y z
    ·exact hwm y z
   have hqp : q5 ≠ pen := (P3.same s35).fresh hq5
   have t9 := q15 hq5 (.lst ((ns ++ ms).map V.int))
   have e9 : upd H5 q5 (.lst ((ns ++ ms).map V.int)) q5 = some (.lst ((ns ++ ms).map V.int)) := q13
   generalize upd H5 q5 (.lst ((ns ++ ms).map V.int)) = H9 at *
   refine ⟨szb rfl, fun tp htp => ?_⟩
   have s39 := Same.trans s35 t9
   have t10 := q15 htp (.tup [u, .ref q5])
   exact q tp q5 u _ _ (k3.trans (.same (s39.trans t10))) (P3.same (s39.trans t10)) q13 (hu.same (t9.trans t10)) (t10 _ _ e9) hqp hjw (.inr (by rw [List.length_append]; omega))
  ·have hput : True := trivial
   refine ⟨_, rfl, _, rfl, _, rfl, r, _, rfl, .inl (SqL.of hr3), _, rfl, _, _, rfl, rfl, _, _, rfl, rfl, pen, _, rfl, P3, by rw [hlm]; omega, by rw [hlm]; omega, fun ev H4 k4 P4 e0' e1' => ⟨_, _, rfl, rfl, ?_⟩⟩
   rw [hlm] at e1'
   obtain ⟨ee, rfl⟩ := Int.eq_ofNat_of_zero_le e0'
   have hr4 := k4 _ _ hrp hr3
   have ht4 := ht3.tk (P3.tk k4)
   have k04 : Keep pen H H4 := k3.trans k4
   refine ⟨_, rfl, _, rfl, _, rfl, szb rfl, fun sa hsa => ?_⟩
   have en0 : (pl : Int) + (ee : Int) = ((pl + ee : Nat) : Int) := by omega
   dsimp only
   rw [en0]
   have t5 := q15 hsa (.tup [v, .int (pl : Int), .int ((pl + ee : Nat) : Int)])
   have e5 : upd H4 sa (.tup [v, .int (pl : Int), .int ((pl + ee : Nat) : Int)]) sa = some (.tup [v, .int (pl : Int), .int ((pl + ee : Nat) : Int)]) := q13
   generalize upd H4 sa (.tup [v, .int (pl : Int), .int ((pl + ee : Nat) : Int)]) = H5 at *
   refine ⟨L, hL, sa, v, pl, pl + ee, low, ns, rfl, e5, ht4.same t5, hw, by omega, by omega, by omega, fun u H6 s6 hu => ?_⟩
   have s46 := t5.trans s6
   refine ⟨_, rfl, _, rfl, _, rfl, _, rfl, _, rfl, r, _, rfl, SqL.of (s46 _ _ hr4), fun q5 hq5 => ?_⟩
   rw [q489 _ _ _ (by omega) (by omega), show (ns.take (pl + ee)).drop pl = segI ns pl (pl + ee) from rfl]
   have hcl : (segI ns pl (pl + ee)).length <= ns.length := by
    unfold segI
    rw [List.length_drop, List.length_take]
    omega
   have hcw : Wths low L (segI ns pl (pl + ee)) := fun y hy => hw y (List.mem_of_mem_take (List.mem_of_mem_drop hy))
   have hqp : q5 ≠ pen := (P4.same s46).fresh hq5
   have t9 := q15 hq5 (.lst ((segI ns pl (pl + ee)).map V.int))
   have e9 : upd H6 q5 (.lst ((segI ns pl (pl + ee)).map V.int)) q5 = some (.lst ((segI ns pl (pl + ee)).map V.int)) := q13
   generalize upd H6 q5 (.lst ((segI ns pl (pl + ee)).map V.int)) = H9 at *
   refine ⟨szb rfl, fun tp htp => ?_⟩
   have s39 := Same.trans s46 t9
   have t10 := q15 htp (.tup [u, .ref q5])
   exact q tp q5 u _ _ (k04.trans (.same (s39.trans t10))) (P4.same (s39.trans t10)) q13 (hu.same (t9.trans t10)) (t10 _ _ e9) hqp hcw (.inl (by omega))
 ·refine iteF ?_
  refine ⟨_, rfl, _, rfl, _, rfl, r, _, rfl, .inl (SqL.of hr3), _, rfl, _, _, rfl, rfl, _, _, rfl, rfl, pen, _, rfl, P3, by rw [hlm]; omega, by rw [hlm]; omega, fun ev H4 k4 P4 e0' e1' => ⟨_, _, rfl, rfl, ?_⟩⟩
  rw [hlm] at e1'
  obtain ⟨ee, rfl⟩ := Int.eq_ofNat_of_zero_le e0'
  have hr4 := k4 _ _ hrp hr3
  have ht4 := ht3.tk (P3.tk k4)
  have k04 : Keep pen H H4 := k3.trans k4
  refine ⟨_, rfl, _, rfl, _, rfl, szb rfl, fun sa hsa => ?_⟩
  have en0 : (pl : Int) + (ee : Int) = ((pl + ee : Nat) : Int) := by omega
  dsimp only
  rw [en0]
  have t5 := q15 hsa (.tup [v, .int (pl : Int), .int ((pl + ee : Nat) : Int)])
  have e5 : upd H4 sa (.tup [v, .int (pl : Int), .int ((pl + ee : Nat) : Int)]) sa = some (.tup [v, .int (pl : Int), .int ((pl + ee : Nat) : Int)]) := q13
  generalize upd H4 sa (.tup [v, .int (pl : Int), .int ((pl + ee : Nat) : Int)]) = H5 at *
  refine ⟨L, hL, sa, v, pl, pl + ee, low, ns, rfl, e5, ht4.same t5, hw, by omega, by omega, by omega, fun u H6 s6 hu => ?_⟩
  have s46 := t5.trans s6
  refine ⟨_, rfl, _, rfl, _, rfl, _, rfl, _, rfl, r, _, rfl, SqL.of (s46 _ _ hr4), fun q5 hq5 => ?_⟩
  rw [q489 _ _ _ (by omega) (by omega), show (ns.take (pl + ee)).drop pl = segI ns pl (pl + ee) from rfl]
  have hcl : (segI ns pl (pl + ee)).length <= ns.length := by
   unfold segI
   rw [List.length_drop, List.length_take]
   omega
  have hcw : Wths low L (segI ns pl (pl + ee)) := fun y hy => hw y (List.mem_of_mem_take (List.mem_of_mem_drop hy))
  have hqp : q5 ≠ pen := (P4.same s46).fresh hq5
  have t9 := q15 hq5 (.lst ((segI ns pl (pl + ee)).map V.int))
  have e9 : upd H6 q5 (.lst ((segI ns pl (pl + ee)).map V.int)) q5 = some (.lst ((segI ns pl (pl + ee)).map V.int)) := q13
  generalize upd H6 q5 (.lst ((segI ns pl (pl + ee)).map V.int)) = H9 at *
  refine ⟨szb rfl, fun tp htp => ?_⟩
  have s39 := Same.trans s46 t9
  have t10 := q15 htp (.tup [u, .ref q5])
  exact q tp q5 u _ _ (k04.trans (.same (s39.trans t10))) (P4.same (s39.trans t10)) q13 (hu.same (t9.trans t10)) (t10 _ _ e9) hqp hcw (.inl (by omega))
end
theorem q456 (p : P2) (ss : List P2) : ledT (p :: ss) = List.replicate p.2.toNat p.1 ++ ledT ss := rfl
theorem q525 {ss : List P2} {x : Int} (h : x ∈ ledT ss) : ∃ m, (x, m) ∈ ss := by
 obtain ⟨p, hp, hx⟩ := List.mem_flatMap.mp h
 have e := List.eq_of_mem_replicate hx
 exact ⟨p.2, by rw [e]; exact hp⟩
theorem q666 {ss : List P2} {x : Int} (h : ∀ m, (x, m) ∉ ss) : (ledT ss).count x = 0 := List.count_eq_zero.mpr fun z => by
 obtain ⟨m, hm⟩ := q525 z
 exact h m hm
theorem q526 : ∀ (ss : List P2), (ss.Pairwise fun p q => p.1 < q.1) -> ∀ (x m : Int), (x, m) ∈ ss -> (ledT ss).count x = m.toNat
 | [], _, x, m, h => absurd h (by simp)
 | p :: ss, hr, x, m, h => by
  obtain ⟨h1, h2⟩ := List.pairwise_cons.mp hr
  rw [q456, List.count_append, List.count_replicate]
  rcases List.mem_cons.mp h with e | e
  ·rw [<- e]
   have : (ledT ss).count x = 0 := q666 fun k hk => by
    have := h1 _ hk
    rw [<- e] at this
    exact absurd this (Int.lt_irrefl _)
   rw [this]
   simp
  ·have hlt := h1 _ e
   have hne : (p.1 == x) = false := by
    rw [beq_eq_false_iff_ne]
    exact Int.ne_of_lt hlt
   rw [hne, q526 ss h2 x m e]
   simp
theorem q174 {L : Nat} {low : Int} {us : List Int} (hin : InO L us) : (ledT (stp L low us)).Perm (us.map fun o => low + o) := by
 rw [List.perm_iff_count]
 intro x
 have e : (us.map fun o => low + o).count x = us.count (x - low) := by
  rw [List.count_eq_countP, List.count_eq_countP, List.countP_map]
  refine List.countP_congr fun o _ => ?_
  show (low + o == x) = true ↔ (o == x - low) = true
  rw [beq_iff_eq, beq_iff_eq]
  omega
 rw [e]
 by_cases h : us.count (x - low) = 0
 ·rw [h]
  refine q666 fun m hm => ?_
  have := (q220 L low us hin x m).mp hm
  omega
 ·rw [q526 (stp L low us) (q122 L low us hin) x ((us.count (x - low) : Nat) : Int) ((q220 L low us hin x _).mpr ⟨rfl, by omega⟩)]
  omega
theorem q457 : ∀ (ss : List P2), (ss.Pairwise fun p q => p.1 < q.1) -> (ledT ss).Pairwise (· <= ·)
 | [], _ => List.Pairwise.nil
 | p :: ss, hr => by
  obtain ⟨h1, h2⟩ := List.pairwise_cons.mp hr
  rw [q456, List.pairwise_append]
  refine ⟨List.pairwise_replicate.mpr (.inr (Int.le_refl _)), q457 ss h2, fun a ha b hb => ?_⟩
  rw [List.eq_of_mem_replicate ha]
  obtain ⟨m, hm⟩ := q525 hb
  exact Int.le_of_lt (h1 _ hm)
theorem q667 : ∀ {a b : List P2}, a.Pairwise (fun p q => p.1 < q.1) -> b.Pairwise (fun p q => p.1 < q.1) -> (∀ p, p ∈ a ↔ p ∈ b) -> a = b
 | [], [], _, _, _ => rfl
 | [], y :: b, _, _, h => absurd ((h y).mpr List.mem_cons_self) (by simp)
 | x :: a, [], _, _, h => absurd ((h x).mp List.mem_cons_self) (by simp)
 | x :: a, y :: b, ha, hb, h => by
  obtain ⟨a1, a2⟩ := List.pairwise_cons.mp ha
  obtain ⟨b1, b2⟩ := List.pairwise_cons.mp hb
  have e : x = y := by
   rcases List.mem_cons.mp ((h x).mp List.mem_cons_self) with e | hx
   ·exact e
   ·rcases List.mem_cons.mp ((h y).mpr List.mem_cons_self) with e | hy
    ·exact e.symm
    ·have := b1 x hx
     have := a1 y hy
     omega
  subst e
  refine congrArg (x :: ·) (q667 a2 b2 fun p => ⟨fun hp => ?_, fun hp => ?_⟩)
  ·rcases List.mem_cons.mp ((h p).mp (List.mem_cons_of_mem _ hp)) with e | hx
   ·have := a1 p hp
    rw [e] at this
    omega
   ·exact hx
  ·rcases List.mem_cons.mp ((h p).mpr (List.mem_cons_of_mem _ hp)) with e | hx
   ·have := b1 p hp
    rw [e] at this
    omega
   ·exact hx
theorem cnt_one {ws us : List Int} {low n : Int} (h : ws.Perm (us.map fun o => low + o)) : ws.count n = us.count (n - low) := by
 rw [h.count_eq, List.count_eq_countP, List.countP_map, List.count_eq_countP]
 refine List.countP_congr fun o _ => ?_
 show (low + o == n) = true ↔ (o == n - low) = true
 rw [beq_iff_eq, beq_iff_eq]
 omega
theorem q668 {w : Int} : ∀ (ns a : List Int), w ∈ ns.foldl TS.stD a ↔ w ∈ a \/ w ∈ ns
 | [], a => by simp
 | n :: ns, a => by
  rw [List.foldl_cons, q668 ns]
  have e : w ∈ TS.stD a n ↔ w ∈ a \/ w = n := by
   unfold TS.stD
   split
   ·rename_i h
    obtain ⟨x, hx, e⟩ := List.any_eq_true.mp h
    cases beq_iff_eq.mp e
    exact ⟨.inl, fun z => z.elim id fun z => by rw [z]; exact hx⟩
   ·rw [List.mem_append, List.mem_singleton]
  rw [e, List.mem_cons, or_assoc]
def withM (ws ms : List Int) : List P2 := ms.map fun w => (w, ((ws.count w : Nat) : Int))
theorem withM_ca {L : Nat} {low : Int} {us ws ms : List Int} (hin : InO L us) (hws : ws.Perm (us.map fun o => low + o)) (hm : ∀ w, w ∈ ms ↔ w ∈ ws) (hs : ms.Pairwise (· < ·)) : withM ws ms = caF 1 0 L low us := by
 refine q667 ?_ (q122 L low us hin) fun ⟨x, m⟩ => ?_
 ·unfold withM
  rw [List.pairwise_map]
  exact hs
 ·rw [q220 L low us hin x m, <- cnt_one hws]
  unfold withM
  rw [List.mem_map]
  constructor
  ·rintro ⟨y, hy, e⟩
   have hc := List.count_pos_iff.mpr ((hm y).mp hy)
   cases e
   exact ⟨rfl, by omega⟩
  ·rintro ⟨rfl, h⟩
   exact ⟨x, (hm x).mpr (List.count_pos_iff.mp (by omega)), rfl⟩
theorem q527 {x : Int} : ∀ {W : List Int} {k : Nat}, W.Pairwise (· <= ·) -> W.countP (fun y => decide (y < x)) <= k -> k < W.countP (fun y => decide (y < x + 1)) -> W[k]? = some x
 | [], k, _, _, h2 => absurd h2 (by simp)
 | a :: W, k, hs, h1, h2 => by
  obtain ⟨ha, hs'⟩ := List.pairwise_cons.mp hs
  rw [List.countP_cons] at h1 h2
  by_cases c1 : a < x
  ·rw [if_pos (decide_eq_true c1)] at h1
   rw [if_pos (decide_eq_true (by omega))] at h2
   cases k with
   | zero => omega
   | succ k => rw [List.getElem?_cons_succ]; exact q527 hs' (by omega) (by omega)
  ·rw [if_neg (fun z => c1 (of_decide_eq_true z))] at h1
   have z0 : W.countP (fun y => decide (y < x)) = 0 := List.countP_eq_zero.mpr fun y hy z => by
    have := ha y hy
    have := of_decide_eq_true z
    omega
   by_cases c2 : a < x + 1
   ·rw [if_pos (decide_eq_true c2)] at h2
    cases k with
    | zero => rw [List.getElem?_cons_zero]; congr 1; omega
    | succ k => rw [List.getElem?_cons_succ]; exact q527 hs' (by omega) (by omega)
   ·rw [if_neg (fun z => c2 (of_decide_eq_true z))] at h2
    have z1 : W.countP (fun y => decide (y < x + 1)) = 0 := List.countP_eq_zero.mpr fun y hy z => by
     have := ha y hy
     have := of_decide_eq_true z
     omega
    omega
theorem srt_lt {x : Int} : ∀ {W : List Int} {m : Nat}, W.Pairwise (· <= ·) -> m < W.countP (fun y => decide (y < x)) -> ∃ y, W[m]? = some y /\ y < x
 | [], m, _, h => absurd h (by simp)
 | a :: W, m, hs, h => by
  obtain ⟨ha, hs'⟩ := List.pairwise_cons.mp hs
  rw [List.countP_cons] at h
  by_cases c1 : a < x
  ·rw [if_pos (decide_eq_true c1)] at h
   cases m with
   | zero => exact ⟨a, rfl, c1⟩
   | succ m => rw [List.getElem?_cons_succ]; exact srt_lt hs' (by omega)
  ·have z0 : W.countP (fun y => decide (y < x)) = 0 := List.countP_eq_zero.mpr fun y hy z => by
    have := ha y hy
    have := of_decide_eq_true z
    omega
   rw [if_neg (fun z => c1 (of_decide_eq_true z))] at h
   omega
theorem q329 {L : Nat} {low : Int} {us : List Int} (hin : InO L us) (o : Int) : (ledT (stp L low us)).countP (fun y => decide (y < low + o)) = ltC us o := by
 rw [(q174 hin).countP_eq, List.countP_map]
 refine List.countP_congr fun y _ => ?_
 show decide (low + y < low + o) = true ↔ decide (y < o) = true
 rw [decide_eq_true_eq, decide_eq_true_eq]
 omega
theorem led_len {L : Nat} {low : Int} {us : List Int} (hin : InO L us) : (ledT (stp L low us)).length = us.length := by
 rw [(q174 hin).length_eq, List.length_map]
theorem q259 {L : Nat} {low : Int} {us : List Int} (hin : InO L us) : (ledT (stp L low us)).Pairwise (· <= ·) := q457 _ (q122 L low us hin)
theorem q491 {L : Nat} {low : Int} {us : List Int} (hin : InO L us) {k : Nat} (hk : k < us.length) : (ledT (stp L low us))[k]? = some (low + kth L us k) := by
 obtain ⟨c1, c2⟩ := q168 L us k hin hk
 refine q527 (q259 hin) (by rw [q329 hin]; exact c1) ?_
 have e := q329 (low := low) hin (kth L us k + 1)
 rw [show low + kth L us k + 1 = low + (kth L us k + 1) by omega, e]
 exact c2
theorem q669 {L : Nat} {low : Int} {us : List Int} (hin : InO L us) : ∀ k, k <= us.length -> sumF L low us k = ((ledT (stp L low us)).take k).sum
 | 0, _ => by rw [q223]; rfl
 | k + 1, h => by
  have ih := q669 (low := low) hin k (by omega)
  have st := q310 L low us k
  rw [List.take_add_one, q491 hin (by omega), List.sum_append]
  show _ = _ + (low + kth L us k + 0)
  omega
theorem led_idx {L : Nat} {low o : Int} {us : List Int} (hin : InO L us) (ho : 0 < us.count o) : (ledT (stp L low us))[ltC us o]? = some (low + o) /\ ∀ m, m < ltC us o -> ∃ y, (ledT (stp L low us))[m]? = some y /\ y < low + o := by
 constructor
 ·refine q527 (q259 hin) (by rw [q329 hin]; exact Nat.le_refl _) ?_
  have e := q329 (low := low) hin (o + 1)
  rw [show low + o + 1 = low + (o + 1) by omega, e, q147]
  omega
 ·intro m hm
  exact srt_lt (q259 hin) (by rw [q329 hin]; exact hm)
theorem led_btw {low w0 : Int} {us : List Int} (o : Int) (h0 : ∀ x ∈ us, w0 <= low + x) : us.countP (btw low w0 (low + o)) = us.countP fun x => decide (x < low + o + 1 - low) := by
 refine List.countP_congr fun x hx => ?_
 have := h0 x hx
 unfold btw
 rw [decide_eq_true_eq, decide_eq_true_eq]
 omega
theorem q670 {wt : Int} : ∀ {ss : List P2} {p : P2}, (ss.Pairwise fun p q => p.1 < q.1) -> p ∈ ss -> p.1 < wt -> (∀ q ∈ ss, q.1 < wt -> q.1 <= p.1) -> ss.reverse.find? (fun q => decide (q.1 < wt)) = some p
 | [], p, _, h, _, _ => absurd h (by simp)
 | a :: ss, p, hs, hp, hw, hl => by
  obtain ⟨ha, hs'⟩ := List.pairwise_cons.mp hs
  rw [List.reverse_cons, List.find?_append]
  rcases List.mem_cons.mp hp with rfl | hp
  ·have : ss.reverse.find? (fun q => decide (q.1 < wt)) = none := List.find?_eq_none.mpr fun q hq z => by
    have hq' := List.mem_reverse.mp hq
    have := ha q hq'
    have := hl q (List.mem_cons_of_mem _ hq') (of_decide_eq_true z)
    omega
   rw [this, List.find?_cons, decide_eq_true hw]
   rfl
  ·rw [q670 hs' hp hw fun q hq => hl q (List.mem_cons_of_mem _ hq)]
   rfl
theorem led_mem {L : Nat} {low x : Int} {us : List Int} (hin : InO L us) : x ∈ ledT (stp L low us) ↔ (x, (((ledT (stp L low us)).count x : Nat) : Int)) ∈ stp L low us := by
 have e : (ledT (stp L low us)).count x = us.count (x - low) := by
  rw [(q174 hin).count_eq, List.count_eq_countP, List.count_eq_countP, List.countP_map]
  refine List.countP_congr fun o _ => ?_
  show (low + o == x) = true ↔ (o == x - low) = true
  rw [beq_iff_eq, beq_iff_eq]
  omega
 rw [e]
 have h := q220 L low us hin x ((us.count (x - low) : Nat) : Int)
 rw [show stp L low us = caF 1 0 L low us from rfl] at *
 rw [h, <- e]
 constructor
 ·intro z
  exact ⟨rfl, by have := List.count_pos_iff.mpr z; omega⟩
 ·rintro ⟨_, z⟩
  exact List.count_pos_iff.mp (by omega)
theorem led_down {L : Nat} {low wt : Int} {us : List Int} (hin : InO L us) {lo : List Int} (hlo : lo = (ledT (stp L low us)).filter fun y => decide (y < wt)) :
  (lo = [] -> (stp L low us).reverse.find? (fun q => decide (q.1 < wt)) = none) /\ ∀ x ls, lo = ls ++ [x] -> (stp L low us).reverse.find? (fun q => decide (q.1 < wt)) = some (x, (((ledT (stp L low us)).count x : Nat) : Int)) := by
 have hin2 : ∀ q ∈ stp L low us, q.1 ∈ ledT (stp L low us) := fun q hq => by
  obtain ⟨_, _, h3, _⟩ := q166 hin hq
  refine List.mem_flatMap.mpr ⟨q, hq, List.mem_replicate.mpr ⟨by omega, rfl⟩⟩
 constructor
 ·intro e
  refine List.find?_eq_none.mpr fun q hq z => ?_
  have : q.1 ∈ lo := by rw [hlo]; exact List.mem_filter.mpr ⟨hin2 q (List.mem_reverse.mp hq), z⟩
  rw [e] at this
  cases this
 ·intro x ls e
  have hx : x ∈ lo := by rw [e]; simp
  rw [hlo] at hx
  obtain ⟨hx1, hx2⟩ := List.mem_filter.mp hx
  refine q670 (q122 L low us hin) ((led_mem hin).mp hx1) (of_decide_eq_true hx2) fun q hq hq2 => ?_
  have hq3 : q.1 ∈ lo := by rw [hlo]; exact List.mem_filter.mpr ⟨hin2 q hq, decide_eq_true hq2⟩
  have hsr : lo.Pairwise (· <= ·) := by rw [hlo]; exact (q259 hin).filter _
  rw [e] at hq3 hsr
  rcases List.mem_append.mp hq3 with h | h
  ·exact (List.pairwise_append.mp hsr).2.2 _ h _ (List.mem_singleton.mpr rfl)
  ·rw [List.mem_singleton.mp h]
   exact Int.le_refl _
def lx (p q : Int × Int) : Prop := p.1 < q.1 \/ (p.1 = q.1 /\ p.2 <= q.2)
theorem many_top {ss vs : List P2} (hss : ss.Pairwise fun p q => p.1 < q.1) (hne : ss ≠ []) (hp : vs.Perm (ss.map fun p => (-p.2, p.1))) (ho : vs.Pairwise lx) : ∃ r vs', bst ss = some r /\ vs = (-r.2, r.1) :: vs' := by
 obtain ⟨r, hb, hr, hmax, hfst⟩ := bst_some hne
 have hmem : (-r.2, r.1) ∈ vs := hp.mem_iff.mpr (List.mem_map.mpr ⟨r, hr, rfl⟩)
 cases vs with
 | nil => cases hmem
 | cons a vs' =>
  refine ⟨r, vs', hb, ?_⟩
  obtain ⟨h1, _⟩ := List.pairwise_cons.mp ho
  obtain ⟨q, hq, e⟩ := List.mem_map.mp (hp.mem_iff.mp (List.mem_cons_self (a := a) (l := vs')))
  subst e
  have hq2 := hmax q hq
  rcases List.mem_cons.mp hmem with e | e
  ·rw [e]
  ·have hl := h1 _ e
   have e2 : q.2 = r.2 := by
    rcases hl with hl | hl
    ·have hl' : -q.2 < -r.2 := hl
     omega
    ·have hl' : -q.2 = -r.2 := hl.1
     omega
   have e1 : q.1 <= r.1 := by
    rcases hl with hl | hl
    ·have hl' : -q.2 < -r.2 := hl
     omega
    ·exact hl.2
   have hq3 : q ∈ ss.filter fun p => decide (p.2 = r.2) := List.mem_filter.mpr ⟨hq, decide_eq_true e2⟩
   have hsf : (ss.filter fun p => decide (p.2 = r.2)).Pairwise fun p q => p.1 < q.1 := hss.filter _
   cases hf : ss.filter fun p => decide (p.2 = r.2) with
   | nil => rw [hf] at hq3; cases hq3
   | cons y ys =>
    rw [hf] at hfst hq3 hsf
    obtain rfl : y = r := Option.some.inj hfst
    rcases List.mem_cons.mp hq3 with e3 | e3
    ·rw [e3]
    ·have := (List.pairwise_cons.mp hsf).1 _ e3
     omega
theorem q671 {ss vs ds : List P2} {part len : Int} (hss : ss.Pairwise fun p q => p.1 < q.1) (hp : vs.Perm (ss.map fun p => (-p.2, p.1))) (hd : ds.Perm ((vs.filter fun p => decide (len < 0 - p.1 * part)).map fun p => (p.2, 0 - p.1))) (ho : ds.Pairwise lx) :
  ds = ss.filter fun p => decide (len < p.2 * part) := by
 have h1 : ds.Perm (ss.filter fun p => decide (len < p.2 * part)) := by
  refine hd.trans (((hp.filter _).map _).trans ?_)
  rw [List.filter_map, List.map_map]
  have e1 : (ss.filter ((fun p : P2 => decide (len < 0 - p.1 * part)) ∘ fun p => (-p.2, p.1))) = ss.filter fun p => decide (len < p.2 * part) := by
   refine List.filter_congr fun p _ => ?_
   show decide (len < 0 - -p.2 * part) = decide (len < p.2 * part)
   rw [Int.neg_mul]
   congr 1
   rw [show (0 : Int) - -(p.2 * part) = p.2 * part by omega]
  rw [e1]
  have e2 : ((ss.filter fun p => decide (len < p.2 * part)).map ((fun p : P2 => (p.2, 0 - p.1)) ∘ fun p => (-p.2, p.1))) = ss.filter fun p => decide (len < p.2 * part) := by
   conv => rhs; rw [<- List.map_id (ss.filter fun p => decide (len < p.2 * part))]
   refine List.map_congr_left fun p _ => ?_
   show (p.1, 0 - -p.2) = p
   rw [show (0 : Int) - -p.2 = p.2 by omega]
  rw [e2]
 have hsf : (ss.filter fun p => decide (len < p.2 * part)).Pairwise fun p q => p.1 < q.1 := hss.filter _
 refine q667 ?_ hsf fun p => h1.mem_iff
 have hnd : (ds.map (·.1)).Nodup := (h1.map _).nodup_iff.mpr (by
  rw [List.nodup_iff_pairwise_ne, List.pairwise_map]
  exact hsf.imp fun h => Int.ne_of_lt h)
 rw [List.nodup_iff_pairwise_ne, List.pairwise_map] at hnd
 exact (ho.and hnd).imp fun {p q} h => by
  rcases h.1 with z | z
  ·exact z
  ·exact absurd z.1 h.2
theorem q672 {K : PySem.W.Frag} {H H' : Hp} (k : TKeep H H') {a : Addr} {xs : List V} (h : SqT K H a xs) : SqT K H' a xs := by
 rcases h with (h | ⟨o, h⟩) | h
 ·exact .inl (.inl ((k _ _).1 h))
 ·exact .inl (.inr ⟨o, (k _ _).2 o h⟩)
 ·exact .inr h
theorem pr_tk {K : PySem.W.Frag} {H H' : Hp} (k : TKeep H H') : ∀ {ys : List V} {us : List TS.I2}, Paired (q93 K H) ys us -> Paired (q93 K H') ys us
 | _, _, .nil => .nil
 | _, _, .cons ⟨a, e, h⟩ t => .cons ⟨a, e, q672 k h⟩ (pr_tk k t)
theorem q673 {K : PySem.W.Frag} {H : Hp} {zs : List V} {vs : List TS.I2} (b : Paired (q93 K H) zs vs) : ∀ {ys : List V} {us : List TS.I2}, Paired (q93 K H) ys us -> Paired (q93 K H) (ys ++ zs) (us ++ vs)
 | _, _, .nil => b
 | _, _, .cons h t => .cons h (q673 b t)
theorem q330 {K : PySem.W.Frag} {H : Hp} : ∀ {ys : List V} {us : List TS.I2}, Paired (q93 K H) ys us -> ys.length = us.length
 | _, _, .nil => rfl
 | _, _, .cons h t => by rw [List.length_cons, List.length_cons, q330 t]
theorem q528 {K : PySem.W.Frag} {H : Hp} : ∀ {ys : List V} {us : List TS.I2}, Paired (q93 K H) ys us -> ∀ {i : Nat} {y : V}, ys[i]? = some y -> ∃ u, us[i]? = some u /\ q93 K H y u
 | _, _, .nil, i, y, h => by simp at h
 | _, _, .cons a t, 0, y, h => by cases h; exact ⟨_, rfl, a⟩
 | _, _, .cons a t, i + 1, y, h => by
  obtain ⟨v, h1, h2⟩ := q528 t (i := i) (y := y) (by simpa using h)
  exact ⟨v, by simpa using h1, h2⟩
theorem q674 {K : PySem.W.Frag} {H : Hp} {ys zs : List V} {us vs : List TS.I2} (a : Paired (q93 K H) ys us) (b : Paired (q93 K H) zs vs) (h : (zs.zip vs).Perm (ys.zip us)) : vs.Perm us := by
 have z := h.map Prod.snd
 rw [List.map_snd_zip (by rw [q330 b]; exact Nat.le_refl _), List.map_snd_zip (by rw [q330 a]; exact Nat.le_refl _)] at z
 exact z
theorem ord_lx {vs : List TS.I2} (h : vs.Pairwise fun x y => TS.lex2 y x = false) : vs.Pairwise lx := h.imp fun {x y} z => by
 rcases TS.q236.mp z with z | z
 ·exact .inl z
 ·exact .inr ⟨z.1.symm, z.2⟩
theorem ifB {b : Bool} {A C : Prop} (hb : b = false) (h : C) : if b = true then A else C := by
 rw [hb]
 exact h
theorem ifA {b : Bool} {A C : Prop} (hb : b = true) (h : A) : if b = true then A else C := by
 rw [hb]
 exact h
theorem nde {α : Type} [DecidableEq α] {x y : α} (h : x = y) : (!decide (x = y)) = false := by
 rw [decide_eq_true h]
 rfl
theorem eqV_ne {x y : Int} (h : x ≠ y) : eqV (.int x) (.int y) = false := by
 simp [eqV, h]
theorem q675 {K : PySem.W.Frag} {H : Hp} {p q : Addr} {xs : List V} (h : SqT K H p xs) (h' : SqT K H q xs) (f : xs.all flatV = true) : Alk K H 1 (.ref p) (.ref q) := by
 refine .tup h h' rfl fun j x y h1 h2 => ?_
 rw [h1] at h2
 obtain rfl := Option.some.inj h2
 exact .flat (List.all_eq_true.mp f _ (List.mem_of_getElem? h1))
theorem q676 : ∀ (ns a : List Int), (ns.foldl TS.stD a).length <= a.length + ns.length
 | [], a => Nat.le_refl _
 | n :: ns, a => by
  have h := q676 ns (TS.stD a n)
  have h2 : (TS.stD a n).length <= a.length + 1 := by
   unfold TS.stD
   split
   ·omega
   ·rw [List.length_append]; exact Nat.le_refl _
  rw [List.foldl_cons, List.length_cons]
  omega
abbrev q151 : Nat := 47
inductive isp__law_agrees (u0 : PySem.W.Frag) (vs : List V) (H : Hp) (Q : VK) (E : XK) : Prop
 | mk (pen b ga : Addr) (xs : List V) (low : Int) (L : Nat) (gs : List G3) (hz0 : vs = [.ref pen, .ref b, .ref ga]) (hz1 : PenN H pen) (hz2 : H b = some (.tup [.int low, .int (L : Int)])) (hz3 : L <= 40) (hz4 : H ga = some (.lst xs)) (hz5 : ga ≠ pen) (hz6 : GatAt H L xs gs) (hz7 : (∀ g ∈ gs, GoodS L g)) (hz8 : gs.length <= 90) (hz9 : (Wh gs).length <= 63) (hz10 : ∀ H' : Hp, Keep pen H H' -> PenN H' pen -> Q (.bl true) H') : isp__law_agrees u0 vs H Q E
def q125 (u0 : PySem.W.Frag) : Sp := isp__law_agrees u0
section
variable {P : Program} {w : World} {K : PySem.W.Frag} {mg : Str -> Option Value} {base : Heap}
theorem q342 (d : Def K mg "_law_agrees" q59 ["_law_pen_here", "_law_bounds_here", "_law_gathering"]) (z : Bz mg) (c__law_led_through : Cal P w K mg base q53 "_law_led_through" ["_law_bounds_here", "_law_gathering"] (q50 K)) (c__law_take : Cal P w K mg base q70 "_law_take" ["_law_pen_here", "_law_size"] (q56 K)) (c_below : Cal P w K mg base q248 "below" ["bounds", "gathering", "number"] (q180 K)) (q51 : Cal P w K mg base q308 "between" ["bounds", "gathering", "low", "high"] (q249 K)) (c_most : Cal P w K mg base q654 "most" ["bounds", "gathering"] (q484 K)) (c_next_down : Cal P w K mg base q200 "next_down" ["bounds", "gathering", "number"] (q169 K)) (c_nth_least : Cal P w K mg base q203 "nth_least" ["bounds", "gathering", "k"] (q171 K)) (c_number_at : Cal P w K mg base q109 "number_at" ["bounds", "tree", "place"] (q90 K)) (c_often : Cal P w K mg base q483 "often" ["bounds", "gathering", "part"] (q392 K)) (c_rank_of : Cal P w K mg base q314 "rank_of" ["bounds", "gathering", "j", "place"] (q252 K)) (c_sum_of_least : Cal P w K mg base q124 "sum_of_least" ["bounds", "gathering", "k"] (q110 K)) : Cal P w K mg base q151 "_law_agrees" ["_law_pen_here", "_law_bounds_here", "_law_gathering"] (q125 K) := by
 have sc := q336
 refine d.cal fun f fd F => F.ok sc (fun vs H Q E h => ?_) (fun cdv A outer s H vs Q E hr h => ?_)
 ·obtain ⟨pen, b, ga, xs, low, L, gs, rfl, _⟩ := h
  rfl
 obtain ⟨pen, b, ga, xs, low, L, gs, rfl, P0, hb, hL, hga, ngp, hG, good, h90, hWl, q⟩ := h
 refine ⟨_, (q11 (q19 (i := 3) sc.nd rfl (Or.inr rfl) (pe_fn c__law_led_through (hr.mono (by decide)) (by rfl) (q10 (pv 1) (q10 (pv 2) q12))))
 (q11 (ps_if (q17 (q602 hr.units) (pv 3) (q55 q12) (q20 _))
 (q16 (q21 (pe_and (q362 q156 (pe_fn c_most (hr.mono (by decide)) (by rfl) (q10 (pv 1) (q10 (pv 2) q12))) q63 (q20 _)) (pe_one (q362 q156 (pe_fn c_next_down (hr.mono (by decide)) (by rfl) (q10 (pv 1) (q10 (pv 2) (q10 (pe_op q496 q14 q14) q12)))) q63 (q20 _))))))
 q23)
 (q11 (q152 PassesOwn.never rfl (q126 rfl z.range_ (q10 q14 q12)) (q48 (i := 4) sc.nd rfl (Or.inl rfl))
 (q11 (q19 (i := 5) sc.nd rfl (Or.inl rfl) (pe_fn c__law_take (hr.mono (by decide)) (by rfl) (q10 (pv 0) (q10 (q26 q24 (by rfl) z.len_ q62 (q10 (pv 3) q12)) q12))))
 (q11 (q400 (pe_fn c_nth_least (hr.mono (by decide)) (by rfl) (q10 (pv 1) (q10 (pv 2) (q10 (pv 5) q12)))) (q493 rfl (q94 (q48 (i := 6) sc.nd rfl (Or.inr rfl)) (q94 (q48 (i := 7) sc.nd rfl (Or.inl rfl)) (q94 (q48 (i := 8) sc.nd rfl (Or.inl rfl)) q359)))))
 (q11 (ps_if (PW.pt (pw_or (q17 op_ne (pv 6) (pe_ix q35 (pv 3) (pv 5) (fun _ _ => rfl)) (q20 _)) (q92 (q17 op_ne (pe_fn c_number_at (hr.mono (by decide)) (by rfl) (q10 (pv 1) (q10 (pe_ix q22 (pe_ix q35 (pv 2) (pv 7) (fun _ _ => rfl)) q14 (fun _ _ => rfl)) (q10 (pv 8) q12)))) (pv 6) (q20 _)))))
 (q16 (q21 pe_bl))
 q23)
 (q11 (ps_if (PW.pt (pw_or (q17 op_ne (pe_fn c_rank_of (hr.mono (by decide)) (by rfl) (q10 (pv 1) (q10 (pv 2) (q10 (pv 7) (q10 (pv 8) q12))))) (pv 5) (q20 _)) (q92 (q17 op_ne (pe_fn c_sum_of_least (hr.mono (by decide)) (by rfl) (q10 (pv 1) (q10 (pv 2) (q10 (pv 5) q12)))) (q26 (q412 rfl) (by rfl) z.sum_ bt_sum (q10 (q41 q117 (pv 3) q52 (q44 (pv 5))) q12)) (q20 _)))))
 (q16 (q21 pe_bl))
 q23)
 (q11 (ps_if (q17 op_ne (pe_fn c_below (hr.mono (by decide)) (by rfl) (q10 (pv 1) (q10 (pv 2) (q10 (pv 6) q12)))) (pe_bm PySem.F.plainAttrs_list PySem.F.slot_list_index PySem.F.type_list_index q627 (pv 3) (q10 (pv 6) q12)) (q20 _))
 (q16 (q21 pe_bl))
 q23)
 (q11 (ps_if (q17 op_ne (pe_fn q51 (hr.mono (by decide)) (by rfl) (q10 (pv 1) (q10 (pv 2) (q10 (pe_ix q35 (pv 3) q14 (fun _ _ => rfl)) (q10 (pv 6) q12))))) (pe_fn c_below (hr.mono (by decide)) (by rfl) (q10 (pv 1) (q10 (pv 2) (q10 (pe_op q29 (pv 6) q14) q12)))) (q20 _))
 (q16 (q21 pe_bl))
 q23)
 (q11 (q409 (i := 9) (cl := [("_law_worth", s.heap.objs.size + 1 + 1)]) (cn := ["_law_worth"]) (N := ["_law_worth"]) (fr := [6]) (sc0 := q18 q59) sc.nd rfl (Or.inl rfl) rfl (q91 (pv 3)) (fun C s₂ H₂ fp => (pv 0)) (fun C s₂ H₂ fp => (q17 op_lt (pv 0) (pv 1) (q20 _))) (by with_unfolding_all rfl) ⟨by with_unfolding_all rfl, trivial⟩ rfl rfl rfl ⟨by decide +kernel, by decide +kernel, by decide +kernel, by decide +kernel, by decide +kernel, by decide +kernel, by decide +kernel⟩ rfl (by with_unfolding_all rfl) (.inl rfl))
 (q11 (q19 (i := 10) sc.nd rfl (Or.inl rfl) (pe_fn c_next_down (hr.mono (by decide)) (by rfl) (q10 (pv 1) (q10 (pv 2) (q10 (pv 6) q12)))))
 (q16 (ps_if (PW.pt (pw_or (PW.pt (q278 (q17 (q602 hr.units) (pv 9) (q55 q12) (q20 _)) (q229 (q17 q585 (pv 10) q63 (q20 _))))) (q92 (PW.pt (q278 (q17 (q600 hr.units) (pv 9) (q55 q12) (q20 _)) (q229 (q17 (q507 hr.units) (pv 10) (q27 (q10 (pe_ix q35 (pv 9) (pe_un q401 q14) (fun _ _ => rfl)) (q10 (pe_bm PySem.F.plainAttrs_list PySem.F.slot_list_count PySem.F.type_list_count (q420 (K := K) rfl) (pv 3) (q10 (pe_ix q35 (pv 9) (pe_un q401 q14) (fun _ _ => rfl)) q12)) q12))) (q20 _))))))))
 (q16 (q21 pe_bl))
 q23)))))))))))
 (q11 (q19 (i := 11) sc.nd rfl (Or.inl rfl) (q26 (q212 (K := K) rfl) (by rfl) z.sorted_ q208 (q10 (q232 (cl := [("_law_whole", s.heap.objs.size + 1 + 0)]) (cn := ["_law_whole"]) (N := ["_law_whole"]) (fr := [3]) (sc0 := q18 q59) rfl (q91 (q26 (q374 rfl (P := P) (w := w) rfl rfl) (by rfl) z.sorted_ q208 (q10 (q128 (q617 rfl (K := K) (P := P) (w := w) rfl rfl rfl) (by rfl) z.set_ bt_set (q10 (pv 3) q12)) q12))) (fun C s₂ H₂ fp => (q27 (q10 (pe_op q54 q14 (pe_bmK (K := K) rfl PySem.F.plainAttrs_list PySem.F.slot_list_count PySem.F.type_list_count (q420 (K := K) rfl) (pv 1) (q10 (pv 0) q12))) (q10 (pv 0) q12)))) (by with_unfolding_all rfl) ⟨by with_unfolding_all rfl, trivial⟩ rfl rfl rfl ⟨by decide +kernel, by decide +kernel, by decide +kernel, by decide +kernel, by decide +kernel, by decide +kernel, by decide +kernel⟩ rfl) q12)))
 (q11 (ps_if (q17 (q507 hr.units) (pe_fn c_most (hr.mono (by decide)) (by rfl) (q10 (pv 1) (q10 (pv 2) q12))) (q27 (q10 (pe_ix q22 (pe_ix q35 (pv 11) q14 (fun _ _ => rfl)) q14 (fun _ _ => rfl)) (q10 (pe_op q54 q14 (pe_ix q22 (pe_ix q35 (pv 11) q14 (fun _ _ => rfl)) q14 (fun _ _ => rfl))) q12))) (q20 _))
 (q16 (q21 pe_bl))
 q23)
 (q11 (q19 (i := 12) sc.nd rfl (Or.inr rfl) (pe_op q29 q14 (pe_fn c__law_take (hr.mono (by decide)) (by rfl) (q10 (pv 0) (q10 q14 q12)))))
 (q11 (q19 (i := 13) sc.nd rfl (Or.inl rfl) (q26 (q212 (K := K) rfl) (by rfl) z.sorted_ q208 (q10 (pe_compG (x := "_law_many") (cl := [("_law_whole", s.heap.objs.size + 1 + 0), ("_law_part", s.heap.objs.size + 1 + 2)]) (cn := ["_law_whole", "_law_part"]) (TN := ["_law_one"]) (N := ["_law_part", "_law_whole"]) (fr := [12, 3]) (sc0 := q18 q59) rfl (q91 (pv 11)) (fun C s₂ H₂ fp => (q27 (q10 (pv 1) (q10 (pe_op q54 q14 (pv 0)) q12)))) (fun C s₂ H₂ fp => pts_one (q17 op_gt (pe_op q54 q14 (pe_op q101 (pv 0) (pv 2))) (q26 (q603 (K := K) rfl) (by rfl) z.len_ q62 (q10 (pv 3) q12)) (q20 _))) (fun C s₂ H₂ fp => (pg_tupK (K := K) (n := 2) rfl rfl (q94 (q48 (i := 0) (show (["_law_many", "_law_one", "_law_part", "_law_whole"] : List Str).Nodup by decide +kernel) rfl (Or.inl rfl)) (q94 (q48 (i := 1) (show (["_law_many", "_law_one", "_law_part", "_law_whole"] : List Str).Nodup by decide +kernel) rfl (Or.inl rfl)) q359)))) (by with_unfolding_all rfl) ⟨by with_unfolding_all rfl, by with_unfolding_all rfl, trivial⟩ rfl rfl rfl ⟨by decide +kernel, by decide +kernel, by decide +kernel, by decide +kernel⟩ rfl) q12)))
 (q16 (q21 (q362 (op_eqAlk hr.units) (pe_fn c_often (hr.mono (by decide)) (by rfl) (q10 (pv 1) (q10 (pv 2) (q10 (pv 12) q12)))) (pv 13) (q20 _))))))))))), ?_⟩
 have hin : InO L (Wh gs) := W_in good
 obtain ⟨pc, hpc⟩ := P0.at
 have TK : ∀ {G : Hp}, Keep pen H G -> TKeep H G := fun k => .keep k hpc
 have BG : ∀ {G : Hp}, Keep pen H G -> SqT K G b [.int low, .int (L : Int)] := fun k => SqT.of ((TK k _ _).1 hb)
 have GG : ∀ {G : Hp}, Keep pen H G -> G ga = some (.lst xs) := fun k => k _ _ ngp hga
 have HG : ∀ {G : Hp}, Keep pen H G -> GatAt G L xs gs := fun k => hG.tk (TK k)
 refine ⟨_, rfl, _, rfl, b, ga, xs, low, L, gs, rfl, SqT.of hb, hL, hga, hG, good, by omega, by omega, fun H1 D s1 e1 n1 => ?_⟩
 have nDp : D ≠ pen := P0.fresh n1
 have hlen := led_len (low := low) hin
 have hsrt := q259 (low := low) hin
 have hprm := q174 (low := low) hin
 obtain ⟨W, hW⟩ : ∃ W, W = ledT (stp L low (Wh gs)) := ⟨_, rfl⟩
 rw [<- hW] at e1 hlen hsrt hprm
 have hlm : (W.map V.int).length = W.length := List.length_map _
 refine ⟨_, rfl, szb rfl, fun z0 hz0 => ?_⟩
 have s2 : Same H1 (upd H1 z0 (.lst [])) := q15 hz0 _
 have e2 : upd H1 z0 (.lst []) z0 = some (.lst []) := q13
 generalize upd H1 z0 (.lst []) = H2 at *
 have k2 : Keep pen H H2 := Keep.same (s1.trans s2)
 have P2 : PenN H2 pen := P0.same (s1.trans s2)
 have eD2 := s2 _ _ e1
 refine ⟨D, z0, W, [], rfl, rfl, SqL.of eD2, SqL.of e2, _, rfl, ite2 (fun c => ?_) (fun c => ?_)⟩
 ·have hn : W = [] := of_decide_eq_true c
  have hu : Wh gs = [] := List.eq_nil_of_length_eq_zero (by rw [<- hlen, hn]; rfl)
  have hst : stp L low (Wh gs) = [] := List.eq_nil_of_length_eq_zero (by have := q665 (low := low) hin; rw [hu] at this; simpa [hu] using this)
  refine ⟨_, rfl, _, rfl, b, ga, xs, low, L, gs, rfl, BG k2, hL, SqL.of (GG k2), HG k2, good, by omega, by omega, fun H3 v s3 hv => ?_⟩
  have hst' : caF 1 0 L low (Wh gs) = [] := hst
  rw [hst'] at hv
  obtain rfl : v = .non := hv
  have k3 := k2.trans (Keep.same s3)
  refine ⟨rfl, _, rfl, ifA (decide_eq_true rfl) ?_⟩
  refine ⟨_, rfl, _, rfl, _, _, rfl, rfl, ⟨by decide, by decide, by decide⟩, b, ga, xs, low, _, L, gs, rfl, BG k3, hL, GG k3, HG k3, good, by omega, by omega, fun v4 H4 s4 hv4 => ?_⟩
  rw [hst] at hv4
  obtain rfl : v4 = .non := hv4
  refine ⟨rfl, ?_⟩
  rw [decide_eq_true rfl]
  exact q _ (k3.trans (Keep.same s4)) ((P2.same s3).same s4)
 have hne : W ≠ [] := fun z => c (decide_eq_true z)
 have hpos : 0 < W.length := List.length_pos_iff.mpr hne
 refine ⟨3, rfl, by decide, by decide, q127 (n := 3) (fun i σ G => ∃ (v4 v5 v6 v7 v8 v9 v10 : Option V), σ = [some (.ref pen), some (.ref b), some (.ref ga), some (.ref D), v4, v5, v6, v7, v8, v9, v10, none, none, none] /\ Keep pen H G /\ PenN G pen /\ G D = some (.lst (W.map V.int))) ⟨_, _, _, _, _, _, _, rfl, k2, P2, eD2⟩ ?_ ?_⟩
 ·rintro i σ G hi ⟨v4, v5, v6, v7, v8, v9, v10, rfl, kG, PG, eG⟩
  refine ⟨_, rfl, _, rfl, D, _, rfl, .inl (SqL.of eG), pen, _, rfl, PG, by rw [hlm]; omega, by rw [hlm]; omega, fun kv G1 k1 P1 a1 b1 => ?_⟩
  obtain ⟨k, rfl⟩ := Int.eq_ofNat_of_zero_le a1
  rw [hlm] at b1
  have k01 := kG.trans k1
  have eD1 := k1 _ _ nDp eG
  have hk : k < (Wh gs).length := by omega
  have hkW : W[k]? = some (low + kth L (Wh gs) k) := by rw [hW]; exact q491 hin hk
  refine ⟨_, rfl, _, rfl, _, rfl, b, ga, xs, low, L, k, gs, rfl, BG k01, hL, GG k01, HG k01, good, by omega, by omega, hk, fun p j pl G2 s2' hp hth => ?_⟩
  have k02 := k01.trans (Keep.same s2')
  have eD2' := s2' _ _ eD1
  have P2' := P1.same s2'
  obtain ⟨g, gj, hg1, hg2, hg3, hg4⟩ := hth
  generalize ho : kth L (Wh gs) k = o at *
  refine ⟨p, _, rfl, hp, rfl, _, _, rfl, _, _, rfl, _, _, rfl, rfl, ?_⟩
  have hatk : atI (W.map V.int) (k : Int) = some (.int (low + o)) := q69 (by rw [List.getElem?_map, hkW]; rfl)
  refine ⟨_, rfl, _, rfl, _, rfl, D, _, _, _, rfl, rfl, SqL.of eD2', hatk, rfl, _, rfl, ifB (nde rfl) ?_⟩
  have hGj := (HG k02).2 j
  have hxj : xs[j]? = some (xs.getD j .non) := by
   have h1 := hG.1
   have h2 := (List.getElem?_eq_some_iff.mp gj).1
   rw [List.getD_eq_getElem?_getD, List.getElem?_eq_getElem (by omega)]
   rfl
  obtain ⟨t, u, ht0, ht1, ht2⟩ := hGj _ _ hxj gj
  rw [ht0] at hxj
  have ggd := good g (List.mem_of_getElem? gj)
  refine ⟨_, rfl, _, rfl, _, rfl, ga, _, _, _, rfl, rfl, SqL.of (GG k02), q69 hxj, t, _, _, _, rfl, rfl, SqT.of ht1, rfl, _, rfl, b, u, pl, o, low, L, g.1, rfl, BG k02, hL, ht2, ggd.1, hg3, fun G3 s3 => ?_⟩
  have k03 := k02.trans (Keep.same s3)
  refine ⟨_, rfl, rfl, _, rfl, ifB (nde rfl) ?_⟩
  have hc1 := (q168 L (Wh gs) k hin hk).1
  rw [ho] at hc1
  refine ⟨_, rfl, _, rfl, _, rfl, _, rfl, b, ga, xs, low, o, L, j, pl, gs, g, rfl, BG k03, hL, GG k03, HG k03, good, h90, gj, hg1, hg2, hg3, fun G4 s4 => ?_⟩
  have k04 := k03.trans (Keep.same s4)
  refine ⟨_, rfl, rfl, _, rfl, ifB (nde (by rw [<- hg4]; congr 1; omega)) ?_⟩
  refine ⟨_, rfl, _, rfl, _, rfl, b, ga, xs, low, L, k, gs, rfl, BG k04, hL, SqL.of (GG k04), HG k04, good, by omega, by omega, by omega, fun G5 s5 => ?_⟩
  have k05 := k04.trans (Keep.same s5)
  have s25 := (s3.trans s4).trans s5
  have eD5 := s25 _ _ eD2'
  refine ⟨_, rfl, _, rfl, _, rfl, D, _, rfl, SqL.of eD5, fun q6 hq6 => ?_⟩
  rw [q95]
  have s6 : Same G5 (upd G5 q6 (.lst ((W.take k).map V.int))) := q15 hq6 _
  have e6 : upd G5 q6 (.lst ((W.take k).map V.int)) q6 = some (.lst ((W.take k).map V.int)) := q13
  generalize upd G5 q6 (.lst ((W.take k).map V.int)) = G6 at *
  have k06 := k05.trans (Keep.same s6)
  have eD6 := s6 _ _ eD5
  refine ⟨q6, W.take k, rfl, SqL.of e6, rfl, _, rfl, ifB (nde (by rw [q669 hin k (by omega), <- hW])) ?_⟩
  have hoc : 0 < (Wh gs).count o := List.count_pos_iff.mpr (by
   have : low + o ∈ W := List.mem_of_getElem? hkW
   obtain ⟨y, hy, e⟩ := List.mem_map.mp (hprm.mem_iff.mp this)
   have : y = o := by omega
   rw [<- this]
   exact hy)
  obtain ⟨ix1, ix2⟩ := led_idx (low := low) hin hoc
  rw [<- hW] at ix1 ix2
  have hixl : ltC (Wh gs) o < W.length := (List.getElem?_eq_some_iff.mp ix1).1
  refine ⟨_, rfl, _, rfl, _, rfl, b, ga, xs, low, low + o, L, gs, rfl, BG k06, hL, SqL.of (GG k06), HG k06, good, by omega, fun G7 s7 => ?_⟩
  have k07 := k06.trans (Keep.same s7)
  have eD7 := s7 _ _ eD6
  have eqi : ∀ (m : Nat) (y : Int), W[m]? = some y -> (W.map V.int).getD m .non = .int y := fun m y h => by rw [List.getD_eq_getElem?_getD, List.getElem?_map, h]; rfl
  refine ⟨_, rfl, .inl ⟨rfl, _, SqL.of eD7⟩, _, rfl, D, _, _, ltC (Wh gs) o, rfl, rfl, SqL.of eD7, rfl, List.all_eq_true.mpr (fun v hv => by obtain ⟨y, _, rfl⟩ := List.mem_map.mp hv; rfl), by rw [hlm]; exact hixl, by omega, by rw [eqi _ _ ix1]; exact q503 rfl, fun m hm => ?_, ?_⟩
  ·obtain ⟨y, hy, hlt⟩ := ix2 m hm
   rw [eqi _ _ hy]
   exact eqV_ne (by omega)
  have e7 : ((Wh gs).countP fun x => decide (x < low + o - low)) = ltC (Wh gs) o := by rw [show low + o - low = o by omega]
  rw [e7]
  refine ⟨rfl, _, rfl, ifB (nde rfl) ?_⟩
  have h0W := q491 (low := low) hin (k := 0) (by omega)
  rw [<- hW] at h0W
  have hat0 : atI (W.map V.int) 0 = some (.int (low + kth L (Wh gs) 0)) := q69 (by rw [List.getElem?_map, h0W]; rfl)
  have hmin : ∀ x ∈ Wh gs, low + kth L (Wh gs) 0 <= low + x := fun x hx => by
   have h1 := (q168 L (Wh gs) 0 hin (by omega)).1
   have h2 := List.countP_eq_zero.mp (Nat.le_zero.mp h1) x hx
   have : ¬ x < kth L (Wh gs) 0 := fun z => h2 (decide_eq_true z)
   omega
  refine ⟨_, rfl, _, rfl, _, rfl, D, _, _, _, rfl, rfl, SqL.of eD7, hat0, _, rfl, b, ga, xs, low, _, low + o, L, gs, rfl, BG k07, hL, SqL.of (GG k07), HG k07, good, by omega, fun G8 s8 => ?_⟩
  have k08 := k07.trans (Keep.same s8)
  refine ⟨_, rfl, _, rfl, _, rfl, _, _, rfl, rfl, b, ga, xs, low, low + o + 1, L, gs, rfl, BG k08, hL, SqL.of (GG k08), HG k08, good, by omega, fun G9 s9 => ?_⟩
  have k09 := k08.trans (Keep.same s9)
  have eD9 := (s8.trans s9) _ _ eD7
  refine ⟨rfl, _, rfl, ifB (nde (congrArg (fun n : Nat => V.int (n : Int)) (led_btw o hmin))) ?_⟩
  refine ⟨_, rfl, D, rfl, ⟨_, SqL.of eD9⟩, fun Lw hLw => ?_⟩
  refine q185 (K := K) (ns := W) (p := fun y => decide (y < low + o)) (g := V.int) (SqL.of eD9) hLw (sz (by omega)) (fun n _ H1 Q1 _ q1 => ⟨_, rfl, _, rfl, _, _, rfl, rfl, _, rfl, q1⟩) (fun n _ _ H1 Q1 _ q1 => ⟨_, rfl, q1⟩) ?_
  have sA : Same G9 (upd G9 Lw (.lst ((W.filter fun y => decide (y < low + o)).map V.int))) := q15 hLw _
  have eA : upd G9 Lw (.lst ((W.filter fun y => decide (y < low + o)).map V.int)) Lw = some (.lst ((W.filter fun y => decide (y < low + o)).map V.int)) := q13
  generalize upd G9 Lw (.lst ((W.filter fun y => decide (y < low + o)).map V.int)) = GA at *
  have kA := k09.trans (Keep.same sA)
  have eDA := sA _ _ eD9
  obtain ⟨lo, hlo⟩ : ∃ lo, lo = W.filter fun y => decide (y < low + o) := ⟨_, rfl⟩
  rw [<- hlo] at eA
  have hdn := led_down (low := low) (wt := low + o) hin (lo := lo) (by rw [hlo, hW])
  refine ⟨_, rfl, _, rfl, _, rfl, b, ga, xs, low, low + o, L, gs, rfl, BG kA, hL, GG kA, HG kA, good, by omega, by omega, fun v GB sB hv => ?_⟩
  have kB := kA.trans (Keep.same sB)
  have eB := sB _ _ eA
  have eDB := sB _ _ eDA
  have PB : PenN GB pen := P2'.same ((((((s25.trans s6).trans s7).trans s8).trans s9).trans sA).trans sB)
  refine ⟨_, rfl, szb rfl, fun zC hzC => ?_⟩
  have sC : Same GB (upd GB zC (.lst [])) := q15 hzC _
  have eC : upd GB zC (.lst []) zC = some (.lst []) := q13
  generalize upd GB zC (.lst []) = GC at *
  refine ⟨Lw, zC, lo, [], rfl, rfl, SqL.of (sC _ _ eB), SqL.of eC, _, rfl, ?_⟩
  have fin : ∀ (GE : Hp), Same GC GE -> ∃ v4' v5' v6' v7' v8' v9' v10', (((((([some (.ref pen), some (.ref b), some (.ref ga), some (.ref D), v4, v5, v6, v7, v8, v9, v10, none, none, none].set 4 (some (.int (0 + (i : Int))))).set 5 (some (.int (k : Int)))).set 6 (some (.int (low + o)))).set 7 (some (.int (j : Int)))).set 8 (some (.int (pl : Int)))).set 9 (some (.ref Lw))).set 10 (some v) = [some (.ref pen), some (.ref b), some (.ref ga), some (.ref D), v4', v5', v6', v7', v8', v9', v10', none, none, none] /\ Keep pen H GE /\ PenN GE pen /\ GE D = some (.lst (W.map V.int)) := fun GE s => ⟨_, _, _, _, _, _, _, rfl, (kB.trans (Keep.same sC)).trans (Keep.same s), (PB.same sC).same s, s _ _ (sC _ _ eDB)⟩
  by_cases hl : lo = []
  ·refine ifA (decide_eq_true hl) ?_
   have hv' : v = .non := by rw [hdn.1 hl] at hv; exact hv
   subst hv'
   refine ⟨_, rfl, rfl, _, rfl, ifB (nde rfl) ?_⟩
   refine ⟨_, rfl, szb rfl, fun zD hzD => ?_⟩
   have sD := q15 hzD (.lst [])
   refine ⟨Lw, zD, lo, [], rfl, rfl, SqL.of (sD _ _ (sC _ _ eB)), SqL.of q13, _, rfl, ifB (nde hl) (iteF ?_)⟩
   exact fin _ sD
  ·refine ifB (decide_eq_false hl) (iteF ?_)
   obtain ⟨ls, x, hx⟩ : ∃ ls x, lo = ls ++ [x] := by
    rcases List.eq_nil_or_concat lo with h | ⟨ls, x, h⟩
    ·exact absurd h hl
    ·exact ⟨ls, x, by rw [h, List.concat_eq_append]⟩
   rw [hdn.2 x ls hx, <- hW] at hv
   obtain ⟨pa, rfl, hpa⟩ := hv
   have hat : atI (lo.map V.int) (-1) = some (.int x) := by rw [hx, List.map_append]; exact atI_last _ _
   refine ⟨_, rfl, szb rfl, fun zD hzD => ?_⟩
   have sD : Same GC (upd GC zD (.lst [])) := q15 hzD _
   refine ⟨Lw, zD, lo, [], rfl, rfl, SqL.of (sD _ _ (sC _ _ eB)), SqL.of q13, _, rfl, ifA (by rw [decide_eq_false hl]; rfl) ?_⟩
   generalize upd GC zD (.lst []) = GD at *
   have eLD := sD _ _ (sC _ _ eB)
   have eDD := sD _ _ (sC _ _ eDB)
   refine ⟨_, rfl, _, rfl, _, rfl, Lw, _, _, _, rfl, rfl, SqL.of eLD, hat, _, rfl, .inl ⟨rfl, _, SqL.of eDD⟩, _, rfl, _, rfl, Lw, _, _, _, rfl, rfl, SqL.of eLD, hat, D, W, x, rfl, rfl, SqL.of eDD, szb rfl, fun t ht => ?_⟩
   have sE := q15 ht (.tup [.int x, .int ((W.count x : Nat) : Int)])
   refine ⟨1, pa, t, rfl, rfl, q675 (SqT.of (sE _ _ (sD _ _ (sC _ _ hpa)))) (SqT.of q13) rfl, by decide, _, rfl, ifB rfl ?_⟩
   exact fin _ (sD.trans sE)
 rintro σ G ⟨v4, v5, v6, v7, v8, v9, v10, rfl, kG, PG, eG⟩
 refine ⟨_, rfl, D, W, rfl, SqL.of eG, by omega, fun r hr1 => ?_⟩
 have s1' : Same G (upd G r (.ext fun h => TS.SetI P w h r (W.foldl TS.stD []))) := q15 hr1 _
 refine ⟨r, _, rfl, by have := q676 W []; simp only [List.length_nil] at this; omega, q13, fun l ms hl hpm hlt => ?_⟩
 generalize upd G r (.ext fun h => TS.SetI P w h r (W.foldl TS.stD [])) = G1 at *
 have s2' : Same G1 (upd G1 l (.lst (ms.map V.int))) := q15 hl _
 have el : upd G1 l (.lst (ms.map V.int)) l = some (.lst (ms.map V.int)) := q13
 generalize upd G1 l (.lst (ms.map V.int)) = G2 at *
 have hm : ∀ x, x ∈ ms ↔ x ∈ W := fun x => by
  rw [hpm.mem_iff, q668 W []]
  exact ⟨fun z => z.elim (fun z => by cases z) id, .inr⟩
 have hwm : withM W ms = stp L low (Wh gs) := withM_ca hin hprm hm hlt
 have hml : ms.length <= W.length := by
  have h1 := q665 (low := low) hin
  have h2 : (withM W ms).length = ms.length := List.length_map _
  rw [<- hwm, h2] at h1
  omega
 have k2' := kG.trans (Keep.same (s1'.trans s2'))
 have eD2' := (s1'.trans s2') _ _ eG
 refine ⟨l, rfl, ⟨_, SqL.of el⟩, fun Dm hDm => ?_⟩
 refine q234 (K := K) (a := l) (xs := ms.map V.int) (sz (by rw [List.length_map]; omega)) (fun i ys H3 => H3 Dm = some (.lst ys) /\ ys.length = i /\ Same G2 H3 /\ Paired (q93 K H3) ys ((ms.take i).map fun x => ((0 : Int) - ((W.count x : Nat) : Int), x)))
  ⟨q13, rfl, q15 hDm _, .nil⟩ (fun i ys H3 ⟨_, _, e, _⟩ => SqL.of (e _ _ el)) (fun i ys H3 ⟨e1, e2, _⟩ => ⟨e1, e2⟩) ?_ ?_
 ·rintro i x ys H3 hx ⟨f1, f2, f3, f4⟩
  rw [List.getElem?_map] at hx
  cases hmx : ms[i]? with
  | none => rw [hmx] at hx; cases hx
  | some n =>
   rw [hmx] at hx
   cases hx
   refine ⟨_, rfl, .inl ⟨rfl, _, SqL.of (f3 _ _ eD2')⟩, _, rfl, D, W, n, rfl, rfl, SqL.of (f3 _ _ eD2'), _, _, rfl, rfl, _, rfl, szb rfl, fun p4 hp4 => ?_⟩
   have s4 : Same H3 (upd H3 p4 (.tup [.int ((0 : Int) - ((W.count n : Nat) : Int)), .int n])) := q15 hp4 _
   have e4 : upd H3 p4 (.tup [.int ((0 : Int) - ((W.count n : Nat) : Int)), .int n]) p4 = some (.tup [.int ((0 : Int) - ((W.count n : Nat) : Int)), .int n]) := q13
   generalize upd H3 p4 (.tup [.int ((0 : Int) - ((W.count n : Nat) : Int)), .int n]) = H4 at *
   have f1' := s4 _ _ f1
   have tk : TKeep H4 (upd H4 Dm (.lst (ys ++ [.ref p4]))) := TKeep.set f1'
   refine ⟨f1', q13, by rw [List.length_append, f2] <;> rfl, Same.own (f3.trans s4) hDm, ?_⟩
   rw [List.take_add_one, hmx, List.map_append]
   exact q673 (.cons ⟨p4, rfl, q672 tk (SqT.of e4)⟩ .nil) (pr_tk tk (pr_tk (.same s4) f4))
 rintro ys H3 ⟨f1, f2, f3, f4⟩
 rw [List.length_map, List.take_length] at f4
 have k3' := k2'.trans (Keep.same f3)
 refine ⟨Dm, ys, _, rfl, by rw [f2, List.length_map]; omega, SqL.of f1, f4, fun l2 zs vs hl2 hpz hpr hord => ?_⟩
 have hvp := q674 f4 hpr hpz
 have hvo := ord_lx hord
 have s4 : Same H3 (upd H3 l2 (.lst zs)) := q15 hl2 _
 have e4 : upd H3 l2 (.lst zs) l2 = some (.lst zs) := q13
 generalize upd H3 l2 (.lst zs) = H4 at *
 have hpr4 := pr_tk (.same s4) hpr
 have k4 := k3'.trans (Keep.same s4)
 have sG4 := ((s1'.trans s2').trans f3).trans s4
 have eD4 := sG4 _ _ eG
 have P4 := PG.same sG4
 have hss := q122 L low (Wh gs) hin
 have hst : (stp L low (Wh gs)).map (fun p => (-p.2, p.1)) = ms.map fun x => ((0 : Int) - ((W.count x : Nat) : Int), x) := by
  rw [<- hwm]
  unfold withM
  rw [List.map_map]
  refine List.map_congr_left fun x _ => ?_
  show (-((W.count x : Nat) : Int), x) = _
  rw [Int.zero_sub]
 rw [<- hst] at hvp
 have hsne : stp L low (Wh gs) ≠ [] := fun z => by
  have h1 : ledT (stp L low (Wh gs)) = [] := by rw [z]; rfl
  rw [<- hW] at h1
  exact hne h1
 obtain ⟨rb, vs', hbst, hvs⟩ := many_top hss hsne hvp hvo
 refine ⟨_, rfl, _, rfl, b, ga, xs, low, L, gs, rfl, BG k4, hL, SqL.of (GG k4), HG k4, good, by omega, by omega, fun H5 v s5 hv => ?_⟩
 have hbst' : bst (caF 1 0 L low (Wh gs)) = some rb := hbst
 rw [hbst'] at hv
 obtain ⟨va, rfl, hva⟩ := hv
 have k5 := k4.trans (Keep.same s5)
 have e5 := s5 _ _ e4
 have hpr5 := pr_tk (.same s5) hpr4
 obtain ⟨z0, hz0'⟩ : ∃ z0, zs[0]? = some z0 := by
  have h1 := q330 hpr5
  rw [hvs] at h1
  exact ⟨zs[0]'(by rw [h1]; exact Nat.succ_pos _), List.getElem?_eq_getElem _⟩
 obtain ⟨u0, hu0, a0, rfl, ha0⟩ := q528 hpr5 hz0'
 rw [hvs] at hu0
 obtain rfl : (-rb.2, rb.1) = u0 := Option.some.inj hu0
 refine ⟨_, rfl, l2, _, _, _, rfl, rfl, SqL.of e5, q69 hz0', a0, _, _, _, rfl, rfl, ha0, rfl, _, rfl, l2, _, _, _, rfl, rfl, SqL.of e5, q69 hz0', a0, _, _, _, rfl, rfl, ha0, rfl, _, _, rfl, rfl, szb rfl, fun t6 ht6 => ?_⟩
 dsimp only
 rw [show (0 : Int) - -rb.2 = rb.2 by omega]
 have s6 : Same H5 (upd H5 t6 (.tup [.int rb.1, .int rb.2])) := q15 ht6 _
 refine ⟨1, va, t6, rfl, rfl, q675 (SqT.of (s6 _ _ hva)) (SqT.of q13) rfl, by decide, _, rfl, ifB rfl ?_⟩
 generalize upd H5 t6 (.tup [.int rb.1, .int rb.2]) = H6 at *
 have s46 := s5.trans s6
 have e6 := s46 _ _ e4
 have eD6 := s46 _ _ eD4
 have P6 := P4.same s46
 have k6 := k4.trans (Keep.same s46)
 have nlp : l2 ≠ pen := fun z => by
  obtain ⟨pq, hq⟩ := (PG.same ((s1'.trans s2').trans f3)).at
  rw [z, hq] at hl2
  cases hl2
 refine ⟨_, rfl, pen, 6, rfl, P6, by decide, by decide, fun pv H7 k7 P7 a7 b7 => ⟨_, _, rfl, rfl, ?_⟩⟩
 have e7 := k7 _ _ nlp e6
 have eD7 := k7 _ _ nDp eD6
 have k07 := k6.trans k7
 obtain ⟨pc6, hpc6⟩ := P6.at
 have hpr7 := pr_tk ((TKeep.same s46).trans (.keep k7 hpc6)) hpr4
 have hzl : zs.length = ms.length := by
  rw [q330 hpr7, hvp.length_eq, hst, List.length_map]
 refine ⟨_, rfl, l2, rfl, ⟨_, SqL.of e7⟩, fun Dd hDd => ?_⟩
 refine q541 (K := K) (a := l2) (xs := zs) (sz (by omega)) (fun i us H8 => H8 Dd = some (.lst us) /\ us.length <= i /\ Same H7 H8 /\ Paired (q93 K H8) us (((vs.take i).filter fun p => decide ((W.length : Int) < 0 - p.1 * (1 + pv))).map fun p => (p.2, (0 : Int) - p.1)))
  ⟨q13, Nat.le_refl _, q15 hDd _, .nil⟩ (fun i us H8 ⟨_, _, e, _⟩ => SqL.of (e _ _ e7)) (fun i us H8 ⟨e1, e2, _⟩ => ⟨e1, e2⟩) ?_ ?_
 ·rintro i x us H8 hx ⟨f1, f2, f3, f4⟩ vs3 hvs3
  obtain ⟨u, hu, px, rfl, hpx⟩ := q528 (pr_tk (.same f3) hpr7) hx
  match vs3, hvs3 with
  | [x0, x1], _ =>
   refine ⟨px, _, rfl, hpx, rfl, _, _, rfl, _, _, rfl, rfl, ⟨[_, _], rfl, rfl⟩, ?_⟩
   refine ⟨_, rfl, _, rfl, _, _, rfl, rfl, .inr ⟨by omega, by omega⟩, _, _, rfl, rfl, _, rfl, D, _, rfl, .inl (SqL.of (f3 _ _ eD7)), _, _, rfl, rfl, _, rfl, ?_⟩
   rw [hlm]
   refine ite2 (fun c8 => ?_) (fun c8 => ?_)
   ·refine ⟨_, rfl, _, rfl, _, _, rfl, rfl, szb rfl, fun p9 hp9 => ?_⟩
    have s9 : Same H8 (upd H8 p9 (.tup [.int u.2, .int ((0 : Int) - u.1)])) := q15 hp9 _
    have e9 : upd H8 p9 (.tup [.int u.2, .int ((0 : Int) - u.1)]) p9 = some (.tup [.int u.2, .int ((0 : Int) - u.1)]) := q13
    generalize upd H8 p9 (.tup [.int u.2, .int ((0 : Int) - u.1)]) = H9 at *
    have f1' := s9 _ _ f1
    have tk : TKeep H9 (upd H9 Dd (.lst (us ++ [.ref p9]))) := TKeep.set f1'
    refine ⟨f1', q13, by rw [List.length_append]; show us.length + 1 <= i + 1; omega, Same.own (f3.trans s9) hDd, ?_⟩
    rw [List.take_add_one, hu, List.filter_append, List.map_append]
    have ef : ((some u).toList.filter fun p : TS.I2 => decide ((W.length : Int) < 0 - p.1 * (1 + pv))) = [u] := by
     show List.filter _ [u] = [u]
     rw [List.filter_cons, if_pos c8]
     rfl
    rw [ef]
    exact q673 (.cons ⟨p9, rfl, q672 tk (SqT.of e9)⟩ .nil) (pr_tk tk (pr_tk (.same s9) f4))
   ·refine ⟨f1, by omega, f3, ?_⟩
    rw [List.take_add_one, hu, List.filter_append]
    have ef : ((some u).toList.filter fun p : TS.I2 => decide ((W.length : Int) < 0 - p.1 * (1 + pv))) = [] := by
     show List.filter _ [u] = []
     rw [List.filter_cons, if_neg c8]
     rfl
    rw [ef, List.append_nil]
    exact f4
 rintro us H8 ⟨f1, f2, f3, f4⟩
 have hvl : vs.length = zs.length := (q330 hpr7).symm
 rw [<- hvl, List.take_length] at f4
 refine ⟨Dd, us, _, rfl, by omega, SqL.of f1, f4, fun l3 zs3 ds hl3 hpz3 hpr3 hord3 => ?_⟩
 have hdue := q671 (part := 1 + pv) (len := (W.length : Int)) hss hvp (q674 f4 hpr3 hpz3) (ord_lx hord3)
 have s9 : Same H8 (upd H8 l3 (.lst zs3)) := q15 hl3 _
 have e9 : upd H8 l3 (.lst zs3) l3 = some (.lst zs3) := q13
 generalize upd H8 l3 (.lst zs3) = H9 at *
 have hpr9 := pr_tk (.same s9) hpr3
 have s79 := f3.trans s9
 have k9 := k07.trans (Keep.same s79)
 refine ⟨_, rfl, _, rfl, _, rfl, b, ga, xs, low, 1 + pv, L, gs, rfl, BG k9, hL, SqL.of (GG k9), HG k9, good, by omega, by omega, by omega, fun HA DA ys' sA eA nA hall => ?_⟩
 have hca : caF (1 + pv) (((Wh gs).length : Nat) : Int) L low (Wh gs) = ds := by
  rw [q441 (by omega) (by omega), hdue, hlen]
 rw [hca] at hall
 have hprA := pr_tk (.same sA) hpr9
 refine ⟨_, rfl, 2, DA, l3, rfl, rfl, .lst (SqL.of eA) (SqL.of (sA _ _ e9)) (by rw [hall.1, q330 hprA]) fun m y y' g1 g2 => ?_, by decide, ?_⟩
 ·obtain ⟨u, hu, a2, rfl, ha2⟩ := q528 hprA g2
  obtain ⟨a1, rfl, ha1⟩ := hall.2 m y u g1 hu
  exact q675 (SqT.of ha1) ha2 rfl
 ·exact q _ (k9.trans (Keep.same sA)) ((P7.same s79).same sA)
end
theorem srt_eq : ∀ {a b : List Int}, a.Pairwise (· <= ·) -> b.Pairwise (· <= ·) -> a.Perm b -> a = b
 | [], b, _, _, h => (List.nil_perm.mp h).symm
 | x :: a, [], _, _, h => absurd (List.perm_nil.mp h) (by simp)
 | x :: a, y :: b, ha, hb, h => by
  obtain ⟨h1, h1'⟩ := List.pairwise_cons.mp ha
  obtain ⟨h2, h2'⟩ := List.pairwise_cons.mp hb
  have e : x = y := by
   have m1 : y <= x := (List.mem_cons.mp (h.mem_iff.mp List.mem_cons_self)).elim (fun z => Int.le_of_eq z.symm) (h2 x)
   have m2 : x <= y := (List.mem_cons.mp (h.mem_iff.mpr List.mem_cons_self)).elim (fun z => Int.le_of_eq z.symm) (h1 y)
   omega
  subst e
  rw [srt_eq h1' h2' (List.Perm.cons_inv h)]
theorem wl_le : ∀ gs : List G3, (Wh gs).length <= (gs.map fun g => g.1.length).sum
 | [] => Nat.le_refl _
 | g :: gs => by
  have ih := wl_le gs
  show ((sel g) ++ Wh gs).length <= g.1.length + (gs.map fun g => g.1.length).sum
  rw [List.length_append]
  have : (sel g).length <= g.1.length := by
   unfold sel
   rw [List.length_drop, List.length_take]
   omega
  omega
abbrev k_law : Nat := 60
abbrev q678 (K : PySem.W.Frag) : Sp := spLaw K
section
variable {P : Program} {w : World} {K : PySem.W.Frag} {mg : Str -> Option Value} {base : Heap}
theorem ok_law (z : Bz mg) (c__law_agrees : Cal P w K mg base q151 "_law_agrees" ["_law_pen_here", "_law_bounds_here", "_law_gathering"] (q125 K)) (c__law_bounds : Cal P w K mg base q143 "_law_bounds" ["_law_pen_here"] (q120 K)) (c__law_cell : Cal P w K mg base q196 "_law_cell" ["_law_script", "_law_k"] (q161 K)) (c__law_deed : Cal P w K mg base q207 "_law_deed" ["_law_pen_here", "_law_bounds_here", "_law_tree", "_law_row", "_law_other"] (q173 K)) (c__law_led_through : Cal P w K mg base q53 "_law_led_through" ["_law_bounds_here", "_law_gathering"] (q50 K)) (c__law_numbers : Cal P w K mg base q121 "_law_numbers" ["_law_pen_here", "_law_bounds_here", "_law_long"] (q106 K)) (c__law_pen : Cal P w K mg base q243 "_law_pen" ["_law_cell_here"] (q197 K)) (c__law_take : Cal P w K mg base q70 "_law_take" ["_law_pen_here", "_law_size"] (q56 K)) (c_tree_of : Cal P w K mg base q217 "tree_of" ["bounds", "row"] (q176 K)) : ∀ (f : Addr) (fd : FuncData), Fun K "law" "law" s_law f fd -> FnOk P w K mg base CX0 k_law f fd ["_law_script"] (q678 K) := by
 have sc := sc_law
 intro f fd F
 refine F.ok sc (fun vs H Q E h => ?_) (fun cdv A outer s H vs Q E hr h => ?_)
 ·obtain ⟨a, ns, rfl, _⟩ := h
  rfl
 obtain ⟨a, scs, rfl, hS, h63, hO, q⟩ := h
 refine ⟨_, (q11 (q19 (i := 1) sc.nd rfl (Or.inl rfl) (pe_fn c__law_pen (hr.mono (by decide)) (by rfl) (q10 (pe_fn c__law_cell (hr.mono (by decide)) (by rfl) (q10 (pv 0) (q10 q14 q12))) q12)))
 (q11 (q19 (i := 2) sc.nd rfl (Or.inl rfl) (pe_fn c__law_bounds (hr.mono (by decide)) (by rfl) (q10 (pv 1) q12)))
 (q11 (q19 (i := 3) sc.nd rfl (Or.inl rfl) (pe_fn c__law_numbers (hr.mono (by decide)) (by rfl) (q10 (pv 1) (q10 (pv 2) (q10 q14 q12)))))
 (q11 (q19 (i := 4) sc.nd rfl (Or.inl rfl) (pe_fn c__law_numbers (hr.mono (by decide)) (by rfl) (q10 (pv 1) (q10 (pv 2) (q10 q14 q12)))))
 (q11 (q19 (i := 5) sc.nd rfl (Or.inl rfl) (pe_fn c_tree_of (hr.mono (by decide)) (by rfl) (q10 (pv 2) (q10 (pv 3) q12))))
 (q11 (q152 PassesOwn.never rfl (q126 rfl z.range_ (q10 (pe_op q29 q14 (pe_fn c__law_take (hr.mono (by decide)) (by rfl) (q10 (pv 1) (q10 (pe_ix q35 (q55 (q10 q14 (q10 q14 q12))) (q128 q588 (by rfl) z.int_ bt_int (q10 (q362 op_gt (pe_ix q22 (pv 2) q14 (fun _ _ => rfl)) q14 (q20 _)) q12)) (fun _ _ => rfl)) q12)))) q12)) (q48 (i := 6) sc.nd rfl (Or.inl rfl))
 (q11 (q400 (pe_fn c__law_deed (hr.mono (by decide)) (by rfl) (q10 (pv 1) (q10 (pv 2) (q10 (pv 5) (q10 (pv 3) (q10 (pv 4) q12)))))) (q493 rfl (q94 (q48 (i := 5) sc.nd rfl (Or.inl rfl)) (q94 (q48 (i := 3) sc.nd rfl (Or.inl rfl)) q359))))
 (q11 (ps_if (q17 (q600 hr.units) (pe_fn c__law_led_through (hr.mono (by decide)) (by rfl) (q10 (pv 2) (q10 (q55 (q10 (q27 (q10 (pv 5) (q10 q14 (q10 (q26 q24 (by rfl) z.len_ q62 (q10 (pv 3) q12)) q12)))) q12)) q12))) (q26 q410 (by rfl) z.sorted_ q208 (q10 (pv 3) q12)) (q20 _))
 (q16 (q21 pe_bl))
 q23)
 (q11 (q19 (i := 7) sc.nd rfl (Or.inl rfl) (pe_fn c__law_take (hr.mono (by decide)) (by rfl) (q10 (pv 1) (q10 (pe_op q29 (q26 q24 (by rfl) z.len_ q62 (q10 (pv 3) q12)) q14) q12))))
 (q11 (q19 (i := 8) sc.nd rfl (Or.inl rfl) (pe_op q29 (pv 7) (pe_fn c__law_take (hr.mono (by decide)) (by rfl) (q10 (pv 1) (q10 (pe_op q54 (pe_op q29 (q26 q24 (by rfl) z.len_ q62 (q10 (pv 3) q12)) q14) (pv 7)) q12)))))
 (q11 (q19 (i := 9) sc.nd rfl (Or.inl rfl) (q55 (q10 (q27 (q10 (pv 5) (q10 (pv 7) (q10 (pv 8) q12)))) (q10 (q27 (q10 (pe_fn c_tree_of (hr.mono (by decide)) (by rfl) (q10 (pv 2) (q10 (pv 4) q12))) (q10 q14 (q10 (q26 q24 (by rfl) z.len_ q62 (q10 (pv 4) q12)) q12)))) (q10 (q27 (q10 (pv 5) (q10 q14 (q10 (q26 q24 (by rfl) z.len_ q62 (q10 (pv 3) q12)) q12)))) q12)))))
 (q16 (ps_if (pt_not (pt_val (pe_fn c__law_agrees (hr.mono (by decide)) (by rfl) (q10 (pv 1) (q10 (pv 2) (q10 (q41 q117 (pv 9) (q44 (pe_fn c__law_take (hr.mono (by decide)) (by rfl) (q10 (pv 1) (q10 q14 q12)))) q52) q12))))))
 (q16 (q21 pe_bl))
 q23))))))))
 (q16 (q21 pe_bl)))))))), ?_⟩
 refine ⟨_, rfl, a, scs, 0, rfl, hS, h63, by decide, by decide, fun c0 => ⟨c0, rfl, fun pen hpen => ?_⟩⟩
 have P1 : PenN (upd H pen (.lst [.int c0, .int 0])) pen := ⟨_, _, q13⟩
 generalize upd H pen (.lst [.int c0, .int 0]) = H1 at *
 refine ⟨_, rfl, pen, rfl, P1, fun b low L H2 k2 P2 hb2 hL => ?_⟩
 refine ⟨_, rfl, _, rfl, pen, b, low, 9, L, rfl, P2, hb2, hL, by decide, by decide, fun r0 ns0 H3 k3 P3 hr3 nr3 hl0 hw0 => ?_⟩
 have nr0 : r0 ≠ pen := P2.fresh nr3
 have hb3 := k3 _ _ (P2.ne hb2) hb2
 refine ⟨_, rfl, _, rfl, pen, b, low, 5, L, rfl, P3, hb3, hL, by decide, by decide, fun o ms H4 k4 P4 ho4 no4 hlm0 hwm => ?_⟩
 have nop : o ≠ pen := P3.fresh no4
 have hb4 := k4 _ _ (P3.ne hb3) hb3
 have hr4 := k4 _ _ nr0 hr3
 refine ⟨_, rfl, _, rfl, b, r0, low, L, ns0, rfl, SqT.of hb4, hL, SqL.of hr4, by omega, hw0, fun H5 v0 s5 hv0 => ?_⟩
 have P5 := P4.same s5
 have hb5 := s5 _ _ hb4
 refine ⟨_, rfl, szb rfl, fun li hli => ?_⟩
 have s6 : Same H5 (upd H5 li (.lst [.int 5, .int 2])) := q15 hli _
 have e6 : upd H5 li (.lst [.int 5, .int 2]) li = some (.lst [.int 5, .int 2]) := q13
 generalize upd H5 li (.lst [.int 5, .int 2]) = H6 at *
 have P6 := P5.same s6
 have hb6 := s6 _ _ hb5
 obtain ⟨g0, hg0, hg1, hg2⟩ : ∃ g0 : Int, atI [V.int 5, .int 2] (if decide ((8 : Int) < (L : Int)) = true then 1 else 0) = some (.int g0) /\ 0 < g0 /\ g0 <= 5 := by
  by_cases c : decide ((8 : Int) < (L : Int)) = true
  ·rw [if_pos c]; exact ⟨2, rfl, by decide, by decide⟩
  ·rw [if_neg c]; exact ⟨5, rfl, by decide, by decide⟩
 refine ⟨_, rfl, b, _, _, _, rfl, rfl, SqT.of hb6, rfl, _, _, rfl, rfl, .inr ⟨_, rfl, li, _, _, _, rfl, rfl, SqL.of e6, hg0, pen, g0, rfl, P6, hg1, by omega, fun n H7 k7 P7 h0 h1 => ⟨_, _, rfl, rfl, _, rfl, by omega, by omega, ?_⟩⟩⟩
 have T57 : ∀ c o', c ≠ pen -> H5 c = some o' -> H7 c = some o' := fun c o' n h => k7 _ _ n (s6 _ _ h)
 obtain ⟨pc6, hpc6⟩ := P6.at
 refine q127 (fun i σ G => ∃ (r : Addr) (v : V) (ns : List Int) (v6 v7 v8 v9 : Option V), σ = [some (.ref a), some (.ref pen), some (.ref b), some (.ref r), some (.ref o), some v, v6, v7, v8, v9] /\ PenN G pen /\ G b = some (.tup [.int low, .int (L : Int)]) /\ q25 G v (grow low L ns) /\ G r = some (.lst (ns.map V.int)) /\ r ≠ pen /\ Wths low L ns /\ ns.length <= 24 + i /\ G o = some (.lst (ms.map V.int)))
  ⟨r0, v0, ns0, _, _, _, _, rfl, P7, T57 _ _ (P5.ne hb5) hb5, (hv0.same s6).tk (.keep k7 hpc6), T57 _ _ nr0 (s5 _ _ hr4), nr0, hw0, by omega, T57 _ _ nop (s5 _ _ ho4)⟩ ?_ ?_
 ·rintro i σ G hi ⟨r, v, ns, v6, v7, v8, v9, rfl, PG, hbG, hvG, hrG, nrp, hw, hnl, hoG⟩
  have hi6 : i < 6 := by omega
  refine ⟨_, rfl, _, rfl, _, rfl, _, rfl, _, rfl, pen, b, r, o, v, low, L, ns, ms, rfl, PG, hbG, hL, hvG, hrG, nrp, hw, by omega, hoG, nop, hwm, by omega, fun p r' u ns' G1 k1 P1' hp hu hr1 nr1 hw1 hl1 => ?_⟩
  refine ⟨p, _, rfl, SqT.of hp, rfl, _, _, rfl, _, _, rfl, rfl, ?_⟩
  have hb1 := k1 _ _ (PG.ne hbG) hbG
  have ho1 := k1 _ _ nop hoG
  have hlen' : ns'.length <= 24 + (i + 1) := by omega
  have hlm1 : (ns'.map V.int).length = ns'.length := List.length_map _
  have hlm2 : (ms.map V.int).length = ms.length := List.length_map _
  have ho' : ∀ {zs : List Int} {s1 e1 : Nat}, Wths low L zs -> s1 <= e1 -> e1 <= zs.length -> zs.length <= 300 -> GoodS L (zs.map (fun n => n - low), s1, e1) := fun h1 h2 h3 h4 => ⟨q657 h1, h2, by show _ <= (List.map _ _).length; rw [List.length_map]; exact h3, by show (List.map _ _).length <= 300; rw [List.length_map]; exact h4⟩
  refine ⟨_, rfl, _, rfl, _, rfl, r', _, rfl, .inl (SqL.of hr1), szb rfl, fun t1 ht1 => ?_⟩
  rw [hlm1]
  have s2 : Same G1 (upd G1 t1 (.tup [u, .int 0, .int (ns'.length : Int)])) := q15 ht1 _
  have e2 : upd G1 t1 (.tup [u, .int 0, .int (ns'.length : Int)]) t1 = some (.tup [u, .int 0, .int (ns'.length : Int)]) := q13
  generalize upd G1 t1 (.tup [u, .int 0, .int (ns'.length : Int)]) = G2 at *
  refine ⟨szb rfl, fun g1 hg1' => ?_⟩
  have s3 : Same G2 (upd G2 g1 (.lst [.ref t1])) := q15 hg1' _
  have e3 : upd G2 g1 (.lst [.ref t1]) g1 = some (.lst [.ref t1]) := q13
  generalize upd G2 g1 (.lst [.ref t1]) = J3 at *
  have s13 := s2.trans s3
  have st1 : StrAt J3 L (.ref t1) (ns'.map (fun n => n - low), 0, ns'.length) := ⟨t1, u, rfl, s3 _ _ e2, by rw [<- q149]; exact hu.same s13⟩
  have gd1 : ∀ g ∈ [((ns'.map (fun n => n - low), 0, ns'.length) : G3)], GoodS L g := fun g hg => by rw [List.mem_singleton.mp hg]; exact ho' hw1 (Nat.zero_le _) (Nat.le_refl _) (by omega)
  have wh1 : Wh [((ns'.map (fun n => n - low), 0, ns'.length) : G3)] = ns'.map fun n => n - low := by
   rw [q522]
   show ((ns'.map fun n => n - low).take ns'.length).drop 0 = _
   rw [List.drop_zero, List.take_of_length_le (by rw [List.length_map]; exact Nat.le_refl _)]
  refine ⟨b, g1, _, low, L, _, rfl, SqT.of (s13 _ _ hb1), hL, e3, q251 st1, gd1, by show 1 <= 100; decide, by rw [wh1, List.length_map]; omega, fun G4 D s4 e4 n4 => ?_⟩
  have s14 := s13.trans s4
  refine ⟨_, rfl, r', ns', rfl, SqL.of (s14 _ _ hr1), by omega, fun l ls hl hpm hord => ?_⟩
  have s5' : Same G4 (upd G4 l (.lst (ls.map V.int))) := q15 hl _
  have hin1 : InO L (Wh [((ns'.map (fun n => n - low), 0, ns'.length) : G3)]) := W_in gd1
  have heq : ledT (stp L low (Wh [((ns'.map (fun n => n - low), 0, ns'.length) : G3)])) = ls := srt_eq (q259 hin1) hord (by
   refine (q174 hin1).trans ?_
   rw [wh1, List.map_map]
   have e : ns'.map ((fun o => low + o) ∘ fun n => n - low) = ns' := by
    conv => rhs; rw [<- List.map_id ns']
    refine List.map_congr_left fun n _ => ?_
    show low + (n - low) = n
    omega
   rw [e]
   exact hpm.symm)
  refine ⟨D, l, _, ls, rfl, rfl, SqL.of (s5' _ _ e4), SqL.of q13, _, rfl, ifB (nde heq) ?_⟩
  generalize upd G4 l (.lst (ls.map V.int)) = G5 at *
  have s15 := s14.trans s5'
  have P5' := P1'.same s15
  have hr5 := s15 _ _ hr1
  refine ⟨_, rfl, _, rfl, r', _, rfl, .inl (SqL.of hr5), _, _, rfl, rfl, pen, _, rfl, P5', by omega, by omega, fun sv G6 k6 P6' a6 b6 => ?_⟩
  rw [hlm1] at b6
  obtain ⟨st, rfl⟩ := Int.eq_ofNat_of_zero_le a6
  have hr6 := k6 _ _ nr1 hr5
  refine ⟨_, rfl, _, rfl, _, rfl, r', _, rfl, .inl (SqL.of hr6), _, _, rfl, rfl, _, rfl, _, _, rfl, rfl, pen, _, rfl, P6', by rw [hlm1]; omega, by rw [hlm1]; omega, fun ev G7 k7' P7' a7 b7 => ⟨_, _, rfl, rfl, ?_⟩⟩
  rw [hlm1] at b7
  obtain ⟨ex, rfl⟩ := Int.eq_ofNat_of_zero_le a7
  have e8 : (st : Int) + (ex : Int) = ((st + ex : Nat) : Int) := by omega
  dsimp only
  rw [e8]
  have hse : st <= st + ex := Nat.le_add_right _ _
  have hee : st + ex <= ns'.length := by omega
  generalize st + ex = en at *
  have k57 := k6.trans k7'
  obtain ⟨pc5, hpc5⟩ := P5'.at
  have hb7 := k57 _ _ (P5'.ne (s15 _ _ hb1)) (s15 _ _ hb1)
  have ho7 := k57 _ _ nop (s15 _ _ ho1)
  have hr7 := k57 _ _ nr1 hr5
  have hu7 : q25 G7 u (grow low L ns') := (hu.same s15).tk (.keep k57 hpc5)
  refine ⟨_, rfl, _, rfl, _, rfl, szb rfl, fun u1 hu1 => ?_⟩
  have s8 : Same G7 (upd G7 u1 (.tup [u, .int (st : Int), .int (en : Int)])) := q15 hu1 _
  have e8' : upd G7 u1 (.tup [u, .int (st : Int), .int (en : Int)]) u1 = some (.tup [u, .int (st : Int), .int (en : Int)]) := q13
  generalize upd G7 u1 (.tup [u, .int (st : Int), .int (en : Int)]) = G8 at *
  refine ⟨_, rfl, _, rfl, b, o, low, L, ms, rfl, SqT.of (s8 _ _ hb7), hL, SqL.of (s8 _ _ ho7), by omega, hwm, fun G9 v2 s9 hv2 => ?_⟩
  have s79 := s8.trans s9
  refine ⟨_, rfl, o, _, rfl, .inl (SqL.of (s79 _ _ ho7)), szb rfl, fun u2 hu2 => ?_⟩
  rw [hlm2]
  have sA : Same G9 (upd G9 u2 (.tup [v2, .int 0, .int (ms.length : Int)])) := q15 hu2 _
  have eA : upd G9 u2 (.tup [v2, .int 0, .int (ms.length : Int)]) u2 = some (.tup [v2, .int 0, .int (ms.length : Int)]) := q13
  generalize upd G9 u2 (.tup [v2, .int 0, .int (ms.length : Int)]) = GA at *
  have s7A := s79.trans sA
  refine ⟨_, rfl, _, rfl, r', _, rfl, .inl (SqL.of (s7A _ _ hr7)), szb rfl, fun u3 hu3 => ?_⟩
  rw [hlm1]
  have sB : Same GA (upd GA u3 (.tup [u, .int 0, .int (ns'.length : Int)])) := q15 hu3 _
  have eB : upd GA u3 (.tup [u, .int 0, .int (ns'.length : Int)]) u3 = some (.tup [u, .int 0, .int (ns'.length : Int)]) := q13
  generalize upd GA u3 (.tup [u, .int 0, .int (ns'.length : Int)]) = GB at *
  have s7B := s7A.trans sB
  refine ⟨szb rfl, fun gl hgl => ?_⟩
  have sC : Same GB (upd GB gl (.lst [.ref u1, .ref u2, .ref u3])) := q15 hgl _
  have eC : upd GB gl (.lst [.ref u1, .ref u2, .ref u3]) gl = some (.lst [.ref u1, .ref u2, .ref u3]) := q13
  generalize upd GB gl (.lst [.ref u1, .ref u2, .ref u3]) = GC at *
  have s7C := s7B.trans sC
  have PC := P7'.same s7C
  have nglp : gl ≠ pen := (P7'.same s7B).fresh hgl
  refine ⟨_, rfl, _, rfl, _, rfl, _, rfl, pen, 2, rfl, PC, by decide, by decide, fun sl GD kD PD a9 b9 => ⟨_, rfl, ?_⟩⟩
  obtain ⟨pcC, hpcC⟩ := PC.at
  have tkD : TKeep GC GD := .keep kD hpcC
  have eD := kD _ _ nglp eC
  have hbD := kD _ _ (PC.ne (s7C _ _ hb7)) (s7C _ _ hb7)
  have hoD := kD _ _ nop (s7C _ _ ho7)
  have hrD := kD _ _ nr1 (s7C _ _ hr7)
  have huD : q25 GD u (grow low L ns') := (hu7.same s7C).tk tkD
  refine ⟨gl, _, rfl, SqL.of eD, fun qa hqa => ?_⟩
  have sg1 : ∀ {G' : Hp}, TKeep GD G' -> StrAt G' L (.ref u1) (ns'.map (fun n => n - low), st, en) := fun tk => ⟨u1, u, rfl, (tk _ _).1 ((tkD _ _).1 (((s9.trans sA).trans (sB.trans sC)) _ _ e8')), by rw [<- q149]; exact huD.tk tk⟩
  have sg2 : ∀ {G' : Hp}, TKeep GD G' -> StrAt G' L (.ref u2) (ms.map (fun n => n - low), 0, ms.length) := fun tk => ⟨u2, v2, rfl, (tk _ _).1 ((tkD _ _).1 ((sB.trans sC) _ _ eA)), by rw [<- q149]; exact ((hv2.same (sA.trans (sB.trans sC))).tk tkD).tk tk⟩
  have sg3 : ∀ {G' : Hp}, TKeep GD G' -> StrAt G' L (.ref u3) (ns'.map (fun n => n - low), 0, ns'.length) := fun tk => ⟨u3, u, rfl, (tk _ _).1 ((tkD _ _).1 (sC _ _ eB)), by rw [<- q149]; exact huD.tk tk⟩
  have gd2 : GoodS L (ns'.map (fun n => n - low), st, en) := ho' hw1 hse hee (by omega)
  have gd3 : GoodS L (ms.map (fun n => n - low), 0, ms.length) := ho' hwm (Nat.zero_le _) (Nat.le_refl _) (by omega)
  have gd4 : GoodS L (ns'.map (fun n => n - low), 0, ns'.length) := ho' hw1 (Nat.zero_le _) (Nat.le_refl _) (by omega)
  have nqp : qa ≠ pen := PD.fresh hqa
  have hlo1 : (ns'.map fun n => n - low).length = ns'.length := List.length_map _
  have hlo2 : (ms.map fun n => n - low).length = ms.length := List.length_map _
  have done : ∀ (GE : Hp), Keep pen GD GE -> PenN GE pen -> ∃ (r1 : Addr) (v1 : V) (ns1 : List Int) (v6' v7' v8' v9' : Option V), ([some (.ref a), some (.ref pen), some (.ref b), some (.ref r'), some (.ref o), some u, some (.int (0 + (i : Int))), some (.int (st : Int)), some (.int (en : Int)), some (.ref gl)] : St) = [some (.ref a), some (.ref pen), some (.ref b), some (.ref r1), some (.ref o), some v1, v6', v7', v8', v9'] /\ PenN GE pen /\ GE b = some (.tup [.int low, .int (L : Int)]) /\ q25 GE v1 (grow low L ns1) /\ GE r1 = some (.lst (ns1.map V.int)) /\ r1 ≠ pen /\ Wths low L ns1 /\ ns1.length <= 24 + (i + 1) /\ GE o = some (.lst (ms.map V.int)) := fun GE k PE => by
   obtain ⟨pcD, hpcD⟩ := PD.at
   exact ⟨r', u, ns', _, _, _, _, rfl, PE, k _ _ (PD.ne hbD) hbD, huD.tk (.keep k hpcD), k _ _ nr1 hrD, nr1, hw1, hlen', k _ _ nop hoD⟩
  have hsl : sl = 0 \/ sl = 1 := by omega
  rcases hsl with rfl | rfl
  ·have ec : cutV [V.ref u1, .ref u2, .ref u3] (some 0) none = [.ref u1, .ref u2, .ref u3] := rfl
   rw [ec]
   have sE : Same GD (upd GD qa (.lst [.ref u1, .ref u2, .ref u3])) := q15 hqa _
   refine ⟨pen, b, qa, _, low, L, [(ns'.map (fun n => n - low), st, en), (ms.map (fun n => n - low), 0, ms.length), (ns'.map (fun n => n - low), 0, ns'.length)], rfl, PD.same sE, sE _ _ hbD, hL, q13, nqp, ((q251 (sg1 (.same sE))).snoc (sg2 (.same sE))).snoc (sg3 (.same sE)), fun g hg => ?_, by show 3 <= 90; decide, ?_, fun GE kE PE => ⟨true, rfl, iteF (done GE ((Keep.same sE).trans kE) PE)⟩⟩
   ·simp only [List.mem_cons, List.not_mem_nil, or_false] at hg
    rcases hg with rfl | rfl | rfl
    ·exact gd2
    ·exact gd3
    ·exact gd4
   ·refine Nat.le_trans (wl_le _) ?_
    show (List.map _ ns').length + ((List.map _ ms).length + ((List.map _ ns').length + 0)) <= 63
    rw [hlo1, hlo2]
    omega
  ·have ec : cutV [V.ref u1, .ref u2, .ref u3] (some 1) none = [.ref u2, .ref u3] := rfl
   rw [ec]
   have sE : Same GD (upd GD qa (.lst [.ref u2, .ref u3])) := q15 hqa _
   refine ⟨pen, b, qa, _, low, L, [(ms.map (fun n => n - low), 0, ms.length), (ns'.map (fun n => n - low), 0, ns'.length)], rfl, PD.same sE, sE _ _ hbD, hL, q13, nqp, (q251 (sg2 (.same sE))).snoc (sg3 (.same sE)), fun g hg => ?_, by show 2 <= 90; decide, ?_, fun GE kE PE => ⟨true, rfl, iteF (done GE ((Keep.same sE).trans kE) PE)⟩⟩
   ·simp only [List.mem_cons, List.not_mem_nil, or_false] at hg
    rcases hg with rfl | rfl
    ·exact gd3
    ·exact gd4
   ·refine Nat.le_trans (wl_le _) ?_
    show (List.map _ ms).length + ((List.map _ ns').length + 0) <= 63
    rw [hlo1, hlo2]
    omega
 ·rintro σ G ⟨r, v, ns, v6, v7, v8, v9, rfl, _⟩
  exact q _
end
theorem all_ok {P : Program} {w : World} {K : PySem.W.Frag} {mg : Str -> Option Value} {base : Heap} (z : Bz mg)
  (d_many_worths : Def K mg "many_worths" q137 ["levels"])
  (d_top_of : Def K mg "top_of" q375 ["bounds"])
  (d_where : Def K mg "where" q468 ["bounds", "number"])
  (d_span_of : Def K mg "span_of" q291 ["bounds", "way"])
  (d_way_of : Def K mg "way_of" q376 ["bounds", "number"])
  (d_ahead : Def K mg "ahead" q469 ["marks", "mark", "place"])
  (d_place_of : Def K mg "place_of" q238 ["marks", "mark", "number"])
  (d_grown : Def K mg "grown" q239 ["least", "many", "row"])
  (d_tree_of : Def K mg "tree_of" q292 ["bounds", "row"])
  (d_half_of : Def K mg "half_of" q293 ["tree", "mark"])
  (d_size_of : Def K mg "size_of" q294 ["tree"])
  (d_number_at : Def K mg "number_at" q186 ["bounds", "tree", "place"])
  (d_many_in : Def K mg "many_in" q213 ["gathering"])
  (d_filled : Def K mg "filled" q270 ["gathering"])
  (d_led_stretch : Def K mg "led_stretch" q138 ["stretch", "way"])
  (d_led : Def K mg "led" s_led ["gathering", "way"])
  (d_lifted : Def K mg "lifted" q377 ["tree", "way", "place"])
  (d_many_lesser : Def K mg "many_lesser" q139 ["gathering", "way"])
  (d_way_of_nth : Def K mg "way_of_nth" q160 ["levels", "gathering", "k"])
  (d_nth_alike : Def K mg "nth_alike" q188 ["gathering", "way", "number"])
  (d_nth_least : Def K mg "nth_least" q187 ["bounds", "gathering", "k"])
  (d_rank_of : Def K mg "rank_of" q295 ["bounds", "gathering", "j", "place"])
  (d_below : Def K mg "below" q470 ["bounds", "gathering", "number"])
  (d_between : Def K mg "between" q296 ["bounds", "gathering", "low", "high"])
  (d_counted_nth : Def K mg "counted_nth" q140 ["bounds", "gathering", "k"])
  (d_next_up : Def K mg "next_up" q297 ["bounds", "gathering", "number"])
  (d_next_down : Def K mg "next_down" q189 ["bounds", "gathering", "number"])
  (d_sum_from : Def K mg "sum_from" q240 ["least", "many", "parts", "k"])
  (d_sum_of_least : Def K mg "sum_of_least" q118 ["bounds", "gathering", "k"])
  (d_cut_out : Def K mg "cut_out" q299 ["stretch"])
  (d_joined : Def K mg "joined" q380 ["one", "other"])
  (d_turned : Def K mg "turned" q381 ["tree"])
  (d_flipped : Def K mg "flipped" q214 ["tree"])
  (d_counted_above : Def K mg "counted_above" q105 ["least", "many", "parts", "part", "floor"])
  (d_worths_in : Def K mg "worths_in" q192 ["bounds", "gathering"])
  (d_most : Def K mg "most" q629 ["bounds", "gathering"])
  (d_often : Def K mg "often" q471 ["bounds", "gathering", "part"])
  (d_with_half : Def K mg "with_half" q190 ["marks", "tree", "turn", "half"])
  (d_with_way : Def K mg "with_way" q241 ["tree", "way", "place"])
  (d_put_in : Def K mg "put_in" q378 ["bounds", "tree", "place", "number"])
  (d_without : Def K mg "without" q298 ["tree", "place"])
  (d_taken_out : Def K mg "taken_out" q191 ["bounds", "tree", "place"])
  (d_set_at : Def K mg "set_at" q379 ["bounds", "tree", "place", "number"])
  (d__law_cell : Def K mg "_law_cell" q193 ["_law_script", "_law_k"])
  (d__law_pen : Def K mg "_law_pen" q242 ["_law_cell_here"])
  (d__law_take : Def K mg "_law_take" q194 ["_law_pen_here", "_law_size"])
  (d__law_bounds : Def K mg "_law_bounds" q141 ["_law_pen_here"])
  (d__law_numbers : Def K mg "_law_numbers" q119 ["_law_pen_here", "_law_bounds_here", "_law_long"])
  (d__law_led_through : Def K mg "_law_led_through" q72 ["_law_bounds_here", "_law_gathering"])
  (d__law_deed : Def K mg "_law_deed" q142 ["_law_pen_here", "_law_bounds_here", "_law_tree", "_law_row", "_law_other"])
  (d__law_agrees : Def K mg "_law_agrees" q59 ["_law_pen_here", "_law_bounds_here", "_law_gathering"])
  : ∀ (f : Addr) (fd : FuncData), Fun K "law" "law" s_law f fd -> FnOk P w K mg base CX0 k_law f fd ["_law_script"] (q678 K) := by
 have c_many_worths : Cal P w K mg base q34 "many_worths" ["levels"] (q30 K) := q338 d_many_worths z
 have c_top_of : Cal P w K mg base q383 "top_of" ["bounds"] (q303 K) := q638 d_top_of z c_many_worths
 have c_where : Cal P w K mg base q304 "where" ["bounds", "number"] (q215 K) := ok_where d_where z c_top_of
 have c_span_of : Cal P w K mg base q221 "span_of" ["bounds", "way"] (q179 K) := q566 d_span_of z c_many_worths
 have c_way_of : Cal P w K mg base q222 "way_of" ["bounds", "number"] (q167 K) := q650 d_way_of z c_many_worths c_where
 have c_ahead : Cal P w K mg base q164 "ahead" ["marks", "mark", "place"] (q178 K) := ok_ahead d_ahead z
 have c_place_of : Cal P w K mg base q177 "place_of" ["marks", "mark", "number"] (q198 K) := q479 d_place_of z
 have c_grown : Cal P w K mg base q477 "grown" ["least", "many", "row"] (q384 K) := ok_grown d_grown z
 have c_tree_of : Cal P w K mg base q217 "tree_of" ["bounds", "row"] (q176 K) := q560 d_tree_of z c_grown c_many_worths c_where
 have c_half_of : Cal P w K mg base q57 "half_of" ["tree", "mark"] (q71 K) := q562 d_half_of z
 have c_size_of : Cal P w K mg base q65 "size_of" ["tree"] (q79 K) := q561 d_size_of z
 have c_number_at : Cal P w K mg base q109 "number_at" ["bounds", "tree", "place"] (q90 K) := q445 d_number_at z c_ahead c_half_of c_many_worths c_size_of
 have c_many_in : Cal P w K mg base q39 "many_in" ["gathering"] (q38 K) := q565 d_many_in z
 have c_filled : Cal P w K mg base q74 "filled" ["gathering"] (q108 K) := q648 d_filled z
 have c_led_stretch : Cal P w K mg base q61 "led_stretch" ["stretch", "way"] (q66 K) := q339 d_led_stretch z c_ahead c_half_of
 have c_led : Cal P w K mg base k_led "led" ["gathering", "way"] (q218 K) := ok_led d_led z c_led_stretch
 have c_lifted : Cal P w K mg base q389 "lifted" ["tree", "way", "place"] (q311 K) := q653 d_lifted z c_half_of c_place_of c_size_of
 have c_many_lesser : Cal P w K mg base q75 "many_lesser" ["gathering", "way"] (q67 K) := q340 d_many_lesser z c_led c_many_in
 have c_way_of_nth : Cal P w K mg base q114 "way_of_nth" ["levels", "gathering", "k"] (q96 K) := q391 d_way_of_nth z c_led c_many_in
 have c_nth_alike : Cal P w K mg base q202 "nth_alike" ["gathering", "way", "number"] (q170 K) := q447 d_nth_alike z c_led c_lifted c_many_in
 have c_nth_least : Cal P w K mg base q203 "nth_least" ["bounds", "gathering", "k"] (q171 K) := q448 d_nth_least z c_many_in c_many_lesser c_nth_alike c_span_of c_way_of_nth
 have c_rank_of : Cal P w K mg base q314 "rank_of" ["bounds", "gathering", "j", "place"] (q252 K) := q570 d_rank_of z c_led c_many_in c_many_lesser c_number_at c_way_of
 have c_below : Cal P w K mg base q248 "below" ["bounds", "gathering", "number"] (q180 K) := ok_below d_below z c_many_in c_many_lesser c_way_of c_where
 have q51 : Cal P w K mg base q308 "between" ["bounds", "gathering", "low", "high"] (q249 K) := q567 d_between z c_below
 have c_counted_nth : Cal P w K mg base q97 "counted_nth" ["bounds", "gathering", "k"] (q85 K) := q341 d_counted_nth z c_led c_many_in c_span_of c_way_of_nth
 have c_next_up : Cal P w K mg base q312 "next_up" ["bounds", "gathering", "number"] (q182 K) := q569 d_next_up z c_below c_counted_nth c_many_in
 have c_next_down : Cal P w K mg base q200 "next_down" ["bounds", "gathering", "number"] (q169 K) := q446 d_next_down z c_below c_counted_nth
 have c_sum_from : Cal P w K mg base q250 "sum_from" ["least", "many", "parts", "k"] (q201 K) := q482 d_sum_from z c_filled c_led c_many_in
 have c_sum_of_least : Cal P w K mg base q124 "sum_of_least" ["bounds", "gathering", "k"] (q110 K) := q315 d_sum_of_least z c_filled c_many_in c_many_worths c_sum_from
 have c_cut_out : Cal P w K mg base q318 "cut_out" ["stretch"] (q255 K) := q571 d_cut_out z c_led_stretch
 have c_joined : Cal P w K mg base q396 "joined" ["one", "other"] (q320 K) := q660 d_joined z
 have c_turned : Cal P w K mg base q397 "turned" ["tree"] (q321 K) := q662 d_turned z
 have c_flipped : Cal P w K mg base q322 "flipped" ["tree"] (q256 K) := q573 d_flipped z
 have c_counted_above : Cal P w K mg base q76 "counted_above" ["least", "many", "parts", "part", "floor"] (q68 K) := q265 d_counted_above z c_filled c_led c_many_in
 have c_worths_in : Cal P w K mg base q204 "worths_in" ["bounds", "gathering"] (q172 K) := q449 d_worths_in z c_counted_above c_filled c_many_worths
 have c_most : Cal P w K mg base q654 "most" ["bounds", "gathering"] (q484 K) := ok_most d_most z c_worths_in
 have c_often : Cal P w K mg base q483 "often" ["bounds", "gathering", "part"] (q392 K) := ok_often d_often z c_counted_above c_filled c_many_in c_many_worths
 have c_with_half : Cal P w K mg base q83 "with_half" ["marks", "tree", "turn", "half"] (q115 K) := q452 d_with_half z c_half_of
 have c_with_way : Cal P w K mg base q257 "with_way" ["tree", "way", "place"] (q205 K) := q490 d_with_way z c_ahead c_half_of c_size_of c_with_half
 have c_put_in : Cal P w K mg base q277 "put_in" ["bounds", "tree", "place", "number"] (q227 K) := q663 d_put_in z c_size_of c_way_of c_with_way
 have c_without : Cal P w K mg base q325 "without" ["tree", "place"] (q258 K) := q574 d_without z c_ahead c_half_of c_size_of c_with_half
 have c_taken_out : Cal P w K mg base q150 "taken_out" ["bounds", "tree", "place"] (q116 K) := q453 d_taken_out z c_number_at c_without
 have c_set_at : Cal P w K mg base q398 "set_at" ["bounds", "tree", "place", "number"] (q327 K) := q664 d_set_at z c_put_in c_taken_out
 have c__law_cell : Cal P w K mg base q196 "_law_cell" ["_law_script", "_law_k"] (q161 K) := q432 d__law_cell z
 have c__law_pen : Cal P w K mg base q243 "_law_pen" ["_law_cell_here"] (q197 K) := q476 d__law_pen z
 have c__law_take : Cal P w K mg base q70 "_law_take" ["_law_pen_here", "_law_size"] (q56 K) := q433 d__law_take z
 have c__law_bounds : Cal P w K mg base q143 "_law_bounds" ["_law_pen_here"] (q120 K) := q337 d__law_bounds z c__law_take
 have c__law_numbers : Cal P w K mg base q121 "_law_numbers" ["_law_pen_here", "_law_bounds_here", "_law_long"] (q106 K) := q302 d__law_numbers z c__law_take
 have c__law_led_through : Cal P w K mg base q53 "_law_led_through" ["_law_bounds_here", "_law_gathering"] (q50 K) := q206 d__law_led_through z c_next_up
 have c__law_deed : Cal P w K mg base q207 "_law_deed" ["_law_pen_here", "_law_bounds_here", "_law_tree", "_law_row", "_law_other"] (q173 K) := q455 d__law_deed z c__law_take c_cut_out c_flipped c_joined c_put_in c_set_at c_taken_out c_tree_of c_turned
 have c__law_agrees : Cal P w K mg base q151 "_law_agrees" ["_law_pen_here", "_law_bounds_here", "_law_gathering"] (q125 K) := q342 d__law_agrees z c__law_led_through c__law_take c_below q51 c_most c_next_down c_nth_least c_number_at c_often c_rank_of c_sum_of_least
 exact ok_law z c__law_agrees c__law_bounds c__law_cell c__law_deed c__law_led_through c__law_numbers c__law_pen c__law_take c_tree_of
end My
open PySem PySem.W PyProof.Rows
set_option maxRecDepth 100000 in
set_option maxHeartbeats 0 in
theorem PySem.Challenge.cw_manyleast_k67_whole_worths_led_through_holds : PySem.Challenge.rw_manyleast_k67_whole_worths_led_through.Holds := by
 refine MyQ.hd ?_
 k_fill
 refine L2.walkL (k := My.k_law) (l := PySem.Challenge.rw_manyleast_k67_whole_worths_led_through) ⟨rfl, by decide, by decide⟩ rfl rfl (fun w h Y => PySem.W.kIn_of Y) ?F
 case F =>
  intro w mg fa h KX G hmg
  have d_many_worths : L2.Def (L2.KOf KX) mg "many_worths" My.q137 ["levels"] := by
   dsimp only [L2.KOf]
   refine' L2.q686 KX G ?a ?l ?c ?k ?b
   (case a => k_is); (case l => k_is); (case c => k_is); (case k => k_is)
   (case b => exact fun _ _ _ _ _ _ us hl => match us, hl with | [_], _ => rfl)
  have d_top_of : L2.Def (L2.KOf KX) mg "top_of" My.q375 ["bounds"] := by
   dsimp only [L2.KOf]
   refine' L2.q686 KX G ?a ?l ?c ?k ?b
   (case a => k_is); (case l => k_is); (case c => k_is); (case k => k_is)
   (case b => exact fun _ _ _ _ _ _ us hl => match us, hl with | [_], _ => rfl)
  have d_where : L2.Def (L2.KOf KX) mg "where" My.q468 ["bounds", "number"] := by
   dsimp only [L2.KOf]
   refine' L2.q686 KX G ?a ?l ?c ?k ?b
   (case a => k_is); (case l => k_is); (case c => k_is); (case k => k_is)
   (case b => exact fun _ _ _ _ _ _ us hl => match us, hl with | [_, _], _ => rfl)
  have d_span_of : L2.Def (L2.KOf KX) mg "span_of" My.q291 ["bounds", "way"] := by
   dsimp only [L2.KOf]
   refine' L2.q686 KX G ?a ?l ?c ?k ?b
   (case a => k_is); (case l => k_is); (case c => k_is); (case k => k_is)
   (case b => exact fun _ _ _ _ _ _ us hl => match us, hl with | [_, _], _ => rfl)
  have d_way_of : L2.Def (L2.KOf KX) mg "way_of" My.q376 ["bounds", "number"] := by
   dsimp only [L2.KOf]
   refine' L2.q686 KX G ?a ?l ?c ?k ?b
   (case a => k_is); (case l => k_is); (case c => k_is); (case k => k_is)
   (case b => exact fun _ _ _ _ _ _ us hl => match us, hl with | [_, _], _ => rfl)
  have d_ahead : L2.Def (L2.KOf KX) mg "ahead" My.q469 ["marks", "mark", "place"] := by
   dsimp only [L2.KOf]
   refine' L2.q686 KX G ?a ?l ?c ?k ?b
   (case a => k_is); (case l => k_is); (case c => k_is); (case k => k_is)
   (case b => exact fun _ _ _ _ _ _ us hl => match us, hl with | [_, _, _], _ => rfl)
  have d_place_of : L2.Def (L2.KOf KX) mg "place_of" My.q238 ["marks", "mark", "number"] := by
   dsimp only [L2.KOf]
   refine' L2.q686 KX G ?a ?l ?c ?k ?b
   (case a => k_is); (case l => k_is); (case c => k_is); (case k => k_is)
   (case b => exact fun _ _ _ _ _ _ us hl => match us, hl with | [_, _, _], _ => rfl)
  have d_grown : L2.Def (L2.KOf KX) mg "grown" My.q239 ["least", "many", "row"] := by
   dsimp only [L2.KOf]
   refine' L2.q686 KX G ?a ?l ?c ?k ?b
   (case a => k_is); (case l => k_is); (case c => k_is); (case k => k_is)
   (case b => exact fun _ _ _ _ _ _ us hl => match us, hl with | [_, _, _], _ => rfl)
  have d_tree_of : L2.Def (L2.KOf KX) mg "tree_of" My.q292 ["bounds", "row"] := by
   dsimp only [L2.KOf]
   refine' L2.q686 KX G ?a ?l ?c ?k ?b
   (case a => k_is); (case l => k_is); (case c => k_is); (case k => k_is)
   (case b => exact fun _ _ _ _ _ _ us hl => match us, hl with | [_, _], _ => rfl)
  have d_half_of : L2.Def (L2.KOf KX) mg "half_of" My.q293 ["tree", "mark"] := by
   dsimp only [L2.KOf]
   refine' L2.q686 KX G ?a ?l ?c ?k ?b
   (case a => k_is); (case l => k_is); (case c => k_is); (case k => k_is)
   (case b => exact fun _ _ _ _ _ _ us hl => match us, hl with | [_, _], _ => rfl)
  have d_size_of : L2.Def (L2.KOf KX) mg "size_of" My.q294 ["tree"] := by
   dsimp only [L2.KOf]
   refine' L2.q686 KX G ?a ?l ?c ?k ?b
   (case a => k_is); (case l => k_is); (case c => k_is); (case k => k_is)
   (case b => exact fun _ _ _ _ _ _ us hl => match us, hl with | [_], _ => rfl)
  have d_number_at : L2.Def (L2.KOf KX) mg "number_at" My.q186 ["bounds", "tree", "place"] := by
   dsimp only [L2.KOf]
   refine' L2.q686 KX G ?a ?l ?c ?k ?b
   (case a => k_is); (case l => k_is); (case c => k_is); (case k => k_is)
   (case b => exact fun _ _ _ _ _ _ us hl => match us, hl with | [_, _, _], _ => rfl)
  have d_many_in : L2.Def (L2.KOf KX) mg "many_in" My.q213 ["gathering"] := by
   dsimp only [L2.KOf]
   refine' L2.q686 KX G ?a ?l ?c ?k ?b
   (case a => k_is); (case l => k_is); (case c => k_is); (case k => k_is)
   (case b => exact fun _ _ _ _ _ _ us hl => match us, hl with | [_], _ => rfl)
  have d_filled : L2.Def (L2.KOf KX) mg "filled" My.q270 ["gathering"] := by
   dsimp only [L2.KOf]
   refine' L2.q686 KX G ?a ?l ?c ?k ?b
   (case a => k_is); (case l => k_is); (case c => k_is); (case k => k_is)
   (case b => exact fun _ _ _ _ _ _ us hl => match us, hl with | [_], _ => rfl)
  have d_led_stretch : L2.Def (L2.KOf KX) mg "led_stretch" My.q138 ["stretch", "way"] := by
   dsimp only [L2.KOf]
   refine' L2.q686 KX G ?a ?l ?c ?k ?b
   (case a => k_is); (case l => k_is); (case c => k_is); (case k => k_is)
   (case b => exact fun _ _ _ _ _ _ us hl => match us, hl with | [_, _], _ => rfl)
  have d_led : L2.Def (L2.KOf KX) mg "led" My.s_led ["gathering", "way"] := by
   dsimp only [L2.KOf]
   refine' L2.q686 KX G ?a ?l ?c ?k ?b
   (case a => k_is); (case l => k_is); (case c => k_is); (case k => k_is)
   (case b => exact fun _ _ _ _ _ _ us hl => match us, hl with | [_, _], _ => rfl)
  have d_lifted : L2.Def (L2.KOf KX) mg "lifted" My.q377 ["tree", "way", "place"] := by
   dsimp only [L2.KOf]
   refine' L2.q686 KX G ?a ?l ?c ?k ?b
   (case a => k_is); (case l => k_is); (case c => k_is); (case k => k_is)
   (case b => exact fun _ _ _ _ _ _ us hl => match us, hl with | [_, _, _], _ => rfl)
  have d_many_lesser : L2.Def (L2.KOf KX) mg "many_lesser" My.q139 ["gathering", "way"] := by
   dsimp only [L2.KOf]
   refine' L2.q686 KX G ?a ?l ?c ?k ?b
   (case a => k_is); (case l => k_is); (case c => k_is); (case k => k_is)
   (case b => exact fun _ _ _ _ _ _ us hl => match us, hl with | [_, _], _ => rfl)
  have d_way_of_nth : L2.Def (L2.KOf KX) mg "way_of_nth" My.q160 ["levels", "gathering", "k"] := by
   dsimp only [L2.KOf]
   refine' L2.q686 KX G ?a ?l ?c ?k ?b
   (case a => k_is); (case l => k_is); (case c => k_is); (case k => k_is)
   (case b => exact fun _ _ _ _ _ _ us hl => match us, hl with | [_, _, _], _ => rfl)
  have d_nth_alike : L2.Def (L2.KOf KX) mg "nth_alike" My.q188 ["gathering", "way", "number"] := by
   dsimp only [L2.KOf]
   refine' L2.q686 KX G ?a ?l ?c ?k ?b
   (case a => k_is); (case l => k_is); (case c => k_is); (case k => k_is)
   (case b => exact fun _ _ _ _ _ _ us hl => match us, hl with | [_, _, _], _ => rfl)
  have d_nth_least : L2.Def (L2.KOf KX) mg "nth_least" My.q187 ["bounds", "gathering", "k"] := by
   dsimp only [L2.KOf]
   refine' L2.q686 KX G ?a ?l ?c ?k ?b
   (case a => k_is); (case l => k_is); (case c => k_is); (case k => k_is)
   (case b => exact fun _ _ _ _ _ _ us hl => match us, hl with | [_, _, _], _ => rfl)
  have d_rank_of : L2.Def (L2.KOf KX) mg "rank_of" My.q295 ["bounds", "gathering", "j", "place"] := by
   dsimp only [L2.KOf]
   refine' L2.q686 KX G ?a ?l ?c ?k ?b
   (case a => k_is); (case l => k_is); (case c => k_is); (case k => k_is)
   (case b => exact fun _ _ _ _ _ _ us hl => match us, hl with | [_, _, _, _], _ => rfl)
  have d_below : L2.Def (L2.KOf KX) mg "below" My.q470 ["bounds", "gathering", "number"] := by
   dsimp only [L2.KOf]
   refine' L2.q686 KX G ?a ?l ?c ?k ?b
   (case a => k_is); (case l => k_is); (case c => k_is); (case k => k_is)
   (case b => exact fun _ _ _ _ _ _ us hl => match us, hl with | [_, _, _], _ => rfl)
  have d_between : L2.Def (L2.KOf KX) mg "between" My.q296 ["bounds", "gathering", "low", "high"] := by
   dsimp only [L2.KOf]
   refine' L2.q686 KX G ?a ?l ?c ?k ?b
   (case a => k_is); (case l => k_is); (case c => k_is); (case k => k_is)
   (case b => exact fun _ _ _ _ _ _ us hl => match us, hl with | [_, _, _, _], _ => rfl)
  have d_counted_nth : L2.Def (L2.KOf KX) mg "counted_nth" My.q140 ["bounds", "gathering", "k"] := by
   dsimp only [L2.KOf]
   refine' L2.q686 KX G ?a ?l ?c ?k ?b
   (case a => k_is); (case l => k_is); (case c => k_is); (case k => k_is)
   (case b => exact fun _ _ _ _ _ _ us hl => match us, hl with | [_, _, _], _ => rfl)
  have d_next_up : L2.Def (L2.KOf KX) mg "next_up" My.q297 ["bounds", "gathering", "number"] := by
   dsimp only [L2.KOf]
   refine' L2.q686 KX G ?a ?l ?c ?k ?b
   (case a => k_is); (case l => k_is); (case c => k_is); (case k => k_is)
   (case b => exact fun _ _ _ _ _ _ us hl => match us, hl with | [_, _, _], _ => rfl)
  have d_next_down : L2.Def (L2.KOf KX) mg "next_down" My.q189 ["bounds", "gathering", "number"] := by
   dsimp only [L2.KOf]
   refine' L2.q686 KX G ?a ?l ?c ?k ?b
   (case a => k_is); (case l => k_is); (case c => k_is); (case k => k_is)
   (case b => exact fun _ _ _ _ _ _ us hl => match us, hl with | [_, _, _], _ => rfl)
  have d_sum_from : L2.Def (L2.KOf KX) mg "sum_from" My.q240 ["least", "many", "parts", "k"] := by
   dsimp only [L2.KOf]
   refine' L2.q686 KX G ?a ?l ?c ?k ?b
   (case a => k_is); (case l => k_is); (case c => k_is); (case k => k_is)
   (case b => exact fun _ _ _ _ _ _ us hl => match us, hl with | [_, _, _, _], _ => rfl)
  have d_sum_of_least : L2.Def (L2.KOf KX) mg "sum_of_least" My.q118 ["bounds", "gathering", "k"] := by
   dsimp only [L2.KOf]
   refine' L2.q686 KX G ?a ?l ?c ?k ?b
   (case a => k_is); (case l => k_is); (case c => k_is); (case k => k_is)
   (case b => exact fun _ _ _ _ _ _ us hl => match us, hl with | [_, _, _], _ => rfl)
  have d_cut_out : L2.Def (L2.KOf KX) mg "cut_out" My.q299 ["stretch"] := by
   dsimp only [L2.KOf]
   refine' L2.q686 KX G ?a ?l ?c ?k ?b
   (case a => k_is); (case l => k_is); (case c => k_is); (case k => k_is)
   (case b => exact fun _ _ _ _ _ _ us hl => match us, hl with | [_], _ => rfl)
  have d_joined : L2.Def (L2.KOf KX) mg "joined" My.q380 ["one", "other"] := by
   dsimp only [L2.KOf]
   refine' L2.q686 KX G ?a ?l ?c ?k ?b
   (case a => k_is); (case l => k_is); (case c => k_is); (case k => k_is)
   (case b => exact fun _ _ _ _ _ _ us hl => match us, hl with | [_, _], _ => rfl)
  have d_turned : L2.Def (L2.KOf KX) mg "turned" My.q381 ["tree"] := by
   dsimp only [L2.KOf]
   refine' L2.q686 KX G ?a ?l ?c ?k ?b
   (case a => k_is); (case l => k_is); (case c => k_is); (case k => k_is)
   (case b => exact fun _ _ _ _ _ _ us hl => match us, hl with | [_], _ => rfl)
  have d_flipped : L2.Def (L2.KOf KX) mg "flipped" My.q214 ["tree"] := by
   dsimp only [L2.KOf]
   refine' L2.q686 KX G ?a ?l ?c ?k ?b
   (case a => k_is); (case l => k_is); (case c => k_is); (case k => k_is)
   (case b => exact fun _ _ _ _ _ _ us hl => match us, hl with | [_], _ => rfl)
  have d_counted_above : L2.Def (L2.KOf KX) mg "counted_above" My.q105 ["least", "many", "parts", "part", "floor"] := by
   dsimp only [L2.KOf]
   refine' L2.q686 KX G ?a ?l ?c ?k ?b
   (case a => k_is); (case l => k_is); (case c => k_is); (case k => k_is)
   (case b => exact fun _ _ _ _ _ _ us hl => match us, hl with | [_, _, _, _, _], _ => rfl)
  have d_worths_in : L2.Def (L2.KOf KX) mg "worths_in" My.q192 ["bounds", "gathering"] := by
   dsimp only [L2.KOf]
   refine' L2.q686 KX G ?a ?l ?c ?k ?b
   (case a => k_is); (case l => k_is); (case c => k_is); (case k => k_is)
   (case b => exact fun _ _ _ _ _ _ us hl => match us, hl with | [_, _], _ => rfl)
  have d_most : L2.Def (L2.KOf KX) mg "most" My.q629 ["bounds", "gathering"] := by
   dsimp only [L2.KOf]
   refine' L2.q686 KX G ?a ?l ?c ?k ?b
   (case a => k_is); (case l => k_is); (case c => k_is); (case k => k_is)
   (case b => exact fun _ _ _ _ _ _ us hl => match us, hl with | [_, _], _ => rfl)
  have d_often : L2.Def (L2.KOf KX) mg "often" My.q471 ["bounds", "gathering", "part"] := by
   dsimp only [L2.KOf]
   refine' L2.q686 KX G ?a ?l ?c ?k ?b
   (case a => k_is); (case l => k_is); (case c => k_is); (case k => k_is)
   (case b => exact fun _ _ _ _ _ _ us hl => match us, hl with | [_, _, _], _ => rfl)
  have d_with_half : L2.Def (L2.KOf KX) mg "with_half" My.q190 ["marks", "tree", "turn", "half"] := by
   dsimp only [L2.KOf]
   refine' L2.q686 KX G ?a ?l ?c ?k ?b
   (case a => k_is); (case l => k_is); (case c => k_is); (case k => k_is)
   (case b => exact fun _ _ _ _ _ _ us hl => match us, hl with | [_, _, _, _], _ => rfl)
  have d_with_way : L2.Def (L2.KOf KX) mg "with_way" My.q241 ["tree", "way", "place"] := by
   dsimp only [L2.KOf]
   refine' L2.q686 KX G ?a ?l ?c ?k ?b
   (case a => k_is); (case l => k_is); (case c => k_is); (case k => k_is)
   (case b => exact fun _ _ _ _ _ _ us hl => match us, hl with | [_, _, _], _ => rfl)
  have d_put_in : L2.Def (L2.KOf KX) mg "put_in" My.q378 ["bounds", "tree", "place", "number"] := by
   dsimp only [L2.KOf]
   refine' L2.q686 KX G ?a ?l ?c ?k ?b
   (case a => k_is); (case l => k_is); (case c => k_is); (case k => k_is)
   (case b => exact fun _ _ _ _ _ _ us hl => match us, hl with | [_, _, _, _], _ => rfl)
  have d_without : L2.Def (L2.KOf KX) mg "without" My.q298 ["tree", "place"] := by
   dsimp only [L2.KOf]
   refine' L2.q686 KX G ?a ?l ?c ?k ?b
   (case a => k_is); (case l => k_is); (case c => k_is); (case k => k_is)
   (case b => exact fun _ _ _ _ _ _ us hl => match us, hl with | [_, _], _ => rfl)
  have d_taken_out : L2.Def (L2.KOf KX) mg "taken_out" My.q191 ["bounds", "tree", "place"] := by
   dsimp only [L2.KOf]
   refine' L2.q686 KX G ?a ?l ?c ?k ?b
   (case a => k_is); (case l => k_is); (case c => k_is); (case k => k_is)
   (case b => exact fun _ _ _ _ _ _ us hl => match us, hl with | [_, _, _], _ => rfl)
  have d_set_at : L2.Def (L2.KOf KX) mg "set_at" My.q379 ["bounds", "tree", "place", "number"] := by
   dsimp only [L2.KOf]
   refine' L2.q686 KX G ?a ?l ?c ?k ?b
   (case a => k_is); (case l => k_is); (case c => k_is); (case k => k_is)
   (case b => exact fun _ _ _ _ _ _ us hl => match us, hl with | [_, _, _, _], _ => rfl)
  have d__law_cell : L2.Def (L2.KOf KX) mg "_law_cell" My.q193 ["_law_script", "_law_k"] := by
   dsimp only [L2.KOf]
   refine' L2.q686 KX G ?a ?l ?c ?k ?b
   (case a => k_is); (case l => k_is); (case c => k_is); (case k => k_is)
   (case b => exact fun _ _ _ _ _ _ us hl => match us, hl with | [_, _], _ => rfl)
  have d__law_pen : L2.Def (L2.KOf KX) mg "_law_pen" My.q242 ["_law_cell_here"] := by
   dsimp only [L2.KOf]
   refine' L2.q686 KX G ?a ?l ?c ?k ?b
   (case a => k_is); (case l => k_is); (case c => k_is); (case k => k_is)
   (case b => exact fun _ _ _ _ _ _ us hl => match us, hl with | [_], _ => rfl)
  have d__law_take : L2.Def (L2.KOf KX) mg "_law_take" My.q194 ["_law_pen_here", "_law_size"] := by
   dsimp only [L2.KOf]
   refine' L2.q686 KX G ?a ?l ?c ?k ?b
   (case a => k_is); (case l => k_is); (case c => k_is); (case k => k_is)
   (case b => exact fun _ _ _ _ _ _ us hl => match us, hl with | [_, _], _ => rfl)
  have d__law_bounds : L2.Def (L2.KOf KX) mg "_law_bounds" My.q141 ["_law_pen_here"] := by
   dsimp only [L2.KOf]
   refine' L2.q686 KX G ?a ?l ?c ?k ?b
   (case a => k_is); (case l => k_is); (case c => k_is); (case k => k_is)
   (case b => exact fun _ _ _ _ _ _ us hl => match us, hl with | [_], _ => rfl)
  have d__law_numbers : L2.Def (L2.KOf KX) mg "_law_numbers" My.q119 ["_law_pen_here", "_law_bounds_here", "_law_long"] := by
   dsimp only [L2.KOf]
   refine' L2.q686 KX G ?a ?l ?c ?k ?b
   (case a => k_is); (case l => k_is); (case c => k_is); (case k => k_is)
   (case b => exact fun _ _ _ _ _ _ us hl => match us, hl with | [_, _, _], _ => rfl)
  have d__law_led_through : L2.Def (L2.KOf KX) mg "_law_led_through" My.q72 ["_law_bounds_here", "_law_gathering"] := by
   dsimp only [L2.KOf]
   refine' L2.q686 KX G ?a ?l ?c ?k ?b
   (case a => k_is); (case l => k_is); (case c => k_is); (case k => k_is)
   (case b => exact fun _ _ _ _ _ _ us hl => match us, hl with | [_, _], _ => rfl)
  have d__law_deed : L2.Def (L2.KOf KX) mg "_law_deed" My.q142 ["_law_pen_here", "_law_bounds_here", "_law_tree", "_law_row", "_law_other"] := by
   dsimp only [L2.KOf]
   refine' L2.q686 KX G ?a ?l ?c ?k ?b
   (case a => k_is); (case l => k_is); (case c => k_is); (case k => k_is)
   (case b => exact fun _ _ _ _ _ _ us hl => match us, hl with | [_, _, _, _, _], _ => rfl)
  have d__law_agrees : L2.Def (L2.KOf KX) mg "_law_agrees" My.q59 ["_law_pen_here", "_law_bounds_here", "_law_gathering"] := by
   dsimp only [L2.KOf]
   refine' L2.q686 KX G ?a ?l ?c ?k ?b
   (case a => k_is); (case l => k_is); (case c => k_is); (case k => k_is)
   (case b => exact fun _ _ _ _ _ _ us hl => match us, hl with | [_, _, _], _ => rfl)
  have d_law : L2.Def (L2.KOf KX) mg "law" My.s_law ["_law_script"] := by
   dsimp only [L2.KOf]
   refine' L2.q686 KX G ?a ?l ?c ?k ?b
   (case a => k_is); (case l => k_is); (case c => k_is); (case k => k_is)
   (case b => exact fun _ _ _ _ _ _ us hl => match us, hl with | [_], _ => rfl)
  have z : My.Bz mg := by
   refine' ⟨PySem.W.mg_none_of KX G ?z0, PySem.W.mg_none_of KX G ?z1, PySem.W.mg_none_of KX G ?z2, PySem.W.mg_none_of KX G ?z3, PySem.W.mg_none_of KX G ?z4, PySem.W.mg_none_of KX G ?z5, PySem.W.mg_none_of KX G ?z6, PySem.W.mg_none_of KX G ?z7, PySem.W.mg_none_of KX G ?z8, PySem.W.mg_none_of KX G ?z9, PySem.W.mg_none_of KX G ?z10⟩
   (case z0 => k_is)
   (case z1 => k_is)
   (case z2 => k_is)
   (case z3 => k_is)
   (case z4 => k_is)
   (case z5 => k_is)
   (case z6 => k_is)
   (case z7 => k_is)
   (case z8 => k_is)
   (case z9 => k_is)
   (case z10 => k_is)
  exact L2.law_mk d_law (fun base => My.all_ok (base := base) z d_many_worths d_top_of d_where d_span_of d_way_of d_ahead d_place_of d_grown d_tree_of d_half_of d_size_of d_number_at d_many_in d_filled d_led_stretch d_led d_lifted d_many_lesser d_way_of_nth d_nth_alike d_nth_least d_rank_of d_below d_between d_counted_nth d_next_up d_next_down d_sum_from d_sum_of_least d_cut_out d_joined d_turned d_flipped d_counted_above d_worths_in d_most d_often d_with_half d_with_way d_put_in d_without d_taken_out d_set_at d__law_cell d__law_pen d__law_take d__law_bounds d__law_numbers d__law_led_through d__law_deed d__law_agrees) hmg
#print axioms PySem.Challenge.cw_manyleast_k67_whole_worths_led_through_holds
