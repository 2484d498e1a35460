import PyProof.Rows.All
import Wide.All
import OpenK.AllK
import Wide.FinOn
import Lean
import PyProof.EqAt
import PyProof.EqKinds
import PyProof.TupleCall
import PySem.Challenge.RW_notefall_k18_poured_apart
set_option Elab.async false
set_option linter.all false
set_option maxRecDepth 100000
/-! THE HAND LAYER, for ints, bools, texts, own classes, LISTS and tuples (index, slices, in, append, pop ..), calls, loops. Paste it whole ahead of your own text; what your proof does not reach may be deleted. -/
namespace L2
open PySem PySem.Spec PyProof.Rows

/-- a key: an int or a str -/
abbrev Key := Sum Int Str
def keyIs : Key → Value → Bool
  | .inl k, v => Value.isInt k v
  | .inr x, v => Value.isStrOf x v
def keyH (w : World) : Key → Int
  | .inl k => hashInt k
  | .inr x => hashStr w x
theorem keyIs_shape : ∀ {k : Key} {v : Value}, keyIs k v = true → (∃ i t, k = Sum.inl i ∧ v = Value.int i t) ∨ (∃ x t, k = Sum.inr x ∧ v = Value.str x t)
  | .inl i, v, h => by
    obtain ⟨t, e⟩ := Value.isInt_shape (k := i) (v := v) h
    exact .inl ⟨i, t, rfl, e⟩
  | .inr x, v, h => by
    obtain ⟨t, e⟩ := Value.isStrOf_shape (x := x) (v := v) h
    exact .inr ⟨x, t, rfl, e⟩
theorem keyIs_int (i : Int) (t : Tok) : keyIs (.inl i) (.int i t) = true := by simp [keyIs, Value.isInt]
theorem keyIs_str (x : Str) (t : Tok) : keyIs (.inr x) (.str x t) = true := by simp [keyIs, Value.isStrOf]
theorem key_ll (a b : Int) : decide ((Sum.inl a : Key) = Sum.inl b) = (a == b) := by
  by_cases e : a = b
  · subst e; simp
  · have h : ¬ (Sum.inl a : Key) = Sum.inl b := fun q => e (Sum.inl.inj q)
    rw [decide_eq_false h]
    exact (beq_eq_false_iff_ne.mpr e).symm
theorem key_rr (a b : Str) : decide ((Sum.inr a : Key) = Sum.inr b) = decide (a = b) := by
  by_cases e : a = b
  · subst e; simp
  · have h : ¬ (Sum.inr a : Key) = Sum.inr b := fun q => e (Sum.inr.inj q)
    rw [decide_eq_false h, decide_eq_false e]
theorem key_lr (a : Int) (b : Str) : decide ((Sum.inl a : Key) = Sum.inr b) = false := decide_eq_false (fun q => nomatch q)
theorem key_rl (a : Str) (b : Int) : decide ((Sum.inr a : Key) = Sum.inl b) = false := decide_eq_false (fun q => nomatch q)

def mixKind (prog : Program) (w : World) : PySem.KeyKind prog w Key where
  is := keyIs
  hash := keyH w
  inj := fun v a b ha hb => by
    rcases keyIs_shape ha with ⟨i, t, rfl, rfl⟩ | ⟨x, t, rfl, rfl⟩
    · rcases keyIs_shape hb with ⟨j, u, rfl, e⟩ | ⟨y, u, rfl, e⟩
      · injection e with e1 _; rw [e1]
      · exact nomatch e
    · rcases keyIs_shape hb with ⟨j, u, rfl, e⟩ | ⟨y, u, rfl, e⟩
      · exact nomatch e
      · injection e with e1 _; rw [e1]
  byValue := fun k v h => by
    rcases keyIs_shape h with ⟨i, t, rfl, rfl⟩ | ⟨x, t, rfl, rfl⟩ <;> rfl
  pyHash := fun hv h => by
    rcases keyIs_shape hv with ⟨i, t, rfl, rfl⟩ | ⟨x, t, rfl, rfl⟩
    · exact wpAny_pyHash_int h
    · exact wpAny_pyHash_str h
  eqBool := fun hu hv h => by
    rcases keyIs_shape hu with ⟨i, t, rfl, rfl⟩ | ⟨x, t, rfl, rfl⟩
    · rcases keyIs_shape hv with ⟨j, u, rfl, rfl⟩ | ⟨y, u, rfl, rfl⟩
      · rw [key_ll] at h; exact wpAny_eqBool_int h
      · rw [key_lr] at h; exact SeqAt.EqAt.int_str i t y u _ _ _ _ h
    · rcases keyIs_shape hv with ⟨j, u, rfl, rfl⟩ | ⟨y, u, rfl, rfl⟩
      · rw [key_rl] at h; exact SeqAt.EqAt.str_int x t j u _ _ _ _ h
      · rw [key_rr] at h; exact wpAny_eqBool_str h
  «strs» := fun k x t v h => by
    rcases keyIs_shape h with ⟨i, u, rfl, e⟩ | ⟨y, u, rfl, e⟩
    · exact nomatch e
    · injection e with e1 _
      subst e1
      cases v <;> rfl

theorem mixKind_is (prog : Program) (w : World) (k : Key) (v : Value) : (mixKind prog w).is k v = keyIs k v := rfl
theorem mixKind_int (prog : Program) (w : World) (i : Int) (t : Tok) : (mixKind prog w).is (.inl i) (.int i t) = true := keyIs_int i t
theorem mixKind_str (prog : Program) (w : World) (x : Str) (t : Tok) : (mixKind prog w).is (.inr x) (.str x t) = true := keyIs_str x t
end L2

namespace L2
open PySem PySem.Spec PyProof.Rows

/-- a value, without the heap -/
inductive V where
  | non | bl (b : Bool) | int (i : Int) | str (x : Str) | byt (b : Array UInt8) | flt (b : UInt64) | ref (a : Addr) | ty (n : String)
  deriving DecidableEq

def RelV : V → Value → Prop
  | .non, u => u = Value.none
  | .bl b, u => u = Value.bool b
  | .int i, u => ∃ t, u = Value.int i t
  | .str x, u => ∃ t, u = Value.str x t
  | .byt b, u => ∃ t, u = Value.bytes b t
  | .flt b, u => ∃ t, u = Value.float b t
  | .ref a, u => u = Value.ref a
  | .ty n, u => u = Value.type n

abbrev Vals : List V → List Value → Prop := Paired RelV
theorem Vals.length {xs : List V} {us : List Value} (r : Vals xs us) : xs.length = us.length := Paired.length r
theorem Vals.get : ∀ {xs : List V} {us : List Value} {i : Nat} {x : V}, Vals xs us → xs[i]? = some x → ∃ u, us[i]? = some u ∧ RelV x u
  | _, _, _, _, .nil, e => by simp at e
  | _, _, 0, _, .cons r _, e => by simp at e; subst e; exact ⟨_, rfl, r⟩
  | _, _, i + 1, x, .cons _ t, e => by
    obtain ⟨u, h1, h2⟩ := Vals.get (i := i) (x := x) t (by simpa using e)
    exact ⟨u, by simpa using h1, h2⟩
theorem Vals.set {x : V} {u : Value} (r : RelV x u) : ∀ {xs : List V} {us : List Value} (i : Nat), Vals xs us → Vals (xs.set i x) (us.set i u)
  | _, _, _, .nil => .nil
  | _, _, 0, .cons _ t => .cons r t
  | _, _, i + 1, .cons q t => .cons q (Vals.set r i t)
theorem Vals.append : ∀ {xs ys : List V} {us ws : List Value}, Vals xs us → Vals ys ws → Vals (xs ++ ys) (us ++ ws)
  | _, _, _, _, .nil, s => s
  | _, _, _, _, .cons r t, s => .cons r (Vals.append t s)
theorem Vals.take : ∀ {xs : List V} {us : List Value} (n : Nat), Vals xs us → Vals (xs.take n) (us.take n)
  | _, _, 0, _ => .nil
  | _, _, _ + 1, .nil => .nil
  | _, _, n + 1, .cons r t => .cons r (Vals.take n t)
theorem Vals.drop : ∀ {xs : List V} {us : List Value} (n : Nat), Vals xs us → Vals (xs.drop n) (us.drop n)
  | _, _, 0, r => r
  | _, _, _ + 1, .nil => .nil
  | _, _, n + 1, .cons _ t => Vals.drop n t
theorem Vals.none_of : ∀ {xs : List V} {us : List Value} {i : Nat}, Vals xs us → xs[i]? = none → us[i]? = none := fun {xs us i} r e => by
  have h1 := r.length
  have h2 : xs.length ≤ i := List.getElem?_eq_none_iff.mp e
  exact List.getElem?_eq_none_iff.mpr (by omega)

def RelO : Option V → Option Value → Prop
  | some v, some u => RelV v u
  | none, none => True
  | _, _ => False
def KV {κ : Type} : List (κ × V) → List (κ × Value) → Prop := Paired fun (p : κ × V) (q : κ × Value) => p.1 = q.1 ∧ RelV p.2 q.2

/-- a key of a dict (00_mix): an int or a text -/
def kV : Key → V
  | .inl i => .int i
  | .inr x => .str x

/-- what stands at a tracked address -/
inductive HO where
  /-- a list -/
  | lst (xs : List V)
  /-- a tuple (never changes) -/
  | tup (xs : List V)
  /-- a dict whose keys are ints and texts; one whose keys are tuples of ints and texts (the empty one is both) -/
  | dK (kvs : List (Key × V)) | dT (kvs : List (List Key × V))
  /-- a set of ints: its members, its size -/
  | set (S : Int → Bool) (n : Nat)
  /-- an instance of the class at C, its dict at dx, its attributes -/
  | ins (C dx : Addr) (fs : List (Str × V))
  /-- the dict of the instance at x -/
  | own (x : Addr)
  /-- the dict of an exception -/
  | xd (fs : List (Str × V))
  /-- a bound method, f of x -/
  | met (f x : Addr)
  /-- a range object lo, lo + 1, .. below hi -/
  | rng (lo hi : Int)
  /-- a thing that is known to the object (the script; a dict while a loop walks it): read, never written while it is so -/
  | frz (o : Obj) (u : HO)
  /-- a code object's table -/
  | tbl (ps : Array Value)
  /-- any other thing, by what is true of its one object (a def of one's own: SetO a S n := HO.ext fun h => ..) -/
  | ext (φ : Heap → Prop)

abbrev Hp := Addr → Option HO
def upd (H : Hp) (a : Addr) (o : HO) : Hp := fun b => if b = a then some o else H b
theorem upd_same {H : Hp} {a : Addr} {o : HO} : upd H a o a = some o := by unfold upd; rw [if_pos rfl]
theorem upd_ne {H : Hp} {a b : Addr} {o : HO} (h : b ≠ a) : upd H a o b = H b := by unfold upd; rw [if_neg h]
theorem upd_upd {H : Hp} {a : Addr} {o u : HO} : upd (upd H a o) a u = upd H a u := by
  funext b; unfold upd; split <;> rfl
/-- two objects of different content stand apart -/
theorem ne_of {H : Hp} {a b : Addr} {o u : HO} (h : H a = some o) (h' : H b = some u) (d : o ≠ u) : a ≠ b := by
  intro e; subst e; rw [h] at h'; exact d (Option.some.inj h')
theorem ne_of_none {H : Hp} {a b : Addr} {o : HO} (h : H a = some o) (h' : H b = none) : a ≠ b := by
  intro e; subst e; rw [h] at h'; cases h'

section
variable (P : Program) (w : World)
def ObjOk (H : Hp) (h : Heap) (a : Addr) : HO → Prop
  | .lst xs => xs.length ≤ sizeLine ∧ ∃ (its : List Value) (n : Nat), Vals xs its ∧ h.get? a = some { cls := .type "list", data := .seq its.toArray n }
  | .tup xs => xs.length ≤ sizeLine ∧ ∃ its : List Value, Vals xs its ∧ IsTup h a its.toArray
  | .dK kvs => kvs.length ≤ sizeLine ∧ (a == sysModules) = false ∧ ∃ vs, KV kvs vs ∧ h.DictOf (mixKind P w) a vs
  | .dT kvs => kvs.length ≤ sizeLine ∧ (a == sysModules) = false ∧ ∃ xs : List (List Key × Addr × Value),
      Paired (fun (p : List Key × V) (q : List Key × Addr × Value) => p.1 = q.1 ∧ H q.2.1 = some (.tup (p.1.map kV)) ∧ RelV p.2 q.2.2) kvs xs ∧
      ∃ o es ep, h.get? a = some o ∧ o.ExactDict ∧ o.data = .dict es ep ∧ es.toList = xs.map (entryOfKey (tupleKind (mixKind P w))) ∧ (xs.map (·.1)).Nodup
  | .set S n => h.SetOf (intKind P w) a S n
  | .ins C dx fs => H dx = some (.own a) ∧ fs.length ≤ 1000 ∧ dx ≠ a ∧ h.get? a = some (PySem.W.instObj C dx) ∧
      ∃ mA, h.Ns1 dx mA ∧ (∀ f, RelO (fs.lookup f) (mA f)) ∧ PySem.Within mA (fs.map (·.1))
  | .own _ => ∃ o, h.get? a = some o
  | .xd fs => ∃ mA, h.Ns1 a mA ∧ ∀ f, RelO (fs.lookup f) (mA f)
  | .rng lo hi => ∃ t u v, h.get? a = some { cls := .type "range", data := .fields #[.int lo t, .int hi u, .int 1 v] }
  | .frz o u => h.get? a = some o ∧ ObjOk H h a u
  | .tbl ps => h.get? a = some { cls := .none, data := .fields ps }
  | .met f x => h.get? a = some (PySem.W.methodObj (.ref f) (.ref x))
  | .ext φ => φ h ∧ (∃ o, h.get? a = some o) ∧ ∀ h1 h2 : Heap, φ h1 → (∀ o, h1.get? a = some o → h2.get? a = some o) → φ h2
/-- the abstract heap is held -/
def HOk (H : Hp) (h : Heap) : Prop := ∀ a o, H a = some o → ObjOk P w H h a o
end

section
variable {P : Program} {w : World} {H H' : Hp} {h h' : Heap} {a : Addr} {o : HO}
theorem ObjOk.lt (x : ObjOk P w H h a o) : a < h.objs.size := by
  cases o with
  | lst xs => obtain ⟨_, _, _, _, e⟩ := x; exact Heap.lt_size e
  | tup xs => obtain ⟨_, _, _, p⟩ := x; exact p.lt
  | dK kvs => obtain ⟨_, _, _, _, o, _, _, e, _⟩ := x; exact Heap.lt_size e
  | dT kvs => obtain ⟨_, _, _, _, o, _, _, e, _⟩ := x; exact Heap.lt_size e
  | set S n => obtain ⟨o, _, _, _, e, _⟩ := x; exact Heap.lt_size e
  | ins C dx fs => obtain ⟨_, _, _, e, _⟩ := x; exact Heap.lt_size e
  | own y => obtain ⟨_, e⟩ := x; exact Heap.lt_size e
  | xd fs => obtain ⟨_, ⟨_, _, _, e, _⟩, _⟩ := x; exact Heap.lt_size e
  | rng lo hi => obtain ⟨_, _, _, e⟩ := x; exact Heap.lt_size e
  | frz ob u => obtain ⟨e, _⟩ := x; exact Heap.lt_size e
  | tbl ps => exact Heap.lt_size (show h.get? a = some _ from x)
  | met f y => exact Heap.lt_size (show h.get? a = some _ from x)
  | ext φ => obtain ⟨_, ⟨_, e⟩, _⟩ := x; exact Heap.lt_size e
theorem Paired.mapP {α β : Type} {F G : α → β → Prop} : ∀ {l₁ : List α} {l₂ : List β}, Paired F l₁ l₂ → (∀ a b, F a b → G a b) → Paired G l₁ l₂
  | _, _, .nil, _ => .nil
  | _, _, .cons r t, f => .cons (f _ _ r) (Paired.mapP t f)
theorem Paired.imp' {α β : Type} {F G : α → β → Prop} (f : ∀ a b, F a b → G a b) {l₁ : List α} {l₂ : List β} (r : Paired F l₁ l₂) : Paired G l₁ l₂ := Paired.mapP r f
/-- what an object's description leans on: its own object, its own dict, the tuples -/
theorem ObjOk.stay (x : ObjOk P w H h a o) (k : ∀ b u, (b = a ∨ H b = some (.own a)) → h.get? b = some u → h'.get? b = some u)
    (ho : ∀ b, H b = some (.own a) → H' b = some (.own a)) (ht : ∀ b xs, H b = some (.tup xs) → H' b = some (.tup xs)) : ObjOk P w H' h' a o := by
  induction o with
  | lst xs => obtain ⟨z, its, n, r, e⟩ := x; exact ⟨z, its, n, r, k _ _ (.inl rfl) e⟩
  | tup xs => obtain ⟨z, its, r, ob, e, c⟩ := x; exact ⟨z, its, r, ob, k _ _ (.inl rfl) e, c⟩
  | dK kvs => obtain ⟨z, y, vs, r, ob, es, ep, e, c⟩ := x; exact ⟨z, y, vs, r, ob, es, ep, k _ _ (.inl rfl) e, c⟩
  | dT kvs =>
    obtain ⟨z, y, xs, r, ob, es, ep, e, c⟩ := x
    exact ⟨z, y, xs, Paired.mapP r fun p q z => ⟨z.1, ht _ _ z.2.1, z.2.2⟩, ob, es, ep, k _ _ (.inl rfl) e, c⟩
  | set S n => obtain ⟨ob, es, ep, t, e, c⟩ := x; exact ⟨ob, es, ep, t, k _ _ (.inl rfl) e, c⟩
  | ins C dx fs =>
    obtain ⟨d, z, ne, e, mA, ⟨od, es, ep, e2, c⟩, r⟩ := x
    exact ⟨ho _ d, z, ne, k _ _ (.inl rfl) e, mA, ⟨od, es, ep, k _ _ (.inr d) e2, c⟩, r⟩
  | own y => obtain ⟨ob, e⟩ := x; exact ⟨ob, k _ _ (.inl rfl) e⟩
  | xd fs => obtain ⟨mA, ⟨od, es, ep, e, c⟩, r⟩ := x; exact ⟨mA, ⟨od, es, ep, k _ _ (.inl rfl) e, c⟩, r⟩
  | rng lo hi => obtain ⟨t, u, v, e⟩ := x; exact ⟨t, u, v, k _ _ (.inl rfl) e⟩
  | frz ob u ih => obtain ⟨e, q⟩ := x; exact ⟨k _ _ (.inl rfl) e, ih q⟩
  | tbl ps =>
    have e : h.get? a = some { cls := .none, data := .fields ps } := x
    show h'.get? a = some { cls := .none, data := .fields ps }
    exact k a _ (.inl rfl) e
  | met f y =>
    have e : h.get? a = some (PySem.W.methodObj (.ref f) (.ref y)) := x
    show h'.get? a = some (PySem.W.methodObj (.ref f) (.ref y))
    exact k a _ (.inl rfl) e
  | ext φ => obtain ⟨p, ⟨o, e⟩, st⟩ := x; exact ⟨st _ _ p fun o q => k _ _ (.inl rfl) q, ⟨o, k _ _ (.inl rfl) e⟩, st⟩
theorem HOk.lt (x : HOk P w H h) (e : H a = some o) : a < h.objs.size := (x a o e).lt
theorem HOk.fresh (x : HOk P w H h) (e : h.objs.size ≤ a) : H a = none := by
  cases q : H a with
  | none => rfl
  | some u => exact absurd (Nat.lt_of_lt_of_le (x.lt q) e) (Nat.lt_irrefl _)
/-- every object of the heap is kept -/
theorem HOk.kept (x : HOk P w H h) (k : ∀ b u, h.get? b = some u → h'.get? b = some u) : HOk P w H h' := fun a o e =>
  (x a o e).stay (fun b u _ q => k b u q) (fun _ q => q) fun _ _ q => q
/-- a new object is laid and tracked -/
theorem HOk.laid (x : HOk P w H h) (k : ∀ b u, h.get? b = some u → h'.get? b = some u) (hp : h.objs.size ≤ a) (new : ObjOk P w (upd H a o) h' a o) : HOk P w (upd H a o) h' := fun b u e => by
  have hn := x.fresh hp
  by_cases hb : b = a
  · subst hb; rw [upd_same] at e; cases e; exact new
  · rw [upd_ne hb] at e
    exact (x b u e).stay (fun c v _ q => k c v q) (fun c q => by rw [upd_ne (ne_of_none q hn)]; exact q) fun c xs q => by rw [upd_ne (ne_of_none q hn)]; exact q
end

/-- what may be read as u: it is u, or a known u -/
def Rd (H : Hp) (a : Addr) (u : HO) : Prop := H a = some u ∨ ∃ o, H a = some (.frz o u)
theorem Rd.of {H : Hp} {a : Addr} {u : HO} (h : H a = some u) : Rd H a u := .inl h
theorem Rd.ok {P : Program} {w : World} {H : Hp} {h : Heap} {a : Addr} {u : HO} (r : Rd H a u) (x : HOk P w H h) : ObjOk P w H h a u := by
  rcases r with r | ⟨o, r⟩
  · exact x a u r
  · obtain ⟨_, q⟩ := x a _ r
    exact q
/-- what may be written -/
def Mut : Option HO → Prop
  | some (.lst _) => True
  | some (.dK _) => True
  | some (.dT _) => True
  | some (.set _ _) => True
  | some (.ins _ _ _) => True
  | some (.ext _) => True
  | _ => False
section
variable {P : Program} {w : World} {H : Hp} {h h' : Heap} {x e : Addr} {o' : HO}
/-- the object at e is changed: x itself, or the dict of the instance x -/
theorem HOk.write (ok : HOk P w H h) (mu : Mut (H x)) (he : e = x ∨ H e = some (.own x)) (k : ∀ b u, b ≠ e → h.get? b = some u → h'.get? b = some u) (heo : ∃ u, h'.get? e = some u)
    (new : ObjOk P w (upd H x o') h' x o') : HOk P w (upd H x o') h' := fun b u q => by
  have nown : ∀ c y, H c = some (.own y) → c ≠ x := fun c y r z => by subst z; rw [r] at mu; exact mu
  have ntup : ∀ c xs, H c = some (.tup xs) → c ≠ x := fun c xs r z => by subst z; rw [r] at mu; exact mu
  by_cases hb : b = x
  · subst hb; rw [upd_same] at q; cases q; exact new
  · rw [upd_ne hb] at q
    by_cases hbe : b = e
    · have q' : H b = some (.own x) := by
        rcases he with z | z
        · exact absurd (hbe.trans z) hb
        · rw [hbe]; exact z
      rw [q] at q'; cases q'
      obtain ⟨v, hv⟩ := heo
      exact ⟨v, by rw [hbe]; exact hv⟩
    · refine (ok b u q).stay (fun c v hc r => k c v ?_ r) (fun c r => by rw [upd_ne (nown c b r)]; exact r) fun c xs r => by rw [upd_ne (ntup c xs r)]; exact r
      rcases hc with rfl | hc
      · exact hbe
      · rintro rfl
        rcases he with z | z
        · exact nown c b hc z
        · rw [hc] at z; cases z; exact hb rfl
end

/-! ### kept unless tracked; of the frames at fs (the callers') the slots may change (an exception that passes writes there); of the records at ex (iterators) nothing is said -/
structure Un (fs ex : List Addr) (H H' : Hp) (h h' : Heap) : Prop where
  keep : ∀ b o, h.get? b = some o → H b = none → b ∉ fs → b ∉ ex → h'.get? b = some o
  slot : ∀ b o, h.get? b = some o → H b = none → b ∈ fs → b ∉ ex → ∃ sl, h'.get? b = some { o with slots := sl }
  free : ∀ b o, h.get? b = some o → H b = none → b ∉ ex → H' b = none
  there : ∀ b o, h.get? b = some o → b ∉ ex → ∃ o', h'.get? b = some o'
  tups : ∀ b xs, H b = some (.tup xs) → H' b = some (.tup xs)
  frzs : ∀ b o u, H b = some (.frz o u) → H' b = some (.frz o u)
  tbls : ∀ b ps, H b = some (.tbl ps) → ∃ more, H' b = some (.tbl (ps ++ more))
section
variable {fs fs' ex ex' : List Addr} {H H1 H2 : Hp} {h h1 h2 h' : Heap} {a x e : Addr} {o : HO}
theorem Un.any (u : Un fs ex H H1 h h1) {b : Addr} {ob : Obj} (q : h.get? b = some ob) (n : H b = none) (hx : b ∉ ex) : ∃ sl, h1.get? b = some { ob with slots := sl } := by
  by_cases hb : b ∈ fs
  · exact u.slot b ob q n hb hx
  · exact ⟨ob.slots, u.keep b ob q n hb hx⟩
theorem Un.trans (a : Un fs ex H H1 h h1) (b : Un fs ex H1 H2 h1 h2) : Un fs ex H H2 h h2 where
  keep := fun c ob q n hc hx => b.keep c ob (a.keep c ob q n hc hx) (a.free c ob q n hx) hc hx
  slot := fun c ob q n hc hx => by
    obtain ⟨sl, e1⟩ := a.slot c ob q n hc hx
    obtain ⟨sl', e2⟩ := b.slot c _ e1 (a.free c ob q n hx) hc hx
    exact ⟨sl', e2⟩
  free := fun c ob q n hx => by
    obtain ⟨o', e1⟩ := a.there c ob q hx
    exact b.free c o' e1 (a.free c ob q n hx) hx
  there := fun c ob q hx => by
    obtain ⟨o', e1⟩ := a.there c ob q hx
    exact b.there c o' e1 hx
  tups := fun c xs q => b.tups c xs (a.tups c xs q)
  frzs := fun c ob xs q => b.frzs c ob xs (a.frzs c ob xs q)
  tbls := fun c ps q => by
    obtain ⟨m1, e1⟩ := a.tbls c ps q
    obtain ⟨m2, e2⟩ := b.tbls c _ e1
    exact ⟨m1 ++ m2, by rw [e2, Array.append_assoc]⟩
theorem Un.kept (k : ∀ b u, h.get? b = some u → h'.get? b = some u) : Un fs ex H H h h' :=
  ⟨fun b ob q _ _ _ => k b ob q, fun b ob q _ _ _ => ⟨ob.slots, k b ob q⟩, fun _ _ _ n _ => n, fun b ob q _ => ⟨ob, k b ob q⟩, fun _ _ q => q, fun _ _ _ q => q, fun _ ps q => ⟨#[], by rw [q]; simp⟩⟩
theorem Un.refl : Un fs ex H H h h := Un.kept fun _ _ q => q
theorem Un.laid (k : ∀ b u, h.get? b = some u → h'.get? b = some u) (hp : h.objs.size ≤ a) (hn : H a = none) : Un fs ex H (upd H a o) h h' where
  keep := fun b u q _ _ _ => k b u q
  slot := fun b u q _ _ _ => ⟨u.slots, k b u q⟩
  free := fun b u q n _ => by rw [upd_ne (Nat.ne_of_lt (Nat.lt_of_lt_of_le (Heap.lt_size q) hp))]; exact n
  there := fun b u q _ => ⟨u, k b u q⟩
  tups := fun b xs q => by rw [upd_ne (ne_of_none q hn)]; exact q
  frzs := fun b u xs q => by rw [upd_ne (ne_of_none q hn)]; exact q
  tbls := fun b ps q => ⟨#[], by rw [upd_ne (ne_of_none q hn), q]; simp⟩
theorem Un.write (mu : Mut (H x)) (he : e = x ∨ H e = some (.own x)) (k : ∀ b u, b ≠ e → h.get? b = some u → h'.get? b = some u) (heo : ∃ u, h'.get? e = some u) : Un fs ex H (upd H x o) h h' := by
  have hx : ∀ b, H b = none → b ≠ x := fun b n z => by subst z; rw [n] at mu; exact mu
  have hb : ∀ b, H b = none → b ≠ e := fun b n z => by
    subst z
    rcases he with r | r
    · exact hx b n r
    · rw [n] at r; cases r
  have hm : ∀ b u, H b = some u → ¬ Mut (some u) → b ≠ x := fun b u q nm z => by subst z; rw [q] at mu; exact nm mu
  refine ⟨fun b u q n _ _ => k b u (hb b n) q, fun b u q n _ _ => ⟨u.slots, k b u (hb b n) q⟩, fun b u q n _ => by rw [upd_ne (hx b n)]; exact n, fun b u q _ => ?_,
    fun b xs q => by rw [upd_ne (hm b _ q fun z => z)]; exact q, fun b u xs q => by rw [upd_ne (hm b _ q fun z => z)]; exact q, fun b ps q => ⟨#[], by rw [upd_ne (hm b _ q fun z => z), q]; simp⟩⟩
  by_cases hbe : b = e
  · subst hbe; exact heo
  · exact ⟨u, k b u hbe q⟩
theorem Un.mono (u : Un fs ex H H1 h h1) (hs : ∀ b ∈ fs, b ∈ fs') (hx : ∀ b ∈ ex, b ∈ ex') : Un fs' ex' H H1 h h1 :=
  ⟨fun b ob q n hb he => u.keep b ob q n (fun z => hb (hs b z)) fun z => he (hx b z), fun _ _ q n _ he => u.any q n fun z => he (hx _ z), fun b ob q n he => u.free b ob q n fun z => he (hx b z), fun b ob q he => u.there b ob q fun z => he (hx b z), u.tups, u.frzs, u.tbls⟩
end

/-! ### the heap without what is tracked -/
def trk (h : Heap) (H : Hp) : List Addr := (List.range h.objs.size).filter fun a => (H a).isSome
def hidT (h : Heap) (H : Hp) : Heap := PySem.W.hideAll h (trk h H)
theorem hidT_size (h : Heap) (H : Hp) : (hidT h H).objs.size = h.objs.size := PySem.W.hideAll_size _ _
theorem hidT_get {h : Heap} {H : Hp} {b : Addr} {o : Obj} (e : h.get? b = some o) (n : H b = none) : (hidT h H).get? b = some o :=
  PySem.W.hideAll_get _ e fun hm => by
    have q : (H b).isSome = true := (List.mem_filter.mp hm).2
    rw [n] at q; simp at q
theorem of_hidT {h : Heap} {H : Hp} {b : Addr} {o : Obj} (e : (hidT h H).get? b = some o) : h.get? b = some o ∧ H b = none := by
  have e' : h.get? b = some o := PySem.W.of_hideAll (trk h H) e
  refine ⟨e', ?_⟩
  cases q : H b with
  | none => rfl
  | some x =>
    have hm : b ∈ trk h H := List.mem_filter.mpr ⟨List.mem_range.mpr (Heap.lt_size e'), by simp [q]⟩
    have z : (hidT h H).get? b = none := PySem.W.hideAll_none (trk h H) hm
    rw [z] at e; cases e

/-! ### OpenK's ledger, filled with every new object but one -/
def allNews (g h : Heap) (L : Addr) : List (Addr × Obj) := (List.range h.objs.size).filterMap fun a => if a = L ∨ (g.get? a).isSome = true then none else (h.get? a).map fun o => (a, o)
theorem mem_allNews {g h : Heap} {L a : Addr} {o : Obj} (h1 : a ≠ L) (h2 : g.get? a = none) (h3 : h.get? a = some o) : (a, o) ∈ allNews g h L :=
  List.mem_filterMap.mpr ⟨a, List.mem_range.mpr (Heap.lt_size h3), by simp [h1, h2, h3]⟩
theorem of_mem_allNews {g h : Heap} {L : Addr} {p : Addr × Obj} (hp : p ∈ allNews g h L) : p.1 ≠ L ∧ g.get? p.1 = none ∧ h.get? p.1 = some p.2 := by
  obtain ⟨b, _, e⟩ := List.mem_filterMap.mp hp
  split at e
  · cases e
  · rename_i hn
    cases q : h.get? b with
    | none => rw [q] at e; simp at e
    | some u =>
      rw [q] at e
      simp only [Option.map_some, Option.some.injEq] at e
      subst e
      refine ⟨fun z => hn (.inl z), ?_, q⟩
      show g.get? b = none
      cases r : g.get? b with
      | none => rfl
      | some v => exact (hn (.inr (by simp [r]))).elim
def rest (g h : Heap) (L d : Addr) : List (Addr × Obj) := (allNews g h L).filter fun p => decide (p.1 ≠ d)
theorem rest_ne {g h : Heap} {L d : Addr} : ∀ p ∈ rest g h L d, p.1 ≠ d := fun p hp => of_decide_eq_true (List.mem_filter.mp hp).2
theorem mem_rest {g h : Heap} {L d a : Addr} {o : Obj} (h1 : a ≠ L) (h2 : g.get? a = none) (h3 : h.get? a = some o) (h4 : a ≠ d) : (a, o) ∈ rest g h L d :=
  List.mem_filter.mpr ⟨mem_allNews h1 h2 h3, decide_eq_true h4⟩
theorem news_all {g h : Heap} {L : Addr} : News g L h (allNews g h L) := fun p hp => let ⟨a, b, c⟩ := of_mem_allNews hp; ⟨c, a, b⟩
theorem news_at {g h : Heap} {L d : Addr} {o : Obj} (h1 : d ≠ L) (h2 : g.get? d = none) (h3 : h.get? d = some o) : News g L h ((d, o) :: rest g h L d) := fun p hp => by
  rcases List.mem_cons.mp hp with rfl | hp
  · exact ⟨h3, h1, h2⟩
  · exact news_all p (List.mem_filter.mp hp).1
/-- behind a rule that changed d alone: all else but the frame is kept -/
theorem kept_of_news {g h h' : Heap} {L d : Addr} {m : Str → Option Value} (k : ∀ b o, g.get? b = some o → h.get? b = some o) (F : Fr g L h' m) (N : News g L h' (rest g h L d)) :
    ∀ b o, b ≠ L → b ≠ d → h.get? b = some o → h'.get? b = some o := fun b o h1 h2 e => by
  cases q : g.get? b with
  | some u =>
    have := k b u q
    rw [e] at this; cases this
    exact F.keep b _ q
  | none => exact (N (b, o) (mem_rest h1 q e h2)).1
end L2

namespace L2
open PySem PySem.Spec PyProof.Rows

/-- the module's facts, over the base: the heap at the law's entry without what is tracked there -/
structure Mod (K : PySem.W.Frag) (mg : Str → Option Value) (base : Heap) : Prop where
  kin : K.In base
  glob : base.Ns mainGlobals mg
  blt : ∃ mb, base.Ns builtinsNs mb ∧ ∀ x : Str, x ≠ "__name__" → mb x = bootBuiltins x
  nolimit : base.NoLimit

/-- the context: a def's body (or a comprehension's block) running. base: fixed through the whole law; s₀, H₀: the entry; outer: the frames whose slots others may change (a def's callers); stack: all frames that run;
   ex: iterators that were made ahead of the entry and are walked here (a comprehension's); fn: the names whose cells were made at the entry (a def: all; a comprehension's block: its own); calm: not within an except suite; pn: pins that every state bears; xe: what is wanted of an exception that leaves the code -/
structure Cx where
  prog : Program
  w : World
  K : PySem.W.Frag
  mg : Str → Option Value
  base : Heap
  A : Around
  N : List Str
  s₀ : Shared
  H₀ : Hp
  env : Env
  outer : List Env
  stack : List Env
  ex : List Addr
  fn : Str → Bool
  calm : Bool
  pn : List (Addr × Obj)
  xe : Value → Shared → Prop
/-- the callers' frames -/
def frs (l : List Env) : List Addr := l.filterMap (·.frame)
abbrev Cx.fs (X : Cx) : List Addr := frs X.outer

def Vis (sc : Scope) (x : Str) : Prop := sc.names.lookup x = some .local ∨ sc.names.lookup x = some .cell ∨ sc.names.lookup x = some .free
def Loc (sc : Scope) (x : Str) : Prop := sc.names.lookup x = some .local ∨ sc.names.lookup x = some .cell
def Look (env : Env) (h : Heap) (m : Str → Option Value) (x : Str) (u : Value) : Prop :=
  (env.kindOf x = some .local ∧ m x = some u) ∨ ((env.kindOf x = some .cell ∨ env.kindOf x = some .free) ∧ ∃ c, env.cells.lookup x = some c ∧ h.IsCell c (some u))

structure Cx.Ok (X : Cx) : Prop where
  mod : Mod X.K X.mg X.base
  kind : X.env.scope.kind = .function
  glob : X.env.globals = mainGlobals
  blt : X.env.builtins = builtinsNs
  above : X.s₀.heap.objs.size ≤ X.env.locals
  inj : ∀ x y c, X.env.cells.lookup x = some c → X.env.cells.lookup y = some c → x = y
  has : ∀ x, (X.env.kindOf x = some .cell ∨ X.env.kindOf x = some .free) → ∃ c, X.env.cells.lookup x = some c
  cab : ∀ x c, X.fn x = true → X.env.cells.lookup x = some c → X.s₀.heap.objs.size ≤ c
  hd : X.calm = true → X.A.handled = none
  frames : X.A.frames = some X.stack
  stk : X.stack = X.outer ∨ (X.stack = X.env :: X.outer ∧ X.env.frame = some X.env.locals)
  exf : ∀ b ∈ X.ex, b ≠ X.env.locals ∧ ∀ x c, X.env.cells.lookup x = some c → c ≠ b
  bs : ∀ b o, X.base.get? b = some o → X.s₀.heap.get? b = some o ∧ X.H₀ b = none
  bsz : X.base.objs.size ≤ X.s₀.heap.objs.size
  noex : ∀ b o, X.base.get? b = some o → b ∉ X.ex
  exfs : ∀ b ∈ X.ex, b ∉ X.fs
  funs : X.s₀.heap.FunFrames X.base X.outer
  frf : ∀ b ∈ X.fs, X.H₀ b = none

structure Inv (X : Cx) (pins : List (Addr × Obj)) (σ : List (Option V)) (H : Hp) (s : Shared) : Prop where
  ok : X.Ok
  os : s.os = X.s₀.os
  bare : AllBare s.gens
  base : Un X.fs X.ex X.H₀ H X.s₀.heap s.heap
  loc : ∃ m, s.heap.Ns X.env.locals m ∧ ∀ (i : Nat) (x : Str) (v : V), X.N[i]? = some x → σ[i]? = some (some v) → Vis X.env.scope x → ∃ u, RelV v u ∧ Look X.env s.heap m x u
  cell : ∀ x c, X.env.cells.lookup x = some c → ∃ v, s.heap.IsCell c v
  free : H X.env.locals = none
  freeC : ∀ x c, X.env.cells.lookup x = some c → H c = none
  pin : ∀ p ∈ X.pn ++ pins, s.heap.get? p.1 = some p.2 ∧ H p.1 = none ∧ p.1 ≠ X.env.locals ∧ p.1 ∉ X.fs ∧ ∀ v, p.2.data ≠ .cell v
  hok : HOk X.prog X.w H s.heap
  len : σ.length = X.N.length

section
variable {X : Cx} {pins : List (Addr × Obj)} {σ : List (Option V)} {H H' : Hp} {s : Shared} {h' : Heap}

theorem Cx.Ok.nofr (ok : X.Ok) {b : Addr} {o : Obj} (e : X.base.get? b = some o) : b ∉ X.fs := fun hb => by
  have := (ok.funs.mem hb).1
  rw [e] at this; cases this
theorem Inv.bs (I : Inv X pins σ H s) : ∀ b o, X.base.get? b = some o → s.heap.get? b = some o ∧ H b = none := fun b o e =>
  ⟨I.base.keep b o (I.ok.bs b o e).1 (I.ok.bs b o e).2 (I.ok.nofr e) (I.ok.noex b o e), I.base.free b o (I.ok.bs b o e).1 (I.ok.bs b o e).2 (I.ok.noex b o e)⟩
theorem Inv.bk (I : Inv X pins σ H s) : ∀ b o, X.base.get? b = some o → s.heap.get? b = some o := fun b o e => (I.bs b o e).1
theorem Inv.mod (I : Inv X pins σ H s) : Mod X.K X.mg X.base := I.ok.mod
theorem Inv.kIn (I : Inv X pins σ H s) : X.K.In s.heap := I.ok.mod.kin.keeps I.bk
theorem Inv.nolimit (I : Inv X pins σ H s) : s.heap.NoLimit := I.ok.mod.nolimit.keeps I.bk
/-- the frame over the base: for OpenK's rules (K.In X.base is I.mod.kin) -/
theorem Inv.fr (I : Inv X pins σ H s) : ∃ m, Fr X.base X.env.locals s.heap m :=
  let ⟨m, hn, _⟩ := I.loc
  ⟨m, hn, I.bk, Nat.le_trans I.ok.bsz I.ok.above⟩
theorem Inv.lt (I : Inv X pins σ H s) : X.env.locals < s.heap.objs.size := let ⟨_, hn, _⟩ := I.loc; hn.lt
theorem Inv.sz (I : Inv X pins σ H s) : X.s₀.heap.objs.size ≤ s.heap.objs.size := Nat.le_trans I.ok.above (Nat.le_of_lt I.lt)
theorem Inv.nofs (I : Inv X pins σ H s) {a : Addr} (h : s.heap.objs.size ≤ a) : a ∉ X.fs := fun hb => by
  obtain ⟨_, o, ho, _⟩ := I.ok.funs.mem hb
  exact absurd (Nat.lt_of_lt_of_le (Heap.lt_size ho) (Nat.le_trans I.sz h)) (Nat.lt_irrefl _)
theorem Inv.cne (I : Inv X pins σ H s) : ∀ x c, X.env.cells.lookup x = some c → c ≠ X.env.locals := fun x c e z => by
  obtain ⟨v, o, ho, hd⟩ := I.cell x c e
  obtain ⟨m, ⟨o', es, ep, ho', hd', _⟩, _⟩ := I.loc
  rw [z, ho'] at ho; cases ho; rw [hd'] at hd; cases hd
theorem Inv.funs (I : Inv X pins σ H s) : s.heap.FunFrames X.base X.outer := by
  have all : ∀ (l : List Env), (∀ b ∈ frs l, b ∈ X.fs) → X.s₀.heap.FunFrames X.base l → s.heap.FunFrames X.base l := by
    intro l
    induction l with
    | nil => intro _ _; trivial
    | cons env r ih =>
      intro hs hl
      obtain ⟨hk, ⟨L, o, hf, hn, ho, hd⟩, hr⟩ := hl
      have hL : L ∈ X.fs := hs L (by unfold frs; rw [List.filterMap_cons, hf]; exact List.mem_cons_self)
      obtain ⟨sl, e⟩ := I.base.slot L o ho (I.ok.frf L hL) hL fun z => I.ok.exfs L z hL
      exact ⟨hk, ⟨L, _, hf, hn, e, hd⟩, ih (fun b hb => hs b (by unfold frs; rw [List.filterMap_cons, hf]; exact List.mem_cons_of_mem _ hb)) hr⟩
  exact all X.outer (fun _ hb => hb) I.ok.funs

/-- the frames that run, for a call -/
theorem Inv.stack (I : Inv X pins σ H s) : s.heap.FunFrames X.base X.stack := by
  rcases I.ok.stk with e | ⟨e, hf⟩
  · rw [e]; exact I.funs
  · rw [e]
    obtain ⟨m, hn, _⟩ := I.loc
    refine .cons (by rw [I.ok.kind]; decide) hf hn ?_ I.funs
    exact Heap.get?_none_of_le (Nat.le_trans I.ok.bsz I.ok.above)
theorem Inv.stkSub (I : Inv X pins σ H s) : ∀ b ∈ frs X.stack, b ∈ X.env.locals :: X.fs := fun b hb => by
  rcases I.ok.stk with e | ⟨e, hf⟩
  · rw [e] at hb; exact List.mem_cons_of_mem _ hb
  · rw [e] at hb
    unfold frs at hb
    rw [List.filterMap_cons, hf] at hb
    exact hb
theorem Inv.stkFree (I : Inv X pins σ H s) : ∀ b ∈ frs X.stack, H b = none := fun b hb => by
  rcases List.mem_cons.mp (I.stkSub b hb) with e | hb
  · rw [e]; exact I.free
  · obtain ⟨_, o, ho, _⟩ := I.ok.funs.mem hb
    exact I.base.free b o ho (I.ok.frf b hb) fun z => I.ok.exfs b z hb

/-- THE STEP: the untracked objects but the frame and the records at ch are kept (the callers' frames up to slots), the frame's map is kept, the new abstract heap is held -/
theorem Inv.step {g' : Array GenState} {t' : Nat} {d' : Drawn} {ch : List Addr} (I : Inv X pins σ H s)
    (hch : ∀ b ∈ ch, (b ∈ X.ex ∨ X.s₀.heap.objs.size ≤ b) ∧ b ≠ X.env.locals ∧ (∀ x c, X.env.cells.lookup x = some c → c ≠ b) ∧ ∀ p ∈ X.pn ++ pins, p.1 ≠ b)
    (keep : ∀ b o, b ≠ X.env.locals → b ∉ X.fs → b ∉ ch → s.heap.get? b = some o → H b = none → h'.get? b = some o)
    (slot : ∀ b o, b ≠ X.env.locals → b ∈ X.fs → b ∉ ch → s.heap.get? b = some o → H b = none → ∃ sl, h'.get? b = some { o with slots := sl }) (free : ∀ b o, b ∉ ch → s.heap.get? b = some o → H b = none → H' b = none)
    (there : ∀ b o, b ∉ ch → s.heap.get? b = some o → ∃ o', h'.get? b = some o')
    (tups : ∀ b xs, H b = some (.tup xs) → H' b = some (.tup xs)) (frzs : ∀ b o u, H b = some (.frz o u) → H' b = some (.frz o u)) (tbls : ∀ b ps, H b = some (.tbl ps) → ∃ more, H' b = some (.tbl (ps ++ more)))
    (ns : ∀ m, s.heap.Ns X.env.locals m → h'.Ns X.env.locals m) (hok : HOk X.prog X.w H' h') (hg : AllBare g') :
    Inv X pins σ H' { s with heap := h', gens := g', drawn := d', toks := t' } := by
  have neL : ∀ b o, X.s₀.heap.get? b = some o → b ≠ X.env.locals := fun b o e => Nat.ne_of_lt (Nat.lt_of_lt_of_le (Heap.lt_size e) I.ok.above)
  have neC : ∀ b o, X.s₀.heap.get? b = some o → b ∉ X.ex → b ∉ ch := fun b o e hx hb => by
    rcases (hch b hb).1 with z | z
    · exact hx z
    · exact absurd (Nat.lt_of_lt_of_le (Heap.lt_size e) z) (Nat.lt_irrefl _)
  have cellK : ∀ x c, X.env.cells.lookup x = some c → ∀ v, s.heap.IsCell c v → h'.IsCell c v := fun x c e v ⟨o, ho, hd⟩ => by
    have nch : c ∉ ch := fun z => (hch c z).2.2.1 x c e rfl
    by_cases hc : c ∈ X.fs
    · obtain ⟨sl, q⟩ := slot c o (I.cne x c e) hc nch ho (I.freeC x c e)
      exact ⟨_, q, hd⟩
    · exact ⟨o, keep c o (I.cne x c e) hc nch ho (I.freeC x c e), hd⟩
  refine ⟨I.ok, I.os, hg, ⟨fun b o e n hb hx => ?_, fun b o e n hb hx => ?_, fun b o e n hx => ?_, fun b o e hx => ?_, fun b xs e => tups b xs (I.base.tups b xs e), fun b o xs e => frzs b o xs (I.base.frzs b o xs e), fun b ps e => ?_⟩, ?_, fun x c e => ?_, ?_, fun x c e => ?_, fun p hp => ?_, hok, I.len⟩
  · exact keep b o (neL b o e) hb (neC b o e hx) (I.base.keep b o e n hb hx) (I.base.free b o e n hx)
  · obtain ⟨sl, e1⟩ := I.base.slot b o e n hb hx
    obtain ⟨sl', e2⟩ := slot b _ (neL b o e) hb (neC b o e hx) e1 (I.base.free b o e n hx)
    exact ⟨sl', e2⟩
  · obtain ⟨o', e1⟩ := I.base.there b o e hx
    exact free b o' (neC b o e hx) e1 (I.base.free b o e n hx)
  · obtain ⟨o', e1⟩ := I.base.there b o e hx
    exact there b o' (neC b o e hx) e1
  · obtain ⟨m1, e1⟩ := I.base.tbls b ps e
    obtain ⟨m2, e2⟩ := tbls b _ e1
    exact ⟨m1 ++ m2, by rw [e2, Array.append_assoc]⟩
  · obtain ⟨m, hn, hl⟩ := I.loc
    refine ⟨m, ns m hn, fun i x v e1 e2 e3 => ?_⟩
    obtain ⟨u, r, l⟩ := hl i x v e1 e2 e3
    refine ⟨u, r, ?_⟩
    rcases l with l | ⟨k, c, e, z⟩
    · exact .inl l
    · exact .inr ⟨k, c, e, cellK x c e _ z⟩
  · obtain ⟨v, z⟩ := I.cell x c e
    exact ⟨v, cellK x c e v z⟩
  · obtain ⟨m, ⟨o, _, _, ho, _⟩, _⟩ := I.loc
    exact free _ o (fun z => (hch _ z).2.1 rfl) ho I.free
  · obtain ⟨v, o, ho, hd⟩ := I.cell x c e
    exact free c o (fun z => (hch c z).2.2.1 x c e rfl) ho (I.freeC x c e)
  · obtain ⟨e, n, ne, nf, d⟩ := I.pin p hp
    have nch : p.1 ∉ ch := fun z => (hch p.1 z).2.2.2 p hp rfl
    exact ⟨keep p.1 p.2 ne nf nch e n, free p.1 p.2 nch e n, ne, nf, d⟩
/-- .. where the frame's own object is kept too -/
theorem Inv.un {t' : Nat} (I : Inv X pins σ H s) (u : Un X.fs [] H H' s.heap h') (hok : HOk X.prog X.w H' h') : Inv X pins σ H' { s with heap := h', toks := t' } := by
  obtain ⟨m, ⟨o, es, ep, ho, r⟩, _⟩ := id I.loc
  obtain ⟨sl, hL⟩ := u.any ho I.free (by simp)
  exact I.step (g' := s.gens) (d' := s.drawn) (ch := []) (fun _ z => nomatch z) (fun b o _ hb _ e n => u.keep b o e n hb (by simp)) (fun b o _ hb _ e n => u.slot b o e n hb (by simp)) (fun b o _ e n => u.free b o e n (by simp)) (fun b o _ e => u.there b o e (by simp)) u.tups u.frzs u.tbls (fun m' hm => by
    obtain ⟨o', es', ep', ho', r'⟩ := hm
    rw [ho] at ho'; cases ho'
    exact ⟨_, es', ep', hL, r'⟩) hok I.bare
/-- behind a call (or a comprehension's block): the slots of this frame may have changed too, the records at ch may have turned -/
theorem Inv.call {g' : Array GenState} {t' : Nat} {d' : Drawn} {ch : List Addr} (I : Inv X pins σ H s) (u : Un (frs X.stack) ch H H' s.heap h') (hok : HOk X.prog X.w H' h') (hg : AllBare g')
    (hch : ∀ b ∈ ch, (b ∈ X.ex ∨ X.s₀.heap.objs.size ≤ b) ∧ b ≠ X.env.locals ∧ (∀ x c, X.env.cells.lookup x = some c → c ≠ b) ∧ ∀ p ∈ X.pn ++ pins, p.1 ≠ b) :
    Inv X pins σ H' { s with heap := h', gens := g', drawn := d', toks := t' } := by
  obtain ⟨m, ⟨o, es, ep, ho, r⟩, _⟩ := id I.loc
  obtain ⟨sl, hL⟩ := u.any ho I.free fun z => (hch _ z).2.1 rfl
  exact I.step (ch := ch) hch (fun b o hL hb hc e n => u.keep b o e n (fun z => (List.mem_cons.mp (I.stkSub b z)).elim hL hb) hc) (fun b o _ _ hc e n => u.any e n hc) (fun b o hc e n => u.free b o e n hc) (fun b o hc e => u.there b o e hc) u.tups u.frzs u.tbls (fun m' hm => by
    obtain ⟨o', es', ep', ho', r'⟩ := hm
    rw [ho] at ho'; cases ho'
    exact ⟨_, es', ep', hL, r'⟩) hok hg
/-- an untracked record of ours (an iterator) has turned -/
theorem Inv.turned {t' : Nat} {it : Addr} (I : Inv X pins σ H s) (k : ∀ b o, b ≠ it → s.heap.get? b = some o → h'.get? b = some o) (hn : H it = none) (hL : it ≠ X.env.locals)
    (h1 : it ∈ X.ex ∨ X.s₀.heap.objs.size ≤ it) (h2 : ∀ x c, X.env.cells.lookup x = some c → c ≠ it) (h3 : ∀ p ∈ X.pn ++ pins, p.1 ≠ it) : Inv X pins σ H { s with heap := h', toks := t' } := by
  have nit : ∀ b u, H b = some u → b ≠ it := fun b u e z => by rw [z, hn] at e; cases e
  refine I.step (g' := s.gens) (d' := s.drawn) (ch := [it]) (fun b hb => ?_) (fun b o _ _ hc e _ => k b o (fun z => hc (by simp [z])) e) (fun b o _ _ hc e _ => ⟨o.slots, k b o (fun z => hc (by simp [z])) e⟩) (fun _ _ _ _ n => n)
    (fun b o hc e => ⟨o, k b o (fun z => hc (by simp [z])) e⟩) (fun _ _ e => e) (fun _ _ _ e => e) (fun b ps e => ⟨#[], by rw [e]; simp⟩) (fun m hm => ?_) (fun b u e => ?_) I.bare
  · have e : b = it := by simpa using hb
    subst e
    exact ⟨h1, hL, h2, h3⟩
  · obtain ⟨o, es, ep, ho, r⟩ := hm
    exact ⟨o, es, ep, k _ o (Ne.symm hL) ho, r⟩
  · refine (I.hok b u e).stay (fun c v hc q => k c v ?_ q) (fun _ q => q) fun _ _ q => q
    rcases hc with z | z
    · rw [z]; exact nit b u e
    · exact nit c _ z
theorem Inv.tok (I : Inv X pins σ H s) (t : Nat) : Inv X pins σ H { s with toks := t } := I.un (h' := s.heap) (t' := t) Un.refl I.hok
/-- all objects kept -/
theorem Inv.kept {t' : Nat} (I : Inv X pins σ H s) (k : ∀ b u, s.heap.get? b = some u → h'.get? b = some u) : Inv X pins σ H { s with heap := h', toks := t' } := I.un (Un.kept k) (I.hok.kept k)
/-- a new object laid and tracked -/
theorem Inv.laid {a : Addr} {o : HO} {t' : Nat} (I : Inv X pins σ H s) (k : ∀ b u, s.heap.get? b = some u → h'.get? b = some u) (hp : s.heap.objs.size ≤ a) (new : ObjOk X.prog X.w (upd H a o) h' a o) :
    Inv X pins σ (upd H a o) { s with heap := h', toks := t' } := I.un (Un.laid k hp (I.hok.fresh hp)) (I.hok.laid k hp new)
/-- an object written -/
theorem Inv.write {x e : Addr} {o : HO} {t' : Nat} (I : Inv X pins σ H s) (mu : Mut (H x)) (he : e = x ∨ H e = some (.own x)) (k : ∀ b u, b ≠ e → s.heap.get? b = some u → h'.get? b = some u) (heo : ∃ u, h'.get? e = some u)
    (new : ObjOk X.prog X.w (upd H x o) h' x o) : Inv X pins σ (upd H x o) { s with heap := h', toks := t' } := I.un (Un.write mu he k heo) (I.hok.write mu he k heo new)
/-- forgetting slots, pins -/
theorem Inv.weak {σ' : List (Option V)} (I : Inv X pins σ H s) (hl : σ'.length = σ.length) (w : ∀ (i : Nat) v, σ'[i]? = some (some v) → σ[i]? = some (some v)) : Inv X pins σ' H s :=
  ⟨I.ok, I.os, I.bare, I.base, let ⟨m, hn, hl'⟩ := I.loc; ⟨m, hn, fun i x v e1 e2 e3 => hl' i x v e1 (w i v e2) e3⟩, I.cell, I.free, I.freeC, I.pin, I.hok, hl.trans I.len⟩
theorem Inv.pins_of {pins' : List (Addr × Obj)} (I : Inv X pins σ H s) (h : ∀ p ∈ pins', s.heap.get? p.1 = some p.2 ∧ H p.1 = none ∧ p.1 ≠ X.env.locals ∧ p.1 ∉ X.fs ∧ ∀ v, p.2.data ≠ .cell v) : Inv X pins' σ H s :=
  ⟨I.ok, I.os, I.bare, I.base, I.loc, I.cell, I.free, I.freeC, fun p hp => (List.mem_append.mp hp).elim (fun z => I.pin p (List.mem_append_left _ z)) (h p), I.hok, I.len⟩

theorem nodup_ix {N : List Str} (hN : N.Nodup) {i j : Nat} {x : Str} (a : N[i]? = some x) (b : N[j]? = some x) : i = j := by
  obtain ⟨h1, e1⟩ := List.getElem?_eq_some_iff.mp a
  obtain ⟨h2, e2⟩ := List.getElem?_eq_some_iff.mp b
  exact (List.getElem_inj hN).mp (e1.trans e2.symm)

/-- a name is stored; what changed -/
theorem store_ok2 {M : Model} {A : Around} {E : Value → Shared → Prop} {i : Nat} {x : Str} {v : V} {u : Value} {Q : Unit → Shared → Prop} (I : Inv X pins σ H s) (hN : X.N.Nodup) (hi : X.N[i]? = some x) (hx : Loc X.env.scope x) (r : RelV v u)
    (h : ∀ s', Inv X pins (σ.set i (some v)) H s' → (∃ a, Heap.SameBut a s.heap s'.heap ∧ (a = X.env.locals ∨ X.env.cells.lookup x = some a)) → Q () s') (hf : X.fn x = true ∨ X.env.scope.names.lookup x = some .local := by first | exact .inl rfl | exact .inr rfl | assumption) : wpAny M A (storeName X.env x u) Q E s := by
  obtain ⟨m, hn, hl⟩ := id I.loc
  have hcls : (X.env.scope.kind == .class || (X.env.scope.kind == .module && X.env.locals != X.env.globals)) = false := by rw [I.ok.kind]; rfl
  have hiσ : i < σ.length := by rw [I.len]; exact (List.getElem?_eq_some_iff.mp hi).1
  have cne := I.cne
  have tracked : ∀ {a : Addr} {h' : Heap}, (∃ o, s.heap.get? a = some o ∧ H a = none) → Heap.SameBut a s.heap h' → HOk X.prog X.w H h' := fun {a h'} ha hs b ob e => by
    obtain ⟨_, _, hfree⟩ := ha
    refine (I.hok b ob e).stay (fun c w' hc q => (hs.2 c ?_).trans q) (fun _ q => q) fun _ _ q => q
    rintro rfl
    rcases hc with rfl | hc
    · rw [hfree] at e; cases e
    · rw [hfree] at hc; cases hc
  rcases hx with hk | hk
  · refine wpAny_storeName_local hk hn (fun h' hn' hs => ?_) hcls
    obtain ⟨oL, _, _, hoL, _⟩ := id hn
    refine h _ ⟨I.ok, I.os, I.bare, ⟨fun b o e n hb hx => ?_, fun b o e n hb hx => ?_, I.base.free, fun b o e hx => ?_, I.base.tups, I.base.frzs, I.base.tbls⟩, ⟨_, hn', fun j y v' e1 e2 e3 => ?_⟩, fun y c e => ?_, I.free, I.freeC, fun p hp => ?_, tracked ⟨oL, hoL, I.free⟩ hs, by simpa using I.len⟩ ⟨_, hs, .inl rfl⟩
    · exact (hs.2 b (Nat.ne_of_lt (Nat.lt_of_lt_of_le (Heap.lt_size e) I.ok.above))).trans (I.base.keep b o e n hb hx)
    · obtain ⟨sl, e1⟩ := I.base.slot b o e n hb hx
      exact ⟨sl, (hs.2 b (Nat.ne_of_lt (Nat.lt_of_lt_of_le (Heap.lt_size e) I.ok.above))).trans e1⟩
    · obtain ⟨o', e1⟩ := I.base.there b o e hx
      exact ⟨o', (hs.2 b (Nat.ne_of_lt (Nat.lt_of_lt_of_le (Heap.lt_size e) I.ok.above))).trans e1⟩
    · by_cases hj : j = i
      · subst hj
        rw [hi] at e1; cases e1
        rw [List.getElem?_set_self hiσ] at e2
        cases e2
        exact ⟨u, r, .inl ⟨hk, by simp⟩⟩
      · rw [List.getElem?_set_ne (Ne.symm hj)] at e2
        obtain ⟨u', r', q⟩ := hl j y v' e1 e2 e3
        refine ⟨u', r', ?_⟩
        rcases q with ⟨k, e⟩ | ⟨k, c, e, z⟩
        · refine .inl ⟨k, ?_⟩
          have : y ≠ x := fun e => hj (nodup_ix hN e1 (e ▸ hi))
          simp [this, e]
        · exact .inr ⟨k, c, e, z.sameBut hs (cne y c e)⟩
    · obtain ⟨w', z⟩ := I.cell y c e
      exact ⟨w', z.sameBut hs (cne y c e)⟩
    · obtain ⟨e, n, ne, nf, d⟩ := I.pin p hp
      exact ⟨(hs.2 p.1 ne).trans e, n, ne, nf, d⟩
  · have hfn : X.fn x = true := by
      rcases hf with z | z
      · exact z
      · rw [z] at hk; cases hk
    obtain ⟨c, hc⟩ := I.ok.has x (.inl hk)
    obtain ⟨w', z⟩ := I.cell x c hc
    refine wpAny_storeName_cell I.ok.kind hk hc z (fun h' hc' hs => ?_)
    obtain ⟨oc, hoc, hocd⟩ := id z
    refine h { s with heap := h' } ⟨I.ok, I.os, I.bare, ⟨fun b o e n hb hx => ?_, fun b o e n hb hx => ?_, I.base.free, fun b o e hx => ?_, I.base.tups, I.base.frzs, I.base.tbls⟩, ⟨m, hn.sameBut hs (Ne.symm (cne x c hc)), fun j y v' e1 e2 e3 => ?_⟩, fun y c' e => ?_, I.free, I.freeC, fun p hp => ?_, tracked ⟨oc, hoc, I.freeC x c hc⟩ hs, by simpa using I.len⟩ ⟨c, hs, .inr hc⟩
    · exact (hs.2 b (Nat.ne_of_lt (Nat.lt_of_lt_of_le (Heap.lt_size e) (I.ok.cab x c hfn hc)))).trans (I.base.keep b o e n hb hx)
    · obtain ⟨sl, e1⟩ := I.base.slot b o e n hb hx
      exact ⟨sl, (hs.2 b (Nat.ne_of_lt (Nat.lt_of_lt_of_le (Heap.lt_size e) (I.ok.cab x c hfn hc)))).trans e1⟩
    · obtain ⟨o', e1⟩ := I.base.there b o e hx
      exact ⟨o', (hs.2 b (Nat.ne_of_lt (Nat.lt_of_lt_of_le (Heap.lt_size e) (I.ok.cab x c hfn hc)))).trans e1⟩
    · by_cases hj : j = i
      · subst hj
        rw [hi] at e1; cases e1
        rw [List.getElem?_set_self hiσ] at e2
        cases e2
        exact ⟨u, r, .inr ⟨.inl hk, c, hc, hc'⟩⟩
      · rw [List.getElem?_set_ne (Ne.symm hj)] at e2
        obtain ⟨u', r', q⟩ := hl j y v' e1 e2 e3
        refine ⟨u', r', ?_⟩
        rcases q with q | ⟨k, c', e, z'⟩
        · exact .inl q
        · refine .inr ⟨k, c', e, z'.sameBut hs ?_⟩
          rintro rfl
          exact hj (nodup_ix hN e1 (I.ok.inj _ _ _ e hc ▸ hi))
    · by_cases hcc : c' = c
      · subst hcc; exact ⟨_, hc'⟩
      · obtain ⟨w2, z2⟩ := I.cell y c' e
        exact ⟨w2, z2.sameBut hs hcc⟩
    · obtain ⟨e, n, ne, nf, d⟩ := I.pin p hp
      refine ⟨(hs.2 p.1 ?_).trans e, n, ne, nf, d⟩
      intro q
      rw [q, hoc] at e
      have q' : oc = p.2 := Option.some.inj e
      exact d w' (by rw [← q']; exact hocd)
theorem store_ok {M : Model} {A : Around} {E : Value → Shared → Prop} {i : Nat} {x : Str} {v : V} {u : Value} {Q : Unit → Shared → Prop} (I : Inv X pins σ H s) (hN : X.N.Nodup) (hi : X.N[i]? = some x) (hx : Loc X.env.scope x) (r : RelV v u)
    (h : ∀ s', Inv X pins (σ.set i (some v)) H s' → Q () s') (hf : X.fn x = true ∨ X.env.scope.names.lookup x = some .local := by first | exact .inl rfl | exact .inr rfl | assumption) : wpAny M A (storeName X.env x u) Q E s :=
  store_ok2 I hN hi hx r (fun s' I' _ => h s' I') hf
/-- behind a call or a block, the state as it is -/
theorem Inv.call' {s' : Shared} {ch : List Addr} (I : Inv X pins σ H s) (ho : s'.os = s.os) (u : Un (frs X.stack) ch H H' s.heap s'.heap) (hok : HOk X.prog X.w H' s'.heap) (hg : AllBare s'.gens)
    (hch : ∀ b ∈ ch, (b ∈ X.ex ∨ X.s₀.heap.objs.size ≤ b) ∧ b ≠ X.env.locals ∧ (∀ x c, X.env.cells.lookup x = some c → c ≠ b) ∧ ∀ p ∈ X.pn ++ pins, p.1 ≠ b) : Inv X pins σ H' s' := by
  obtain ⟨h', g', d', t', o'⟩ := s'
  have e : o' = s.os := ho
  subst e
  exact I.call (g' := g') (t' := t') (d' := d') u hok hg hch
end

/-! ### the judgements -/
/-- an exception: its class, its own dict's address (where it has one), the abstract heap behind it -/
abbrev XK := Value → Option Addr → Hp → Prop
abbrev St := List (Option V)
abbrev VK := V → Hp → Prop
/-- an expression's reading; a test's; an argument list's -/
abbrev TE := St → Hp → VK → Prop
abbrev TT := St → Hp → (Bool → Hp → Prop) → Prop
abbrev TA := St → Hp → (List V → Hp → Prop) → Prop
/-- what is wanted behind a statement -/
structure Ends where
  nx : St → Hp → Prop
  rt : VK
  bk : St → Hp → Prop := fun _ _ => False
  ct : St → Hp → Prop := fun _ _ => False
abbrev TS := Ends → St → Hp → Prop

def EP (X : Cx) (pins : List (Addr × Obj)) (σ : St) (Q : VK) (u : Value) (s' : Shared) : Prop := ∃ v H', Inv X pins σ H' s' ∧ RelV v u ∧ Q v H'
def TP (X : Cx) (pins : List (Addr × Obj)) (σ : St) (Q : Bool → Hp → Prop) (b : Bool) (s' : Shared) : Prop := ∃ H', Inv X pins σ H' s' ∧ Q b H'
def AP (X : Cx) (pins : List (Addr × Obj)) (σ : St) (Q : List V → Hp → Prop) (us : List Value) (s' : Shared) : Prop := ∃ vs H', Inv X pins σ H' s' ∧ Vals vs us ∧ Q vs H'
def SP (X : Cx) (pins : List (Addr × Obj)) (D : Ends) (f : Flow) (s' : Shared) : Prop :=
  match f with
  | .next => ∃ σ' H', Inv X pins σ' H' s' ∧ D.nx σ' H'
  | .brk => ∃ σ' H', Inv X pins σ' H' s' ∧ D.bk σ' H'
  | .cont => ∃ σ' H', Inv X pins σ' H' s' ∧ D.ct σ' H'
  | .ret u => ∃ v σ' H', Inv X pins σ' H' s' ∧ RelV v u ∧ D.rt v H'

def PE (X : Cx) (e : Expr) (t : TE) : Prop :=
  ∀ (pins : List (Addr × Obj)) (s : Shared) (σ : St) (H : Hp) (Q : VK), Inv X pins σ H s → t σ H Q → wpAny (model X.prog X.w) X.A (eval e X.env) (EP X pins σ Q) X.xe s
def PT (X : Cx) (e : Expr) (t : TT) : Prop :=
  ∀ (pins : List (Addr × Obj)) (s : Shared) (σ : St) (H : Hp) (Q : Bool → Hp → Prop), Inv X pins σ H s → t σ H Q → wpAny (model X.prog X.w) X.A (isTrue e X.env (eval e X.env)) (TP X pins σ Q) X.xe s
/-- a test whatever its 'whole' is (and, or) -/
def PW (X : Cx) (e : Expr) (t : TT) : Prop :=
  ∀ (whole : Sem Value) (pins : List (Addr × Obj)) (s : Shared) (σ : St) (H : Hp) (Q : Bool → Hp → Prop), Inv X pins σ H s → t σ H Q → wpAny (model X.prog X.w) X.A (isTrue e X.env whole) (TP X pins σ Q) X.xe s
theorem PW.pt {X : Cx} {e : Expr} {t : TT} (h : PW X e t) : PT X e t := h _
/-- an argument list (no star), from the left -/
def PA (X : Cx) (es : List Expr) (t : TA) : Prop :=
  ∀ (pos : Pos) (pins : List (Addr × Obj)) (s : Shared) (σ : St) (H : Hp) (Q : List V → Hp → Prop), Inv X pins σ H s → t σ H Q → wpAny (model X.prog X.w) X.A (spliced (backTo pos (starEach es X.env))) (AP X pins σ Q) X.xe s
def PS (X : Cx) (st : Stmt) (t : TS) : Prop :=
  ∀ (pins : List (Addr × Obj)) (s : Shared) (σ : St) (H : Hp) (D : Ends), Inv X pins σ H s → t D σ H → wpAny (model X.prog X.w) X.A (exec st X.env) (SP X pins D) X.xe s
def PSs (X : Cx) (st : List Stmt) (t : TS) : Prop :=
  ∀ (pins : List (Addr × Obj)) (s : Shared) (σ : St) (H : Hp) (D : Ends), Inv X pins σ H s → t D σ H → wpAny (model X.prog X.w) X.A (execs st X.env) (SP X pins D) X.xe s
/-- weaken the end -/
theorem thn {α : Type} {t : Sem α} {Q Q' : α → Shared → Prop} {M : Model} {A : Around} {E : Value → Shared → Prop} {s : Shared} (h : wpAny M A t Q E s) (hQ : ∀ a s, Q a s → Q' a s) : wpAny M A t Q' E s := wpAny_mono h hQ fun _ _ x => x
end L2

namespace L2
open PySem PySem.Spec PyProof.Rows
section
variable {X : Cx}

/-- two expressions in a row -/
theorem bin {a b : Expr} {ta tb : TE} (ha : PE X a ta) (hb : PE X b tb) {pins : List (Addr × Obj)} {s : Shared} {σ : St} {H : Hp} {R : V → V → Hp → Prop} (I : Inv X pins σ H s) (h : ta σ H fun x H1 => tb σ H1 fun y H2 => R x y H2)
    {α : Type} {Q : α → Shared → Prop} {f : Value → Value → Sem α}
    (hf : ∀ v u s2 x y H2, Inv X pins σ H2 s2 → RelV x v → RelV y u → R x y H2 → wpAny (model X.prog X.w) X.A (f v u) Q X.xe s2) :
    wpAny (model X.prog X.w) X.A (eval a X.env) (fun v s₁ => wpAny (model X.prog X.w) X.A (eval b X.env) (fun u s₂ => wpAny (model X.prog X.w) X.A (f v u) Q X.xe s₂) X.xe s₁) X.xe s := by
  refine thn (ha pins s σ H _ I h) fun v s1 ⟨x, H1, I1, r1, q1⟩ => ?_
  refine thn (hb pins s1 σ H1 _ I1 q1) fun u s2 ⟨y, H2, I2, r2, q2⟩ => ?_
  exact hf v u s2 x y H2 I2 r1 r2 q2

/-! ### names and constants -/
def tVar (i : Nat) : TE := fun σ H Q => ∃ v, σ[i]? = some (some v) ∧ Q v H
def tC (v : V) : TE := fun _ H Q => Q v H
theorem pe_var {i : Nat} {x : Str} {pos : Pos} (hN : X.N[i]? = some x) (hv : Vis X.env.scope x) (hd : (x == ("__debug__" : Str)) = false := by decide) (hcd : (x == ("__classdict__" : Str)) = false := by decide) : PE X (.Name x pos) (tVar i) := by
  intro pins s σ H Q I h
  obtain ⟨v, e, h⟩ := h
  obtain ⟨m, hn, hl⟩ := I.loc
  obtain ⟨u, r, l⟩ := hl i x v hN e hv
  have fin : EP X pins σ Q u s := ⟨v, H, I, r, h⟩
  rcases l with ⟨hk, hm⟩ | ⟨hk, c, hc, hcell⟩
  · exact wpAny_Name (wpAny_loadName_local I.ok.kind hk hn hm fin) hd
  · rcases hk with hk | hk
    · exact wpAny_Name (wpAny_loadName_cell I.ok.kind hk hc hcell fin) hd
    · exact wpAny_Name (wpAny_loadName_free I.ok.kind hk hc hcell fin hcd) hd
theorem pe_int {i j pos} : PE X (.Constant (.int i) j pos) (tC (.int i)) := fun _ _ _ H _ I h => wpAny_Constant_int ⟨.int i, H, I.tok _, ⟨_, rfl⟩, h⟩
theorem pe_bl {b j pos} : PE X (.Constant (.bool b) j pos) (tC (.bl b)) := fun _ _ _ H _ I h => Constant_bool ⟨.bl b, H, I, rfl, h⟩
theorem pe_non {j pos} : PE X (.Constant .none j pos) (tC .non) := fun _ _ _ H _ I h => Constant_none ⟨.non, H, I, rfl, h⟩
theorem pe_str {x j pos} : PE X (.Constant (.str x) j pos) (tC (.str x)) := fun _ _ _ H _ I h => Calls.Constant_str ⟨.str x, H, I.tok _, ⟨_, rfl⟩, h⟩

/-- a global name of the def -/
def Gl (X : Cx) (x : Str) : Prop := X.env.kindOf x = some .globalImplicit
theorem ld_glob {E : Value → Shared → Prop} {pins : List (Addr × Obj)} {s : Shared} {σ : St} {H : Hp} {x : Str} {u : Value} {pos : Pos} {Q : Value → Shared → Prop} (I : Inv X pins σ H s) (hg : Gl X x) (hm : X.mg x = some u) (h : Q u s)
    (hd : (x == ("__debug__" : Str)) = false := by decide) : wpAny (model X.prog X.w) X.A (eval (.Name x pos) X.env) Q E s :=
  Calls.Name_function_global I.ok.kind hg (Calls.loadGlobal_global (by rw [I.ok.glob]; exact I.mod.glob.keeps I.bk) hm h) hd
theorem ld_blt {E : Value → Shared → Prop} {pins : List (Addr × Obj)} {s : Shared} {σ : St} {H : Hp} {x : Str} {u : Value} {pos : Pos} {Q : Value → Shared → Prop} (I : Inv X pins σ H s) (hg : Gl X x) (hm : X.mg x = none) (hv : bootBuiltins x = some u) (h : Q u s)
    (hn : x ≠ "__name__" := by decide) (hd : (x == ("__debug__" : Str)) = false := by decide) : wpAny (model X.prog X.w) X.A (eval (.Name x pos) X.env) Q E s := by
  obtain ⟨mb, h1, h2⟩ := I.mod.blt
  exact Calls.Name_function_global I.ok.kind hg (Calls.loadGlobal_builtin (by rw [I.ok.glob]; exact I.mod.glob.keeps I.bk) hm (by rw [I.ok.blt]; exact h1.keeps I.bk) ((h2 x hn).trans hv) h) hd
/-- a module's constant, a class, a function, as a value -/
theorem pe_glob {x : Str} {v : V} {u : Value} {pos : Pos} (hg : Gl X x) (hm : X.mg x = some u) (r : RelV v u) (hd : (x == ("__debug__" : Str)) = false := by decide) : PE X (.Name x pos) (tC v) :=
  fun _ _ _ H _ I h => ld_glob I hg hm ⟨v, H, I, r, h⟩ hd
theorem pe_bltn {x : Str} {v : V} {u : Value} {pos : Pos} (hg : Gl X x) (hm : X.mg x = none) (hv : bootBuiltins x = some u) (r : RelV v u) (hn : x ≠ "__name__" := by decide) (hd : (x == ("__debug__" : Str)) = false := by decide) : PE X (.Name x pos) (tC v) :=
  fun _ _ _ H _ I h => ld_blt I hg hm hv ⟨v, H, I, r, h⟩ hn hd

/-! ### arithmetic -/
/-- two ints -/
def t2I (ta tb : TE) (k : Int → Int → Hp → Prop) : St → Hp → Prop := fun σ H => ta σ H fun x H1 => tb σ H1 fun y H2 => ∃ i j, x = .int i ∧ y = .int j ∧ k i j H2
def tAdd (ta tb : TE) : TE := fun σ H Q => t2I ta tb (fun i j H2 => Q (.int (i + j)) H2) σ H
def tSub (ta tb : TE) : TE := fun σ H Q => t2I ta tb (fun i j H2 => Q (.int (i - j)) H2) σ H
/-- the left factor below 2^64 -/
def tMul (ta tb : TE) : TE := fun σ H Q => t2I ta tb (fun i j H2 => (-(2 ^ 64) < i ∧ i < 2 ^ 64) ∧ Q (.int (i * j)) H2) σ H
variable {a b : Expr} {ta tb : TE} {pos : Pos}
theorem pe_add (ha : PE X a ta) (hb : PE X b tb) : PE X (.BinOp a .Add b pos) (tAdd ta tb) := by
  intro pins s σ H Q I h
  refine wpAny_BinOp (bin ha hb I h fun v u s2 x y H2 I2 rx ry q => ?_)
  obtain ⟨i, j, rfl, rfl, q⟩ := q
  obtain ⟨t, rfl⟩ := rx
  obtain ⟨t', rfl⟩ := ry
  exact add_int ⟨.int _, H2, I2.tok _, ⟨_, rfl⟩, q⟩
theorem pe_sub (ha : PE X a ta) (hb : PE X b tb) : PE X (.BinOp a .Sub b pos) (tSub ta tb) := by
  intro pins s σ H Q I h
  refine wpAny_BinOp (bin ha hb I h fun v u s2 x y H2 I2 rx ry q => ?_)
  obtain ⟨i, j, rfl, rfl, q⟩ := q
  obtain ⟨t, rfl⟩ := rx
  obtain ⟨t', rfl⟩ := ry
  exact sub_int ⟨.int _, H2, I2.tok _, ⟨_, rfl⟩, q⟩
theorem pe_mul (ha : PE X a ta) (hb : PE X b tb) : PE X (.BinOp a .Mult b pos) (tMul ta tb) := by
  intro pins s σ H Q I h
  refine wpAny_BinOp (bin ha hb I h fun v u s2 x y H2 I2 rx ry q => ?_)
  obtain ⟨i, j, rfl, rfl, ⟨q1, q2⟩, q⟩ := q
  obtain ⟨t, rfl⟩ := rx
  obtain ⟨t', rfl⟩ := ry
  exact mul_int ⟨.int _, H2, I2.tok _, ⟨_, rfl⟩, q⟩ (.of_left (intBits_le_64 q1 q2))

/-! ### comparisons -/
def PC (X : Cx) (op : CmpOp) (a b : Expr) (t : TE) : Prop :=
  ∀ (pins : List (Addr × Obj)) (s : Shared) (σ : St) (H : Hp) (Q : VK), Inv X pins σ H s → t σ H Q →
    wpAny (model X.prog X.w) X.A (eval a X.env) (fun v s₁ => wpAny (model X.prog X.w) X.A (eval b X.env) (fun u s₂ => wpAny (model X.prog X.w) X.A (compareOp op v u) (EP X pins σ Q) X.xe s₂) X.xe s₁) X.xe s
theorem nobehind (b : Expr) {op : CmpOp} (h : op ≠ .In) (h2 : op ≠ .NotIn) : behindInMarks op b = false := by
  have e1 : (op == CmpOp.In) = false := by cases op <;> first | rfl | exact absurd rfl h
  have e2 : (op == CmpOp.NotIn) = false := by cases op <;> first | rfl | exact absurd rfl h2
  cases b <;> simp [behindInMarks, e1, e2]
def tCmp (p : Int → Int → Bool) (ta tb : TE) : TE := fun σ H Q => t2I ta tb (fun i j H2 => Q (.bl (p i j)) H2) σ H
abbrev tLt : TE → TE → TE := tCmp fun i j => decide (i < j)
abbrev tLe : TE → TE → TE := tCmp fun i j => decide (i ≤ j)
abbrev tGt : TE → TE → TE := tCmp fun i j => decide (j < i)
abbrev tGe : TE → TE → TE := tCmp fun i j => decide (j ≤ i)
abbrev tEqI : TE → TE → TE := tCmp fun i j => decide (i = j)
abbrev tNeI : TE → TE → TE := tCmp fun i j => !decide (i = j)
/-- a comparison of two ints, by its rule -/
theorem pc_int {op : CmpOp} {p : Int → Int → Bool} (ha : PE X a ta) (hb : PE X b tb)
    (rule : ∀ (i j : Int) (t u : Tok) (Q : Value → Shared → Prop) (s : Shared), Q (.bool (p i j)) s → wpAny (model X.prog X.w) X.A (compareOp op (.int i t) (.int j u)) Q X.xe s) : PC X op a b (tCmp p ta tb) := by
  intro pins s σ H Q I h
  refine bin ha hb I h fun v u s2 x y H2 I2 rx ry q => ?_
  obtain ⟨i, j, rfl, rfl, q⟩ := q
  obtain ⟨t, rfl⟩ := rx
  obtain ⟨t', rfl⟩ := ry
  exact rule i j t t' _ s2 ⟨.bl _, H2, I2, rfl, q⟩
theorem pc_lt (ha : PE X a ta) (hb : PE X b tb) : PC X .Lt a b (tLt ta tb) := pc_int ha hb fun _ _ _ _ _ _ h => lt_int h
theorem pc_le (ha : PE X a ta) (hb : PE X b tb) : PC X .LtE a b (tLe ta tb) := pc_int ha hb fun _ _ _ _ _ _ h => le_int h
theorem pc_gt (ha : PE X a ta) (hb : PE X b tb) : PC X .Gt a b (tGt ta tb) := pc_int ha hb fun _ _ _ _ _ _ h => gt_int h
theorem pc_ge (ha : PE X a ta) (hb : PE X b tb) : PC X .GtE a b (tGe ta tb) := pc_int ha hb fun _ _ _ _ _ _ h => ge_int h
theorem pc_eqI (ha : PE X a ta) (hb : PE X b tb) : PC X .Eq a b (tEqI ta tb) := pc_int ha hb fun _ _ _ _ _ _ h => eq_int (by rw [Bool.beq_eq_decide_eq]; exact h)
theorem pc_neI (ha : PE X a ta) (hb : PE X b tb) : PC X .NotEq a b (tNeI ta tb) := pc_int ha hb fun _ _ _ _ _ _ h => ne_int (by rw [bne, Bool.beq_eq_decide_eq]; exact h)
/-- is None -/
def tIsN (ta : TE) : TE := fun σ H Q => ta σ H fun x H1 => Q (.bl (decide (x = .non))) H1
def tNotN (ta : TE) : TE := fun σ H Q => ta σ H fun x H1 => Q (.bl (!decide (x = .non))) H1
theorem RelV.none_iff {x : V} {v : Value} (r : RelV x v) : (v == Value.none) = decide (x = .non) := by
  cases x with
  | non => cases r; rfl
  | bl _ => cases r; rfl
  | int _ => obtain ⟨t, rfl⟩ := r; rfl
  | str _ => obtain ⟨t, rfl⟩ := r; rfl
  | byt _ => obtain ⟨t, rfl⟩ := r; rfl
  | flt _ => obtain ⟨t, rfl⟩ := r; rfl
  | ref _ => cases r; rfl
  | ty _ => cases r; rfl
theorem pc_isN {j pos'} (ha : PE X a ta) : PC X .Is a (.Constant .none j pos') (tIsN ta) := by
  intro pins s σ H Q I h
  refine thn (ha pins s σ H _ I h) fun v s1 ⟨x, H1, I1, r1, q1⟩ => ?_
  exact Constant_none (is_none_gen ⟨.bl _, H1, I1, by rw [r1.none_iff]; rfl, q1⟩)
theorem pc_notN {j pos'} (ha : PE X a ta) : PC X .IsNot a (.Constant .none j pos') (tNotN ta) := by
  intro pins s σ H Q I h
  refine thn (ha pins s σ H _ I h) fun v s1 ⟨x, H1, I1, r1, q1⟩ => ?_
  exact Constant_none (isnot_none_gen ⟨.bl _, H1, I1, by rw [r1.none_iff]; rfl, q1⟩)
/-- a comparison as a value, as a test -/
def tB (t : TE) : TT := fun σ H Q => t σ H fun x H1 => ∃ c, x = .bl c ∧ Q c H1
theorem pe_cmp {op : CmpOp} {t : TE} (h : PC X op a b t) (h1 : behindInMarks op b = false := by first | exact nobehind _ (by decide) (by decide) | rfl) : PE X (.Compare a [op] [b] pos) t := fun pins s σ H Q I hw => wpAny_Compare1 (h pins s σ H Q I hw) h1
theorem pt_cmp {op : CmpOp} {t : TE} (h : PC X op a b t) (h1 : behindInMarks op b = false := by first | exact nobehind _ (by decide) (by decide) | rfl) : PT X (.Compare a [op] [b] pos) (tB t) := by
  intro pins s σ H Q I hw
  refine wpAny_isTrue_Compare1 (thn (h pins s σ H _ I hw) fun v s1 h1 => thn h1 fun u s2 h2 => thn h2 fun c s3 ⟨x, H1, I1, r1, q1⟩ => ?_) h1
  obtain ⟨d, rfl, q⟩ := q1
  cases r1
  exact wpAny_truthy_bool ⟨H1, I1, q⟩
/-- an expression whose value is a bool, as a test -/
theorem pt_val {e : Expr} {t : TE} (h : PE X e t) (he : ∀ whole, isTrue e X.env whole = (do let v ← whole; standAt e.pos; holding [v] (truthy v)) := by intro _; rfl) : PT X e (tB t) := by
  intro pins s σ H Q I hw
  refine isTrue_plain (thn (h pins s σ H _ I hw) fun v s1 ⟨x, H1, I1, r1, q1⟩ => ?_) (he _)
  obtain ⟨d, rfl, q⟩ := q1
  cases r1
  exact wpAny_truthy_bool ⟨H1, I1, q⟩

/-! ### and, or, not -/
variable {tA tB' : TT} {rest : List Expr}
def tAnd (t u : TT) : TT := fun σ H Q => t σ H fun c H1 => if c = true then u σ H1 Q else Q false H1
def tOr (t u : TT) : TT := fun σ H Q => t σ H fun c H1 => if c = true then Q true H1 else u σ H1 Q
def tNot (t : TT) : TT := fun σ H Q => t σ H fun c H1 => Q (!c) H1
theorem pw_and1 (ha : PT X a tA) : PW X (.BoolOp .And [a] pos) tA := by
  intro wh pins s σ H Q I h
  refine isTrue_and (thn (ha pins s σ H Q I h) fun c s1 e => ?_)
  cases c with
  | true => exact isTrue_and_nil e
  | false => exact e
theorem pw_or1 (ha : PT X a tA) : PW X (.BoolOp .Or [a] pos) tA := by
  intro wh pins s σ H Q I h
  refine isTrue_or (thn (ha pins s σ H Q I h) fun c s1 e => ?_)
  cases c with
  | false => exact isTrue_or_nil e
  | true => exact e
theorem pw_and (ha : PT X a tA) (hb : PW X (.BoolOp .And (b :: rest) pos) tB') : PW X (.BoolOp .And (a :: b :: rest) pos) (tAnd tA tB') := by
  intro wh pins s σ H Q I h
  refine isTrue_and (thn (ha pins s σ H _ I h) fun c s1 ⟨H1, I1, q1⟩ => ?_)
  cases c with
  | true => exact hb wh pins s1 σ H1 Q I1 q1
  | false => exact ⟨H1, I1, q1⟩
theorem pw_or (ha : PT X a tA) (hb : PW X (.BoolOp .Or (b :: rest) pos) tB') : PW X (.BoolOp .Or (a :: b :: rest) pos) (tOr tA tB') := by
  intro wh pins s σ H Q I h
  refine isTrue_or (thn (ha pins s σ H _ I h) fun c s1 ⟨H1, I1, q1⟩ => ?_)
  cases c with
  | true => exact ⟨H1, I1, q1⟩
  | false => exact hb wh pins s1 σ H1 Q I1 q1
theorem pt_not (ha : PT X a tA) : PT X (.UnaryOp .Not a pos) (tNot tA) := by
  intro pins s σ H Q I h
  exact isTrue_not (ha pins s σ H (fun c H1 => Q (!c) H1) I h)
/-- .. as values (bools) -/
def tAndV (ta tb : TE) : TE := fun σ H Q => ta σ H fun x H1 => ∃ c, x = .bl c ∧ if c = true then tb σ H1 Q else Q (.bl false) H1
def tOrV (ta tb : TE) : TE := fun σ H Q => ta σ H fun x H1 => ∃ c, x = .bl c ∧ if c = true then Q (.bl true) H1 else tb σ H1 Q
def tNotV (ta : TE) : TE := fun σ H Q => ta σ H fun x H1 => ∃ c, x = .bl c ∧ Q (.bl (!c)) H1
theorem pe_one {op} {t : TE} (h : PE X a t) : PE X (.BoolOp op [a] pos) t := fun pins s σ H Q I hw => BoolOp_one (h pins s σ H Q I hw)
theorem pe_and (ha : PE X a ta) (hb : PE X (.BoolOp .And (b :: rest) pos) tb) : PE X (.BoolOp .And (a :: b :: rest) pos) (tAndV ta tb) := by
  intro pins s σ H Q I h
  refine BoolOp_and (thn (ha pins s σ H _ I h) fun v s1 ⟨x, H1, I1, r1, q1⟩ => ?_)
  obtain ⟨c, rfl, q1⟩ := q1
  cases r1
  refine wpAny_truthy_bool ?_
  cases c with
  | true => exact hb pins s1 σ H1 Q I1 q1
  | false => exact ⟨.bl false, H1, I1, rfl, q1⟩
theorem pe_or (ha : PE X a ta) (hb : PE X (.BoolOp .Or (b :: rest) pos) tb) : PE X (.BoolOp .Or (a :: b :: rest) pos) (tOrV ta tb) := by
  intro pins s σ H Q I h
  refine BoolOp_or (thn (ha pins s σ H _ I h) fun v s1 ⟨x, H1, I1, r1, q1⟩ => ?_)
  obtain ⟨c, rfl, q1⟩ := q1
  cases r1
  refine wpAny_truthy_bool ?_
  cases c with
  | false => exact hb pins s1 σ H1 Q I1 q1
  | true => exact ⟨.bl true, H1, I1, rfl, q1⟩
theorem pe_not (ha : PE X a ta) : PE X (.UnaryOp .Not a pos) (tNotV ta) := by
  intro pins s σ H Q I h
  refine UnaryOp_ (thn (ha pins s σ H _ I h) fun v s1 ⟨x, H1, I1, r1, q1⟩ => ?_)
  obtain ⟨c, rfl, q1⟩ := q1
  cases r1
  exact not_of (wpAny_truthy_bool ⟨.bl (!c), H1, I1, rfl, q1⟩)
/-- a if t else b -/
def tIf (t : TT) (ta tb : TE) : TE := fun σ H Q => t σ H fun c H1 => if c = true then ta σ H1 Q else tb σ H1 Q
theorem pe_ifExp {c : Expr} (hc : PT X c tA) (ha : PE X a ta) (hb : PE X b tb) : PE X (.IfExp c a b pos) (tIf tA ta tb) := by
  intro pins s σ H Q I h
  refine wpAny_IfExp (thn (hc pins s σ H _ I h) fun d s1 ⟨H1, I1, q1⟩ => ?_)
  cases d with
  | true => exact ha pins s1 σ H1 Q I1 q1
  | false => exact hb pins s1 σ H1 Q I1 q1
end
end L2

namespace L2
open PySem PySem.Spec PyProof.Rows

/-! ### a list, a tuple that is read: tracked, frozen, or an object of the module -/
def SqL (K : PySem.W.Frag) (H : Hp) (a : Addr) (xs : List V) : Prop :=
  Rd H a (.lst xs) ∨
    ∃ (o : Obj) (its : Array Value) (n : Nat), K.lookup a = some o ∧ o.cls = .type "list" ∧ o.dict = none ∧ o.data = .seq its n ∧ its.size ≤ sizeLine ∧ Vals xs its.toList
def SqT (K : PySem.W.Frag) (H : Hp) (a : Addr) (xs : List V) : Prop :=
  Rd H a (.tup xs) ∨
    ∃ (o : Obj) (its : Array Value) (n : Nat), K.lookup a = some o ∧ o.cls = .type "tuple" ∧ o.data = .seq its n ∧ its.size ≤ sizeLine ∧ Vals xs its.toList
def absV : Value → Option V
  | .none => some .non
  | .bool b => some (.bl b)
  | .int i _ => some (.int i)
  | .str x _ => some (.str x)
  | .bytes b _ => some (.byt b)
  | .float b _ => some (.flt b)
  | .ref a => some (.ref a)
  | .type n => some (.ty n)
  | _ => none
theorem RelV.abs {x : V} {u : Value} (r : RelV x u) : absV u = some x := by
  cases x with
  | non => cases r; rfl
  | bl _ => cases r; rfl
  | int _ => obtain ⟨t, rfl⟩ := r; rfl
  | str _ => obtain ⟨t, rfl⟩ := r; rfl
  | byt _ => obtain ⟨t, rfl⟩ := r; rfl
  | flt _ => obtain ⟨t, rfl⟩ := r; rfl
  | ref _ => cases r; rfl
  | ty _ => cases r; rfl
theorem RelV.inj {x y : V} {u : Value} (r : RelV x u) (q : RelV y u) : x = y := Option.some.inj (r.abs.symm.trans q.abs)
theorem Vals.inj : ∀ {xs ys : List V} {us : List Value}, Vals xs us → Vals ys us → xs = ys
  | _, _, _, .nil, .nil => rfl
  | _, _, _, .cons r t, .cons r' t' => by rw [r.inj r', Vals.inj t t']
section
variable {X : Cx} {pins : List (Addr × Obj)} {σ : St} {H : Hp} {s : Shared} {a : Addr} {xs ys : List V}
theorem SqL.of {K : PySem.W.Frag} (h : H a = some (.lst xs)) : SqL K H a xs := .inl (.inl h)
theorem SqT.of {K : PySem.W.Frag} (h : H a = some (.tup xs)) : SqT K H a xs := .inl (.inl h)
theorem Inv.list (I : Inv X pins σ H s) (h : SqL X.K H a xs) : ∃ its : List Value, Vals xs its ∧ PlainL s.heap a its.toArray ∧ xs.length ≤ sizeLine := by
  rcases h with h | ⟨o, its, n, hk, hc, hd, hs, hz, r⟩
  · obtain ⟨z, its, n, r, e⟩ := h.ok I.hok
    exact ⟨its, r, ⟨_, n, e, rfl, rfl, rfl⟩, z⟩
  · refine ⟨its.toList, r, ⟨o, n, I.kIn a o hk, hc, hd, by simpa using hs⟩, ?_⟩
    have e := r.length
    simp only [Array.length_toList] at e
    omega
theorem Inv.tuple (I : Inv X pins σ H s) (h : SqT X.K H a xs) : ∃ its : List Value, Vals xs its ∧ IsTup s.heap a its.toArray ∧ xs.length ≤ sizeLine := by
  rcases h with h | ⟨o, its, n, hk, hc, hs, hz, r⟩
  · obtain ⟨z, its, r, p⟩ := h.ok I.hok
    exact ⟨its, r, p, z⟩
  · refine ⟨its.toList, r, ⟨o, I.kIn a o hk, hc, n, by simpa using hs⟩, ?_⟩
    have e := r.length
    simp only [Array.length_toList] at e
    omega
theorem Inv.list_inj (I : Inv X pins σ H s) (h : SqL X.K H a xs) (h' : SqL X.K H a ys) : xs = ys := by
  obtain ⟨its, r, ⟨o, n, e, _, _, d⟩, _⟩ := I.list h
  obtain ⟨its', r', ⟨o', n', e', _, _, d'⟩, _⟩ := I.list h'
  rw [e] at e'; cases e'
  rw [d] at d'
  injection d' with d1 _
  have : its = its' := by simpa using congrArg Array.toList d1
  subst this
  exact r.inj r'
theorem Inv.tuple_inj (I : Inv X pins σ H s) (h : SqT X.K H a xs) (h' : SqT X.K H a ys) : xs = ys := by
  obtain ⟨its, r, ⟨o, e, _, n, d⟩, _⟩ := I.tuple h
  obtain ⟨its', r', ⟨o', e', _, n', d'⟩, _⟩ := I.tuple h'
  rw [e] at e'; cases e'
  rw [d] at d'
  injection d' with d1 _
  have : its = its' := by simpa using congrArg Array.toList d1
  subst this
  exact r.inj r'
end

/-! ### another wish about exceptions -/
abbrev Cx.wish (X : Cx) (E : Value → Shared → Prop) : Cx := { X with xe := E }
/-- no exception leaves -/
abbrev Cx.nox (X : Cx) : Cx := X.wish fun _ _ => False
theorem Cx.Ok.wish {X : Cx} (ok : X.Ok) (E : Value → Shared → Prop) : (X.wish E).Ok :=
  ⟨ok.mod, ok.kind, ok.glob, ok.blt, ok.above, ok.inj, ok.has, ok.cab, ok.hd, ok.frames, ok.stk, ok.exf, ok.bs, ok.bsz, ok.noex, ok.exfs, ok.funs, ok.frf⟩
theorem Cx.Ok.unwish {X : Cx} {E : Value → Shared → Prop} (ok : (X.wish E).Ok) : X.Ok :=
  ⟨ok.mod, ok.kind, ok.glob, ok.blt, ok.above, ok.inj, ok.has, ok.cab, ok.hd, ok.frames, ok.stk, ok.exf, ok.bs, ok.bsz, ok.noex, ok.exfs, ok.funs, ok.frf⟩
section
variable {X : Cx} {pins : List (Addr × Obj)} {σ : St} {H : Hp} {s : Shared} {E : Value → Shared → Prop}
theorem Inv.wish (I : Inv X pins σ H s) (E : Value → Shared → Prop) : Inv (X.wish E) pins σ H s := ⟨I.ok.wish E, I.os, I.bare, I.base, I.loc, I.cell, I.free, I.freeC, I.pin, I.hok, I.len⟩
theorem Inv.unwish (I : Inv (X.wish E) pins σ H s) : Inv X pins σ H s := ⟨I.ok.unwish, I.os, I.bare, I.base, I.loc, I.cell, I.free, I.freeC, I.pin, I.hok, I.len⟩
theorem SP.unwish {D : Ends} {f : Flow} {s' : Shared} (h : SP (X.wish E) pins D f s') : SP X pins D f s' := by
  cases f with
  | next => obtain ⟨σ', H', I, q⟩ := h; exact ⟨σ', H', I.unwish, q⟩
  | brk => obtain ⟨σ', H', I, q⟩ := h; exact ⟨σ', H', I.unwish, q⟩
  | cont => obtain ⟨σ', H', I, q⟩ := h; exact ⟨σ', H', I.unwish, q⟩
  | ret u => obtain ⟨v, σ', H', I, r, q⟩ := h; exact ⟨v, σ', H', I.unwish, r, q⟩
theorem PE.nox {e : Expr} {t : TE} (h : PE X.nox e t) : PE X e t := fun pins s σ H Q I hw =>
  wpAny_mono (h pins s σ H Q (I.wish _) hw) (fun _ _ ⟨v, H', I', r, q⟩ => ⟨v, H', I'.unwish, r, q⟩) fun _ _ z => False.elim z
theorem PT.nox {e : Expr} {t : TT} (h : PT X.nox e t) : PT X e t := fun pins s σ H Q I hw =>
  wpAny_mono (h pins s σ H Q (I.wish _) hw) (fun _ _ ⟨H', I', q⟩ => ⟨H', I'.unwish, q⟩) fun _ _ z => False.elim z
theorem PSs.nox {st : List Stmt} {t : TS} (h : PSs X.nox st t) : PSs X st t := fun pins s σ H D I hw =>
  wpAny_mono (h pins s σ H D (I.wish _) hw) (fun _ _ q => q.unwish) fun _ _ z => False.elim z
end

/-! ### blocks and small statements -/
section
variable {X : Cx} {st : Stmt} {rest : List Stmt} {t u : TS} {e : Expr} {te : TE} {pos : Pos}
def tNext : TS := fun D σ H => D.nx σ H
def tSeq (t u : TS) : TS := fun D σ H => t { D with nx := u D } σ H
theorem pss_nil : PSs X [] tNext := fun _ _ σ H _ I h => wpAny_execs_nil ⟨σ, H, I, h⟩
theorem pss_cons (h1 : PS X st t) (h2 : PSs X rest u) : PSs X (st :: rest) (tSeq t u) := by
  intro pins s σ H D I h
  refine wpAny_execs_cons (thn (h1 pins s σ H { D with nx := u D } I h) fun f s1 q => ?_)
  cases f with
  | next =>
    obtain ⟨σ', H', I', q⟩ := q
    exact h2 pins s1 σ' H' D I' q
  | ret v => exact q
  | brk => exact q
  | cont => exact q
theorem pss_one (h1 : PS X st t) : PSs X [st] t := by
  intro pins s σ H D I h
  refine wpAny_execs_cons (thn (h1 pins s σ H D I h) fun f s1 q => ?_)
  cases f with
  | next => exact wpAny_execs_nil q
  | ret v => exact q
  | brk => exact q
  | cont => exact q
def tBreak : TS := fun D σ H => D.bk σ H
def tCont : TS := fun D σ H => D.ct σ H
theorem ps_pass : PS X (.Pass pos) tNext := fun _ _ σ H _ I h => wpAny_Pass ⟨σ, H, I, h⟩
theorem ps_break : PS X (.Break pos) tBreak := fun _ _ σ H _ I h => wpAny_Break ⟨σ, H, I, h⟩
theorem ps_continue : PS X (.Continue pos) tCont := fun _ _ σ H _ I h => wpAny_Continue ⟨σ, H, I, h⟩
/-- in a def's body nothing is shown -/
theorem Inv.quiet {pins : List (Addr × Obj)} {σ : St} {H : Hp} {s : Shared} (I : Inv X pins σ H s) : interactive X.env = false := by simp [interactive, I.ok.kind]
/-- a docstring -/
theorem ps_doc {x j pos pos'} : PS X (.Expr (.Constant (.str x) j pos) pos') tNext := fun _ s σ H _ I h => wpAny_Expr (Calls.Constant_str (show SP X _ _ .next { s with toks := s.toks + 1 } from ⟨σ, H, I.tok _, h⟩)) I.quiet
/-- an expression whose value is dropped -/
def tDrop (te : TE) : TS := fun D σ H => te σ H fun _ H1 => D.nx σ H1
theorem ps_expr (he : PE X e te) (hs : swapsWith e none pos.line X.env = pure false := by rfl) : PS X (.Expr e pos) (tDrop te) := by
  intro pins s σ H D I h
  exact wpAny_Expr_any (thn (he pins s σ H _ I h) fun v s1 ⟨x, H1, I1, r1, q1⟩ => ⟨σ, H1, I1, q1⟩) I.quiet hs
def tRet (te : TE) : TS := fun D σ H => te σ H D.rt
theorem ps_ret (he : PE X e te) : PS X (.Return (some e) pos) (tRet te) := by
  intro pins s σ H D I h
  exact wpAny_Return_some (thn (he pins s σ H _ I h) fun v s1 ⟨x, H1, I1, r1, q1⟩ => ⟨x, σ, H1, I1, r1, q1⟩)
def tRetN : TS := fun D _ H => D.rt .non H
theorem ps_retN : PS X (.Return none pos) tRetN := fun _ _ σ H _ I h => wpAny_Return_none ⟨.non, σ, H, I, rfl, h⟩
def tIfS (c : TT) (t u : TS) : TS := fun D σ H => c σ H fun b H1 => if b = true then t D σ H1 else u D σ H1
theorem ps_if {c : Expr} {a b : List Stmt} {tc : TT} (hc : PT X c tc) (ha : PSs X a t) (hb : PSs X b u) : PS X (.If c a b pos) (tIfS tc t u) := by
  intro pins s σ H D I h
  refine wpAny_If (thn (hc pins s σ H _ I h) fun d s1 ⟨H1, I1, q1⟩ => ?_)
  cases d with
  | true => exact ha pins s1 σ H1 D I1 q1
  | false => exact hb pins s1 σ H1 D I1 q1
/-- code that the proof never comes to -/
def tNever : TS := fun _ _ _ => False
theorem ps_never : PS X st tNever := fun _ _ _ _ _ _ h => h.elim
theorem pss_never {sts : List Stmt} : PSs X sts tNever := fun _ _ _ _ _ _ h => h.elim
end

/-! ### targets -/
abbrev TG := V → St → Hp → (St → Hp → Prop) → Prop
abbrev TGs := List V → St → Hp → (St → Hp → Prop) → Prop
def PG (X : Cx) (target : Expr) (t : TG) : Prop :=
  ∀ (pins : List (Addr × Obj)) (s : Shared) (σ : St) (H : Hp) (v : V) (u : Value) (Q : St → Hp → Prop), Inv X pins σ H s → RelV v u → t v σ H Q →
    wpAny (model X.prog X.w) X.A (assign target X.env u) (fun _ s' => ∃ σ' H', Inv X pins σ' H' s' ∧ Q σ' H') X.xe s
/-- several targets, one after another -/
def PGs (X : Cx) (ts : List Expr) (t : TGs) : Prop :=
  ∀ (pins : List (Addr × Obj)) (s : Shared) (σ : St) (H : Hp) (vs : List V) (us : List Value) (Q : St → Hp → Prop), Inv X pins σ H s → Vals vs us → t vs σ H Q →
    wpAny (model X.prog X.w) X.A (assignInOrder ((assignEach ts X.env).map (·.2)) us) (fun _ s' => ∃ σ' H', Inv X pins σ' H' s' ∧ Q σ' H') X.xe s
/-- o[i] = v, by values -/
abbrev TSet := V → V → V → Hp → (Hp → Prop) → Prop
def PSet (X : Cx) (t : TSet) : Prop :=
  ∀ (pins : List (Addr × Obj)) (s : Shared) (σ : St) (H : Hp) (o i v : V) (ov iv u : Value) (Q : Hp → Prop), Inv X pins σ H s → RelV o ov → RelV i iv → RelV v u → t o i v H Q →
    wpAny (model X.prog X.w) X.A (setItem ov iv u) (fun _ s' => ∃ H', Inv X pins σ H' s' ∧ Q H') X.xe s
/-- a op= b, by values -/
abbrev TIp := V → V → Hp → VK → Prop
def PIp (X : Cx) (op : Operator) (t : TIp) : Prop :=
  ∀ (pins : List (Addr × Obj)) (s : Shared) (σ : St) (H : Hp) (x y : V) (v u : Value) (Q : VK), Inv X pins σ H s → RelV x v → RelV y u → t x y H Q →
    wpAny (model X.prog X.w) X.A (inplaceOp op v u) (EP X pins σ Q) X.xe s
section
variable {X : Cx} {pos : Pos}
def gName (i : Nat) : TG := fun v σ H Q => Q (σ.set i (some v)) H
theorem pg_name {i : Nat} {x : Str} (hN : X.N.Nodup) (hi : X.N[i]? = some x) (hx : Loc X.env.scope x) (hf : X.fn x = true ∨ X.env.scope.names.lookup x = some .local := by first | exact .inl rfl | exact .inr rfl | assumption) : PG X (.Name x pos) (gName i) := by
  intro pins s σ H v u Q I r h
  exact wpAny_assign_Name (store_ok I hN hi hx r (fun s' I' => ⟨_, H, I', h⟩) hf)
def gNil : TGs := fun vs σ H Q => vs = [] ∧ Q σ H
def gCons (t : TG) (u : TGs) : TGs := fun vs σ H Q => ∃ v r, vs = v :: r ∧ t v σ H fun σ' H' => u r σ' H' Q
theorem pgs_nil : PGs X [] gNil := by
  intro pins s σ H vs us Q I r h
  obtain ⟨e, h⟩ := h
  subst e
  cases r
  exact assignInOrder_nil ⟨σ, H, I, h⟩
theorem pgs_cons {e : Expr} {es : List Expr} {t : TG} {u : TGs} (h1 : PG X e t) (h2 : PGs X es u)
    (hs : (assignEach (e :: es) X.env).map (·.2) = assign e X.env :: (assignEach es X.env).map (·.2) := by rfl) : PGs X (e :: es) (gCons t u) := by
  intro pins s σ H vs us Q I r h
  obtain ⟨v, vr, e1, h⟩ := h
  subst e1
  cases r with
  | cons r rr =>
    rw [hs]
    refine assignInOrder_cons (thn (h1 pins s σ H _ _ _ I r h) fun _ s1 ⟨σ1, H1, I1, q1⟩ => ?_)
    exact h2 pins s1 σ1 H1 _ _ Q I1 rr q1
/-- (a, b, ..) = a tuple of that length -/
def gTup (K : PySem.W.Frag) (n : Nat) (t : TGs) : TG := fun v σ H Q => ∃ a xs, v = .ref a ∧ SqT K H a xs ∧ xs.length = n ∧ t xs σ H Q
theorem pg_tup {es : List Expr} {k : Nat} {t : TGs} {n : Nat} (hc : X.calm = true) (h : PGs X es t)
    (hn : (assignEach es X.env).length = n := by rfl) (hst : (assignEach es X.env).findIdx? (·.1) = none := by rfl) : PG X (.Tuple es k pos) (gTup X.K n t) := by
  intro pins s σ H v u Q I r hw
  obtain ⟨a, xs, e1, hq, hl, hw⟩ := hw
  subst e1
  cases r
  obtain ⟨its, rv, ht, hz⟩ := I.tuple hq
  refine assign_Tuple_tuple (I.ok.hd hc) ht (by simp [hn, ← hl, rv.length]) hst fun h' hx => ?_
  have I1 : Inv X pins σ H { s with heap := h' } := I.kept (t' := s.toks) fun b o e => hx b o (Nat.ne_of_lt (Heap.lt_size e)) e
  exact h pins _ σ H xs _ Q I1 (by simpa using rv) hw
/-- o[i] = .. -/
def gSub (to ti : TE) (t : TSet) : TG := fun v σ H Q => to σ H fun o H1 => ti σ H1 fun i H2 => t o i v H2 fun H3 => Q σ H3
theorem pg_sub {o i : Expr} {to ti : TE} {t : TSet} (ho : PE X o to) (hi : PE X i ti) (hs : PSet X t)
    (ha : ∀ v, assign (.Subscript o i pos) X.env v = (do
      let ov ← holding [v] (eval o X.env)
      let iv ← holding [v, ov] (eval i X.env)
      standAt pos
      holding [v, ov, iv] (setItem ov iv v)
      release [v, ov, iv] []) := by intro _; rfl) : PG X (.Subscript o i pos) (gSub to ti t) := by
  intro pins s σ H v u Q I r h
  rw [ha]
  refine wpAny_bind (wpAny_holding (thn (ho pins s σ H _ I h) fun ov s1 ⟨x, H1, I1, r1, q1⟩ => ?_))
  refine wpAny_bind (wpAny_holding (thn (hi pins s1 σ H1 _ I1 q1) fun iv s2 ⟨y, H2, I2, r2, q2⟩ => ?_))
  refine wpAny_bind (wpAny_standAt (wpAny_bind (wpAny_holding (thn (hs pins s2 σ H2 x y v ov iv u _ I2 r1 r2 r q2) fun _ s3 ⟨H3, I3, q3⟩ => ?_))))
  exact wpAny_release ⟨σ, H3, I3, q3⟩
/-- target = value -/
def tAsg (te : TE) (g : TG) : TS := fun D σ H => te σ H fun x H1 => g x σ H1 D.nx
theorem ps_asg {tg e : Expr} {te : TE} {g : TG} (he : PE X e te) (hg : PG X tg g) (hs : swapsWithSole [tg] e pos.line X.env = pure false := by rfl) (hw : swappedStores [tg] e X.env = pure none := by rfl)
    (h1 : (assignEach [tg] X.env).map (·.2) = [assign tg X.env] := by rfl) : PS X (.Assign [tg] e pos) (tAsg te g) := by
  intro pins s σ H D I h
  refine wpAny_Assign_stores (thn (he pins s σ H _ I h) fun v s1 ⟨x, H1, I1, r1, q1⟩ => ?_) hs hw
  rw [h1]
  exact thn (hg pins s1 σ H1 x v _ I1 r1 q1) fun _ s2 q => q
/-- name = value -/
theorem ps_set {i : Nat} {x : Str} {e : Expr} {te : TE} {pos' : Pos} (hN : X.N.Nodup) (hi : X.N[i]? = some x) (hx : Loc X.env.scope x) (he : PE X e te) (hs : swapsWith e (some (.Name x pos')) pos.line X.env = pure false := by rfl) (hf : X.fn x = true ∨ X.env.scope.names.lookup x = some .local := by first | exact .inl rfl | exact .inr rfl | assumption) :
    PS X (.Assign [.Name x pos'] e pos) (tAsg te (gName i)) := by
  intro pins s σ H D I h
  refine wpAny_Assign_Name (thn (he pins s σ H _ I h) fun v s1 ⟨y, H1, I1, r1, q1⟩ => ?_) hs
  exact store_ok I1 hN hi hx r1 (fun s2 I2 => ⟨_, H1, I2, q1⟩) hf
/-- a, b = x, y with plain local names: stored from the right; the pair itself is not tracked (the opening rows as in PyProof/Rows/TupAssign.lean:23) -/
def tPar (i j : Nat) (ta : TA) : TS := fun D σ H => ta σ H fun vs H1 => ∃ v w, vs = [v, w] ∧ D.nx ((σ.set i (some v)).set j (some w)) H1
theorem ps_par {i j : Nat} {x y : Str} {a b : Expr} {ta : TA} {px py pt : Pos} {kt k2 pt2} (hc : X.calm = true) (hN : X.N.Nodup) (hi : X.N[i]? = some x) (hj : X.N[j]? = some y) (hij : i ≠ j)
    (hx : X.env.scope.names.lookup x = some .local) (hy : X.env.scope.names.lookup y = some .local) (ha : PA X [a, b] ta)
    (hw : swappedStores [.Tuple [.Name x px, .Name y py] kt pt] (.Tuple [a, b] k2 pt2) X.env = pure (some [x, y]))
    (hs : swapsWithSole [.Tuple [.Name x px, .Name y py] kt pt] (.Tuple [a, b] k2 pt2) pos.line X.env = pure false := by rfl) :
    PS X (.Assign [.Tuple [.Name x px, .Name y py] kt pt] (.Tuple [a, b] k2 pt2) pos) (tPar i j ta) := by
  intro pins s σ H D I h
  rw [exec_Assign_arm]
  refine wpAny_bind (wpAny_standAt ?_)
  rw [hs]
  refine wpAny_bind (wpAny_pure ?_)
  rw [if_neg (by decide)]
  refine wpAny_bind (Tuple_ (thn (ha _ pins s σ H _ I h) fun us s1 ⟨vs, H1, I1, r1, q1⟩ => ?_))
  obtain ⟨v, w, e1, q1⟩ := q1
  subst e1
  obtain ⟨u1, u2, rfl, rv, rw'⟩ : ∃ u1 u2, us = [u1, u2] ∧ RelV v u1 ∧ RelV w u2 := by
    cases r1 with
    | cons p q =>
      cases q with
      | cons p' q' =>
        cases q'
        exact ⟨_, _, rfl, p, p'⟩
  refine wpAny_newObj_type ?_ (by show 2 ≤ sizeLine; decide)
  have I2 : Inv X pins σ H1 { s1 with heap := s1.heap.push { cls := .type "tuple", data := .seq [u1, u2].toArray } } := I1.kept (t' := s1.toks) fun b o e => Heap.get?_push_of_some _ e
  rw [hw]
  refine wpAny_bind (wpAny_pure ?_)
  show wpAny (model X.prog X.w) X.A (do rule "assign.swapped-stores"; let items ← unpackItems (.ref s1.heap.objs.size) 2 none; assignInOrder [fun v => bindName X.env y v, fun v => bindName X.env x v] items.reverse; pure Flow.next) _ _ _
  refine wpAny_bind (wpAny_rule (wpAny_bind (unpackItems_tuple (items := #[u1, u2]) (I.ok.hd hc) (IsTup.new s1.heap _) fun h' hx' => ?_)))
  have I3 := I2.kept (h' := h') (t' := s1.toks) fun b o e => hx' b o (Nat.ne_of_lt (Heap.lt_size e)) e
  show wpAny _ _ (assignInOrder [fun v => bindName X.env y v, fun v => bindName X.env x v] [u2, u1] >>= fun _ => pure Flow.next) _ _ _
  refine wpAny_bind (assignInOrder_cons (wpAny_bindName (store_ok I3 hN hj (.inl hy) rw' (fun s2 I4 => ?_) (.inr hy))))
  refine assignInOrder_cons (wpAny_bindName (store_ok I4 hN hi (.inl hx) rv (fun s3 I5 => assignInOrder_nil (wpAny_pure ?_)) (.inr hx)))
  rw [List.set_comm _ _ (Ne.symm hij)] at I5
  exact ⟨_, H1, I5, q1⟩
/-- name op= e -/
def tAug (i : Nat) (te : TE) (ti : TIp) : TS := fun D σ H => ∃ x, σ[i]? = some (some x) ∧ te σ H fun y H1 => ti x y H1 fun z H2 => D.nx (σ.set i (some z)) H2
theorem ps_aug {i : Nat} {x : Str} {e : Expr} {te : TE} {op : Operator} {ti : TIp} {pos' : Pos} (hN : X.N.Nodup) (hi : X.N[i]? = some x) (hx : Loc X.env.scope x) (he : PE X e te) (ho : PIp X op ti) (hf : X.fn x = true ∨ X.env.scope.names.lookup x = some .local := by first | exact .inl rfl | exact .inr rfl | assumption) :
    PS X (.AugAssign (.Name x pos') op e pos) (tAug i te ti) := by
  intro pins s σ H D I h
  obtain ⟨v, e1, h⟩ := h
  obtain ⟨m, hn, hl⟩ := I.loc
  have vis : Vis X.env.scope x := by rcases hx with k | k; exact .inl k; exact .inr (.inl k)
  obtain ⟨u, r, l⟩ := hl i x v hi e1 vis
  refine wpAny_AugAssign_Name ?_
  have go : wpAny (model X.prog X.w) X.A (eval e X.env) (fun w s₂ => wpAny (model X.prog X.w) X.A (inplaceOp op u w) (fun r s₃ => wpAny (model X.prog X.w) X.A (storeName X.env x r) (fun _ => SP X pins D .next) X.xe s₃) X.xe s₂) X.xe s := by
    refine thn (he pins s σ H _ I h) fun w s1 ⟨y, H1, I1, r1, q1⟩ => ?_
    refine thn (ho pins s1 σ H1 v y u w _ I1 r r1 q1) fun z s2 ⟨zv, H2, I2, r2, q2⟩ => ?_
    exact store_ok I2 hN hi hx r2 (fun s3 I3 => ⟨_, H2, I3, q2⟩) hf
  rcases l with ⟨hk, hm⟩ | ⟨hk, c, hc, hcell⟩
  · exact wpAny_loadName_local I.ok.kind hk hn hm go
  · rcases hk with hk | hk
    · exact wpAny_loadName_cell I.ok.kind hk hc hcell go
    · rcases hx with k | k
      · have : X.env.scope.names.lookup x = some .free := hk
        rw [k] at this; cases this
      · have : X.env.scope.names.lookup x = some .free := hk
        rw [k] at this; cases this
/-- o[i] op= e -/
def tAugS (to ti te : TE) (tget : V → V → Hp → VK → Prop) (tip : TIp) (tset : TSet) : TS := fun D σ H => to σ H fun o H1 => ti σ H1 fun i H2 => tget o i H2 fun x H3 => te σ H3 fun y H4 => tip x y H4 fun z H5 => tset o i z H5 fun H6 => D.nx σ H6
/-- o[i], by values -/
def PGet (X : Cx) (t : V → V → Hp → VK → Prop) : Prop :=
  ∀ (pins : List (Addr × Obj)) (s : Shared) (σ : St) (H : Hp) (o i : V) (ov iv : Value) (Q : VK), Inv X pins σ H s → RelV o ov → RelV i iv → t o i H Q →
    wpAny (model X.prog X.w) X.A (getItem ov iv) (EP X pins σ Q) X.xe s
theorem ps_augS {o i e : Expr} {to ti te : TE} {tget : V → V → Hp → VK → Prop} {tip : TIp} {tset : TSet} {op : Operator} {tpos : Pos} (ho : PE X o to) (hi : PE X i ti) (hg : PGet X tget) (he : PE X e te) (hp : PIp X op tip) (hs : PSet X tset)
    (ha : ∀ ov iv new, augStore i ov iv new = (do holding [new, ov, iv] (setItem ov iv new); release [new, ov, iv] []; pure .next) := by intros; rfl) : PS X (.AugAssign (.Subscript o i tpos) op e pos) (tAugS to ti te tget tip tset) := by
  intro pins s σ H D I h
  refine wpAny_AugAssign_SubscriptAny (thn (ho pins s σ H _ I h) fun ov s1 ⟨x1, H1, I1, r1, q1⟩ => ?_) ha
  refine thn (hi pins s1 σ H1 _ I1 q1) fun iv s2 ⟨x2, H2, I2, r2, q2⟩ => ?_
  refine thn (hg pins s2 σ H2 x1 x2 ov iv _ I2 r1 r2 q2) fun old s3 ⟨x3, H3, I3, r3, q3⟩ => ?_
  refine thn (he pins s3 σ H3 _ I3 q3) fun v s4 ⟨x4, H4, I4, r4, q4⟩ => ?_
  refine thn (hp pins s4 σ H4 x3 x4 old v _ I4 r3 r4 q4) fun new s5 ⟨x5, H5, I5, r5, q5⟩ => ?_
  exact thn (hs pins s5 σ H5 x1 x2 x5 ov iv new _ I5 r1 r2 r5 q5) fun _ s6 ⟨H6, I6, q6⟩ => ⟨σ, H6, I6, q6⟩
/-- ints -/
def ipI (f : Int → Int → Int) : TIp := fun x y H Q => ∃ i j, x = .int i ∧ y = .int j ∧ Q (.int (f i j)) H
theorem ip_add : PIp X .Add (ipI fun i j => i + j) := by
  intro pins s σ H x y v u Q I r1 r2 h
  obtain ⟨i, j, e1, e2, q⟩ := h
  subst e1; subst e2
  obtain ⟨t, rfl⟩ := r1
  obtain ⟨t', rfl⟩ := r2
  exact iadd_int ⟨.int _, H, I.tok _, ⟨_, rfl⟩, q⟩
theorem ip_sub : PIp X .Sub (ipI fun i j => i - j) := by
  intro pins s σ H x y v u Q I r1 r2 h
  obtain ⟨i, j, e1, e2, q⟩ := h
  subst e1; subst e2
  obtain ⟨t, rfl⟩ := r1
  obtain ⟨t', rfl⟩ := r2
  exact isub_int ⟨.int _, H, I.tok _, ⟨_, rfl⟩, q⟩
end

/-! ### while -/
section
variable {X : Cx} {pos : Pos}
/-- the invariant W with its measure -/
def tWhile (c : TT) (tb : TS) : TS := fun D σ H => ∃ W : Nat → St → Hp → Prop, (∃ m, W m σ H) ∧ ∀ m σ H, W m σ H →
  c σ H fun b H1 => if b = true then ∃ N : St → Hp → Prop, (∀ σ' H', N σ' H' → ∃ m', m' < m ∧ W m' σ' H') ∧ tb { D with nx := N, ct := N, bk := D.nx } σ H1 else D.nx σ H1
theorem ps_while {c : Expr} {body : List Stmt} {tc : TT} {tb : TS} (hp : PassesOwn (model X.prog X.w) X.A X.env X.xe) (hc : PT X c tc) (hb : PSs X body tb) : PS X (.While c body [] pos) (tWhile tc tb) := by
  intro pins s σ H D I h
  obtain ⟨W, ⟨m0, w0⟩, turn⟩ := h
  refine wpAny_While (codeAny_whileLoop (fun n s' => ∃ σ' H', Inv X pins σ' H' s' ∧ W n σ' H') ?_ m0 ⟨σ, H, I, w0⟩)
  rintro n s1 ⟨σ1, H1, I1, w1⟩
  refine wpAny_passesOwn hp (thn (hc pins s1 σ1 H1 _ I1 (turn n σ1 H1 w1)) fun b s2 ⟨H2, I2, q2⟩ => ?_)
  cases b with
  | true =>
    obtain ⟨N, hN, q2⟩ := q2
    rw [if_pos rfl]
    refine wpAny_passesOwn hp (thn (hb pins s2 σ1 H2 _ I2 q2) fun f s3 q3 => ?_)
    cases f with
    | next =>
      obtain ⟨σ3, H3, I3, n3⟩ := q3
      obtain ⟨m', hm, w3⟩ := hN σ3 H3 n3
      exact ⟨m', hm, σ3, H3, I3, w3⟩
    | cont =>
      obtain ⟨σ3, H3, I3, n3⟩ := q3
      obtain ⟨m', hm, w3⟩ := hN σ3 H3 n3
      exact ⟨m', hm, σ3, H3, I3, w3⟩
    | brk => exact q3
    | ret v => exact q3
  | false =>
    rw [if_neg Bool.false_ne_true]
    exact wpAny_execs_nil ⟨σ1, H2, I2, q2⟩
end

/-! ### what a loop or a comprehension walks -/
/-- at turn i: it yields x (the heap may grow), or it stops -/
structure It where
  go : Nat → Hp → Prop
  yld : Nat → Hp → V → Hp → Prop
  stop : Nat → Hp → Prop
/-- the iterator's own objects may turn: they are not the frame's, not pinned, younger than the entry (or a comprehension's own) -/
def FpOk (X : Cx) (pins : List (Addr × Obj)) (H : Hp) (b : Addr) : Prop :=
  H b = none ∧ b ≠ X.env.locals ∧ b ∉ X.fs ∧ (b ∈ X.ex ∨ X.s₀.heap.objs.size ≤ b) ∧ (∀ x c, X.env.cells.lookup x = some c → c ≠ b) ∧ ∀ p ∈ X.pn ++ pins, p.1 ≠ b
theorem Inv.fpOk {X : Cx} {pins : List (Addr × Obj)} {σ : St} {H H' : Hp} {s : Shared} {b : Addr} (I : Inv X pins σ H s) (hb : s.heap.objs.size ≤ b) (hn : H' b = none) : FpOk X pins H' b := by
  refine ⟨hn, Nat.ne_of_gt (Nat.lt_of_lt_of_le I.lt hb), I.nofs hb, .inr (Nat.le_trans I.sz hb), fun x c e z => ?_, fun p hp z => ?_⟩
  · obtain ⟨v, q⟩ := I.cell x c e
    exact absurd (Nat.lt_of_lt_of_le q.lt (by rw [z]; exact hb)) (Nat.lt_irrefl _)
  · exact absurd (Nat.lt_of_lt_of_le (Heap.lt_size (I.pin p hp).1) (by rw [z]; exact hb)) (Nat.lt_irrefl _)
structure Turn (P : Program) (w : World) (K : PySem.W.Frag) (tg : Expr) (J : It) (fp : List Addr) (it : Addr) (tn : Nat → Heap → Prop) : Prop where
  mem : it ∈ fp
  obj : ∀ i h, tn i h → ∀ b ∈ fp, ∃ o, h.get? b = some o ∧ ∀ v, o.data ≠ .cell v
  keep : ∀ i h h', tn i h → (∀ b ∈ fp, ∀ o, h.get? b = some o → h'.get? b = some o) → tn i h'
  item : ∀ (X : Cx), X.prog = P → X.w = w → X.K = K → X.calm = true → ∀ (i : Nat) (pins : List (Addr × Obj)) (s : Shared) (σ : St) (H : Hp) (E : Value → Shared → Prop), Inv X pins σ H s → (∀ b ∈ fp, FpOk X pins H b) → tn i s.heap → J.go i H →
    wpAny (model P w) X.A (pyNext (.ref it)) (fun r s1 => ∃ u, r = some u ∧
      wpAny (model P w) X.A (letOwnedTupleGo tg (.ref it) u) (fun _ s2 => ∃ x H', Inv X pins σ H' s2 ∧ RelV x u ∧ J.yld i H x H' ∧ tn (i + 1) s2.heap ∧ ∀ b ∈ fp, H' b = none) E s1) E s
  done : ∀ (X : Cx), X.prog = P → X.w = w → X.K = K → X.calm = true → ∀ (i : Nat) (pins : List (Addr × Obj)) (s : Shared) (σ : St) (H : Hp) (E : Value → Shared → Prop), Inv X pins σ H s → (∀ b ∈ fp, FpOk X pins H b) → tn i s.heap → J.stop i H →
    wpAny (model P w) X.A (pyNext (.ref it)) (fun r s1 => r = none ∧ Inv X pins σ H s1) E s
  self : ∀ (A : Around) (i : Nat) (s : Shared) (Q : Value → Shared → Prop) (E : Value → Shared → Prop), tn i s.heap → Q (.ref it) s → wpAny (model P w) A (pyIter (.ref it)) Q E s
abbrev TI := St → Hp → (It → Hp → Prop) → Prop
/-- an iterator has come -/
def PIE (X : Cx) (pins : List (Addr × Obj)) (σ : St) (tg : Expr) (R : It → Hp → Prop) (itv : Value) (s2 : Shared) : Prop :=
  ∃ (it : Addr) (fp : List Addr) (tn : Nat → Heap → Prop) (J : It) (H' : Hp), itv = .ref it ∧ Inv X pins σ H' s2 ∧ Turn X.prog X.w X.K tg J fp it tn ∧ tn 0 s2.heap ∧ (∀ b ∈ fp, FpOk X pins H' b) ∧ R J H'
def PI (X : Cx) (tg iter : Expr) (wi : TI) : Prop :=
  ∀ (pins : List (Addr × Obj)) (s : Shared) (σ : St) (H : Hp) (R : It → Hp → Prop), Inv X pins σ H s → wi σ H R →
    wpAny (model X.prog X.w) X.A (eval iter X.env) (fun v s1 => wpAny (model X.prog X.w) X.A (pyIter v) (PIE X pins σ tg R) X.xe s1) X.xe s

/-- the step ahead of the store is nothing for an iterator that keeps no tuple -/
theorem go_of {M : Model} {A : Around} {E : Value → Shared → Prop} {s : Shared} {tg : Expr} {it : Addr} {u : Value} {o : Obj} {n : String} {vs : Array Value} {Q : Unit → Shared → Prop} (ho : s.heap.get? it = some o) (hc : o.cls = .type n) (hd : o.data = .fields vs)
    (hn : ["enumerate", "zip", "dict_itemiterator", "dict_reverseitemiterator", "odict_iterator", "itertools.zip_longest", "itertools.pairwise"].contains n = false) (hQ : Q () s) : wpAny M A (letOwnedTupleGo tg (.ref it) u) Q E s := by
  unfold letOwnedTupleGo
  cases tg <;> first
    | exact wpAny_pure hQ
    | (cases u <;> first
        | exact wpAny_pure hQ
        | (refine wpAny_bind (wpAny_load ho ?_)
           rw [hc, hd]
           show wpAny M A (if (["enumerate", "zip", "dict_itemiterator", "dict_reverseitemiterator", "odict_iterator", "itertools.zip_longest", "itertools.pairwise"].contains n && vs[0]? == some (rawInt _)) = true then _ else _) Q E s
           rw [if_neg (by intro h; rw [hn, Bool.false_and] at h; cases h)]
           exact wpAny_pure hQ))

/-- the list at a, as it stands at each turn (a loop may append to it) -/
def Itl (K : PySem.W.Frag) (a : Addr) : It :=
  ⟨fun i H => ∃ xs x, SqL K H a xs ∧ xs[i]? = some x, fun i H x H' => H' = H ∧ ∀ xs, SqL K H a xs → xs[i]? = some x, fun i H => ∃ xs, SqL K H a xs ∧ xs.length ≤ i⟩
def Itt (K : PySem.W.Frag) (a : Addr) : It :=
  ⟨fun i H => ∃ xs x, SqT K H a xs ∧ xs[i]? = some x, fun i H x H' => H' = H ∧ ∀ xs, SqT K H a xs → xs[i]? = some x, fun i H => ∃ xs, SqT K H a xs ∧ xs.length ≤ i⟩
/-- lo, lo + 1, .. (n of them) -/
def Itr (lo : Int) (n : Nat) : It := ⟨fun i _ => i < n, fun i H x H' => H' = H ∧ x = .int (lo + i), fun i _ => n ≤ i⟩
theorem turn_list {P : Program} {w : World} {K : PySem.W.Frag} {tg : Expr} (a it : Addr) : Turn P w K tg (Itl K a) [it] it (fun i h => h.IsListIter it a i) where
  mem := by simp
  obj := fun i h st b hb => by
    have e : b = it := by simpa using hb
    subst e
    obtain ⟨o, e, c, d⟩ := st
    exact ⟨o, e, fun v z => by rw [d] at z; cases z⟩
  keep := fun i h h' st k => st.at fun o e => k it (by simp) o e
  item := by
    intro X hP hw hK hc i pins s σ H E I hf st hg
    subst hP hw hK
    obtain ⟨xs, x, hq, hx⟩ := hg
    obtain ⟨its, rv, p, hz⟩ := I.list hq
    obtain ⟨u, hu, ru⟩ := rv.get hx
    obtain ⟨f0, f1, f2, f3, f4, f5⟩ := hf it (by simp)
    refine wpAny_pyNext_list_item st p.isList (x := u) (by simpa using hu) fun h' st' sb => ?_
    have I1 : Inv X pins σ H { s with heap := h' } := I.turned (t' := s.toks) (fun b o hb e => (sb.2 b hb).trans e) f0 f1 f3 f4 f5
    obtain ⟨o, e, c, d⟩ := id st'
    exact ⟨u, rfl, go_of (s := { s with heap := h' }) e c d (by decide) ⟨x, H, I1, ru, ⟨rfl, fun ys hy => by rw [I.list_inj hy hq]; exact hx⟩, st', fun b hb => (hf b hb).1⟩⟩
  done := by
    intro X hP hw hK hc i pins s σ H E I hf st hg
    subst hP hw hK
    obtain ⟨xs, hq, hx⟩ := hg
    obtain ⟨its, rv, p, hz⟩ := I.list hq
    obtain ⟨f0, f1, f2, f3, f4, f5⟩ := hf it (by simp)
    have hl := rv.length
    exact wpAny_pyNext_list_end (I.ok.hd hc) st p.isList (by simp; omega) fun h' eb => ⟨rfl, I.turned (t' := s.toks) (fun b o hb e => eb b o hb e) f0 f1 f3 f4 f5⟩
  self := fun _ _ _ _ _ st h => wpAny_pyIter_listiter st h
theorem turn_tuple {P : Program} {w : World} {K : PySem.W.Frag} {tg : Expr} (a it : Addr) : Turn P w K tg (Itt K a) [it] it (fun i h => h.IsTupleIter it a i) where
  mem := by simp
  obj := fun i h st b hb => by
    have e : b = it := by simpa using hb
    subst e
    obtain ⟨o, e, c, d⟩ := st
    exact ⟨o, e, fun v z => by rw [d] at z; cases z⟩
  keep := fun i h h' st k => st.at fun o e => k it (by simp) o e
  item := by
    intro X hP hw hK hc i pins s σ H E I hf st hg
    subst hP hw hK
    obtain ⟨xs, x, hq, hx⟩ := hg
    obtain ⟨its, rv, p, hz⟩ := I.tuple hq
    obtain ⟨u, hu, ru⟩ := rv.get hx
    obtain ⟨f0, f1, f2, f3, f4, f5⟩ := hf it (by simp)
    refine wpAny_pyNext_tuple_item st (show s.heap.IsTuple a its.toArray from p) (x := u) (by simpa using hu) fun h' st' sb => ?_
    have I1 : Inv X pins σ H { s with heap := h' } := I.turned (t' := s.toks) (fun b o hb e => (sb.2 b hb).trans e) f0 f1 f3 f4 f5
    obtain ⟨o, e, c, d⟩ := id st'
    exact ⟨u, rfl, go_of (s := { s with heap := h' }) e c d (by decide) ⟨x, H, I1, ru, ⟨rfl, fun ys hy => by rw [I.tuple_inj hy hq]; exact hx⟩, st', fun b hb => (hf b hb).1⟩⟩
  done := by
    intro X hP hw hK hc i pins s σ H E I hf st hg
    subst hP hw hK
    obtain ⟨xs, hq, hx⟩ := hg
    obtain ⟨its, rv, p, hz⟩ := I.tuple hq
    obtain ⟨f0, f1, f2, f3, f4, f5⟩ := hf it (by simp)
    have hl := rv.length
    exact wpAny_pyNext_tuple_end (I.ok.hd hc) st (show s.heap.IsTuple a its.toArray from p) (by simp; omega) fun h' eb => ⟨rfl, I.turned (t' := s.toks) (fun b o hb e => eb b o hb e) f0 f1 f3 f4 f5⟩
  self := fun _ _ _ _ _ st h => wpAny_pyIter_tupleiter st h
theorem turn_range {P : Program} {w : World} {K : PySem.W.Frag} {tg : Expr} (it : Addr) (lo : Int) (n : Nat) : Turn P w K tg (Itr lo n) [it] it (fun i h => IsRangeIter h it (lo + (i : Nat) * 1) ((n : Int) - (i : Nat)) 1) where
  mem := by simp
  obj := fun i h st b hb => by
    have e : b = it := by simpa using hb
    subst e
    exact ⟨_, st, fun v z => by
      have z' : Data.fields _ = Data.cell v := z
      cases z'⟩
  keep := fun i h h' st k => k it (by simp) _ st
  item := by
    intro X hP hw hK hc i pins s σ H E I hf st hg
    subst hP hw hK
    obtain ⟨f0, f1, f2, f3, f4, f5⟩ := hf it (by simp)
    have W := Walks.range (prog := X.prog) (w := X.w) (I.ok.hd hc) it lo 1 n
    refine W.item i s _ _ hg st fun v h' tk hv st' kk => ?_
    obtain ⟨t, rfl⟩ := hv
    have I1 : Inv X pins σ H { s with heap := h', toks := tk } := I.turned (fun b o hb e => kk b o (by simpa using hb) e) f0 f1 f3 f4 f5
    refine ⟨_, rfl, go_of (s := { s with heap := h', toks := tk }) (n := "range_iterator") st' rfl rfl (by decide) ⟨.int (lo + i), H, I1, ⟨t, ?_⟩, ⟨rfl, rfl⟩, st', fun b hb => (hf b hb).1⟩⟩
    rw [Int.mul_one]
  done := by
    intro X hP hw hK hc i pins s σ H E I hf st hg
    subst hP hw hK
    obtain ⟨f0, f1, f2, f3, f4, f5⟩ := hf it (by simp)
    exact wpAny_pyNext_range_end (I.ok.hd hc) st (by have : n ≤ i := hg; omega) fun h' eb => ⟨rfl, I.turned (t' := s.toks) (fun b o hb e => eb b o hb e) f0 f1 f3 f4 f5⟩
  self := fun _ _ _ _ _ st h => wpAny_pyIter_rangeiter st h
end L2

namespace L2
open PySem PySem.Spec PyProof.Rows
section
variable {X : Cx} {tg : Expr}
def iList (K : PySem.W.Frag) (tl : TE) : TI := fun σ H R => tl σ H fun x H1 => ∃ a, x = .ref a ∧ (∃ xs, SqL K H1 a xs) ∧ R (Itl K a) H1
def iTup (K : PySem.W.Frag) (tl : TE) : TI := fun σ H R => tl σ H fun x H1 => ∃ a, x = .ref a ∧ (∃ xs, SqT K H1 a xs) ∧ R (Itt K a) H1
theorem pi_list {l : Expr} {tl : TE} (hl : PE X l tl) : PI X tg l (iList X.K tl) := by
  intro pins s σ H R I h
  refine thn (hl pins s σ H _ I h) fun v s1 ⟨x, H1, I1, r1, q1⟩ => ?_
  obtain ⟨a, e, ⟨xs, hq⟩, q⟩ := q1
  subst e
  cases r1
  obtain ⟨its, rv, p, hz⟩ := I1.list hq
  refine wpAny_pyIter_list p.isList ?_
  refine ⟨s1.heap.objs.size, [s1.heap.objs.size], _, _, H1, rfl, I1.kept (t' := s1.toks) fun b o e => Heap.get?_push_of_some _ e, turn_list a _, ⟨_, Heap.get?_push_size _ rfl, rfl, rfl⟩, fun b hb => ?_, q⟩
  have e : b = s1.heap.objs.size := by simpa using hb
  subst e
  exact I1.fpOk (Nat.le_refl _) (I1.hok.fresh (Nat.le_refl _))
theorem pi_tup {l : Expr} {tl : TE} (hl : PE X l tl) : PI X tg l (iTup X.K tl) := by
  intro pins s σ H R I h
  refine thn (hl pins s σ H _ I h) fun v s1 ⟨x, H1, I1, r1, q1⟩ => ?_
  obtain ⟨a, e, ⟨xs, hq⟩, q⟩ := q1
  subst e
  cases r1
  obtain ⟨its, rv, p, hz⟩ := I1.tuple hq
  refine wpAny_pyIter_tuple (show s1.heap.IsTuple a its.toArray from p) ?_
  refine ⟨s1.heap.objs.size, [s1.heap.objs.size], _, _, H1, rfl, I1.kept (t' := s1.toks) fun b o e => Heap.get?_push_of_some _ e, turn_tuple a _, ⟨_, Heap.get?_push_size _ rfl, rfl, rfl⟩, fun b hb => ?_, q⟩
  have e : b = s1.heap.objs.size := by simpa using hb
  subst e
  exact I1.fpOk (Nat.le_refl _) (I1.hok.fresh (Nat.le_refl _))
/-- a range object just made, walked -/
theorem range_it {pins : List (Addr × Obj)} {σ : St} {H : Hp} {s : Shared} {R : It → Hp → Prop} {E : Value → Shared → Prop} {lo hi : Int} {t u v : Tok} {tk : Nat} (I : Inv X pins σ H s) (h1 : -(2 ^ 62) ≤ lo) (h2 : lo < 2 ^ 62) (h3 : -(2 ^ 62) ≤ hi) (h4 : hi < 2 ^ 62)
    (q : R (Itr lo (hi - lo).toNat) H) : wpAny (model X.prog X.w) X.A (pyIter (.ref s.heap.objs.size)) (PIE X pins σ tg R) E { s with heap := s.heap.push { cls := .type "range", data := .fields #[.int lo t, .int hi u, .int 1 v] }, toks := tk } := by
  refine wpAny_pyIter_range (IsRange.new ..) (small_one h1 h2 h3 h4) ?_
  have I1 : Inv X pins σ H { s with heap := s.heap.push { cls := .type "range", data := .fields #[.int lo t, .int hi u, .int 1 v] }, toks := tk } := I.kept fun b o e => Heap.get?_push_of_some _ e
  refine ⟨(s.heap.push { cls := .type "range", data := .fields #[.int lo t, .int hi u, .int 1 v] }).objs.size, [(s.heap.push { cls := .type "range", data := .fields #[.int lo t, .int hi u, .int 1 v] }).objs.size], _, _, H, rfl,
    I1.kept (t' := tk) fun b o e => Heap.get?_push_of_some _ e, turn_range _ lo (hi - lo).toNat, ?_, fun b hb => ?_, q⟩
  · have e1 : lo + ((0 : Nat) : Int) * 1 = lo := by simp
    have e2 : (((hi - lo).toNat : Nat) : Int) - ((0 : Nat) : Int) = Builtin.Range.rangeSize lo hi 1 := by rw [rangeSize_one]; split <;> omega
    show IsRangeIter _ _ (lo + ((0 : Nat) : Int) * 1) ((((hi - lo).toNat : Nat) : Int) - ((0 : Nat) : Int)) 1
    rw [e1, e2]
    exact Heap.get?_push_size _ rfl
  · have e : b = (s.heap.push { cls := .type "range", data := .fields #[.int lo t, .int hi u, .int 1 v] }).objs.size := by simpa using hb
    subst e
    exact I1.fpOk (Nat.le_refl _) (I1.hok.fresh (Nat.le_refl _))
def iRng1 (ta : TA) : TI := fun σ H R => ta σ H fun vs H1 => ∃ j : Int, vs = [.int j] ∧ -(2 ^ 62) ≤ j ∧ j < 2 ^ 62 ∧ R (Itr 0 j.toNat) H1
def iRng2 (ta : TA) : TI := fun σ H R => ta σ H fun vs H1 => ∃ i j : Int, vs = [.int i, .int j] ∧ (-(2 ^ 62) ≤ i ∧ i < 2 ^ 62 ∧ -(2 ^ 62) ≤ j ∧ j < 2 ^ 62) ∧ R (Itr i (j - i).toNat) H1
theorem pi_range1 {a : Expr} {ta : TA} {p pos : Pos} (hg : Gl X "range") (hm : X.mg "range" = none) (ha : PA X [a] ta) (hs : starEach [a] X.env = [(false, eval a X.env)] := by rfl) : PI X tg (.Call (.Name "range" p) [a] [] pos) (iRng1 ta) := by
  intro pins s σ H R I h
  refine Call_ (ld_blt I hg hm boot_range (PyProof.Rows.callWith_type1 (thn (ha pos pins s σ H _ I h) fun us s1 ⟨vs, H1, I1, r1, q1⟩ => ?_) hs rfl))
  obtain ⟨j, e, q1, q2, q⟩ := q1
  subst e
  cases r1 with
  | cons r rr =>
    cases rr
    obtain ⟨t, rfl⟩ := r
    exact call_range_1 (range_it I1 (by omega) (by omega) q1 q2 (by simpa using q))
theorem pi_range2 {a b : Expr} {ta : TA} {p pos : Pos} (hg : Gl X "range") (hm : X.mg "range" = none) (ha : PA X [a, b] ta) (hs : starEach [a, b] X.env = [(false, eval a X.env), (false, eval b X.env)] := by rfl) (hs2 : starEach [b] X.env = [(false, eval b X.env)] := by rfl) :
    PI X tg (.Call (.Name "range" p) [a, b] [] pos) (iRng2 ta) := by
  intro pins s σ H R I h
  refine Call_ (ld_blt I hg hm boot_range (PyProof.Rows.callWith_type1 (thn (ha pos pins s σ H _ I h) fun us s1 ⟨vs, H1, I1, r1, q1⟩ => ?_) (by rw [hs, hs2]) (by rw [hs2]; rfl)))
  obtain ⟨i, j, e, ⟨q1, q2, q3, q4⟩, q⟩ := q1
  subst e
  cases r1 with
  | cons r rr =>
    cases rr with
    | cons r' rr =>
      cases rr
      obtain ⟨t, rfl⟩ := r
      obtain ⟨t', rfl⟩ := r'
      exact call_range_2 (range_it I1 q1 q2 q3 q4 q)

/-! ### for -/
/-- W: the invariant by the turn and a measure; N: what the body is to reach -/
def tFor (wi : TI) (g : TG) (tb : TS) : TS := fun D σ H => wi σ H fun J H1 => ∃ W : Nat → Nat → St → Hp → Prop, (∃ m, W 0 m σ H1) ∧ ∀ i m σ H, W i m σ H →
  (J.stop i H ∧ D.nx σ H) ∨ (J.go i H ∧ ∃ N : St → Hp → Prop, (∀ σ' H', N σ' H' → ∃ m', m' < m ∧ W (i + 1) m' σ' H') ∧ ∀ x H', J.yld i H x H' → g x σ H' fun σ2 H2 => tb { D with nx := N, ct := N, bk := D.nx } σ2 H2)
/-- the records at fp as they stand -/
def pinsAt (fp : List Addr) (h : Heap) : List (Addr × Obj) := fp.filterMap fun b => (h.get? b).map fun o => (b, o)
theorem mem_pinsAt {fp : List Addr} {h : Heap} {b : Addr} {o : Obj} (hb : b ∈ fp) (e : h.get? b = some o) : (b, o) ∈ pinsAt fp h := List.mem_filterMap.mpr ⟨b, hb, by rw [e]; rfl⟩
theorem of_pinsAt {fp : List Addr} {h : Heap} {p : Addr × Obj} (hp : p ∈ pinsAt fp h) : p.1 ∈ fp ∧ h.get? p.1 = some p.2 := by
  obtain ⟨b, hb, e⟩ := List.mem_filterMap.mp hp
  cases q : h.get? b with
  | none => rw [q] at e; cases e
  | some o =>
    rw [q] at e
    have e' : (b, o) = p := Option.some.inj e
    subst e'
    exact ⟨hb, q⟩
theorem Inv.pinned {pins : List (Addr × Obj)} {σ : St} {H : Hp} {s : Shared} {fp : List Addr} (I : Inv X pins σ H s) (hf : ∀ b ∈ fp, FpOk X pins H b) (ho : ∀ b ∈ fp, ∃ o, s.heap.get? b = some o ∧ ∀ v, o.data ≠ .cell v) : Inv X (pins ++ pinsAt fp s.heap) σ H s :=
  I.pins_of fun p hp => (List.mem_append.mp hp).elim (fun z => I.pin p (List.mem_append_right _ z)) fun z => by
    obtain ⟨hb, e⟩ := of_pinsAt z
    obtain ⟨f0, f1, f2, _⟩ := hf p.1 hb
    obtain ⟨o, e', d⟩ := ho p.1 hb
    rw [e] at e'; cases e'
    exact ⟨e, f0, f1, f2, d⟩
theorem Inv.unpinned {pins pl : List (Addr × Obj)} {σ : St} {H : Hp} {s : Shared} (I : Inv X (pins ++ pl) σ H s) : Inv X pins σ H s := I.pins_of fun p hp => I.pin p (List.mem_append_right _ (List.mem_append_left _ hp))
theorem ps_for {iter : Expr} {body : List Stmt} {wi : TI} {g : TG} {tb : TS} {pos : Pos} (hp : PassesOwn (model X.prog X.w) X.A X.env X.xe) (hc : X.calm = true) (hi : PI X tg iter wi) (hg : PG X tg g) (hb : PSs X body tb)
    (hs : ∀ x, foldedSetIterable iter X.env x = pure x := by intro _; rfl) : PS X (.For tg iter body [] pos) (tFor wi g tb) := by
  intro pins s σ H D I h
  refine wpAny_For (thn (hi pins s σ H _ I h) fun v s1 h1 => thn h1 fun itv s2 h2 => ?_) hs
  obtain ⟨it, fp, tn, J, H2, e, I2, T, st2, f2, W, ⟨m0, w0⟩, turn⟩ := h2
  subst e
  -- what stays true of the iterator's objects through the loop
  have stat : ∀ {H' : Hp}, (∀ b ∈ fp, H' b = none) → ∀ b ∈ fp, FpOk X pins H' b := fun hn b hb => ⟨hn b hb, (f2 b hb).2⟩
  refine codeAny_forLoop_any (fun n s' => ∃ i σ' H', Inv X pins σ' H' s' ∧ tn i s'.heap ∧ (∀ b ∈ fp, H' b = none) ∧ W i n σ' H') ?_ m0 ⟨0, σ, H2, I2, st2, fun b hb => (f2 b hb).1, w0⟩
  rintro n s3 ⟨i, σ3, H3, I3, st3, fr3, w3⟩
  rcases turn i n σ3 H3 w3 with ⟨stop, qn⟩ | ⟨go, N, hN, step⟩
  · refine wpAny_passesOwn hp (thn (T.done X rfl rfl rfl hc i pins s3 σ3 H3 X.xe I3 (stat fr3) st3 stop) fun r s4 ⟨hr, I4⟩ => ?_)
    subst hr
    exact wpAny_execs_nil ⟨σ3, H3, I4, qn⟩
  · refine wpAny_passesOwn hp (thn (T.item X rfl rfl rfl hc i pins s3 σ3 H3 X.xe I3 (stat fr3) st3 go) fun r s4 ⟨u, hr, h4⟩ => ?_)
    subst hr
    refine wpAny_passesOwn hp (thn h4 fun _ s5 ⟨x, H5, I5, r5, y5, st5, fr5⟩ => ?_)
    have I5' := I5.pinned (stat fr5) (T.obj _ _ st5)
    refine wpAny_passesOwn hp (thn (hg _ s5 σ3 H5 x u _ I5' r5 (step x H5 y5)) fun _ s6 ⟨σ6, H6, I6, q6⟩ => ?_)
    refine wpAny_passesOwn hp (thn (hb _ s6 σ6 H6 _ I6 q6) fun f s7 q7 => ?_)
    have again : ∀ {σ7 : St} {H7 : Hp}, Inv X (pins ++ pinsAt fp s5.heap) σ7 H7 s7 → N σ7 H7 → ∃ m, m < n ∧ ∃ i σ' H', Inv X pins σ' H' s7 ∧ tn i s7.heap ∧ (∀ b ∈ fp, H' b = none) ∧ W i m σ' H' := fun {σ7 H7} I7 n7 => by
      obtain ⟨m', hm, w7⟩ := hN σ7 H7 n7
      refine ⟨m', hm, i + 1, σ7, H7, I7.unpinned, T.keep _ _ _ st5 fun b hb o e => (I7.pin (b, o) (List.mem_append_right _ (List.mem_append_right _ (mem_pinsAt hb e)))).1, fun b hb => ?_, w7⟩
      obtain ⟨o, e, d⟩ := T.obj _ _ st5 b hb
      exact (I7.pin (b, o) (List.mem_append_right _ (List.mem_append_right _ (mem_pinsAt hb e)))).2.1
    cases f with
    | next => obtain ⟨σ7, H7, I7, n7⟩ := q7; exact again I7 n7
    | cont => obtain ⟨σ7, H7, I7, n7⟩ := q7; exact again I7 n7
    | brk => obtain ⟨σ7, H7, I7, q7⟩ := q7; exact ⟨σ7, H7, I7.unpinned, q7⟩
    | ret v => obtain ⟨x7, σ7, H7, I7, r7, q7⟩ := q7; exact ⟨x7, σ7, H7, I7.unpinned, r7, q7⟩
end

/-! ### the forms one uses -/
/-- over a list that the body leaves as it is -/
theorem for_list {K : PySem.W.Frag} {a : Addr} {xs : List V} {g : TG} {tb : TS} {D : Ends} {σ : St} {H : Hp} (Pv : Nat → St → Hp → Prop) (h0 : Pv 0 σ H) (hl : ∀ i σ H, i ≤ xs.length → Pv i σ H → SqL K H a xs)
    (hs : ∀ i x σ H, xs[i]? = some x → Pv i σ H → g x σ H fun σ2 H2 => tb { D with nx := Pv (i + 1), ct := Pv (i + 1), bk := D.nx } σ2 H2) (hd : ∀ σ H, Pv xs.length σ H → D.nx σ H) :
    ∃ W : Nat → Nat → St → Hp → Prop, (∃ m, W 0 m σ H) ∧ ∀ i m σ H, W i m σ H →
      ((Itl K a).stop i H ∧ D.nx σ H) ∨ ((Itl K a).go i H ∧ ∃ N : St → Hp → Prop, (∀ σ' H', N σ' H' → ∃ m', m' < m ∧ W (i + 1) m' σ' H') ∧ ∀ x H', (Itl K a).yld i H x H' → g x σ H' fun σ2 H2 => tb { D with nx := N, ct := N, bk := D.nx } σ2 H2) := by
  refine ⟨fun i m σ H => m = xs.length - i ∧ i ≤ xs.length ∧ Pv i σ H, ⟨xs.length, by simp, Nat.zero_le _, h0⟩, ?_⟩
  rintro i m σ H ⟨rfl, hi, p⟩
  have q := hl i σ H hi p
  by_cases hlt : i < xs.length
  · refine .inr ⟨⟨xs, xs[i], q, by simp [hlt]⟩, Pv (i + 1), fun σ' H' p' => ⟨xs.length - (i + 1), by omega, rfl, hlt, p'⟩, fun x H' y => ?_⟩
    obtain ⟨e, y⟩ := y
    subst e
    exact hs i x σ _ (y xs q) p
  · have e : i = xs.length := by omega
    subst e
    exact .inl ⟨⟨xs, q, Nat.le_refl _⟩, hd σ H p⟩
theorem for_tup {K : PySem.W.Frag} {a : Addr} {xs : List V} {g : TG} {tb : TS} {D : Ends} {σ : St} {H : Hp} (Pv : Nat → St → Hp → Prop) (h0 : Pv 0 σ H) (hl : ∀ i σ H, i ≤ xs.length → Pv i σ H → SqT K H a xs)
    (hs : ∀ i x σ H, xs[i]? = some x → Pv i σ H → g x σ H fun σ2 H2 => tb { D with nx := Pv (i + 1), ct := Pv (i + 1), bk := D.nx } σ2 H2) (hd : ∀ σ H, Pv xs.length σ H → D.nx σ H) :
    ∃ W : Nat → Nat → St → Hp → Prop, (∃ m, W 0 m σ H) ∧ ∀ i m σ H, W i m σ H →
      ((Itt K a).stop i H ∧ D.nx σ H) ∨ ((Itt K a).go i H ∧ ∃ N : St → Hp → Prop, (∀ σ' H', N σ' H' → ∃ m', m' < m ∧ W (i + 1) m' σ' H') ∧ ∀ x H', (Itt K a).yld i H x H' → g x σ H' fun σ2 H2 => tb { D with nx := N, ct := N, bk := D.nx } σ2 H2) := by
  refine ⟨fun i m σ H => m = xs.length - i ∧ i ≤ xs.length ∧ Pv i σ H, ⟨xs.length, by simp, Nat.zero_le _, h0⟩, ?_⟩
  rintro i m σ H ⟨rfl, hi, p⟩
  have q := hl i σ H hi p
  by_cases hlt : i < xs.length
  · refine .inr ⟨⟨xs, xs[i], q, by simp [hlt]⟩, Pv (i + 1), fun σ' H' p' => ⟨xs.length - (i + 1), by omega, rfl, hlt, p'⟩, fun x H' y => ?_⟩
    obtain ⟨e, y⟩ := y
    subst e
    exact hs i x σ _ (y xs q) p
  · have e : i = xs.length := by omega
    subst e
    exact .inl ⟨⟨xs, q, Nat.le_refl _⟩, hd σ H p⟩
theorem for_range {lo : Int} {n : Nat} {g : TG} {tb : TS} {D : Ends} {σ : St} {H : Hp} (Pv : Nat → St → Hp → Prop) (h0 : Pv 0 σ H)
    (hs : ∀ i σ H, i < n → Pv i σ H → g (.int (lo + i)) σ H fun σ2 H2 => tb { D with nx := Pv (i + 1), ct := Pv (i + 1), bk := D.nx } σ2 H2) (hd : ∀ σ H, Pv n σ H → D.nx σ H) :
    ∃ W : Nat → Nat → St → Hp → Prop, (∃ m, W 0 m σ H) ∧ ∀ i m σ H, W i m σ H →
      ((Itr lo n).stop i H ∧ D.nx σ H) ∨ ((Itr lo n).go i H ∧ ∃ N : St → Hp → Prop, (∀ σ' H', N σ' H' → ∃ m', m' < m ∧ W (i + 1) m' σ' H') ∧ ∀ x H', (Itr lo n).yld i H x H' → g x σ H' fun σ2 H2 => tb { D with nx := N, ct := N, bk := D.nx } σ2 H2) := by
  refine ⟨fun i m σ H => m = n - i ∧ i ≤ n ∧ Pv i σ H, ⟨n, by simp, Nat.zero_le _, h0⟩, ?_⟩
  rintro i m σ H ⟨rfl, hi, p⟩
  by_cases hlt : i < n
  · refine .inr ⟨hlt, Pv (i + 1), fun σ' H' p' => ⟨n - (i + 1), by omega, rfl, hlt, p'⟩, fun x H' y => ?_⟩
    obtain ⟨e, y⟩ := y
    subst e y
    exact hs i σ _ hlt p
  · have e : i = n := by omega
    subst e
    exact .inl ⟨Nat.le_refl _, hd σ H p⟩
/-- while, by a word and a measure of the state -/
theorem while_by {c : TT} {tb : TS} {D : Ends} {σ : St} {H : Hp} (Pv : St → Hp → Prop) (μ : St → Hp → Nat) (h0 : Pv σ H)
    (hs : ∀ σ H, Pv σ H → c σ H fun b H1 => if b = true then tb { D with nx := fun σ' H' => Pv σ' H' ∧ μ σ' H' < μ σ H, ct := fun σ' H' => Pv σ' H' ∧ μ σ' H' < μ σ H, bk := D.nx } σ H1 else D.nx σ H1)
    (mono : ∀ σ H Q Q', (∀ b H1, Q b H1 → Q' b H1) → c σ H Q → c σ H Q') : tWhile c tb D σ H := by
  refine ⟨fun m σ H => m = μ σ H ∧ Pv σ H, ⟨_, rfl, h0⟩, ?_⟩
  rintro m σ H ⟨rfl, p⟩
  refine mono σ H _ _ (fun b H1 q => ?_) (hs σ H p)
  cases b with
  | true => exact ⟨_, fun σ' H' ⟨p', l⟩ => ⟨_, l, rfl, p'⟩, q⟩
  | false => exact q
end L2

namespace L2
open PySem PySem.Spec PyProof.Rows

abbrev R2 := V → V → Hp → VK → Prop
/-- a two-place operation on values: f is binaryOp op, inplaceOp op or compareOp op -/
def OpR (X : Cx) (f : Value → Value → Sem Value) (r : R2) : Prop :=
  ∀ (pins : List (Addr × Obj)) (s : Shared) (σ : St) (H : Hp) (x y : V) (v u : Value) (Q : VK), Inv X pins σ H s → RelV x v → RelV y u → r x y H Q →
    wpAny (model X.prog X.w) X.A (f v u) (EP X pins σ Q) X.xe s
/-- a one-place operation -/
def UnR (X : Cx) (f : Value → Sem Value) (r : V → Hp → VK → Prop) : Prop :=
  ∀ (pins : List (Addr × Obj)) (s : Shared) (σ : St) (H : Hp) (x : V) (v : Value) (Q : VK), Inv X pins σ H s → RelV x v → r x H Q →
    wpAny (model X.prog X.w) X.A (f v) (EP X pins σ Q) X.xe s
/-- a call of a value that is known (a builtin, a type) with values -/
def CallR (X : Cx) (f : Value) (r : List V → Hp → VK → Prop) : Prop :=
  ∀ (pins : List (Addr × Obj)) (s : Shared) (σ : St) (H : Hp) (xs : List V) (us : List Value) (Q : VK), Inv X pins σ H s → Vals xs us → r xs H Q →
    wpAny (model X.prog X.w) X.A (call f us) (EP X pins σ Q) X.xe s
/-- a value's truth -/
def TruR (X : Cx) (r : V → Hp → (Bool → Hp → Prop) → Prop) : Prop :=
  ∀ (pins : List (Addr × Obj)) (s : Shared) (σ : St) (H : Hp) (x : V) (v : Value) (Q : Bool → Hp → Prop), Inv X pins σ H s → RelV x v → r x H Q →
    wpAny (model X.prog X.w) X.A (truthy v) (TP X pins σ Q) X.xe s

def tOp (r : R2) (ta tb : TE) : TE := fun σ H Q => ta σ H fun x H1 => tb σ H1 fun y H2 => r x y H2 Q
def tUn (r : V → Hp → VK → Prop) (ta : TE) : TE := fun σ H Q => ta σ H fun x H1 => r x H1 Q
/-- ints in, under C, and a value out -/
def rI (C : Int → Int → Prop) (g : Int → Int → V) : R2 := fun x y H Q => ∃ i j, x = .int i ∧ y = .int j ∧ C i j ∧ Q (g i j) H
def rI0 (g : Int → Int → V) : R2 := fun x y H Q => ∃ i j, x = .int i ∧ y = .int j ∧ Q (g i j) H
def rU (g : Int → V) : V → Hp → VK → Prop := fun x H Q => ∃ i, x = .int i ∧ Q (g i) H

section
variable {X : Cx} {a b c : Expr} {ta tb tc : TE} {pos : Pos}

theorem binT (ha : PE X a ta) (hb : PE X b tb) {pins : List (Addr × Obj)} {s : Shared} {σ : St} {H : Hp} {R : V → V → Hp → Prop} (I : Inv X pins σ H s)
    (h : ta σ H fun x H1 => tb σ H1 fun y H2 => R x y H2) {Q : Value → Shared → Prop} {f : Value → Value → Sem Value}
    (hf : ∀ v u s2 x y H2, Inv X pins σ H2 s2 → RelV x v → RelV y u → R x y H2 → wpAny (model X.prog X.w) X.A (f v u) Q X.xe s2) :
    wpAny (model X.prog X.w) X.A (eval a X.env) (fun v s₁ => wpAny (model X.prog X.w) X.A (eval b X.env) (fun u s₂ => wpAny (model X.prog X.w) X.A (f v u) Q X.xe s₂) X.xe s₁) X.xe s := by
  refine thn (ha pins s σ H _ I h) fun v s1 ⟨x, H1, I1, r1, q1⟩ => ?_
  refine thn (hb pins s1 σ H1 _ I1 q1) fun u s2 ⟨y, H2, I2, r2, q2⟩ => ?_
  exact hf v u s2 x y H2 I2 r1 r2 q2

theorem pe_op {op : Operator} {r : R2} (ho : OpR X (binaryOp op) r) (ha : PE X a ta) (hb : PE X b tb) : PE X (.BinOp a op b pos) (tOp r ta tb) := by
  intro pins s σ H Q I h
  exact wpAny_BinOp (binT ha hb I h fun v u s2 x y H2 I2 rx ry q => ho pins s2 σ H2 x y v u Q I2 rx ry q)
theorem pe_un {op : UnaryOp} {r : V → Hp → VK → Prop} (ho : UnR X (unaryOp op) r) (ha : PE X a ta) : PE X (.UnaryOp op a pos) (tUn r ta) := by
  intro pins s σ H Q I h
  exact UnaryOp_ (thn (ha pins s σ H _ I h) fun v s1 ⟨x, H1, I1, r1, q1⟩ => ho pins s1 σ H1 x v Q I1 r1 q1)
/-- a op= e at a name: the name's slot i -/
theorem augR {op : Operator} {r : R2} (ho : OpR X (inplaceOp op) r) {pins : List (Addr × Obj)} {s : Shared} {σ : St} {H : Hp} {x y : V} {v u : Value} {Q : VK} (I : Inv X pins σ H s)
    (rx : RelV x v) (ry : RelV y u) (q : r x y H Q) : wpAny (model X.prog X.w) X.A (inplaceOp op v u) (EP X pins σ Q) X.xe s := ho pins s σ H x y v u Q I rx ry q

/-! ### ints -/
theorem opI {f : Value → Value → Sem Value} {C : Int → Int → Prop} {g : Int → Int → Int}
    (rule : ∀ (i j : Int) (t u : Tok) (s : Shared) (Q : Value → Shared → Prop) (E : Value → Shared → Prop), C i j → Q (.int (g i j) s.toks) { s with toks := s.toks + 1 } → wpAny (model X.prog X.w) X.A (f (.int i t) (.int j u)) Q E s) :
    OpR X f (rI C fun i j => .int (g i j)) := by
  intro pins s σ H x y v u Q I rx ry h
  obtain ⟨i, j, rfl, rfl, hc, q⟩ := h
  obtain ⟨t, rfl⟩ := rx
  obtain ⟨t', rfl⟩ := ry
  exact rule i j t t' s _ _ hc ⟨.int (g i j), H, I.tok _, ⟨_, rfl⟩, q⟩
theorem opI0 {f : Value → Value → Sem Value} {g : Int → Int → Int}
    (rule : ∀ (i j : Int) (t u : Tok) (s : Shared) (Q : Value → Shared → Prop) (E : Value → Shared → Prop), Q (.int (g i j) s.toks) { s with toks := s.toks + 1 } → wpAny (model X.prog X.w) X.A (f (.int i t) (.int j u)) Q E s) :
    OpR X f (rI0 fun i j => .int (g i j)) := by
  intro pins s σ H x y v u Q I rx ry h
  obtain ⟨i, j, rfl, rfl, q⟩ := h
  obtain ⟨t, rfl⟩ := rx
  obtain ⟨t', rfl⟩ := ry
  exact rule i j t t' s _ _ ⟨.int (g i j), H, I.tok _, ⟨_, rfl⟩, q⟩
theorem opB0 {f : Value → Value → Sem Value} {g : Int → Int → Bool}
    (rule : ∀ (i j : Int) (t u : Tok) (s : Shared) (Q : Value → Shared → Prop) (E : Value → Shared → Prop), Q (.bool (g i j)) s → wpAny (model X.prog X.w) X.A (f (.int i t) (.int j u)) Q E s) :
    OpR X f (rI0 fun i j => .bl (g i j)) := by
  intro pins s σ H x y v u Q I rx ry h
  obtain ⟨i, j, rfl, rfl, q⟩ := h
  obtain ⟨t, rfl⟩ := rx
  obtain ⟨t', rfl⟩ := ry
  exact rule i j t t' s _ _ ⟨.bl (g i j), H, I, rfl, q⟩

def CDiv (i j : Int) : Prop := 0 < j ∧ j < 1073741824
def CDivN (i j : Int) : Prop := j ≠ 0 ∧ j.natAbs < 1073741824
def CPow (i j : Int) : Prop := 0 ≤ j ∧ j ≤ 1000000 ∧ i.natAbs < 2 ^ 64
def CMul (i j : Int) : Prop := (-(2 ^ 64) < i ∧ i < 2 ^ 64) ∨ (-(2 ^ 64) < j ∧ j < 2 ^ 64)
theorem CMul.ok {i j : Int} (h : CMul i j) : IntMulOk i j := by
  rcases h with ⟨h1, h2⟩ | ⟨h1, h2⟩
  · exact .of_left (intBits_le_64 h1 h2)
  · exact .of_right (intBits_le_64 h1 h2)
theorem two_pow_nn (k : Nat) : (0 : Int) ≤ 2 ^ k := by
  rw [two_pow_cast]
  exact Int.natCast_nonneg _

theorem op_add : OpR X (binaryOp .Add) (rI0 fun i j => .int (i + j)) := opI0 fun _ _ _ _ _ _ _ q => add_int q
theorem op_sub : OpR X (binaryOp .Sub) (rI0 fun i j => .int (i - j)) := opI0 fun _ _ _ _ _ _ _ q => sub_int q
theorem op_mul : OpR X (binaryOp .Mult) (rI CMul fun i j => .int (i * j)) := opI fun _ _ _ _ _ _ _ hc q => mul_int q hc.ok
/-- // by a positive divisor -/
theorem op_fdiv : OpR X (binaryOp .FloorDiv) (rI CDiv fun i j => .int (i / j)) := opI fun i j _ _ _ _ _ hc q => by
  have h1 : (0 : Int) < j := hc.1
  have h2 : j < 1073741824 := hc.2
  exact floordiv_int (by omega) (by rw [Int.fdiv_eq_ediv_of_nonneg i (by omega)]; exact q) (.inl (PyProof.noPylong_small (by omega)))
theorem op_fdivN : OpR X (binaryOp .FloorDiv) (rI CDivN fun i j => .int (i.fdiv j)) := opI fun _ _ _ _ _ _ _ hc q => floordiv_int hc.1 q (.inl (PyProof.noPylong_small hc.2))
/-- % by a positive divisor of any size -/
theorem op_mod : OpR X (binaryOp .Mod) (rI (fun _ j => 0 < j) fun i j => .int (i % j)) := opI fun i j _ _ _ _ _ hc q => by
  have h1 : (0 : Int) < j := hc
  exact mod_int' (by omega) (by rw [Int.fmod_eq_emod_of_nonneg i (by omega)]; exact q)
theorem op_modN : OpR X (binaryOp .Mod) (rI (fun _ j => j ≠ 0) fun i j => .int (i.fmod j)) := opI fun _ _ _ _ _ _ _ hc q => mod_int' hc q
theorem op_pow : OpR X (binaryOp .Pow) (rI CPow fun i j => .int (i ^ j.toNat)) := opI fun _ _ _ _ _ _ _ hc q => pow_int_small hc.1 hc.2.1 hc.2.2 q
theorem op_shl : OpR X (binaryOp .LShift) (rI CPow fun i j => .int (i * 2 ^ j.toNat)) := opI fun _ _ _ _ _ _ _ hc q => lshift_int_small hc.1 hc.2.1 hc.2.2 q
theorem op_shr : OpR X (binaryOp .RShift) (rI (fun _ j => 0 ≤ j) fun i j => .int (i / 2 ^ j.toNat)) := opI fun i j _ _ _ _ _ hc q =>
  rshift_int hc (by rw [Int.fdiv_eq_ediv_of_nonneg i (two_pow_nn _)]; exact q)
theorem op_and : OpR X (binaryOp .BitAnd) (rI0 fun i j => .int (Builtin.bitAnd i j)) := opI0 fun _ _ _ _ _ _ _ q => and_int q
theorem op_or : OpR X (binaryOp .BitOr) (rI0 fun i j => .int (Builtin.bitOr i j)) := opI0 fun _ _ _ _ _ _ _ q => or_int q
theorem op_xor : OpR X (binaryOp .BitXor) (rI0 fun i j => .int (Builtin.bitXor i j)) := opI0 fun _ _ _ _ _ _ _ q => xor_int q

theorem iop_add : OpR X (inplaceOp .Add) (rI0 fun i j => .int (i + j)) := opI0 fun _ _ _ _ _ _ _ q => iadd_int q
theorem iop_sub : OpR X (inplaceOp .Sub) (rI0 fun i j => .int (i - j)) := opI0 fun _ _ _ _ _ _ _ q => isub_int q
theorem iop_mul : OpR X (inplaceOp .Mult) (rI CMul fun i j => .int (i * j)) := opI fun _ _ _ _ _ _ _ hc q => imul_int q hc.ok
theorem iop_fdiv : OpR X (inplaceOp .FloorDiv) (rI CDiv fun i j => .int (i / j)) := opI fun i j _ _ _ _ _ hc q => by
  have h1 : (0 : Int) < j := hc.1
  have h2 : j < 1073741824 := hc.2
  exact ifloordiv_int (by omega) (by rw [Int.fdiv_eq_ediv_of_nonneg i (by omega)]; exact q) (.inl (PyProof.noPylong_small (by omega)))
theorem iop_mod : OpR X (inplaceOp .Mod) (rI (fun _ j => 0 < j) fun i j => .int (i % j)) := opI fun i j _ _ _ _ _ hc q => by
  have h1 : (0 : Int) < j := hc
  exact imod_int (by omega) (by rw [Int.fmod_eq_emod_of_nonneg i (by omega)]; exact q)
theorem iop_shl : OpR X (inplaceOp .LShift) (rI CPow fun i j => .int (i * 2 ^ j.toNat)) := opI fun _ _ _ _ _ _ _ hc q => ilshift_int_small hc.1 hc.2.1 hc.2.2 q
theorem iop_shr : OpR X (inplaceOp .RShift) (rI (fun _ j => 0 ≤ j) fun i j => .int (i / 2 ^ j.toNat)) := opI fun i j _ _ _ _ _ hc q =>
  irshift_int hc (by rw [Int.fdiv_eq_ediv_of_nonneg i (two_pow_nn _)]; exact q)
theorem iop_and : OpR X (inplaceOp .BitAnd) (rI0 fun i j => .int (Builtin.bitAnd i j)) := opI0 fun _ _ _ _ _ _ _ q => iand_int q
theorem iop_or : OpR X (inplaceOp .BitOr) (rI0 fun i j => .int (Builtin.bitOr i j)) := opI0 fun _ _ _ _ _ _ _ q => ior_int q
theorem iop_xor : OpR X (inplaceOp .BitXor) (rI0 fun i j => .int (Builtin.bitXor i j)) := opI0 fun _ _ _ _ _ _ _ q => ixor_int q

theorem unI {f : Value → Sem Value} {g : Int → Int}
    (rule : ∀ (i : Int) (t : Tok) (s : Shared) (Q : Value → Shared → Prop) (E : Value → Shared → Prop), Q (.int (g i) s.toks) { s with toks := s.toks + 1 } → wpAny (model X.prog X.w) X.A (f (.int i t)) Q E s) :
    UnR X f (rU fun i => .int (g i)) := by
  intro pins s σ H x v Q I rx h
  obtain ⟨i, rfl, q⟩ := h
  obtain ⟨t, rfl⟩ := rx
  exact rule i t s _ _ ⟨.int (g i), H, I.tok _, ⟨_, rfl⟩, q⟩
theorem un_neg : UnR X (unaryOp .USub) (rU fun i => .int (-i)) := unI fun _ _ _ _ _ q => neg_int q
theorem un_inv : UnR X (unaryOp .Invert) (rU fun i => .int (Builtin.bitNot i)) := unI fun _ _ _ _ _ q => invert_int q

/-! ### bools among ints: n += (a < b) -/
theorem op_add_ib : OpR X (binaryOp .Add) (fun x y H Q => ∃ i k, x = .int i ∧ y = .bl k ∧ Q (.int (i + b2i k)) H) := by
  intro pins s σ H x y v u Q I rx ry h
  obtain ⟨i, k, rfl, rfl, q⟩ := h
  obtain ⟨t, rfl⟩ := rx
  cases ry
  exact add_int_bool ⟨.int (i + b2i k), H, I.tok _, ⟨_, rfl⟩, q⟩
end

/-! ### comparisons -/
/-- the scalars that == tells apart as data does -/
def scal : V → V → Bool
  | .non, .non => true | .non, .int _ => true | .int _, .non => true | .non, .bl _ => true | .bl _, .non => true | .non, .str _ => true | .str _, .non => true
  | .int _, .int _ => true | .bl _, .bl _ => true | .str _, .str _ => true | .byt _, .byt _ => true
  | .int _, .str _ => true | .str _, .int _ => true | .bl _, .str _ => true | .str _, .bl _ => true
  | _, _ => false
def rEq : R2 := fun x y H Q => scal x y = true ∧ Q (.bl (decide (x = y))) H
def rNe : R2 := fun x y H Q => scal x y = true ∧ Q (.bl (!decide (x = y))) H

theorem dec_int {i j : Int} : decide (V.int i = V.int j) = (i == j) := by
  rw [Bool.eq_iff_iff]
  simp
theorem dec_bl {i j : Bool} : decide (V.bl i = V.bl j) = (i == j) := by
  rw [Bool.eq_iff_iff]
  simp
theorem dec_str {i j : Str} : decide (V.str i = V.str j) = (i == j) := by
  rw [Bool.eq_iff_iff]
  simp
theorem dec_byt {i j : Array UInt8} : decide (V.byt i = V.byt j) = (i.toList == j.toList) := by
  rw [Bool.eq_iff_iff]
  cases i
  cases j
  simp

section
variable {X : Cx} {a b c : Expr} {ta tb tc : TE} {pos : Pos}
theorem fin_bl {pins : List (Addr × Obj)} {σ : St} {H : Hp} {s : Shared} {Q : VK} {k k' : Bool} (I : Inv X pins σ H s) (q : Q (.bl k) H) (e : k = k') : EP X pins σ Q (.bool k') s := by
  subst e
  exact ⟨.bl k, H, I, rfl, q⟩
theorem op_eq : OpR X (compareOp .Eq) rEq := by
  intro pins s σ H x y v u Q I rx ry h
  obtain ⟨hs, q⟩ := h
  cases x with
  | non =>
    cases rx
    cases y with
    | non => cases ry; exact PySem.EqNone.eq_none_none (fin_bl I q (by simp))
    | bl j => cases ry; exact PySem.EqNone.eq_none_bool (fin_bl I q (by simp))
    | int j => obtain ⟨t', rfl⟩ := ry; exact PySem.EqNone.eq_none_int (fin_bl I q (by simp))
    | str j => obtain ⟨t', rfl⟩ := ry; exact PySem.EqNone.eq_none_str (fin_bl I q (by simp))
    | _ => exact absurd (show false = true from hs) Bool.false_ne_true
  | bl i =>
    cases rx
    cases y with
    | non => cases ry; exact PySem.EqNone.eq_bool_none (fin_bl I q (by simp))
    | bl j => cases ry; exact eq_bool (fin_bl I q dec_bl)
    | str j => obtain ⟨t', rfl⟩ := ry; exact PySem.EqMixed.eq_bool_str (fin_bl I q (by simp))
    | _ => exact absurd (show false = true from hs) Bool.false_ne_true
  | int i =>
    obtain ⟨t, rfl⟩ := rx
    cases y with
    | non => cases ry; exact PySem.EqNone.eq_int_none (fin_bl I q (by simp))
    | int j => obtain ⟨t', rfl⟩ := ry; exact eq_int (fin_bl I q dec_int)
    | str j => obtain ⟨t', rfl⟩ := ry; exact PySem.EqMixed.eq_int_str (fin_bl I q (by simp))
    | _ => exact absurd (show false = true from hs) Bool.false_ne_true
  | str i =>
    obtain ⟨t, rfl⟩ := rx
    cases y with
    | non => cases ry; exact PySem.EqNone.eq_str_none (fin_bl I q (by simp))
    | bl j => cases ry; exact PySem.EqMixed.eq_str_bool (fin_bl I q (by simp))
    | int j => obtain ⟨t', rfl⟩ := ry; exact PySem.EqMixed.eq_str_int (fin_bl I q (by simp))
    | str j => obtain ⟨t', rfl⟩ := ry; exact eq_str (fin_bl I q dec_str)
    | _ => exact absurd (show false = true from hs) Bool.false_ne_true
  | byt i =>
    obtain ⟨t, rfl⟩ := rx
    cases y with
    | byt j => obtain ⟨t', rfl⟩ := ry; exact PySem.W.eq_bytes (fin_bl I q dec_byt)
    | _ => exact absurd (show false = true from hs) Bool.false_ne_true
  | _ => cases y <;> exact absurd (show false = true from hs) Bool.false_ne_true
theorem op_ne : OpR X (compareOp .NotEq) rNe := by
  intro pins s σ H x y v u Q I rx ry h
  obtain ⟨hs, q⟩ := h
  cases x with
  | non =>
    cases rx
    cases y with
    | non => cases ry; exact PySem.EqNone.ne_none_none (fin_bl I q (by simp))
    | bl j => cases ry; exact PySem.EqNone.ne_none_bool (fin_bl I q (by simp))
    | int j => obtain ⟨t', rfl⟩ := ry; exact PySem.EqNone.ne_none_int (fin_bl I q (by simp))
    | str j => obtain ⟨t', rfl⟩ := ry; exact PySem.EqNone.ne_none_str (fin_bl I q (by simp))
    | _ => exact absurd (show false = true from hs) Bool.false_ne_true
  | bl i =>
    cases rx
    cases y with
    | non => cases ry; exact PySem.EqNone.ne_bool_none (fin_bl I q (by simp))
    | bl j => cases ry; exact ne_bool (fin_bl I q (congrArg not dec_bl))
    | str j => obtain ⟨t', rfl⟩ := ry; exact PySem.EqMixed.ne_bool_str (fin_bl I q (by simp))
    | _ => exact absurd (show false = true from hs) Bool.false_ne_true
  | int i =>
    obtain ⟨t, rfl⟩ := rx
    cases y with
    | non => cases ry; exact PySem.EqNone.ne_int_none (fin_bl I q (by simp))
    | int j => obtain ⟨t', rfl⟩ := ry; exact ne_int (fin_bl I q (congrArg not dec_int))
    | str j => obtain ⟨t', rfl⟩ := ry; exact PySem.EqMixed.ne_int_str (fin_bl I q (by simp))
    | _ => exact absurd (show false = true from hs) Bool.false_ne_true
  | str i =>
    obtain ⟨t, rfl⟩ := rx
    cases y with
    | non => cases ry; exact PySem.EqNone.ne_str_none (fin_bl I q (by simp))
    | bl j => cases ry; exact PySem.EqMixed.ne_str_bool (fin_bl I q (by simp))
    | int j => obtain ⟨t', rfl⟩ := ry; exact PySem.EqMixed.ne_str_int (fin_bl I q (by simp))
    | str j => obtain ⟨t', rfl⟩ := ry; exact ne_str (fin_bl I q (congrArg not dec_str))
    | _ => exact absurd (show false = true from hs) Bool.false_ne_true
  | byt i =>
    obtain ⟨t, rfl⟩ := rx
    cases y with
    | byt j => obtain ⟨t', rfl⟩ := ry; exact PySem.W.ne_bytes (fin_bl I q (congrArg not dec_byt))
    | _ => exact absurd (show false = true from hs) Bool.false_ne_true
  | _ => cases y <;> exact absurd (show false = true from hs) Bool.false_ne_true

theorem op_lt : OpR X (compareOp .Lt) (rI0 fun i j => .bl (decide (i < j))) := opB0 fun _ _ _ _ _ _ _ q => lt_int q
theorem op_le : OpR X (compareOp .LtE) (rI0 fun i j => .bl (decide (i ≤ j))) := opB0 fun _ _ _ _ _ _ _ q => le_int q
theorem op_gt : OpR X (compareOp .Gt) (rI0 fun i j => .bl (decide (j < i))) := opB0 fun _ _ _ _ _ _ _ q => gt_int q
theorem op_ge : OpR X (compareOp .GtE) (rI0 fun i j => .bl (decide (j ≤ i))) := opB0 fun _ _ _ _ _ _ _ q => ge_int q
theorem op_lt_str : OpR X (compareOp .Lt) (fun x y H Q => ∃ i j, x = .str i ∧ y = .str j ∧ Q (.bl (decide (i.cps.toList < j.cps.toList))) H) := by
  intro pins s σ H x y v u Q I rx ry h
  obtain ⟨i, j, rfl, rfl, q⟩ := h
  obtain ⟨t, rfl⟩ := rx
  obtain ⟨t', rfl⟩ := ry
  exact lt_str (fin_bl I q rfl)
/-- the one string within the other -/
theorem op_in_str : OpR X (compareOp .In) (fun x y H Q => ∃ i j, x = .str i ∧ y = .str j ∧ Q (.bl (!(Builtin.Str.occurrences j i 0 j.length 1).isEmpty)) H) := by
  intro pins s σ H x y v u Q I rx ry h
  obtain ⟨i, j, rfl, rfl, q⟩ := h
  obtain ⟨t, rfl⟩ := rx
  obtain ⟨t', rfl⟩ := ry
  exact in_str (fin_bl I q rfl)

/-- is None, is not None: the right side a value none -/
theorem op_isN : OpR X (compareOp .Is) (fun x y H Q => y = .non ∧ Q (.bl (decide (x = .non))) H) := by
  intro pins s σ H x y v u Q I rx ry h
  obtain ⟨rfl, q⟩ := h
  cases ry
  refine is_none_gen (fin_bl I q ?_)
  cases x <;> first
    | (cases rx; rfl)
    | (obtain ⟨t, rfl⟩ := rx; rfl)
theorem op_notN : OpR X (compareOp .IsNot) (fun x y H Q => y = .non ∧ Q (.bl (!decide (x = .non))) H) := by
  intro pins s σ H x y v u Q I rx ry h
  obtain ⟨rfl, q⟩ := h
  cases ry
  refine isnot_none_gen (fin_bl I q ?_)
  cases x <;> first
    | (cases rx; rfl)
    | (obtain ⟨t, rfl⟩ := rx; rfl)

theorem op_notin_str : OpR X (compareOp .NotIn) (fun x y H Q => ∃ i j, x = .str i ∧ y = .str j ∧ Q (.bl (!(!(Builtin.Str.occurrences j i 0 j.length 1).isEmpty))) H) := by
  intro pins s σ H x y v u Q I rx ry h
  obtain ⟨i, j, rfl, rfl, q⟩ := h
  obtain ⟨t, rfl⟩ := rx
  obtain ⟨t', rfl⟩ := ry
  exact notIn_str (fin_bl I q rfl)
/-- is, is not of two objects that are tracked lists or instances -/
def isObj : HO → Bool
  | .lst _ => true
  | .ins _ _ _ => true
  | _ => false
theorem obj_there {pins : List (Addr × Obj)} {s : Shared} {σ : St} {H : Hp} {a : Addr} {o : HO} (I : Inv X pins σ H s) (h : H a = some o) (p : isObj o = true) : ∃ ob, s.heap.get? a = some ob ∧ ob.cls ≠ .type "tuple" := by
  cases o with
  | lst xs =>
    obtain ⟨_, its, n, _, e⟩ : xs.length ≤ sizeLine ∧ ∃ (its : List Value) (n : Nat), Vals xs its ∧ s.heap.get? a = some { cls := .type "list", data := .seq its.toArray n } := I.hok a _ h
    exact ⟨_, e, (by show Value.type "list" ≠ .type "tuple"; decide +kernel)⟩
  | ins C dx fs =>
    have x := I.hok a _ h
    obtain ⟨_, _, _, e, _⟩ := x
    exact ⟨_, e, (by show Value.ref C ≠ .type "tuple"; exact fun z => by cases z)⟩
  | _ => exact absurd (show false = true from p) Bool.false_ne_true
theorem op_is_ref : OpR X (compareOp .Is) (fun x y H Q => ∃ a b oa ob, x = .ref a ∧ y = .ref b ∧ H a = some oa ∧ isObj oa = true ∧ H b = some ob ∧ isObj ob = true ∧ Q (.bl (decide (a = b))) H) := by
  intro pins s σ H x y v u Q I rx ry h
  obtain ⟨a, b, oa, ob, rfl, rfl, ha, pa, hb, pb, q⟩ := h
  cases rx
  cases ry
  obtain ⟨o1, e1, n1⟩ := obj_there I ha pa
  obtain ⟨o2, e2, _⟩ := obj_there I hb pb
  by_cases z : a = b
  · subst z
    exact wpAny_is_ref_self (fin_bl I q (by simp))
  · exact wpAny_is_ref_other z e1 e2 n1 (fin_bl I q (by simp [z]))
theorem op_isnot_ref : OpR X (compareOp .IsNot) (fun x y H Q => ∃ a b oa ob, x = .ref a ∧ y = .ref b ∧ H a = some oa ∧ isObj oa = true ∧ H b = some ob ∧ isObj ob = true ∧ Q (.bl (!decide (a = b))) H) := by
  intro pins s σ H x y v u Q I rx ry h
  obtain ⟨a, b, oa, ob, rfl, rfl, ha, pa, hb, pb, q⟩ := h
  cases rx
  cases ry
  obtain ⟨o1, e1, n1⟩ := obj_there I ha pa
  obtain ⟨o2, e2, _⟩ := obj_there I hb pb
  by_cases z : a = b
  · subst z
    exact wpAny_isNot_ref_self (fin_bl I q (by simp))
  · exact wpAny_isNot_ref_other z e1 e2 n1 (fin_bl I q (by simp [z]))

/-- two rules for one operation: by cases -/
theorem OpR.or {f : Value → Value → Sem Value} {r r' : R2} (h : OpR X f r) (h' : OpR X f r') : OpR X f (fun x y H Q => r x y H Q ∨ r' x y H Q) := by
  intro pins s σ H x y v u Q I rx ry q
  rcases q with q | q
  · exact h pins s σ H x y v u Q I rx ry q
  · exact h' pins s σ H x y v u Q I rx ry q

theorem nomark (b : Expr) {op : CmpOp} (h : op ≠ .In := by decide) (h2 : op ≠ .NotIn := by decide) : behindInMarks op b = false := by
  have e1 : (op == CmpOp.In) = false := by cases op <;> first | rfl | exact absurd rfl h
  have e2 : (op == CmpOp.NotIn) = false := by cases op <;> first | rfl | exact absurd rfl h2
  cases b <;> simp [behindInMarks, e1, e2]
/-- a comparison as a value; hm: nomark b, or (for in, not in) by with_unfolding_all rfl -/
theorem pe_cmpR {op : CmpOp} {r : R2} (ho : OpR X (compareOp op) r) (ha : PE X a ta) (hb : PE X b tb) (hm : behindInMarks op b = false) : PE X (.Compare a [op] [b] pos) (tOp r ta tb) := by
  intro pins s σ H Q I h
  exact wpAny_Compare1 (binT ha hb I h fun v u s2 x y H2 I2 rx ry q => ho pins s2 σ H2 x y v u Q I2 rx ry q) hm
/-- a reading of a value as a test -/
def tTest (t : TE) : TT := fun σ H Q => t σ H fun x H' => ∃ k, x = .bl k ∧ Q k H'
theorem pt_cmpR {op : CmpOp} {r : R2} (ho : OpR X (compareOp op) r) (ha : PE X a ta) (hb : PE X b tb) (hm : behindInMarks op b = false) : PT X (.Compare a [op] [b] pos) (tTest (tOp r ta tb)) := by
  intro pins s σ H Q I h
  refine wpAny_isTrue_Compare1 (thn (ha pins s σ H _ I h) fun v s1 ⟨x, H1, I1, r1, q1⟩ => thn (hb pins s1 σ H1 _ I1 q1) fun u s2 ⟨y, H2, I2, r2, q2⟩ =>
    thn (ho pins s2 σ H2 x y v u _ I2 r1 r2 q2) fun c s3 ⟨z, H3, I3, r3, k, e, q3⟩ => ?_) hm
  subst e
  cases r3
  exact wpAny_truthy_bool ⟨H3, I3, q3⟩
/-- a op1 b op2 c -/
def tChain (r r' : R2) (ta tb tc : TE) : TE := fun σ H Q => ta σ H fun x H1 => tb σ H1 fun y H2 => r x y H2 fun z H3 => ∃ k, z = .bl k ∧
  (if k = true then tc σ H3 fun w' H4 => r' y w' H4 Q else Q (.bl false) H3)
theorem pe_chain {op op' : CmpOp} {r r' : R2} (ho : OpR X (compareOp op) r) (ho' : OpR X (compareOp op') r') (ha : PE X a ta) (hb : PE X b tb) (hc : PE X c tc)
    (hm : lastMarks [op, op'] [b, c] = false := by with_unfolding_all rfl) : PE X (.Compare a [op, op'] [b, c] pos) (tChain r r' ta tb tc) := by
  intro pins s σ H Q I h
  refine Compare_chain (thn (ha pins s σ H _ I h) fun v s1 ⟨x, H1, I1, r1, q1⟩ => chain_link (thn (hb pins s1 σ H1 _ I1 q1) fun u s2 ⟨y, H2, I2, r2, q2⟩ =>
    thn (ho pins s2 σ H2 x y v u _ I2 r1 r2 q2) fun d s3 ⟨z, H3, I3, r3, k, e, q3⟩ => ?_)) hm
  subst e
  cases r3
  refine wpAny_truthy_bool ?_
  cases k with
  | false => exact ite_ff ⟨.bl false, H3, I3, rfl, q3⟩
  | true => exact ite_tt (chain_last (thn (hc pins s3 σ H3 _ I3 q3) fun w' s4 ⟨z', H4, I4, r4, q4⟩ => ho' pins s4 σ H4 y z' u w' Q I4 r2 r4 q4))
theorem pt_chain {op op' : CmpOp} {r r' : R2} (ho : OpR X (compareOp op) r) (ho' : OpR X (compareOp op') r') (ha : PE X a ta) (hb : PE X b tb) (hc : PE X c tc)
    (hm : lastMarks [op, op'] [b, c] = false := by with_unfolding_all rfl) : PT X (.Compare a [op, op'] [b, c] pos) (tTest (tChain r r' ta tb tc)) := by
  intro pins s σ H Q I h
  refine isTrue_chain (thn (ha pins s σ H _ I h) fun v s1 ⟨x, H1, I1, r1, q1⟩ => test_link (thn (hb pins s1 σ H1 _ I1 q1) fun u s2 ⟨y, H2, I2, r2, q2⟩ =>
    thn (ho pins s2 σ H2 x y v u _ I2 r1 r2 q2) fun d s3 ⟨z, H3, I3, r3, k, e, q3⟩ => ?_)) hm
  subst e
  cases r3
  refine wpAny_truthy_bool ?_
  cases k with
  | false =>
    obtain ⟨k', e', q'⟩ := q3
    cases e'
    exact ite_ff ⟨H3, I3, q'⟩
  | true =>
    refine ite_tt (test_last (thn (hc pins s3 σ H3 _ I3 q3) fun w' s4 ⟨z', H4, I4, r4, q4⟩ => thn (ho' pins s4 σ H4 y z' u w' _ I4 r2 r4 q4) fun d' s5 ⟨z2, H5, I5, r5, k2, e2, q5⟩ => ?_))
    subst e2
    cases r5
    exact wpAny_truthy_bool ⟨H5, I5, q5⟩

/-! ### truth -/
/-- a value's truth by the abstract heap -/
def TruV (K : PySem.W.Frag) (x : V) (H : Hp) (k : Bool) : Prop :=
  match x with
  | .non => k = false
  | .bl b => k = b
  | .int i => k = (i != 0)
  | .str y => y.length ≤ sizeLine ∧ k = ((y.length : Int) != 0)
  | .byt y => y.size ≤ sizeLine ∧ k = ((y.size : Int) != 0)
  | .ref p => (∃ xs, SqL K H p xs ∧ k = !xs.isEmpty) ∨ (∃ xs, SqT K H p xs ∧ k = !xs.isEmpty) ∨ ∃ kvs, H p = some (.dK kvs) ∧ k = !kvs.isEmpty
  | _ => False
theorem isEmpty_kv {κ : Type} {kvs : List (κ × V)} {vs : List (κ × Value)} (r : KV kvs vs) : (!vs.isEmpty) = !kvs.isEmpty := by
  cases r <;> rfl
theorem isEmpty_of {xs : List V} {its : List Value} (r : Vals xs its) : (!its.toArray.isEmpty) = !xs.isEmpty := by
  cases r <;> simp
theorem line63 : (sizeLine : Nat) < 2 ^ 63 := by rw [sizeLine_eq]; decide
theorem tru_ok : TruR X (fun x H Q => ∃ k, TruV X.K x H k ∧ Q k H) := by
  intro pins s σ H x v Q I rx h
  obtain ⟨k, e, q⟩ := h
  have hl := line63
  have hs : sizeLine = 16777216 := sizeLine_eq
  cases x with
  | non =>
    cases rx
    have e' : k = false := e
    subst e'
    exact truthy_none ⟨H, I, q⟩
  | bl b =>
    cases rx
    have e' : k = b := e
    subst e'
    exact wpAny_truthy_bool ⟨H, I, q⟩
  | int i =>
    obtain ⟨t, rfl⟩ := rx
    have e' : k = (i != 0) := e
    subst e'
    exact PySem.P.truthy_int ⟨H, I, q⟩
  | str y =>
    obtain ⟨t, rfl⟩ := rx
    obtain ⟨hy, e'⟩ : y.length ≤ sizeLine ∧ k = ((y.length : Int) != 0) := e
    subst e'
    exact PySem.P.truthy_str (by omega) ⟨H, I.tok _, q⟩
  | byt y =>
    obtain ⟨t, rfl⟩ := rx
    obtain ⟨hy, e'⟩ : y.size ≤ sizeLine ∧ k = ((y.size : Int) != 0) := e
    subst e'
    exact PySem.W.truthy_bytes (by omega) ⟨H, I.tok _, q⟩
  | ref p =>
    cases rx
    have e' : (∃ xs, SqL X.K H p xs ∧ k = !xs.isEmpty) ∨ (∃ xs, SqT X.K H p xs ∧ k = !xs.isEmpty) ∨ ∃ kvs, H p = some (.dK kvs) ∧ k = !kvs.isEmpty := e
    rcases e' with ⟨xs, hx, e'⟩ | ⟨xs, hx, e'⟩ | ⟨kvs, hx, e'⟩
    · subst e'
      obtain ⟨its, r, pl, hz⟩ := I.list hx
      have hlen := r.length
      exact wpAny_truthy_list pl.isList (by simp only [List.size_toArray]; omega) ⟨H, I.tok _, by rw [isEmpty_of r]; exact q⟩
    · subst e'
      obtain ⟨its, r, pl, hz⟩ := I.tuple hx
      have hlen := r.length
      exact truthy_tuple pl (by simp only [List.size_toArray]; omega) ⟨H, I.tok _, by rw [isEmpty_of r]; exact q⟩
    · subst e'
      obtain ⟨hz, hS, vs, r, m⟩ : kvs.length ≤ sizeLine ∧ (p == sysModules) = false ∧ ∃ vs, KV kvs vs ∧ s.heap.DictOf (mixKind X.prog X.w) p vs := I.hok p _ hx
      have hlen : kvs.length = vs.length := Paired.length r
      exact wpAny_truthy_dict hS m (by omega) ⟨H, I.tok _, by rw [isEmpty_kv r]; exact q⟩
  | _ => exact (show False from e).elim
/-- any expression whose test is its value's truth (a name, a call, a subscript, a field ..: he by fun _ => rfl) -/
theorem pt_truth (ha : PE X a ta) (he : ∀ whole, isTrue a X.env whole = (do let v ← whole; standAt a.pos; holding [v] (truthy v))) :
    PT X a (fun σ H Q => ta σ H fun x H' => ∃ k, TruV X.K x H' k ∧ Q k H') := by
  intro pins s σ H Q I h
  exact isTrue_plain (thn (ha pins s σ H _ I h) fun v s1 ⟨x, H1, I1, r1, q1⟩ => tru_ok pins s1 σ H1 x v Q I1 r1 q1) (he _)

/-! ### strs and bytes -/
theorem pe_byt {x : List UInt8} {k : Nat} : PE X (.Constant (.bytes x) k pos) (fun _ H Q => Q (.byt x.toArray) H) := fun _ _ _ H _ I h => PySem.W.Constant_bytes ⟨.byt x.toArray, H, I.tok _, ⟨_, rfl⟩, h⟩
theorem op_add_str : OpR X (binaryOp .Add) (fun x y H Q => ∃ i j, x = .str i ∧ y = .str j ∧ i.length + j.length ≤ sizeLine ∧ Q (.str (i ++ j)) H) := by
  intro pins s σ H x y v u Q I rx ry h
  obtain ⟨i, j, rfl, rfl, hz, q⟩ := h
  obtain ⟨t, rfl⟩ := rx
  obtain ⟨t', rfl⟩ := ry
  exact add_str (fun t' tk => ⟨.str (i ++ j), H, I.tok _, ⟨_, rfl⟩, q⟩) hz
theorem iop_add_str : OpR X (inplaceOp .Add) (fun x y H Q => ∃ i j, x = .str i ∧ y = .str j ∧ i.length + j.length ≤ sizeLine ∧ Q (.str (i ++ j)) H) := by
  intro pins s σ H x y v u Q I rx ry h
  obtain ⟨i, j, rfl, rfl, hz, q⟩ := h
  obtain ⟨t, rfl⟩ := rx
  obtain ⟨t', rfl⟩ := ry
  exact iadd_str (fun t' tk => ⟨.str (i ++ j), H, I.tok _, ⟨_, rfl⟩, q⟩) hz
theorem op_add_byt : OpR X (binaryOp .Add) (fun x y H Q => ∃ i j, x = .byt i ∧ y = .byt j ∧ i.size + j.size ≤ 16777216 ∧ Q (.byt (i ++ j)) H) := by
  intro pins s σ H x y v u Q I rx ry h
  obtain ⟨i, j, rfl, rfl, hz, q⟩ := h
  obtain ⟨t, rfl⟩ := rx
  obtain ⟨t', rfl⟩ := ry
  exact PySem.W.KBy.add_bytes hz (fun t' tk => ⟨.byt (i ++ j), H, I.tok _, ⟨_, rfl⟩, q⟩)

def PlainIxT (b : Expr) : Prop := ∀ o i, subscripted b false o i = operate [o, i] (getItem o i)
/-- s[i], 0 ≤ i < len -/
theorem pe_item_str (ha : PE X a ta) (hb : PE X b tb) (hs : PlainIxT b) :
    PE X (.Subscript a b pos) (tOp (fun x y H Q => ∃ z i c, x = .str z ∧ y = .int i ∧ 0 ≤ i ∧ i < 2 ^ 63 ∧ i < z.length ∧ z.cps[i.toNat]? = some c ∧ Q (.str ⟨#[c]⟩) H) ta tb) := by
  intro pins s σ H Q I h
  refine Subscript_ (binT ha hb I h fun v u s2 x y H2 I2 rx ry q => ?_)
  obtain ⟨z, i, c, rfl, rfl, h0, h63, h1, hc, q⟩ := q
  obtain ⟨t, rfl⟩ := rx
  obtain ⟨t', rfl⟩ := ry
  have e : seqIndex? i z.length = some i.toNat := PySem.StrLaws.seqIndex_nonneg h0 h1
  exact tail_any (typeIs_str s2 z t) slot_str_getitem.lookup (getItem_str (c := c) (by
    have e1 : decide (i < -(2 ^ 63 : Int)) = false := decide_eq_false (by omega)
    have e2 : decide (i ≥ 2 ^ 63) = false := decide_eq_false (by omega)
    rw [e1, e2] <;> rfl) (by rw [e]; exact hc) ⟨.str ⟨#[c]⟩, H2, I2.tok _, ⟨_, rfl⟩, q⟩) (hs _ _)
/-- b[i], 0 ≤ i < len -/
theorem pe_item_byt (ha : PE X a ta) (hb : PE X b tb) (hs : PlainIxT b) :
    PE X (.Subscript a b pos) (tOp (fun x y H Q => ∃ (z : List UInt8) (i : Int), x = .byt z.toArray ∧ y = .int i ∧ z.length ≤ sizeLine ∧ 0 ≤ i ∧ i < z.length ∧ Q (.int ((z.getD i.toNat 0).toNat : Nat)) H) ta tb) := by
  intro pins s σ H Q I h
  refine Subscript_ (binT ha hb I h fun v u s2 x y H2 I2 rx ry q => ?_)
  obtain ⟨z, i, rfl, rfl, hz, h0, h1, q⟩ := q
  obtain ⟨t, rfl⟩ := rx
  obtain ⟨t', rfl⟩ := ry
  have hl : sizeLine = 16777216 := sizeLine_eq
  exact tail_any (PySem.W.typeIs_bytes s2 z.toArray t) PySem.W.FB.slot_bytes_getitem.lookup (PySem.W.getItem_bytes (by omega) h0 h1 ⟨.int ((z.getD i.toNat 0).toNat : Nat), H2, I2.tok _, ⟨_, rfl⟩, q⟩) (hs _ _)

/-! ### scalar builtins, by CallR -/
theorem vals1 {x : V} {us : List Value} (r : Vals [x] us) : ∃ u, us = [u] ∧ RelV x u := by
  cases r with
  | cons r1 r2 => cases r2; exact ⟨_, rfl, r1⟩
theorem vals2 {x y : V} {us : List Value} (r : Vals [x, y] us) : ∃ u w', us = [u, w'] ∧ RelV x u ∧ RelV y w' := by
  cases r with
  | cons r1 r2 =>
    cases r2 with
    | cons r3 r4 => cases r4; exact ⟨_, _, rfl, r1, r3⟩
theorem call_abs : CallR X (.builtin "abs") (fun xs H Q => ∃ i, xs = [.int i] ∧ Q (.int (if i < 0 then -i else i)) H) := by
  intro pins s σ H xs us Q I r h
  obtain ⟨i, rfl, q⟩ := h
  obtain ⟨u, rfl, t, rfl⟩ := vals1 r
  exact call_abs_int fun u tk => ⟨.int (if i < 0 then -i else i), H, I.tok _, ⟨_, rfl⟩, q⟩
theorem call_max2 (hc : X.calm = true) : CallR X (.builtin "max") (fun xs H Q => ∃ i j, xs = [.int i, .int j] ∧ Q (.int (if j > i then j else i)) H) := by
  intro pins s σ H xs us Q I r h
  obtain ⟨i, j, rfl, q⟩ := h
  obtain ⟨u, w', rfl, ⟨t, rfl⟩, ⟨t', rfl⟩⟩ := vals2 r
  refine max_two_ints (I.ok.hd hc) fun h' tk k => ⟨_, H, I.kept k, ?_, q⟩
  by_cases hj : j > i
  · rw [if_pos hj, if_pos hj]; exact ⟨_, rfl⟩
  · rw [if_neg hj, if_neg hj]; exact ⟨_, rfl⟩
theorem call_min2 (hc : X.calm = true) : CallR X (.builtin "min") (fun xs H Q => ∃ i j, xs = [.int i, .int j] ∧ Q (.int (if j < i then j else i)) H) := by
  intro pins s σ H xs us Q I r h
  obtain ⟨i, j, rfl, q⟩ := h
  obtain ⟨u, w', rfl, ⟨t, rfl⟩, ⟨t', rfl⟩⟩ := vals2 r
  refine min_two_ints (I.ok.hd hc) fun h' tk k => ⟨_, H, I.kept k, ?_, q⟩
  by_cases hj : j < i
  · rw [if_pos hj, if_pos hj]; exact ⟨_, rfl⟩
  · rw [if_neg hj, if_neg hj]; exact ⟨_, rfl⟩
theorem call_int1 : CallR X (.type "int") (fun xs H Q => (∃ i, xs = [.int i] ∧ Q (.int i) H) ∨ ∃ k, xs = [.bl k] ∧ Q (.int (if k then 1 else 0)) H) := by
  intro pins s σ H xs us Q I r h
  rcases h with ⟨i, rfl, q⟩ | ⟨k, rfl, q⟩
  · obtain ⟨u, rfl, t, rfl⟩ := vals1 r
    exact call_int_int ⟨.int i, H, I, ⟨_, rfl⟩, q⟩
  · obtain ⟨u, rfl, r1⟩ := vals1 r
    cases r1
    exact call_int_bool ⟨.int (if k then 1 else 0), H, I.tok _, ⟨_, rfl⟩, q⟩
theorem call_bool1 : CallR X (.type "bool") (fun xs H Q => (∃ i, xs = [.int i] ∧ Q (.bl (i != 0)) H) ∨ ∃ k, xs = [.bl k] ∧ Q (.bl k) H) := by
  intro pins s σ H xs us Q I r h
  rcases h with ⟨i, rfl, q⟩ | ⟨k, rfl, q⟩
  · obtain ⟨u, rfl, t, rfl⟩ := vals1 r
    exact call_bool_int ⟨.bl (i != 0), H, I, rfl, q⟩
  · obtain ⟨u, rfl, r1⟩ := vals1 r
    cases r1
    exact call_bool_bool ⟨.bl k, H, I, rfl, q⟩
theorem call_str_int : CallR X (.type "str") (fun xs H Q => ∃ i, xs = [.int i] ∧ i.natAbs.log2 < 1920 ∧ Q (.str (toString i)) H) := by
  intro pins s σ H xs us Q I r h
  obtain ⟨i, rfl, hz, q⟩ := h
  obtain ⟨u, rfl, t, rfl⟩ := vals1 r
  exact PySem.P.str_of_int hz ⟨.str _, H, I.tok _, ⟨_, rfl⟩, q⟩
theorem call_ord : CallR X (.builtin "ord") (fun xs H Q => ∃ x, xs = [.str x] ∧ x.length = 1 ∧ Q (.int (x.cps.getD 0 0 : Nat)) H) := by
  intro pins s σ H xs us Q I r h
  obtain ⟨x, rfl, hz, q⟩ := h
  obtain ⟨u, rfl, t, rfl⟩ := vals1 r
  exact ord_of_one hz ⟨.int _, H, I.tok _, ⟨_, rfl⟩, q⟩
theorem call_chr : CallR X (.builtin "chr") (fun xs H Q => ∃ i, xs = [.int i] ∧ 0 ≤ i ∧ i ≤ 1114111 ∧ Q (.str ⟨#[i.toNat]⟩) H) := by
  intro pins s σ H xs us Q I r h
  obtain ⟨i, rfl, h0, h1, q⟩ := h
  obtain ⟨u, rfl, t, rfl⟩ := vals1 r
  exact chr_of_range h0 h1 ⟨.str _, H, I.tok _, ⟨_, rfl⟩, q⟩
/-- len of a str, a bytes, a list, a tuple -/
def LenV (K : PySem.W.Frag) (x : V) (H : Hp) (n : Nat) : Prop :=
  match x with
  | .str y => y.length ≤ sizeLine ∧ n = y.length
  | .byt y => y.size ≤ sizeLine ∧ n = y.size
  | .ref p => (∃ xs, SqL K H p xs ∧ n = xs.length) ∨ ∃ xs, SqT K H p xs ∧ n = xs.length
  | _ => False
theorem call_len : CallR X (.builtin "len") (fun xs H Q => ∃ x n, xs = [x] ∧ LenV X.K x H n ∧ Q (.int n) H) := by
  intro pins s σ H xs us Q I r h
  obtain ⟨x, n, rfl, e, q⟩ := h
  obtain ⟨u, rfl, rx⟩ := vals1 r
  have hl := line63
  have hs : sizeLine = 16777216 := sizeLine_eq
  cases x with
  | str y =>
    obtain ⟨t, rfl⟩ := rx
    obtain ⟨hy, e'⟩ : y.length ≤ sizeLine ∧ n = y.length := e
    subst e'
    exact len_str (by omega) ⟨.int _, H, I.tok _, ⟨_, rfl⟩, q⟩
  | byt y =>
    obtain ⟨t, rfl⟩ := rx
    obtain ⟨hy, e'⟩ : y.size ≤ sizeLine ∧ n = y.size := e
    subst e'
    exact PySem.W.len_bytes (by omega) ⟨.int _, H, I.tok _, ⟨_, rfl⟩, q⟩
  | ref p =>
    cases rx
    have e' : (∃ xs, SqL X.K H p xs ∧ n = xs.length) ∨ ∃ xs, SqT X.K H p xs ∧ n = xs.length := e
    rcases e' with ⟨xs, hx, e'⟩ | ⟨xs, hx, e'⟩
    · subst e'
      obtain ⟨its, r', pl, hz⟩ := I.list hx
      have hlen := r'.length
      exact Calls.call_len_list pl.isList (by simp only [List.size_toArray]; omega) ⟨.int xs.length, H, I.tok _, ⟨_, by simp only [List.size_toArray]; rw [hlen]⟩, q⟩
    · subst e'
      obtain ⟨its, r', pl, hz⟩ := I.tuple hx
      have hlen := r'.length
      exact len_tuple pl (by simp only [List.size_toArray]; omega) ⟨.int xs.length, H, I.tok _, ⟨_, by simp only [List.size_toArray]; rw [hlen]⟩, q⟩
  | _ => exact (show False from e).elim
/-- divmod: a new tuple -/
theorem call_divmod : CallR X (.builtin "divmod") (fun xs H Q => ∃ i j, xs = [.int i, .int j] ∧ CDiv i j ∧ ∀ p, H p = none → Q (.ref p) (upd H p (.tup [.int (i / j), .int (i % j)]))) := by
  intro pins s σ H xs us Q I r h
  obtain ⟨i, j, rfl, ⟨h1, h2⟩, q⟩ := h
  obtain ⟨u, w', rfl, ⟨t, rfl⟩, ⟨t', rfl⟩⟩ := vals2 r
  refine divmod_int (by omega) ?_ (.inl (PyProof.noPylong_small (by omega)))
  rw [Int.fdiv_eq_ediv_of_nonneg i (by omega), Int.fmod_eq_emod_of_nonneg i (by omega)]
  have hn : H s.heap.objs.size = none := I.hok.fresh (Nat.le_refl _)
  refine ⟨.ref s.heap.objs.size, _, ?_, rfl, q _ hn⟩
  refine I.laid (fun b o e => Heap.get?_push_of_some _ e) (Nat.le_refl _) ⟨by simp only [List.length_cons, List.length_nil]; rw [sizeLine_eq]; decide, [.int (i / j) s.toks, .int (i % j) (s.toks + 1)], .cons ⟨_, rfl⟩ (.cons ⟨_, rfl⟩ .nil), ?_⟩
  exact ⟨_, Heap.get?_push_size s.heap rfl, rfl, 0, rfl⟩
end
end L2

namespace L2
open PySem PySem.Spec PyProof.Rows

/-! ### an instance, its attributes a map -/
structure ObjM (h : Heap) (x dx C : Addr) (mA : Str → Option Value) : Prop where
  obj : h.get? x = some (PySem.W.instObj C dx)
  ns : h.Ns1 dx mA
  ne : dx ≠ x

theorem lookIn_ns {h : Heap} {dx : Addr} {mA : Str → Option Value} (n : h.Ns1 dx mA) : ∃ od, h.get? dx = some od ∧ ∀ name, PySem.W.lookIn name od = some (mA name) := by
  obtain ⟨o, es, ep, ho, hd, hk, _, hm⟩ := n
  refine ⟨o, ho, fun name => ?_⟩
  have e := hm name
  unfold nsFind findBy at e
  rw [← Array.find?_toList] at e
  unfold PySem.W.lookIn
  rw [hd]
  dsimp only
  split
  · rename_i y q
    rw [q] at e
    exact congrArg some e
  · rename_i q
    rw [q] at e
    have a : es.toList.any (·.refKey) = false := by
      rw [List.any_eq_false]
      intro y hy
      obtain ⟨z, t, hkey⟩ := hk y (Array.mem_toList_iff.mp hy)
      simp [DictEntry.refKey, hkey]
    have a' : ¬ es.toList.any (·.refKey) = true := by rw [a]; exact Bool.false_ne_true
    rw [if_neg a']
    exact congrArg some e

theorem ObjM.look {h : Heap} {x dx C : Addr} {mA : Str → Option Value} (I : ObjM h x dx C mA) : ∃ od, PySem.W.InstAt h x (PySem.W.instObj C dx) C (some od) ∧ ∀ name, PySem.W.lookIn name od = some (mA name) :=
  let ⟨od, ho, hl⟩ := lookIn_ns I.ns
  ⟨od, ⟨I.obj, rfl, rfl, ho⟩, hl⟩

section
variable {prog : Program} {w : World} {A : Around} {E : Value → Shared → Prop} {s : Shared} {K : PySem.W.Frag} {x dx C f : Addr} {mA : Str → Option Value} {name : Str} {v : Value}

theorem get_map {expr : Bool} {Q : Value → Shared → Prop} (X : K.In s.heap) (I : ObjM s.heap x dx C mA) (hg : PySem.W.plainGet K C name = true) (hh : PySem.W.hasDictIn K C = true)
    (ha : PySem.W.findIn K (.ref C) name = some none) (hv : mA name = some v) (hv' : PySem.W.handedIn v = true) (h : Q v { s with toks := s.toks + 1 }) :
    wpAny (model prog w) A (getAttr (.ref x) name expr) Q E s := by
  obtain ⟨od, J, hl⟩ := I.look
  exact PySem.W.get_value X J (PySem.W.plainGet_of hg).1 (PySem.W.findObj_own hh ha rfl (by rw [hl, hv])) hv' h

theorem get_const {expr : Bool} {a : Value} {Q : Value → Shared → Prop} (X : K.In s.heap) (I : ObjM s.heap x dx C mA) (hg : PySem.W.plainGet K C name = true) (hh : PySem.W.hasDictIn K C = true)
    (ha : PySem.W.findIn K (.ref C) name = some (some a)) (hn : PySem.W.specialIn K a "__get__" = some none) (hc : PySem.W.copiedNames.contains name = false) (hv : mA name = none) (hv' : PySem.W.handedIn a = true)
    (h : Q a { s with toks := s.toks + 1 }) : wpAny (model prog w) A (getAttr (.ref x) name expr) Q E s := by
  obtain ⟨od, J, hl⟩ := I.look
  exact PySem.W.get_value X J (PySem.W.plainGet_of hg).1 (PySem.W.findObj_cls hh ha hn hv' hc (by rw [hl, hv])) hv' h

theorem get_meth {pl : Sem Bool} {Q : Value × List Value → Shared → Prop} (X : K.In s.heap) (I : ObjM s.heap x dx C mA) (hg : PySem.W.plainGet K C name = true)
    (hf : PySem.W.findIn K (.ref C) name = some (some (.ref f))) (ht : PySem.W.isFn K (.ref f) = true) (hv : mA name = none) (h : Q (.ref f, [.ref x]) s) :
    wpAny (model prog w) A (getMethod (.ref x) name pl) Q E s := by
  obtain ⟨od, J, hl⟩ := I.look
  exact PySem.W.method_fn X J (PySem.W.plainGet_of hg).1 (PySem.W.plainGet_of hg).2 hf (beq_iff_eq.mp ht) (by show (PySem.W.lookIn name od).map (·.isSome) = some false; rw [hl, hv]; rfl) h

theorem set_map {ns : List Str} {Q : Unit → Shared → Prop} (X : K.In s.heap) (I : ObjM s.heap x dx C mA)
    (hs : PySem.W.findIn K (.ref C) "__setattr__" = some (some (.builtin "object.__setattr__"))) (hp : PySem.W.plainOver K C = true) (ht : PySem.W.takerIn K C name = some none) (hh : PySem.W.hasDictIn K C = true)
    (hw : PySem.Within mA ns) (hsz : ns.length ≤ sizeLine)
    (h : ∀ h', ObjM h' x dx C (fun y => if y = name then some v else mA y) → Heap.SameBut dx s.heap h' → Q () { s with heap := h', toks := s.toks + 2 }) :
    wpAny (model prog w) A (setAttr (.ref x) name v) Q E s := by
  obtain ⟨od, J, hl⟩ := I.look
  refine PySem.W.set_plain X J hs (PySem.W.osa_open (s := { s with toks := s.toks + 1 }) (r := none) X J hp ht fun b => ?_)
  obtain ⟨cd, hc, hd'⟩ := PySem.W.any_some hh
  have hx : s.heap.get? x = some ⟨.ref C, some dx, .plain, #[]⟩ := I.obj
  refine wpAny_bind (wpAny_pure (wpAny_bind (wpAny_bind (wpAny_loadPart hx (wpAny_bind (PySem.W.Looks.here (s := { s with toks := s.toks + 1 }) (PySem.W.looks_clsIn X hc) ?_))))))
  rw [hd']
  refine wpAny_pure (a := some dx) (wpAny_bind (wpAny_pure (wpAny_bind ?_)))
  refine wpAny_nsSet1 (s := { s with toks := s.toks + 1 }) I.ns fun h' hn2 hs2 => ?_
  obtain ⟨oD, esD, epD, hoD, hdD, hcD⟩ := hn2.count (PySem.Within.cons name v hw)
  refine wpAny_bind (wpAny_lookBehind hoD (by rw [hdD]; exact pastItsLine_dict (Nat.le_trans hcD (by rw [List.length_cons]; omega))) ?_)
  exact wpAny_pure (h _ ⟨(hs2.2 _ (Ne.symm I.ne)).trans I.obj, hn2, I.ne⟩ hs2)

/-- C(..): the dict at the heap's end, the instance behind it; then its __init__ -/
theorem make_map {R : Result → Shared → Prop} {vs : List Value} {kw : List (Str × Value)} (X : K.In s.heap) (hm : PySem.W.makesIn K C = true)
    (hi : PySem.W.findIn K (.ref C) "__init__" = some (some (.ref f))) (hf : PySem.W.typeIn K (.ref f) = some (.type "function"))
    (h : codeAny (model prog w) (A.under (.builtin "type.__call__" ⟨.ref C :: vs, kw⟩)) (.call (.ref f) ⟨.ref (s.heap.objs.size + 1) :: vs, kw⟩) (PySem.W.InitBack (s.heap.objs.size + 1) R)
      { s with heap := (s.heap.push PySem.W.emptyDict).push (PySem.W.instObj C s.heap.objs.size) }) :
    codeAny (model prog w) A (.call (.ref C) ⟨vs, kw⟩) R s := by
  obtain ⟨hh, g, d, t, os⟩ := s
  exact PySem.W.make_core (PySem.W.makes_of X hm) (PySem.W.looks_findIn X hi) (fun self => PySem.W.bind_fn X self hf) (.inl rfl) h
/-- C() where there is no __init__ but object's -/
theorem make_map0 {R : Result → Shared → Prop} (X : K.In s.heap) (hm : PySem.W.makesIn K C = true)
    (hi : PySem.W.findIn K (.ref C) "__init__" = some (some (.builtin "object.__init__")))
    (hb : ∀ self, PySem.W.Looks (model prog w) s.heap (bindSpecial (.builtin "object.__init__") self) (.builtin "object.__init__", [self]))
    (h : codeAny (model prog w) (A.under (.builtin "type.__call__" ⟨[.ref C], []⟩)) (.call (.builtin "object.__init__") ⟨[.ref (s.heap.objs.size + 1)], []⟩) (PySem.W.InitBack (s.heap.objs.size + 1) R)
      { s with heap := (s.heap.push PySem.W.emptyDict).push (PySem.W.instObj C s.heap.objs.size) }) :
    codeAny (model prog w) A (.call (.ref C) ⟨[], []⟩) R s := by
  obtain ⟨hh, g, d, t, os⟩ := s
  exact PySem.W.make_core (PySem.W.makes_of X hm) (PySem.W.looks_findIn X hi) hb (.inr ⟨rfl, rfl⟩) h
end

/-! ### the attributes as a list of pairs -/
def putF (f : Str) (v : V) : List (Str × V) → List (Str × V)
  | [] => [(f, v)]
  | (g, x) :: r => if g = f then (g, v) :: r else (g, x) :: putF f v r
theorem lookup_putF (f g : Str) (v : V) : ∀ fs : List (Str × V), (putF f v fs).lookup g = if g = f then some v else fs.lookup g
  | [] => by
    show List.lookup g [(f, v)] = _
    by_cases h : g = f
    · have hb : (g == f) = true := beq_iff_eq.mpr h
      simp only [List.lookup, hb, if_pos h]
    · have hb : (g == f) = false := beq_eq_false_iff_ne.mpr h
      simp only [List.lookup, hb, if_neg h]
  | (k, x) :: r => by
    have ih := lookup_putF f g v r
    rw [show putF f v ((k, x) :: r) = (if k = f then (k, v) :: r else (k, x) :: putF f v r) from rfl]
    by_cases hk : k = f
    · rw [if_pos hk]
      by_cases h : g = k
      · have hb : (g == k) = true := beq_iff_eq.mpr h
        simp only [List.lookup, hb, if_pos (h.trans hk)]
      · have hb : (g == k) = false := beq_eq_false_iff_ne.mpr h
        simp only [List.lookup, hb, if_neg (fun e : g = f => h (e.trans hk.symm))]
    · rw [if_neg hk]
      by_cases h : g = k
      · have hb : (g == k) = true := beq_iff_eq.mpr h
        simp only [List.lookup, hb, if_neg (fun e : g = f => hk (h.symm.trans e))]
      · have hb : (g == k) = false := beq_eq_false_iff_ne.mpr h
        simp only [List.lookup, hb]
        exact ih
theorem keys_putF (f : Str) (v : V) : ∀ fs : List (Str × V), f ∈ (putF f v fs).map (·.1) ∧ ∀ g, g ∈ fs.map (·.1) → g ∈ (putF f v fs).map (·.1)
  | [] => ⟨by simp [putF], fun g h => by simp at h⟩
  | (k, x) :: r => by
    obtain ⟨i1, i2⟩ := keys_putF f v r
    rw [show putF f v ((k, x) :: r) = (if k = f then (k, v) :: r else (k, x) :: putF f v r) from rfl]
    by_cases hk : k = f
    · rw [if_pos hk]
      subst hk
      exact ⟨by simp, fun g h => by simpa using h⟩
    · rw [if_neg hk]
      refine ⟨?_, fun g h => ?_⟩
      · rw [List.map_cons]
        exact List.mem_cons_of_mem _ i1
      · rw [List.map_cons] at h ⊢
        rcases List.mem_cons.mp h with e | e
        · exact List.mem_cons.mpr (.inl e)
        · exact List.mem_cons_of_mem _ (i2 g e)
theorem length_putF (f : Str) (v : V) : ∀ fs : List (Str × V), (putF f v fs).length ≤ fs.length + 1
  | [] => by simp [putF]
  | (k, x) :: r => by
    have ih := length_putF f v r
    rw [show putF f v ((k, x) :: r) = (if k = f then (k, v) :: r else (k, x) :: putF f v r) from rfl]
    by_cases hk : k = f
    · rw [if_pos hk, List.length_cons, List.length_cons]; omega
    · rw [if_neg hk, List.length_cons, List.length_cons]; omega

theorem RelO.some_of {v : V} {o : Option Value} (r : RelO (some v) o) : ∃ u, o = some u ∧ RelV v u := by
  cases o with
  | none => exact (show False from r).elim
  | some u => exact ⟨u, rfl, r⟩
theorem RelO.none_of {o : Option Value} (r : RelO none o) : o = none := by
  cases o with
  | none => rfl
  | some u => exact (show False from r).elim
theorem handed_of {v : V} {u : Value} (r : RelV v u) : PySem.W.handedIn u = true := by
  cases v with
  | non => cases (show u = Value.none from r); rfl
  | bl b => cases (show u = Value.bool b from r); rfl
  | int i => obtain ⟨t, e⟩ := (show ∃ t, u = Value.int i t from r); cases e; rfl
  | str x => obtain ⟨t, e⟩ := (show ∃ t, u = Value.str x t from r); cases e; rfl
  | byt b => obtain ⟨t, e⟩ := (show ∃ t, u = Value.bytes b t from r); cases e; rfl
  | flt b => obtain ⟨t, e⟩ := (show ∃ t, u = Value.float b t from r); cases e; rfl
  | ref a => cases (show u = Value.ref a from r); rfl
  | ty n => cases (show u = Value.type n from r); rfl

section
variable {P : Program} {w : World} {H H' : Hp} {h h' : Heap} {a C dx : Addr} {fs fs' : List (Str × V)}
theorem ins_get (hok : HOk P w H h) (e : H a = some (.ins C dx fs)) : ∃ mA, ObjM h a dx C mA ∧ (∀ f, RelO (fs.lookup f) (mA f)) ∧ PySem.Within mA (fs.map (·.1)) ∧ fs.length ≤ 1000 ∧ H dx = some (.own a) := by
  obtain ⟨d, z, ne, ob, mA, n, r, q⟩ := (show ObjOk P w H h a (.ins C dx fs) from hok a _ e)
  exact ⟨mA, ⟨ob, n, ne⟩, r, q, z, d⟩
end

/-! ### what of the text a class must have -/
structure Cls (K : PySem.W.Frag) (C : Addr) : Prop where
  pg : PySem.W.plainGet K C Str.empty = true
  hd : PySem.W.hasDictIn K C = true
  po : PySem.W.plainOver K C = true
  sa : PySem.W.findIn K (.ref C) "__setattr__" = some (some (.builtin "object.__setattr__"))
theorem Cls.get {K : PySem.W.Frag} {C : Addr} (c : Cls K C) (f : Str) : PySem.W.plainGet K C f = true := c.pg
/-- no class of it has the name -/
def NoAttr (K : PySem.W.Frag) (C : Addr) (f : Str) : Prop := PySem.W.findIn K (.ref C) f = some none
theorem NoAttr.taker {K : PySem.W.Frag} {C : Addr} {f : Str} (n : NoAttr K C f) : PySem.W.takerIn K C f = some none := by
  unfold PySem.W.takerIn
  rw [show PySem.W.findIn K (.ref C) f = some none from n]
  rfl
/-- a constant of the class -/
structure Con (K : PySem.W.Frag) (C : Addr) (f : Str) (v : V) (u : Value) : Prop where
  at_ : PySem.W.findIn K (.ref C) f = some (some u)
  rel : RelV v u
  get : PySem.W.specialIn K u "__get__" = some none
  cp : PySem.W.copiedNames.contains f = false
/-- a method: a plain def of the class or of one above it -/
structure Meth (K : PySem.W.Frag) (C : Addr) (m : Str) (f : Addr) : Prop where
  at_ : PySem.W.findIn K (.ref C) m = some (some (.ref f))
  fn : PySem.W.isFn K (.ref f) = true
  kp : PySem.W.keepIn K (.ref f) = true

section
variable {X : Cx} {pins : List (Addr × Obj)} {σ : St} {H : Hp} {s : Shared} {a C dx : Addr} {fs : List (Str × V)} {f : Str} {v : V} {A : Around} {E : Value → Shared → Prop}

theorem getattr_ok {b : Bool} {Q : Value → Shared → Prop} (I : Inv X pins σ H s) (e : H a = some (.ins C dx fs)) (c : Cls X.K C) (n : NoAttr X.K C f) (l : fs.lookup f = some v)
    (h : ∀ u s', Inv X pins σ H s' → RelV v u → Q u s') : wpAny (model X.prog X.w) A (getAttr (.ref a) f b) Q E s := by
  obtain ⟨mA, O, r, _, _, _⟩ := ins_get I.hok e
  obtain ⟨u, hu, ru⟩ := RelO.some_of (v := v) (o := mA f) (by rw [← l]; exact r f)
  exact get_map I.kIn O (c.get f) c.hd n hu (handed_of ru) (h u _ (I.tok _) ru)

theorem getcon_ok {b : Bool} {u : Value} {Q : Value → Shared → Prop} (I : Inv X pins σ H s) (e : H a = some (.ins C dx fs)) (c : Cls X.K C) (k : Con X.K C f v u) (l : fs.lookup f = none)
    (h : ∀ s', Inv X pins σ H s' → Q u s') : wpAny (model X.prog X.w) A (getAttr (.ref a) f b) Q E s := by
  obtain ⟨mA, O, r, _, _, _⟩ := ins_get I.hok e
  have hn : mA f = none := RelO.none_of (by rw [← l]; exact r f)
  exact get_const I.kIn O (c.get f) c.hd k.at_ k.get k.cp hn (handed_of k.rel) (h _ (I.tok _))

theorem getmeth_ok {m : Str} {g : Addr} {pl : Sem Bool} {Q : Value × List Value → Shared → Prop} (I : Inv X pins σ H s) (e : H a = some (.ins C dx fs)) (c : Cls X.K C) (k : Meth X.K C m g) (l : fs.lookup m = none)
    (h : Q (.ref g, [.ref a]) s) : wpAny (model X.prog X.w) A (getMethod (.ref a) m pl) Q E s := by
  obtain ⟨mA, O, r, _, _, _⟩ := ins_get I.hok e
  have hn : mA m = none := RelO.none_of (by rw [← l]; exact r m)
  exact get_meth I.kIn O (c.get m) k.at_ k.fn hn h

theorem setattr_ok {y : V} {u : Value} {Q : Unit → Shared → Prop} (I : Inv X pins σ H s) (e : H a = some (.ins C dx fs)) (c : Cls X.K C) (n : NoAttr X.K C f) (hl : fs.length < 1000) (ry : RelV y u)
    (h : ∀ s', Inv X pins σ (upd H a (.ins C dx (putF f y fs))) s' → Q () s') : wpAny (model X.prog X.w) A (setAttr (.ref a) f u) Q E s := by
  obtain ⟨mA, O, r, wi, _, ho⟩ := ins_get I.hok e
  have hz : (fs.map (·.1)).length ≤ sizeLine := by rw [List.length_map, sizeLine_eq]; omega
  refine set_map I.kIn O c.sa c.po n.taker c.hd wi hz fun h' O' sb => h _ ?_
  have hd : ∃ o, h'.get? dx = some o := let ⟨o, _, _, e', _⟩ := O'.ns; ⟨o, e'⟩
  refine I.write (x := a) (e := dx) (by rw [e]; exact True.intro) (.inr ho) (fun b q hb z => (sb.2 b hb).trans z) hd ?_
  refine ⟨by rw [upd_ne O.ne]; exact ho, ?_, O.ne, O'.obj, _, O'.ns, fun g => ?_, fun g hg => ?_⟩
  · have := length_putF f y fs; omega
  · show RelO ((putF f y fs).lookup g) (if g = f then some u else mA g)
    rw [lookup_putF]
    by_cases q : g = f
    · rw [if_pos q, if_pos q]; exact ry
    · rw [if_neg q, if_neg q]; exact r g
  · by_cases q : g = f
    · rw [q]; exact (keys_putF f y fs).1
    · refine (keys_putF f y fs).2 g (wi g fun z => hg ?_)
      show (if g = f then some u else mA g) = none
      rw [if_neg q]; exact z

/-- a new instance, tracked, without attributes -/
theorem Inv.made (I : Inv X pins σ H s) : Inv X pins σ (upd (upd H s.heap.objs.size (.own (s.heap.objs.size + 1))) (s.heap.objs.size + 1) (.ins C s.heap.objs.size []))
    { s with heap := (s.heap.push PySem.W.emptyDict).push (PySem.W.instObj C s.heap.objs.size) } := by
  have e1 : (s.heap.push PySem.W.emptyDict).get? s.heap.objs.size = some PySem.W.emptyDict := Heap.get?_push_size s.heap rfl
  have e2 : ((s.heap.push PySem.W.emptyDict).push (PySem.W.instObj C s.heap.objs.size)).get? (s.heap.objs.size + 1) = some (PySem.W.instObj C s.heap.objs.size) := by
    have := Heap.get?_push_size (s.heap.push PySem.W.emptyDict) (o := PySem.W.instObj C s.heap.objs.size) rfl
    rwa [Heap.size_push] at this
  have e3 : (s.heap.push PySem.W.emptyDict).Ns s.heap.objs.size (fun _ => none) := ⟨PySem.W.emptyDict, #[], _, e1, rfl, (fun e he => absurd he (by simp)), fun _ => rfl⟩
  have I1 := I.laid (a := s.heap.objs.size) (o := .own (s.heap.objs.size + 1)) (h' := s.heap.push PySem.W.emptyDict) (t' := s.toks) (fun b u q => Heap.get?_push_of_some _ q) (Nat.le_refl _) ⟨_, e1⟩
  refine I1.laid (a := s.heap.objs.size + 1) (o := .ins C s.heap.objs.size []) (t' := s.toks) (fun b u q => Heap.get?_push_of_some _ q) (Nat.le_of_eq (Heap.size_push _ _)) ?_
  have ne : s.heap.objs.size ≠ s.heap.objs.size + 1 := Nat.ne_of_lt (Nat.lt_succ_self _)
  refine ⟨by rw [upd_ne ne, upd_same], Nat.zero_le _, ne, e2, fun _ => none, (Heap.Ns1.of_empty e3).at fun o q => Heap.get?_push_of_some _ q, fun _ => True.intro, fun y hy => absurd rfl hy⟩

/-- e.f where nothing but the object is asked: through attributeBase (super) and the last hold -/
theorem attr_of {prog : Program} {w : World} {env : Env} {e : Expr} {f : Str} {pos : Pos} {s : Shared} {Q : Value → Shared → Prop} (hb : attributeBase e f env (eval e env) = eval e env)
    (h : wpAny (model prog w) A (eval e env) (fun o s₁ => wpAny (model prog w) A (getAttr o f true) Q E s₁) E s) : wpAny (model prog w) A (eval (.Attribute e f pos) env) Q E s :=
  Attribute_any_ h (by rw [arm_eval_Attribute, hb])
end

/-! ### readings and rules -/
/-- e.f, an attribute of the instance -/
def tFld (K : PySem.W.Frag) (ta : TE) (f : Str) : TE := fun σ H Q => ta σ H fun x H1 => ∃ a C dx fs v, x = .ref a ∧ H1 a = some (.ins C dx fs) ∧ Cls K C ∧ NoAttr K C f ∧ fs.lookup f = some v ∧ Q v H1
/-- e.f, a constant of the class -/
def tCon (K : PySem.W.Frag) (ta : TE) (f : Str) : TE := fun σ H Q => ta σ H fun x H1 => ∃ a C dx fs v u, x = .ref a ∧ H1 a = some (.ins C dx fs) ∧ Cls K C ∧ Con K C f v u ∧ fs.lookup f = none ∧ Q v H1
/-- e.f = value -/
def sFld (K : PySem.W.Frag) (ta tv : TE) (f : Str) : TS := fun D σ H => tv σ H fun y H1 => ta σ H1 fun x H2 => ∃ a C dx fs, x = .ref a ∧ H2 a = some (.ins C dx fs) ∧ Cls K C ∧ NoAttr K C f ∧ fs.length < 1000 ∧
  D.nx σ (upd H2 a (.ins C dx (putF f y fs)))
/-- an augmented operator on two values -/
def InOp (X : Cx) (op : Operator) (rd : V → V → Hp → VK → Prop) : Prop :=
  ∀ (pins : List (Addr × Obj)) (s : Shared) (σ : St) (H : Hp) (x y : V) (u v : Value) (Q : VK), Inv X pins σ H s → RelV x u → RelV y v → rd x y H Q → wpAny (model X.prog X.w) X.A (inplaceOp op u v) (EP X pins σ Q) X.xe s
/-- e.f op= value -/
def sFldAug (K : PySem.W.Frag) (ta tv : TE) (rd : V → V → Hp → VK → Prop) (f : Str) : TS := fun D σ H => ta σ H fun x H1 => ∃ a C dx fs v, x = .ref a ∧ H1 a = some (.ins C dx fs) ∧ Cls K C ∧ NoAttr K C f ∧ fs.lookup f = some v ∧
  tv σ H1 fun y H2 => rd v y H2 fun z H3 => ∃ dx' fs', H3 a = some (.ins C dx' fs') ∧ fs'.length < 1000 ∧ D.nx σ (upd H3 a (.ins C dx' (putF f z fs')))

section
variable {X : Cx} {o e value : Expr} {f : Str} {pos pos' tpos : Pos} {ta tv : TE}
theorem pe_fld (he : PE X e ta) (hb : attributeBase e f X.env (eval e X.env) = eval e X.env) : PE X (.Attribute e f pos) (tFld X.K ta f) := by
  intro pins s σ H Q I h
  refine attr_of hb (thn (he pins s σ H _ I h) fun u s1 ⟨x, H1, I1, rx, a, C, dx, fs, v, ex, ea, c, n, l, q⟩ => ?_)
  subst ex
  obtain rfl : u = Value.ref a := rx
  exact getattr_ok I1 ea c n l fun u' s2 I2 ru => ⟨v, H1, I2, ru, q⟩
theorem pe_con (he : PE X e ta) (hb : attributeBase e f X.env (eval e X.env) = eval e X.env) : PE X (.Attribute e f pos) (tCon X.K ta f) := by
  intro pins s σ H Q I h
  refine attr_of hb (thn (he pins s σ H _ I h) fun u s1 ⟨x, H1, I1, rx, a, C, dx, fs, v, u0, ex, ea, c, k, l, q⟩ => ?_)
  subst ex
  obtain rfl : u = Value.ref a := rx
  exact getcon_ok I1 ea c k l fun s2 I2 => ⟨v, H1, I2, k.rel, q⟩
theorem ps_fld (ha : PE X o ta) (hv : PE X value tv) (hs : swapsWith value (some (.Attribute o f pos')) pos.line X.env = pure false) : PS X (.Assign [.Attribute o f pos'] value pos) (sFld X.K ta tv f) := by
  intro pins s σ H D I h
  refine plainObj_wpAny_Assign_Attribute (thn (hv pins s σ H _ I h) fun u s1 ⟨y, H1, I1, ry, q⟩ => thn (ha pins s1 σ H1 _ I1 q) fun ov s2 ⟨x, H2, I2, rx, a, C, dx, fs, ex, ea, c, n, l, q2⟩ => ?_) hs
  subst ex
  obtain rfl : ov = Value.ref a := rx
  exact setattr_ok I2 ea c n l ry fun s3 I3 => ⟨σ, _, I3, q2⟩
theorem ps_fldaug {op : Operator} {rd : V → V → Hp → VK → Prop} (ha : PE X o ta) (hv : PE X value tv) (hop : InOp X op rd) : PS X (.AugAssign (.Attribute o f tpos) op value pos) (sFldAug X.K ta tv rd f) := by
  intro pins s σ H D I h
  refine wpAny_AugAssign_AttributeAny (thn (ha pins s σ H _ I h) fun ov s1 ⟨x, H1, I1, rx, a, C, dx, fs, v, ex, ea, c, n, l, q⟩ => ?_)
  subst ex
  obtain rfl : ov = Value.ref a := rx
  refine getattr_ok I1 ea c n l fun u s2 I2 ru => thn (hv pins s2 σ H1 _ I2 q) fun w3 s3 ⟨y, H2, I3, ry, q3⟩ => thn (hop pins s3 σ H2 v y u w3 _ I3 ru ry q3) fun w4 s4 ⟨z, H3, I4, rz, dx', fs', ea', l', q4⟩ => ?_
  exact setattr_ok I4 ea' c n l' rz fun s5 I5 => ⟨σ, _, I5, q4⟩
def rAdd : V → V → Hp → VK → Prop := fun x y H Q => ∃ i j, x = .int i ∧ y = .int j ∧ Q (.int (i + j)) H
def rSub : V → V → Hp → VK → Prop := fun x y H Q => ∃ i j, x = .int i ∧ y = .int j ∧ Q (.int (i - j)) H
theorem in_add : InOp X .Add rAdd := by
  rintro pins s σ H x y u v Q I rx ry ⟨i, j, rfl, rfl, q⟩
  obtain ⟨t, rfl⟩ := (show ∃ t, u = Value.int i t from rx)
  obtain ⟨t', rfl⟩ := (show ∃ t', v = Value.int j t' from ry)
  exact PyProof.Rows.iadd_int ⟨.int (i + j), H, I.tok _, ⟨_, rfl⟩, q⟩
theorem in_sub : InOp X .Sub rSub := by
  rintro pins s σ H x y u v Q I rx ry ⟨i, j, rfl, rfl, q⟩
  obtain ⟨t, rfl⟩ := (show ∃ t, u = Value.int i t from rx)
  obtain ⟨t', rfl⟩ := (show ∃ t', v = Value.int j t' from ry)
  exact PyProof.Rows.isub_int ⟨.int (i - j), H, I.tok _, ⟨_, rfl⟩, q⟩

/-- what is between an instance and its method: the tree of a method call -/
theorem methcall_of {pl : Sem Bool} {m : Str} {apos : Pos} {args : List Expr} {pins : List (Addr × Obj)} {s : Shared} {σ : St} {H : Hp} {Q : Value → Shared → Prop} {te : TE} (he : PE X e te) (I : Inv X pins σ H s)
    (h : te σ H fun x H1 => ∃ a C dx fs g, x = .ref a ∧ H1 a = some (.ins C dx fs) ∧ Cls X.K C ∧ Meth X.K C m g ∧ fs.lookup m = none ∧
      ∀ s1, Inv X pins σ H1 s1 → wpAny (model X.prog X.w) X.A (callWith pos (.ref g) [.ref a] (backTo pos (starEach args X.env)) (backToKw pos (keywordEach [] X.env))) Q X.xe s1)
    (ht : eval (.Call (.Attribute e m apos) args [] pos) X.env = (do
      let ov ← eval e X.env
      standAt apos.atName
      let (f, first) ← holding [ov] (getMethod ov m pl)
      callWith pos f first (backTo pos (starEach args X.env)) (backToKw pos (keywordEach [] X.env)))) :
    wpAny (model X.prog X.w) X.A (eval (.Call (.Attribute e m apos) args [] pos) X.env) Q X.xe s := by
  refine PySem.W.methodCall_KW (pl := pl) (thn (he pins s σ H _ I h) fun u s1 ⟨x, H1, I1, rx, a, C, dx, fs, g, ex, ea, c, k, l, q⟩ => ?_) ht
  subst ex
  obtain rfl : u = Value.ref a := rx
  exact getmeth_ok I1 ea c k l (q s1 I1)
end

/-! ### isinstance -/
section
variable {X : Cx} {pins : List (Addr × Obj)} {σ : St} {H : Hp} {s : Shared} {A : Around} {E : Value → Shared → Prop} {Q : Value → Shared → Prop} {c : Value} {b : Bool}
/-- the type of a value, as the fragment's deciders take it; for an instance its class -/
inductive TyOf (K : PySem.W.Frag) (H : Hp) : V → Value → Prop where
  | non : TyOf K H .non (.type "NoneType")
  | bl (x : Bool) : TyOf K H (.bl x) (.type "bool")
  | int (i : Int) : TyOf K H (.int i) (.type "int")
  | str (x : Str) : TyOf K H (.str x) (.type "str")
  | flt (x : UInt64) : TyOf K H (.flt x) (.type "float")
  | lst {a : Addr} {xs : List V} (e : H a = some (.lst xs)) : TyOf K H (.ref a) (.type "list")
  | frz {a : Addr} {o : Obj} {xs : List V} (e : H a = some (.frz o (.lst xs))) : TyOf K H (.ref a) (.type "list")
  | tup {a : Addr} {xs : List V} (e : H a = some (.tup xs)) : TyOf K H (.ref a) (.type "tuple")
  | dK {a : Addr} {kvs : List (Key × V)} (e : H a = some (.dK kvs)) : TyOf K H (.ref a) (.type "dict")
  | dT {a : Addr} {kvs : List (List Key × V)} (e : H a = some (.dT kvs)) : TyOf K H (.ref a) (.type "dict")
  | ins {a C dx : Addr} {fs : List (Str × V)} (e : H a = some (.ins C dx fs)) (cl : Cls K C) (ha : PySem.W.findIn K (.ref C) "__class__" = some (some (.builtin "object.__class__")))
      (hn : PySem.W.specialIn K (.builtin "object.__class__") "__get__" = some (some (.builtin "getset_descriptor.__get__"))) (htk : PySem.W.takesIn K (.builtin "object.__class__") = some true)
      (hm : PySem.W.mroIn K C (.type "object") = some true) : TyOf K H (.ref a) (.ref C)
/-- isinstance(x, c) for one class c, a built-in or an own one: kitOne's answer -/
theorem isinst_ok {x : V} {u t : Value} (I : Inv X pins σ H s) (rx : RelV x u) (ty : TyOf X.K H x t) (e : PySem.W.kitOne X.K t c = some b) (h : ∀ tk, Q (.bool b) { s with toks := tk }) :
    wpAny (model X.prog X.w) A (call (.builtin "isinstance") [u, c]) Q E s := by
  cases ty with
  | non => cases (show u = Value.none from rx); exact PySem.W.kia_one PySem.W.kitx_none I.kIn True.intro e (fun z => nomatch z) h
  | bl y => cases (show u = Value.bool y from rx); exact PySem.W.kia_one PySem.W.kitx_bool I.kIn True.intro e (fun z => nomatch z) h
  | int i => obtain ⟨t, q⟩ := (show ∃ t, u = Value.int i t from rx); cases q; exact PySem.W.kia_one PySem.W.kitx_int I.kIn True.intro e (fun z => nomatch z) h
  | str y => obtain ⟨t, q⟩ := (show ∃ t, u = Value.str y t from rx); cases q; exact PySem.W.kia_one PySem.W.kitx_str I.kIn True.intro e (fun z => nomatch z) h
  | flt y => obtain ⟨t, q⟩ := (show ∃ t, u = Value.float y t from rx); cases q; exact PySem.W.kia_one PySem.W.kitx_float I.kIn True.intro e (fun z => nomatch z) h
  | @lst a xs ea =>
    cases (show u = Value.ref a from rx)
    obtain ⟨_, _, n, _, h1⟩ := (show ObjOk X.prog X.w H s.heap a (.lst xs) from I.hok a _ ea)
    exact PySem.W.kia_one PySem.W.kitx_list I.kIn ⟨_, h1, rfl⟩ e (fun z => nomatch z) h
  | @frz a ob xs ea =>
    cases (show u = Value.ref a from rx)
    obtain ⟨_, _, _, n, _, h1⟩ := (show ObjOk X.prog X.w H s.heap a (.frz ob (.lst xs)) from I.hok a _ ea)
    exact PySem.W.kia_one PySem.W.kitx_list I.kIn ⟨_, h1, rfl⟩ e (fun z => nomatch z) h
  | @tup a xs ea =>
    cases (show u = Value.ref a from rx)
    obtain ⟨_, _, _, p⟩ := (show ObjOk X.prog X.w H s.heap a (.tup xs) from I.hok a _ ea)
    obtain ⟨o, h1, h2, _⟩ := p
    exact PySem.W.kia_one PySem.W.kitx_tuple I.kIn ⟨o, h1, h2⟩ e (fun z => nomatch z) h
  | @dK a kvs ea =>
    cases (show u = Value.ref a from rx)
    obtain ⟨_, _, vs, _, p⟩ := (show ObjOk X.prog X.w H s.heap a (.dK kvs) from I.hok a _ ea)
    obtain ⟨o, es, ep, h1, h2, _⟩ := p
    exact PySem.W.kia_one PySem.W.kitx_dict I.kIn ⟨o, h1, h2.1⟩ e (fun z => nomatch z) h
  | @dT a kvs ea =>
    cases (show u = Value.ref a from rx)
    obtain ⟨_, _, xs, _, o, es, ep, h1, h2, _⟩ := (show ObjOk X.prog X.w H s.heap a (.dT kvs) from I.hok a _ ea)
    exact PySem.W.kia_one PySem.W.kitx_dict I.kIn ⟨o, h1, h2.1⟩ e (fun z => nomatch z) h
  | @ins a C dx fs ea cl ha hn htk hm =>
    cases (show u = Value.ref a from rx)
    obtain ⟨mA, O, _⟩ := ins_get I.hok ea
    obtain ⟨od, J, _⟩ := O.look
    exact PySem.W.kia_one (PySem.W.kitx_own (cl.get _) cl.hd ha hn htk hm) I.kIn J e (fun z => nomatch z) h
end
end L2

namespace L2
open PySem PySem.Spec PyProof.Rows

/-! ### room -/
structure Room (k : Nat) (A : Around) : Prop where
  hd : A.handled = none
  dp : A.depth + 3 * k + 5 < recursionLimit
  un : A.units + 16 * k + 200 < cLine
theorem Room.mono {j k : Nat} {A : Around} (r : Room k A) (h : j ≤ k) : Room j A := ⟨r.hd, by have := r.dp; omega, by have := r.un; omega⟩
theorem Room.deeper {k : Nat} {A : Around} (r : Room (k + 1) A) (env : Env) : Room k (A.deeper env) :=
  ⟨r.hd, by have := r.dp; show A.depth + 1 + 3 * k + 5 < _; omega, by have := r.un; show A.units + 3 + 16 * k + 200 < _; omega⟩
theorem Room.in1 {k : Nat} {A : Around} (r : Room (k + 1) A) : Room k A.in1 :=
  ⟨r.hd, by have := r.dp; show A.depth + 3 * k + 5 < _; omega, by have := r.un; show A.units + 1 + 16 * k + 200 < _; omega⟩
theorem make_depth {A : Around} {C : Addr} {us : List Value} {kw : List (Str × Value)} : (A.under (.builtin "type.__call__" ⟨.ref C :: us, kw⟩)).depth = A.depth + 1 := by
  first | rfl | simp [Around.under, Code.weight, Code.isCreation, Code.isGuard, Code.isCaller, Code.frames, Code.isFrame, guardIds]
theorem make_units {A : Around} {C : Addr} {us : List Value} {kw : List (Str × Value)} : (A.under (.builtin "type.__call__" ⟨.ref C :: us, kw⟩)).units = A.units + 1 := by
  first | rfl | simp [Around.under, Code.cUnits, Code.frames, Code.isFrame]
theorem Room.make {k : Nat} {A : Around} (r : Room (k + 1) A) (C : Addr) (us : List Value) (kw : List (Str × Value)) : Room k (A.under (.builtin "type.__call__" ⟨.ref C :: us, kw⟩)) :=
  ⟨r.hd, by have := r.dp; rw [make_depth]; omega, by have := r.un; rw [make_units]; omega⟩
theorem Room.depth {k : Nat} {A : Around} (r : Room k A) : A.depth < recursionLimit := by have := r.dp; omega
theorem Room.units {k : Nat} {A : Around} (r : Room k A) : A.units + 64 < cLine := by have := r.un; omega
theorem Room.units0 {k : Nat} {A : Around} (r : Room k A) : A.units < cLine := by have := r.un; omega

/-! ### argument lists and displays -/
def tNil : TA := fun _ H Q => Q [] H
def tCons (ta : TE) (tr : TA) : TA := fun σ H Q => ta σ H fun x H1 => tr σ H1 fun xs H2 => Q (x :: xs) H2
section
variable {X : Cx} {e : Expr} {es : List Expr} {te : TE} {t : TA} {pos : Pos}
theorem pa_nil : PA X [] tNil := fun _ _ _ _ H Q I h => Calls.spliced_nil ⟨[], H, I, .nil, h⟩
theorem pa_cons (ha : PE X e te) (hr : PA X es t) (hs : starEach (e :: es) X.env = (false, eval e X.env) :: starEach es X.env := by rfl) : PA X (e :: es) (tCons te t) := by
  intro pos pins s σ H Q I h
  rw [hs]
  show wpAny _ _ (spliced ((false, eval e X.env) :: backTo pos (starEach es X.env))) _ _ s
  refine Calls.spliced_cons (thn (ha pins s σ H _ I h) fun u s1 ⟨x, H1, I1, r1, q1⟩ => ?_)
  exact thn (hr pos pins s1 σ H1 _ I1 q1) fun us s2 ⟨xs, H2, I2, r2, q2⟩ => ⟨x :: xs, H2, I2, .cons r1 r2, q2⟩

/-- a tuple, a list of written items -/
def tTup (t : TA) : TE := fun σ H Q => t σ H fun xs H1 => xs.length ≤ sizeLine ∧ ∀ p, H1 p = none → Q (.ref p) (upd H1 p (.tup xs))
def tLst (t : TA) : TE := fun σ H Q => t σ H fun xs H1 => xs.length ≤ sizeLine ∧ ∀ p, H1 p = none → Q (.ref p) (upd H1 p (.lst xs))
theorem pe_tup {x1} (h : PA X es t) : PE X (.Tuple es x1 pos) (tTup t) := by
  intro pins s σ H Q I hq
  refine wpAny_Tuple_spliced (thn (h pos pins s σ H _ I hq) fun us s1 ⟨xs, H1, I1, r, z, q⟩ => ⟨by rw [← r.length]; exact z, ?_⟩)
  have hf : H1 s1.heap.objs.size = none := I1.hok.fresh (Nat.le_refl _)
  refine ⟨.ref s1.heap.objs.size, upd H1 s1.heap.objs.size (.tup xs), I1.laid (t' := s1.toks) (fun b u e => Heap.get?_push_of_some _ e) (Nat.le_refl _) ?_, rfl, q _ hf⟩
  exact ⟨z, us, r, ⟨_, Heap.get?_push_size _ rfl, rfl, _, rfl⟩⟩
theorem pe_lst (h : PA X es t) : PE X (.List es pos) (tLst t) := by
  intro pins s σ H Q I hq
  refine wpAny_List_spliced (thn (h pos pins s σ H _ I hq) fun us s1 ⟨xs, H1, I1, r, z, q⟩ => ⟨by rw [← r.length]; exact z, ?_⟩)
  have hf : H1 s1.heap.objs.size = none := I1.hok.fresh (Nat.le_refl _)
  refine ⟨.ref s1.heap.objs.size, upd H1 s1.heap.objs.size (.lst xs), I1.laid (t' := s1.toks) (fun b u e => Heap.get?_push_of_some _ e) (Nat.le_refl _) ?_, rfl, q _ hf⟩
  exact ⟨z, us, 0, r, Heap.get?_push_size _ rfl⟩
end

/-! ### what a def promises -/
/-- a def's promise: the bound arguments in the parameters' order, the heap, the wanted end, the wanted exception -/
abbrev Sp := List V → Hp → VK → XK → Prop
/-- how an exception lies behind a call (file 08 gives it): the callers' frames, abstract heap and state ahead of the call, the wish, the exception, the state -/
abbrev CXT := List Env → Hp → Shared → XK → Value → Shared → Prop

/-- the state at a call -/
structure Env0 (P : Program) (w : World) (K : PySem.W.Frag) (mg : Str → Option Value) (base : Heap) (A : Around) (outer : List Env) (s : Shared) (H : Hp) : Prop where
  frames : A.frames = some outer
  mod : Mod K mg base
  bs : ∀ b o, base.get? b = some o → s.heap.get? b = some o ∧ H b = none
  bsz : base.objs.size ≤ s.heap.objs.size
  funs : s.heap.FunFrames base outer
  frf : ∀ b ∈ frs outer, H b = none
  hok : HOk P w H s.heap
  bare : AllBare s.gens
/-- a call's end -/
def CE (outer : List Env) (P : Program) (w : World) (H : Hp) (s : Shared) (Q : VK) (u : Value) (s' : Shared) : Prop :=
  ∃ v H', s'.os = s.os ∧ AllBare s'.gens ∧ Un (frs outer) [] H H' s.heap s'.heap ∧ HOk P w H' s'.heap ∧ RelV v u ∧ Q v H'
def CR (CX : CXT) (outer : List Env) (P : Program) (w : World) (H : Hp) (s : Shared) (Q : VK) (E : XK) (r : Result) (s' : Shared) : Prop :=
  match r with
  | .ok (.ret u) => CE outer P w H s Q u s'
  | .ok _ => False
  | .error e => CX outer H s E e s'
structure FnOk (P : Program) (w : World) (K : PySem.W.Frag) (mg : Str → Option Value) (base : Heap) (CX : CXT) (k : Nat) (f : Addr) (fd : FuncData) (ps : List Str) (sp : Sp) : Prop where
  len : ∀ vs H Q E, sp vs H Q E → vs.length = ps.length
  run : ∀ (A : Around) (outer : List Env) (s : Shared) (H : Hp) (args : Args) (us : List Value) (vs : List V) (Q : VK) (E : XK), Room k A → Env0 P w K mg base A outer s H → BindsTo s fd args (ps.zip us) → Vals vs us → sp vs H Q E →
    codeAny (model P w) A (.call (.ref f) args) (CR CX outer P w H s Q E) s
theorem FnOk.mono {P : Program} {w : World} {K : PySem.W.Frag} {mg : Str → Option Value} {base : Heap} {CX : CXT} {j k : Nat} {f : Addr} {fd : FuncData} {ps : List Str} {sp : Sp} (F : FnOk P w K mg base CX j f fd ps sp) (h : j ≤ k) :
    FnOk P w K mg base CX k f fd ps sp := ⟨F.len, fun A outer s H args us vs Q E hr => F.run A outer s H args us vs Q E (hr.mono h)⟩
/-- a weaker promise -/
theorem FnOk.imp {P : Program} {w : World} {K : PySem.W.Frag} {mg : Str → Option Value} {base : Heap} {CX : CXT} {k : Nat} {f : Addr} {fd : FuncData} {ps : List Str} {sp sp' : Sp} (F : FnOk P w K mg base CX k f fd ps sp)
    (h : ∀ vs H Q E, sp' vs H Q E → sp vs H Q E) : FnOk P w K mg base CX k f fd ps sp' :=
  ⟨fun vs H Q E q => F.len vs H Q E (h _ _ _ _ q), fun A outer s H args us vs Q E hr he hb hv hs => F.run A outer s H args us vs Q E hr he hb hv (h _ _ _ _ hs)⟩

theorem Env0.make {P : Program} {w : World} {K : PySem.W.Frag} {mg : Str → Option Value} {base : Heap} {A : Around} {outer : List Env} {s : Shared} {H : Hp} (e : Env0 P w K mg base A outer s H) (C : Addr) (us : List Value) (kw : List (Str × Value)) :
    Env0 P w K mg base (A.under (.builtin "type.__call__" ⟨.ref C :: us, kw⟩)) outer s H := ⟨by first | exact e.frames | (simpa [Around.under, Code.envs, Code.isFrame, pushEnvs] using e.frames), e.mod, e.bs, e.bsz, e.funs, e.frf, e.hok, e.bare⟩
theorem Env0.in1 {P : Program} {w : World} {K : PySem.W.Frag} {mg : Str → Option Value} {base : Heap} {A : Around} {outer : List Env} {s : Shared} {H : Hp} (e : Env0 P w K mg base A outer s H) :
    Env0 P w K mg base A.in1 outer s H := ⟨e.frames, e.mod, e.bs, e.bsz, e.funs, e.frf, e.hok, e.bare⟩

section
variable {X : Cx} {pins : List (Addr × Obj)} {σ : St} {H : Hp} {s s' : Shared}
/-- from a body: what a callee wants -/
theorem Inv.env0 (I : Inv X pins σ H s) : Env0 X.prog X.w X.K X.mg X.base X.A X.stack s H :=
  ⟨I.ok.frames, I.ok.mod, I.bs, Nat.le_trans I.ok.bsz I.sz, I.stack, I.stkFree, I.hok, I.bare⟩
/-- behind a call -/
theorem Inv.after {Q : VK} {u : Value} (I : Inv X pins σ H s) (h : CE X.stack X.prog X.w H s Q u s') : EP X pins σ Q u s' := by
  obtain ⟨v, H', os, bare, un, hok, r, q⟩ := h
  obtain ⟨hh, g, d, t, os'⟩ := s'
  obtain rfl : os' = s.os := os
  exact ⟨v, H', I.call (h' := hh) (g' := g) (d' := d) (t' := t) (ch := []) un hok bare (fun b z => absurd z (by simp)), r, q⟩
end

/-! ### calls -/
/-- f(..): the written arguments, then the defaults dvs; E: what is wanted of an exception -/
def tCall (sp : Sp) (dvs : List V) (E : XK) (t : TA) : TE := fun σ H Q => t σ H fun vs H1 => sp (vs ++ dvs) H1 Q E
/-- o.m(..) of an instance of the class at C -/
def tMeth (C : Addr) (m : Str) (sp : Sp) (dvs : List V) (E : XK) (ta : TE) (t : TA) : TE := fun σ H Q => ta σ H fun x H1 => ∃ a dx fs, x = .ref a ∧ H1 a = some (.ins C dx fs) ∧ fs.lookup m = none ∧
  t σ H1 fun vs H2 => sp (x :: (vs ++ dvs)) H2 Q E
/-- C(..): a new instance and its dict, then __init__ -/
def tMake (C : Addr) (sp : Sp) (dvs : List V) (E : XK) (t : TA) : TE := fun σ H Q => t σ H fun vs H1 => ∀ x dx, H1 x = none → H1 dx = none → dx ≠ x →
  sp (.ref x :: (vs ++ dvs)) (upd (upd H1 dx (.own x)) x (.ins C dx [])) (fun v H2 => v = .non ∧ Q (.ref x) H2) E

/-- how the parameters are bound: us the positional arguments, kw the keywords' values by name, ds the defaults that fill up -/
def Binds (K : PySem.W.Frag) (fd : FuncData) (ps : List Str) (ds : List Value) : Prop :=
  ∀ (s : Shared) (us : List Value), K.In s.heap → (us ++ ds).length = ps.length → BindsTo s fd ⟨us, []⟩ (ps.zip (us ++ ds))
/-- every parameter is given -/
theorem Binds.all {K : PySem.W.Frag} {fd : FuncData} {ps : List Str} (h : ∀ us : List Value, us.length = ps.length → bindArgs fd ⟨us, []⟩ = pure (ps.zip us)) : Binds K fd ps [] := fun s us _ hl => by
  rw [List.append_nil] at hl ⊢
  exact .of_eq (h us hl)

/-- an exception of a callee reaches what this body wants of exceptions -/
def Passes (CX : CXT) (X : Cx) (E : XK) : Prop := ∀ (pins : List (Addr × Obj)) (σ : St) (H : Hp) (s : Shared) (e : Value) (s' : Shared), Inv X pins σ H s → CX X.stack H s E e s' → X.xe e s'

section
variable {X : Cx} {CX : CXT} {k : Nat} {f C : Addr} {fd : FuncData} {ps : List Str} {sp : Sp} {dvs : List V} {ds : List Value} {E : XK} {x m : Str} {p pos apos : Pos} {e o : Expr} {es : List Expr} {ta : TE} {t : TA}

/-- the callee runs -/
theorem run_fn {pins : List (Addr × Obj)} {σ : St} {H : Hp} {s : Shared} {Q : VK} {us : List Value} {vs : List V} (F : FnOk X.prog X.w X.K X.mg X.base CX k f fd ps sp) (hr : Room k X.A) (hb : Binds X.K fd ps ds) (hd : Vals dvs ds) (hx : Passes CX X E)
    (I : Inv X pins σ H s) (r : Vals vs us) (h : sp (vs ++ dvs) H Q E) : wpAny (model X.prog X.w) X.A (call (.ref f) us) (EP X pins σ Q) X.xe s := by
  have r2 : Vals (vs ++ dvs) (us ++ ds) := r.append hd
  have hl : (us ++ ds).length = ps.length := by rw [← r2.length]; exact F.len _ _ _ _ h
  refine wpAny_call (codeAny_mono (F.run X.A X.stack s H ⟨us, []⟩ (us ++ ds) (vs ++ dvs) Q E hr I.env0 (hb s us I.kIn hl) r2 h) fun r s' hq => ?_)
  cases r with
  | error e => exact hx pins σ H s e s' I hq
  | ok fl =>
    cases fl with
    | ret u => exact I.after hq
    | next => exact False.elim hq
    | brk => exact False.elim hq
    | cont => exact False.elim hq

theorem pe_call (F : FnOk X.prog X.w X.K X.mg X.base CX k f fd ps sp) (hr : Room k X.A) (hg : Gl X x) (hm : X.mg x = some (.ref f)) (hk : PySem.W.keepIn X.K (.ref f) = true) (hb : Binds X.K fd ps ds) (hd : Vals dvs ds) (hx : Passes CX X E)
    (ha : PA X (e :: es) t) (hdb : (x == ("__debug__" : Str)) = false := by decide) (he : starEach (e :: es) X.env = (false, eval e X.env) :: starEach es X.env := by rfl) (hpl : (backTo pos (starEach es X.env)).any (·.1) = false := by rfl) :
    PE X (.Call (.Name x p) (e :: es) [] pos) (tCall sp dvs E t) := by
  intro pins s σ H Q I h
  refine wpAny_Call_Name_kw (ld_glob I hg hm ?_ hdb)
  refine PySem.W.callWith_K (h₀ := X.base) I.ok.mod.kin hk (thn (ha pos pins s σ H _ I h) fun us s1 ⟨vs, H1, I1, r, q⟩ => ⟨I1.kIn, ?_⟩) he hpl
  exact run_fn F hr hb hd hx I1 r q
theorem pe_call0 (F : FnOk X.prog X.w X.K X.mg X.base CX k f fd ps sp) (hr : Room k X.A) (hg : Gl X x) (hm : X.mg x = some (.ref f)) (hk : PySem.W.keepIn X.K (.ref f) = true) (hb : Binds X.K fd ps ds) (hd : Vals dvs ds) (hx : Passes CX X E)
    (hdb : (x == ("__debug__" : Str)) = false := by decide) : PE X (.Call (.Name x p) [] [] pos) (tCall sp dvs E tNil) := by
  intro pins s σ H Q I h
  refine wpAny_Call_Name_kw (ld_glob I hg hm ?_ hdb)
  exact PySem.W.callWith_K0 I.kIn hk (run_fn (us := []) F hr hb hd hx I .nil h)

/-- o.m(e, ..) -/
theorem pe_meth {pl : Sem Bool} (he : PE X o ta) (c : Cls X.K C) (hm : Meth X.K C m f) (F : FnOk X.prog X.w X.K X.mg X.base CX k f fd ps sp) (hr : Room k X.A) (hb : Binds X.K fd ps ds) (hd : Vals dvs ds) (hx : Passes CX X E) (ha : PA X (e :: es) t)
    (hst : starEach (e :: es) X.env = (false, eval e X.env) :: starEach es X.env := by rfl) (hpl : (backTo pos (starEach es X.env)).any (·.1) = false := by rfl)
    (ht : eval (.Call (.Attribute o m apos) (e :: es) [] pos) X.env = (do
      let ov ← eval o X.env
      standAt apos.atName
      let (f, first) ← holding [ov] (getMethod ov m pl)
      callWith pos f first (backTo pos (starEach (e :: es) X.env)) (backToKw pos (keywordEach [] X.env))) := by rfl) :
    PE X (.Call (.Attribute o m apos) (e :: es) [] pos) (tMeth C m sp dvs E ta t) := by
  intro pins s σ H Q I h
  refine PySem.W.methodCall_KW (pl := pl) (thn (he pins s σ H _ I h) fun u s1 ⟨x, H1, I1, rx, a, dx, fs, ex, ea, l, q⟩ => ?_) ht
  subst ex
  obtain rfl : u = Value.ref a := rx
  refine getmeth_ok I1 ea c hm l ?_
  refine PySem.W.callWith_K (first := [.ref a]) (h₀ := X.base) I.ok.mod.kin hm.kp (thn (ha pos pins s1 σ H1 _ I1 q) fun us s2 ⟨vs, H2, I2, r, q2⟩ => ⟨I2.kIn, ?_⟩) hst hpl
  exact run_fn (us := .ref a :: us) (vs := .ref a :: vs) F hr hb hd hx I2 (.cons rfl r) q2
/-- o.m() -/
theorem pe_meth0 {pl : Sem Bool} (he : PE X o ta) (c : Cls X.K C) (hm : Meth X.K C m f) (F : FnOk X.prog X.w X.K X.mg X.base CX k f fd ps sp) (hr : Room k X.A) (hb : Binds X.K fd ps ds) (hd : Vals dvs ds) (hx : Passes CX X E)
    (ht : eval (.Call (.Attribute o m apos) [] [] pos) X.env = (do
      let ov ← eval o X.env
      standAt apos.atName
      let (f, first) ← holding [ov] (getMethod ov m pl)
      callWith pos f first (backTo pos (starEach [] X.env)) (backToKw pos (keywordEach [] X.env))) := by rfl) :
    PE X (.Call (.Attribute o m apos) [] [] pos) (tMeth C m sp dvs E ta tNil) := by
  intro pins s σ H Q I h
  refine PySem.W.methodCall_KW (pl := pl) (thn (he pins s σ H _ I h) fun u s1 ⟨x, H1, I1, rx, a, dx, fs, ex, ea, l, q⟩ => ?_) ht
  subst ex
  obtain rfl : u = Value.ref a := rx
  refine getmeth_ok I1 ea c hm l ?_
  exact PySem.W.callWith_K0 (first := [.ref a]) I1.kIn hm.kp (run_fn (us := [.ref a]) (vs := [.ref a]) F hr hb hd hx I1 (.cons rfl .nil) q)

/-- what a class must have to be made -/
structure Mk (K : PySem.W.Frag) (C f : Addr) : Prop where
  makes : PySem.W.makesIn K C = true
  init : PySem.W.findIn K (.ref C) "__init__" = some (some (.ref f))
  fn : PySem.W.isFn K (.ref f) = true
  kp : PySem.W.keepIn K (.ref C) = true

theorem run_make {pins : List (Addr × Obj)} {σ : St} {H : Hp} {s : Shared} {Q : VK} {us : List Value} {vs : List V} (M : Mk X.K C f) (F : FnOk X.prog X.w X.K X.mg X.base CX k f fd ps sp) (hr : Room (k + 1) X.A) (hb : Binds X.K fd ps ds) (hd : Vals dvs ds)
    (hx : Passes CX X E) (I : Inv X pins σ H s) (r : Vals vs us)
    (h : ∀ x dx, H x = none → H dx = none → dx ≠ x → sp (.ref x :: (vs ++ dvs)) (upd (upd H dx (.own x)) x (.ins C dx [])) (fun v H2 => v = .non ∧ Q (.ref x) H2) E) :
    wpAny (model X.prog X.w) X.A (call (.ref C) us) (EP X pins σ Q) X.xe s := by
  have hq := h (s.heap.objs.size + 1) s.heap.objs.size (I.hok.fresh (Nat.le_succ _)) (I.hok.fresh (Nat.le_refl _)) (Nat.ne_of_lt (Nat.lt_succ_self _))
  have I2 := Inv.made (C := C) I
  have r2 : Vals (V.ref (s.heap.objs.size + 1) :: (vs ++ dvs)) (Value.ref (s.heap.objs.size + 1) :: (us ++ ds)) := .cons rfl (r.append hd)
  have hl : (Value.ref (s.heap.objs.size + 1) :: us ++ ds).length = ps.length := by
    have e := r2.length
    rw [F.len _ _ _ _ hq] at e
    exact e.symm
  refine wpAny_call (make_map (f := f) I.kIn M.makes M.init (beq_iff_eq.mp M.fn) (codeAny_mono (F.run _ X.stack _ _ ⟨Value.ref (s.heap.objs.size + 1) :: us, []⟩ (Value.ref (s.heap.objs.size + 1) :: (us ++ ds)) _ _ E (hr.make C us [])
    (I2.env0.make C us []) (hb _ (Value.ref (s.heap.objs.size + 1) :: us) I2.kIn hl) r2 hq) fun r s' hq' => ?_))
  cases r with
  | error e => exact hx pins σ _ _ e s' I2 hq'
  | ok fl =>
    cases fl with
    | ret u =>
      obtain ⟨v, H', I3, rv, ev, q3⟩ := I2.after hq'
      subst ev
      exact ⟨rv, ⟨V.ref (s.heap.objs.size + 1), H', I3, rfl, q3⟩⟩
    | next => exact False.elim hq'
    | brk => exact False.elim hq'
    | cont => exact False.elim hq'
theorem pe_make (M : Mk X.K C f) (F : FnOk X.prog X.w X.K X.mg X.base CX k f fd ps sp) (hr : Room (k + 1) X.A) (hg : Gl X x) (hm : X.mg x = some (.ref C)) (hb : Binds X.K fd ps ds) (hd : Vals dvs ds) (hx : Passes CX X E)
    (ha : PA X (e :: es) t) (hdb : (x == ("__debug__" : Str)) = false := by decide) (he : starEach (e :: es) X.env = (false, eval e X.env) :: starEach es X.env := by rfl) (hpl : (backTo pos (starEach es X.env)).any (·.1) = false := by rfl) :
    PE X (.Call (.Name x p) (e :: es) [] pos) (tMake C sp dvs E t) := by
  intro pins s σ H Q I h
  refine wpAny_Call_Name_kw (ld_glob I hg hm ?_ hdb)
  refine PySem.W.callWith_K (h₀ := X.base) I.ok.mod.kin M.kp (thn (ha pos pins s σ H _ I h) fun us s1 ⟨vs, H1, I1, r, q⟩ => ⟨I1.kIn, ?_⟩) he hpl
  exact run_make M F hr hb hd hx I1 r q
theorem pe_make0 (M : Mk X.K C f) (F : FnOk X.prog X.w X.K X.mg X.base CX k f fd ps sp) (hr : Room (k + 1) X.A) (hg : Gl X x) (hm : X.mg x = some (.ref C)) (hb : Binds X.K fd ps ds) (hd : Vals dvs ds) (hx : Passes CX X E)
    (hdb : (x == ("__debug__" : Str)) = false := by decide) : PE X (.Call (.Name x p) [] [] pos) (tMake C sp dvs E tNil) := by
  intro pins s σ H Q I h
  refine wpAny_Call_Name_kw (ld_glob I hg hm ?_ hdb)
  exact PySem.W.callWith_K0 I.kIn M.kp (run_make (us := []) M F hr hb hd hx I .nil h)
end

/-! ### keywords -/
/-- the values of the keywords, from the left -/
def PK (X : Cx) (kws : List Keyword) (t : TA) : Prop :=
  ∀ (pos : Pos) (pins : List (Addr × Obj)) (s : Shared) (σ : St) (H : Hp) (Q : List V → Hp → Prop), Inv X pins σ H s → t σ H Q → wpAny (model X.prog X.w) X.A (evalAll ((backToKw pos (keywordEach kws X.env)).map (·.2))) (AP X pins σ Q) X.xe s
section
variable {X : Cx} {CX : CXT} {k : Nat} {f C : Addr} {fd : FuncData} {ps ks : List Str} {sp : Sp} {E : XK} {x m : Str} {p pos apos kpos : Pos} {e o : Expr} {es : List Expr} {kws : List Keyword} {te ta : TE} {t tk : TA} {nm : Option Str}
theorem pk_nil : PK X [] tNil := fun _ _ _ _ H Q I h => wpAny_evalAll_nil ⟨[], H, I, .nil, h⟩
theorem pk_cons (ha : PE X e te) (hr : PK X kws t) : PK X (⟨nm, e, kpos⟩ :: kws) (tCons te t) := by
  intro pos pins s σ H Q I h
  show wpAny _ _ (evalAll ((do let v ← eval e X.env; standAt pos; pure v) :: (backToKw pos (keywordEach kws X.env)).map (·.2))) _ _ s
  refine wpAny_evalAll_cons (wpAny_bind (thn (ha pins s σ H _ I h) fun u s1 ⟨x, H1, I1, r1, q1⟩ => wpAny_bind (wpAny_standAt (wpAny_pure ?_))))
  exact thn (hr pos pins s1 σ H1 _ I1 q1) fun us s2 ⟨xs, H2, I2, r2, q2⟩ => ⟨x :: xs, H2, I2, .cons r1 r2, q2⟩

/-- how a call with keywords binds: g puts the positional values us and the keywords' values ws (names ks) in the parameters' order, defaults among them -/
structure KBinds (K : PySem.W.Frag) (fd : FuncData) (ps ks : List Str) (g : List Value → List Value → List Value) (gV : List V → List V → List V) : Prop where
  to : ∀ (s : Shared) (us ws : List Value), K.In s.heap → (g us ws).length = ps.length → BindsTo s fd ⟨us, ks.zip ws⟩ (ps.zip (g us ws))
  rel : ∀ {vs : List V} {us : List Value} {zs : List V} {ws : List Value}, Vals vs us → Vals zs ws → Vals (gV vs zs) (g us ws)
def tCallK (sp : Sp) (gV : List V → List V → List V) (E : XK) (t tk : TA) : TE := fun σ H Q => t σ H fun vs H1 => tk σ H1 fun zs H2 => sp (gV vs zs) H2 Q E
variable {g : List Value → List Value → List Value} {gV : List V → List V → List V}
theorem run_fnk {pins : List (Addr × Obj)} {σ : St} {H : Hp} {s : Shared} {Q : VK} {us ws : List Value} {vs zs : List V} (F : FnOk X.prog X.w X.K X.mg X.base CX k f fd ps sp) (hr : Room k X.A) (hb : KBinds X.K fd ps ks g gV) (hx : Passes CX X E)
    (I : Inv X pins σ H s) (r : Vals vs us) (rz : Vals zs ws) (h : sp (gV vs zs) H Q E) : wpAny (model X.prog X.w) X.A (call (.ref f) us (ks.zip ws)) (EP X pins σ Q) X.xe s := by
  have r2 := hb.rel r rz
  have hl : (g us ws).length = ps.length := by rw [← r2.length]; exact F.len _ _ _ _ h
  refine wpAny_call (codeAny_mono (F.run X.A X.stack s H ⟨us, ks.zip ws⟩ (g us ws) (gV vs zs) Q E hr I.env0 (hb.to s us ws I.kIn hl) r2 h) fun r s' hq => ?_)
  cases r with
  | error e => exact hx pins σ H s e s' I hq
  | ok fl =>
    cases fl with
    | ret u => exact I.after hq
    | next => exact False.elim hq
    | brk => exact False.elim hq
    | cont => exact False.elim hq
/-- f(e, .., k = v, ..) -/
theorem pe_callK (F : FnOk X.prog X.w X.K X.mg X.base CX k f fd ps sp) (hr : Room k X.A) (hg : Gl X x) (hm : X.mg x = some (.ref f)) (hk : PySem.W.keepIn X.K (.ref f) = true) (hb : KBinds X.K fd ps ks g gV) (hx : Passes CX X E)
    (ha : PA X (e :: es) t) (hkw : PK X kws tk) (hall : (backToKw pos (keywordEach kws X.env)).all (·.1.isSome) = true := by rfl) (hks : (backToKw pos (keywordEach kws X.env)).filterMap (·.1) = ks := by rfl)
    (hdb : (x == ("__debug__" : Str)) = false := by decide) (he : starEach (e :: es) X.env = (false, eval e X.env) :: starEach es X.env := by rfl)
    (hpl : ((backTo pos (starEach (e :: es) X.env)).any (·.1) || (backToKw pos (keywordEach kws X.env)).any (·.1.isNone)) = false := by rfl) :
    PE X (.Call (.Name x p) (e :: es) kws pos) (tCallK sp gV E t tk) := by
  intro pins s σ H Q I h
  refine wpAny_Call_Name_kw (ld_glob I hg hm ?_ hdb)
  refine PySem.W.callWith_KW (h₀ := X.base) I.ok.mod.kin hk hall (thn (ha pos pins s σ H _ I h) fun us s1 ⟨vs, H1, I1, r, q⟩ => ?_) hpl he
  refine thn (hkw pos pins s1 σ H1 _ I1 q) fun ws s2 ⟨zs, H2, I2, rz, q2⟩ => ⟨I2.kIn, ?_⟩
  rw [hks]
  exact run_fnk F hr hb hx I2 r rz q2
end

/-! ### a def's body keeps its promise -/
/-- names: the parameters first -/
structure FnScope (N P : List Str) (sc : Scope) : Prop where
  kind : sc.kind = .function
  co : sc.isCoroutine = false
  gen : sc.isGenerator = false
  nd : N.Nodup
  pre : N.take P.length = P
  par : ∀ x ∈ P, sc.names.lookup x = some .local ∨ sc.names.lookup x = some .cell
  nofree : ∀ y ∈ sc.names, y.2 ≠ .free

theorem bindL_out {kindOf : Str → Option NameKind} {x : Str} : ∀ {binds : List (Str × Value)} {m : Str → Option Value}, (∀ v, (x, v) ∉ binds) → bindL kindOf binds m x = m x
  | [], _, _ => rfl
  | (n, v) :: r, m, h => by
    unfold bindL
    rw [bindL_out fun w hw => h w (List.mem_cons_of_mem _ hw)]
    split
    · have : x ≠ n := by rintro rfl; exact h v List.mem_cons_self
      simp [this]
    · rfl
theorem bindC_out {kindOf : Str → Option NameKind} {x : Str} : ∀ {binds : List (Str × Value)} {m : Str → Option Value}, (∀ v, (x, v) ∉ binds) → bindC kindOf binds m x = m x
  | [], _, _ => rfl
  | (n, v) :: r, m, h => by
    unfold bindC
    rw [bindC_out fun w hw => h w (List.mem_cons_of_mem _ hw)]
    split
    · rfl
    · have : x ≠ n := by rintro rfl; exact h v List.mem_cons_self
      simp [this]
theorem bindL_get {kindOf : Str → Option NameKind} {x : Str} {v : Value} : ∀ {P : List Str} {vs : List Value} {i : Nat} {m : Str → Option Value}, P.Nodup → P[i]? = some x → vs[i]? = some v → kindOf x = some .local →
    bindL kindOf (P.zip vs) m x = some v
  | [], _, _, _, _, h, _, _ => by simp at h
  | _ :: _, [], _, _, _, _, h, _ => by simp at h
  | p :: P, w :: vs, 0, m, nd, h1, h2, hk => by
    simp at h1 h2; subst h1; subst h2
    show bindL kindOf ((p, w) :: P.zip vs) m p = _
    unfold bindL
    rw [bindL_out fun v hv => (List.nodup_cons.mp nd).1 (List.of_mem_zip hv).1, if_pos hk]
    simp
  | p :: P, w :: vs, i + 1, m, nd, h1, h2, hk => by
    show bindL kindOf ((p, w) :: P.zip vs) m x = _
    unfold bindL
    exact bindL_get (i := i) (List.nodup_cons.mp nd).2 (by simpa using h1) (by simpa using h2) hk
theorem bindC_get {kindOf : Str → Option NameKind} {x : Str} {v : Value} : ∀ {P : List Str} {vs : List Value} {i : Nat} {m : Str → Option Value}, P.Nodup → P[i]? = some x → vs[i]? = some v → kindOf x ≠ some .local →
    bindC kindOf (P.zip vs) m x = some v
  | [], _, _, _, _, h, _, _ => by simp at h
  | _ :: _, [], _, _, _, _, h, _ => by simp at h
  | p :: P, w :: vs, 0, m, nd, h1, h2, hk => by
    simp at h1 h2; subst h1; subst h2
    show bindC kindOf ((p, w) :: P.zip vs) m p = _
    unfold bindC
    rw [bindC_out fun v hv => (List.nodup_cons.mp nd).1 (List.of_mem_zip hv).1, if_neg hk]
    simp
  | p :: P, w :: vs, i + 1, m, nd, h1, h2, hk => by
    show bindC kindOf ((p, w) :: P.zip vs) m x = _
    unfold bindC
    exact bindC_get (i := i) (List.nodup_cons.mp nd).2 (by simpa using h1) (by simpa using h2) hk

/-- the names' values at the entry -/
def start (N : List Str) (vs : List V) : St := vs.map some ++ List.replicate (N.length - vs.length) none

/-- the context of a def's body, at its entry; an exception leaves the frame, then lies as CX says -/
def cxOf (CX : CXT) (P : Program) (w : World) (K : PySem.W.Frag) (mg : Str → Option Value) (base : Heap) (N : List Str) (qual : Str) (scope : Scope) (f : Addr) (cd : Value) (A : Around) (outer : List Env) (s : Shared) (H : Hp) (E : XK) : Cx where
  prog := P
  w := w
  K := K
  mg := mg
  base := base
  A := A.deeper (envOfC qual scope s.heap.objs.size f cd)
  N := N
  s₀ := s
  H₀ := H
  env := envOfC qual scope s.heap.objs.size f cd
  outer := outer
  stack := envOfC qual scope s.heap.objs.size f cd :: outer
  ex := []
  calm := true
  fn := fun _ => true
  pn := []
  xe := fun e s' => wpAny (model P w) (A.deeper (envOfC qual scope s.heap.objs.size f cd)) (leaving (envOfC qual scope s.heap.objs.size f cd) e) (fun _ s'' => CX outer H s E e s'') (fun e' s'' => CX outer H s E e' s'') s'

theorem cell_has {sc : Scope} {n : Nat} {x : Str} (h : sc.names.lookup x = some .cell) : ∃ c, (cellsFrom n sc.names []).lookup x = some c := by
  have q := PySem.W.cellsFrom_some sc.names n [] (.inl h)
  exact Option.isSome_iff_exists.mp q

theorem inv_start {CX : CXT} {P : Program} {w : World} {K : PySem.W.Frag} {mg : Str → Option Value} {base : Heap} {N ps : List Str} {qual : Str} {scope : Scope} {f : Addr} {cd : Value} {A : Around} {outer : List Env} {s s1 : Shared} {H : Hp} {E : XK} {us : List Value} {vs : List V}
    (S : FnScope N ps scope) (hd : A.handled = none) (e0 : Env0 P w K mg base A outer s H) (hl : vs.length = ps.length) (r : Vals vs us)
    (x : InCallC s s.heap.objs.size (bindL (envOfC qual scope s.heap.objs.size f cd).kindOf (ps.zip us) fun _ => none) (cellsFrom (s.heap.objs.size + 1) scope.names []) (bindC (envOfC qual scope s.heap.objs.size f cd).kindOf (ps.zip us) fun _ => none) s1) :
    Inv (cxOf CX P w K mg base N qual scope f cd A outer s H E) [] (start N vs) H s1 := by
  have hpl : ps.length ≤ N.length := by have := congrArg List.length S.pre; rw [List.length_take] at this; omega
  obtain ⟨h1, tk, rfl, hk⟩ := x.done
  have noA : ∀ b : Addr, b ∉ (cxOf CX P w K mg base N qual scope f cd A outer s H E).ex := fun b z => absurd (show b ∈ ([] : List Addr) from z) (by simp)
  refine ⟨⟨e0.mod, S.kind, rfl, rfl, Nat.le_refl _, fun y z c h1 h2 => ?_, fun y hy => ?_, fun y c _ h => ?_, fun _ => hd, Around.frames_deeper e0.frames, .inr ⟨rfl, rfl⟩, fun b z => absurd z (noA b), e0.bs, e0.bsz, fun b _ _ => noA b, fun b z => absurd z (noA b), e0.funs, e0.frf⟩,
    rfl, e0.bare, Un.kept hk, ⟨_, x.toInCall.ns, fun i y v h1 h2 h3 => ?_⟩, fun y c h => ⟨_, x.cell y c h⟩, e0.hok.fresh (Nat.le_refl _), fun y c h => ?_, fun p hp => absurd (show p ∈ ([] : List (Addr × Obj)) from hp) (by simp), e0.hok.kept hk, ?_⟩
  · exact name_of_addr x.apart (PySem.mem_of_lookup h1) (PySem.mem_of_lookup h2)
  · have hy : scope.names.lookup y = some .cell ∨ scope.names.lookup y = some .free := hy
    rcases hy with hy | hy
    · exact cell_has hy
    · exact absurd rfl (S.nofree _ (PySem.mem_of_lookup hy))
  · exact Nat.le_of_lt (x.above y c (PySem.mem_of_lookup h))
  · have hi : i < vs.length := by
      unfold start at h2
      by_cases hi : i < vs.length
      · exact hi
      · rw [List.getElem?_append_right (by simpa using hi)] at h2
        rw [List.getElem?_replicate] at h2
        split at h2 <;> cases h2
    have ha : vs[i]? = some v := by
      unfold start at h2
      rw [List.getElem?_append_left (by simpa using hi), List.getElem?_map] at h2
      cases e : vs[i]? with
      | none => rw [e] at h2; cases h2
      | some a => rw [e] at h2; cases h2; rfl
    obtain ⟨u, hu, rv⟩ := r.get ha
    have hp : ps[i]? = some y := by
      rw [← S.pre, List.getElem?_take_of_lt (by omega)]; exact h1
    have ndP : ps.Nodup := by rw [← S.pre]; exact S.nd.sublist (List.take_sublist _ _)
    refine ⟨u, rv, ?_⟩
    rcases S.par y (List.mem_of_getElem? hp) with k | k
    · exact .inl ⟨k, bindL_get ndP hp hu k⟩
    · obtain ⟨c, e⟩ := cell_has (n := s.heap.objs.size + 1) k
      refine .inr ⟨.inl k, c, e, ?_⟩
      have q := x.cell y c e
      rw [bindC_get ndP hp hu (by show scope.names.lookup y ≠ _; rw [k]; decide)] at q
      exact q
  · exact e0.hok.fresh (Nat.le_of_lt (x.above y c (PySem.mem_of_lookup h)))
  · unfold start
    show _ = N.length
    rw [List.length_append, List.length_map, List.length_replicate]
    omega

/-- THE RULE: a def (or a method) of the text, by its body. The body's reading t is chosen for each entry; it is run at the parameters' values -/
theorem fn_of {CX : CXT} {P : Program} {w : World} {K : PySem.W.Frag} {mg : Str → Option Value} {base : Heap} {k : Nat} {f : Addr} {name qual : Str} {params : Arguments} {body : List Stmt} {scope : Scope} {dV kV doc pm cdv ct oc : Value} {an od : Option Addr}
    {osl : Array (Option Value)} {N ps : List Str} {sp : Sp} (lk : K.lookup f = some ⟨oc, od, .func (PySem.W.fnOf name qual params body scope dV kV doc pm an cdv ct), osl⟩) (hcd : PySem.W.codeIn K cdv qual = true) (S : FnScope N ps scope)
    (len : ∀ vs H Q E, sp vs H Q E → vs.length = ps.length)
    (hbody : ∀ (A : Around) (outer : List Env) (s : Shared) (H : Hp) (vs : List V) (Q : VK) (E : XK), Room k (A.deeper (envOfC qual scope s.heap.objs.size f cdv)) → sp vs H Q E →
      ∃ t, PSs (cxOf CX P w K mg base N qual scope f cdv A outer s H E) body t ∧ t { nx := fun _ H' => Q .non H', rt := Q } (start N vs) H) :
    FnOk P w K mg base CX (k + 1) f (PySem.W.fnOf name qual params body scope dV kV doc pm an cdv ct) ps sp := by
  refine ⟨len, fun A outer s H args us vs Q E hr e0 hb r hsp => ?_⟩
  have hl := len _ _ _ _ hsp
  have KX : K.In s.heap := e0.mod.kin.keeps fun b o e => (e0.bs b o e).1
  have lim : s.heap.NoLimit := e0.mod.nolimit.keeps fun b o e => (e0.bs b o e).1
  have hkind : ∀ y ∈ ps.zip us, scope.names.lookup y.1 = some .local ∨ (scope.names.lookup y.1 = some .cell ∧ ((cellsFrom (s.heap.objs.size + 1) scope.names []).lookup y.1).isSome = true) := fun ⟨n, v⟩ hy => by
    rcases S.par n (List.of_mem_zip hy).1 with q | q
    · exact .inl q
    · exact .inr ⟨q, PySem.W.cellsFrom_some _ _ _ (.inl q)⟩
  refine codeAny_call_function hr.depth (KX _ _ lk) rfl S.co S.gen rfl (PySem.W.codeRec_of KX hcd) (hb _ _ _ _ ?_)
  refine wpAny_newFunctionEnv_cells S.kind hkind fun env he s1 x => ?_
  subst he
  refine ⟨lim.keeps x.toInCall.keep, codeAny_func ?_⟩
  obtain ⟨t, ht, hq⟩ := hbody A outer s H vs Q E (hr.deeper _) hsp
  have I : Inv (cxOf CX P w K mg base N qual scope f cdv A outer s H E) [] (start N vs) H s1 := inv_start S hr.hd e0 hl r x
  refine wpAny_mono (ht [] s1 (start N vs) H _ I hq) (fun fl s' hs => ?_) fun e s' hs => hs
  have fin : ∀ {σ' : St} {H' : Hp} {v : V} {u : Value}, Inv (cxOf CX P w K mg base N qual scope f cdv A outer s H E) [] σ' H' s' → RelV v u → Q v H' → CE outer P w H s Q u s' :=
    fun {σ' H' v u} J rv q => ⟨v, H', J.os, J.bare, J.base, J.hok, rv, q⟩
  cases fl with
  | ret u =>
    obtain ⟨v, σ', H', J, rv, q⟩ := hs
    exact fin J rv q
  | next =>
    obtain ⟨σ', H', J, q⟩ := hs
    exact fin (v := V.non) (u := Value.none) J rfl q
  | brk =>
    obtain ⟨_, _, _, q⟩ := hs
    exact False.elim q
  | cont =>
    obtain ⟨_, _, _, q⟩ := hs
    exact False.elim q
end L2

namespace L2
open PySem PySem.Spec PyProof.Rows
section
variable {X : Cx} {x : Str} {p pos : Pos} {e : Expr} {es : List Expr} {t : TA} {id T : String} {r : List V → Hp → VK → Prop}

def tCB (r : List V → Hp → VK → Prop) (t : TA) : TE := fun σ H Q => t σ H fun vs H1 => r vs H1 Q
/-- f(e, ..), f a built-in function -/
theorem pe_callB (hc : CallR X (.builtin id) r) (hg : Gl X x) (hm : X.mg x = none) (hv : bootBuiltins x = some (.builtin id)) (ha : PA X (e :: es) t) (hn : x ≠ "__name__" := by decide) (hdb : (x == ("__debug__" : Str)) = false := by decide)
    (he : starEach (e :: es) X.env = (false, eval e X.env) :: starEach es X.env := by rfl) (hpl : (backTo pos (starEach es X.env)).any (·.1) = false := by rfl) : PE X (.Call (.Name x p) (e :: es) [] pos) (tCB r t) := by
  intro pins s σ H Q I h
  refine wpAny_Call_Name_kw (ld_blt I hg hm hv ?_ hn hdb)
  exact PyProof.Rows.callWith_builtin1 (thn (ha pos pins s σ H _ I h) fun us s1 ⟨vs, H1, I1, r1, q1⟩ => hc pins s1 σ H1 vs us Q I1 r1 q1) he hpl
/-- T(e, ..), T a built-in type -/
theorem pe_callTy (hc : CallR X (.type T) r) (hg : Gl X x) (hm : X.mg x = none) (hv : bootBuiltins x = some (.type T)) (ha : PA X (e :: es) t) (hn : x ≠ "__name__" := by decide) (hdb : (x == ("__debug__" : Str)) = false := by decide)
    (he : starEach (e :: es) X.env = (false, eval e X.env) :: starEach es X.env := by rfl) (hpl : (backTo pos (starEach es X.env)).any (·.1) = false := by rfl) : PE X (.Call (.Name x p) (e :: es) [] pos) (tCB r t) := by
  intro pins s σ H Q I h
  refine wpAny_Call_Name_kw (ld_blt I hg hm hv ?_ hn hdb)
  exact PyProof.Rows.callWith_type1 (thn (ha pos pins s σ H _ I h) fun us s1 ⟨vs, H1, I1, r1, q1⟩ => hc pins s1 σ H1 vs us Q I1 r1 q1) he hpl
/-- T() -/
theorem pe_callTy0 (hc : CallR X (.type T) r) (hg : Gl X x) (hm : X.mg x = none) (hv : bootBuiltins x = some (.type T)) (hn : x ≠ "__name__" := by decide) (hdb : (x == ("__debug__" : Str)) = false := by decide) :
    PE X (.Call (.Name x p) [] [] pos) (tCB r tNil) := by
  intro pins s σ H Q I h
  refine wpAny_Call_Name_kw (ld_blt I hg hm hv ?_ hn hdb)
  exact PyProof.Rows.callWith_type0 (hc pins s σ H [] [] Q I .nil h)
end
end L2

namespace HT
open PySem PyProof.Rows

/-- t < u of tuples of ints -/
def lexLt : List Int → List Int → Bool
  | [], [] => false
  | [], _ :: _ => true
  | _ :: _, [] => false
  | x :: xs, y :: ys => if x = y then lexLt xs ys else decide (x < y)
theorem lexLt_cons (x y : Int) (xs ys : List Int) : lexLt (x :: xs) (y :: ys) = if x = y then lexLt xs ys else decide (x < y) := rfl
theorem lexLt_nil_nil : lexLt [] [] = false := rfl
theorem lexLt_nil_cons (y : Int) (ys : List Int) : lexLt [] (y :: ys) = true := rfl
theorem lexLt_cons_nil (x : Int) (xs : List Int) : lexLt (x :: xs) [] = false := rfl

theorem eqAt_int (A : Around) (s : Shared) (a : Int) (t : Tok) (c : Int) (u : Tok) : ∃ e, SeqAt.EqAt A s (.int a t) (.int c u) e ∧ (e = true ↔ a = c) :=
  ⟨(a == c), SeqAt.EqAt.int_int a t c u, by simp⟩
theorem rcLt_int (A : Around) (s : Shared) (a : Int) (t : Tok) (c : Int) (u : Tok) (prog : Program) (w : World) (E : Value → Shared → Prop) (Q : Value → Shared → Prop) (h : Q (.bool (decide (a < c))) s) :
    wpAny (model prog w) A (richCompare .Lt (.int a t) (.int c u)) Q E s :=
  (PyProof.Rows.lt_int h : wpAny (model prog w) A (compareOp .Lt (.int a t) (.int c u)) Q E s)

section
open PySem.SeqAt
open PySem.AutoSeq1 (wpAny_loadPart')
open PySem.MeetsSeq PySem.MeetsSeq2 PySem.MeetsSeq3

theorem tuple_lt_ints (l b : Addr) (items items2 : Array Value) (n n2 : Nat) (dd dd2 : Option Addr) (sl sl2 : Array (Option Value)) (ns ms : List Int) (hi : IntsAre items.toList ns) (hj : IntsAre items2.toList ms) :
    Meets (Builtin.«tuple.__lt__» ⟨[.ref l, .ref b], []⟩)
      (fun _ R s => s.heap.get? l = some { cls := .type "tuple", dict := dd, data := .seq items n, slots := sl } ∧ s.heap.get? b = some { cls := .type "tuple", dict := dd2, data := .seq items2 n2, slots := sl2 } ∧
        R (.ok (.ret (.bool (lexLt ns ms)))) s) :=
  .of_wp fun prog w A R s h => by
    obtain ⟨hp, g, d, tk, os⟩ := s; obtain ⟨hl, hb, h⟩ := h
    have f2 := AutoSeq1.sub_tuple_tuple
    have z1 : items.size = ns.length := by rw [← hi.length]; simp
    have z2 : items2.size = ms.length := by rw [← hj.length]; simp
    wp_walk using wpAny_loadPart' hl, wpAny_loadPart' hb, wpAny_forIn_list _ (fun rest b s' => b.1 = none ∧ s' = ⟨hp, g, d, tk, os⟩ ∧ ∃ (vs ws : List Value) (ns' ms' : List Int), rest = vs.zip ws ∧
      IntsAre vs ns' ∧ IntsAre ws ms' ∧ ns'.length + items2.size = ms'.length + items.size ∧ R (.ok (.ret (.bool (lexLt ns' ms')))) ⟨hp, g, d, tk, os⟩) _
    case turn =>
      rintro ⟨y, x⟩ rest b s' ⟨hb', rfl, vs, ws, ns', ms', hz, hvi, hwi, hlen, hR⟩
      cases hvi with
      | nil => rw [List.zip_nil_left] at hz; cases hz
      | cons a t hvi' =>
        cases hwi with
        | nil => rw [List.zip_nil_right] at hz; cases hz
        | cons c u hwi' =>
          rw [List.zip_cons_cons] at hz
          injection hz with hyx hrest
          injection hyx with hy hx
          subst hy hx
          rw [lexLt_cons] at hR
          simp only [List.length_cons] at hlen
          obtain ⟨e, he, hiff⟩ := eqAt_int A.in1 ⟨hp, g, d, tk, os⟩ a t c u
          refine wpAny_bind (he prog w _ _ ?_)
          cases e with
          | true =>
            rw [if_pos (hiff.mp rfl)] at hR
            wp_walk
            exact ⟨rfl, rfl, _, _, _, _, hrest, hvi', hwi', by omega, hR⟩
          | false =>
            rw [if_neg (fun q => absurd (hiff.mpr q) Bool.false_ne_true)] at hR
            have hri := rcLt_int A.in1 ⟨hp, g, d, tk, os⟩ a t c u prog w
            wp_walk using hri
            exact ⟨_, rfl, by simpa using hR⟩
    case fin =>
      rintro ⟨b1, b2⟩ s' ⟨hb', rfl, vs, ws, ns', ms', hz, hvi, hwi, hlen, hR⟩
      simp only at hb'
      subst hb'
      have hv : lexLt ns' ms' = decide (items.size < items2.size) := by
        cases hvi with
        | nil =>
          cases hwi with
          | nil =>
            simp only [List.length_nil] at hlen
            rw [lexLt_nil_nil]
            exact (decide_eq_false (by omega)).symm
          | cons c u hw =>
            simp only [List.length_nil, List.length_cons] at hlen
            rw [lexLt_nil_cons]
            exact (decide_eq_true (by omega)).symm
        | cons a t hv =>
          cases hwi with
          | nil =>
            simp only [List.length_nil, List.length_cons] at hlen
            rw [lexLt_cons_nil]
            exact (decide_eq_false (by omega)).symm
          | cons c u hw =>
            rw [List.zip_cons_cons] at hz
            cases hz
      rw [hv] at hR
      wp_walk
      exact ⟨_, rfl, by simpa [Builtin.Tuple.tupleCompareSizes] using hR⟩
    case h =>
      exact ⟨rfl, rfl, items.toList, items2.toList, ns, ms, rfl, hi, hj, by omega, h⟩
end

section
variable {prog : Program} {w : World} {A : Around} {E : Value → Shared → Prop} {s : Shared}

theorem lt_tupInts {l b : Addr} {items items2 : Array Value} {ns ms : List Int} {Q : Value → Shared → Prop} (hl : IsTup s.heap l items) (hb : IsTup s.heap b items2) (hi : IntsAre items.toList ns) (hj : IntsAre items2.toList ms)
    (hu : A.units < cLine) (h : Q (.bool (lexLt ns ms)) s) : wpAny (model prog w) A (compareOp .Lt (.ref l) (.ref b)) Q E s := by
  obtain ⟨⟨cls, dd, data, sl⟩, ho, hc, n, hd⟩ := id hl
  obtain ⟨⟨cls2, dd2, data2, sl2⟩, ho2, hc2, n2, hd2⟩ := id hb
  simp only at hc hd hc2 hd2
  subst hc hd hc2 hd2
  exact richCompare_meets_room (op := .Lt) ⟨_, ho, rfl⟩ ⟨_, ho2, rfl⟩ PySem.F.slot_tuple_lt PySem.F.entry_tuple_lt (PySem.F.args_tuple_lt_2 _ _) (tuple_lt_ints l b items items2 n n2 dd dd2 sl sl2 ns ms hi hj)
    ⟨ho, ho2, show Value.bool (lexLt ns ms) ≠ Value.notImplemented ∧ Q (.bool (lexLt ns ms)) s from ⟨(fun x => nomatch x), h⟩⟩ hu

/-- t + u, t not empty -/
theorem cat_tup {t b : Addr} {vs ws : List Value} {Q : Value → Shared → Prop} (ht : IsTup s.heap t vs.toArray) (hb : IsTup s.heap b ws.toArray) (hv : vs ≠ [])
    (h1 : ws = [] → Q (.ref t) s) (h2 : ws ≠ [] → Q (.ref s.heap.objs.size) { s with heap := s.heap.push { cls := .type "tuple", data := .seq (vs ++ ws).toArray } })
    (hsz : vs.length + ws.length ≤ sizeLine) : wpAny (model prog w) A (binaryOp .Add (.ref t) (.ref b)) Q E s := by
  obtain ⟨⟨cls, dd, data, sl⟩, ho, hc, n, hd⟩ := id ht
  obtain ⟨⟨cls2, dd2, data2, sl2⟩, ho2, hc2, n2, hd2⟩ := id hb
  simp only at hc hd hc2 hd2
  subst hc hd hc2 hd2
  have e : vs.toArray ++ ws.toArray = (vs ++ ws).toArray := by simp
  by_cases hw : ws = []
  · exact concat_meets ⟨_, ho, rfl⟩ ⟨_, ho2, rfl⟩ noFill_tuple_add seq_tuple_add PySem.F.slot_tuple_add PySem.F.entry_tuple_add (PySem.F.args_tuple_add_2 _ _)
      (tuple_addW1 t b vs.toArray ws.toArray n n2 dd dd2 sl sl2 (by simpa using hv) (by simp [hw])) ⟨ho, ho2, h1 hw⟩
  · refine concat_meets ⟨_, ho, rfl⟩ ⟨_, ho2, rfl⟩ noFill_tuple_add seq_tuple_add PySem.F.slot_tuple_add PySem.F.entry_tuple_add (PySem.F.args_tuple_add_2 _ _)
      (tuple_addW2 t b vs.toArray ws.toArray n n2 dd dd2 sl sl2 (by simpa using hv) (by simpa using hw) (by rw [List.size_toArray, List.size_toArray]; exact hsz)) ⟨ho, ho2, ?_⟩
    rw [e]
    exact h2 hw

/-! ### t[a:b], not the whole -/
/-- a slice's bound as a place among n (d where it is left out) -/
def sIx (n d : Nat) : Option Int → Nat
  | none => d
  | some v => if v < 0 then (v + (n : Int)).toNat else min v.toNat n
theorem sIx_none (n d : Nat) : sIx n d none = d := rfl
theorem sIx_nat (n d k : Nat) : sIx n d (some (k : Int)) = min k n := by
  show (if (k : Int) < 0 then ((k : Int) + (n : Int)).toNat else min (k : Int).toNat n) = min k n
  rw [if_neg (by omega), Int.toNat_natCast]
theorem sIx_le (n d : Nat) (hd : d ≤ n) (o : Option Int) : sIx n d o ≤ n := by
  cases o with
  | none => exact hd
  | some v =>
    show (if v < 0 then (v + (n : Int)).toNat else min v.toNat n) ≤ n
    by_cases hv : v < 0
    · rw [if_pos hv]; omega
    · rw [if_neg hv]; exact Nat.min_le_right _ _
theorem clip_eq (v : Int) (n d : Nat) : (if v < 0 then max (v + (n : Int)) 0 else min v (n : Int)) = ((sIx n d (some v) : Nat) : Int) := by
  show (if v < 0 then max (v + (n : Int)) 0 else min v (n : Int)) = (((if v < 0 then (v + (n : Int)).toNat else min v.toNat n) : Nat) : Int)
  by_cases hv : v < 0
  · simp only [if_pos hv]; omega
  · simp only [if_neg hv]; omega
theorem adjust_gen (lo hi : Option Int) (n : Nat) : Builtin.Slice.sliceAdjust lo hi 1 (n : Int) = (((sIx n 0 lo : Nat) : Int), ((sIx n n hi : Nat) : Int)) := by
  have h1 : ¬ ((1 : Int) < 0) := by omega
  unfold Builtin.Slice.sliceAdjust
  simp only [h1, if_false]
  refine Prod.ext ?_ ?_
  · cases lo with
    | none => rfl
    | some v => exact clip_eq v n 0
  · cases hi with
    | none => rfl
    | some v => exact clip_eq v n n
theorem places_gen (i j : Nat) : Builtin.Slice.slicePlaces (i : Int) (j : Int) 1 = j - i := by
  unfold Builtin.Slice.slicePlaces
  have h1 : (1 : Int) > 0 := by omega
  simp only [h1, if_true, Int.ediv_one]
  split <;> omega
theorem slicePart_ {v : Value} {o : Option Int} {Q : Option Int → Shared → Prop} (p : IsPart v o) (h : Q o s) : wpAny (model prog w) A (Builtin.Slice.slicePartIndex v) Q E s := by
  cases p with
  | none => exact slicePart_none h
  | int i t => exact slicePart_int h
theorem sliceApplied_gen {sl : Addr} {vl vu : Value} {lo hi : Option Int} {n : Nat} {Q : Int × Int × Nat → Shared → Prop} (hs : s.heap.IsSliceOf sl vl vu .none) (pl : IsPart vl lo) (pu : IsPart vu hi)
    (h : Q (((sIx n 0 lo : Nat) : Int), 1, sIx n n hi - sIx n 0 lo) s) : wpAny (model prog w) A (Builtin.Slice.sliceApplied (.ref sl) (pure (n : Int))) Q E s := by
  obtain ⟨os, hos, hcs, hds⟩ := id hs
  unfold Builtin.Slice.sliceApplied Builtin.Slice.sliceFields
  refine wpAny_bind (wpAny_bind (wpAny_field hos hds (x := vl) rfl (wpAny_bind (wpAny_field hos hds (x := vu) rfl (wpAny_bind (wpAny_field hos hds (x := .none) rfl (wpAny_pure ?_)))))))
  refine wpAny_bind (slicePart_none ?_)
  show wpAny _ _ (if ((1 : Int) == 0) = true then _ else _) _ _ s
  rw [if_neg (by decide)]
  refine wpAny_bind (slicePart_ pl (wpAny_bind (slicePart_ pu (wpAny_bind (wpAny_pure ?_)))))
  show wpAny _ _ (match Builtin.Slice.sliceAdjust lo hi 1 (n : Int) with | (lo, hi) => pure (lo, (1 : Int), Builtin.Slice.slicePlaces lo hi 1)) _ _ s
  rw [adjust_gen lo hi n]
  show wpAny _ _ (pure (((sIx n 0 lo : Nat) : Int), (1 : Int), Builtin.Slice.slicePlaces ((sIx n 0 lo : Nat) : Int) ((sIx n n hi : Nat) : Int) 1)) _ _ s
  rw [places_gen]
  exact wpAny_pure h
theorem pick_gen (xs : Array Value) (i k : Nat) : ((List.range k).filterMap fun (m : Nat) => xs[((i : Int) + (m : Int) * 1).toNat]?).toArray = ((xs.toList.drop i).take k).toArray := by
  have e : (fun (m : Nat) => xs[((i : Int) + (m : Int) * 1).toNat]?) = fun m => xs[i + m]? := by
    funext m
    have : ((i : Int) + (m : Int) * 1).toNat = i + m := by omega
    rw [this]
  rw [e]
  have := pick_run xs i k
  rw [List.filterMap_map] at this
  have e2 : ((fun x => xs[x]?) ∘ fun x => i + x) = fun m => xs[i + m]? := rfl
  rw [e2] at this
  rw [this]

theorem getItem_tuple_cut {t sl : Addr} {items : Array Value} {vl vu : Value} {lo hi : Option Int} {Q : Value → Shared → Prop} (ht : IsTup s.heap t items) (hs : s.heap.IsSliceOf sl vl vu .none) (pl : IsPart vl lo) (pu : IsPart vu hi)
    (hw : ¬ (sIx items.size 0 lo = 0 ∧ sIx items.size items.size hi = items.size))
    (h : Q (.ref s.heap.objs.size) { s with heap := s.heap.push { cls := .type "tuple", data := .seq ((items.toList.drop (sIx items.size 0 lo)).take (sIx items.size items.size hi - sIx items.size 0 lo)).toArray } })
    (hsz : items.size ≤ sizeLine) : wpAny (model prog w) A (getItem (.ref t) (.ref sl)) Q E s := by
  have htake : sizeOk (.seq ((items.toList.drop (sIx items.size 0 lo)).take (sIx items.size items.size hi - sIx items.size 0 lo)).toArray) := by
    show ((items.toList.drop (sIx items.size 0 lo)).take (sIx items.size items.size hi - sIx items.size 0 lo)).toArray.size ≤ sizeLine
    rw [List.size_toArray, List.length_take, List.length_drop, Array.length_toList]
    omega
  have hj : sIx items.size items.size hi ≤ items.size := sIx_le _ _ (Nat.le_refl _) hi
  obtain ⟨os, hos, hcs, hds⟩ := id hs
  have hTs : s.TypeIs (.ref sl) "slice" := ⟨os, hos, hcs⟩
  unfold getItem
  try with_reducible refine wpAny_holding ?_
  first | refine wpAny_bind (wpAny_pure ?_) | skip
  refine wpAny_bind (wpAny_sequenceKey ht.typeIs (by decide) ?_)
  refine wpAny_bind (wpAny_callSpecial?_slot (name := Str.ofString "__getitem__") ht.typeIs PyProof.Rows.slot_tuple_getitem
    (wpAny_call_entry PyProof.Rows.slot_tuple_getitem ht.typeIs entry_tuple_getitem ?_ (args_tuple_getitem _ _)))
  show wpAny _ _ (Builtin.Tuple.tupleItemsOf (.ref t) >>= _) _ _ s
  refine wpAny_bind (tupleItemsOf_ ht ?_)
  refine wpAny_bind (wpAny_typeOf hTs ?_)
  rw [if_pos (by decide)]
  refine wpAny_bind (sliceApplied_gen hs pl pu ?_)
  have hno : ¬ ((((sIx items.size 0 lo : Nat) : Int) == 0 && (1 : Int) == 1 && (sIx items.size items.size hi - sIx items.size 0 lo) == items.size) = true) := by
    intro q
    rw [Bool.and_eq_true, Bool.and_eq_true] at q
    have q1 : ((sIx items.size 0 lo : Nat) : Int) = 0 := eq_of_beq q.1.1
    have q2 : sIx items.size items.size hi - sIx items.size 0 lo = items.size := eq_of_beq q.2
    exact hw ⟨by omega, by omega⟩
  show wpAny _ _ (if (((sIx items.size 0 lo : Nat) : Int) == 0 && (1 : Int) == 1 && (sIx items.size items.size hi - sIx items.size 0 lo) == items.size) = true then _ else _) _ _ s
  rw [if_neg hno, pick_gen]
  first
    | exact wpAny_bind (m := Builtin.Tuple.tupleExact _) (wpAny_newObj_type (wpAny_pure ⟨_, rfl, wpAny_pure h⟩) htake)
    | exact wpAny_bind (m := Builtin.Tuple.tupleExact _) (wpAny_newObj_type (wpAny_bind (wpAny_pure (wpAny_pure ⟨_, rfl, wpAny_pure h⟩))) htake)
    | exact wpAny_bind (wpAny_bind (m := Builtin.Tuple.tupleExact _) (wpAny_newObj_type (wpAny_pure (wpAny_pure ⟨_, rfl, wpAny_pure h⟩)) htake))
    | exact wpAny_bind (wpAny_bind (m := Builtin.Tuple.tupleExact _) (wpAny_newObj_type (wpAny_pure ⟨_, rfl, wpAny_pure h⟩) htake))
end
end HT

namespace L2
open PySem PySem.Spec PyProof.Rows

/-! ### the parts of a slice -/
abbrev TO := St → Hp → (Option Int → Hp → Prop) → Prop
/-- a slice's part (left out, or an int) -/
def PO (X : Cx) (e : Option Expr) (t : TO) : Prop :=
  ∀ (pins : List (Addr × Obj)) (s : Shared) (σ : St) (H : Hp) (Q : Option Int → Hp → Prop), Inv X pins σ H s → t σ H Q →
    wpAny (model X.prog X.w) X.A (evalPart e X.env) (fun u s' => ∃ o H', Inv X pins σ H' s' ∧ IsPart u o ∧ Q o H') X.xe s
def tNoPart : TO := fun _ H Q => Q none H
def tPart (t : TE) : TO := fun σ H Q => t σ H fun x H1 => ∃ i, x = .int i ∧ Q (some i) H1

theorem intsAre_of {ns : List Int} : ∀ {us : List Value}, Vals (ns.map V.int) us → IntsAre us ns := by
  induction ns with
  | nil => intro us r; rw [List.map_nil] at r; cases r; exact .nil
  | cons n ns ih =>
    intro us r
    rw [List.map_cons] at r
    cases r with
    | cons r1 r2 =>
      obtain ⟨t, e⟩ := r1
      subst e
      exact .cons n t (ih r2)

section
variable {X : Cx} {e : Expr} {te : TE} {lo hi : Option Expr} {tl th : TO} {pos p2 : Pos}

theorem po_none : PO X none tNoPart := by
  intro pins s σ H Q I h
  rw [evalPart_none]
  exact wpAny_pure ⟨none, H, I, .none, h⟩
theorem po_some (h : PE X e te) : PO X (some e) (tPart te) := by
  intro pins s σ H Q I hw
  rw [evalPart_some]
  refine thn (h pins s σ H _ I hw) fun u s1 ⟨x, H1, I1, r1, q1⟩ => ?_
  obtain ⟨i, rfl, q⟩ := q1
  obtain ⟨t, rfl⟩ := r1
  exact ⟨some i, H1, I1, .int i t, q⟩

/-- what a slice of a value is, by values: the slice object stands at sl -/
def SlR (X : Cx) (r : V → Option Int → Option Int → Hp → VK → Prop) : Prop :=
  ∀ (pins : List (Addr × Obj)) (s : Shared) (σ : St) (H : Hp) (x : V) (v vl vu : Value) (lo hi : Option Int) (sl : Addr) (Q : VK), Inv X pins σ H s → RelV x v → s.heap.IsSliceOf sl vl vu .none → IsPart vl lo → IsPart vu hi → r x lo hi H Q →
    ∃ T id, typeLookup (.type T) "__getitem__" = pure (some (.builtin id)) ∧ s.TypeIs v T ∧ wpAny (model X.prog X.w) X.A (getItem v (.ref sl)) (EP X pins σ Q) X.xe s
theorem SlR.or {r r' : V → Option Int → Option Int → Hp → VK → Prop} (h : SlR X r) (h' : SlR X r') : SlR X (fun x lo hi H Q => r x lo hi H Q ∨ r' x lo hi H Q) := by
  intro pins s σ H x v vl vu lo hi sl Q I rx hs pl pu q
  rcases q with q | q
  · exact h pins s σ H x v vl vu lo hi sl Q I rx hs pl pu q
  · exact h' pins s σ H x v vl vu lo hi sl Q I rx hs pl pu q
def tSl (r : V → Option Int → Option Int → Hp → VK → Prop) (te : TE) (tl th : TO) : TE := fun σ H Q => te σ H fun x H1 => tl σ H1 fun l H2 => th σ H2 fun u H3 => r x l u H3 Q
/-- a[lo:hi], any a -/
theorem pe_slice {r : V → Option Int → Option Int → Hp → VK → Prop} (hr : SlR X r) (he : PE X e te) (hl : PO X lo tl) (hu : PO X hi th) : PE X (.Subscript e (.Slice lo hi none p2) pos) (tSl r te tl th) := by
  intro pins s σ H Q I h
  refine Subscript_ (thn (he pins s σ H _ I h) fun v s1 ⟨x, H1, I1, r1, q1⟩ => ?_)
  refine wpAny_Slice (thn (hl pins s1 σ H1 _ I1 q1) fun vl s2 ⟨l, H2, I2, pl, q2⟩ => thn (hu pins s2 σ H2 _ I2 q2) fun vu s3 ⟨u, H3, I3, pu, q3⟩ => ?_)
  rw [evalPart_none]
  refine wpAny_pure ?_
  have I4 : Inv X pins σ H3 { s3 with heap := s3.heap.push { cls := .type "slice", data := .fields #[vl, vu, .none] } } := I3.kept (t' := s3.toks) fun b ob q => Heap.get?_push_of_some _ q
  obtain ⟨T, id, hT, ht, hg⟩ := hr pins { s3 with heap := s3.heap.push { cls := .type "slice", data := .fields #[vl, vu, .none] } } σ H3 x v vl vu l u s3.heap.objs.size Q I4 r1 (Heap.IsSliceOf.new ..) pl pu q3
  show wpAny (model X.prog X.w) X.A (subscriptTail e (.Slice lo hi none p2) v (.ref s3.heap.objs.size)) (EP X pins σ Q) X.xe { s3 with heap := s3.heap.push { cls := .type "slice", data := .fields #[vl, vu, .none] } }
  exact tail_any (ops := [.ref s3.heap.objs.size, v]) ht hT hg (by with_unfolding_all rfl)

/-- the items of xs[lo:hi] -/
def cutV (xs : List V) (lo hi : Option Int) : List V := (xs.drop (HT.sIx xs.length 0 lo)).take (HT.sIx xs.length xs.length hi - HT.sIx xs.length 0 lo)
theorem cutV_length (xs : List V) (lo hi : Option Int) : (cutV xs lo hi).length ≤ xs.length := by
  unfold cutV
  rw [List.length_take, List.length_drop]
  omega
/-- t[lo:hi], not the whole of it (the whole would be t itself) -/
def rSlT (K : PySem.W.Frag) : V → Option Int → Option Int → Hp → VK → Prop := fun x lo hi H Q => ∃ a xs, x = .ref a ∧ SqT K H a xs ∧
  ¬ (HT.sIx xs.length 0 lo = 0 ∧ HT.sIx xs.length xs.length hi = xs.length) ∧ ∀ p, H p = none → Q (.ref p) (upd H p (.tup (cutV xs lo hi)))
theorem sl_tup : SlR X (rSlT X.K) := by
  intro pins s σ H x v vl vu lo hi sl Q I rx hs pl pu h
  obtain ⟨a, xs, rfl, hx, hw, q⟩ := h
  cases rx
  obtain ⟨its, r, ht, hz⟩ := I.tuple hx
  have hlen : its.toArray.size = xs.length := by rw [List.size_toArray]; exact r.length.symm
  refine ⟨"tuple", _, PyProof.Rows.slot_tuple_getitem.lookup, ht.typeIs, ?_⟩
  refine HT.getItem_tuple_cut ht hs pl pu (by rw [hlen]; exact hw) ?_ (by rw [hlen]; exact hz)
  rw [hlen]
  refine ⟨.ref s.heap.objs.size, _, I.laid (t' := s.toks) (o := .tup (cutV xs lo hi)) (fun b ob q => Heap.get?_push_of_some _ q) (Nat.le_refl _) ?_, rfl, q _ (I.hok.fresh (Nat.le_refl _))⟩
  exact ⟨Nat.le_trans (cutV_length xs lo hi) hz, _, (r.drop (HT.sIx xs.length 0 lo)).take (HT.sIx xs.length xs.length hi - HT.sIx xs.length 0 lo), IsTup.new _ _⟩

/-! ### t < u, t + u -/
def rLtT (K : PySem.W.Frag) : R2 := fun x y H Q => ∃ a b ns ms, x = .ref a ∧ y = .ref b ∧ SqT K H a (ns.map V.int) ∧ SqT K H b (ms.map V.int) ∧ Q (.bl (HT.lexLt ns ms)) H
theorem op_ltT (hu : X.A.units < cLine) : OpR X (compareOp .Lt) (rLtT X.K) := by
  intro pins s σ H x y v u Q I rx ry h
  obtain ⟨a, b, ns, ms, rfl, rfl, ha, hb, q⟩ := h
  cases rx
  cases ry
  obtain ⟨its, r1, p1, _⟩ := I.tuple ha
  obtain ⟨its2, r2, p2, _⟩ := I.tuple hb
  have i1 : IntsAre its.toArray.toList ns := intsAre_of r1
  have i2 : IntsAre its2.toArray.toList ms := intsAre_of r2
  exact HT.lt_tupInts p1 p2 i1 i2 hu ⟨.bl (HT.lexLt ns ms), H, I, rfl, q⟩
/-- t + u, t not empty: u empty gives t itself -/
def rCatT (K : PySem.W.Frag) : R2 := fun x y H Q => ∃ a b xs ys, x = .ref a ∧ y = .ref b ∧ SqT K H a xs ∧ SqT K H b ys ∧ xs ≠ [] ∧ xs.length + ys.length ≤ sizeLine ∧
  (ys = [] → Q (.ref a) H) ∧ (ys ≠ [] → ∀ p, H p = none → Q (.ref p) (upd H p (.tup (xs ++ ys))))
theorem Vals.nil_iff {xs : List V} {us : List Value} (r : Vals xs us) : us = [] ↔ xs = [] := by
  cases r with
  | nil => simp
  | cons _ _ => simp
theorem op_catT : OpR X (binaryOp .Add) (rCatT X.K) := by
  intro pins s σ H x y v u Q I rx ry h
  obtain ⟨a, b, xs, ys, rfl, rfl, ha, hb, hx, hz, q1, q2⟩ := h
  cases rx
  cases ry
  obtain ⟨its, r1, p1, _⟩ := I.tuple ha
  obtain ⟨its2, r2, p2, _⟩ := I.tuple hb
  refine HT.cat_tup p1 p2 (fun z => hx (r1.nil_iff.mp z)) (fun z => ⟨.ref a, H, I, rfl, q1 (r2.nil_iff.mp z)⟩) (fun z => ?_) (by rw [← r1.length, ← r2.length]; exact hz)
  refine ⟨.ref s.heap.objs.size, _, I.laid (t' := s.toks) (o := .tup (xs ++ ys)) (fun b ob q => Heap.get?_push_of_some _ q) (Nat.le_refl _) ?_, rfl, q2 (fun w => z (r2.nil_iff.mpr w)) _ (I.hok.fresh (Nat.le_refl _))⟩
  exact ⟨by rw [List.length_append]; exact hz, _, r1.append r2, IsTup.new _ _⟩
/-- tuple(t) -/
theorem call_tupleT : CallR X (.type "tuple") (fun xs H Q => ∃ a ys, xs = [.ref a] ∧ SqT X.K H a ys ∧ Q (.ref a) H) := by
  intro pins s σ H xs us Q I r h
  obtain ⟨a, ys, rfl, ha, q⟩ := h
  obtain ⟨u, rfl, ru⟩ := vals1 r
  cases ru
  obtain ⟨its, _, p1, _⟩ := I.tuple ha
  exact call_tuple_same (items := its.toArray) p1 ⟨.ref a, H, I, rfl, q⟩
end
end L2

namespace L2
open PySem PySem.Spec PyProof.Rows

/-! ### places -/
/-- the place that an index of any sign means -/
def ixN (n : Nat) (i : Int) : Option Nat := if 0 ≤ i then (if i < n then some i.toNat else none) else if -(n : Int) ≤ i then some (i + n).toNat else none
def atI {α : Type} (xs : List α) (i : Int) : Option α := (ixN xs.length i).bind fun j => xs[j]?
theorem ixN_seq {n : Nat} {i : Int} {j : Nat} (h : ixN n i = some j) : seqIndex? i n = some j ∧ j < n ∧ -(n : Int) ≤ i ∧ i < n := by
  unfold ixN at h
  by_cases h0 : 0 ≤ i
  · rw [if_pos h0] at h
    by_cases h1 : i < n
    · rw [if_pos h1] at h
      have e : i.toNat = j := Option.some.inj h
      exact ⟨by rw [seqIndex_of h0 h1, e], by omega, by omega, h1⟩
    · rw [if_neg h1] at h; cases h
  · rw [if_neg h0] at h
    by_cases h1 : -(n : Int) ≤ i
    · rw [if_pos h1] at h
      have e : (i + n).toNat = j := Option.some.inj h
      exact ⟨by rw [seqIndex_neg (by omega) h1, e], by omega, h1, by omega⟩
    · rw [if_neg h1] at h; cases h
theorem atI_get {α : Type} {xs : List α} {i : Int} {v : α} (h : atI xs i = some v) : ∃ j, seqIndex? i xs.length = some j ∧ xs[j]? = some v ∧ j < xs.length ∧ -(xs.length : Int) ≤ i ∧ i < xs.length := by
  unfold atI at h
  cases e : ixN xs.length i with
  | none => rw [e] at h; cases h
  | some j =>
    rw [e] at h
    obtain ⟨h1, h2, h3, h4⟩ := ixN_seq e
    exact ⟨j, h1, h, h2, h3, h4⟩
theorem atI_nat {α : Type} {xs : List α} {j : Nat} {v : α} (h : xs[j]? = some v) : atI xs (j : Int) = some v := by
  have hj : j < xs.length := (List.getElem?_eq_some_iff.mp h).1
  have e : ixN xs.length (j : Int) = some j := by
    unfold ixN
    rw [if_pos (by omega), if_pos (by omega)]; simp
  unfold atI; rw [e]; exact h
theorem atI_last {α : Type} (xs : List α) (v : α) : atI (xs ++ [v]) (-1) = some v := by
  have hl : (xs ++ [v]).length = xs.length + 1 := by simp
  have e : ixN (xs ++ [v]).length (-1) = some xs.length := by
    unfold ixN
    rw [hl, if_neg (by decide), if_pos (by omega)]
    congr 1
    omega
  unfold atI
  rw [e]
  show (xs ++ [v])[xs.length]? = some v
  simp

/-! ### what may be subscripted -/
/-- what stands as an index of a plain subscript -/
def PlainIx (b : Expr) : Prop := ∀ o i, subscripted b false o i = operate [o, i] (getItem o i)
/-- a subscript by values -/
def IxR (X : Cx) (r : R2) : Prop :=
  ∀ (value slice : Expr) (pins : List (Addr × Obj)) (s : Shared) (σ : St) (H : Hp) (x y : V) (v u : Value) (Q : VK), Inv X pins σ H s → RelV x v → RelV y u → r x y H Q →
    subscripted slice false v u = operate [v, u] (getItem v u) → wpAny (model X.prog X.w) X.A (subscriptTail value slice v u) (EP X pins σ Q) X.xe s
/-- a call of a builtin's method by values: the receiver, the arguments -/
def MtR (X : Cx) (id : String) (r : V → List V → Hp → VK → Prop) : Prop :=
  ∀ (pins : List (Addr × Obj)) (s : Shared) (σ : St) (H : Hp) (x : V) (xs : List V) (v : Value) (us : List Value) (Q : VK), Inv X pins σ H s → RelV x v → Vals xs us → r x xs H Q →
    wpAny (model X.prog X.w) X.A (call (.builtin id) (v :: us)) (EP X pins σ Q) X.xe s
section
variable {X : Cx} {a b : Expr} {ta tb : TE} {pos : Pos}
theorem IxR.or {r r' : R2} (h : IxR X r) (h' : IxR X r') : IxR X (fun x y H Q => r x y H Q ∨ r' x y H Q) := by
  intro value slice pins s σ H x y v u Q I rx ry q hs
  rcases q with q | q
  · exact h value slice pins s σ H x y v u Q I rx ry q hs
  · exact h' value slice pins s σ H x y v u Q I rx ry q hs
theorem MtR.or {id : String} {r r' : V → List V → Hp → VK → Prop} (h : MtR X id r) (h' : MtR X id r') : MtR X id (fun x xs H Q => r x xs H Q ∨ r' x xs H Q) := by
  intro pins s σ H x xs v us Q I rx rs q
  rcases q with q | q
  · exact h pins s σ H x xs v us Q I rx rs q
  · exact h' pins s σ H x xs v us Q I rx rs q
/-- a[b] -/
theorem pe_ix {r : R2} (hr : IxR X r) (ha : PE X a ta) (hb : PE X b tb) (hs : PlainIx b) : PE X (.Subscript a b pos) (tOp r ta tb) := by
  intro pins s σ H Q I h
  exact Subscript_ (binT ha hb I h fun v u s2 x y H2 I2 rx ry q => hr a b pins s2 σ H2 x y v u Q I2 rx ry q (hs _ _))

def rIxL (K : PySem.W.Frag) : R2 := fun x y H Q => ∃ p xs i v, x = .ref p ∧ y = .int i ∧ SqL K H p xs ∧ atI xs i = some v ∧ Q v H
def rIxT (K : PySem.W.Frag) : R2 := fun x y H Q => ∃ p xs i v, x = .ref p ∧ y = .int i ∧ SqT K H p xs ∧ atI xs i = some v ∧ Q v H
def rIxS : R2 := fun x y H Q => ∃ z i c, x = .str z ∧ y = .int i ∧ z.length ≤ sizeLine ∧ atI z.cps.toList i = some c ∧ Q (.str ⟨#[c]⟩) H
theorem ix_list : IxR X (rIxL X.K) := by
  intro value slice pins s σ H x y v u Q I rx ry h hs
  obtain ⟨p, xs, i, z, rfl, rfl, hq, he, q⟩ := h
  cases rx
  obtain ⟨t, rfl⟩ := ry
  obtain ⟨its, r, pl, hz⟩ := I.list hq
  obtain ⟨j, h1, h2, h3, h4, h5⟩ := atI_get he
  obtain ⟨w, ew, rw'⟩ := r.get h2
  have hl := r.length
  have hn := line63
  have fin : EP X pins σ Q w s := ⟨z, H, I, rw', q⟩
  by_cases h0 : 0 ≤ i
  · have hj : i.toNat = j := by
      rw [seqIndex_of h0 h5] at h1
      exact Option.some.inj h1
    exact item_listR pl.isList h0 (by omega) (by rw [hj]; simpa using ew) fin hs
  · have hj : (i + (its.toArray.size : Int)).toNat = j := by
      rw [seqIndex_neg (by omega) h4] at h1
      rw [List.size_toArray, ← hl]
      exact Option.some.inj h1
    exact subscriptTail_builtinR (x := w) pl.isList.typeIs slot_list_getitem.lookup
      (wpAny_getItem_list_neg (Q := fun r s' => r = w ∧ EP X pins σ Q r s') pl.isList (by omega) (by rw [List.size_toArray] <;> omega) (by omega) (by rw [hj]; simpa using ew) ⟨rfl, fin⟩) hs
theorem ix_tup : IxR X (rIxT X.K) := by
  intro value slice pins s σ H x y v u Q I rx ry h hs
  obtain ⟨p, xs, i, z, rfl, rfl, hq, he, q⟩ := h
  cases rx
  obtain ⟨t, rfl⟩ := ry
  obtain ⟨its, r, pl, hz⟩ := I.tuple hq
  obtain ⟨j, h1, h2, h3, h4, h5⟩ := atI_get he
  obtain ⟨w, ew, rw'⟩ := r.get h2
  have hl := r.length
  have hn := line63
  have fin : EP X pins σ Q w s := ⟨z, H, I, rw', q⟩
  exact subscriptTail_builtinR (x := w) pl.typeIs slot_tuple_getitem.lookup
    (getItem_tuple (j := j) (Q := fun r s' => r = w ∧ EP X pins σ Q r s') pl (by omega) (by omega) (by rw [List.size_toArray, ← hl]; exact h1) (by simpa using ew) ⟨rfl, fin⟩) hs
theorem ix_str : IxR X rIxS := by
  intro value slice pins s σ H x y v u Q I rx ry h hs
  obtain ⟨z, i, c, rfl, rfl, hz, he, q⟩ := h
  obtain ⟨t, rfl⟩ := rx
  obtain ⟨t', rfl⟩ := ry
  obtain ⟨j, h1, h2, h3, h4, h5⟩ := atI_get he
  have hl : z.cps.toList.length = z.length := by simp [Str.length]
  rw [hl] at h1 h4 h5
  have hn := line63
  exact tail_any (typeIs_str s z t) slot_str_getitem.lookup (getItem_str (c := c) (by
    have e1 : decide (i < -(2 ^ 63 : Int)) = false := decide_eq_false (by omega)
    have e2 : decide (i ≥ 2 ^ 63) = false := decide_eq_false (by omega)
    rw [e1, e2, Bool.or_false]) (by rw [h1]; simpa using h2) ⟨.str ⟨#[c]⟩, H, I.tok _, ⟨_, rfl⟩, q⟩) hs
/-- list, tuple or str -/
def rIx (K : PySem.W.Frag) : R2 := fun x y H Q => rIxL K x y H Q ∨ rIxT K x y H Q ∨ rIxS x y H Q
theorem ix_seq : IxR X (rIx X.K) := ix_list.or (ix_tup.or ix_str)

/-! ### xs[i] = v, any sign -/
/-- the list's object behind a store -/
theorem mapSeq_set (its : List Value) (n j : Nat) (u : Value) : Obj.mapSeq (·.setIfInBounds j u) { cls := .type "list", data := .seq its.toArray n } = { cls := .type "list", data := .seq (its.set j u).toArray n } := by
  simp [Obj.mapSeq]
theorem Inv.lst {pins : List (Addr × Obj)} {σ : St} {H : Hp} {s : Shared} {p : Addr} {xs : List V} (I : Inv X pins σ H s) (h : H p = some (.lst xs)) :
    ∃ (its : List Value) (n : Nat), Vals xs its ∧ s.heap.get? p = some { cls := .type "list", data := .seq its.toArray n } ∧ xs.length ≤ sizeLine := by
  obtain ⟨z, its, n, r, e⟩ := I.hok p _ h
  exact ⟨its, n, r, e, z⟩
/-- the list at p is written by an update of its object -/
theorem Inv.lstUpd {pins : List (Addr × Obj)} {σ : St} {H : Hp} {s : Shared} {p : Addr} {xs ys : List V} {its its' : List Value} {n n' : Nat} {f : Obj → Obj} (I : Inv X pins σ H s) (h : H p = some (.lst xs))
    (ho : s.heap.get? p = some { cls := .type "list", data := .seq its.toArray n }) (hf : f { cls := .type "list", data := .seq its.toArray n } = { cls := .type "list", data := .seq its'.toArray n' }) (r : Vals ys its') (hz : ys.length ≤ sizeLine) (t : Nat) :
    Inv X pins σ (upd H p (.lst ys)) { s with heap := s.heap.update p f, toks := t } := by
  have e : (s.heap.update p f).get? p = some { cls := .type "list", data := .seq its'.toArray n' } := by
    rw [Heap.get?_update_self f ho (by rw [hf] <;> rfl), hf]
  refine I.write (x := p) (e := p) (by rw [h]; trivial) (.inl rfl) (fun b u hb q => (Heap.get?_update_other _ _ (Ne.symm hb)).trans q) ⟨_, e⟩ ?_
  exact ⟨hz, its', n', r, e⟩
def rSetL : V → V → V → Hp → (Hp → Prop) → Prop := fun o i v H Q => ∃ p xs k j, o = .ref p ∧ i = .int k ∧ H p = some (.lst xs) ∧ ixN xs.length k = some j ∧ Q (upd H p (.lst (xs.set j v)))
theorem set_list : PSet X rSetL := by
  intro pins s σ H o i v ov iv u Q I ro ri rv h
  obtain ⟨p, xs, k, j, rfl, rfl, hp, hj, q⟩ := h
  cases ro
  obtain ⟨t, rfl⟩ := ri
  obtain ⟨its, n, r, ho, hz⟩ := I.lst hp
  obtain ⟨h1, h2, h3, h4⟩ := ixN_seq hj
  have hl := r.length
  have hn := line63
  have I' : Inv X pins σ (upd H p (.lst (xs.set j v))) { s with heap := s.heap.update p (Obj.mapSeq (·.setIfInBounds j u)) } :=
    I.lstUpd hp ho (mapSeq_set its n j u) (r.set rv j) (by rw [List.length_set]; exact hz) s.toks
  by_cases h0 : 0 ≤ k
  · have hk : k.toNat = j := by
      rw [seqIndex_of h0 h4] at h1
      exact Option.some.inj h1
    exact PySem.W.ki_setAt ho h0 (by omega) (by rw [List.size_toArray, ← hl]; exact h4) (by rw [hk]; exact ⟨_, I', q⟩)
  · have hk : (k + (its.toArray.size : Int)).toNat = j := by
      rw [seqIndex_neg (by omega) h3] at h1
      rw [List.size_toArray, ← hl]
      exact Option.some.inj h1
    exact PySem.W.ki_setBack ho (by omega) (by rw [List.size_toArray, ← hl]; exact h3) (by omega) (by rw [hk]; exact ⟨_, I', q⟩)

/-! ### slices -/
theorem slice_bounds (lo hi : Option Int) (n : Nat) : (sliceBounds lo hi none n).1 = ((HT.sIx n 0 lo : Nat) : Int) ∧ (sliceBounds lo hi none n).2.1 = ((HT.sIx n n hi : Nat) : Int) ∧ (sliceBounds lo hi none n).2.2 = 1 := by
  refine ⟨?_, ?_, rfl⟩
  · cases lo with
    | none => simp [sliceBounds, HT.sIx]
    | some i =>
      simp only [sliceBounds, HT.sIx, Option.getD_none, show (1 : Int) > 0 by decide, if_true]
      by_cases h : i < 0
      · simp only [h, if_true] <;> omega
      · simp only [h, if_false] <;> omega
  · cases hi with
    | none => simp [sliceBounds, HT.sIx]
    | some i =>
      simp only [sliceBounds, HT.sIx, Option.getD_none, show (1 : Int) > 0 by decide, if_true]
      by_cases h : i < 0
      · simp only [h, if_true] <;> omega
      · simp only [h, if_false] <;> omega
theorem slicePick_cut (its : List Value) (lo hi : Option Int) : slicePick its.toArray lo hi none = ((its.drop (HT.sIx its.length 0 lo)).take (HT.sIx its.length its.length hi - HT.sIx its.length 0 lo)).toArray := by
  obtain ⟨h1, h2, h3⟩ := slice_bounds lo hi its.toArray.size
  unfold slicePick
  rw [h1, h2, h3]
  simp only [sliceRange_one, pick_run, List.size_toArray] <;> rfl
/-- xs[lo:hi] of a list: a new list -/
def rSlL (K : PySem.W.Frag) : V → Option Int → Option Int → Hp → VK → Prop := fun x lo hi H Q => ∃ a xs, x = .ref a ∧ SqL K H a xs ∧ ∀ p, H p = none → Q (.ref p) (upd H p (.lst (cutV xs lo hi)))
theorem sl_list : SlR X (rSlL X.K) := by
  intro pins s σ H x v vl vu lo hi sl Q I rx hs pl pu h
  obtain ⟨a, xs, rfl, hx, q⟩ := h
  cases rx
  obtain ⟨its, r, ht, hz⟩ := I.list hx
  have hlen := r.length
  refine ⟨"list", _, slot_list_getitem.lookup, ht.isList.typeIs, ?_⟩
  refine wpAny_getItem_list_slice ht.isList hs pl pu .none (by simp) ?_ (by rw [List.size_toArray] <;> omega)
  rw [slicePick_cut, ← hlen]
  refine ⟨.ref s.heap.objs.size, _, I.laid (t' := s.toks) (o := .lst (cutV xs lo hi)) (fun b ob q => Heap.get?_push_of_some _ q) (Nat.le_refl _) ?_, rfl, q _ (I.hok.fresh (Nat.le_refl _))⟩
  exact ⟨Nat.le_trans (cutV_length xs lo hi) hz, _, 0, (r.drop (HT.sIx xs.length 0 lo)).take (HT.sIx xs.length xs.length hi - HT.sIx xs.length 0 lo), Heap.get?_push_size _ rfl⟩

/-! ### in, not in: flat items -/
def flatV : V → Bool
  | .non => true
  | .bl _ => true
  | .int _ => true
  | .str _ => true
  | _ => false
/-- == of flat values -/
def eqV : V → V → Bool
  | .non, .non => true
  | .bl a, .bl b => a == b
  | .bl a, .int b => (if a then 1 else 0) == b
  | .int a, .bl b => a == (if b then 1 else 0)
  | .int a, .int b => a == b
  | .str a, .str b => a == b
  | _, _ => false
theorem eqAt_V {A : Around} {s : Shared} {y x : V} {u v : Value} (ry : RelV y u) (rx : RelV x v) (fy : flatV y = true) (fx : flatV x = true) : SeqAt.EqAt A s u v (eqV y x) := by
  cases y with
  | non =>
    cases ry
    cases x with
    | non => cases rx; exact SeqAt.EqAt.same _
    | bl b => cases rx; exact SeqAt.EqAt.none_bool b
    | int b => obtain ⟨t, rfl⟩ := rx; exact SeqAt.EqAt.none_int b t
    | str b => obtain ⟨t, rfl⟩ := rx; exact SeqAt.EqAt.none_str b t
    | _ => exact absurd (show false = true from fx) Bool.false_ne_true
  | bl a =>
    cases ry
    cases x with
    | non => cases rx; exact SeqAt.EqAt.bool_none a
    | bl b => cases rx; exact SeqAt.EqAt.bool_bool a b
    | int b => obtain ⟨t, rfl⟩ := rx; exact SeqAt.EqAt.bool_int a b t
    | str b => obtain ⟨t, rfl⟩ := rx; exact SeqAt.EqAt.bool_str a b t
    | _ => exact absurd (show false = true from fx) Bool.false_ne_true
  | int a =>
    obtain ⟨t', rfl⟩ := ry
    cases x with
    | non => cases rx; exact SeqAt.EqAt.int_none a t'
    | bl b => cases rx; exact SeqAt.EqAt.int_bool a t' b
    | int b => obtain ⟨t, rfl⟩ := rx; exact SeqAt.EqAt.int_int a t' b t
    | str b => obtain ⟨t, rfl⟩ := rx; exact SeqAt.EqAt.int_str a t' b t
    | _ => exact absurd (show false = true from fx) Bool.false_ne_true
  | str a =>
    obtain ⟨t', rfl⟩ := ry
    cases x with
    | non => cases rx; exact SeqAt.EqAt.str_none a t'
    | bl b => cases rx; exact SeqAt.EqAt.str_bool a t' b
    | int b => obtain ⟨t, rfl⟩ := rx; exact SeqAt.EqAt.str_int a t' b t
    | str b => obtain ⟨t, rfl⟩ := rx; exact SeqAt.EqAt.str_str a t' b t
    | _ => exact absurd (show false = true from fx) Bool.false_ne_true
  | _ => exact absurd (show false = true from fy) Bool.false_ne_true
/-- the items' answers, read off the values (a value's own answer does not lean on its token) -/
def eqU (x : V) (u : Value) : Bool := match u with
  | .none => eqV .non x
  | .bool b => eqV (.bl b) x
  | .int i _ => eqV (.int i) x
  | .str z _ => eqV (.str z) x
  | _ => false
theorem eqU_of {x y : V} {u : Value} (r : RelV y u) (f : flatV y = true) : eqU x u = eqV y x := by
  cases y with
  | non => cases r; rfl
  | bl b => cases r; rfl
  | int i => obtain ⟨t, rfl⟩ := r; rfl
  | str z => obtain ⟨t, rfl⟩ := r; rfl
  | _ => exact absurd (show false = true from f) Bool.false_ne_true
theorem any_eqU {x : V} : ∀ {xs : List V} {us : List Value}, Vals xs us → xs.all flatV = true → us.any (eqU x) = xs.any fun y => eqV y x
  | _, _, .nil, _ => rfl
  | y :: xs, u :: us, .cons r t, f => by
    rw [List.all_cons, Bool.and_eq_true] at f
    rw [List.any_cons, List.any_cons, eqU_of r f.1, any_eqU t f.2]
theorem mem_eqAt {A : Around} {s : Shared} {x : V} {v : Value} (rx : RelV x v) (fx : flatV x = true) : ∀ {xs : List V} {us : List Value}, Vals xs us → xs.all flatV = true → ∀ u ∈ us, SeqAt.EqAt A s u v (eqU x u)
  | _, _, .nil, _ => fun u hu => by cases hu
  | y :: xs, u :: us, .cons r t, f => fun u' hu => by
    rw [List.all_cons, Bool.and_eq_true] at f
    rcases List.mem_cons.mp hu with rfl | hu
    · rw [eqU_of r f.1]; exact eqAt_V r rx f.1 fx
    · exact mem_eqAt rx fx t f.2 u' hu
def inV (x : V) (xs : List V) : Bool := xs.any fun y => eqV y x
/-- x in a list or tuple of flat items -/
def rIn (K : PySem.W.Frag) (neg : Bool) : R2 := fun x y H Q => ∃ p xs, y = .ref p ∧ (SqL K H p xs ∨ SqT K H p xs) ∧ flatV x = true ∧ xs.all flatV = true ∧ Q (.bl (if neg then !inV x xs else inV x xs)) H
theorem op_in_seq : OpR X (compareOp .In) (rIn X.K false) := by
  intro pins s σ H x y v u Q I rx ry h
  obtain ⟨p, xs, rfl, hq, fx, fs, q⟩ := h
  cases ry
  rcases hq with hq | hq
  · obtain ⟨its, r, pl, hz⟩ := I.list hq
    refine SeqAt.in_listAt (eqU x) pl.isList (fun w hw => mem_eqAt rx fx r fs w (by simpa using hw)) ⟨.bl _, H, I, rfl, ?_⟩
    rw [show its.toArray.any (eqU x) = its.any (eqU x) by simp, any_eqU r fs]
    exact q
  · obtain ⟨its, r, pl, hz⟩ := I.tuple hq
    refine SeqAt.in_tupleAt (eqU x) pl (fun w hw => mem_eqAt rx fx r fs w (by simpa using hw)) ⟨.bl _, H, I, rfl, ?_⟩
    rw [show its.toArray.any (eqU x) = its.any (eqU x) by simp, any_eqU r fs]
    exact q
theorem op_notIn_seq : OpR X (compareOp .NotIn) (rIn X.K true) := by
  intro pins s σ H x y v u Q I rx ry h
  obtain ⟨p, xs, rfl, hq, fx, fs, q⟩ := h
  cases ry
  rcases hq with hq | hq
  · obtain ⟨its, r, pl, hz⟩ := I.list hq
    refine SeqAt.notIn_listAt (eqU x) pl.isList (fun w hw => mem_eqAt rx fx r fs w (by simpa using hw)) ⟨.bl _, H, I, rfl, ?_⟩
    rw [show its.toArray.any (eqU x) = its.any (eqU x) by simp, any_eqU r fs]
    exact q
  · obtain ⟨its, r, pl, hz⟩ := I.tuple hq
    refine SeqAt.notIn_tupleAt (eqU x) pl (fun w hw => mem_eqAt rx fx r fs w (by simpa using hw)) ⟨.bl _, H, I, rfl, ?_⟩
    rw [show its.toArray.any (eqU x) = its.any (eqU x) by simp, any_eqU r fs]
    exact q
theorem op_notIn_str : OpR X (compareOp .NotIn) (fun x y H Q => ∃ i j, x = .str i ∧ y = .str j ∧ Q (.bl (!(!(Builtin.Str.occurrences j i 0 j.length 1).isEmpty))) H) := by
  intro pins s σ H x y v u Q I rx ry h
  obtain ⟨i, j, rfl, rfl, q⟩ := h
  obtain ⟨t, rfl⟩ := rx
  obtain ⟨t', rfl⟩ := ry
  exact notIn_str ⟨.bl _, H, I, rfl, q⟩

/-! ### len, list(x), tuple(x) of any list or tuple that is read -/
theorem call_len_seq : CallR X (.builtin "len") (fun xs H Q => ∃ p ys, xs = [.ref p] ∧ (SqL X.K H p ys ∨ SqT X.K H p ys) ∧ Q (.int ys.length) H) := by
  intro pins s σ H xs us Q I r h
  obtain ⟨p, ys, rfl, hq, q⟩ := h
  obtain ⟨u, rfl, rx⟩ := vals1 r
  cases rx
  have hn := line63
  rcases hq with hq | hq
  · obtain ⟨its, r', pl, hz⟩ := I.list hq
    have hlen := r'.length
    exact Calls.call_len_list pl.isList (by simp only [List.size_toArray] <;> omega) ⟨.int ys.length, H, I.tok _, ⟨s.toks + 1, by rw [List.size_toArray, hlen]⟩, q⟩
  · obtain ⟨its, r', pl, hz⟩ := I.tuple hq
    have hlen := r'.length
    exact len_tuple pl (by simp only [List.size_toArray] <;> omega) ⟨.int ys.length, H, I.tok _, ⟨s.toks + 1, by rw [List.size_toArray, hlen]⟩, q⟩
theorem call_len_str : CallR X (.builtin "len") (fun xs H Q => ∃ z, xs = [.str z] ∧ z.length ≤ sizeLine ∧ Q (.int z.length) H) := by
  intro pins s σ H xs us Q I r h
  obtain ⟨z, rfl, hz, q⟩ := h
  obtain ⟨u, rfl, t, rfl⟩ := vals1 r
  have hn := line63
  exact len_str (by omega) ⟨.int z.length, H, I.tok _, ⟨_, rfl⟩, q⟩
theorem CallR.or {f : Value} {r r' : List V → Hp → VK → Prop} (h : CallR X f r) (h' : CallR X f r') : CallR X f (fun xs H Q => r xs H Q ∨ r' xs H Q) := by
  intro pins s σ H xs us Q I rs q
  rcases q with q | q
  · exact h pins s σ H xs us Q I rs q
  · exact h' pins s σ H xs us Q I rs q
theorem call_list_of : CallR X (.type "list") (fun xs H Q => ∃ p ys, xs = [.ref p] ∧ (SqL X.K H p ys ∨ SqT X.K H p ys) ∧ ∀ l, H l = none → Q (.ref l) (upd H l (.lst ys))) := by
  intro pins s σ H xs us Q I r h
  obtain ⟨p, ys, rfl, hq, q⟩ := h
  obtain ⟨u, rfl, rx⟩ := vals1 r
  cases rx
  have fin : ∀ (its : List Value), Vals ys its → ys.length ≤ sizeLine → ∀ (h' : Heap) (c' : Nat), (∀ b o', s.heap.get? b = some o' → h'.get? b = some o') →
      h'.get? s.heap.objs.size = some { cls := .type "list", dict := none, data := .seq its.toArray c', slots := #[] } → EP X pins σ Q (.ref s.heap.objs.size) { s with heap := h' } := fun its r' hz h' c' kp e =>
    ⟨.ref s.heap.objs.size, _, I.laid (t' := s.toks) kp (Nat.le_refl _) (show ObjOk X.prog X.w _ h' _ (.lst ys) from ⟨hz, its, c', r', e⟩), rfl, q _ (I.hok.fresh (Nat.le_refl _))⟩
  rcases hq with hq | hq
  · obtain ⟨its, r', pl, hz⟩ := I.list hq
    have hlen := r'.length
    obtain ⟨o, ho, hc, n, hd⟩ := pl.isList
    exact call_list_seq p (.inl rfl) ho hc hd (fun h' c' kp e => fin its r' hz h' c' kp e) (by simp only [List.size_toArray] <;> omega)
  · obtain ⟨its, r', pl, hz⟩ := I.tuple hq
    have hlen := r'.length
    obtain ⟨o, ho, hc, n, hd⟩ := pl
    exact call_list_seq p (.inr rfl) ho hc hd (fun h' c' kp e => fin its r' hz h' c' kp e) (by simp only [List.size_toArray] <;> omega)
theorem call_tuple_of : CallR X (.type "tuple") (fun xs H Q => ∃ p ys, xs = [.ref p] ∧ ((SqL X.K H p ys ∧ ∀ l, H l = none → Q (.ref l) (upd H l (.tup ys))) ∨ (SqT X.K H p ys ∧ Q (.ref p) H))) := by
  intro pins s σ H xs us Q I r h
  obtain ⟨p, ys, rfl, h⟩ := h
  obtain ⟨u, rfl, rx⟩ := vals1 r
  cases rx
  rcases h with ⟨hq, q⟩ | ⟨hq, q⟩
  · obtain ⟨its, r', pl, hz⟩ := I.list hq
    have hlen := r'.length
    refine call_tuple_list pl.isList (fun h' kp => ?_) (by simp only [List.size_toArray] <;> omega)
    have I1 : Inv X pins σ H { s with heap := h' } := I.kept (t' := s.toks) kp
    have I2 : Inv X pins σ (upd H h'.objs.size (.tup ys)) { s with heap := h'.push { cls := .type "tuple", data := .seq its.toArray } } :=
      I1.laid (t' := s.toks) (fun b o e => Heap.get?_push_of_some _ e) (Nat.le_refl _) (show ObjOk X.prog X.w _ _ _ (.tup ys) from ⟨hz, its, r', IsTup.new _ _⟩)
    exact ⟨.ref h'.objs.size, _, I2, rfl, q _ (I1.hok.fresh (Nat.le_refl _))⟩
  · obtain ⟨its, r', pl, hz⟩ := I.tuple hq
    exact call_tuple_same pl ⟨.ref p, H, I, rfl, q⟩

/-! ### the call of a builtin's method: o.m(..) -/
/-- the value is of that builtin type -/
def tyV (K : PySem.W.Frag) (T : String) (x : V) (H : Hp) : Prop := match x with
  | .str _ => T = "str"
  | .int _ => T = "int"
  | .ref p => (T = "list" ∧ ∃ xs, SqL K H p xs) ∨ (T = "tuple" ∧ ∃ o, K.lookup p = some o ∧ o.cls = .type "tuple" ∧ o.dict = none) ∨
      (T = "dict" ∧ ((∃ kvs, H p = some (.dK kvs)) ∨ ∃ kvs, H p = some (.dT kvs))) ∨ (T = "set" ∧ ∃ S n, H p = some (.set S n))
  | _ => False
theorem tyV_is {pins : List (Addr × Obj)} {σ : St} {H : Hp} {s : Shared} {T : String} {x : V} {v : Value} (I : Inv X pins σ H s) (r : RelV x v) (ty : tyV X.K T x H) :
    s.TypeIs v T ∧ ∀ a, v = .ref a → ∃ ob, s.heap.get? a = some ob ∧ ob.dict = none := by
  cases x with
  | str z =>
    obtain ⟨t, rfl⟩ := r
    cases (show T = "str" from ty)
    exact ⟨typeIs_str s z t, fun _ e => nomatch e⟩
  | int i =>
    obtain ⟨t, rfl⟩ := r
    cases (show T = "int" from ty)
    exact ⟨typeIs_int s i t, fun _ e => nomatch e⟩
  | ref p =>
    cases r
    rcases ty with ⟨rfl, xs, hq⟩ | ⟨rfl, o, hk, hc, hd⟩ | ⟨rfl, hk⟩ | ⟨rfl, S, n, hk⟩
    · obtain ⟨its, _, pl, _⟩ := I.list hq
      refine ⟨pl.isList.typeIs, fun a e => ?_⟩
      cases e
      obtain ⟨o, n, e, c, hd, _⟩ := pl
      exact ⟨o, e, hd⟩
    · refine ⟨⟨o, I.kIn p o hk, hc⟩, fun a e => ?_⟩
      cases e
      exact ⟨o, I.kIn _ o hk, hd⟩
    · have z : ∃ o, s.heap.get? p = some o ∧ o.ExactDict := by
        rcases hk with ⟨kvs, hk⟩ | ⟨kvs, hk⟩
        · obtain ⟨_, _, _, _, o, _, _, e, ex, _⟩ := I.hok p _ hk
          exact ⟨o, e, ex⟩
        · obtain ⟨_, _, _, _, o, _, _, e, ex, _⟩ := I.hok p _ hk
          exact ⟨o, e, ex⟩
      obtain ⟨o, e, ex⟩ := z
      refine ⟨⟨o, e, ex.1⟩, fun a e2 => ?_⟩
      cases e2
      exact ⟨o, e, ex.2.1⟩
    · obtain ⟨o, _, _, _, e, ex, _⟩ := I.hok p _ hk
      refine ⟨⟨o, e, ex.1⟩, fun a e2 => ?_⟩
      cases e2
      exact ⟨o, e, ex.2.1⟩
  | _ => exact False.elim ty
def tBM0 (K : PySem.W.Frag) (T : String) (r : V → List V → Hp → VK → Prop) (to : TE) : TE := fun σ H Q => to σ H fun x H1 => tyV K T x H1 ∧ r x [] H1 Q
def tBM (K : PySem.W.Frag) (T : String) (r : V → List V → Hp → VK → Prop) (to : TE) (t : TA) : TE := fun σ H Q => to σ H fun x H1 => tyV K T x H1 ∧ t σ H1 fun xs H2 => r x xs H2 Q
variable {o e : Expr} {es : List Expr} {to : TE} {t : TA} {name : Str} {apos cpos : Pos} {T id : String} {r : V → List V → Hp → VK → Prop}
theorem pe_bm0 (pa : PlainAttrs T) (slot : Slot T name id) (hty : typeOf (.builtin id) = pure (.type "method_descriptor")) (hm : MtR X id r) (ho : PE X o to)
    (hbase : attributeBase o name X.env (eval o X.env) = eval o X.env := by rfl) (hline : (apos.endLine == cpos.line) = true := by rfl) : PE X (.Call (.Attribute o name apos) [] [] cpos) (tBM0 X.K T r to) := by
  intro pins s σ H Q I h
  refine wpAny_Call_method0_late hbase hline (thn (ho pins s σ H _ I h) fun v s1 ⟨x, H1, I1, r1, ty, q1⟩ => ?_)
  obtain ⟨h1, h2⟩ := tyV_is I1 r1 ty
  exact ⟨T, id, pa, slot, hty, h1, h2, Calls.callWith_builtin rfl (PySem.evalArgs_none (hm pins s1 σ H1 x [] v [] Q I1 r1 .nil q1))⟩
theorem pe_bm (pa : PlainAttrs T) (slot : Slot T name id) (hty : typeOf (.builtin id) = pure (.type "method_descriptor")) (hm : MtR X id r) (ho : PE X o to) (ha : PA X (e :: es) t)
    (hbase : attributeBase o name X.env (eval o X.env) = eval o X.env := by rfl)
    (hfew : ((backTo cpos (starEach (e :: es) X.env)).all (fun x => !x.1) && (backToKw cpos (keywordEach [] X.env)).all (fun x => x.1.isSome)
      && decide ((e :: es).length + ([] : List Keyword).length + (if ([] : List Keyword).isEmpty then 0 else 1) < 30)) = true := by rfl)
    (hline : (apos.endLine == cpos.line) = true := by rfl) (hs : starEach (e :: es) X.env = (false, eval e X.env) :: starEach es X.env := by rfl) (hplain : (backTo cpos (starEach es X.env)).any (·.1) = false := by rfl) :
    PE X (.Call (.Attribute o name apos) (e :: es) [] cpos) (tBM X.K T r to t) := by
  intro pins s σ H Q I h
  refine wpAny_Call_method_late hbase hfew hline rfl (thn (ho pins s σ H _ I h) fun v s1 ⟨x, H1, I1, r1, ty, q1⟩ => ?_)
  obtain ⟨h1, h2⟩ := tyV_is I1 r1 ty
  refine ⟨T, id, pa, slot, hty, h1, h2, ?_⟩
  have hA := ha cpos pins s1 σ H1 _ I1 q1
  rw [hs] at hA ⊢
  refine Calls.callWith_builtin (by show (false || (backTo cpos (starEach es X.env)).any (·.1)) = false; rw [hplain] <;> rfl) (Calls.evalArgs_plain ?_)
  exact thn hA fun us s2 ⟨vs, H2, I2, r2, q2⟩ => hm pins s2 σ H2 x vs v us Q I2 r1 r2 q2
/- xs.append(e), list.index on a module's tuple .. are MtR facts of 06m -/
end
end L2

namespace L2
open PySem PySem.Spec PyProof.Rows

def MtM (X : Cx) (id : String) (r : V → List V → Hp → VK → Prop) : Prop :=
  ∀ (pins : List (Addr × Obj)) (s : Shared) (σ : St) (H : Hp) (x : V) (xs : List V) (v : Value) (us : List Value) (Q : VK), Inv X pins σ H s → RelV x v → Vals xs us → r x xs H Q →
    wpAny (model X.prog X.w) X.A (call (.builtin id) (v :: us)) (EP X pins σ Q) X.xe s

/-! ### lists of values -/
theorem Vals.one : ∀ {x : V} {us : List Value}, Vals [x] us → ∃ u, us = [u] ∧ RelV x u
  | _, _, .cons r .nil => ⟨_, rfl, r⟩
theorem Vals.two : ∀ {x y : V} {us : List Value}, Vals [x, y] us → ∃ u v, us = [u, v] ∧ RelV x u ∧ RelV y v
  | _, _, _, .cons r (.cons q .nil) => ⟨_, _, rfl, r, q⟩
theorem Vals.zero : ∀ {us : List Value}, Vals [] us → us = []
  | _, .nil => rfl
theorem Vals.dropLast {xs : List V} {us : List Value} (h : Vals xs us) : Vals xs.dropLast us.dropLast := by
  induction h with
  | nil => exact .nil
  | cons r t ih =>
    cases t with
    | nil => exact .nil
    | cons q t' => exact .cons r ih
theorem Vals.eraseIdx : ∀ {xs : List V} {us : List Value} (i : Nat), Vals xs us → Vals (xs.eraseIdx i) (us.eraseIdx i)
  | _, _, _, .nil => .nil
  | _, _, 0, .cons _ t => t
  | _, _, i + 1, .cons r t => .cons r (Vals.eraseIdx i t)
theorem Vals.reverse {xs : List V} {us : List Value} (h : Vals xs us) : Vals xs.reverse us.reverse := by
  induction h with
  | nil => exact .nil
  | cons r t ih => rw [List.reverse_cons, List.reverse_cons]; exact Vals.append ih (.cons r .nil)
theorem Vals.rep {xs : List V} {us : List Value} (h : Vals xs us) : ∀ k : Nat, Vals (List.replicate k xs).flatten (List.replicate k us).flatten
  | 0 => .nil
  | k + 1 => by
    rw [List.replicate_succ, List.replicate_succ, List.flatten_cons, List.flatten_cons]
    exact Vals.append h (Vals.rep h k)
theorem erase_last {α : Type} (l : List α) : l.eraseIdx (l.length - 1) = l.dropLast := by
  induction l with
  | nil => rfl
  | cons a r ih =>
    cases r with
    | nil => rfl
    | cons b r =>
      have e : (a :: b :: r).length - 1 = ((b :: r).length - 1) + 1 := by
        have h1 : (a :: b :: r).length = r.length + 2 := rfl
        have h2 : (b :: r).length = r.length + 1 := rfl
        omega
      rw [e, List.eraseIdx_cons_succ, ih]
      all_goals rfl
theorem len_erase {α : Type} : ∀ (l : List α) (i : Nat), (l.eraseIdx i).length ≤ l.length
  | [], _ => Nat.le_refl _
  | _ :: _, 0 => Nat.le_succ _
  | _ :: r, i + 1 => Nat.succ_le_succ (len_erase r i)
theorem foldl_rep (its : List Value) : ∀ (k : Nat) (acc : List Value),
    List.foldl (fun x1 x2 => x1 ++ x2) acc.toArray (List.replicate k its.toArray) = (acc ++ (List.replicate k its).flatten).toArray
  | 0, acc => by simp
  | k + 1, acc => by
    have e : acc.toArray ++ its.toArray = (acc ++ its).toArray := by simp
    have e2 : (acc ++ its) ++ (List.replicate k its).flatten = acc ++ (List.replicate (k + 1) its).flatten := by
      rw [List.replicate_succ, List.flatten_cons, List.append_assoc]
    rw [← e2, ← foldl_rep its k (acc ++ its), ← e, List.replicate_succ, List.foldl_cons]

section
variable {X : Cx} {pins : List (Addr × Obj)} {σ : St} {H : Hp} {s : Shared} {l b : Addr} {xs ys zs : List V}

/-! ### the two steps: a tracked list is rewritten, a new list is laid -/
theorem Inv.lset {its its' : List Value} {n : Nat} {f : Array Value → Array Value} {t' : Nat} (I : Inv X pins σ H s) (hH : H l = some (.lst xs))
    (e : s.heap.get? l = some { cls := .type "list", data := .seq its.toArray n }) (hf : f its.toArray = its'.toArray) (hv : Vals ys its') (hz : ys.length ≤ sizeLine) :
    Inv X pins σ (upd H l (.lst ys)) { s with heap := s.heap.update l (Obj.mapSeq f), toks := t' } := by
  have q := PySem.IsL.update e f
  rw [hf] at q
  refine I.write (x := l) (e := l) (by rw [hH]; exact trivial) (.inl rfl) (fun b' u hb hu => (Heap.get?_update_other s.heap (Obj.mapSeq f) (Ne.symm hb)).trans hu) ⟨_, q⟩ ?_
  exact ⟨hz, its', _, hv, q⟩
theorem Inv.lnew {its : List Value} {t' : Nat} (I : Inv X pins σ H s) (hv : Vals ys its) (hz : ys.length ≤ sizeLine) :
    Inv X pins σ (upd H s.heap.objs.size (.lst ys)) { s with heap := s.heap.push { cls := .type "list", data := .seq its.toArray }, toks := t' } :=
  I.laid (fun _ _ q => Heap.get?_push_of_some _ q) (Nat.le_refl _) ⟨hz, its, 0, hv, Heap.get?_push_size _ rfl⟩
theorem Inv.fresh (I : Inv X pins σ H s) : H s.heap.objs.size = none := I.hok.fresh (Nat.le_refl _)
theorem Inv.lstM (I : Inv X pins σ H s) (hH : H l = some (.lst xs)) : xs.length ≤ sizeLine ∧ ∃ (its : List Value) (n : Nat), Vals xs its ∧ xs.length = its.length ∧ s.heap.get? l = some { cls := .type "list", data := .seq its.toArray n } := by
  obtain ⟨z, its, n, r, e⟩ := I.hok l _ hH
  exact ⟨z, its, n, r, r.length, e⟩

theorem notLongL {n : Nat} (h : n ≤ sizeLine) : Builtin.List.listTooLong n = false := by
  unfold Builtin.List.listTooLong
  exact decide_eq_false (by omega)
end

section
variable {X : Cx}

/-! ### methods -/
def rAppend : V → List V → Hp → VK → Prop := fun x vs H Q => ∃ l xs y, x = .ref l ∧ vs = [y] ∧ H l = some (.lst xs) ∧ xs.length < sizeLine ∧ Q .non (upd H l (.lst (xs ++ [y])))
theorem mt_append : MtM X "list.append" rAppend := by
  intro pins s σ H x vs v us Q I rx rv h
  obtain ⟨l, xs, y, rfl, rfl, hH, hz, q⟩ := h
  cases rx
  obtain ⟨u, rfl, ru⟩ := rv.one
  obtain ⟨z, its, n, r, hl, e⟩ := I.lstM hH
  refine call_meets F.slot_list_append ⟨_, e, rfl⟩ F.entry_list_append (F.args_list_append_2 _ _) (PySem.list_append l its.toArray n u (by rw [List.size_toArray]; omega)) ⟨e, ?_⟩
  refine ⟨.non, _, I.lset (its' := its ++ [u]) hH e (by simp) (r.append (.cons ru .nil)) ?_, rfl, q⟩
  rw [List.length_append, List.length_singleton]
  omega

def rExtend : V → List V → Hp → VK → Prop := fun x vs H Q => ∃ l b xs zs, x = .ref l ∧ vs = [.ref b] ∧ H l = some (.lst xs) ∧ H b = some (.lst zs) ∧ xs.length + zs.length ≤ sizeLine ∧ Q .non (upd H l (.lst (xs ++ zs)))
theorem mt_extend : MtM X "list.extend" rExtend := by
  intro pins s σ H x vs v us Q I rx rv h
  obtain ⟨l, b, xs, zs, rfl, rfl, hH, hB, hz, q⟩ := h
  cases rx
  obtain ⟨u, rfl, ru⟩ := rv.one
  cases ru
  obtain ⟨z, its, n, r, hl, e⟩ := I.lstM hH
  obtain ⟨z2, its2, n2, r2, hl2, e2⟩ := I.lstM hB
  have hsz : its.toArray.size + its2.toArray.size ≤ sizeLine := by rw [List.size_toArray, List.size_toArray]; omega
  have hlong : ¬ (!its.toArray.isEmpty && Builtin.List.listTooLong (its.toArray.size + its2.toArray.size)) = true := by
    rw [notLongL hsz, Bool.and_false]
    exact Bool.false_ne_true
  refine call_meets F.slot_list_extend ⟨_, e, rfl⟩ F.entry_list_extend (F.args_list_extend_2 _ _)
    (AutoSeq1.list_extend_list_list_0 l its.toArray n b its2.toArray n2 hlong (by rw [List.size_toArray]; omega) (by omega)) ⟨e, e2, ?_⟩
  refine ⟨.non, _, I.lset (its' := its ++ its2) hH e (by simp) (r.append r2) ?_, rfl, q⟩
  rw [List.length_append]
  omega

def rPop : V → List V → Hp → VK → Prop := fun x vs H Q => ∃ l xs y, x = .ref l ∧ vs = [] ∧ H l = some (.lst xs) ∧ xs[xs.length - 1]? = some y ∧ Q y (upd H l (.lst xs.dropLast))
theorem mt_pop : MtM X "list.pop" rPop := by
  intro pins s σ H x vs v us Q I rx rv h
  obtain ⟨l, xs, y, rfl, rfl, hH, hy, q⟩ := h
  cases rx
  have hus := rv.zero
  subst hus
  obtain ⟨z, its, n, r, hl, e⟩ := I.lstM hH
  obtain ⟨u, hu, ru⟩ := r.get hy
  have hy' : its.toArray[its.toArray.size - 1]? = some u := by
    show its.toArray[its.length - 1]? = some u
    rw [← Array.getElem?_toList, ← hl]
    exact hu
  refine call_meets F.slot_list_pop ⟨_, e, rfl⟩ F.entry_list_pop (F.args_list_pop_1 _) (MeetsSeq.list_pop_last l its.toArray n u hy' (by rw [List.size_toArray]; omega)) ⟨e, ?_⟩
  refine ⟨y, _, I.lset (its' := its.dropLast) hH e ?_ r.dropLast ?_, ru, q⟩
  · show its.toArray.eraseIdxIfInBounds (its.toArray.size - 1) = its.dropLast.toArray
    rw [List.size_toArray, List.eraseIdxIfInBounds_toArray, erase_last]
  · rw [List.length_dropLast]
    omega

def rPopAt : V → List V → Hp → VK → Prop := fun x vs H Q => ∃ l xs i k y, x = .ref l ∧ vs = [.int i] ∧ H l = some (.lst xs) ∧ -(2 ^ 63) ≤ i ∧ i < 2 ^ 63 ∧ seqIndex? i xs.length = some k ∧ xs[k]? = some y ∧ Q y (upd H l (.lst (xs.eraseIdx k)))
theorem mt_popAt : MtM X "list.pop" rPopAt := by
  intro pins s σ H x vs v us Q I rx rv h
  obtain ⟨l, xs, i, k, y, rfl, rfl, hH, h1, h2, hk, hy, q⟩ := h
  cases rx
  obtain ⟨u, rfl, ru⟩ := rv.one
  obtain ⟨t, rfl⟩ := ru
  obtain ⟨z, its, n, r, hl, e⟩ := I.lstM hH
  obtain ⟨w, hw, rw'⟩ := r.get hy
  refine call_meets F.slot_list_pop ⟨_, e, rfl⟩ F.entry_list_pop (F.args_list_pop_2 _ _)
    (MeetsSeq.list_pop_at l its.toArray n i t k w (fitsIndex_both h1 h2) (by rw [List.size_toArray, ← hl]; exact hk) (by rw [← Array.getElem?_toList]; exact hw) (by rw [List.size_toArray]; omega)) ⟨e, ?_⟩
  refine ⟨y, _, I.lset (its' := its.eraseIdx k) hH e ?_ (r.eraseIdx k) ?_, rw', q⟩
  · show its.toArray.eraseIdxIfInBounds k = (its.eraseIdx k).toArray
    rw [List.eraseIdxIfInBounds_toArray]
  · have := len_erase xs k
    omega

def rReverse : V → List V → Hp → VK → Prop := fun x vs H Q => ∃ l xs, x = .ref l ∧ vs = [] ∧ H l = some (.lst xs) ∧ Q .non (upd H l (.lst xs.reverse))
theorem mt_reverse : MtM X "list.reverse" rReverse := by
  intro pins s σ H x vs v us Q I rx rv h
  obtain ⟨l, xs, rfl, rfl, hH, q⟩ := h
  cases rx
  have hus := rv.zero
  subst hus
  obtain ⟨z, its, n, r, hl, e⟩ := I.lstM hH
  refine call_meets F.slot_list_reverse ⟨_, e, rfl⟩ F.entry_list_reverse (F.args_list_reverse_1 _) (AutoSeq1.list_reverse_list_0 l its.toArray n (by rw [List.size_toArray]; omega)) ⟨e, ?_⟩
  refine ⟨.non, _, I.lset (its' := its.reverse) hH e (by simp) r.reverse ?_, rfl, q⟩
  rw [List.length_reverse]
  omega

def rClear : V → List V → Hp → VK → Prop := fun x vs H Q => ∃ l xs, x = .ref l ∧ vs = [] ∧ H l = some (.lst xs) ∧ Q .non (upd H l (.lst []))
theorem mt_clear : MtM X "list.clear" rClear := by
  intro pins s σ H x vs v us Q I rx rv h
  obtain ⟨l, xs, rfl, rfl, hH, q⟩ := h
  cases rx
  have hus := rv.zero
  subst hus
  obtain ⟨z, its, n, r, hl, e⟩ := I.lstM hH
  refine call_meets F.slot_list_clear ⟨_, e, rfl⟩ F.entry_list_clear (F.args_list_clear_1 _) (AutoSeq1.list_clear_list_0 l its.toArray n (by rw [List.size_toArray]; omega)) ⟨e, ?_⟩
  exact ⟨.non, _, I.lset (its' := []) (ys := []) hH e rfl .nil (Nat.zero_le _), rfl, q⟩

/-! ### list + list, list += list, list * int -/
def rCat : R2 := fun x y H Q => ∃ l b xs zs, x = .ref l ∧ y = .ref b ∧ H l = some (.lst xs) ∧ H b = some (.lst zs) ∧ xs.length + zs.length ≤ sizeLine ∧ ∀ p, H p = none → Q (.ref p) (upd H p (.lst (xs ++ zs)))
theorem op_cat : OpR X (binaryOp .Add) rCat := by
  intro pins s σ H x y v u Q I rx ry h
  obtain ⟨l, b, xs, zs, rfl, rfl, hH, hB, hz, q⟩ := h
  cases rx
  cases ry
  obtain ⟨z, its, n, r, hl, e⟩ := I.lstM hH
  obtain ⟨z2, its2, n2, r2, hl2, e2⟩ := I.lstM hB
  refine PySem.P.add_list e e2 ?_ (by rw [List.size_toArray, List.size_toArray]; omega)
  have ea : its.toArray ++ its2.toArray = (its ++ its2).toArray := by simp
  rw [ea]
  exact ⟨.ref _, _, I.lnew (t' := s.toks) (r.append r2) (by rw [List.length_append]; omega), rfl, q _ I.fresh⟩
/-- a list times an int (a negative one is nothing) -/
def rRep : R2 := fun x y H Q => ∃ l k xs, x = .ref l ∧ y = .int k ∧ H l = some (.lst xs) ∧ -(2 ^ 63) ≤ k ∧ k < 2 ^ 63 ∧ xs.length * k.toNat ≤ sizeLine ∧
  ∀ p, H p = none → Q (.ref p) (upd H p (.lst (List.replicate k.toNat xs).flatten))
theorem len_rep {α : Type} (xs : List α) (k : Nat) : (List.replicate k xs).flatten.length = k * xs.length := by
  induction k with
  | zero => simp
  | succ k ih => rw [List.replicate_succ, List.flatten_cons, List.length_append, ih, Nat.succ_mul, Nat.add_comm]
theorem op_rep : OpR X (binaryOp .Mult) rRep := by
  intro pins s σ H x y v u Q I rx ry h
  obtain ⟨l, k, xs, rfl, rfl, hH, h1, h2, hz, q⟩ := h
  cases rx
  obtain ⟨t, rfl⟩ := ry
  obtain ⟨z, its, n, r, hl, e⟩ := I.lstM hH
  have hlen : its.toArray.size * k.toNat ≤ sizeLine := by rw [List.size_toArray, ← hl]; exact hz
  have hcap : ¬ its.toArray.size * k.toNat > (2 ^ 63 - 1) / 8 := by
    have : (sizeLine : Nat) ≤ (2 ^ 63 - 1) / 8 := by decide
    omega
  have hfit : ¬ (!Builtin.List.listFitsIndex k) = true := by
    rw [fitsIndex_both h1 h2]
    exact Bool.false_ne_true
  have hlong : ¬ Builtin.List.listTooLong (its.toArray.size * k.toNat) = true := by
    rw [notLongL hlen]
    exact Bool.false_ne_true
  have hnew : List.foldl (fun x1 x2 => x1 ++ x2) #[] (List.replicate (if its.toArray.isEmpty = true then 0 else k.toNat) its.toArray) = (List.replicate k.toNat its).flatten.toArray := by
    have f0 : ∀ m : Nat, List.foldl (fun x1 x2 => x1 ++ x2) #[] (List.replicate m its.toArray) = (List.replicate m its).flatten.toArray := fun m => by
      have := foldl_rep its m []
      rw [List.nil_append] at this
      exact this
    rw [f0]
    cases its with
    | nil => simp
    | cons a r' => rw [if_neg (by simp)]
  refine wpAny_binaryOp_repeat_ref (T := "list") (U := "int") (by decide) ⟨_, e, rfl⟩ (fun s' => typeIs_int s' k t) noFill_list_mul F.fills_int_mul F.slot_int_rmul repeat_list F.slot_int_index.lookup
    (call_meets F.slot_int_rmul (typeIs_int s k t) F.entry_int_rmul (F.args_int_rmul_2 _ _) (int___rmul___int_list k t l its.toArray n)
      ⟨e, rfl, ⟨_, e, rfl⟩, call_meets F.slot_list_mul ⟨_, e, rfl⟩ F.entry_list_mul (F.args_list_mul_2 _ _) (AutoListH.list___mul___list_int_3 l its.toArray n k t hfit hcap hlong) ⟨e, ?_⟩⟩)
  rw [hnew]
  exact ⟨.ref _, _, I.lnew (t' := s.toks) (r.rep k.toNat) (by rw [len_rep, Nat.mul_comm]; exact hz), rfl, q _ I.fresh⟩

/-! ### del xs[i] -/
theorem del_list {pins : List (Addr × Obj)} {s : Shared} {σ : St} {H : Hp} {l : Addr} {xs : List V} {i : Int} {t : Tok} {k : Nat} {Q : Unit → Shared → Prop} (I : Inv X pins σ H s) (hH : H l = some (.lst xs))
    (h1 : -(2 ^ 63) ≤ i) (h2 : i < 2 ^ 63) (hk : seqIndex? i xs.length = some k) (h : ∀ s', Inv X pins σ (upd H l (.lst (xs.eraseIdx k))) s' → Q () s') :
    wpAny (model X.prog X.w) X.A (delItem (.ref l) (.int i t)) Q X.xe s := by
  obtain ⟨z, its, n, r, hl, e⟩ := I.lstM hH
  refine PySem.P.delItem_list (k := k) e (fitsIndex_both h1 h2) (by rw [List.size_toArray, ← hl]; exact hk) (h _ ?_) (by rw [List.size_toArray]; omega)
  refine I.lset (its' := its.eraseIdx k) (t' := s.toks) hH e ?_ (r.eraseIdx k) ?_
  · show its.toArray.eraseIdxIfInBounds k = (its.eraseIdx k).toArray
    rw [List.eraseIdxIfInBounds_toArray]
  · have := len_erase xs k
    omega
end

/-! ### xs[a:b] = ys -/
section
variable {prog : Program} {w : World} {A : Around} {E : Value → Shared → Prop} {s : Shared}
theorem splice_eq (its its2 : List Value) (a c : Nat) : its.toArray.extract 0 a ++ its2.toArray ++ its.toArray.extract c its.toArray.size = (its.take a ++ its2 ++ its.drop c).toArray := by
  apply Array.toList_inj.mp
  first
    | (simp
       exact List.take_of_length_le (by simp))
    | simp [List.take_of_length_le]
    | simp
theorem bounds_run {a c n : Nat} (hac : a ≤ c) (hc : c ≤ n) : sliceBounds (some (a : Int)) (some (c : Int)) none n = ((a : Int), (c : Int), 1) := by
  simp only [sliceBounds, Option.getD_none]
  have h1 : ¬ ((a : Int) < 0) := by omega
  have h2 : ¬ ((c : Int) < 0) := by omega
  simp only [h1, h2, if_false, show (1 : Int) > 0 by decide, if_true]
  congr 1
  · omega
  · congr 1; omega
set_option maxRecDepth 100000 in
/-- list.__setitem__ with a slice of step one and another list -/
theorem setItem_slice {l b sl : Addr} {items new : Array Value} {n n2 : Nat} {vl vu : Value} {a c : Nat} {Q : Unit → Shared → Prop}
    (e : s.heap.get? l = some { cls := .type "list", data := .seq items n }) (e2 : s.heap.get? b = some { cls := .type "list", data := .seq new n2 }) (hne : l ≠ b)
    (hs : s.heap.IsSliceOf sl vl vu .none) (pl : IsPart vl (some (a : Int))) (pu : IsPart vu (some (c : Int))) (hac : a ≤ c) (hc : c ≤ items.size)
    (hsz : items.size + new.size ≤ sizeLine) (h : Q () { s with heap := s.heap.update l (Obj.mapSeq fun xs => xs.extract 0 a ++ new ++ xs.extract c xs.size) }) :
    wpAny (model prog w) A (setItem (.ref l) (.ref sl) (.ref b)) Q E s := by
  have hl : s.heap.IsList l items := PySem.IsL.isList e
  have hb : s.heap.IsList b new := PySem.IsL.isList e2
  obtain ⟨os, hos, hcs, hds⟩ := id hs
  have hTs : s.TypeIs (.ref sl) "slice" := ⟨os, hos, hcs⟩
  have hstep : ¬ ((rawPart none == rawInt 0) = true) := Bool.false_ne_true
  have hsame : Builtin.List.listSameRef (.ref l) (.ref b) = false := by
    unfold Builtin.List.listSameRef
    exact beq_eq_false_iff_ne.mpr hne
  have hmax : (max (a : Int) (c : Int)).toNat = c := by omega
  have hz' : ((fun xs : Array Value => xs.extract 0 a ++ new ++ xs.extract c xs.size) items).size ≤ sizeLine + 1 := by
    simp only [Array.size_append, Array.size_extract]
    omega
  unfold setItem
  try with_reducible refine wpAny_holding ?_
  first | refine wpAny_bind (wpAny_pure ?_) | skip
  refine wpAny_bind (wpAny_sequenceKey hl.typeIs (by decide) ?_)
  refine wpAny_bind (wpAny_callSpecial?_slot (name := Str.ofString "__setitem__") hl.typeIs slot_list_setitem
    (wpAny_call_entry slot_list_setitem hl.typeIs entry_list_setitem ?_ (args_list_setitem _ _ _)))
  show wpAny _ _ (Builtin.List.listSubscript? (.ref sl) >>= _) _ _ s
  refine wpAny_bind ?_
  unfold Builtin.List.listSubscript?
  refine wpAny_bind (wpAny_specialOf hTs slice_no_index ?_)
  simp only [Option.isNone_none, if_true]
  refine wpAny_pure ?_
  show wpAny _ _ (typeOf (.ref sl) >>= _) _ _ s
  refine wpAny_bind (wpAny_typeOf hTs ?_)
  first
    | rw [if_neg (by decide)]
    | refine PySem.W.KFB.if_not (by decide) ?_
  rw [listSliceParts_eq]
  refine wpAny_bind (wpAny_bind (wpAny_field hos hds (x := .none) rfl (wpAny_bind (wpAny_listPart .none ?_))))
  rw [if_neg hstep]
  refine wpAny_bind (wpAny_field hos hds (x := vl) rfl (wpAny_bind (wpAny_listPart pl ?_)))
  refine wpAny_bind (wpAny_field hos hds (x := vu) rfl (wpAny_bind (wpAny_listPart pu (wpAny_pure ?_))))
  first
    | simp only [hsame, Bool.false_eq_true, if_false]
    | refine PySem.W.KFB.if_not hsame ?_
    | (dsimp only
       rw [if_neg (by rw [hsame]; exact Bool.false_ne_true)])
  refine wpAny_bind (m := Builtin.List.listAllItems (.ref b) "must assign iterable to extended slice") ?_
  unfold Builtin.List.listAllItems
  refine wpAny_bind (wpAny_typeOf hb.typeIs ?_)
  first
    | refine PySem.W.KFB.if_so (by decide) ?_
    | rw [if_pos (by decide)]
    | simp only [beq_self_eq_true, Bool.true_or, if_true]
  unfold Builtin.List.listItems
  refine wpAny_bind (wpAny_seqItems e2 rfl (wpAny_pure ?_))
  refine wpAny_bind (wpAny_bind (wpAny_seqItems e rfl (wpAny_pure ?_)))
  refine wpAny_bind (wpAny_of_eq ((sliceIndices_raw (some (a : Int)) (some (c : Int)) none items.size (by simp)).trans (congrArg (pure : Int × Int × Int → Sem (Int × Int × Int)) (bounds_run hac hc))) ?_)
  show wpAny _ _ (if ((1 : Int) == 1) = true then _ else _) _ _ s
  rw [if_pos (by decide)]
  refine wpAny_bind (wpAny_rule ?_)
  first
    | simp only [notLongL hsz, Bool.false_eq_true, if_false]
    | refine PySem.W.KFB.if_not (notLongL hsz) ?_
  first | refine wpAny_bind (wpAny_pure ?_) | skip
  show wpAny _ _ (updateSeq l (fun xs => xs.extract 0 ((a : Int)).toNat ++ new ++ xs.extract (max (a : Int) (c : Int)).toNat xs.size) >>= _) _ _ s
  rw [hmax, Int.toNat_natCast]
  refine wpAny_bind (wpAny_updateSeq (hz := Nat.le_trans (Nat.le_add_right _ _) hsz) (_hz' := hz') e rfl ?_)
  refine wpAny_bind (wpAny_letGo ?_)
  first
    | exact wpAny_bind (wpAny_pure (wpAny_pure ⟨.none, rfl, wpAny_pure h⟩))
    | exact wpAny_pure ⟨.none, rfl, wpAny_pure h⟩
end

section
variable {X : Cx}
/-- xs[a:c] = ys of another list, at the value level: sl is the slice object that was just made -/
theorem set_slice {pins : List (Addr × Obj)} {s : Shared} {σ : St} {H : Hp} {l b sl : Addr} {xs ys : List V} {a c : Int} {vl vu : Value} {Q : Unit → Shared → Prop} (I : Inv X pins σ H s)
    (hH : H l = some (.lst xs)) (hB : H b = some (.lst ys)) (hne : l ≠ b) (hs : s.heap.IsSliceOf sl vl vu .none) (ra : RelV (.int a) vl) (rc : RelV (.int c) vu) (h0 : 0 ≤ a) (hac : a ≤ c) (hc : c ≤ xs.length)
    (hz : xs.length + ys.length ≤ sizeLine) (h : ∀ s', Inv X pins σ (upd H l (.lst (xs.take a.toNat ++ ys ++ xs.drop c.toNat))) s' → Q () s') :
    wpAny (model X.prog X.w) X.A (setItem (.ref l) (.ref sl) (.ref b)) Q X.xe s := by
  obtain ⟨ta, rfl⟩ := ra
  obtain ⟨tc, rfl⟩ := rc
  obtain ⟨z, its, n, r, hl, e⟩ := I.lstM hH
  obtain ⟨z2, its2, n2, r2, hl2, e2⟩ := I.lstM hB
  obtain ⟨a', rfl⟩ := Int.eq_ofNat_of_zero_le h0
  obtain ⟨c', rfl⟩ := Int.eq_ofNat_of_zero_le (Int.le_trans h0 hac)
  simp only [Int.toNat_natCast] at h
  refine setItem_slice (a := a') (c := c') e e2 hne hs (.int _ _) (.int _ _) (by omega) (by rw [List.size_toArray]; omega) (by rw [List.size_toArray, List.size_toArray]; omega) (h _ ?_)
  refine I.lset (its' := its.take a' ++ its2 ++ its.drop c') (t' := s.toks) hH e ?_ (Vals.append (Vals.append (r.take _) r2) (r.drop _)) ?_
  · exact splice_eq its its2 a' c'
  · rw [List.length_append, List.length_append, List.length_take, List.length_drop]
    omega
end
end L2

namespace L2
open PySem PySem.Spec PyProof.Rows

/-! ### lists of pairs as tables -/
section
variable {κ : Type} [DecidableEq κ]
def valV (kvs : List (κ × V)) (k : κ) : Option V := (kvs.find? fun kv => decide (kv.1 = k)).map (·.2)
/-- in its place, or at the end -/
def putK (kvs : List (κ × V)) (k : κ) (v : V) : List (κ × V) :=
  if (kvs.any fun kv => decide (kv.1 = k)) = true then kvs.map (fun kv => if kv.1 = k then (kv.1, v) else kv) else kvs ++ [(k, v)]
def dropK (kvs : List (κ × V)) (k : κ) : List (κ × V) := kvs.filter fun kv => decide (kv.1 ≠ k)

theorem valV_nil {k : κ} : valV ([] : List (κ × V)) k = none := rfl
theorem valV_pos {p : κ × V} {r : List (κ × V)} {k : κ} (e : p.1 = k) : valV (p :: r) k = some p.2 := by simp [valV, List.find?_cons, e]
theorem valV_neg {p : κ × V} {r : List (κ × V)} {k : κ} (e : ¬ p.1 = k) : valV (p :: r) k = valV r k := by simp [valV, List.find?_cons, e]
theorem valV_any (k : κ) : ∀ kvs : List (κ × V), (kvs.any fun kv => decide (kv.1 = k)) = (valV kvs k).isSome
  | [] => rfl
  | p :: r => by
    rw [List.any_cons]
    by_cases e : p.1 = k
    · simp only [valV_pos e, decide_eq_true e, Bool.true_or, Option.isSome_some]
    · rw [valV_neg e, decide_eq_false e, Bool.false_or]; exact valV_any k r
theorem valV_map (k j : κ) (y : V) : ∀ kvs : List (κ × V), valV (kvs.map fun kv => if kv.1 = k then (kv.1, y) else kv) j = (valV kvs j).map fun x => if j = k then y else x
  | [] => rfl
  | p :: r => by
    have ih := valV_map k j y r
    rw [List.map_cons]
    by_cases h : p.1 = k
    · rw [if_pos h]
      by_cases e : p.1 = j
      · rw [valV_pos (p := (p.1, y)) e, valV_pos e, Option.map_some, if_pos (e.symm.trans h)]
      · rw [valV_neg (p := (p.1, y)) e, valV_neg e, ih]
    · rw [if_neg h]
      by_cases e : p.1 = j
      · rw [valV_pos (p := p) e, valV_pos e, Option.map_some, if_neg (fun z => h (e.trans z))]
      · rw [valV_neg (p := p) e, valV_neg e, ih]
theorem valV_snoc (k j : κ) (y : V) : ∀ kvs : List (κ × V), valV kvs k = none → valV (kvs ++ [(k, y)]) j = if j = k then some y else valV kvs j
  | [], _ => by
    by_cases e : k = j
    · rw [if_pos e.symm]; exact valV_pos (p := (k, y)) e
    · rw [if_neg (fun z => e z.symm)]; exact valV_neg (p := (k, y)) e
  | p :: r, hn => by
    rw [List.cons_append]
    have hk : ¬ p.1 = k := fun z => by rw [valV_pos z] at hn; cases hn
    rw [valV_neg hk] at hn
    have ih := valV_snoc k j y r hn
    by_cases e : p.1 = j
    · rw [valV_pos e, valV_pos e, if_neg (fun z => hk (e.trans z))]
    · rw [valV_neg e, valV_neg e, ih]
theorem valV_put (kvs : List (κ × V)) (k j : κ) (y : V) : valV (putK kvs k y) j = if j = k then some y else valV kvs j := by
  unfold putK
  by_cases a : (kvs.any fun kv => decide (kv.1 = k)) = true
  · rw [if_pos a, valV_map]
    rw [valV_any] at a
    by_cases e : j = k
    · obtain ⟨x, hx⟩ := Option.isSome_iff_exists.mp a
      rw [if_pos e, e, hx, Option.map_some, if_pos rfl]
    · rw [if_neg e]
      cases valV kvs j with
      | none => rfl
      | some x => rw [Option.map_some, if_neg e]
  · rw [if_neg a]
    refine valV_snoc k j y kvs ?_
    rw [valV_any] at a
    cases q : valV kvs k with
    | none => rfl
    | some x => rw [q] at a; exact (a rfl).elim
theorem length_putK (kvs : List (κ × V)) (k : κ) (v : V) : (putK kvs k v).length ≤ kvs.length + 1 := by
  unfold putK
  split
  · rw [List.length_map]; omega
  · rw [List.length_append, List.length_cons, List.length_nil]; omega
theorem putK_new {kvs : List (κ × V)} {k : κ} (v : V) (h : valV kvs k = none) : putK kvs k v = kvs ++ [(k, v)] := by
  unfold putK
  rw [valV_any, h]
  exact if_neg (by decide)

theorem RelO.isSome_eq {o : Option V} {u : Option Value} (r : RelO o u) : o.isSome = u.isSome := by
  cases o with
  | none => cases u with
    | none => rfl
    | some _ => exact (show False from r).elim
  | some _ => cases u with
    | none => exact (show False from r).elim
    | some _ => rfl
theorem RelO.getD {o : Option V} {u : Option Value} {d : V} {d' : Value} (r : RelO o u) (rd : RelV d d') : RelV (o.getD d) (u.getD d') := by
  cases o with
  | none => cases u with
    | none => exact rd
    | some _ => exact (show False from r).elim
  | some _ => cases u with
    | none => exact (show False from r).elim
    | some _ => exact r

/-- raw tables of the same keys -/
theorem KV.val {kvs : List (κ × V)} {vs : List (κ × Value)} (r : KV kvs vs) (k : κ) : RelO (valV kvs k) (valueAt vs k) := by
  unfold KV at r
  induction r with
  | nil => exact True.intro
  | @cons p q ps qs h t ih =>
    obtain ⟨h1, h2⟩ := h
    by_cases e : p.1 = k
    · have e' : q.1 = k := h1.symm.trans e
      have b : valueAt (q :: qs) k = some q.2 := by simp [valueAt, List.find?_cons, e']
      rw [valV_pos e, b]; exact h2
    · have e' : ¬ q.1 = k := fun z => e (h1.trans z)
      have b : valueAt (q :: qs) k = valueAt qs k := by simp [valueAt, List.find?_cons, e']
      rw [valV_neg e, b]; exact ih
theorem KV.any {kvs : List (κ × V)} {vs : List (κ × Value)} (r : KV kvs vs) (k : κ) : (kvs.any fun kv => decide (kv.1 = k)) = vs.any fun kv => decide (kv.1 = k) := by
  unfold KV at r
  induction r with
  | nil => rfl
  | cons h t ih => rw [List.any_cons, List.any_cons, ih, h.1]
theorem KV.repl {kvs : List (κ × V)} {vs : List (κ × Value)} (r : KV kvs vs) (k : κ) {y : V} {u : Value} (ry : RelV y u) :
    KV (kvs.map fun kv => if kv.1 = k then (kv.1, y) else kv) (vs.map fun kv => if kv.1 = k then (kv.1, u) else kv) := by
  unfold KV at r ⊢
  induction r with
  | nil => exact .nil
  | @cons p q ps qs h t ih =>
    rw [List.map_cons, List.map_cons]
    refine .cons ?_ ih
    obtain ⟨h1, h2⟩ := h
    by_cases e : p.1 = k
    · rw [if_pos e, if_pos (h1.symm.trans e)]; exact ⟨h1, ry⟩
    · rw [if_neg e, if_neg (fun z => e (h1.trans z))]; exact ⟨h1, h2⟩
theorem KV.put {kvs : List (κ × V)} {vs : List (κ × Value)} (r : KV kvs vs) (k : κ) {y : V} {u : Value} (ry : RelV y u) : KV (putK kvs k y) (stored vs k u) := by
  unfold putK stored
  rw [r.any k]
  by_cases e : (vs.any fun kv => decide (kv.1 = k)) = true
  · rw [if_pos e, if_pos e]; exact r.repl k ry
  · rw [if_neg e, if_neg e]; exact Paired.snoc r ⟨rfl, ry⟩
theorem KV.drop {kvs : List (κ × V)} {vs : List (κ × Value)} (r : KV kvs vs) (k : κ) : KV (dropK kvs k) (without vs k) := by
  unfold KV at r ⊢
  unfold dropK without
  induction r with
  | nil => exact .nil
  | @cons p q ps qs h t ih =>
    obtain ⟨h1, h2⟩ := h
    rw [List.filter_cons, List.filter_cons]
    by_cases e : p.1 = k
    · have a : ¬ decide (p.1 ≠ k) = true := by simp [e]
      have b : ¬ decide (q.1 ≠ k) = true := by simp [h1.symm.trans e]
      rw [if_neg a, if_neg b]; exact ih
    · have e' : ¬ q.1 = k := fun z => e (h1.trans z)
      have a : decide (p.1 ≠ k) = true := by simp [e]
      have b : decide (q.1 ≠ k) = true := by simp [e']
      rw [if_pos a, if_pos b]; exact .cons ⟨h1, h2⟩ ih
theorem KV.keys {kvs : List (κ × V)} {vs : List (κ × Value)} (r : KV kvs vs) : kvs.map (·.1) = vs.map (·.1) := by
  unfold KV at r
  induction r with
  | nil => rfl
  | cons h t ih => rw [List.map_cons, List.map_cons, ih, h.1]
theorem KV.length {kvs : List (κ × V)} {vs : List (κ × Value)} (r : KV kvs vs) : kvs.length = vs.length := Paired.length r
theorem dropK_le (kvs : List (κ × V)) (k : κ) : (dropK kvs k).length ≤ kvs.length := List.length_filter_le _ _
end


/-! ### a tracked dict, its keys ints and texts or tuples of these -/
theorem kV_is {P : Program} {w : World} {k : Key} {u : Value} (r : RelV (kV k) u) : (mixKind P w).is k u = true := by
  cases k with
  | inl i => obtain ⟨t, e⟩ := (show ∃ t, u = Value.int i t from r); subst e; exact mixKind_int P w i t
  | inr x => obtain ⟨t, e⟩ := (show ∃ t, u = Value.str x t from r); subst e; exact mixKind_str P w x t
theorem kV_inj {a b : Key} (e : kV a = kV b) : a = b := by
  cases a with
  | inl i => cases b with
    | inl j => have e' : V.int i = V.int j := e; injection e' with e'; rw [e']
    | inr y => exact nomatch (show V.int i = V.str y from e)
  | inr x => cases b with
    | inl j => exact nomatch (show V.str x = V.int j from e)
    | inr y => have e' : V.str x = V.str y := e; injection e' with e'; rw [e']
theorem kVs_inj : ∀ {a b : List Key}, a.map kV = b.map kV → a = b
  | [], [], _ => rfl
  | [], _ :: _, e => by simp at e
  | _ :: _, [], e => by simp at e
  | x :: xs, y :: ys, e => by
    rw [List.map_cons, List.map_cons] at e
    injection e with e1 e2
    rw [kV_inj e1, kVs_inj e2]
theorem items_are {P : Program} {w : World} : ∀ {ks : List Key} {us : List Value}, Vals (ks.map kV) us → ItemsAre (mixKind P w) ks us
  | [], _, r => by rw [List.map_nil] at r; cases r; exact .nil
  | k :: ks, _, r => by
    rw [List.map_cons] at r
    cases r with
    | cons h t => exact .cons (kV_is h) (items_are t)

/-- raw entries of a dict with tuple keys -/
abbrev KT (H : Hp) : List (List Key × V) → List (List Key × Addr × Value) → Prop := Paired fun p q => p.1 = q.1 ∧ H q.2.1 = some (.tup (p.1.map kV)) ∧ RelV p.2 q.2.2
theorem KT.val {H : Hp} {kvs : List (List Key × V)} {xs : List (List Key × Addr × Value)} (r : KT H kvs xs) (k : List Key) : RelO (valV kvs k) ((atKey xs k).map (·.2)) := by
  induction r with
  | nil => exact True.intro
  | @cons p q ps qs h t ih =>
    obtain ⟨h1, _, h2⟩ := h
    by_cases e : p.1 = k
    · have e' : q.1 = k := h1.symm.trans e
      have b : atKey (q :: qs) k = some q.2 := by simp [atKey, List.find?_cons, e']
      rw [valV_pos e, b]; exact h2
    · have e' : ¬ q.1 = k := fun z => e (h1.trans z)
      have b : atKey (q :: qs) k = atKey qs k := by simp [atKey, List.find?_cons, e']
      rw [valV_neg e, b]; exact ih
theorem KT.repl {H : Hp} {kvs : List (List Key × V)} {xs : List (List Key × Addr × Value)} (r : KT H kvs xs) (k : List Key) {y : V} {u : Value} (ry : RelV y u) :
    KT H (kvs.map fun kv => if kv.1 = k then (kv.1, y) else kv) (xs.map (putAt k u)) := by
  induction r with
  | nil => exact .nil
  | @cons p q ps qs h t ih =>
    rw [List.map_cons, List.map_cons]
    refine .cons ?_ ih
    obtain ⟨h1, h2, h3⟩ := h
    unfold putAt
    by_cases e : p.1 = k
    · rw [if_pos e, if_pos (h1.symm.trans e)]; exact ⟨h1, h2, ry⟩
    · rw [if_neg e, if_neg (fun z => e (h1.trans z))]; exact ⟨h1, h2, h3⟩
theorem KT.put {H : Hp} {kvs : List (List Key × V)} {xs : List (List Key × Addr × Value)} (r : KT H kvs xs) (k : List Key) {b : Addr} {y : V} {u : Value} (hb : H b = some (.tup (k.map kV))) (ry : RelV y u) :
    KT H (putK kvs k y) (storedH xs k b u) := by
  have e : (kvs.any fun kv => decide (kv.1 = k)) = (atKey xs k).isSome := by
    rw [valV_any, (r.val k).isSome_eq, Option.isSome_map]
  unfold putK storedH
  rw [e]
  by_cases q : (atKey xs k).isSome = true
  · rw [if_pos q, if_pos q]; exact r.repl k ry
  · rw [if_neg q, if_neg q]; exact Paired.snoc r ⟨rfl, hb, ry⟩
theorem KT.keeps {H H' : Hp} {kvs : List (List Key × V)} {xs : List (List Key × Addr × Value)} (r : KT H kvs xs) (ht : ∀ b ys, H b = some (.tup ys) → H' b = some (.tup ys)) : KT H' kvs xs :=
  Paired.mapP r fun _ _ z => ⟨z.1, ht _ _ z.2.1, z.2.2⟩

section
variable {P : Program} {w : World} {H : Hp} {h : Heap} {a : Addr}
theorem rd_of {u : HO} (ok : HOk P w H h) (e : Rd H a u) : ObjOk P w H h a u := e.ok ok
theorem dk_rd {kvs : List (Key × V)} (ok : HOk P w H h) (e : Rd H a (.dK kvs)) : kvs.length ≤ sizeLine ∧ (a == sysModules) = false ∧ ∃ vs, KV kvs vs ∧ h.DictOf (mixKind P w) a vs :=
  show ObjOk P w H h a (.dK kvs) from rd_of ok e
theorem dk_of {kvs : List (Key × V)} (ok : HOk P w H h) (e : H a = some (.dK kvs)) : kvs.length ≤ sizeLine ∧ (a == sysModules) = false ∧ ∃ vs, KV kvs vs ∧ h.DictOf (mixKind P w) a vs := dk_rd ok (.inl e)
/-- a tracked tuple of ints and texts is a key -/
theorem key_of {ks : List Key} (ok : HOk P w H h) (e : H a = some (.tup (ks.map kV))) : (tupleKind (mixKind P w)).is h ks a := by
  obtain ⟨_, its, r, o, h1, h2, n, h3⟩ := (show ObjOk P w H h a (.tup (ks.map kV)) from ok a _ e)
  exact ⟨o, its.toArray, n, h1, h2, h3, by simpa using items_are r⟩
theorem dt_rd {kvs : List (List Key × V)} (ok : HOk P w H h) (e : Rd H a (.dT kvs)) : kvs.length ≤ sizeLine ∧ (a == sysModules) = false ∧
    ∃ xs, KT H kvs xs ∧ h.DictOfH (tupleKind (mixKind P w)) a xs := by
  obtain ⟨z, y, xs, r, o, es, ep, h1, h2, h3, h4, h5⟩ := (show ObjOk P w H h a (.dT kvs) from rd_of ok e)
  refine ⟨z, y, xs, r, o, es, ep, h1, h2, h3, h4, fun x hx => ?_, h5⟩
  have all : ∀ {l : List (List Key × V)} {m : List (List Key × Addr × Value)}, KT H l m → ∀ x ∈ m, (tupleKind (mixKind P w)).is h x.1 x.2.1 := by
    intro l m q
    induction q with
    | nil => intro x hx; exact nomatch hx
    | @cons p q ps qs hq t ih =>
      intro x hx
      rcases List.mem_cons.mp hx with e | hx
      · subst e
        exact key_of ok (by rw [← hq.1]; exact hq.2.1)
      · exact ih x hx
  exact all r x hx
theorem dt_of {kvs : List (List Key × V)} (ok : HOk P w H h) (e : H a = some (.dT kvs)) : kvs.length ≤ sizeLine ∧ (a == sysModules) = false ∧
    ∃ xs, KT H kvs xs ∧ h.DictOfH (tupleKind (mixKind P w)) a xs := dt_rd ok (.inl e)
end

/-- what the dict at a holds at the key y -/
def DGet (H : Hp) (a : Addr) (y : V) (r : Option V) : Prop :=
  (∃ kvs k, Rd H a (.dK kvs) ∧ y = kV k ∧ r = valV kvs k) ∨ ∃ kvs k b, Rd H a (.dT kvs) ∧ y = .ref b ∧ H b = some (.tup (k.map kV)) ∧ r = valV kvs k
/-- the heap behind a[y] = v -/
def DPut (H : Hp) (a : Addr) (y v : V) (H' : Hp) : Prop :=
  (∃ kvs k, H a = some (.dK kvs) ∧ y = kV k ∧ kvs.length < sizeLine ∧ H' = upd H a (.dK (putK kvs k v))) ∨
  ∃ kvs k b, H a = some (.dT kvs) ∧ y = .ref b ∧ H b = some (.tup (k.map kV)) ∧ kvs.length < sizeLine ∧ H' = upd H a (.dT (putK kvs k v))
theorem DGet.k {H : Hp} {a : Addr} {kvs : List (Key × V)} {k : Key} (e : H a = some (.dK kvs)) : DGet H a (kV k) (valV kvs k) := .inl ⟨kvs, k, .inl e, rfl, rfl⟩
theorem DGet.t {H : Hp} {a b : Addr} {kvs : List (List Key × V)} {k : List Key} (e : H a = some (.dT kvs)) (eb : H b = some (.tup (k.map kV))) : DGet H a (.ref b) (valV kvs k) := .inr ⟨kvs, k, b, .inl e, rfl, eb, rfl⟩
theorem DPut.k {H : Hp} {a : Addr} {kvs : List (Key × V)} {k : Key} {v : V} (e : H a = some (.dK kvs)) (hl : kvs.length < sizeLine) : DPut H a (kV k) v (upd H a (.dK (putK kvs k v))) := .inl ⟨kvs, k, e, rfl, hl, rfl⟩
theorem DPut.t {H : Hp} {a b : Addr} {kvs : List (List Key × V)} {k : List Key} {v : V} (e : H a = some (.dT kvs)) (eb : H b = some (.tup (k.map kV))) (hl : kvs.length < sizeLine) :
    DPut H a (.ref b) v (upd H a (.dT (putK kvs k v))) := .inr ⟨kvs, k, b, e, rfl, eb, hl, rfl⟩


section
variable {X : Cx} {pins : List (Addr × Obj)} {σ : St} {H : Hp} {s : Shared} {a : Addr} {y v : V} {u r : Value} {o : Option V} {A : Around} {E : Value → Shared → Prop}

theorem Inv.big (I : Inv X pins σ H s) : sysModules < s.heap.objs.size := by
  have h : mainGlobals < s.heap.objs.size := (I.mod.glob.keeps I.bk).lt
  exact Nat.lt_trans (by decide) h

/-- d[y], there -/
theorem d_getItem {Q : Value → Shared → Prop} (hu : A.units + 1 < cLine) (I : Inv X pins σ H s) (g : DGet H a y (some v)) (ry : RelV y u) (h : ∀ w' s', Inv X pins σ H s' → RelV v w' → Q w' s') :
    wpAny (model X.prog X.w) A (getItem (.ref a) u) Q E s := by
  rcases g with ⟨kvs, k, e, ey, l⟩ | ⟨kvs, k, b, e, ey, eb, l⟩
  · subst ey
    obtain ⟨z, hd, vs, rel, dd⟩ := dk_rd I.hok e
    obtain ⟨w', hw, rw'⟩ := RelO.some_of (v := v) (o := valueAt vs k) (by rw [l]; exact rel.val k)
    exact wpAny_getItem_of (kV_is ry) dd.mapOf hw (h w' _ (I.tok _) rw')
  · subst ey
    cases (show u = Value.ref b from ry)
    obtain ⟨z, hd, xs, rel, dd⟩ := dt_rd I.hok e
    obtain ⟨w', hw, rw'⟩ := RelO.some_of (v := v) (o := (atKey xs k).map (·.2)) (by rw [l]; exact rel.val k)
    obtain ⟨p, hp, hp2⟩ := Option.map_eq_some_iff.mp hw
    refine wpAny_getItem_heap (tupleKind_room_in1 hu) (key_of I.hok eb) dd hp ?_
    rw [hp2]
    exact h w' _ (I.tok _) rw'
/-- y in d -/
theorem d_in {Q : Value → Shared → Prop} (hu : A.units + 1 < cLine) (I : Inv X pins σ H s) (g : DGet H a y o) (ry : RelV y u) (h : ∀ s', Inv X pins σ H s' → Q (.bool o.isSome) s') :
    wpAny (model X.prog X.w) A (compareOp .In u (.ref a)) Q E s := by
  rcases g with ⟨kvs, k, e, ey, l⟩ | ⟨kvs, k, b, e, ey, eb, l⟩
  · subst ey
    obtain ⟨z, hd, vs, rel, dd⟩ := dk_rd I.hok e
    refine wpAny_in_of (kV_is ry) hd dd.mapOf ?_
    rw [← (rel.val k).isSome_eq, ← l]
    exact h _ (I.tok _)
  · subst ey
    cases (show u = Value.ref b from ry)
    obtain ⟨z, hd, xs, rel, dd⟩ := dt_rd I.hok e
    refine wpAny_in_heap (tupleKind_room_in1 hu) (key_of I.hok eb) hd dd ?_
    have q := (rel.val k).isSome_eq
    rw [Option.isSome_map] at q
    rw [← q, ← l]
    exact h _ (I.tok _)
theorem d_notIn {Q : Value → Shared → Prop} (hu : A.units + 1 < cLine) (I : Inv X pins σ H s) (g : DGet H a y o) (ry : RelV y u) (h : ∀ s', Inv X pins σ H s' → Q (.bool (!o.isSome)) s') :
    wpAny (model X.prog X.w) A (compareOp .NotIn u (.ref a)) Q E s := by
  rcases g with ⟨kvs, k, e, ey, l⟩ | ⟨kvs, k, b, e, ey, eb, l⟩
  · subst ey
    obtain ⟨z, hd, vs, rel, dd⟩ := dk_rd I.hok e
    refine wpAny_notIn_of (kV_is ry) hd dd.mapOf ?_
    rw [← (rel.val k).isSome_eq, ← l]
    exact h _ (I.tok _)
  · subst ey
    cases (show u = Value.ref b from ry)
    obtain ⟨z, hd, xs, rel, dd⟩ := dt_rd I.hok e
    refine wpAny_notIn_heap (tupleKind_room_in1 hu) (key_of I.hok eb) hd dd ?_
    have q := (rel.val k).isSome_eq
    rw [Option.isSome_map] at q
    rw [← q, ← l]
    exact h _ (I.tok _)
/-- a dict's object is replaced -/
theorem d_write {h' : Heap} {t' : Nat} {ob : HO} (I : Inv X pins σ H s) (mu : Mut (H a)) (hs : Heap.SameBut a s.heap h') (he : ∃ q, h'.get? a = some q) (new : ObjOk X.prog X.w (upd H a ob) h' a ob) :
    Inv X pins σ (upd H a ob) { s with heap := h', toks := t' } :=
  I.write (x := a) (e := a) mu (.inl rfl) (fun b q hb z => (hs.2 b hb).trans z) he new
theorem dk_new {P : Program} {w : World} {H' : Hp} {h' : Heap} {kvs : List (Key × V)} {vs : List (Key × Value)} (z : kvs.length ≤ sizeLine) (hd : (a == sysModules) = false) (rel : KV kvs vs) (dd : h'.DictOf (mixKind P w) a vs) :
    ObjOk P w H' h' a (.dK kvs) := ⟨z, hd, vs, rel, dd⟩
/-- d[y] = v -/
theorem d_setItem {H' : Hp} {Q : Unit → Shared → Prop} (hu : A.units + 1 < cLine) (I : Inv X pins σ H s) (g : DPut H a y v H') (ry : RelV y u) (rv : RelV v r) (h : ∀ s', Inv X pins σ H' s' → Q () s') :
    wpAny (model X.prog X.w) A (setItem (.ref a) u r) Q E s := by
  rcases g with ⟨kvs, k, e, ey, l, eH⟩ | ⟨kvs, k, b, e, ey, eb, l, eH⟩
  · subst ey eH
    obtain ⟨z, hd, vs, rel, dd⟩ := dk_of I.hok e
    have hz : vs.length ≤ sizeLine := by rw [← rel.length]; exact z
    have hl : (putK kvs k v).length ≤ sizeLine := by have := length_putK kvs k v; omega
    refine wpAny_setItem_pairs (hsz := hz) (kV_is ry) dd fun h' dd' hs => h _ ?_
    have he : ∃ q, h'.get? a = some q := let ⟨q, _, _, hq, _⟩ := dd'; ⟨q, hq⟩
    exact d_write I (by rw [e]; exact True.intro) hs he (dk_new hl hd (rel.put k rv) dd')
  · subst ey eH
    cases (show u = Value.ref b from ry)
    obtain ⟨z, hd, xs, rel, dd⟩ := dt_of I.hok e
    have hz : xs.length ≤ sizeLine := by rw [← Paired.length rel]; exact z
    have hl : (putK kvs k v).length ≤ sizeLine := by have := length_putK kvs k v; omega
    refine wpAny_setItem_heap (hsz := hz) (tupleKind_room_in1 hu) (key_of I.hok eb) dd fun h' dd' hs => h _ ?_
    obtain ⟨q, es, ep, hq, h2, h3, h4, _, h5⟩ := dd'
    refine d_write I (by rw [e]; exact True.intro) hs ⟨q, hq⟩ ⟨hl, hd, _, (rel.put k eb rv).keeps fun c ys ec => ?_, q, es, ep, hq, h2, h3, h4, h5⟩
    rw [upd_ne (ne_of ec e (fun z => nomatch z))]
    exact ec
end

section
variable {X : Cx} {pins : List (Addr × Obj)} {σ : St} {H : Hp} {s : Shared} {a : Addr} {kvs : List (Key × V)} {k : Key} {u : Value} {A : Around} {E : Value → Shared → Prop}
/-- del d[k] -/
theorem d_delItem {Q : Unit → Shared → Prop} (I : Inv X pins σ H s) (e : H a = some (.dK kvs)) (ry : RelV (kV k) u) (l : (valV kvs k).isSome = true) (h : ∀ s', Inv X pins σ (upd H a (.dK (dropK kvs k))) s' → Q () s') :
    wpAny (model X.prog X.w) A (delItem (.ref a) u) Q E s := by
  obtain ⟨z, hd, vs, rel, dd⟩ := dk_of I.hok e
  refine wpAny_delItem_slot dd.typeIs (by decide) PySem.F.slot_dict_delitem
    (call_meetsIn PySem.F.slot_dict_delitem dd.typeIs PySem.F.entry_dict_delitem (PySem.F.args_dict_delitem_2 _ _) (meets_dict_delitem_pairs (mixKind X.prog X.w) a (kV_is ry)) ⟨vs, dd, by rw [← rel.length]; exact z, by rw [← (rel.val k).isSome_eq]; exact l, fun h' dd' hs => h _ ?_⟩)
  have he : ∃ q, h'.get? a = some q := let ⟨q, _, _, hq, _⟩ := dd'; ⟨q, hq⟩
  exact d_write I (by rw [e]; exact True.intro) hs he (dk_new (Nat.le_trans (dropK_le kvs k) z) hd (rel.drop k) dd')
/-- d.pop(k[, x]), there -/
theorem d_pop {v : V} {more : List Value} {Q : Value → Shared → Prop} (I : Inv X pins σ H s) (e : H a = some (.dK kvs)) (ry : RelV (kV k) u) (l : valV kvs k = some v) (hm : more = [] ∨ ∃ x, more = [x])
    (h : ∀ w' s', Inv X pins σ (upd H a (.dK (dropK kvs k))) s' → RelV v w' → Q w' s') : wpAny (model X.prog X.w) A (call (.builtin "dict.pop") (.ref a :: u :: more)) Q E s := by
  obtain ⟨z, hd, vs, rel, dd⟩ := dk_of I.hok e
  obtain ⟨w', hw, rw'⟩ := RelO.some_of (v := v) (o := valueAt vs k) (by rw [← l]; exact rel.val k)
  have hp : (keyPart u).isSome = true := by
    cases k with
    | inl i => obtain ⟨t, q⟩ := (show ∃ t, u = Value.int i t from ry); subst q; rfl
    | inr x => obtain ⟨t, q⟩ := (show ∃ t, u = Value.str x t from ry); subst q; rfl
  have ha : argsOk "dict.pop" ⟨.ref a :: u :: more, []⟩ := by
    rcases hm with q | ⟨x, q⟩
    · subst q; exact PySem.F.args_dict_pop_2 _ _
    · subst q; exact PySem.F.args_dict_pop_3 _ _ _
  refine call_meetsIn PySem.F.slot_dict_pop dd.typeIs PySem.F.entry_dict_pop ha (meets_dict_pop_there (mixKind X.prog X.w) a (kV_is ry) more hm hp)
    ⟨vs, w', dd, by rw [← rel.length]; exact z, hw, fun h' dd' hs => h w' _ ?_ rw'⟩
  have he : ∃ q, h'.get? a = some q := let ⟨q, _, _, hq, _⟩ := dd'; ⟨q, hq⟩
  exact d_write I (by rw [e]; exact True.intro) hs he (dk_new (Nat.le_trans (dropK_le kvs k) z) hd (rel.drop k) dd')
/-- d.pop(k, x), not there -/
theorem d_popD {r : Value} {Q : Value → Shared → Prop} (I : Inv X pins σ H s) (e : H a = some (.dK kvs)) (ry : RelV (kV k) u) (l : valV kvs k = none) (h : ∀ s', Inv X pins σ H s' → Q r s') :
    wpAny (model X.prog X.w) A (call (.builtin "dict.pop") [.ref a, u, r]) Q E s := by
  obtain ⟨z, hd, vs, rel, dd⟩ := dk_of I.hok e
  have hn : valueAt vs k = none := RelO.none_of (by rw [← l]; exact rel.val k)
  have hp : (keyPart u).isSome = true := by
    cases k with
    | inl i => obtain ⟨t, q⟩ := (show ∃ t, u = Value.int i t from ry); subst q; rfl
    | inr x => obtain ⟨t, q⟩ := (show ∃ t, u = Value.str x t from ry); subst q; rfl
  exact call_meetsIn PySem.F.slot_dict_pop dd.typeIs PySem.F.entry_dict_pop (PySem.F.args_dict_pop_3 _ _ _) (meets_dict_pop_default (mixKind X.prog X.w) a (kV_is ry) hd hp r) ⟨vs, dd, hn, h _ (I.tok _)⟩
/-- d.clear() -/
theorem d_clear {Q : Value → Shared → Prop} (I : Inv X pins σ H s) (e : H a = some (.dK kvs)) (h : ∀ s', Inv X pins σ (upd H a (.dK [])) s' → Q .none s') : wpAny (model X.prog X.w) A (call (.builtin "dict.clear") [.ref a]) Q E s := by
  obtain ⟨z, hd, vs, rel, dd⟩ := dk_of I.hok e
  refine call_meetsIn PySem.F.slot_dict_clear dd.typeIs PySem.F.entry_dict_clear (PySem.F.args_dict_clear_1 _) (meets_dict_clear (mixKind X.prog X.w) a) ⟨vs, dd, by rw [← rel.length]; exact z, fun h' dd' hs => h _ ?_⟩
  have he : ∃ q, h'.get? a = some q := let ⟨q, _, _, hq, _⟩ := dd'; ⟨q, hq⟩
  exact d_write (t' := s.toks) I (by rw [e]; exact True.intro) hs he (dk_new (Nat.zero_le _) hd .nil dd')
/-- len(d) -/
theorem d_len {Q : Value → Shared → Prop} (I : Inv X pins σ H s) (e : Rd H a (.dK kvs)) (h : ∀ t s', Inv X pins σ H s' → Q (.int kvs.length t) s') : wpAny (model X.prog X.w) A (call (.builtin "len") [.ref a]) Q E s := by
  obtain ⟨z, hd, vs, rel, dd⟩ := dk_rd I.hok e
  refine call_len_dict hd dd (by rw [← rel.length]; rw [sizeLine_eq] at z; omega) ?_
  rw [← rel.length]
  exact h _ _ (I.tok _)
/-- if d -/
theorem d_truth {Q : Bool → Shared → Prop} (I : Inv X pins σ H s) (e : Rd H a (.dK kvs)) (h : ∀ s', Inv X pins σ H s' → Q (!kvs.isEmpty) s') : wpAny (model X.prog X.w) A (truthy (.ref a)) Q E s := by
  obtain ⟨z, hd, vs, rel, dd⟩ := dk_rd I.hok e
  refine wpAny_truthy_dict hd dd (by rw [← rel.length]; rw [sizeLine_eq] at z; omega) ?_
  have q : kvs.isEmpty = vs.isEmpty := by cases rel <;> rfl
  rw [← q]
  exact h _ (I.tok _)
end


/-! ### readings and rules -/
/-- the element of a subscription, not a slice -/
def NoSl (i : Expr) : Prop := ∀ ov iv, subscripted i false ov iv = operate [ov, iv] (getItem ov iv)
theorem subD_of {prog : Program} {w : World} {A : Around} {E : Value → Shared → Prop} {s : Shared} {env : Env} {value slice : Expr} {pos : Pos} {T id : String} {Q : Value → Shared → Prop}
    (hl : typeLookup (.type T) "__getitem__" = pure (some (.builtin id))) (hs : NoSl slice)
    (h : wpAny (model prog w) A (eval value env) (fun o s₁ => wpAny (model prog w) A (eval slice env) (fun i s₂ => s₂.TypeIs o T ∧ wpAny (model prog w) A (getItem o i) Q E s₂) E s₁) E s) :
    wpAny (model prog w) A (eval (.Subscript value slice pos) env) Q E s := by
  refine Subscript_ (wpAny_mono h (fun o s₁ h₁ => wpAny_mono h₁ (fun i s₂ h₂ => ?_) fun _ _ x => x) fun _ _ x => x)
  obtain ⟨hT, h₂⟩ := h₂
  unfold subscriptTail
  refine wpAny_bind ?_
  rw [getitemInPython_of_ne hT.not_modules]
  refine wpAny_bind (wpAny_specialOf hT hl ?_)
  have fin : wpAny (model prog w) A (subscripted slice false o i) (fun r s₃ => wpAny (model prog w) A (letTemporaryGo value o r >>= fun _ => pure r) Q E s₃) E s₂ := by
    rw [hs o i]
    exact wpAny_operating (wpAny_mono h₂ (fun r s₃ h₃ => wpAny_bind (wpAny_letTemporaryGo (wpAny_pure h₃))) fun _ _ x => x)
  first
    | exact wpAny_pure (wpAny_bind fin)
    | exact wpAny_bind (wpAny_pure (wpAny_bind fin))
    | exact wpAny_bind fin

theorem dict_typeIs {X : Cx} {pins : List (Addr × Obj)} {σ : St} {H : Hp} {s : Shared} {a : Addr} {y : V} {o : Option V} (I : Inv X pins σ H s) (g : DGet H a y o) : s.TypeIs (.ref a) "dict" := by
  rcases g with ⟨kvs, k, e, _, _⟩ | ⟨kvs, k, b, e, _, _, _⟩
  · obtain ⟨_, _, vs, _, dd⟩ := dk_rd I.hok e
    exact dd.typeIs
  · obtain ⟨_, _, xs, _, dd⟩ := dt_rd I.hok e
    exact dd.typeIs
theorem dict_noDict {X : Cx} {pins : List (Addr × Obj)} {σ : St} {H : Hp} {s : Shared} {a : Addr} {y : V} {o : Option V} (I : Inv X pins σ H s) (g : DGet H a y o) :
    ∀ b, Value.ref a = .ref b → ∃ ob, s.heap.get? b = some ob ∧ ob.dict = none := fun b q => by
  cases q
  rcases g with ⟨kvs, k, e, _, _⟩ | ⟨kvs, k, b, e, _, _, _⟩
  · obtain ⟨_, _, vs, _, ob, _, _, h1, h2, _⟩ := dk_rd I.hok e
    exact ⟨ob, h1, h2.2.1⟩
  · obtain ⟨_, _, xs, _, ob, _, _, h1, h2, _⟩ := dt_rd I.hok e
    exact ⟨ob, h1, h2.2.1⟩

/-- d[y] -/
def tDGet (td ty : TE) : TE := fun σ H Q => td σ H fun x H1 => ty σ H1 fun y H2 => ∃ a v, x = .ref a ∧ DGet H2 a y (some v) ∧ Q v H2
/-- y in d, y not in d -/
def tDIn (ty td : TE) : TE := fun σ H Q => ty σ H fun y H1 => td σ H1 fun x H2 => ∃ a o, x = .ref a ∧ DGet H2 a y o ∧ Q (.bl o.isSome) H2
def tDNotIn (ty td : TE) : TE := fun σ H Q => ty σ H fun y H1 => td σ H1 fun x H2 => ∃ a o, x = .ref a ∧ DGet H2 a y o ∧ Q (.bl (!o.isSome)) H2
/-- d[y] = v -/
def sDPut (td ty tv : TE) : TS := fun D σ H => tv σ H fun v H1 => td σ H1 fun x H2 => ty σ H2 fun y H3 => ∃ a H4, x = .ref a ∧ DPut H3 a y v H4 ∧ D.nx σ H4
/-- d[y] op= v -/
def sDAug (td ty tv : TE) (rd : V → V → Hp → VK → Prop) : TS := fun D σ H => td σ H fun x H1 => ty σ H1 fun y H2 => ∃ a v, x = .ref a ∧ DGet H2 a y (some v) ∧
  tv σ H2 fun y2 H3 => rd v y2 H3 fun z H4 => ∃ H5, DPut H4 a y z H5 ∧ D.nx σ H5
/-- del d[y] -/
def sDDel (td ty : TE) : TS := fun D σ H => td σ H fun x H1 => ty σ H1 fun y H2 => ∃ a kvs k, x = .ref a ∧ H2 a = some (.dK kvs) ∧ y = kV k ∧ (valV kvs k).isSome = true ∧ D.nx σ (upd H2 a (.dK (dropK kvs k)))

section
variable {X : Cx} {o i e value : Expr} {pos pos' tpos : Pos} {td ty tv : TE}
theorem pe_dget (hu : X.A.units + 1 < cLine) (ho : PE X o td) (hi : PE X i ty) (hs : NoSl i) : PE X (.Subscript o i pos) (tDGet td ty) := by
  intro pins s σ H Q I h
  refine subD_of PySem.F.slot_dict_getitem.lookup hs (thn (ho pins s σ H _ I h) fun u s1 ⟨x, H1, I1, rx, q1⟩ => thn (hi pins s1 σ H1 _ I1 q1) fun iv s2 ⟨y, H2, I2, ry, a, v, ex, g, q2⟩ => ?_)
  subst ex
  obtain rfl : u = Value.ref a := rx
  exact ⟨dict_typeIs I2 g, d_getItem hu I2 g ry fun w' s3 I3 rw' => ⟨v, H2, I3, rw', q2⟩⟩
theorem pc_din (hu : X.A.units + 1 < cLine) (hi : PE X i ty) (ho : PE X o td) : PC X .In i o (tDIn ty td) := by
  intro pins s σ H Q I h
  refine thn (hi pins s σ H _ I h) fun iv s1 ⟨y, H1, I1, ry, q1⟩ => thn (ho pins s1 σ H1 _ I1 q1) fun u s2 ⟨x, H2, I2, rx, a, ov, ex, g, q2⟩ => ?_
  subst ex
  obtain rfl : u = Value.ref a := rx
  exact d_in hu I2 g ry fun s3 I3 => ⟨.bl ov.isSome, H2, I3, rfl, q2⟩
theorem pc_dnotin (hu : X.A.units + 1 < cLine) (hi : PE X i ty) (ho : PE X o td) : PC X .NotIn i o (tDNotIn ty td) := by
  intro pins s σ H Q I h
  refine thn (hi pins s σ H _ I h) fun iv s1 ⟨y, H1, I1, ry, q1⟩ => thn (ho pins s1 σ H1 _ I1 q1) fun u s2 ⟨x, H2, I2, rx, a, ov, ex, g, q2⟩ => ?_
  subst ex
  obtain rfl : u = Value.ref a := rx
  exact d_notIn hu I2 g ry fun s3 I3 => ⟨.bl (!ov.isSome), H2, I3, rfl, q2⟩
theorem ps_dput (hu : X.A.units + 1 < cLine) (ho : PE X o td) (hi : PE X i ty) (hv : PE X value tv) (hs : swapsWith value (some (.Subscript o i pos')) pos.line X.env = pure false) :
    PS X (.Assign [.Subscript o i pos'] value pos) (sDPut td ty tv) := by
  intro pins s σ H D I h
  refine wpAny_Assign_Subscript (thn (hv pins s σ H _ I h) fun r s1 ⟨v, H1, I1, rv, q1⟩ => thn (ho pins s1 σ H1 _ I1 q1) fun u s2 ⟨x, H2, I2, rx, q2⟩ => thn (hi pins s2 σ H2 _ I2 q2) fun iv s3 ⟨y, H3, I3, ry, a, H4, ex, g, q3⟩ => ?_) hs
  subst ex
  obtain rfl : u = Value.ref a := rx
  exact d_setItem hu I3 g ry rv fun s4 I4 => ⟨σ, H4, I4, q3⟩
theorem ps_daug {op : Operator} {rd : V → V → Hp → VK → Prop} (hu : X.A.units + 1 < cLine) (ho : PE X o td) (hi : PE X i ty) (hv : PE X value tv) (hop : InOp X op rd)
    (ha : ∀ ov iv new, augStore i ov iv new = (do holding [new, ov, iv] (setItem ov iv new); release [new, ov, iv] []; pure .next)) : PS X (.AugAssign (.Subscript o i tpos) op value pos) (sDAug td ty tv rd) := by
  intro pins s σ H D I h
  refine wpAny_AugAssign_SubscriptAny (thn (ho pins s σ H _ I h) fun u s1 ⟨x, H1, I1, rx, q1⟩ => thn (hi pins s1 σ H1 _ I1 q1) fun iv s2 ⟨y, H2, I2, ry, a, v, ex, g, q2⟩ => ?_) ha
  subst ex
  obtain rfl : u = Value.ref a := rx
  refine d_getItem hu I2 g ry fun w' s3 I3 rw' => thn (hv pins s3 σ H2 _ I3 q2) fun w2 s4 ⟨y2, H3, I4, ry2, q3⟩ => thn (hop pins s4 σ H3 v y2 w' w2 _ I4 rw' ry2 q3) fun w3 s5 ⟨z, H4, I5, rz, H5, g5, q4⟩ => ?_
  exact d_setItem hu I5 g5 ry rz fun s6 I6 => ⟨σ, H5, I6, q4⟩
theorem ps_ddel (ho : PE X o td) (hi : PE X i ty) : PS X (.Delete [.Subscript o i tpos] pos) (sDDel td ty) := by
  intro pins s σ H D I h
  refine wpAny_Delete (wpAny_deleteEach_cons (wpAny_delete_Subscript (thn (ho pins s σ H _ I h) fun u s1 ⟨x, H1, I1, rx, q1⟩ => thn (hi pins s1 σ H1 _ I1 q1) fun iv s2 ⟨y, H2, I2, ry, a, kvs, k, ex, e, ey, l, q2⟩ => ?_)))
  subst ex ey
  obtain rfl : u = Value.ref a := rx
  exact d_delItem I2 e ry l fun s3 I3 => wpAny_deleteEach_nil ⟨σ, _, I3, q2⟩
end


/-! ### displays -/
theorem dk_empty {P : Program} {w : World} {H : Hp} (h : Heap) (hb : sysModules < h.objs.size) : ObjOk P w H (h.push { cls := .type "dict", data := .dict #[] }) h.objs.size (.dK []) :=
  ⟨Nat.zero_le _, beq_eq_false_iff_ne.mpr (Ne.symm (Nat.ne_of_lt hb)), [], .nil, Heap.DictOf.new h⟩
theorem dt_empty {P : Program} {w : World} {H : Hp} (h : Heap) (hb : sysModules < h.objs.size) : ObjOk P w H (h.push { cls := .type "dict", data := .dict #[] }) h.objs.size (.dT []) :=
  ⟨Nat.zero_le _, beq_eq_false_iff_ne.mpr (Ne.symm (Nat.ne_of_lt hb)), [], .nil, _, #[], 0, Heap.get?_push_size _ rfl, ⟨rfl, rfl, rfl⟩, rfl, rfl, List.nodup_nil⟩
/-- {}, to be a dict of the kind that is wanted -/
def tDNewK : TE := fun _ H Q => ∀ p, H p = none → Q (.ref p) (upd H p (.dK []))
def tDNewT : TE := fun _ H Q => ∀ p, H p = none → Q (.ref p) (upd H p (.dT []))
section
variable {X : Cx} {pos : Pos}
theorem pe_dnewK : PE X (.Dict [] [] pos) tDNewK := fun pins s σ H Q I h =>
  wpAny_Dict_empty ⟨.ref s.heap.objs.size, _, I.laid (a := s.heap.objs.size) (o := .dK []) (t' := s.toks) (fun _ _ q => Heap.get?_push_of_some _ q) (Nat.le_refl _) (dk_empty s.heap I.big), rfl, h _ (I.hok.fresh (Nat.le_refl _))⟩
theorem pe_dnewT : PE X (.Dict [] [] pos) tDNewT := fun pins s σ H Q I h =>
  wpAny_Dict_empty ⟨.ref s.heap.objs.size, _, I.laid (a := s.heap.objs.size) (o := .dT []) (t' := s.toks) (fun _ _ q => Heap.get?_push_of_some _ q) (Nat.le_refl _) (dt_empty s.heap I.big), rfl, h _ (I.hok.fresh (Nat.le_refl _))⟩
end

/-- the pairs of a display, from the left -/
def tPairs : List (TE × TE) → St → Hp → (List (V × V) → Hp → Prop) → Prop
  | [], _, H, Q => Q [] H
  | (tk, tv) :: r, σ, H, Q => tk σ H fun x H1 => tv σ H1 fun y H2 => tPairs r σ H2 fun ps H3 => Q ((x, y) :: ps) H3
abbrev VV : List (V × V) → List (Value × Value) → Prop := Paired fun p q => RelV p.1 q.1 ∧ RelV p.2 q.2
def PPs (X : Cx) (pos : Pos) (keys : List (Option Expr)) (values : List Expr) (trs : List (TE × TE)) : Prop :=
  ∀ (pins : List (Addr × Obj)) (s : Shared) (σ : St) (H : Hp) (Q : List (V × V) → Hp → Prop), Inv X pins σ H s → tPairs trs σ H Q →
    wpAny (model X.prog X.w) X.A (evalPairs (pairTrees keys values X.env pos)) (fun vs s' => ∃ ps H', Inv X pins σ H' s' ∧ VV ps vs ∧ Q ps H') X.xe s
theorem pps_nil {X : Cx} {pos : Pos} : PPs X pos [] [] [] := fun pins s σ H Q I h => pairTrees_nil_walk ⟨[], H, I, .nil, h⟩
theorem pps_cons {X : Cx} {pos : Pos} {k v : Expr} {ks : List (Option Expr)} {vs : List Expr} {tk tv : TE} {trs : List (TE × TE)} (hk : PE X k tk) (hv : PE X v tv) (hr : PPs X pos ks vs trs) :
    PPs X pos (some k :: ks) (v :: vs) ((tk, tv) :: trs) := fun pins s σ H Q I h =>
  pairTrees_cons_walk (thn (hk pins s σ H _ I h) fun u s1 ⟨x, H1, I1, rx, q1⟩ => thn (hv pins s1 σ H1 _ I1 q1) fun w2 s2 ⟨y, H2, I2, ry, q2⟩ =>
    thn (hr pins s2 σ H2 _ I2 q2) fun ws s3 ⟨ps, H3, I3, rel, q3⟩ => ⟨(x, y) :: ps, H3, I3, .cons ⟨rx, ry⟩ rel, q3⟩)

def mergeK (kvs more : List (Key × V)) : List (Key × V) := more.foldl (fun acc kv => putK acc kv.1 kv.2) kvs
theorem KV.merge : ∀ {more : List (Key × V)} {rs : List (Key × Value)} {kvs : List (Key × V)} {vs : List (Key × Value)}, KV more rs → KV kvs vs → KV (mergeK kvs more) (merged vs rs) := by
  intro more rs kvs vs r
  unfold KV at r
  induction r generalizing kvs vs with
  | nil => intro q; exact q
  | @cons p q ps qs h t ih =>
    intro r0
    have e : KV (putK kvs p.1 p.2) (stored vs q.1 q.2) := by
      have := r0.put p.1 h.2
      rw [← h.1]; exact this
    exact ih e
theorem length_mergeK : ∀ (more kvs : List (Key × V)), (mergeK kvs more).length ≤ kvs.length + more.length
  | [], kvs => by show kvs.length ≤ kvs.length + 0; omega
  | p :: r, kvs => by
    have h1 := length_mergeK r (putK kvs p.1 p.2)
    have h2 := length_putK kvs p.1 p.2
    show (mergeK (putK kvs p.1 p.2) r).length ≤ _
    rw [List.length_cons]; omega
theorem carries_of {P : Program} {w : World} : ∀ {kvs : List (Key × V)} {ws : List (Value × Value)}, VV (kvs.map fun kv => (kV kv.1, kv.2)) ws → ∃ rs, Carries (mixKind P w) ws rs ∧ KV kvs rs
  | [], _, r => by rw [List.map_nil] at r; cases r; exact ⟨[], True.intro, .nil⟩
  | p :: kvs, _, r => by
    rw [List.map_cons] at r
    cases r with
    | @cons a b as bs h t =>
      obtain ⟨rs, c, q⟩ := carries_of (P := P) (w := w) t
      obtain ⟨b1, b2⟩ := b
      exact ⟨(p.1, b2) :: rs, ⟨kV_is h.1, rfl, c⟩, .cons ⟨rfl, h.2⟩ q⟩
/-- {k: v, ..} with keys ints and texts; the new dict stands empty while the pairs are made -/
def tDisp (trs : List (TE × TE)) : TE := fun σ H Q => ∀ p, H p = none → tPairs trs σ (upd H p (.dK [])) fun ps H2 => H2 p = some (.dK []) ∧ ∃ kvs : List (Key × V), ps = kvs.map (fun kv => (kV kv.1, kv.2)) ∧ kvs.length ≤ 15 ∧ Q (.ref p) (upd H2 p (.dK (mergeK [] kvs)))
theorem pe_disp {X : Cx} {pos : Pos} {keys : List (Option Expr)} {values : List Expr} {trs : List (TE × TE)} (h : PPs X pos keys values trs) (hall : keys.all (·.isSome) = true) (hl : keys.length = values.length) (h0 : keys ≠ [])
    (h15 : keys.length ≤ 15) : PE X (.Dict keys values pos) (tDisp trs) := by
  intro pins s σ H Q I q
  have hn := I.hok.fresh (Nat.le_refl s.heap.objs.size)
  have I1 := I.laid (a := s.heap.objs.size) (o := .dK []) (h' := s.heap.push { cls := .type "dict", data := .dict #[] }) (t' := s.toks) (fun _ _ q => Heap.get?_push_of_some _ q) (Nat.le_refl _) (dk_empty s.heap I.big)
  refine wpAny_Dict_walk (knd := mixKind X.prog X.w) hall hl h0 h15 (thn (h pins _ σ _ _ I1 (q _ hn)) fun ws s2 ⟨ps, H2, I2, rel, e, kvs, ep, lk, q2⟩ => ?_)
  subst ep
  obtain ⟨rs, c, rk⟩ := carries_of (P := X.prog) (w := X.w) rel
  obtain ⟨z, hd, vs0, r0, dd⟩ := dk_of I2.hok e
  cases r0
  refine ⟨rs, c, dd, fun h' dd' hs => ⟨.ref s.heap.objs.size, _, ?_, rfl, q2⟩⟩
  have hz : (mergeK [] kvs).length ≤ sizeLine := by
    have h1 := length_mergeK kvs []
    rw [List.length_nil] at h1
    rw [sizeLine_eq]; omega
  have he : ∃ q, h'.get? s.heap.objs.size = some q := let ⟨q, _, _, hq, _⟩ := dd'; ⟨q, hq⟩
  exact d_write I2 (by rw [e]; exact True.intro) hs he (dk_new hz hd (rk.merge .nil) dd')


/-! ### methods -/
/-- a method call o.m(e) of a built-in, with one argument: what must be seen of the text -/
structure M1 (X : Cx) (o : Expr) (m : Str) (apos : Pos) (e : Expr) (cpos : Pos) : Prop where
  base : attributeBase o m X.env (eval o X.env) = eval o X.env
  few : ((backTo cpos (starEach [e] X.env)).all (fun x => !x.1) && (backToKw cpos (keywordEach [] X.env)).all (fun x => x.1.isSome)
    && decide (([e] : List Expr).length + ([] : List Keyword).length + (if ([] : List Keyword).isEmpty then 0 else 1) < 30)) = true
  line : (apos.endLine == cpos.line) = true
  trees : backTo cpos (starEach [e] X.env) = [(false, eval e X.env)]
structure M2 (X : Cx) (o : Expr) (m : Str) (apos : Pos) (e f : Expr) (cpos : Pos) : Prop where
  base : attributeBase o m X.env (eval o X.env) = eval o X.env
  few : ((backTo cpos (starEach [e, f] X.env)).all (fun x => !x.1) && (backToKw cpos (keywordEach [] X.env)).all (fun x => x.1.isSome)
    && decide (([e, f] : List Expr).length + ([] : List Keyword).length + (if ([] : List Keyword).isEmpty then 0 else 1) < 30)) = true
  line : (apos.endLine == cpos.line) = true
  trees : backTo cpos (starEach [e, f] X.env) = [(false, eval e X.env), (false, eval f X.env)]

/-- a is a dict, whatever its keys -/
def IsD (H : Hp) (a : Addr) : Prop := (∃ kvs, Rd H a (.dK kvs)) ∨ ∃ kvs, Rd H a (.dT kvs)
theorem isD_at {X : Cx} {pins : List (Addr × Obj)} {σ : St} {H : Hp} {s : Shared} {a : Addr} (I : Inv X pins σ H s) (d : IsD H a) :
    s.TypeIs (.ref a) "dict" ∧ (∀ b, Value.ref a = .ref b → ∃ ob, s.heap.get? b = some ob ∧ ob.dict = none) ∧ (a == sysModules) = false := by
  rcases d with ⟨kvs, e⟩ | ⟨kvs, e⟩
  · obtain ⟨_, hd, vs, _, dd⟩ := dk_rd I.hok e
    refine ⟨dd.typeIs, fun b q => ?_, hd⟩
    cases q
    obtain ⟨ob, _, _, h1, h2, _⟩ := dd
    exact ⟨ob, h1, h2.2.1⟩
  · obtain ⟨_, hd, xs, _, dd⟩ := dt_rd I.hok e
    refine ⟨dd.typeIs, fun b q => ?_, hd⟩
    cases q
    obtain ⟨ob, _, _, h1, h2, _⟩ := dd
    exact ⟨ob, h1, h2.2.1⟩

section
variable {X : Cx} {pins : List (Addr × Obj)} {σ : St} {H : Hp} {s : Shared} {a : Addr} {y d : V} {u r : Value} {o : Option V} {A : Around} {E : Value → Shared → Prop}
/-- d.get(y) -/
theorem d_get1 {Q : Value → Shared → Prop} (hu : A.units + 1 < cLine) (I : Inv X pins σ H s) (g : DGet H a y o) (ry : RelV y u) (h : ∀ w' s', Inv X pins σ H s' → RelV (o.getD .non) w' → Q w' s') :
    wpAny (model X.prog X.w) A (call (.builtin "dict.get") [.ref a, u]) Q E s := by
  rcases g with ⟨kvs, k, e, ey, l⟩ | ⟨kvs, k, b, e, ey, eb, l⟩
  · subst ey
    obtain ⟨z, hd, vs, rel, dd⟩ := dk_rd I.hok e
    refine call_meetsIn PySem.F.slot_dict_get dd.typeIs PySem.F.entry_dict_get (PySem.F.args_dict_get_2 _ _) (meets_dict_get (mixKind X.prog X.w) a (kV_is ry) hd) ⟨_, dd.mapOf, h _ _ (I.tok _) ?_⟩
    rw [l]
    exact (rel.val k).getD rfl
  · subst ey
    cases (show u = Value.ref b from ry)
    obtain ⟨z, hd, xs, rel, dd⟩ := dt_rd I.hok e
    refine call_meetsIn PySem.F.slot_dict_get dd.typeIs PySem.F.entry_dict_get (PySem.F.args_dict_get_2 _ _) (meetsH_dict_get (tupleKind (mixKind X.prog X.w)) a b hd) ⟨tupleKind_room_in1 hu, k, xs, key_of I.hok eb, dd, h _ _ (I.tok _) ?_⟩
    rw [l]
    exact (rel.val k).getD rfl
/-- d.get(y, x) -/
theorem d_get2 {Q : Value → Shared → Prop} (hu : A.units + 1 < cLine) (I : Inv X pins σ H s) (g : DGet H a y o) (ry : RelV y u) (rd : RelV d r) (h : ∀ w' s', Inv X pins σ H s' → RelV (o.getD d) w' → Q w' s') :
    wpAny (model X.prog X.w) A (call (.builtin "dict.get") [.ref a, u, r]) Q E s := by
  rcases g with ⟨kvs, k, e, ey, l⟩ | ⟨kvs, k, b, e, ey, eb, l⟩
  · subst ey
    obtain ⟨z, hd, vs, rel, dd⟩ := dk_rd I.hok e
    refine call_meetsIn PySem.F.slot_dict_get dd.typeIs PySem.F.entry_dict_get (PySem.F.args_dict_get_3 _ _ _) (meets_dict_get_default (mixKind X.prog X.w) a (kV_is ry) hd r) ⟨_, dd.mapOf, h _ _ (I.tok _) ?_⟩
    rw [l]
    exact (rel.val k).getD rd
  · subst ey
    cases (show u = Value.ref b from ry)
    obtain ⟨z, hd, xs, rel, dd⟩ := dt_rd I.hok e
    refine call_meetsIn PySem.F.slot_dict_get dd.typeIs PySem.F.entry_dict_get (PySem.F.args_dict_get_3 _ _ _) (meetsH_dict_get_default (tupleKind (mixKind X.prog X.w)) a b hd r) ⟨tupleKind_room_in1 hu, k, xs, key_of I.hok eb, dd, h _ _ (I.tok _) ?_⟩
    rw [l]
    exact (rel.val k).getD rd
end

def tDGet1 (td ty : TE) : TE := fun σ H Q => td σ H fun x H1 => ∃ a, x = .ref a ∧ IsD H1 a ∧ ty σ H1 fun y H2 => ∃ o, DGet H2 a y o ∧ Q (o.getD .non) H2
def tDGet2 (td ty tx : TE) : TE := fun σ H Q => td σ H fun x H1 => ∃ a, x = .ref a ∧ IsD H1 a ∧ ty σ H1 fun y H2 => tx σ H2 fun z H3 => ∃ o, DGet H3 a y o ∧ Q (o.getD z) H3
/-- d.pop(k): there; d.pop(k, x): there or not -/
def tDPop1 (td ty : TE) : TE := fun σ H Q => td σ H fun x H1 => ∃ a, x = .ref a ∧ IsD H1 a ∧ ty σ H1 fun y H2 => ∃ kvs k v, H2 a = some (.dK kvs) ∧ y = kV k ∧ valV kvs k = some v ∧ Q v (upd H2 a (.dK (dropK kvs k)))
def tDPop2 (td ty tx : TE) : TE := fun σ H Q => td σ H fun x H1 => ∃ a, x = .ref a ∧ IsD H1 a ∧ ty σ H1 fun y H2 => tx σ H2 fun z H3 => ∃ kvs k, H3 a = some (.dK kvs) ∧ y = kV k ∧
  (∀ v, valV kvs k = some v → Q v (upd H3 a (.dK (dropK kvs k)))) ∧ (valV kvs k = none → Q z H3)
section
variable {X : Cx} {o e f : Expr} {apos cpos : Pos} {td ty tx : TE}
theorem pe_dget1 (hu : X.A.units + 1 < cLine) (ho : PE X o td) (he : PE X e ty) (m : M1 X o "get" apos e cpos) : PE X (.Call (.Attribute o "get" apos) [e] [] cpos) (tDGet1 td ty) := by
  intro pins s σ H Q I h
  refine wpAny_Call_method m.base m.few m.line PySem.F.plainAttrs_dict PySem.F.slot_dict_get PySem.F.type_dict_get (thn (ho pins s σ H _ I h) fun u s1 ⟨x, H1, I1, rx, a, ex, d, q1⟩ => ?_)
  subst ex
  obtain rfl : u = Value.ref a := rx
  obtain ⟨t1, t2, _⟩ := isD_at I1 d
  refine ⟨t1, t2, ?_⟩
  rw [m.trees]
  refine Calls.callWith_builtin rfl (Calls.evalArgs_plain (Calls.spliced_cons (thn (he pins s1 σ H1 _ I1 q1) fun iv s2 ⟨y, H2, I2, ry, ov, g, q2⟩ => Calls.spliced_nil ?_)))
  exact d_get1 hu I2 g ry fun w' s3 I3 rw' => ⟨_, H2, I3, rw', q2⟩
theorem pe_dget2 (hu : X.A.units + 1 < cLine) (ho : PE X o td) (he : PE X e ty) (hf : PE X f tx) (m : M2 X o "get" apos e f cpos) : PE X (.Call (.Attribute o "get" apos) [e, f] [] cpos) (tDGet2 td ty tx) := by
  intro pins s σ H Q I h
  refine wpAny_Call_method m.base m.few m.line PySem.F.plainAttrs_dict PySem.F.slot_dict_get PySem.F.type_dict_get (thn (ho pins s σ H _ I h) fun u s1 ⟨x, H1, I1, rx, a, ex, d, q1⟩ => ?_)
  subst ex
  obtain rfl : u = Value.ref a := rx
  obtain ⟨t1, t2, _⟩ := isD_at I1 d
  refine ⟨t1, t2, ?_⟩
  rw [m.trees]
  refine Calls.callWith_builtin rfl (Calls.evalArgs_plain (Calls.spliced_cons (thn (he pins s1 σ H1 _ I1 q1) fun iv s2 ⟨y, H2, I2, ry, q2⟩ =>
    Calls.spliced_cons (thn (hf pins s2 σ H2 _ I2 q2) fun fv s3 ⟨z, H3, I3, rz, ov, g, q3⟩ => Calls.spliced_nil ?_))))
  exact d_get2 hu I3 g ry rz fun w' s4 I4 rw' => ⟨_, H3, I4, rw', q3⟩
theorem pe_dpop1 (ho : PE X o td) (he : PE X e ty) (m : M1 X o "pop" apos e cpos) : PE X (.Call (.Attribute o "pop" apos) [e] [] cpos) (tDPop1 td ty) := by
  intro pins s σ H Q I h
  refine wpAny_Call_method m.base m.few m.line PySem.F.plainAttrs_dict PySem.F.slot_dict_pop PySem.F.type_dict_pop (thn (ho pins s σ H _ I h) fun u s1 ⟨x, H1, I1, rx, a, ex, d, q1⟩ => ?_)
  subst ex
  obtain rfl : u = Value.ref a := rx
  obtain ⟨t1, t2, _⟩ := isD_at I1 d
  refine ⟨t1, t2, ?_⟩
  rw [m.trees]
  refine Calls.callWith_builtin rfl (Calls.evalArgs_plain (Calls.spliced_cons (thn (he pins s1 σ H1 _ I1 q1) fun iv s2 ⟨y, H2, I2, ry, kvs, k, v, ea, ey, l, q2⟩ => Calls.spliced_nil ?_)))
  subst ey
  exact d_pop I2 ea ry l (.inl rfl) fun w' s3 I3 rw' => ⟨v, _, I3, rw', q2⟩
theorem pe_dpop2 (ho : PE X o td) (he : PE X e ty) (hf : PE X f tx) (m : M2 X o "pop" apos e f cpos) : PE X (.Call (.Attribute o "pop" apos) [e, f] [] cpos) (tDPop2 td ty tx) := by
  intro pins s σ H Q I h
  refine wpAny_Call_method m.base m.few m.line PySem.F.plainAttrs_dict PySem.F.slot_dict_pop PySem.F.type_dict_pop (thn (ho pins s σ H _ I h) fun u s1 ⟨x, H1, I1, rx, a, ex, d, q1⟩ => ?_)
  subst ex
  obtain rfl : u = Value.ref a := rx
  obtain ⟨t1, t2, _⟩ := isD_at I1 d
  refine ⟨t1, t2, ?_⟩
  rw [m.trees]
  refine Calls.callWith_builtin rfl (Calls.evalArgs_plain (Calls.spliced_cons (thn (he pins s1 σ H1 _ I1 q1) fun iv s2 ⟨y, H2, I2, ry, q2⟩ =>
    Calls.spliced_cons (thn (hf pins s2 σ H2 _ I2 q2) fun fv s3 ⟨z, H3, I3, rz, kvs, k, ea, ey, q3, q4⟩ => Calls.spliced_nil ?_))))
  subst ey
  cases l : valV kvs k with
  | some v => exact d_pop I3 ea ry l (.inr ⟨fv, rfl⟩) fun w' s4 I4 rw' => ⟨v, _, I4, rw', q3 v l⟩
  | none => exact d_popD I3 ea ry l fun s4 I4 => ⟨z, H3, I4, rz, q4 l⟩
end

/-! ### dict(d): a copy -/
section
variable {X : Cx} {pins : List (Addr × Obj)} {σ : St} {H : Hp} {s : Shared} {a : Addr} {kvs : List (Key × V)} {A : Around} {E : Value → Shared → Prop}
theorem d_copyOf {Q : Value → Shared → Prop} (I : Inv X pins σ H s) (e : Rd H a (.dK kvs)) (h : ∀ p s', H p = none → Inv X pins σ (upd H p (.dK kvs)) s' → Q (.ref p) s') : wpAny (model X.prog X.w) A (call (.type "dict") [.ref a]) Q E s := by
  obtain ⟨z, hd, vs, rel, dd⟩ := dk_rd I.hok e
  refine kt_call_dict hd dd (by rw [← rel.length]; exact z) fun h' dd' hs => ?_
  refine h _ _ (I.hok.fresh (Nat.le_refl _)) (I.laid (a := s.heap.objs.size) (o := .dK kvs) (t' := s.toks) (fun b q hq => ?_) (Nat.le_refl _) (dk_new z (beq_eq_false_iff_ne.mpr (Ne.symm (Nat.ne_of_lt I.big))) rel dd'))
  exact (hs.2 b (Nat.ne_of_lt (Heap.lt_size hq))).trans (Heap.get?_push_of_some _ hq)
end


section
variable {X : Cx} {pins : List (Addr × Obj)} {σ : St} {H : Hp} {s : Shared} {a : Addr} {y : V} {u : Value} {A : Around} {E : Value → Shared → Prop}
/-- d[y], not there: a KeyError -/
theorem d_missing {Q : Value → Shared → Prop} (hu : A.units + 1 < cLine) (hh : A.handled = none) (I : Inv X pins σ H s) (g : DGet H a y none) (ry : RelV y u)
    (h : ∀ h' e t', Heap.NewExc s.heap h' e "KeyError" → E (.ref e) { s with heap := h', toks := t' }) : wpAny (model X.prog X.w) A (getItem (.ref a) u) Q E s := by
  rcases g with ⟨kvs, k, e, ey, l⟩ | ⟨kvs, k, b, e, ey, eb, l⟩
  · subst ey
    obtain ⟨z, hd, vs, rel, dd⟩ := dk_rd I.hok e
    have hn : valueAt vs k = none := RelO.none_of (by rw [l]; exact rel.val k)
    exact wpAny_getItem_missing_of (kV_is ry) hd hh dd.mapOf hn fun h' ex ne => h h' ex _ ne
  · subst ey
    cases (show u = Value.ref b from ry)
    obtain ⟨z, hd, xs, rel, dd⟩ := dt_rd I.hok e
    have hn : (atKey xs k).map (·.2) = none := RelO.none_of (by rw [l]; exact rel.val k)
    exact wpAny_getItem_missing_heap (tupleKind_room_in1 hu) (key_of I.hok eb) hd hh dd (Option.map_eq_none_iff.mp hn) fun h' ex ne => h h' ex _ ne
end
end L2

namespace Att
open PySem PySem.W PySem.Calls PyProof.Rows

/-! ### the script -/
theorem ints_of_wellAll {P : Params} {h : Heap} : ∀ (ns : List Int) (vs : List Value), WellAll P h vs (ns.map WData.int) → IntsAre vs ns := by
  intro ns
  induction ns with
  | nil =>
    intro vs w
    rw [List.map_nil] at w
    cases w
    exact .nil
  | cons n ns ih =>
    intro vs w
    rw [List.map_cons] at w
    cases w with
    | cons a b =>
      cases a
      exact .cons _ _ (ih _ b)

theorem script_of {l : OpenLaw} {n : Nat} (hn : l.most = some n) {P : Params} {h : Heap} {args : List WData} {vals : List Value}
    (hpre : l.row.toRowW.claim.pre args = true) (hwl : WellAll P h vals args) :
    ∃ a vs ns, vals = [Value.ref a] ∧ args = [WData.list (ns.map WData.int)] ∧ h.get? a = some { cls := .type "list", data := .seq vs.toArray } ∧ IntsAre vs ns ∧ ns.length ≤ n := by
  have hsh : WShape.hasAll [] args [.list .int] = true := (pre_splitW hpre).1
  have hc : l.pre.holds [] { args := args } = true := (pre_splitW hpre).2
  obtain ⟨d, r, rfl, h1, h2⟩ := hasAllW_cons hsh
  obtain rfl := hasAllW_nil h2
  obtain ⟨xs, rfl, h3⟩ := hasW_list h1
  obtain ⟨ns, rfl⟩ := items_int h3
  have hlen : ns.length ≤ n := by
    unfold OpenLaw.pre at hc
    have h4 : (WTm.not (.lt (.lit (.int (n : Int))) (.len (.arg 0)))).holds [] { args := [.list (ns.map .int)] } = true := by
      have h4 := (holds_andW hc).1
      rw [hn] at h4
      exact h4
    have h5 := condW_of h4 (w_not (w_lt w_lit (w_len_list (w_arg rfl))))
    rw [List.length_map] at h5
    refine Nat.le_of_not_lt fun q => ?_
    have q' : (n : Int) < ((ns.length : Nat) : Int) := by omega
    first
      | (rw [decide_eq_true q'] at h5; exact absurd h5 (by decide))
      | (simp at h5; omega)
  cases hwl with
  | cons w1 w2 =>
    cases w2
    cases w1 with
    | list ho hall => exact ⟨_, _, ns, rfl, rfl, ho, ints_of_wellAll ns _ hall, hlen⟩

theorem post_true (l : OpenLaw) (args : List WData) : l.row.toRowW.claim.post args (.bool true) args = true :=
  postW_of (r := l.row.toRowW) (X := (true == true))
    (show WShape.has [] (.bool true) .bool = true by first | rfl | decide | simp [WShape.has, WShape.arms, WShape.armsAll])
    (show (WTm.eq .res (.lit (.bool true))).value [] { args := args, res := some (.bool true), after := args } = some (.bool (true == true)) from w_eq_bool (w_res rfl) w_lit) rfl

/-! ### the attachment: holds_open's last premise (the goal 'hc' behind k_head) from a wpAny of the law's body -/
theorem attach {l : OpenLaw} {n : Nat} {q : Program} {loose : List Str} {XP : (Str → Option Value) → Heap → Prop} {YP : World → Heap → Prop} {d : DefRec} {x : Str}
    (hn : l.most = some n) (hdf : d.params.defaults = [])
    (hbind : ∀ pm cd doc v : Value, bindArgs (docDef d.name d.params d.body d.scope pm cd doc) ⟨[v], []⟩ = pure [(x, v)])
    (hx : d.scope.names.lookup x = some .local ∨ d.scope.names.lookup x = some .cell)
    (hk : d.scope.kind = .function) (hco : d.scope.isCoroutine = false) (hgen : d.scope.isGenerator = false)
    (body : ∀ (w : World) (s₀ s₁ s : Shared) (mg mb : Str → Option Value) (fa : Addr) (o : Obj) (pm cd doc : Value) (a : Addr) (vs : List Value) (ns : List Int),
      Ground q loose [] XP w s₀ mg mb s₁.heap → YP w s₁.heap →
      s₁.heap.get? fa = some o → o.data = .func (docDef d.name d.params d.body d.scope pm cd doc) → s₁.heap.CodeRec cd d.name → mg d.name = some (.ref fa) →
      s₁.heap.get? a = some { cls := .type "list", data := .seq vs.toArray } → IntsAre vs ns → ns.length ≤ n →
      s.gens = #[] → s.os = s₁.os →
      Fr s₁.heap s₁.heap.objs.size s.heap (bindL (envOfC d.name d.scope s₁.heap.objs.size fa cd).kindOf [(x, .ref a)] fun _ => none) →
      Cl s₁.heap.objs.size (cellsFrom (s₁.heap.objs.size + 1) d.scope.names []) s.heap (bindC (envOfC d.name d.scope s₁.heap.objs.size fa cd).kindOf [(x, .ref a)] fun _ => none) →
      wpAny (model l.prog w) (callerA.deeper (envOfC d.name d.scope s₁.heap.objs.size fa cd)) (execs d.body (envOfC d.name d.scope s₁.heap.objs.size fa cd))
        (fun f s' => f = .ret (.bool true) ∧ OldK s₁.heap s'.heap ∧ s'.os = s₁.os ∧ AllBare s'.gens) (fun _ _ => False) s) :
    WalkO q loose XP YP l.row.toRowW d [] (fun f vs => PySem.call f vs) := by
  intro w s₀ s₁ mg mb G Y fa o pm cd doc dV kV ho hd hcd hD hmg hg args vals as hpre hlay hrd hwl hlo
  obtain rfl : dV = .none := Dflts.none hD hdf
  obtain rfl : kV = .none := Dflts.noKw hD
  obtain ⟨a, vs, ns, rfl, rfl, hobj, hints, hlen⟩ := script_of hn hpre hwl
  refine enter_call ?_
  refine call_cells_ret (o := o) (by rw [depth_caller]; decide) ho (fd_plain hd) G.T.nolimit hcd (hbind pm cd doc (.ref a)) (fun y hy => ?_) (fun h₁ tk F X => ?_) hco hgen hk
  · obtain rfl : y = (x, Value.ref a) := List.mem_singleton.mp hy
    rcases hx with e | e
    · exact .inl e
    · exact .inr ⟨e, cellsFrom_some _ _ _ (.inl e)⟩
  · refine wpAny_mono (body w s₀ s₁ { s₁ with heap := h₁, toks := tk } mg mb fa o pm cd doc a vs ns G Y ho (fd_plain hd) hcd hmg hobj hints hlen hg rfl F X) (fun f s' hq => ?_) (fun _ _ hq => hq)
    obtain ⟨rfl, h2, h3, h4⟩ := hq
    exact ⟨.inl ⟨.bool true, .bool true, [], rfl, fun _ => rfl, .bool true, post_true l _, fun _ => ⟨List.Pairwise.nil, fun _ hm => (nomatch hm)⟩⟩, h2, h3, h4⟩

/-- the same from a codeAny of the CALL (for a layer whose function contracts speak of calls) -/
theorem attach_call {l : OpenLaw} {n : Nat} {q : Program} {loose : List Str} {XP : (Str → Option Value) → Heap → Prop} {YP : World → Heap → Prop} {d : DefRec}
    (hn : l.most = some n) (hdf : d.params.defaults = [])
    (call : ∀ (w : World) (s₀ s₁ : Shared) (mg mb : Str → Option Value) (fa : Addr) (o : Obj) (pm cd doc : Value) (a : Addr) (vs : List Value) (ns : List Int),
      Ground q loose [] XP w s₀ mg mb s₁.heap → YP w s₁.heap →
      s₁.heap.get? fa = some o → o.data = .func (docDef d.name d.params d.body d.scope pm cd doc) → s₁.heap.CodeRec cd d.name → mg d.name = some (.ref fa) →
      s₁.heap.get? a = some { cls := .type "list", data := .seq vs.toArray } → IntsAre vs ns → ns.length ≤ n → s₁.gens = #[] →
      codeAny (model l.prog w) callerA (.call (.ref fa) ⟨[.ref a], []⟩) (fun r s' => r = .ok (.ret (.bool true)) ∧ OldK s₁.heap s'.heap ∧ s'.os = s₁.os ∧ AllBare s'.gens) s₁) :
    WalkO q loose XP YP l.row.toRowW d [] (fun f vs => PySem.call f vs) := by
  intro w s₀ s₁ mg mb G Y fa o pm cd doc dV kV ho hd hcd hD hmg hg args vals as hpre hlay hrd hwl hlo
  obtain rfl : dV = .none := Dflts.none hD hdf
  obtain rfl : kV = .none := Dflts.noKw hD
  obtain ⟨a, vs, ns, rfl, rfl, hobj, hints, hlen⟩ := script_of hn hpre hwl
  refine enter_call (codeAny_mono (call w s₀ s₁ mg mb fa o pm cd doc a vs ns G Y ho (fd_plain hd) hcd hmg hobj hints hlen hg) fun r s' hq => ?_)
  obtain ⟨rfl, h2, h3, h4⟩ := hq
  exact ⟨.inl ⟨.bool true, .bool true, [], rfl, fun _ => rfl, .bool true, post_true l _, fun _ => ⟨List.Pairwise.nil, fun _ hm => (nomatch hm)⟩⟩, h2, h3, h4⟩

/-- the same where the top left finished generators (o_head chose holds_openN): nothing may have changed at all and no generator may be left -/
theorem attachN {l : OpenLaw} {n : Nat} {q : Program} {loose : List Str} {XP : (Str → Option Value) → Heap → Prop} {YP : World → Heap → Prop} {d : DefRec} {x : Str}
    (hn : l.most = some n) (hdf : d.params.defaults = [])
    (hbind : ∀ pm cd doc v : Value, bindArgs (docDef d.name d.params d.body d.scope pm cd doc) ⟨[v], []⟩ = pure [(x, v)])
    (hx : d.scope.names.lookup x = some .local ∨ d.scope.names.lookup x = some .cell)
    (hk : d.scope.kind = .function) (hco : d.scope.isCoroutine = false) (hgen : d.scope.isGenerator = false)
    (body : ∀ (w : World) (s₀ s₁ s : Shared) (mg mb : Str → Option Value) (fa : Addr) (o : Obj) (pm cd doc : Value) (a : Addr) (vs : List Value) (ns : List Int),
      Ground q loose [] XP w s₀ mg mb s₁.heap → YP w s₁.heap →
      s₁.heap.get? fa = some o → o.data = .func (docDef d.name d.params d.body d.scope pm cd doc) → s₁.heap.CodeRec cd d.name → mg d.name = some (.ref fa) →
      s₁.heap.get? a = some { cls := .type "list", data := .seq vs.toArray } → IntsAre vs ns → ns.length ≤ n →
      s.gens = #[] → s.os = s₁.os →
      Fr s₁.heap s₁.heap.objs.size s.heap (bindL (envOfC d.name d.scope s₁.heap.objs.size fa cd).kindOf [(x, .ref a)] fun _ => none) →
      Cl s₁.heap.objs.size (cellsFrom (s₁.heap.objs.size + 1) d.scope.names []) s.heap (bindC (envOfC d.name d.scope s₁.heap.objs.size fa cd).kindOf [(x, .ref a)] fun _ => none) →
      wpAny (model l.prog w) (callerA.deeper (envOfC d.name d.scope s₁.heap.objs.size fa cd)) (execs d.body (envOfC d.name d.scope s₁.heap.objs.size fa cd))
        (fun f s' => f = .ret (.bool true) ∧ (∀ b o, s₁.heap.get? b = some o → s'.heap.get? b = some o) ∧ s'.os = s₁.os ∧ s'.gens = #[]) (fun _ _ => False) s) :
    WalkN q loose XP YP l.row.toRowW d [] (fun f vs => PySem.call f vs) := by
  intro w s₀ s₁ mg mb G Y fa o pm cd doc dV kV ho hd hcd hD hmg hg args vals as hpre hlay hrd hwl hlo
  obtain rfl : dV = .none := Dflts.none hD hdf
  obtain rfl : kV = .none := Dflts.noKw hD
  obtain ⟨a, vs, ns, rfl, rfl, hobj, hints, hlen⟩ := script_of hn hpre hwl
  refine enter_callW ?_
  refine call_cells_ret (o := o) (by rw [depth_caller]; decide) ho (fd_plain hd) G.T.nolimit hcd (hbind pm cd doc (.ref a)) (fun y hy => ?_) (fun h₁ tk F X => ?_) hco hgen hk
  · obtain rfl : y = (x, Value.ref a) := List.mem_singleton.mp hy
    rcases hx with e | e
    · exact .inl e
    · exact .inr ⟨e, cellsFrom_some _ _ _ (.inl e)⟩
  · refine wpAny_mono (body w s₀ s₁ { s₁ with heap := h₁, toks := tk } mg mb fa o pm cd doc a vs ns G Y ho (fd_plain hd) hcd hmg hobj hints hlen hg rfl F X) (fun f s' hq => ?_) (fun _ _ hq => hq)
    obtain ⟨rfl, h2, h3, h4⟩ := hq
    exact ⟨.inl ⟨.bool true, .bool true, [], rfl, fun _ => rfl, .bool true, post_true l _, fun _ => ⟨List.Pairwise.nil, fun _ hm => (nomatch hm)⟩⟩, h2, h3, h4⟩

/-! ### rules over ANY heap (no ledger) from facts about the written part K: the library's own take a ledger (News) for what they write -/
section
variable {prog : Program} {w : World} {A : Around} {E : Value → Shared → Prop} {s : Shared} {K : Frag}

/-- a def of the module, or a method (qual 'C.m'), entered: the frame is the next address; cells behind it -/
theorem call_fn {R : Result → Shared → Prop} {name qual : Str} {params : Arguments} {body : List Stmt} {scope : Scope} {dV kV doc pm cdv ct oc : Value} {an od : Option Addr} {osl : Array (Option Value)} {f : Addr} {args : Args} {binds : List (Str × Value)}
    (X : K.In s.heap) (hlim : s.heap.NoLimit) (ho : K.lookup f = some ⟨oc, od, .func (fnOf name qual params body scope dV kV doc pm an cdv ct), osl⟩) (hcd : codeIn K cdv qual = true) (hroom : A.depth < recursionLimit)
    (hbind : BindsTo s (fnOf name qual params body scope dV kV doc pm an cdv ct) args binds)
    (hkind : (binds.all fun y => scope.names.lookup y.1 == some .local || scope.names.lookup y.1 == some .cell) = true)
    (h : ∀ s₁, InCallC s s.heap.objs.size (bindL (envOfC qual scope s.heap.objs.size f cdv).kindOf binds fun _ => none) (cellsFrom (s.heap.objs.size + 1) scope.names [])
        (bindC (envOfC qual scope s.heap.objs.size f cdv).kindOf binds fun _ => none) s₁ →
      wpAny (model prog w) (A.deeper (envOfC qual scope s.heap.objs.size f cdv)) (execs body (envOfC qual scope s.heap.objs.size f cdv))
        (fun fl s' => R (.ok (.ret (match fl with | .ret v => v | _ => .none))) s')
        (fun e s' => wpAny (model prog w) (A.deeper (envOfC qual scope s.heap.objs.size f cdv)) (leaving (envOfC qual scope s.heap.objs.size f cdv) e) (fun _ s'' => R (.error e) s'') (fun e' s'' => R (.error e') s'') s') s₁)
    (hco : scope.isCoroutine = false) (hgen : scope.isGenerator = false) (hk : scope.kind = .function) : codeAny (model prog w) A (.call (.ref f) args) R s := by
  refine codeAny_call_function hroom (X _ _ ho) rfl hco hgen rfl (codeRec_of X hcd) (hbind _ _ _ _ ?_)
  refine wpAny_newFunctionEnv_cells hk (kindsX hkind _) fun env he s₁ x => ?_
  subst he
  exact ⟨hlim.keeps x.toInCall.keep, codeAny_func (h s₁ x)⟩

/-- C(..): dict at size, instance at size + 1, then __init__ -/
theorem make_obj {R : Result → Shared → Prop} {C fI : Addr} {rest : List Value} {kw : List (Str × Value)}
    (X : K.In s.heap) (hm : makesIn K C = true) (hi : findIn K (.ref C) "__init__" = some (some (.ref fI))) (hf : isFn K (.ref fI) = true)
    (h : codeAny (model prog w) (A.under (.builtin "type.__call__" ⟨.ref C :: rest, kw⟩)) (.call (.ref fI) ⟨.ref (s.heap.objs.size + 1) :: rest, kw⟩) (InitBack (s.heap.objs.size + 1) R)
      { s with heap := (s.heap.push emptyDict).push (instObj C s.heap.objs.size) }) : codeAny (model prog w) A (.call (.ref C) ⟨rest, kw⟩) R s := by
  obtain ⟨hh, g, d, t, os⟩ := s
  exact make_core (makes_of X hm) (looks_findIn X hi) (fun self => bind_fn X self (beq_iff_eq.mp hf)) (.inl rfl) h

/-- x.name where the instance's dict holds the name and the class does not -/
theorem get_field {x C : Addr} {ox : Obj} {es : List DictEntry} {n : Nat} {name : Str} {expr : Bool} {v : Value} {Q : Value → Shared → Prop}
    (X : K.In s.heap) (I : PySem.W.InstAt s.heap x ox C (some (dictOf es n))) (hg : plainGet K C name = true) (hh : hasDictIn K C = true) (ha : findIn K (.ref C) name = some none)
    (hl : getL name es = some (some v)) (hv : handedIn v = true) (h : Q v { s with toks := s.toks + 1 }) : wpAny (model prog w) A (getAttr (.ref x) name expr) Q E s :=
  get_value X I (plainGet_of hg).1 (findObj_own hh ha rfl hl) hv h

/-- x.m(..): the method found in the class -/
theorem get_method {x C f : Addr} {ox : Obj} {es : List DictEntry} {n : Nat} {name : Str} {pl : Sem Bool} {Q : Value × List Value → Shared → Prop}
    (X : K.In s.heap) (I : PySem.W.InstAt s.heap x ox C (some (dictOf es n))) (hg : plainGet K C name = true) (hf : findIn K (.ref C) name = some (some (.ref f))) (ht : isFn K (.ref f) = true)
    (hl : getL name es = some none) (h : Q (.ref f, [.ref x]) s) : wpAny (model prog w) A (getMethod (.ref x) name pl) Q E s :=
  method_fn X I (plainGet_of hg).1 (plainGet_of hg).2 hf (beq_iff_eq.mp ht) (by show (lookIn name (dictOf es n)).map _ = _; rw [lookIn_dict, hl]; rfl) h

/-! the whole heap as the ledger: makes every rule that writes through a ledger a rule over any heap -/
def noObjs (h : Heap) : Heap := { h with objs := #[] }
theorem noObjs_get (h : Heap) (b : Addr) : (noObjs h).get? b = none := by
  cases e : (noObjs h).get? b with
  | none => rfl
  | some o => exact absurd (Heap.lt_size e) (Nat.not_lt_zero _)
def ledger (h : Heap) (L d : Addr) : List (Addr × Obj) := (List.range h.objs.size).filterMap fun a => if a = L ∨ a = d then none else (h.get? a).map fun o => (a, o)
theorem mem_ledger {h : Heap} {L d a : Addr} {o : Obj} : (a, o) ∈ ledger h L d ↔ a ≠ L ∧ a ≠ d ∧ h.get? a = some o := by
  unfold ledger
  rw [List.mem_filterMap]
  constructor
  · rintro ⟨b, _, e⟩
    split at e
    · cases e
    · rename_i hb
      obtain ⟨o', ho, e'⟩ := Option.map_eq_some_iff.mp e
      cases e'
      exact ⟨fun q => hb (.inl q), fun q => hb (.inr q), ho⟩
  · rintro ⟨n1, n2, ho⟩
    refine ⟨a, List.mem_range.mpr (Heap.lt_size ho), ?_⟩
    rw [if_neg (show ¬ (a = L ∨ a = d) from fun q => q.elim n1 n2), ho] <;> rfl
theorem news_ledger {h : Heap} {L d : Addr} {od : Obj} (hne : d ≠ L) (ho : h.get? d = some od) : News (noObjs h) L h ([] ++ (d, od) :: ledger h L d) := by
  rintro ⟨a, o⟩ hp
  rcases List.mem_cons.mp hp with e | hp
  · cases e
    exact ⟨ho, hne, noObjs_get _ _⟩
  · obtain ⟨n1, n2, e⟩ := mem_ledger.mp hp
    exact ⟨e, n1, noObjs_get _ _⟩
theorem fr_all {h : Heap} {L : Addr} {m : Str → Option Value} (n : h.Ns L m) : Fr (noObjs h) L h m :=
  ⟨n, fun b o e => (by rw [noObjs_get] at e; cases e), Nat.zero_le _⟩
/-- Upd of the head entry (for append_K, setItem_K ..) -/
theorem upd_ledger {h : Heap} {L d : Addr} {o o' : Obj} : Upd d o o' ((d, o) :: ledger h L d) ((d, o') :: ledger h L d) :=
  .head fun ⟨_, _⟩ hp => (mem_ledger.mp hp).2.1

/-- x.name = v over any heap: L is any namespace of the heap (the frame's, say): its map stays, its object is not told; all else but the dict stays -/
theorem set_field {x C dx L : Addr} {ox : Obj} {m : Str → Option Value} {es es' : List DictEntry} {n n' : Nat} {name : Str} {v : Value} {Q : Unit → Shared → Prop}
    (X : K.In s.heap) (I : PySem.W.InstAt s.heap x ox C (some (dictOf es n))) (hd : ox.dict = some dx) (hL : s.heap.Ns L m) (hne : dx ≠ L)
    (hs : findIn K (.ref C) "__setattr__" = some (some (.builtin "object.__setattr__"))) (hp : plainOver K C = true) (ht : takerIn K C name = some none) (hh : hasDictIn K C = true) (hl : (getL name es).isSome = true)
    (e : (putL name (PyData.keyHash w.params name) (.str name (s.toks + 1)) v es, putN name es n) = (es', n')) (hz : es'.length ≤ 1000)
    (h : ∀ h' : Heap, h'.Ns L m → h'.get? dx = some (dictOf es' n') → (∀ b o, b ≠ dx → b ≠ L → s.heap.get? b = some o → h'.get? b = some o) → Q () { s with heap := h', toks := s.toks + 2 }) :
    wpAny (model prog w) A (setAttr (.ref x) name v) Q E s := by
  obtain ⟨e1, e2⟩ := Prod.mk.inj e
  have hdx : s.heap.get? dx = some (dictOf es n) := by
    have := I.dict
    rw [hd] at this
    exact this
  refine set_plain X I hs (osa_dict (s := { s with toks := s.toks + 1 }) (h₀ := noObjs s.heap) (L := L) (m := m) (od := dictOf es n) (od' := dictOf es' n') (es := es') (n := n') (pre := []) (post := ledger s.heap L dx)
    (fr_all hL) (news_ledger hne hdx) X I hd hp ht hh hl (fun _ q => nomatch q) (fun ⟨_, _⟩ q => (mem_ledger.mp q).2.1) (by rw [putName_dict, e1, e2]) rfl hz fun h' F' N' => ?_)
  exact h h' F'.ns (N'.get (List.Mem.head _)) fun b o n1 n2 ho => N'.get (List.Mem.tail _ (mem_ledger.mpr ⟨n2, n1, ho⟩))
end
end Att

namespace L2
open PySem PySem.Spec PyProof.Rows

theorem vals_ints : ∀ {vs : List Value} {ns : List Int}, IntsAre vs ns → Vals (ns.map V.int) vs
  | _, _, .nil => .nil
  | _, _, .cons n t h => .cons ⟨t, rfl⟩ (vals_ints h)

/-- nothing is tracked but the script, known to the object (or it is an object of the module) -/
def Only (H : Hp) : Prop := ∀ b, H b = none ∨ ∃ o xs, H b = some (.frz o (.lst xs))

/-- THE HEAD: the law's promise, at the heap behind the top. F, the promise of the law's def, may use that base is part of the heap (so K.In base, base.Ns mainGlobals mg stand in Mod) -/
theorem law_call {P : Program} {w : World} {K : PySem.W.Frag} {mg mb : Str → Option Value} {CX : CXT} {k : Nat} {fa a : Addr} {fd : FuncData} {x : Str} {sp : Sp} {s₁ : Shared} {vs : List Value} {ns : List Int}
    (KX : K.In s₁.heap) (hns : s₁.heap.Ns mainGlobals mg) (hb : s₁.heap.Ns builtinsNs mb) (hbb : ∀ x : Str, x ≠ "__name__" → mb x = bootBuiltins x) (hlim : s₁.heap.NoLimit) (hg : s₁.gens = #[])
    (ha : s₁.heap.get? a = some { cls := .type "list", data := .seq vs.toArray }) (hi : IntsAre vs ns) (hl : ns.length ≤ sizeLine) (hr : Room k callerA)
    (F : ∀ base : Heap, K.In base → base.Ns mainGlobals mg → FnOk P w K mg base CX k fa fd [x] sp) (hbind : ∀ (s : Shared) (u : Value), BindsTo s fd ⟨[u], []⟩ [(x, u)])
    (hsp : ∀ H : Hp, Only H → SqL K H a (ns.map V.int) → sp [.ref a] H (fun v _ => v = .bl true) fun _ _ _ => False)
    (hCX : ∀ H e s', CX [] H s₁ (fun _ _ _ => False) e s' → False) :
    codeAny (model P w) callerA (.call (.ref fa) ⟨[.ref a], []⟩) (fun r s' => r = .ok (.ret (.bool true)) ∧ OldK s₁.heap s'.heap ∧ s'.os = s₁.os ∧ AllBare s'.gens) s₁ := by
  have rv := vals_ints hi
  have lenV := hi.length
  -- from an abstract heap in which nothing but the script may be tracked
  have core : ∀ H : Hp, Only H → SqL K H a (ns.map V.int) → HOk P w H s₁.heap → (∀ b, H b ≠ none → b = a) → (H a ≠ none → K.lookup a = none) →
      codeAny (model P w) callerA (.call (.ref fa) ⟨[.ref a], []⟩) (fun r s' => r = .ok (.ret (.bool true)) ∧ OldK s₁.heap s'.heap ∧ s'.os = s₁.os ∧ AllBare s'.gens) s₁ := by
    intro H hO hS hok hA hK
    have base_of : ∀ {b : Addr} {o : Obj}, s₁.heap.get? b = some o → H b = none → (hidT s₁.heap H).get? b = some o := fun e n => hidT_get e n
    have noA : ∀ {b : Addr} {o : Obj} {es : Array DictEntry} {ep : Nat}, s₁.heap.get? b = some o → o.data = .dict es ep → H b = none := fun {b o es ep} e d => by
      cases q : H b with
      | none => rfl
      | some u =>
        have e' : b = a := hA b (by rw [q]; simp)
        subst e'
        rw [ha] at e; cases e
        have d' : Data.seq vs.toArray _ = Data.dict es ep := d
        cases d'
    have nsK : ∀ {b : Addr} {m : Str → Option Value}, s₁.heap.Ns b m → (hidT s₁.heap H).Ns b m := fun {b m} ⟨o, es, ep, e, d, r⟩ => ⟨o, es, ep, base_of e (noA e d), d, r⟩
    have hKb : K.In (hidT s₁.heap H) := fun b o e => base_of (KX b o e) (by
      cases q : H b with
      | none => rfl
      | some u =>
        have e' : b = a := hA b (by rw [q]; simp)
        subst e'
        rw [hK (by rw [q]; simp)] at e; cases e)
    have hM : Mod K mg (hidT s₁.heap H) := ⟨hKb, nsK hns, ⟨mb, nsK hb, hbb⟩, let ⟨mc, h1, h2⟩ := hlim; ⟨mc, nsK h1, h2⟩⟩
    have e0 : Env0 P w K mg (hidT s₁.heap H) callerA [] s₁ H := ⟨rfl, hM, fun b o e => of_hidT e, Nat.le_of_eq (hidT_size _ _), trivial, fun b hb => absurd (show b ∈ ([] : List Addr) from hb) (by simp), hok, .of_eq hg⟩
    refine codeAny_mono ((F _ hKb (nsK hns)).run callerA [] s₁ H ⟨[.ref a], []⟩ [.ref a] [.ref a] _ _ hr e0 (hbind s₁ (.ref a)) (.cons rfl .nil) (hsp H hO hS)) fun r s' h => ?_
    cases r with
    | error e => exact (hCX H e s' h).elim
    | ok fl =>
      cases fl with
      | next => exact False.elim h
      | brk => exact False.elim h
      | cont => exact False.elim h
      | ret u =>
        obtain ⟨v, H', os, bare, un, hok', r', q⟩ := h
        have q' : v = .bl true := q
        subst q'
        obtain rfl : u = Value.bool true := r'
        refine ⟨rfl, OldK.of_keep fun b o e => ?_, os, bare⟩
        cases q : H b with
        | none => exact un.keep b o e q (by intro z; exact absurd (show b ∈ ([] : List Addr) from z) (by simp)) (by simp)
        | some u =>
          rcases hO b with z | ⟨ob, xs, z⟩
          · rw [q] at z; cases z
          · have z2 := un.frzs b ob _ z
            obtain ⟨e1, _⟩ := hok b _ z
            obtain ⟨e2, _⟩ := hok' b _ z2
            rw [e] at e1; cases e1
            exact e2
  cases hk : K.lookup a with
  | some o =>
    -- the script is one of the module's own objects
    have e := KX a o hk
    rw [ha] at e
    cases e
    refine core (fun _ => none) (fun _ => .inl rfl) (.inr ⟨_, vs.toArray, _, hk, rfl, rfl, rfl, by rw [List.size_toArray, lenV]; exact hl, by simpa using rv⟩) (fun b u z => by have z' : (none : Option HO) = some u := z; cases z') (fun b z => absurd rfl z) fun z => absurd rfl z
  | none =>
    refine core (fun b => if b = a then some (.frz { cls := .type "list", data := .seq vs.toArray } (.lst (ns.map V.int))) else none) (fun b => ?_) (.inl (.inr ⟨{ cls := .type "list", data := .seq vs.toArray }, if_pos rfl⟩)) (fun b u z => ?_) (fun b z => ?_) fun _ => hk
    · by_cases hb : b = a
      · exact .inr ⟨_, _, if_pos hb⟩
      · exact .inl (if_neg hb)
    · by_cases hb : b = a
      · have z' := (if_pos hb).symm.trans z
        cases z'
        subst hb
        exact ⟨ha, by rw [List.length_map]; exact hl, vs, _, rv, ha⟩
      · have z' := (if_neg hb).symm.trans z
        cases z'
    · by_cases hb : b = a
      · exact hb
      · exact absurd (if_neg hb) z
end L2

namespace L2
open PySem PySem.Spec PyProof.Rows

abbrev KOf {K : PySem.W.Frag} {h : Heap} (_ : K.In h) : PySem.W.Frag := K

/-- the goal that k_head leaves (case hc), from the law's promise. F gives the function object fd (K's own) once, then the promise over every base -/
theorem walk_of {l : PySem.W.OpenLaw} {n k : Nat} {q : Program} {loose : List Str} {XP : (Str → Option Value) → Heap → Prop} {YP : World → Heap → Prop} {d : DefRec} {K : Params → PySem.W.Frag} {CX : World → CXT} {sp : World → Sp} {x : Str}
    (hn : l.most = some n) (hn2 : n ≤ sizeLine) (hdf : d.params.defaults = []) (hr : Room k callerA)
    (hY : ∀ (w : World) (h : Heap), YP w h → (K w.params).In h)
    (F : ∀ (w : World) (mg : Str → Option Value) (fa : Addr) (h : Heap), (K w.params).In h → h.Ns mainGlobals mg → mg d.name = some (.ref fa) →
      ∃ fd : FuncData, (∀ (s : Shared) (u : Value), BindsTo s fd ⟨[u], []⟩ [(x, u)]) ∧
        ∀ base : Heap, (K w.params).In base → base.Ns mainGlobals mg → FnOk l.prog w (K w.params) mg base (CX w) k fa fd [x] (sp w))
    (hsp : ∀ (w : World) (H : Hp) (a : Addr) (ns : List Int), ns.length ≤ n → Only H → SqL (K w.params) H a (ns.map V.int) → sp w [.ref a] H (fun v _ => v = .bl true) fun _ _ _ => False)
    (hCX : ∀ (w : World) (H : Hp) (s : Shared) (e : Value) (s' : Shared), CX w [] H s (fun _ _ _ => False) e s' → False) :
    PySem.W.WalkO q loose XP YP l.row.toRowW d [] (fun f vs => PySem.call f vs) := by
  refine Att.attach_call hn hdf fun w s₀ s₁ mg mb fa o pm cd doc a vs ns G Y ho hd hcd hmg hobj hints hlen hg => ?_
  have KX := hY w _ Y
  obtain ⟨fd, hb, hF⟩ := F w mg fa _ KX G.T.g hmg
  exact law_call KX G.T.g G.T.b G.T.builtins G.T.nolimit hg hobj hints (Nat.le_trans hlen hn2) hr hF hb (fun H hO hS => hsp w H a ns hlen hO hS) fun H e s' => hCX w H s₁ e s'
/-- the same where the promise hangs on the written part alone: (sp := My.sp_law), no hole under a binder -/
theorem walk_ofK {l : PySem.W.OpenLaw} {n k : Nat} {q : Program} {loose : List Str} {XP : (Str → Option Value) → Heap → Prop} {YP : World → Heap → Prop} {d : DefRec} {K : Params → PySem.W.Frag} {CX : CXT} {sp : PySem.W.Frag → Sp} {x : Str}
    (hn : l.most = some n) (hn2 : n ≤ sizeLine) (hdf : d.params.defaults = []) (hr : Room k callerA)
    (hY : ∀ (w : World) (h : Heap), YP w h → (K w.params).In h)
    (F : ∀ (w : World) (mg : Str → Option Value) (fa : Addr) (h : Heap), (K w.params).In h → h.Ns mainGlobals mg → mg d.name = some (.ref fa) →
      ∃ fd : FuncData, (∀ (s : Shared) (u : Value), BindsTo s fd ⟨[u], []⟩ [(x, u)]) ∧
        ∀ base : Heap, (K w.params).In base → base.Ns mainGlobals mg → FnOk l.prog w (K w.params) mg base CX k fa fd [x] (sp (K w.params)))
    (hsp : ∀ (K : PySem.W.Frag) (H : Hp) (a : Addr) (ns : List Int), ns.length ≤ n → Only H → SqL K H a (ns.map V.int) → sp K [.ref a] H (fun v _ => v = .bl true) fun _ _ _ => False)
    (hCX : ∀ (H : Hp) (s : Shared) (e : Value) (s' : Shared), CX [] H s (fun _ _ _ => False) e s' → False) :
    PySem.W.WalkO q loose XP YP l.row.toRowW d [] (fun f vs => PySem.call f vs) :=
  walk_of (K := K) (CX := fun _ => CX) (sp := fun w => sp (K w.params)) hn hn2 hdf hr hY F (fun w H a ns h1 h2 h3 => hsp (K w.params) H a ns h1 h2 h3) fun _ H s e s' => hCX H s e s'
end L2

/- THE LAST THEOREM (shape; LID, My.* are yours):
   My.Adr: a structure of the addresses that your layer names (classes, functions); My.Txt K t: a structure (Prop) of the equations over K;
   My.txt_mk : {K} {implicit addresses ..} (e1 : nsIn K mainGlobals "law" = some (some (.ref f))) (e2 : K.lookup f = some ⟨oc, od, .func (fnOf "law" "law" params body scope dV kV doc pm an cdv ct), sl⟩) (e3 : codeIn K cdv "law" = true) .. : ∃ t, My.Txt K t

set_option maxRecDepth 100000 in
set_option maxHeartbeats 0 in
theorem PySem.Challenge.cw_LID_holds : PySem.Challenge.rw_LID.Holds := by
  w_on; o_law; k_head; (case hw => w_witness2)
  k_fill
  refine L2.walk_of (l := PySem.Challenge.rw_LID) (n := 63) (k := 40) (x := "script") (CX := fun w => ..) (sp := fun _ => My.sp_law) rfl (by decide) rfl ⟨rfl, by decide, by decide⟩ (fun w h Y => PySem.W.kIn_of Y) ?F ?S ?C
  case F =>
    intro w mg fa h KX G hmg
    have T : ∃ t, My.Txt (L2.KOf KX) t := by
      dsimp only [L2.KOf]                          -- K must stand as «<heap const> w.params» for k_is
      refine' My.txt_mk ?e1 ?e2 ?e3 ..
      (case e1 => PySem.W.k_is)                    -- in the order: a name -> its address -> its object -> its parts
      (case e2 => PySem.W.k_is)
      ..
    obtain ⟨t, T⟩ := T
    have e0 := hmg.symm.trans (PySem.W.mg_of KX G T.law)
    cases e0                                       -- fa is the law's own address
    exact ⟨_, fun s u => .of_eq rfl, fun base kb nb => My.law_fn T kb nb⟩     -- if «.of_eq rfl» comes too early: refine' ⟨_, ?b, fun base kb nb => My.law_fn T kb nb⟩; exact fun s u => .of_eq rfl
  case S => exact fun w H a ns hl hO hS => ..
  case C => exact ..
(the tactic k_is has no namespace: write k_is) -/

/-! SHORT WORDS over the layer: a def of the text, its body, what a loop and a test want. -/
namespace L2
open PySem PySem.Spec PyProof.Rows

/-! ### the text by places -/
/-- the j-th statement of a class's body -/
def inClass (s : Stmt) (j : Nat) : Stmt := match s with
  | .ClassDef _ _ _ body _ _ _ _ _ _ _ => body.getD j (.Pass ⟨0, 0, 0, 0⟩)
  | _ => .Pass ⟨0, 0, 0, 0⟩
def defArgs (s : Stmt) : Arguments := match s with
  | .FunctionDef _ a _ _ _ _ _ _ _ _ => a
  | _ => { posonlyargs := [], args := [], vararg := none, kwonlyargs := [], kw_defaults := [], kwarg := none, defaults := [] }
def defBody (s : Stmt) : List Stmt := match s with
  | .FunctionDef _ _ b _ _ _ _ _ _ _ => b
  | _ => []
def defScope (s : Stmt) : Scope := match s with
  | .FunctionDef _ _ _ _ _ _ sc _ _ _ => sc
  | _ => { kind := .function, names := [], isGenerator := false, isCoroutine := false }

/-! ### no exception leaves a def -/
abbrev CX0 : CXT := fun _ _ _ _ _ _ => False
abbrev E0 : XK := fun _ _ _ => False
theorem pass0 {X : Cx} : Passes CX0 X E0 := fun _ _ _ _ _ _ _ h => h.elim

/-! ### a def (or method) of the text as it stands behind the top -/
structure Fun (K : PySem.W.Frag) (x qual : Str) (st : Stmt) (f : Addr) (fd : FuncData) : Prop where
  ex : ∃ (oc : Value) (od : Option Addr) (kV doc pm : Value) (an : Option Addr) (cdv ct : Value) (osl : Array (Option Value)),
    fd = PySem.W.fnOf x qual (defArgs st) (defBody st) (defScope st) .none kV doc pm an cdv ct ∧ K.lookup f = some ⟨oc, od, .func fd, osl⟩ ∧ PySem.W.codeIn K cdv qual = true
  kp : PySem.W.keepIn K (.ref f) = true
section
variable {P : Program} {w : World} {K : PySem.W.Frag} {mg : Str → Option Value} {base : Heap}
/-- THE RULE for a def: its body as a term of rules, and the reading of that term -/
theorem Fun.ok {x qual : Str} {st : Stmt} {f : Addr} {fd : FuncData} {N ps : List Str} {k : Nat} {sp : Sp} (F : Fun K x qual st f fd) (S : FnScope N ps (defScope st)) (len : ∀ vs H Q E, sp vs H Q E → vs.length = ps.length)
    (hbody : ∀ (cdv : Value) (A : Around) (outer : List Env) (s : Shared) (H : Hp) (vs : List V) (Q : VK) (E : XK), Room k (A.deeper (envOfC qual (defScope st) s.heap.objs.size f cdv)) → sp vs H Q E →
      ∃ t, PSs (cxOf CX0 P w K mg base N qual (defScope st) f cdv A outer s H E).nox (defBody st) t ∧ t { nx := fun _ H' => Q .non H', rt := Q } (start N vs) H) : FnOk P w K mg base CX0 (k + 1) f fd ps sp := by
  obtain ⟨oc, od, kV, doc, pm, an, cdv, ct, osl, rfl, lk, hcd⟩ := F.ex
  refine fn_of lk hcd S len fun A outer s H vs Q E hr hsp => ?_
  obtain ⟨t, h, q⟩ := hbody cdv A outer s H vs Q E hr hsp
  exact ⟨t, h.nox, q⟩
/-- how its arguments bind (no defaults): h is «fun _ _ _ _ _ _ us hl => match us, hl with | [_, _], _ => rfl», one _ a parameter -/
theorem Fun.binds {x qual : Str} {st : Stmt} {f : Addr} {fd : FuncData} {ps : List Str} (F : Fun K x qual st f fd)
    (h : ∀ (kV doc pm : Value) (an : Option Addr) (cdv ct : Value) (us : List Value), us.length = ps.length → bindArgs (PySem.W.fnOf x qual (defArgs st) (defBody st) (defScope st) .none kV doc pm an cdv ct) ⟨us, []⟩ = pure (ps.zip us)) : Binds K fd ps [] := by
  obtain ⟨oc, od, kV, doc, pm, an, cdv, ct, osl, rfl, lk, hcd⟩ := F.ex
  exact .all (h kV doc pm an cdv ct)
theorem fun_mk {x qual : Str} {st : Stmt} {f : Addr} {oc : Value} {od an : Option Addr} {osl : Array (Option Value)} {kV doc pm cdv ct : Value} (l : K.lookup f = some ⟨oc, od, .func (PySem.W.fnOf x qual (defArgs st) (defBody st) (defScope st) .none kV doc pm an cdv ct), osl⟩)
    (c : PySem.W.codeIn K cdv qual = true) (k : PySem.W.keepIn K (.ref f) = true) : Fun K x qual st f (PySem.W.fnOf x qual (defArgs st) (defBody st) (defScope st) .none kV doc pm an cdv ct) := ⟨⟨oc, od, kV, doc, pm, an, cdv, ct, osl, rfl, l, c⟩, k⟩
end
theorem hu_of {A : Around} {k : Nat} (hr : Room k A) : A.units + 1 < cLine := Nat.lt_of_le_of_lt (Nat.add_le_add_left (by decide : 1 ≤ 64) _) hr.units
theorem small1000 {n : Nat} (h : n ≤ 1000) : n < sizeLine := Nat.lt_of_le_of_lt h (by decide)

/-! ### expressions in short: the name that stands in the i-th slot -/
section
variable {X : Cx}
theorem pv (i : Nat) {x : Str} {pos : Pos} (hN : X.N[i]? = some x := by rfl) (hv : Vis X.env.scope x := by first | exact Or.inl rfl | exact Or.inr (Or.inl rfl) | exact Or.inr (Or.inr rfl)) (hd : (x == ("__debug__" : Str)) = false := by decide)
    (hcd : (x == ("__classdict__" : Str)) = false := by decide) : PE X (.Name x pos) (tVar i) := pe_var hN hv hd hcd
end

/-! ### tests -/
theorem iteF {A B : Prop} (h : B) : if false = true then A else B := by
  rw [if_neg Bool.false_ne_true]
  exact h
theorem iteT {A B : Prop} (h : A) : if true = true then A else B := by
  rw [if_pos rfl]
  exact h
theorem ite2 {c A B : Prop} [Decidable c] (h1 : c → A) (h2 : ¬ c → B) : if c then A else B := by
  by_cases h : c
  · rw [if_pos h]
    exact h1 h
  · rw [if_neg h]
    exact h2 h
theorem iteNS {c A B : Prop} [Decidable c] (hc : c) (h : B) : if (!decide c) = true then A else B := by
  rw [decide_eq_true hc]
  exact iteF h

/-! ### heaps -/
/-- all that was tracked is as it was -/
def Same (H H' : Hp) : Prop := ∀ b o, H b = some o → H' b = some o
theorem Same.refl (H : Hp) : Same H H := fun _ _ h => h
theorem Same.trans {H H1 H2 : Hp} (a : Same H H1) (b : Same H1 H2) : Same H H2 := fun c o h => b c o (a c o h)
theorem Same.free {H H' : Hp} (e : Same H H') {l : Addr} (h : H' l = Option.none) : H l = Option.none := by
  cases q : H l with
  | none => rfl
  | some o =>
    rw [e l o q] at h
    cases h
theorem Same.seq {K : PySem.W.Frag} {H H' : Hp} {a : Addr} {xs : List V} (e : Same H H') (h : SqL K H a xs) : SqL K H' a xs := by
  rcases h with (h | ⟨o, h⟩) | h
  · exact .inl (.inl (e _ _ h))
  · exact .inl (.inr ⟨o, e _ _ h⟩)
  · exact .inr h

section
variable {X : Cx}
/-- len of a dict -/
theorem call_lenD : CallR X (.builtin "len") (fun xs H Q => ∃ a kvs, xs = [V.ref a] ∧ H a = some (.dK kvs) ∧ Q (.int kvs.length) H) := by
  intro pins s σ H xs us Q I r h
  obtain ⟨a, kvs, rfl, ha, q⟩ := h
  obtain ⟨u, rfl, ru⟩ := vals1 r
  cases ru
  exact d_len I (.inl ha) fun t s' I' => ⟨.int kvs.length, H, I', ⟨t, rfl⟩, q⟩
end
/-! ### a dict's pairs: keys that differ -/
section
variable {κ : Type} [DecidableEq κ]
theorem valV_not {kvs : List (κ × V)} {k : κ} (h : valV kvs k = none) : ¬ k ∈ kvs.map (·.1) := by
  intro m
  obtain ⟨p, hp, e⟩ := List.mem_map.mp m
  have q : (kvs.any fun kv => decide (kv.1 = k)) = true := List.any_eq_true.mpr ⟨p, hp, decide_eq_true e⟩
  rw [valV_any, h] at q
  exact absurd q (by simp)
theorem valV_in {kvs : List (κ × V)} {k : κ} {v : V} (h : valV kvs k = some v) : k ∈ kvs.map (·.1) := by
  have q : (kvs.any fun kv => decide (kv.1 = k)) = true := by
    rw [valV_any, h]
    all_goals rfl
  obtain ⟨p, hp, e⟩ := List.any_eq_true.mp q
  exact List.mem_map.mpr ⟨p, hp, of_decide_eq_true e⟩
theorem nd_snoc : ∀ {l : List κ} {k : κ}, l.Nodup → ¬ k ∈ l → (l ++ [k]).Nodup
  | [], k, _, _ => by simp
  | a :: r, k, h, hk => by
    obtain ⟨h1, h2⟩ := List.nodup_cons.mp h
    show (a :: (r ++ [k])).Nodup
    refine List.nodup_cons.mpr ⟨fun m => ?_, nd_snoc h2 fun m => hk (List.mem_cons.mpr (Or.inr m))⟩
    rcases List.mem_append.mp m with q | q
    · exact h1 q
    · exact hk (List.mem_cons.mpr (Or.inl (List.mem_singleton.mp q).symm))
theorem nd_putK {kvs : List (κ × V)} {k : κ} (v : V) (hn : (kvs.map (·.1)).Nodup) (h : valV kvs k = none) : ((putK kvs k v).map (·.1)).Nodup := by
  rw [putK_new v h, List.map_append]
  exact nd_snoc hn (valV_not h)
theorem dropK_pos {p : κ × V} {r : List (κ × V)} {k : κ} (e : p.1 = k) : dropK (p :: r) k = dropK r k := by
  unfold dropK
  rw [List.filter_cons, if_neg (by simp [e])]
theorem dropK_neg {p : κ × V} {r : List (κ × V)} {k : κ} (e : ¬ p.1 = k) : dropK (p :: r) k = p :: dropK r k := by
  unfold dropK
  rw [List.filter_cons, if_pos (by simp [e])]
theorem dropK_no : ∀ {kvs : List (κ × V)} {k : κ}, ¬ k ∈ kvs.map (·.1) → dropK kvs k = kvs
  | [], _, _ => rfl
  | p :: r, k, h => by
    have h' : ¬ k ∈ r.map (·.1) := fun m => by
      obtain ⟨q, hq, e⟩ := List.mem_map.mp m
      exact h (List.mem_map.mpr ⟨q, List.mem_cons.mpr (Or.inr hq), e⟩)
    rw [dropK_neg fun e => h (List.mem_map.mpr ⟨p, List.mem_cons.mpr (Or.inl rfl), e⟩), dropK_no h']
theorem dropK_mem {kvs : List (κ × V)} {k : κ} {p : κ × V} (h : p ∈ dropK kvs k) : p ∈ kvs := (List.mem_filter.mp h).1
theorem nd_dropK : ∀ {kvs : List (κ × V)} {k : κ}, (kvs.map (·.1)).Nodup → ((dropK kvs k).map (·.1)).Nodup
  | [], _, _ => List.nodup_nil
  | p :: r, k, h => by
    have h : (p.1 :: r.map (·.1)).Nodup := h
    obtain ⟨h1, h2⟩ := List.nodup_cons.mp h
    by_cases e : p.1 = k
    · rw [dropK_pos e]
      exact nd_dropK h2
    · rw [dropK_neg e]
      show (p.1 :: (dropK r k).map (·.1)).Nodup
      refine List.nodup_cons.mpr ⟨fun m => h1 ?_, nd_dropK h2⟩
      obtain ⟨q, hq, eq⟩ := List.mem_map.mp m
      exact List.mem_map.mpr ⟨q, dropK_mem hq, eq⟩
theorem dropK_len : ∀ {kvs : List (κ × V)} {k : κ}, (kvs.map (·.1)).Nodup → k ∈ kvs.map (·.1) → (dropK kvs k).length + 1 = kvs.length
  | [], _, _, m => by simp at m
  | p :: r, k, h, m => by
    have h : (p.1 :: r.map (·.1)).Nodup := h
    have m : k = p.1 ∨ k ∈ r.map (·.1) := List.mem_cons.mp m
    obtain ⟨h1, h2⟩ := List.nodup_cons.mp h
    by_cases e : p.1 = k
    · subst e
      rw [dropK_pos rfl, dropK_no h1]
      all_goals rfl
    · have m' : k ∈ r.map (·.1) := m.resolve_left fun z => e z.symm
      have q := dropK_len h2 m'
      rw [dropK_neg e, List.length_cons, List.length_cons]
      omega
end
end L2

set_option Elab.async false
set_option linter.all false
set_option maxRecDepth 100000
/-! words of our own over the layer -/
namespace L2
open PySem PySem.Spec PyProof.Rows
section
variable {X : Cx}
/-- // by a positive divisor of up to a hundred figures -/
def CDv (_ j : Int) : Prop := 0 < j ∧ j < 10 ^ 100
theorem op_fdivP : OpR X (binaryOp .FloorDiv) (rI CDv fun i j => .int (i / j)) := opI fun i j _ _ _ _ _ hc q => by
  have h0 : 0 < j := hc.1
  have h1 : j < 10 ^ 100 := hc.2
  refine floordiv_int (by omega) ?_ (.inl (PyProof.noPylong_of_log2 ?_))
  · rw [Int.fdiv_eq_ediv_of_nonneg _ (by omega)]
    exact q
  · have h2 : j.natAbs < 10 ^ 100 := by omega
    have h3 : (10 : Nat) ^ 100 ≤ 2 ^ 9000 := by decide +kernel
    exact (Nat.log2_lt (by omega)).mpr (Nat.lt_of_lt_of_le h2 h3)
theorem call_isinst : CallR X (.builtin "isinstance") (fun xs H Q => ∃ x n t b, xs = [x, .ty n] ∧ TyOf X.K H x t ∧ PySem.W.kitOne X.K t (.type n) = some b ∧ Q (.bl b) H) := by
  intro pins s σ H xs us Q I r h
  obtain ⟨x, n, t, b, rfl, ty, e, q⟩ := h
  obtain ⟨u, w', rfl, ru, rw'⟩ := vals2 r
  cases rw'
  exact isinst_ok I ru ty e fun tk => ⟨.bl b, H, I.tok tk, rfl, q⟩
end
/-- a def of the top, with its promise, as its callers have it -/
structure Callee (P : Program) (w : World) (K : PySem.W.Frag) (mg : Str → Option Value) (base : Heap) (x : Str) (k : Nat) (ps : List Str) (sp : Sp) : Prop where
  ex : ∃ (f : Addr) (fd : FuncData), FnOk P w K mg base CX0 k f fd ps sp ∧ Binds K fd ps [] ∧ PySem.W.keepIn K (.ref f) = true ∧ mg x = some (.ref f)
section
variable {X : Cx} {x : Str} {k : Nat} {ps : List Str} {sp : Sp} {e : Expr} {es : List Expr} {t : TA} {p pos : Pos}
theorem pe_callF (C : Callee X.prog X.w X.K X.mg X.base x k ps sp) (hr : Room k X.A) (hg : Gl X x) (ha : PA X (e :: es) t)
    (hdb : (x == ("__debug__" : Str)) = false := by decide) (he : starEach (e :: es) X.env = (false, eval e X.env) :: starEach es X.env := by rfl) (hpl : (backTo pos (starEach es X.env)).any (·.1) = false := by rfl) :
    PE X (.Call (.Name x p) (e :: es) [] pos) (tCall sp [] E0 t) := by
  intro pins s σ H Q I h
  obtain ⟨f, fd, F, b, kp, m⟩ := C.ex
  have G : FnOk X.prog X.w X.K X.mg X.base (fun _ _ _ _ _ _ => False) k f fd ps sp := F
  exact pe_call F hr hg m kp b .nil pass0 ha hdb he hpl pins s σ H Q I h
end
theorem kit_int_int (K : PySem.W.Frag) : PySem.W.kitOne K (.type "int") (.type "int") = some true := by rfl
theorem kit_bool_int (K : PySem.W.Frag) : PySem.W.kitOne K (.type "bool") (.type "int") = some true := by rfl
theorem kit_str_int (K : PySem.W.Frag) : PySem.W.kitOne K (.type "str") (.type "int") = some false := by rfl
theorem kit_int_bool (K : PySem.W.Frag) : PySem.W.kitOne K (.type "int") (.type "bool") = some false := by rfl
end L2

namespace L2
open PySem PySem.Spec PyProof.Rows
/-! ### a join behind a statement -/
def tCut (t u : TS) : TS := fun D σ H => ∃ J : St → Hp → Prop, t { D with nx := J } σ H ∧ ∀ σ1 H1, J σ1 H1 → u D σ1 H1
section
variable {X : Cx} {st : Stmt} {rest : List Stmt} {t u : TS}
theorem pss_cut (h1 : PS X st t) (h2 : PSs X rest u) : PSs X (st :: rest) (tCut t u) := by
  intro pins s σ H D I h
  obtain ⟨J, h, hJ⟩ := h
  refine wpAny_execs_cons (thn (h1 pins s σ H { D with nx := J } I h) fun f s1 q => ?_)
  cases f with
  | next =>
    obtain ⟨σ', H', I', q⟩ := q
    exact h2 pins s1 σ' H' D I' (hJ _ _ q)
  | ret v => exact q
  | brk => exact q
  | cont => exact q
end
/-! ### places of written lists -/
section
variable {α : Type} {a b c d : α} {r : List α}
theorem atI_0 : atI (a :: r) 0 = some a := atI_nat (j := 0) rfl
theorem atI_1 : atI (a :: b :: r) 1 = some b := atI_nat (j := 1) rfl
theorem atI_2 : atI (a :: b :: c :: r) 2 = some c := atI_nat (j := 2) rfl
theorem atI_3 : atI (a :: b :: c :: d :: r) 3 = some d := atI_nat (j := 3) rfl
theorem atI_m11 : atI [a] (-1) = some a := rfl
theorem atI_m12 : atI [a, b] (-1) = some b := rfl
theorem atI_m13 : atI [a, b, c] (-1) = some c := rfl
end
/-- what is read as a list or a tuple -/
def seqAt (H : Hp) (p : Addr) : Option (List V) := match H p with
  | some (.lst xs) => some xs
  | some (.tup xs) => some xs
  | some (.frz _ (.lst xs)) => some xs
  | _ => none
theorem seqAt_sq {K : PySem.W.Frag} {H : Hp} {p : Addr} {xs : List V} (h : seqAt H p = some xs) : SqL K H p xs ∨ SqT K H p xs := by
  unfold seqAt at h
  split at h
  · next e => cases h; exact .inl (.inl (.inl e))
  · next e => cases h; exact .inr (.inl (.inl e))
  · next e => cases h; exact .inl (.inl (.inr ⟨_, e⟩))
  · cases h
theorem seqAt_lst {H : Hp} {p : Addr} {xs : List V} (h : H p = some (.lst xs)) : seqAt H p = some xs := by unfold seqAt; rw [h]
theorem seqAt_tup {H : Hp} {p : Addr} {xs : List V} (h : H p = some (.tup xs)) : seqAt H p = some xs := by unfold seqAt; rw [h]
section
variable {X : Cx}
/-- x[i] of what the abstract heap holds -/
def rIxF : R2 := fun x y H Q => ∃ p i xs v, x = .ref p ∧ y = .int i ∧ seqAt H p = some xs ∧ atI xs i = some v ∧ Q v H
theorem ix_F : IxR X rIxF := by
  intro value slice pins s σ H x y v u Q I rx ry h hs
  obtain ⟨p, i, xs, z, rfl, rfl, hq, he, q⟩ := h
  rcases seqAt_sq (K := X.K) hq with h1 | h1
  · exact ix_list value slice pins s σ H _ _ v u Q I rx ry ⟨p, xs, i, z, rfl, rfl, h1, he, q⟩ hs
  · exact ix_tup value slice pins s σ H _ _ v u Q I rx ry ⟨p, xs, i, z, rfl, rfl, h1, he, q⟩ hs
theorem call_lenF : CallR X (.builtin "len") (fun xs H Q => ∃ p ys, xs = [.ref p] ∧ seqAt H p = some ys ∧ Q (.int ys.length) H) := by
  intro pins s σ H xs us Q I r h
  obtain ⟨p, ys, rfl, hq, q⟩ := h
  exact call_len_seq pins s σ H _ us Q I r ⟨p, ys, rfl, seqAt_sq hq, q⟩
theorem call_intB : CallR X (.type "int") (fun xs H Q => ∃ k, xs = [.bl k] ∧ Q (.int (if k = true then 1 else 0)) H) := by
  intro pins s σ H xs us Q I r h
  obtain ⟨k, rfl, q⟩ := h
  exact call_int1 pins s σ H _ us Q I r (.inr ⟨k, rfl, q⟩)
end
end L2

namespace L2
open PySem PySem.Spec PyProof.Rows
/-! ### the builtins' names -/
theorem bt_len : bootBuiltins "len" = some (.builtin "len") := by decide +kernel
theorem bt_isinstance : bootBuiltins "isinstance" = some (.builtin "isinstance") := by decide +kernel
theorem bt_max : bootBuiltins "max" = some (.builtin "max") := by decide +kernel
theorem bt_min : bootBuiltins "min" = some (.builtin "min") := by decide +kernel
theorem bt_abs : bootBuiltins "abs" = some (.builtin "abs") := by decide +kernel
theorem bt_sum : bootBuiltins "sum" = some (.builtin "sum") := by decide +kernel
theorem bt_sorted : bootBuiltins "sorted" = some (.builtin "sorted") := by decide +kernel
theorem bt_any : bootBuiltins "any" = some (.builtin "any") := by decide +kernel
theorem bt_all : bootBuiltins "all" = some (.builtin "all") := by decide +kernel
theorem bt_divmod : bootBuiltins "divmod" = some (.builtin "divmod") := by decide +kernel
theorem bt_ord : bootBuiltins "ord" = some (.builtin "ord") := by decide +kernel
theorem bt_repr : bootBuiltins "repr" = some (.builtin "repr") := by decide +kernel
theorem bt_int : bootBuiltins "int" = some (.type "int") := by decide +kernel
theorem bt_bool : bootBuiltins "bool" = some (.type "bool") := by decide +kernel
theorem bt_str : bootBuiltins "str" = some (.type "str") := by decide +kernel
theorem bt_list : bootBuiltins "list" = some (.type "list") := by decide +kernel
theorem bt_tuple : bootBuiltins "tuple" = some (.type "tuple") := by decide +kernel
theorem bt_dict : bootBuiltins "dict" = some (.type "dict") := by decide +kernel
theorem bt_range : bootBuiltins "range" = some (.type "range") := by decide +kernel
theorem bt_enumerate : bootBuiltins "enumerate" = some (.type "enumerate") := by decide +kernel
theorem bt_zip : bootBuiltins "zip" = some (.type "zip") := by decide +kernel
theorem bt_reversed : bootBuiltins "reversed" = some (.type "reversed") := by decide +kernel
theorem bt_set : bootBuiltins "set" = some (.type "set") := by decide +kernel
theorem bt_frozenset : bootBuiltins "frozenset" = some (.type "frozenset") := by decide +kernel
theorem bt_bytes : bootBuiltins "bytes" = some (.type "bytes") := by decide +kernel
end L2
namespace L2
open PySem PySem.Spec PyProof.Rows
theorem cxK {CX : CXT} {P : Program} {w : World} {K : PySem.W.Frag} {mg : Str → Option Value} {base : Heap} {N : List Str} {qual : Str} {scope : Scope} {f : Addr} {cd : Value} {A : Around} {outer : List Env} {s : Shared} {H : Hp} {E : XK} :
    (cxOf CX P w K mg base N qual scope f cd A outer s H E).K = K := rfl
end L2
namespace L2
open PySem PySem.Spec PyProof.Rows
theorem ixN_10 : ixN 1 0 = some 0 := rfl
theorem ixN_20 : ixN 2 0 = some 0 := rfl
theorem ixN_21 : ixN 2 1 = some 1 := rfl
theorem ixN_30 : ixN 3 0 = some 0 := rfl
theorem ixN_31 : ixN 3 1 = some 1 := rfl
theorem ixN_32 : ixN 3 2 = some 2 := rfl
theorem seqAt_updL {H : Hp} {p : Addr} {xs : List V} : seqAt (upd H p (.lst xs)) p = some xs := seqAt_lst upd_same
theorem seqAt_updT {H : Hp} {p : Addr} {xs : List V} : seqAt (upd H p (.tup xs)) p = some xs := seqAt_tup upd_same
theorem seqAt_ne {H : Hp} {p q : Addr} {o : HO} (h : q ≠ p) : seqAt (upd H p o) q = seqAt H q := by unfold seqAt; rw [upd_ne h]
/-- an item of a list of any length, at a place in bounds -/
theorem atI_in {α : Type} {xs : List α} {k : Int} (h0 : 0 ≤ k) (h1 : k < (xs.length : Int)) : ∃ v, atI xs k = some v ∧ v ∈ xs := by
  have hk : k.toNat < xs.length := by omega
  have e : k = ((k.toNat : Nat) : Int) := by omega
  have q : atI xs ((k.toNat : Nat) : Int) = some xs[k.toNat] := atI_nat (List.getElem?_eq_getElem hk)
  rw [← e] at q
  exact ⟨_, q, List.getElem_mem hk⟩
theorem small_le {n : Nat} (h : n ≤ 1000) : n ≤ sizeLine := Nat.le_of_lt (small1000 h)
end L2
namespace L2
open PySem PySem.Spec PyProof.Rows
/-! ### a call, with what follows kept shut from simp -/
structure Shut (Q : VK) : Type where
  n : Nat
def Cal (sp : Sp) (vs : List V) (H : Hp) (Q : VK) (_ : Shut Q) (E : XK) : Prop := sp vs H Q E
theorem tCallC {sp : Sp} {dvs : List V} {E : XK} {t : TA} {σ : St} {H : Hp} {Q : VK} : tCall sp dvs E t σ H Q = t σ H (fun vs H1 => Cal sp (vs ++ dvs) H1 Q ⟨0⟩ E) := rfl
section
variable {X : Cx} {pos p1 p2 : Pos} {j1 j2 : Nat}
/-- a power of written numbers is a written number -/
theorem pe_powc {a b : Int} (v : Int) (h : decide (0 ≤ b ∧ b ≤ 1000000 ∧ a.natAbs < 2 ^ 64 ∧ a ^ b.toNat = v) = true := by decide +kernel) : PE X (.BinOp (.Constant (.int a) j1 p1) .Pow (.Constant (.int b) j2 p2) pos) (tC (.int v)) := by
  intro pins s σ H Q I q
  obtain ⟨h1, h2, h3, h4⟩ := of_decide_eq_true h
  refine pe_op op_pow pe_int pe_int pins s σ H Q I ⟨a, b, rfl, rfl, ⟨h1, h2, h3⟩, ?_⟩
  show Q (V.int (a ^ b.toNat)) H
  rw [h4]
  exact q
end
end L2
namespace L2
open PySem PySem.Spec PyProof.Rows
theorem upd_none {H : Hp} {a b : Addr} {o : HO} : upd H a o b = none ↔ b ≠ a ∧ H b = none := by
  unfold upd
  by_cases h : b = a
  · simp [h]
  · simp [h]
end L2
namespace L2
open PySem PySem.Spec PyProof.Rows
/-! ### a loop, its body shut -/
def Loop (J : It) (g : TG) (tb : TS) (D : Ends) (σ : St) (H : Hp) : Prop := ∃ W : Nat → Nat → St → Hp → Prop, (∃ m, W 0 m σ H) ∧ ∀ i m σ H, W i m σ H →
  (J.stop i H ∧ D.nx σ H) ∨ (J.go i H ∧ ∃ N : St → Hp → Prop, (∀ σ' H', N σ' H' → ∃ m', m' < m ∧ W (i + 1) m' σ' H') ∧ ∀ x H', J.yld i H x H' → g x σ H' fun σ2 H2 => tb { D with nx := N, ct := N, bk := D.nx } σ2 H2)
section
variable {K : PySem.W.Frag} {ta : TA} {tl : TE} {g : TG} {tb : TS} {D : Ends} {σ : St} {H : Hp} {a : Addr} {xs : List V} {lo : Int} {n : Nat}
theorem tFor_rng1 : tFor (iRng1 ta) g tb D σ H = ta σ H (fun vs H1 => ∃ j : Int, vs = [.int j] ∧ -(2 ^ 62) ≤ j ∧ j < 2 ^ 62 ∧ Loop (Itr 0 j.toNat) g tb D σ H1) := rfl
theorem tFor_rng2 : tFor (iRng2 ta) g tb D σ H = ta σ H (fun vs H1 => ∃ i j : Int, vs = [.int i, .int j] ∧ (-(2 ^ 62) ≤ i ∧ i < 2 ^ 62 ∧ -(2 ^ 62) ≤ j ∧ j < 2 ^ 62) ∧ Loop (Itr i (j - i).toNat) g tb D σ H1) := rfl
theorem tFor_list : tFor (iList K tl) g tb D σ H = tl σ H (fun x H1 => ∃ a, x = .ref a ∧ (∃ xs, SqL K H1 a xs) ∧ Loop (Itl K a) g tb D σ H1) := rfl
theorem tFor_tup : tFor (iTup K tl) g tb D σ H = tl σ H (fun x H1 => ∃ a, x = .ref a ∧ (∃ xs, SqT K H1 a xs) ∧ Loop (Itt K a) g tb D σ H1) := rfl
theorem loop_range (Pv : Nat → St → Hp → Prop) (h0 : Pv 0 σ H)
    (hs : ∀ i σ H, i < n → Pv i σ H → g (.int (lo + i)) σ H fun σ2 H2 => tb { D with nx := Pv (i + 1), ct := Pv (i + 1), bk := D.nx } σ2 H2) (hd : ∀ σ H, Pv n σ H → D.nx σ H) : Loop (Itr lo n) g tb D σ H := for_range Pv h0 hs hd
theorem loop_list (Pv : Nat → St → Hp → Prop) (h0 : Pv 0 σ H) (hl : ∀ i σ H, i ≤ xs.length → Pv i σ H → SqL K H a xs)
    (hs : ∀ i x σ H, xs[i]? = some x → Pv i σ H → g x σ H fun σ2 H2 => tb { D with nx := Pv (i + 1), ct := Pv (i + 1), bk := D.nx } σ2 H2) (hd : ∀ σ H, Pv xs.length σ H → D.nx σ H) : Loop (Itl K a) g tb D σ H := for_list Pv h0 hl hs hd
theorem loop_tup (Pv : Nat → St → Hp → Prop) (h0 : Pv 0 σ H) (hl : ∀ i σ H, i ≤ xs.length → Pv i σ H → SqT K H a xs)
    (hs : ∀ i x σ H, xs[i]? = some x → Pv i σ H → g x σ H fun σ2 H2 => tb { D with nx := Pv (i + 1), ct := Pv (i + 1), bk := D.nx } σ2 H2) (hd : ∀ σ H, Pv xs.length σ H → D.nx σ H) : Loop (Itt K a) g tb D σ H := for_tup Pv h0 hl hs hd
end
end L2

set_option Elab.async false
set_option linter.all false
set_option maxRecDepth 100000
/-! the judgements as structures, so that nothing looks through them -/
namespace L2
open PySem PySem.Spec PyProof.Rows
structure JE (X : Cx) (e : Expr) (t : TE) : Prop where h : PE X e t
structure JT (X : Cx) (e : Expr) (t : TT) : Prop where h : PT X e t
structure JW (X : Cx) (e : Expr) (t : TT) : Prop where h : PW X e t
structure JA (X : Cx) (es : List Expr) (t : TA) : Prop where h : PA X es t
structure JS (X : Cx) (st : Stmt) (t : TS) : Prop where h : PS X st t
structure JB (X : Cx) (st : List Stmt) (t : TS) : Prop where h : PSs X st t
structure JG (X : Cx) (e : Expr) (t : TG) : Prop where h : PG X e t
structure JGs (X : Cx) (es : List Expr) (t : TGs) : Prop where h : PGs X es t
structure JI (X : Cx) (tg e : Expr) (t : TI) : Prop where h : PI X tg e t
structure JO (X : Cx) (e : Option Expr) (t : TO) : Prop where h : PO X e t
section
variable {X : Cx} {a b c e o : Expr} {es rest : List Expr} {ta tb tc te to : TE} {t tl : TA} {tA tB' : TT} {pos p p' : Pos} {st : Stmt} {sts sts' : List Stmt} {u v : TS}
theorem ev (i : Nat) {x : Str} (hN : X.N[i]? = some x := by rfl) (hv : Vis X.env.scope x := by first | exact Or.inl rfl | exact Or.inr (Or.inl rfl) | exact Or.inr (Or.inr rfl)) (hd : (x == ("__debug__" : Str)) = false := by decide)
    (hcd : (x == ("__classdict__" : Str)) = false := by decide) : JE X (.Name x pos) (tVar i) := ⟨pe_var hN hv hd hcd⟩
theorem ei {i j} : JE X (.Constant (.int i) j pos) (tC (.int i)) := ⟨pe_int⟩
theorem ebl {b j} : JE X (.Constant (.bool b) j pos) (tC (.bl b)) := ⟨pe_bl⟩
theorem enon {j} : JE X (.Constant .none j pos) (tC .non) := ⟨pe_non⟩
theorem estr {x j} : JE X (.Constant (.str x) j pos) (tC (.str x)) := ⟨pe_str⟩
theorem eglob {x : Str} {v : V} {u : Value} (hg : Gl X x) (hm : X.mg x = some u) (r : RelV v u) (hd : (x == ("__debug__" : Str)) = false := by decide) : JE X (.Name x pos) (tC v) := ⟨pe_glob hg hm r hd⟩
theorem etyp {x : Str} {n : String} (hg : Gl X x) (hm : X.mg x = none) (hv : bootBuiltins x = some (.type n)) (hn : x ≠ "__name__" := by decide) (hd : (x == ("__debug__" : Str)) = false := by decide) : JE X (.Name x pos) (tC (.ty n)) := ⟨pe_bltn hg hm hv rfl hn hd⟩
theorem eop {op : Operator} {r : R2} (ho : OpR X (binaryOp op) r) (ha : JE X a ta) (hb : JE X b tb) : JE X (.BinOp a op b pos) (tOp r ta tb) := ⟨pe_op ho ha.h hb.h⟩
theorem epowc {a b : Int} {j1 j2 : Nat} {p1 p2 : Pos} (v : Int) (h : decide (0 ≤ b ∧ b ≤ 1000000 ∧ a.natAbs < 2 ^ 64 ∧ a ^ b.toNat = v) = true := by decide +kernel) : JE X (.BinOp (.Constant (.int a) j1 p1) .Pow (.Constant (.int b) j2 p2) pos) (tC (.int v)) := ⟨pe_powc v h⟩
theorem eun {op : UnaryOp} {r : V → Hp → VK → Prop} (ho : UnR X (unaryOp op) r) (ha : JE X a ta) : JE X (.UnaryOp op a pos) (tUn r ta) := ⟨pe_un ho ha.h⟩
theorem enot (ha : JE X a ta) : JE X (.UnaryOp .Not a pos) (tNotV ta) := ⟨pe_not ha.h⟩
theorem eone {op} (h : JE X a ta) : JE X (.BoolOp op [a] pos) ta := ⟨pe_one h.h⟩
theorem eand (ha : JE X a ta) (hb : JE X (.BoolOp .And (b :: rest) pos) tb) : JE X (.BoolOp .And (a :: b :: rest) pos) (tAndV ta tb) := ⟨pe_and ha.h hb.h⟩
theorem eor (ha : JE X a ta) (hb : JE X (.BoolOp .Or (b :: rest) pos) tb) : JE X (.BoolOp .Or (a :: b :: rest) pos) (tOrV ta tb) := ⟨pe_or ha.h hb.h⟩
theorem eif (hc : JT X c tA) (ha : JE X a ta) (hb : JE X b tb) : JE X (.IfExp c a b pos) (tIf tA ta tb) := ⟨pe_ifExp hc.h ha.h hb.h⟩
theorem ecmp {op : CmpOp} {r : R2} (ho : OpR X (compareOp op) r) (ha : JE X a ta) (hb : JE X b tb) (hm : behindInMarks op b = false) : JE X (.Compare a [op] [b] pos) (tOp r ta tb) := ⟨pe_cmpR ho ha.h hb.h hm⟩
theorem echain {op op' : CmpOp} {r r' : R2} (ho : OpR X (compareOp op) r) (ho' : OpR X (compareOp op') r') (ha : JE X a ta) (hb : JE X b tb) (hc : JE X c tc)
    (hm : lastMarks [op, op'] [b, c] = false := by with_unfolding_all rfl) : JE X (.Compare a [op, op'] [b, c] pos) (tChain r r' ta tb tc) := ⟨pe_chain ho ho' ha.h hb.h hc.h hm⟩
theorem eix {r : R2} (hr : IxR X r) (ha : JE X a ta) (hb : JE X b tb) (hs : PlainIx b) : JE X (.Subscript a b pos) (tOp r ta tb) := ⟨pe_ix hr ha.h hb.h hs⟩
theorem eslice {r : V → Option Int → Option Int → Hp → VK → Prop} {lo hi : Option Expr} {tl th : TO} (hr : SlR X r) (he : JE X e te) (hl : JO X lo tl) (hu : JO X hi th) : JE X (.Subscript e (.Slice lo hi none p) pos) (tSl r te tl th) := ⟨pe_slice hr he.h hl.h hu.h⟩
theorem etup {k} (h : JA X es t) : JE X (.Tuple es k pos) (tTup t) := ⟨pe_tup h.h⟩
theorem elst (h : JA X es t) : JE X (.List es pos) (tLst t) := ⟨pe_lst h.h⟩
theorem ednew : JE X (.Dict [] [] pos) tDNewK := ⟨pe_dnewK⟩
theorem ecall {x : Str} {k : Nat} {ps : List Str} {sp : Sp} (C : Callee X.prog X.w X.K X.mg X.base x k ps sp) (hr : Room k X.A) (hg : Gl X x) (ha : JA X (e :: es) t)
    (hdb : (x == ("__debug__" : Str)) = false := by decide) (he : starEach (e :: es) X.env = (false, eval e X.env) :: starEach es X.env := by rfl) (hpl : (backTo pos (starEach es X.env)).any (·.1) = false := by rfl) :
    JE X (.Call (.Name x p) (e :: es) [] pos) (tCall sp [] E0 t) := ⟨pe_callF C hr hg ha.h hdb he hpl⟩
theorem ecallB {x : Str} {id : String} {r : List V → Hp → VK → Prop} (hc : CallR X (.builtin id) r) (hg : Gl X x) (hm : X.mg x = none) (hv : bootBuiltins x = some (.builtin id)) (ha : JA X (e :: es) t) (hn : x ≠ "__name__" := by decide) (hdb : (x == ("__debug__" : Str)) = false := by decide)
    (he : starEach (e :: es) X.env = (false, eval e X.env) :: starEach es X.env := by rfl) (hpl : (backTo pos (starEach es X.env)).any (·.1) = false := by rfl) : JE X (.Call (.Name x p) (e :: es) [] pos) (tCB r t) := ⟨pe_callB hc hg hm hv ha.h hn hdb he hpl⟩
theorem ecallTy {x : Str} {T : String} {r : List V → Hp → VK → Prop} (hc : CallR X (.type T) r) (hg : Gl X x) (hm : X.mg x = none) (hv : bootBuiltins x = some (.type T)) (ha : JA X (e :: es) t) (hn : x ≠ "__name__" := by decide) (hdb : (x == ("__debug__" : Str)) = false := by decide)
    (he : starEach (e :: es) X.env = (false, eval e X.env) :: starEach es X.env := by rfl) (hpl : (backTo pos (starEach es X.env)).any (·.1) = false := by rfl) : JE X (.Call (.Name x p) (e :: es) [] pos) (tCB r t) := ⟨pe_callTy hc hg hm hv ha.h hn hdb he hpl⟩
theorem ebm0 {T id : String} {name : Str} {r : V → List V → Hp → VK → Prop} {apos cpos : Pos} (pa : PlainAttrs T) (slot : Slot T name id) (hty : typeOf (.builtin id) = pure (.type "method_descriptor")) (hm : MtR X id r) (ho : JE X o to)
    (hbase : attributeBase o name X.env (eval o X.env) = eval o X.env := by rfl) (hline : (apos.endLine == cpos.line) = true := by rfl) : JE X (.Call (.Attribute o name apos) [] [] cpos) (tBM0 X.K T r to) := ⟨pe_bm0 pa slot hty hm ho.h hbase hline⟩
theorem ebm {T id : String} {name : Str} {r : V → List V → Hp → VK → Prop} {apos cpos : Pos} (pa : PlainAttrs T) (slot : Slot T name id) (hty : typeOf (.builtin id) = pure (.type "method_descriptor")) (hm : MtR X id r) (ho : JE X o to) (ha : JA X (e :: es) t)
    (hbase : attributeBase o name X.env (eval o X.env) = eval o X.env := by rfl)
    (hfew : ((backTo cpos (starEach (e :: es) X.env)).all (fun x => !x.1) && (backToKw cpos (keywordEach [] X.env)).all (fun x => x.1.isSome)
      && decide ((e :: es).length + ([] : List Keyword).length + (if ([] : List Keyword).isEmpty then 0 else 1) < 30)) = true := by rfl)
    (hline : (apos.endLine == cpos.line) = true := by rfl) (hs : starEach (e :: es) X.env = (false, eval e X.env) :: starEach es X.env := by rfl) (hplain : (backTo cpos (starEach es X.env)).any (·.1) = false := by rfl) :
    JE X (.Call (.Attribute o name apos) (e :: es) [] cpos) (tBM X.K T r to t) := ⟨pe_bm pa slot hty hm ho.h ha.h hbase hfew hline hs hplain⟩
theorem anil : JA X [] tNil := ⟨pa_nil⟩
theorem acons (ha : JE X e te) (hr : JA X es t) (hs : starEach (e :: es) X.env = (false, eval e X.env) :: starEach es X.env := by rfl) : JA X (e :: es) (tCons te t) := ⟨pa_cons ha.h hr.h hs⟩
theorem tcmp {op : CmpOp} {r : R2} (ho : OpR X (compareOp op) r) (ha : JE X a ta) (hb : JE X b tb) (hm : behindInMarks op b = false) : JT X (.Compare a [op] [b] pos) (tTest (tOp r ta tb)) := ⟨pt_cmpR ho ha.h hb.h hm⟩
theorem tchain {op op' : CmpOp} {r r' : R2} (ho : OpR X (compareOp op) r) (ho' : OpR X (compareOp op') r') (ha : JE X a ta) (hb : JE X b tb) (hc : JE X c tc)
    (hm : lastMarks [op, op'] [b, c] = false := by with_unfolding_all rfl) : JT X (.Compare a [op, op'] [b, c] pos) (tTest (tChain r r' ta tb tc)) := ⟨pt_chain ho ho' ha.h hb.h hc.h hm⟩
theorem tval (h : JE X e te) (he : ∀ whole, isTrue e X.env whole = (do let v ← whole; standAt e.pos; holding [v] (truthy v)) := by intro _; rfl) : JT X e (tB te) := ⟨pt_val h.h he⟩
theorem ttruth (ha : JE X a ta) (he : ∀ whole, isTrue a X.env whole = (do let v ← whole; standAt a.pos; holding [v] (truthy v))) :
    JT X a (fun σ H Q => ta σ H fun x H' => ∃ k, TruV X.K x H' k ∧ Q k H') := ⟨pt_truth ha.h he⟩
theorem tnot (ha : JT X a tA) : JT X (.UnaryOp .Not a pos) (tNot tA) := ⟨pt_not ha.h⟩
theorem tw (h : JW X e tA) : JT X e tA := ⟨PW.pt h.h⟩
theorem wand1 (ha : JT X a tA) : JW X (.BoolOp .And [a] pos) tA := ⟨pw_and1 ha.h⟩
theorem wor1 (ha : JT X a tA) : JW X (.BoolOp .Or [a] pos) tA := ⟨pw_or1 ha.h⟩
theorem wand (ha : JT X a tA) (hb : JW X (.BoolOp .And (b :: rest) pos) tB') : JW X (.BoolOp .And (a :: b :: rest) pos) (tAnd tA tB') := ⟨pw_and ha.h hb.h⟩
theorem wor (ha : JT X a tA) (hb : JW X (.BoolOp .Or (b :: rest) pos) tB') : JW X (.BoolOp .Or (a :: b :: rest) pos) (tOr tA tB') := ⟨pw_or ha.h hb.h⟩
theorem bnil : JB X [] tNext := ⟨pss_nil⟩
theorem bcons (h1 : JS X st u) (h2 : JB X sts v) : JB X (st :: sts) (tSeq u v) := ⟨pss_cons h1.h h2.h⟩
theorem bone (h1 : JS X st u) : JB X [st] u := ⟨pss_one h1.h⟩
theorem bcut (h1 : JS X st u) (h2 : JB X sts v) : JB X (st :: sts) (tCut u v) := ⟨pss_cut h1.h h2.h⟩
theorem spass : JS X (.Pass pos) tNext := ⟨ps_pass⟩
theorem sbreak : JS X (.Break pos) tBreak := ⟨ps_break⟩
theorem scont : JS X (.Continue pos) tCont := ⟨ps_continue⟩
theorem sdoc {x j} : JS X (.Expr (.Constant (.str x) j p) pos) tNext := ⟨ps_doc⟩
theorem sexpr (he : JE X e te) (hs : swapsWith e none pos.line X.env = pure false := by rfl) : JS X (.Expr e pos) (tDrop te) := ⟨ps_expr he.h hs⟩
theorem sret (he : JE X e te) : JS X (.Return (some e) pos) (tRet te) := ⟨ps_ret he.h⟩
theorem sretN : JS X (.Return none pos) tRetN := ⟨ps_retN⟩
theorem sif (hc : JT X c tA) (ha : JB X sts u) (hb : JB X sts' v) : JS X (.If c sts sts' pos) (tIfS tA u v) := ⟨ps_if hc.h ha.h hb.h⟩
theorem sset {i : Nat} {x : Str} (hN : X.N.Nodup) (hi : X.N[i]? = some x) (hx : Loc X.env.scope x) (he : JE X e te) (hs : swapsWith e (some (.Name x p)) pos.line X.env = pure false := by rfl) (hf : X.fn x = true ∨ X.env.scope.names.lookup x = some .local := by first | exact .inl rfl | exact .inr rfl | assumption) :
    JS X (.Assign [.Name x p] e pos) (tAsg te (gName i)) := ⟨ps_set hN hi hx he.h hs hf⟩
theorem sasg {tg : Expr} {g : TG} (he : JE X e te) (hg : JG X tg g) (hs : swapsWithSole [tg] e pos.line X.env = pure false := by rfl) (hw : swappedStores [tg] e X.env = pure none := by rfl)
    (h1 : (assignEach [tg] X.env).map (·.2) = [assign tg X.env] := by rfl) : JS X (.Assign [tg] e pos) (tAsg te g) := ⟨ps_asg he.h hg.h hs hw h1⟩
theorem sfor {tg iter : Expr} {wi : TI} {g : TG} (hp : PassesOwn (model X.prog X.w) X.A X.env X.xe) (hc : X.calm = true) (hi : JI X tg iter wi) (hg : JG X tg g) (hb : JB X sts u)
    (hs : ∀ x, foldedSetIterable iter X.env x = pure x := by intro _; rfl) : JS X (.For tg iter sts [] pos) (tFor wi g u) := ⟨ps_for hp hc hi.h hg.h hb.h hs⟩
theorem swhile (hp : PassesOwn (model X.prog X.w) X.A X.env X.xe) (hc : JT X c tA) (hb : JB X sts u) : JS X (.While c sts [] pos) (tWhile tA u) := ⟨ps_while hp hc.h hb.h⟩
theorem gname {i : Nat} {x : Str} (hN : X.N.Nodup) (hi : X.N[i]? = some x) (hx : Loc X.env.scope x) (hf : X.fn x = true ∨ X.env.scope.names.lookup x = some .local := by first | exact .inl rfl | exact .inr rfl | assumption) : JG X (.Name x pos) (gName i) := ⟨pg_name hN hi hx hf⟩
theorem gsub {i : Expr} {ti : TE} {t : TSet} (ho : JE X o to) (hi : JE X i ti) (hs : PSet X t)
    (ha : ∀ v, assign (.Subscript o i pos) X.env v = (do
      let ov ← holding [v] (eval o X.env)
      let iv ← holding [v, ov] (eval i X.env)
      standAt pos
      holding [v, ov, iv] (setItem ov iv v)
      release [v, ov, iv] []) := by intro _; rfl) : JG X (.Subscript o i pos) (gSub to ti t) := ⟨pg_sub ho.h hi.h hs ha⟩
theorem gnil : JGs X [] gNil := ⟨pgs_nil⟩
theorem gcons {t : TG} {u : TGs} (h1 : JG X e t) (h2 : JGs X es u) (hs : (assignEach (e :: es) X.env).map (·.2) = assign e X.env :: (assignEach es X.env).map (·.2) := by rfl) : JGs X (e :: es) (gCons t u) := ⟨pgs_cons h1.h h2.h hs⟩
theorem gtup {k : Nat} {t : TGs} {n : Nat} (hc : X.calm = true) (h : JGs X es t) (hn : (assignEach es X.env).length = n := by rfl) (hst : (assignEach es X.env).findIdx? (·.1) = none := by rfl) : JG X (.Tuple es k pos) (gTup X.K n t) := ⟨pg_tup hc h.h hn hst⟩
theorem irange1 {tg : Expr} (hg : Gl X "range") (hm : X.mg "range" = none) (ha : JA X [a] t) (hs : starEach [a] X.env = [(false, eval a X.env)] := by rfl) : JI X tg (.Call (.Name "range" p) [a] [] pos) (iRng1 t) := ⟨pi_range1 hg hm ha.h hs⟩
theorem irange2 {tg : Expr} (hg : Gl X "range") (hm : X.mg "range" = none) (ha : JA X [a, b] t) (hs : starEach [a, b] X.env = [(false, eval a X.env), (false, eval b X.env)] := by rfl) (hs2 : starEach [b] X.env = [(false, eval b X.env)] := by rfl) :
    JI X tg (.Call (.Name "range" p) [a, b] [] pos) (iRng2 t) := ⟨pi_range2 hg hm ha.h hs hs2⟩
theorem ilist {tg l : Expr} (hl : JE X l te) : JI X tg l (iList X.K te) := ⟨pi_list hl.h⟩
theorem itup {tg l : Expr} (hl : JE X l te) : JI X tg l (iTup X.K te) := ⟨pi_tup hl.h⟩
theorem onone : JO X none tNoPart := ⟨po_none⟩
theorem osome (h : JE X e te) : JO X (some e) (tPart te) := ⟨po_some h.h⟩
end
section
variable {P : Program} {w : World} {K : PySem.W.Frag} {mg : Str → Option Value} {base : Heap}
theorem Fun.okJ {x qual : Str} {st : Stmt} {f : Addr} {fd : FuncData} {N ps : List Str} {k : Nat} {sp : Sp} (F : Fun K x qual st f fd) (S : FnScope N ps (defScope st)) (len : ∀ vs H Q E, sp vs H Q E → vs.length = ps.length)
    (hbody : ∀ (cdv : Value) (A : Around) (outer : List Env) (s : Shared) (H : Hp) (vs : List V) (Q : VK) (E : XK), Room k (A.deeper (envOfC qual (defScope st) s.heap.objs.size f cdv)) → sp vs H Q E →
      ∃ t, JB (cxOf CX0 P w K mg base N qual (defScope st) f cdv A outer s H E).nox (defBody st) t ∧ t { nx := fun _ H' => Q .non H', rt := Q } (start N vs) H) : FnOk P w K mg base CX0 (k + 1) f fd ps sp :=
  F.ok S len fun cdv A outer s H vs Q E hr h => let ⟨t, a, b⟩ := hbody cdv A outer s H vs Q E hr h; ⟨t, a.h, b⟩
end
end L2

set_option Elab.async false
set_option linter.all false
set_option maxRecDepth 100000
/-! data: trees of tuples, lists and flat values; == over them -/
namespace L2
open PySem PySem.Spec PyProof.Rows
mutual
/-- the value v tells the data d -/
def Is (K : PySem.W.Frag) (H : Hp) : PyData → V → Prop
  | .none, v => v = .non
  | .bool b, v => v = .bl b
  | .int i, v => v = .int i
  | .str x, v => v = .str x
  | .list ds, v => ∃ a vs, v = .ref a ∧ SqL K H a vs ∧ IsAll K H ds vs
  | .tuple ds, v => ∃ a vs, v = .ref a ∧ SqT K H a vs ∧ IsAll K H ds vs
  | .dict _, _ => False
def IsAll (K : PySem.W.Frag) (H : Hp) : List PyData → List V → Prop
  | [], vs => vs = []
  | d :: ds, vs => ∃ v r, vs = v :: r ∧ Is K H d v ∧ IsAll K H ds r
end
section
variable {X : Cx} {pins : List (Addr × Obj)} {σ : St} {H : Hp} {s : Shared}
mutual
theorem Is.reads (I : Inv X pins σ H s) : ∀ {d : PyData} {v : V} {u : Value}, Is X.K H d v → RelV v u → ∃ as, Reads s.heap u d as
  | .none, v, u, h, r => by unfold Is at h; subst h; cases r; exact ⟨_, .none⟩
  | .bool b, v, u, h, r => by unfold Is at h; subst h; cases r; exact ⟨_, .bool b⟩
  | .int i, v, u, h, r => by unfold Is at h; subst h; obtain ⟨t, rfl⟩ := r; exact ⟨_, .int i t⟩
  | .str x, v, u, h, r => by unfold Is at h; subst h; obtain ⟨t, rfl⟩ := r; exact ⟨_, .str x t⟩
  | .list ds, v, u, h, r => by
    unfold Is at h
    obtain ⟨a, vs, rfl, hs, ha⟩ := h
    cases r
    obtain ⟨its, rv, ⟨o, n, e, hc, _, hd⟩, _⟩ := I.list hs
    obtain ⟨as, q⟩ := IsAll.reads I ha rv
    exact ⟨_, .list e hc hd (by simpa using q)⟩
  | .tuple ds, v, u, h, r => by
    unfold Is at h
    obtain ⟨a, vs, rfl, hs, ha⟩ := h
    cases r
    obtain ⟨its, rv, ⟨o, e, hc, n, hd⟩, _⟩ := I.tuple hs
    obtain ⟨as, q⟩ := IsAll.reads I ha rv
    exact ⟨_, .tuple e hc hd (by simpa using q)⟩
  | .dict _, v, u, h, r => by unfold Is at h; exact h.elim
theorem IsAll.reads (I : Inv X pins σ H s) : ∀ {ds : List PyData} {vs : List V} {us : List Value}, IsAll X.K H ds vs → Vals vs us → ∃ as, ReadsAll s.heap us ds as
  | [], vs, us, h, r => by unfold IsAll at h; subst h; cases r; exact ⟨_, .nil⟩
  | d :: ds, vs, us, h, r => by
    unfold IsAll at h
    obtain ⟨v, rs, rfl, h1, h2⟩ := h
    cases r with
    | cons r1 r2 =>
      obtain ⟨as, q1⟩ := Is.reads I h1 r1
      obtain ⟨bs, q2⟩ := IsAll.reads I h2 r2
      exact ⟨_, .cons q1 q2⟩
end
end
section
variable {X : Cx}
def rEqD (K : PySem.W.Frag) (neg : Bool) : R2 := fun x y H Q => ∃ d e, Is K H d x ∧ Is K H e y ∧ SeqAt.shaped d = true ∧ SeqAt.shaped e = true ∧ Q (.bl (if neg = true then !PyData.eqv d e else PyData.eqv d e)) H
theorem op_eqD (hu : X.A.units + 64 < cLine) : OpR X (compareOp .Eq) (rEqD X.K false) := by
  intro pins s σ H x y v u Q I rx ry h
  obtain ⟨d, e, hd, he, sd, se, q⟩ := h
  obtain ⟨as, ra⟩ := hd.reads I rx
  obtain ⟨bs, rb⟩ := he.reads I ry
  exact SeqAt.compareEq_shaped ra rb sd se hu ⟨.bl _, H, I, rfl, q⟩
theorem op_neD (hu : X.A.units + 64 < cLine) : OpR X (compareOp .NotEq) (rEqD X.K true) := by
  intro pins s σ H x y v u Q I rx ry h
  obtain ⟨d, e, hd, he, sd, se, q⟩ := h
  obtain ⟨as, ra⟩ := hd.reads I rx
  obtain ⟨bs, rb⟩ := he.reads I ry
  exact SeqAt.compareNe_shaped ra rb sd se hu ⟨.bl _, H, I, rfl, q⟩
end
/-! ### == of data without truths is = -/
mutual
def nob : PyData → Bool
  | .none => true
  | .bool _ => false
  | .int _ => true
  | .str _ => true
  | .list ds => nobAll ds
  | .tuple ds => nobAll ds
  | .dict _ => false
def nobAll : List PyData → Bool
  | [] => true
  | d :: ds => nob d && nobAll ds
end
mutual
theorem eqv_iff : ∀ {d e : PyData}, nob d = true → nob e = true → (PyData.eqv d e = true ↔ d = e)
  | .none, e, hd, he => by cases e <;> simp [PyData.eqv]
  | .bool _, e, hd, he => by simp [nob] at hd
  | .int i, e, hd, he => by cases e <;> simp [PyData.eqv, nob] at *
  | .str x, e, hd, he => by cases e <;> simp [PyData.eqv, nob] at *
  | .list ds, e, hd, he => by
    cases e with
    | list es =>
      simp only [nob] at hd he
      simp only [PyData.eqv, PyData.list.injEq]
      exact eqvAll_iff hd he
    | _ => simp [PyData.eqv]
  | .tuple ds, e, hd, he => by
    cases e with
    | tuple es =>
      simp only [nob] at hd he
      simp only [PyData.eqv, PyData.tuple.injEq]
      exact eqvAll_iff hd he
    | _ => simp [PyData.eqv]
  | .dict _, e, hd, he => by simp [nob] at hd
theorem eqvAll_iff : ∀ {ds es : List PyData}, nobAll ds = true → nobAll es = true → (PyData.eqvAll ds es = true ↔ ds = es)
  | [], es, _, _ => by cases es <;> simp [PyData.eqvAll]
  | d :: ds, es, hd, he => by
    cases es with
    | nil => simp [PyData.eqvAll]
    | cons e es =>
      simp only [nobAll, Bool.and_eq_true] at hd he
      simp only [PyData.eqvAll, Bool.and_eq_true, List.cons.injEq]
      rw [eqv_iff hd.1 he.1, eqvAll_iff hd.2 he.2]
end
/-! ### data stays where its objects stay -/
mutual
theorem Is.same {K : PySem.W.Frag} {H H' : Hp} (h : Same H H') : ∀ {d : PyData} {v : V}, Is K H d v → Is K H' d v
  | .none, v, q => by unfold Is at q ⊢; exact q
  | .bool b, v, q => by unfold Is at q ⊢; exact q
  | .int i, v, q => by unfold Is at q ⊢; exact q
  | .str x, v, q => by unfold Is at q ⊢; exact q
  | .list ds, v, q => by
    unfold Is at q ⊢
    obtain ⟨a, vs, e, hs, ha⟩ := q
    exact ⟨a, vs, e, h.seq hs, IsAll.same h ha⟩
  | .tuple ds, v, q => by
    unfold Is at q ⊢
    obtain ⟨a, vs, e, hs, ha⟩ := q
    refine ⟨a, vs, e, ?_, IsAll.same h ha⟩
    rcases hs with (hs | ⟨o, hs⟩) | hs
    · exact .inl (.inl (h _ _ hs))
    · exact .inl (.inr ⟨o, h _ _ hs⟩)
    · exact .inr hs
  | .dict _, v, q => by unfold Is at q; exact q.elim
theorem IsAll.same {K : PySem.W.Frag} {H H' : Hp} (h : Same H H') : ∀ {ds : List PyData} {vs : List V}, IsAll K H ds vs → IsAll K H' ds vs
  | [], vs, q => by unfold IsAll at q ⊢; exact q
  | d :: ds, vs, q => by
    unfold IsAll at q ⊢
    obtain ⟨v, r, e, h1, h2⟩ := q
    exact ⟨v, r, e, Is.same h h1, IsAll.same h h2⟩
end
end L2

set_option Elab.async false
set_option linter.all false
set_option maxRecDepth 100000
/-! lists and tuples as functions of the abstract heap and the module -/
namespace L2
open PySem PySem.Spec PyProof.Rows
theorem absV_rel : ∀ {u : Value} {x : V}, absV u = some x → RelV x u := by
  intro u x h
  cases u <;> simp only [absV, Option.some.injEq] at h <;> first | (subst h; first | rfl | exact ⟨_, rfl⟩) | cases h
theorem absV_all : ∀ {us : List Value} {xs : List V}, us.mapM absV = some xs → Vals xs us := by
  intro us
  induction us with
  | nil => intro xs h; simp at h; subst h; exact .nil
  | cons u us ih =>
    intro xs h
    rw [List.mapM_cons] at h
    cases e1 : absV u with
    | none => rw [e1] at h; simp at h
    | some x =>
      cases e2 : us.mapM absV with
      | none => rw [e1, e2] at h; simp at h
      | some ys =>
        rw [e1, e2] at h
        simp at h
        subst h
        exact .cons (absV_rel e1) (ih e2)
/-- a tuple that the module holds -/
def kTup (K : PySem.W.Frag) (a : Addr) : Option (List V) := match K.lookup a with
  | some ⟨.type n, _, .seq its _, _⟩ => if n = "tuple" then (if its.size ≤ sizeLine then its.toList.mapM absV else none) else none
  | _ => none
theorem kTup_sq {K : PySem.W.Frag} {H : Hp} {a : Addr} {xs : List V} (h : kTup K a = some xs) : SqT K H a xs := by
  unfold kTup at h
  split at h
  · next n dd its k sl e =>
    by_cases h1 : n = "tuple"
    · rw [if_pos h1] at h
      by_cases h2 : its.size ≤ sizeLine
      · rw [if_pos h2] at h
        subst h1
        exact .inr ⟨_, its, k, e, rfl, rfl, h2, absV_all h⟩
      · rw [if_neg h2] at h; cases h
    · rw [if_neg h1] at h; cases h
  · cases h
def tupQ (K : PySem.W.Frag) (H : Hp) (a : Addr) : Option (List V) := match H a with
  | some (.tup xs) => some xs
  | some _ => none
  | none => kTup K a
def seqQ (K : PySem.W.Frag) (H : Hp) (a : Addr) : Option (List V) := match H a with
  | some (.lst xs) => some xs
  | some (.tup xs) => some xs
  | some (.frz _ (.lst xs)) => some xs
  | some _ => none
  | none => kTup K a
section
variable {K : PySem.W.Frag} {H H' : Hp} {a b : Addr} {xs : List V} {o : HO}
theorem tupQ_sq (h : tupQ K H a = some xs) : SqT K H a xs := by
  unfold tupQ at h
  split at h
  · next e => cases h; exact .inl (.inl e)
  · cases h
  · exact kTup_sq h
theorem seqQ_sq (h : seqQ K H a = some xs) : SqL K H a xs ∨ SqT K H a xs := by
  unfold seqQ at h
  split at h
  · next e => cases h; exact .inl (.inl (.inl e))
  · next e => cases h; exact .inr (.inl (.inl e))
  · next e => cases h; exact .inl (.inl (.inr ⟨_, e⟩))
  · cases h
  · exact .inr (kTup_sq h)
theorem seqQ_T (h : tupQ K H a = some xs) : seqQ K H a = some xs := by
  unfold tupQ at h
  unfold seqQ
  split at h
  · next e => rw [e]; exact h
  · cases h
  · next e => rw [e]; exact h
theorem seqQ_lst (h : H a = some (.lst xs)) : seqQ K H a = some xs := by unfold seqQ; rw [h]
theorem seqQ_tup (h : H a = some (.tup xs)) : seqQ K H a = some xs := by unfold seqQ; rw [h]
theorem tupQ_tup (h : H a = some (.tup xs)) : tupQ K H a = some xs := by unfold tupQ; rw [h]
theorem seqQ_updL : seqQ K (upd H a (.lst xs)) a = some xs := seqQ_lst upd_same
theorem seqQ_updT : seqQ K (upd H a (.tup xs)) a = some xs := seqQ_tup upd_same
theorem tupQ_updT : tupQ K (upd H a (.tup xs)) a = some xs := tupQ_tup upd_same
theorem seqQ_ne (h : b ≠ a) : seqQ K (upd H a o) b = seqQ K H b := by unfold seqQ; rw [upd_ne h]
theorem tupQ_ne (h : b ≠ a) : tupQ K (upd H a o) b = tupQ K H b := by unfold tupQ; rw [upd_ne h]
/-- nothing that was there has changed, nothing of the module is hidden -/
structure Ext (K : PySem.W.Frag) (H H' : Hp) : Prop where
  same : Same H H'
  mod : ∀ a xs, H a = none → kTup K a = some xs → H' a = none
theorem Ext.refl : Ext K H H := ⟨Same.refl H, fun _ _ h _ => h⟩
theorem Ext.trans {H1 H2 : Hp} (x : Ext K H H1) (y : Ext K H1 H2) : Ext K H H2 := ⟨x.same.trans y.same, fun a xs h k => y.mod a xs (x.mod a xs h k) k⟩
theorem Ext.tup (x : Ext K H H') (h : tupQ K H a = some xs) : tupQ K H' a = some xs := by
  unfold tupQ at h ⊢
  split at h
  · next e => rw [x.same _ _ e]; exact h
  · cases h
  · next e => rw [x.mod a xs e h]; exact h
end
section
variable {X : Cx}
def rIxQ (K : PySem.W.Frag) : R2 := fun x y H Q => ∃ p i xs v, x = .ref p ∧ y = .int i ∧ seqQ K H p = some xs ∧ atI xs i = some v ∧ Q v H
theorem ix_Q : IxR X (rIxQ X.K) := by
  intro value slice pins s σ H x y v u Q I rx ry h hs
  obtain ⟨p, i, xs, z, rfl, rfl, hq, he, q⟩ := h
  rcases seqQ_sq (K := X.K) hq with h1 | h1
  · exact ix_list value slice pins s σ H _ _ v u Q I rx ry ⟨p, xs, i, z, rfl, rfl, h1, he, q⟩ hs
  · exact ix_tup value slice pins s σ H _ _ v u Q I rx ry ⟨p, xs, i, z, rfl, rfl, h1, he, q⟩ hs
theorem call_lenQ : CallR X (.builtin "len") (fun xs H Q => ∃ p ys, xs = [.ref p] ∧ seqQ X.K H p = some ys ∧ Q (.int ys.length) H) := by
  intro pins s σ H xs us Q I r h
  obtain ⟨p, ys, rfl, hq, q⟩ := h
  exact call_len_seq pins s σ H _ us Q I r ⟨p, ys, rfl, seqQ_sq hq, q⟩
end
end L2
namespace L2
open PySem PySem.Spec PyProof.Rows
/-! ### a new address: nothing tracked, nothing of the module -/
def new (K : PySem.W.Frag) (H : Hp) (p : Addr) : Prop := H p = none ∧ kTup K p = none
theorem new_upd {K : PySem.W.Frag} {H : Hp} {a p : Addr} {o : HO} : new K (upd H a o) p ↔ p ≠ a ∧ new K H p := by
  unfold new
  rw [upd_none, and_assoc]
theorem kTup_none {K : PySem.W.Frag} {a : Addr} (h : K.lookup a = none) : kTup K a = none := by unfold kTup; rw [h]
section
variable {X : Cx} {es : List Expr} {t : TA} {pos : Pos} {pins : List (Addr × Obj)} {σ : St} {H : Hp} {s : Shared}
theorem Inv.new (I : Inv X pins σ H s) : L2.new X.K H s.heap.objs.size := by
  refine ⟨I.hok.fresh (Nat.le_refl _), kTup_none ?_⟩
  cases e : X.K.lookup s.heap.objs.size with
  | none => rfl
  | some o => exact absurd (Heap.lt_size (I.kIn _ o e)) (Nat.lt_irrefl _)
def tTupQ (K : PySem.W.Frag) (t : TA) : TE := fun σ H Q => t σ H fun xs H1 => xs.length ≤ sizeLine ∧ ∀ p, L2.new K H1 p → Q (.ref p) (upd H1 p (.tup xs))
def tLstQ (K : PySem.W.Frag) (t : TA) : TE := fun σ H Q => t σ H fun xs H1 => xs.length ≤ sizeLine ∧ ∀ p, L2.new K H1 p → Q (.ref p) (upd H1 p (.lst xs))
theorem etupQ {k} (h : JA X es t) : JE X (.Tuple es k pos) (tTupQ X.K t) := ⟨by
  intro pins s σ H Q I hq
  refine wpAny_Tuple_spliced (thn (h.h pos pins s σ H _ I hq) fun us s1 ⟨xs, H1, I1, r, z, q⟩ => ⟨by rw [← r.length]; exact z, ?_⟩)
  refine ⟨.ref s1.heap.objs.size, upd H1 s1.heap.objs.size (.tup xs), I1.laid (t' := s1.toks) (fun b u e => Heap.get?_push_of_some _ e) (Nat.le_refl _) ?_, rfl, q _ I1.new⟩
  exact ⟨z, us, r, ⟨_, Heap.get?_push_size _ rfl, rfl, _, rfl⟩⟩⟩
theorem elstQ (h : JA X es t) : JE X (.List es pos) (tLstQ X.K t) := ⟨by
  intro pins s σ H Q I hq
  refine wpAny_List_spliced (thn (h.h pos pins s σ H _ I hq) fun us s1 ⟨xs, H1, I1, r, z, q⟩ => ⟨by rw [← r.length]; exact z, ?_⟩)
  refine ⟨.ref s1.heap.objs.size, upd H1 s1.heap.objs.size (.lst xs), I1.laid (t' := s1.toks) (fun b u e => Heap.get?_push_of_some _ e) (Nat.le_refl _) ?_, rfl, q _ I1.new⟩
  exact ⟨z, us, 0, r, Heap.get?_push_size _ rfl⟩⟩
theorem snever {st : Stmt} : JS X st tNever := ⟨ps_never⟩
/-- list + list, xs[lo:hi], with the new address told as new -/
def rCatQ (K : PySem.W.Frag) : R2 := fun x y H Q => ∃ l b xs zs, x = .ref l ∧ y = .ref b ∧ H l = some (.lst xs) ∧ H b = some (.lst zs) ∧ xs.length + zs.length ≤ sizeLine ∧ ∀ p, L2.new K H p → Q (.ref p) (upd H p (.lst (xs ++ zs)))
theorem op_catQ : OpR X (binaryOp .Add) (rCatQ X.K) := by
  intro pins s σ H x y v u Q I rx ry h
  obtain ⟨l, b, xs, zs, rfl, rfl, hH, hB, hz, q⟩ := h
  cases rx
  cases ry
  obtain ⟨z, its, n, r, hl, e⟩ := I.lstM hH
  obtain ⟨z2, its2, n2, r2, hl2, e2⟩ := I.lstM hB
  refine PySem.P.add_list e e2 ?_ (by rw [List.size_toArray, List.size_toArray]; omega)
  have ea : its.toArray ++ its2.toArray = (its ++ its2).toArray := by simp
  rw [ea]
  exact ⟨.ref _, _, I.lnew (t' := s.toks) (r.append r2) (by rw [List.length_append]; omega), rfl, q _ I.new⟩
end
/-- all but what stands at p is as it was -/
structure Kp (K : PySem.W.Frag) (p : Addr) (H H' : Hp) : Prop where
  keep : ∀ q o, H q = some o → q ≠ p → H' q = some o
  mod : ∀ a xs, H a = none → kTup K a = some xs → H' a = none
section
variable {K : PySem.W.Frag} {p a : Addr} {H H' H1 H2 : Hp} {xs ys : List V} {o : HO}
theorem Kp.refl : Kp K p H H := ⟨fun _ _ h _ => h, fun _ _ h _ => h⟩
theorem Kp.trans (x : Kp K p H H1) (y : Kp K p H1 H2) : Kp K p H H2 := ⟨fun q o h n => y.keep q o (x.keep q o h n) n, fun a xs h k => y.mod a xs (x.mod a xs h k) k⟩
theorem Kp.upd (h : H p = some (.lst xs)) : Kp K p H (upd H p o) := ⟨fun q u e n => by rw [upd_ne n]; exact e, fun b ys e _ => by rw [upd_ne (fun z => by rw [z, h] at e; cases e)]; exact e⟩
theorem Kp.new {q : Addr} (h : L2.new K H q) : Kp K p H (L2.upd H q o) := ⟨fun r u e _ => by rw [upd_ne (ne_of_none e h.1)]; exact e, fun b ys e k => by rw [upd_ne (fun z => by rw [z, h.2] at k; cases k)]; exact e⟩
theorem Kp.tup (x : Kp K p H H') (hp : H p = some (.lst ys)) (h : tupQ K H a = some xs) : tupQ K H' a = some xs := by
  unfold tupQ at h ⊢
  split at h
  · next e => rw [x.keep _ _ e (ne_of e hp (by intro z; cases z))]; exact h
  · cases h
  · next e => rw [x.mod a xs e h]; exact h
theorem Ext.new {q : Addr} (h : L2.new K H q) : Ext K H (L2.upd H q o) := ⟨fun b u e => by rw [upd_ne (ne_of_none e h.1)]; exact e, fun b ys e k => by rw [upd_ne (fun z => by rw [z, h.2] at k; cases k)]; exact e⟩
/-- a well that is made and drawn from within: behind it all that was is as it was -/
theorem Kp.ext (x : Kp K p (L2.upd H p o) H') (h : L2.new K H p) : Ext K H H' := by
  refine ⟨fun b u e => ?_, fun b ys e k => ?_⟩
  · have n : b ≠ p := ne_of_none e h.1
    exact x.keep b u (by rw [upd_ne n]; exact e) n
  · exact x.mod b ys (by rw [upd_ne (fun z => by rw [z, h.2] at k; cases k)]; exact e) k
theorem Ext.kp (x : Ext K H H') : Kp K p H H' := ⟨fun q o e _ => x.same q o e, x.mod⟩
end
end L2
namespace L2
open PySem PySem.Spec PyProof.Rows
section
variable {K : PySem.W.Frag} {p a : Addr} {H H' : Hp} {xs : List V}
theorem ne_new (h : tupQ K H a = some xs) (n : new K H p) : a ≠ p := by
  intro z
  subst z
  unfold tupQ at h
  rw [n.1] at h
  simp only at h
  rw [n.2] at h
  cases h
end
end L2
namespace L2
open PySem PySem.Spec PyProof.Rows
/-! ### isinstance, of tuples of the module too -/
def TyQ (K : PySem.W.Frag) (H : Hp) (x : V) (t : Value) : Prop := TyOf K H x t ∨ ∃ a xs, x = .ref a ∧ tupQ K H a = some xs ∧ t = .type "tuple"
theorem TyQ.tup {K : PySem.W.Frag} {H : Hp} {a : Addr} {xs : List V} (h : tupQ K H a = some xs) : TyQ K H (.ref a) (.type "tuple") := .inr ⟨a, xs, rfl, h, rfl⟩
section
variable {X : Cx}
theorem call_isinstQ : CallR X (.builtin "isinstance") (fun xs H Q => ∃ x n t b, xs = [x, .ty n] ∧ TyQ X.K H x t ∧ PySem.W.kitOne X.K t (.type n) = some b ∧ Q (.bl b) H) := by
  intro pins s σ H xs us Q I r h
  obtain ⟨x, n, t, b, rfl, ty, e, q⟩ := h
  obtain ⟨u, w', rfl, ru, rw'⟩ := vals2 r
  cases rw'
  rcases ty with ty | ⟨a, ys, rfl, hq, rfl⟩
  · exact isinst_ok I ru ty e fun tk => ⟨.bl b, H, I.tok tk, rfl, q⟩
  · cases (show u = Value.ref a from ru)
    obtain ⟨its, _, ⟨o, h1, h2, _⟩, _⟩ := I.tuple (tupQ_sq hq)
    exact PySem.W.kia_one PySem.W.kitx_tuple I.kIn ⟨o, h1, h2⟩ e (fun z => nomatch z) fun tk => ⟨.bl b, H, I.tok tk, rfl, q⟩
end
theorem kit_tuple_tuple (K : PySem.W.Frag) : PySem.W.kitOne K (.type "tuple") (.type "tuple") = some true := by rfl
theorem kit_tuple_str (K : PySem.W.Frag) : PySem.W.kitOne K (.type "tuple") (.type "str") = some false := by rfl
theorem kit_str_str (K : PySem.W.Frag) : PySem.W.kitOne K (.type "str") (.type "str") = some true := by rfl
end L2
namespace L2
open PySem PySem.Spec PyProof.Rows
section
variable {X : Cx}
/-- x is True, x is False: two truths -/
theorem op_isB : OpR X (compareOp .Is) (fun x y H Q => ∃ c d, x = .bl c ∧ y = .bl d ∧ Q (.bl (c == d)) H) := by
  intro pins s σ H x y v u Q I rx ry h
  obtain ⟨c, d, rfl, rfl, q⟩ := h
  cases rx
  cases ry
  exact is_bool ⟨.bl _, H, I, rfl, q⟩
theorem op_notB : OpR X (compareOp .IsNot) (fun x y H Q => ∃ c d, x = .bl c ∧ y = .bl d ∧ Q (.bl (c != d)) H) := by
  intro pins s σ H x y v u Q I rx ry h
  obtain ⟨c, d, rfl, rfl, q⟩ := h
  cases rx
  cases ry
  exact isnot_bool ⟨.bl _, H, I, rfl, q⟩
/-- x in a tuple or list of flat items, by the functions -/
def rInQ (K : PySem.W.Frag) (neg : Bool) : R2 := fun x y H Q => ∃ p xs, y = .ref p ∧ seqQ K H p = some xs ∧ flatV x = true ∧ xs.all flatV = true ∧ Q (.bl (if neg = true then !inV x xs else inV x xs)) H
theorem op_inQ : OpR X (compareOp .In) (rInQ X.K false) := by
  intro pins s σ H x y v u Q I rx ry h
  obtain ⟨p, xs, rfl, hq, fx, fs, q⟩ := h
  exact op_in_seq pins s σ H x _ v u Q I rx ry ⟨p, xs, rfl, seqQ_sq hq, fx, fs, q⟩
theorem op_notInQ : OpR X (compareOp .NotIn) (rInQ X.K true) := by
  intro pins s σ H x y v u Q I rx ry h
  obtain ⟨p, xs, rfl, hq, fx, fs, q⟩ := h
  exact op_notIn_seq pins s σ H x _ v u Q I rx ry ⟨p, xs, rfl, seqQ_sq hq, fx, fs, q⟩
end
end L2
namespace L2
open PySem PySem.Spec PyProof.Rows
/-! ### a def's body knows that nothing of the module is tracked -/
def ModFree (K : PySem.W.Frag) (H : Hp) : Prop := ∀ b xs, kTup K b = some xs → H b = none
theorem kTup_look {K : PySem.W.Frag} {a : Addr} {xs : List V} (h : kTup K a = some xs) : ∃ o, K.lookup a = some o := by
  cases e : K.lookup a with
  | none => rw [kTup_none e] at h; cases h
  | some o => exact ⟨o, rfl⟩
theorem FnOk.mod {P : Program} {w : World} {K : PySem.W.Frag} {mg : Str → Option Value} {base : Heap} {CX : CXT} {k : Nat} {f : Addr} {fd : FuncData} {ps : List Str} {sp : Sp} (len : ∀ vs H Q E, sp vs H Q E → vs.length = ps.length)
    (F : FnOk P w K mg base CX k f fd ps (fun vs H Q E => sp vs H Q E ∧ ModFree K H)) : FnOk P w K mg base CX k f fd ps sp :=
  ⟨len, fun A outer s H args us vs Q E hr e0 hb r h => F.run A outer s H args us vs Q E hr e0 hb r ⟨h, fun b xs hk => by
    obtain ⟨o, e⟩ := kTup_look hk
    exact (e0.bs b o (e0.mod.kin b o e)).2⟩⟩
section
variable {P : Program} {w : World} {K : PySem.W.Frag} {mg : Str → Option Value} {base : Heap}
theorem Fun.okM {x qual : Str} {st : Stmt} {f : Addr} {fd : FuncData} {N ps : List Str} {k : Nat} {sp : Sp} (F : Fun K x qual st f fd) (S : FnScope N ps (defScope st)) (len : ∀ vs H Q E, sp vs H Q E → vs.length = ps.length)
    (hbody : ∀ (cdv : Value) (A : Around) (outer : List Env) (s : Shared) (H : Hp) (vs : List V) (Q : VK) (E : XK), Room k (A.deeper (envOfC qual (defScope st) s.heap.objs.size f cdv)) → ModFree K H → sp vs H Q E →
      ∃ t, JB (cxOf CX0 P w K mg base N qual (defScope st) f cdv A outer s H E).nox (defBody st) t ∧ t { nx := fun _ H' => Q .non H', rt := Q } (start N vs) H) : FnOk P w K mg base CX0 (k + 1) f fd ps sp :=
  FnOk.mod len (F.okJ S (fun vs H Q E h => len vs H Q E h.1) fun cdv A outer s H vs Q E hr h => hbody cdv A outer s H vs Q E hr h.2 h.1)
end
theorem ModFree.tup {K : PySem.W.Frag} {H : Hp} {a : Addr} {xs : List V} (m : ModFree K H) (h : kTup K a = some xs) : tupQ K H a = some xs := by
  unfold tupQ
  rw [m a xs h]
  exact h
theorem ModFree.ext {K : PySem.W.Frag} {H H' : Hp} (m : ModFree K H) (x : Ext K H H') : ModFree K H' := fun b xs h => x.mod b xs (m b xs h) h
end L2
namespace L2
open PySem PySem.Spec PyProof.Rows
/-! ### range(a, b, c) -/
def Itr3 (lo st : Int) (n : Nat) : It := ⟨fun i _ => i < n, fun i H x H' => H' = H ∧ x = .int (lo + i * st), fun i _ => n ≤ i⟩
theorem turn_range3 {P : Program} {w : World} {K : PySem.W.Frag} {tg : Expr} (it : Addr) (lo stp : Int) (n : Nat) : Turn P w K tg (Itr3 lo stp n) [it] it (fun i h => IsRangeIter h it (lo + (i : Nat) * stp) ((n : Int) - (i : Nat)) stp) where
  mem := by simp
  obj := fun i h st b hb => by
    have e : b = it := by simpa using hb
    subst e
    exact ⟨_, st, fun v z => by
      have z' : Data.fields _ = Data.cell v := z
      cases z'⟩
  keep := fun i h h' st k => k it (by simp) _ st
  item := by
    intro X hP hw hK hc i pins s σ H E I hf st hg
    subst hP hw hK
    obtain ⟨f0, f1, f2, f3, f4, f5⟩ := hf it (by simp)
    have W := Walks.range (prog := X.prog) (w := X.w) (I.ok.hd hc) it lo stp n
    refine W.item i s _ _ hg st fun v h' tk hv st' kk => ?_
    obtain ⟨t, rfl⟩ := hv
    have I1 : Inv X pins σ H { s with heap := h', toks := tk } := I.turned (fun b o hb e => kk b o (by simpa using hb) e) f0 f1 f3 f4 f5
    exact ⟨_, rfl, go_of (s := { s with heap := h', toks := tk }) (n := "range_iterator") st' rfl rfl (by decide) ⟨.int (lo + i * stp), H, I1, ⟨t, rfl⟩, ⟨rfl, rfl⟩, st', fun b hb => (hf b hb).1⟩⟩
  done := by
    intro X hP hw hK hc i pins s σ H E I hf st hg
    subst hP hw hK
    obtain ⟨f0, f1, f2, f3, f4, f5⟩ := hf it (by simp)
    exact wpAny_pyNext_range_end (I.ok.hd hc) st (by have : n ≤ i := hg; omega) fun h' eb => ⟨rfl, I.turned (t' := s.toks) (fun b o hb e => eb b o hb e) f0 f1 f3 f4 f5⟩
  self := fun _ _ _ _ _ st h => wpAny_pyIter_rangeiter st h
section
variable {X : Cx} {tg : Expr}
theorem range_it3 {pins : List (Addr × Obj)} {σ : St} {H : Hp} {s : Shared} {R : It → Hp → Prop} {E : Value → Shared → Prop} {lo hi stp : Int} {n : Nat} {t u v : Tok} {tk : Nat} (I : Inv X pins σ H s) (h1 : Builtin.Range.small lo hi stp = true) (h2 : Builtin.Range.rangeSize lo hi stp = (n : Int))
    (q : R (Itr3 lo stp n) H) : wpAny (model X.prog X.w) X.A (pyIter (.ref s.heap.objs.size)) (PIE X pins σ tg R) E { s with heap := s.heap.push { cls := .type "range", data := .fields #[.int lo t, .int hi u, .int stp v] }, toks := tk } := by
  refine wpAny_pyIter_range (IsRange.new ..) h1 ?_
  have I1 : Inv X pins σ H { s with heap := s.heap.push { cls := .type "range", data := .fields #[.int lo t, .int hi u, .int stp v] }, toks := tk } := I.kept fun b o e => Heap.get?_push_of_some _ e
  refine ⟨(s.heap.push { cls := .type "range", data := .fields #[.int lo t, .int hi u, .int stp v] }).objs.size, [(s.heap.push { cls := .type "range", data := .fields #[.int lo t, .int hi u, .int stp v] }).objs.size], _, _, H, rfl,
    I1.kept (t' := tk) fun b o e => Heap.get?_push_of_some _ e, turn_range3 _ lo stp n, ?_, fun b hb => ?_, q⟩
  · have e1 : lo + ((0 : Nat) : Int) * stp = lo := by simp
    have e2 : ((n : Nat) : Int) - ((0 : Nat) : Int) = Builtin.Range.rangeSize lo hi stp := by rw [h2]; simp
    show IsRangeIter _ _ (lo + ((0 : Nat) : Int) * stp) (((n : Nat) : Int) - ((0 : Nat) : Int)) stp
    rw [e1, e2]
    exact Heap.get?_push_size _ rfl
  · have e : b = (s.heap.push { cls := .type "range", data := .fields #[.int lo t, .int hi u, .int stp v] }).objs.size := by simpa using hb
    subst e
    exact I1.fpOk (Nat.le_refl _) (I1.hok.fresh (Nat.le_refl _))
def iRng3 (ta : TA) : TI := fun σ H R => ta σ H fun vs H1 => ∃ (i j c : Int) (n : Nat), vs = [.int i, .int j, .int c] ∧ c ≠ 0 ∧ c.natAbs < 1073741824 ∧ Builtin.Range.small i j c = true ∧ Builtin.Range.rangeSize i j c = (n : Int) ∧ R (Itr3 i c n) H1
theorem irange3 {a b c : Expr} {ta : TA} {p pos : Pos} (hg : Gl X "range") (hm : X.mg "range" = none) (ha : JA X [a, b, c] ta) (hs : starEach [a, b, c] X.env = (false, eval a X.env) :: starEach [b, c] X.env := by rfl) (hs2 : (backTo pos (starEach [b, c] X.env)).any (·.1) = false := by rfl) :
    JI X tg (.Call (.Name "range" p) [a, b, c] [] pos) (iRng3 ta) := ⟨by
  intro pins s σ H R I h
  refine Call_ (ld_blt I hg hm bt_range (PyProof.Rows.callWith_type1 (thn (ha.h pos pins s σ H _ I h) fun us s1 ⟨vs, H1, I1, r1, q1⟩ => ?_) hs hs2))
  obtain ⟨i, j, c, n, e, q1, q2, q3, q4, q⟩ := q1
  subst e
  cases r1 with
  | cons r rr =>
    cases rr with
    | cons r' rr =>
      cases rr with
      | cons r'' rr =>
        cases rr
        obtain ⟨t, rfl⟩ := r
        obtain ⟨t', rfl⟩ := r'
        obtain ⟨t'', rfl⟩ := r''
        exact call_range_3 q1 (range_it3 I1 q3 q4 q) (.inl (PyProof.noPylong_small q2))⟩
end
section
variable {K : PySem.W.Frag} {ta : TA} {g : TG} {tb : TS} {D : Ends} {σ : St} {H : Hp} {lo stp : Int} {n : Nat}
theorem tFor_rng3 : tFor (iRng3 ta) g tb D σ H = ta σ H (fun vs H1 => ∃ (i j c : Int) (n : Nat), vs = [.int i, .int j, .int c] ∧ c ≠ 0 ∧ c.natAbs < 1073741824 ∧ Builtin.Range.small i j c = true ∧ Builtin.Range.rangeSize i j c = (n : Int) ∧ Loop (Itr3 i c n) g tb D σ H1) := rfl
theorem loop_range3 (Pv : Nat → St → Hp → Prop) (h0 : Pv 0 σ H)
    (hs : ∀ i σ H, i < n → Pv i σ H → g (.int (lo + i * stp)) σ H fun σ2 H2 => tb { D with nx := Pv (i + 1), ct := Pv (i + 1), bk := D.nx } σ2 H2) (hd : ∀ σ H, Pv n σ H → D.nx σ H) : Loop (Itr3 lo stp n) g tb D σ H := by
  refine ⟨fun i m σ H => Pv i σ H ∧ i ≤ n ∧ m = n - i, ⟨n, h0, Nat.zero_le _, by omega⟩, fun i m σ H ⟨h, hi, hm⟩ => ?_⟩
  by_cases c : i < n
  · right
    refine ⟨c, Pv (i + 1), fun σ' H' q => ⟨n - (i + 1), by omega, q, c, rfl⟩, fun x H' hx => ?_⟩
    obtain ⟨e1, e2⟩ := hx
    subst e1 e2
    exact hs i σ _ c h
  · left
    have e : i = n := by omega
    subst e
    exact ⟨Nat.le_refl _, hd σ H h⟩
end
end L2
namespace L2
open PySem PySem.Spec PyProof.Rows
section
variable {X : Cx}
/-- xs[lo:hi] of a list: a new list at a new address -/
def rSlQ (K : PySem.W.Frag) : V → Option Int → Option Int → Hp → VK → Prop := fun x lo hi H Q => ∃ a xs, x = .ref a ∧ SqL K H a xs ∧ ∀ p, L2.new K H p → Q (.ref p) (upd H p (.lst (cutV xs lo hi)))
theorem sl_listQ : SlR X (rSlQ X.K) := by
  intro pins s σ H x v vl vu lo hi sl Q I rx hs pl pu h
  obtain ⟨a, xs, rfl, hx, q⟩ := h
  cases rx
  obtain ⟨its, r, ht, hz⟩ := I.list hx
  have hlen := r.length
  refine ⟨"list", _, slot_list_getitem.lookup, ht.isList.typeIs, ?_⟩
  refine wpAny_getItem_list_slice ht.isList hs pl pu .none (by simp) ?_ (by rw [List.size_toArray] <;> omega)
  rw [slicePick_cut, ← hlen]
  refine ⟨.ref s.heap.objs.size, _, I.laid (t' := s.toks) (o := .lst (cutV xs lo hi)) (fun b ob q => Heap.get?_push_of_some _ q) (Nat.le_refl _) ?_, rfl, q _ I.new⟩
  exact ⟨Nat.le_trans (cutV_length xs lo hi) hz, _, 0, (r.drop (HT.sIx xs.length 0 lo)).take (HT.sIx xs.length xs.length hi - HT.sIx xs.length 0 lo), Heap.get?_push_size _ rfl⟩
end
end L2

set_option Elab.async false
set_option linter.all false
set_option maxRecDepth 100000
/-! more rules: taking a tuple apart, tuples of the module -/
namespace L2
open PySem PySem.Spec PyProof.Rows
section
variable {X : Cx} {es : List Expr} {pos : Pos}
def gTupQ (K : PySem.W.Frag) (n : Nat) (t : TGs) : TG := fun v σ H Q => ∃ a xs, v = .ref a ∧ tupQ K H a = some xs ∧ xs.length = n ∧ t xs σ H Q
theorem gtupQ {k : Nat} {t : TGs} {n : Nat} (hc : X.calm = true) (h : JGs X es t) (hn : (assignEach es X.env).length = n := by rfl) (hst : (assignEach es X.env).findIdx? (·.1) = none := by rfl) : JG X (.Tuple es k pos) (gTupQ X.K n t) :=
  ⟨fun pins s σ H v u Q I r ⟨a, xs, e, h1, h2, h3⟩ => pg_tup hc h.h hn hst pins s σ H v u Q I r ⟨a, xs, e, tupQ_sq h1, h2, h3⟩⟩
end
theorem iteT' {c : Prop} [Decidable c] {a b : Prop} (h : c) (x : a) : if c then a else b := by rw [if_pos h]; exact x
theorem iteF' {c : Prop} [Decidable c] {a b : Prop} (h : ¬ c) (x : b) : if c then a else b := by rw [if_neg h]; exact x
theorem kTup_of {K : PySem.W.Frag} {a : Addr} {d : Option Addr} {its : Array Value} {k : Nat} {sl : Array (Option Value)} {xs : List V} (h : K.lookup a = some ⟨.type "tuple", d, .seq its k, sl⟩) (hz : its.size ≤ 1000) (e : its.toList.mapM absV = some xs) : kTup K a = some xs := by
  unfold kTup
  rw [h]
  simp only [if_true]
  rw [if_pos (small_le hz)]
  exact e
end L2
namespace L2
open PySem PySem.Spec PyProof.Rows
theorem cutV_to (xs : List V) (k : Nat) : cutV xs none (some (k : Int)) = xs.take k := by
  unfold cutV
  rw [HT.sIx_none, HT.sIx_nat, List.drop_zero, Nat.sub_zero]
  by_cases h : k ≤ xs.length
  · rw [Nat.min_eq_left h]
  · rw [Nat.min_eq_right (by omega), List.take_of_length_le (Nat.le_refl _), List.take_of_length_le (by omega)]
theorem cutV_from (xs : List V) (k : Nat) : cutV xs (some (k : Int)) none = xs.drop k := by
  unfold cutV
  rw [HT.sIx_none, HT.sIx_nat]
  by_cases h : k ≤ xs.length
  · rw [Nat.min_eq_left h, List.take_of_length_le (by rw [List.length_drop]; exact Nat.le_refl _)]
  · rw [Nat.min_eq_right (by omega), List.drop_of_length_le (Nat.le_refl _), List.drop_of_length_le (by omega)]; simp
theorem cutV_nat (xs : List V) (i j : Nat) (h : j ≤ xs.length) (hij : i ≤ j) : cutV xs (some (i : Int)) (some (j : Int)) = (xs.drop i).take (j - i) := by
  unfold cutV
  rw [HT.sIx_nat, HT.sIx_nat, Nat.min_eq_left h, Nat.min_eq_left (by omega)]
theorem small_step {b c : Int} (hb : 0 ≤ b) (hb' : b < 100000) (hc : 0 < c) (hc' : c < 100000) : Builtin.Range.small 0 b c = true := by
  unfold Builtin.Range.small
  have e : Builtin.Range.rangeSize 0 b c = (if 0 < b then (b - 0 - 1) / c + 1 else 0) := by
    unfold Builtin.Range.rangeSize
    rw [if_pos (by omega)]
  have h1 : Builtin.Range.rangeSize 0 b c ≤ 100000 ∧ 0 ≤ Builtin.Range.rangeSize 0 b c := by
    rw [e]
    split
    · have u := Int.ediv_le_self (b := c) (a := b - 0 - 1) (by omega)
      have v := Int.ediv_nonneg (a := b - 0 - 1) (b := c) (by omega) (by omega)
      omega
    · omega
  generalize Builtin.Range.rangeSize 0 b c = z at h1
  rw [if_pos (by omega)]
  simp only [Builtin.Range.rangeFitsLong, Bool.and_eq_true, Bool.or_eq_true, decide_eq_true_eq, beq_iff_eq]
  omega
end L2
namespace L2
open PySem PySem.Spec PyProof.Rows
/-- two numbers of a row of numbers -/
theorem cut_two {W : List V} (hW : ∀ x ∈ W, ∃ c : Int, x = .int c) {i : Nat} (h : i + 2 ≤ W.length) : ∃ c d : Int, cutV W (some (i : Int)) (some ((i + 2 : Nat) : Int)) = [.int c, .int d] := by
  rw [cutV_nat W i (i + 2) h (by omega), show i + 2 - i = 2 by omega]
  have hl : ((W.drop i).take 2).length = 2 := by rw [List.length_take, List.length_drop]; omega
  have hm : ∀ x ∈ (W.drop i).take 2, ∃ c : Int, x = .int c := fun x hx => hW x (List.mem_of_mem_drop (List.mem_of_mem_take hx))
  generalize (W.drop i).take 2 = Z at hl hm
  match Z, hl with
  | [x, y], _ =>
    obtain ⟨c, rfl⟩ := hm x (by simp)
    obtain ⟨d, rfl⟩ := hm y (by simp)
    exact ⟨c, d, rfl⟩
theorem Ext.at {K : PySem.W.Frag} {H H' : Hp} {a : Addr} {o : HO} (x : Ext K H H') (h : H a = some o) : H' a = some o := x.same _ _ h
theorem Ext.seqQ {K : PySem.W.Frag} {H H' : Hp} {a : Addr} {xs : List V} (x : Ext K H H') (h : seqQ K H a = some xs) : seqQ K H' a = some xs := by
  unfold L2.seqQ at h ⊢
  split at h
  · next e => rw [x.same _ _ e]; exact h
  · next e => rw [x.same _ _ e]; exact h
  · next e => rw [x.same _ _ e]; exact h
  · cases h
  · next e => rw [x.mod a xs e h]; exact h
end L2
namespace L2
open PySem PySem.Spec PyProof.Rows
/-- all but what stands at p and at q is as it was -/
structure Kp2 (K : PySem.W.Frag) (p q : Addr) (H H' : Hp) : Prop where
  keep : ∀ r o, H r = some o → r ≠ p → r ≠ q → H' r = some o
  mod : ∀ a xs, H a = none → kTup K a = some xs → H' a = none
section
variable {K : PySem.W.Frag} {p q : Addr} {H H' H1 H2 : Hp} {o o' : HO}
theorem Kp.l (x : Kp K p H H') : Kp2 K p q H H' := ⟨fun r o h n _ => x.keep r o h n, x.mod⟩
theorem Kp.r (x : Kp K q H H') : Kp2 K p q H H' := ⟨fun r o h _ n => x.keep r o h n, x.mod⟩
theorem Ext.kp2 (x : Ext K H H') : Kp2 K p q H H' := ⟨fun r o h _ _ => x.same r o h, x.mod⟩
theorem Kp2.trans (x : Kp2 K p q H H1) (y : Kp2 K p q H1 H2) : Kp2 K p q H H2 := ⟨fun r o h n m => y.keep r o (x.keep r o h n m) n m, fun a xs h k => y.mod a xs (x.mod a xs h k) k⟩
theorem Kp2.ext (x : Kp2 K p q (L2.upd (L2.upd H p o) q o') H') (hp : L2.new K H p) (hq : L2.new K (L2.upd H p o) q) : Ext K H H' := by
  have y : Ext K H (L2.upd (L2.upd H p o) q o') := (Ext.new hp).trans (Ext.new hq)
  refine ⟨fun b u e => ?_, fun b ys e k => x.mod b ys (y.mod b ys e k) k⟩
  have n : b ≠ p := ne_of_none e hp.1
  have m : b ≠ q := ne_of_none ((Ext.new hp).at e) hq.1
  exact x.keep b u (y.at e) n m
end
end L2

set_option Elab.async false
set_option linter.all false
set_option maxRecDepth 100000
/-! list comprehensions -/
namespace L2
open PySem PySem.Spec PyProof.Rows
def closL (env : Env) : List (Str × NameKind) → List (Str × Addr) → List (Str × Addr)
  | [], cs => cs
  | (n, k) :: r, cs => closL env r (if (k == NameKind.free) = true then (match env.cells.lookup n with | some a => (n, a) :: cs | none => cs) else cs)
theorem closureFor_eq {scope : Scope} {env : Env} (h : ∀ x ∈ scope.names, x.2 = .free → ∃ c, env.cells.lookup x.1 = some c) : closureFor scope env = pure (closL env scope.names []) := by
  unfold closureFor
  generalize scope.names = names at h ⊢
  generalize ([] : List (Str × Addr)) = cs
  induction names generalizing cs with
  | nil => rfl
  | cons x r ih =>
    obtain ⟨n, k⟩ := x
    have ih' := fun cs => ih (cs := cs) fun x hx => h x (List.mem_cons_of_mem _ hx)
    simp only [List.forIn_cons]
    cases hk : (k == NameKind.free) with
    | false =>
      simp only [closL, hk]
      exact ih' cs
    | true =>
      obtain ⟨c, hc⟩ := h (n, k) (List.mem_cons_self) (by simpa using hk)
      simp only [closL, hk, hc, cellOf]
      exact ih' _
theorem closL_mem {env : Env} : ∀ {names : List (Str × NameKind)} {cs : List (Str × Addr)} {n : Str} {c : Addr}, (n, c) ∈ closL env names cs → (n, c) ∈ cs ∨ env.cells.lookup n = some c
  | [], cs, n, c, h => .inl h
  | (m, k) :: r, cs, n, c, h => by
    rw [closL] at h
    rcases closL_mem h with h | h
    · split at h
      · split at h
        · next a e =>
          rcases List.mem_cons.mp h with z | z
          · cases z; exact .inr e
          · exact .inl z
        · exact .inl h
      · exact .inl h
    · exact .inr h
theorem closL_sub {env : Env} : ∀ {names : List (Str × NameKind)} {cs : List (Str × Addr)} {p : Str × Addr}, p ∈ cs → p ∈ closL env names cs
  | [], cs, p, h => h
  | (m, k) :: r, cs, p, h => by
    rw [closL]
    refine closL_sub ?_
    split
    · split
      · exact List.mem_cons_of_mem _ h
      · exact h
    · exact h
theorem closL_has {env : Env} : ∀ {names : List (Str × NameKind)} {cs : List (Str × Addr)} {n : Str} {c : Addr}, (n, NameKind.free) ∈ names → env.cells.lookup n = some c → (n, c) ∈ closL env names cs
  | (m, k) :: r, cs, n, c, h, e => by
    rw [closL]
    rcases List.mem_cons.mp h with z | z
    · cases z
      rw [if_pos (by decide), e]
      exact closL_sub List.mem_cons_self
    · exact closL_has z e
theorem lookup_mem {α : Type} : ∀ {l : List (Str × α)} {n : Str} {c : α}, l.lookup n = some c → (n, c) ∈ l
  | (m, d) :: r, n, c, h => by
    rw [List.lookup_cons] at h
    cases e : n == m with
    | true =>
      rw [e] at h
      cases h
      rw [eq_of_beq e]
      exact List.mem_cons_self
    | false =>
      rw [e] at h
      exact List.mem_cons_of_mem _ (lookup_mem h)
theorem mem_lookup {α : Type} : ∀ {l : List (Str × α)} {n : Str} {c : α}, (n, c) ∈ l → ∃ d, l.lookup n = some d
  | (m, d) :: r, n, c, h => by
    rw [List.lookup_cons]
    cases e : n == m with
    | true => exact ⟨d, rfl⟩
    | false =>
      rcases List.mem_cons.mp h with z | z
      · cases z
        rw [beq_self_eq_true] at e; cases e
      · exact mem_lookup z
theorem clos_look {env : Env} {names : List (Str × NameKind)} {n : Str} {c : Addr} (h : (closL env names []).lookup n = some c) : env.cells.lookup n = some c := by
  rcases closL_mem (lookup_mem h) with z | z
  · cases z
  · exact z
theorem clos_has {env : Env} {names : List (Str × NameKind)} {n : Str} {c : Addr} (h : (n, NameKind.free) ∈ names) (e : env.cells.lookup n = some c) : (closL env names []).lookup n = some c := by
  obtain ⟨d, hd⟩ := mem_lookup (closL_has (cs := []) h e)
  rw [hd]
  exact (clos_look hd).symm.trans e ▸ rfl

theorem relabel_free {env : Env} : ∀ {names : List (Str × NameKind)} {x : Str}, names.lookup x = some .free →
    (names.map fun (n, k) => if (k == NameKind.free && env.scope.kind == .function && env.kindOf n == some .cell) then (n, NameKind.cell) else (n, k)).lookup x = some .cell ∨
    (names.map fun (n, k) => if (k == NameKind.free && env.scope.kind == .function && env.kindOf n == some .cell) then (n, NameKind.cell) else (n, k)).lookup x = some .free
  | [], _, h => by simp at h
  | (n, k) :: r, x, h => by
    have ih := @relabel_free env r x
    show List.lookup x ((if (k == NameKind.free && env.scope.kind == .function && env.kindOf n == some .cell) = true then (n, NameKind.cell) else (n, k)) :: _) = _ ∨ List.lookup x ((if (k == NameKind.free && env.scope.kind == .function && env.kindOf n == some .cell) = true then (n, NameKind.cell) else (n, k)) :: _) = _
    cases hx : x == n with
    | true =>
      simp only [List.lookup_cons, hx] at h
      cases h
      split
      · simp [List.lookup_cons, hx]
      · simp [List.lookup_cons, hx]
    | false =>
      simp only [List.lookup_cons, hx] at h
      split
      · simp only [List.lookup_cons, hx]; exact ih h
      · simp only [List.lookup_cons, hx]; exact ih h
theorem relabel_mem {env : Env} : ∀ {names : List (Str × NameKind)} {x : Str} {kk : NameKind}, (∀ y ∈ names, y.2 ≠ .cell) →
    (names.map fun (n, k) => if (k == NameKind.free && env.scope.kind == .function && env.kindOf n == some .cell) then (n, NameKind.cell) else (n, k)).lookup x = some kk → kk = .cell ∨ kk = .free → (x, NameKind.free) ∈ names
  | [], _, _, _, h, _ => by simp at h
  | (n, k) :: r, x, kk, hc, h, hk => by
    have ih := @relabel_mem env r x kk fun y hy => hc y (List.mem_cons_of_mem _ hy)
    change List.lookup x ((if (k == NameKind.free && env.scope.kind == .function && env.kindOf n == some .cell) = true then (n, NameKind.cell) else (n, k)) :: _) = _ at h
    cases hx : x == n with
    | true =>
      have e := eq_of_beq hx
      subst e
      split at h
      · next q =>
        simp only [Bool.and_eq_true, beq_iff_eq] at q
        rw [q.1.1]
        exact List.mem_cons_self
      · simp only [List.lookup_cons, hx] at h
        cases h
        rcases hk with z | z
        · exact absurd z (hc _ List.mem_cons_self)
        · rw [z]; exact List.mem_cons_self
    | false =>
      refine List.mem_cons_of_mem _ (ih ?_ hk)
      split at h
      · simp only [List.lookup_cons, hx] at h; exact h
      · simp only [List.lookup_cons, hx] at h; exact h
/-- the context of a comprehension's block: its frame at C, entered at s, H; fp: the iterator's objects -/
def Cx.comp (X : Cx) (N : List Str) (scope : Scope) (C : Addr) (s : Shared) (H : Hp) (fp : List Addr) : Cx :=
  { X with N := N, s₀ := s, H₀ := H, env := compEnvC scope (closL X.env scope.names []) C X.env, outer := X.stack, ex := fp, fn := fun _ => false, pn := [], xe := fun _ _ => False }
/-- what the block's slots hold at first: its own names nothing, those from around what they hold there -/
def pick (σ : St) (src : List (Option Nat)) : St := src.map fun o => match o with | none => none | some j => (σ[j]?).join
def capOk (NX : List Str) (scX sc : Scope) (N : List Str) (src : List (Option Nat)) : Bool :=
  sc.names.all (fun x => x.2 != .cell) && sc.names.all (fun x => x.2 != .local || sc.names.lookup x.1 == some .local) &&
  sc.names.all (fun x => x.2 != .free || (scX.names.lookup x.1 == some .cell || scX.names.lookup x.1 == some .free)) && N.length == src.length &&
  (N.zip src).all (fun p => match p.2 with | none => true | some j => NX[j]? == some p.1 && (scX.names.lookup p.1 == some .cell || scX.names.lookup p.1 == some .free) && sc.names.lookup p.1 == some .free)
structure Cap (X : Cx) (sc : Scope) (N : List Str) (src : List (Option Nat)) : Prop where
  kind : sc.kind = .function
  ok : capOk X.N X.env.scope sc N src = true
section
variable {X : Cx} {sc : Scope} {N : List Str} {src : List (Option Nat)}
theorem Cap.cell (c : Cap X sc N src) : ∀ y ∈ sc.names, y.2 ≠ .cell := fun y hy => by
  have h := c.ok
  simp only [capOk, Bool.and_eq_true, List.all_eq_true] at h
  simpa using h.1.1.1.1 y hy
theorem Cap.names (c : Cap X sc N src) : ∀ y ∈ sc.names, y.2 = .local → sc.names.lookup y.1 = some .local := fun y hy e => by
  have h := c.ok
  simp only [capOk, Bool.and_eq_true, List.all_eq_true] at h
  have q := h.1.1.1.2 y hy
  rw [e] at q
  simpa using q
theorem Cap.free (c : Cap X sc N src) {x : Str} (hx : (x, NameKind.free) ∈ sc.names) : X.env.kindOf x = some .cell ∨ X.env.kindOf x = some .free := by
  have h := c.ok
  simp only [capOk, Bool.and_eq_true, List.all_eq_true] at h
  have q := h.1.1.2 _ hx
  simpa [Env.kindOf] using q
theorem Cap.len (c : Cap X sc N src) : N.length = src.length := by
  have h := c.ok
  simp only [capOk, Bool.and_eq_true, List.all_eq_true] at h
  simpa using h.1.2
theorem Cap.at_ (c : Cap X sc N src) {i j : Nat} {x : Str} (h1 : N[i]? = some x) (h2 : src[i]? = some (some j)) : X.N[j]? = some x ∧ (X.env.kindOf x = some .cell ∨ X.env.kindOf x = some .free) ∧ sc.names.lookup x = some .free := by
  have h := c.ok
  simp only [capOk, Bool.and_eq_true, List.all_eq_true] at h
  have m : (x, some j) ∈ N.zip src := by
    refine List.mem_of_getElem? (i := i) ?_
    rw [List.getElem?_zip_eq_some]
    exact ⟨h1, h2⟩
  have q := h.2 _ m
  simp only [Bool.and_eq_true, Bool.or_eq_true, beq_iff_eq] at q
  exact ⟨q.1.1, q.1.2, q.2⟩
theorem pick_some {σ : St} {i : Nat} {v : V} (h : (pick σ src)[i]? = some (some v)) : ∃ j, src[i]? = some (some j) ∧ σ[j]? = some (some v) := by
  unfold pick at h
  rw [List.getElem?_map] at h
  cases e : src[i]? with
  | none => rw [e] at h; cases h
  | some o =>
    rw [e] at h
    cases o with
    | none => simp at h
    | some j =>
      refine ⟨j, rfl, ?_⟩
      simp only [Option.map_some, Option.some.injEq] at h
      cases e2 : σ[j]? with
      | none => rw [e2] at h; cases h
      | some w =>
        rw [e2] at h
        simp only [Option.join] at h
        exact congrArg some h
theorem Cx.Ok.comp {pins : List (Addr × Obj)} {σ : St} {H : Hp} {s : Shared} {fp : List Addr} {C : Addr} (I : Inv X pins σ H s) (c : Cap X sc N src) (hf : ∀ b ∈ fp, FpOk X pins H b) (ho : ∀ b ∈ fp, ∃ o, s.heap.get? b = some o) (hC : s.heap.objs.size ≤ C) : (X.comp N sc C s H fp).Ok where
  mod := I.ok.mod
  kind := c.kind
  glob := I.ok.glob
  blt := I.ok.blt
  above := hC
  inj := fun x y a h h' => I.ok.inj x y a (clos_look h) (clos_look h')
  has := fun x h => by
    have m : (x, NameKind.free) ∈ sc.names := by
      rcases h with h | h
      · exact relabel_mem c.cell h (.inl rfl)
      · exact relabel_mem c.cell h (.inr rfl)
    obtain ⟨a, ha⟩ := I.ok.has x (c.free m)
    exact ⟨a, clos_has m ha⟩
  cab := fun _ _ h => nomatch h
  hd := I.ok.hd
  frames := I.ok.frames
  stk := .inl rfl
  exf := fun b hb => by
    obtain ⟨o, e⟩ := ho b hb
    exact ⟨Nat.ne_of_lt (Nat.lt_of_lt_of_le (Heap.lt_size e) hC), fun x a h => (hf b hb).2.2.2.2.1 x a (clos_look h)⟩
  bs := I.bs
  bsz := Nat.le_trans I.ok.bsz I.sz
  noex := fun b o e hb => by
    rcases (hf b hb).2.2.2.1 with z | z
    · exact I.ok.noex b o e z
    · exact absurd (Nat.lt_of_lt_of_le (Heap.lt_size e) (Nat.le_trans I.ok.bsz z)) (Nat.lt_irrefl _)
  exfs := fun b hb z => by
    rcases List.mem_cons.mp (I.stkSub b z) with q | q
    · exact (hf b hb).2.1 q
    · exact (hf b hb).2.2.1 q
  funs := I.stack
  frf := I.stkFree
theorem Inv.block {pins : List (Addr × Obj)} {σ : St} {H : Hp} {s : Shared} {fp : List Addr} {C D : Addr} {h1 : Heap} {t' : Nat} (I : Inv X pins σ H s) (c : Cap X sc N src) (hf : ∀ b ∈ fp, FpOk X pins H b) (ho : ∀ b ∈ fp, ∃ o, s.heap.get? b = some o)
    (hD : s.heap.objs.size ≤ D) (hC : s.heap.objs.size ≤ C) (hDC : D ≠ C) (k : ∀ b u, s.heap.get? b = some u → h1.get? b = some u) (hn : h1.Ns C fun _ => none) (new : ObjOk X.prog X.w (upd H D (.lst [])) h1 D (.lst [])) :
    Inv (X.comp N sc C s H fp) [] (pick σ src) (upd H D (.lst [])) { s with heap := h1, toks := t' } where
  ok := Cx.Ok.comp I c hf ho hC
  os := rfl
  bare := I.bare
  base := Un.laid k hD (I.hok.fresh hD)
  loc := by
    refine ⟨_, hn, fun i x v e1 e2 e3 => ?_⟩
    obtain ⟨j, ej, es⟩ := pick_some e2
    obtain ⟨n1, n2, n3⟩ := c.at_ e1 ej
    obtain ⟨m, _, hl⟩ := I.loc
    have vis : Vis X.env.scope x := n2.elim (fun z => .inr (.inl z)) fun z => .inr (.inr z)
    obtain ⟨u, r, q⟩ := hl j x v n1 es vis
    refine ⟨u, r, .inr ⟨relabel_free n3, ?_⟩⟩
    rcases q with ⟨z, _⟩ | ⟨_, a, ha, z⟩
    · rcases n2 with n2 | n2 <;> rw [n2] at z <;> cases z
    · obtain ⟨o, e, d⟩ := z
      exact ⟨a, clos_has (lookup_mem n3) ha, o, k _ _ e, d⟩
  cell := fun x a e => by
    obtain ⟨v, o, e, d⟩ := I.cell x a (clos_look e)
    exact ⟨v, o, k _ _ e, d⟩
  free := by
    show upd H D (.lst []) C = none
    rw [upd_ne hDC.symm]
    exact I.hok.fresh hC
  freeC := fun x a e => by
    obtain ⟨v, o, e', d⟩ := I.cell x a (clos_look e)
    rw [upd_ne (Nat.ne_of_lt (Nat.lt_of_lt_of_le (Heap.lt_size e') hD))]
    exact I.freeC x a (clos_look e)
  pin := fun p hp => nomatch hp
  hok := I.hok.laid k hD new
  len := by
    show (pick σ src).length = N.length
    rw [c.len, pick, List.length_map]
/-- behind the block -/
theorem Inv.unblock {pins : List (Addr × Obj)} {σ σ' : St} {H H' : Hp} {s s' : Shared} {fp : List Addr} {C : Addr} {h' : Heap} (I : Inv X pins σ H s) (hf : ∀ b ∈ fp, FpOk X pins H b) (hC : s.heap.objs.size ≤ C)
    (J : Inv (X.comp N sc C s H fp) [] σ' H' s') (hs : ∀ b, b ≠ C → h'.get? b = s'.heap.get? b) : Inv X pins σ H' { s' with heap := h' } := by
  have ne : ∀ b o, s.heap.get? b = some o → b ≠ C := fun b o e => Nat.ne_of_lt (Nat.lt_of_lt_of_le (Heap.lt_size e) hC)
  have u : Un (frs X.stack) fp H H' s.heap s'.heap := J.base
  have u' : Un (frs X.stack) fp H H' s.heap h' := ⟨fun b o e n a x => (hs b (ne b o e)).trans (u.keep b o e n a x), fun b o e n a x => by
      obtain ⟨sl, q⟩ := u.slot b o e n a x
      exact ⟨sl, (hs b (ne b o e)).trans q⟩, u.free, fun b o e x => by
      obtain ⟨o', q⟩ := u.there b o e x
      exact ⟨o', (hs b (ne b o e)).trans q⟩, u.tups, u.frzs, u.tbls⟩
  refine I.call' (s' := { s' with heap := h' }) J.os u' (fun b ob e => ?_) J.bare fun b hb => ⟨(hf b hb).2.2.2.1, (hf b hb).2.1, (hf b hb).2.2.2.2.1, (hf b hb).2.2.2.2.2⟩
  have fr : H' C = none := J.free
  refine (J.hok b ob e).stay (fun a w' ha q => (hs a ?_).trans q) (fun _ q => q) fun _ _ q => q
  rintro rfl
  rcases ha with rfl | ha
  · rw [fr] at e; cases e
  · rw [fr] at ha; cases ha
end

abbrev F0 : Value → Shared → Prop := fun _ _ => False
section
variable {prog : Program} {w : World} {A : Around} {R : Result → Shared → Prop} {s : Shared}
theorem compLoop_any {elt target iter : Expr} {ifs : List Expr} {scope : Scope} {pos : Pos} {it acc : Value} {env : Env} (I : Nat → Shared → Prop)
    (turn : ∀ n s, I n s → wpAny (model prog w) A (pyNext it) (fun r s₁ => match r with
      | none => R (.ok .next) s₁
      | some v => wpAny (model prog w) A (letOwnedTupleGo target it v) (fun _ s₁' => wpAny (model prog w) A (assign target env v) (fun _ s₂ =>
          wpAny (model prog w) A (forIn ifs true fun c r => if r = true then do let ok ← isTrue c env (eval c env); pure (ForInStep.yield ok) else pure (ForInStep.yield r)) (fun ok s₃ =>
            if ok = true then wpAny (model prog w) A (eval elt env) (fun x s₄ =>
              wpAny (model prog w) A (call (.builtin "list.append") [acc, x]) (fun _ s₅ => ∃ m, m < n ∧ I m s₅) F0 s₄) F0 s₃
            else ∃ m, m < n ∧ I m s₃) F0 s₂) F0 s₁') F0 s₁) F0 s)
    (n : Nat) (h : I n s) :
    codeAny (model prog w) A (.compLoop (.ListComp elt [⟨target, iter, ifs, 0⟩] scope pos) 0 it acc env) R s := by
  refine codeAny_loop rfl I (fun n s hI => ?_) n h
  show wpAny _ A ((compTurn (.ListComp elt [⟨target, iter, ifs, 0⟩] scope pos) 0 it acc env).onRaise (fun x => do noteFrame x env; theTreesLotGoes x)) _ _ s
  refine wpAny_noted ?_
  rw [compTurn_list]
  refine wpAny_bind (wpAny_standAt (wpAny_bind (wpAny_mono (turn n s hI) (fun r s₁ h₁ => ?_) fun _ _ h' => h'.elim)))
  cases r with
  | none => exact wpAny_pure h₁
  | some v =>
    refine wpAny_bind (wpAny_mono h₁ (fun _ s₁' h₁' => ?_) fun _ _ h' => h'.elim)
    refine wpAny_bind (wpAny_mono h₁' (fun _ s₂ h₂ => wpAny_bind (wpAny_mono h₂ (fun ok s₃ h₃ => ?_) fun _ _ h' => h'.elim)) fun _ _ h' => h'.elim)
    cases ok with
    | false => exact wpAny_pure ⟨rfl, h₃⟩
    | true =>
      exact wpAny_bind (wpAny_bind (wpAny_mono h₃ (fun x s₄ h₄ => wpAny_bind (wpAny_mono h₄ (fun _ s₅ h₅ => wpAny_pure (wpAny_pure ⟨rfl, h₅⟩)) fun _ _ h' => h'.elim)) fun _ _ h' => h'.elim))
end
/-- the tests of a clause: none, or one -/
def PF (X : Cx) (ifs : List Expr) (t : TT) : Prop :=
  ∀ (pins : List (Addr × Obj)) (s : Shared) (σ : St) (H : Hp) (Q : Bool → Hp → Prop), Inv X pins σ H s → t σ H Q →
    wpAny (model X.prog X.w) X.A (forIn ifs true fun c r => if r = true then do let ok ← isTrue c X.env (eval c X.env); pure (ForInStep.yield ok) else pure (ForInStep.yield r)) (TP X pins σ Q) X.xe s
structure JF (X : Cx) (ifs : List Expr) (t : TT) : Prop where h : PF X ifs t
def tYes : TT := fun _ H Q => Q true H
theorem fnone {X : Cx} : JF X [] tYes := ⟨fun _ _ _ H _ I h => wpAny_tests_nil ⟨H, I, h⟩⟩
theorem fone {X : Cx} {c : Expr} {t : TT} (h : JT X c t) : JF X [c] t := ⟨fun pins s σ H Q I q => wpAny_tests_one (h.h pins s σ H Q I q)⟩
/-- the loop of a comprehension, shut: D the list that is made -/
def LcLoop (J : It) (g : TG) (tt : TT) (te : TE) (D : Addr) (Q : Hp → Prop) (σ : St) (H : Hp) : Prop := ∃ W : Nat → Nat → List V → St → Hp → Prop, (∃ m, W 0 m [] σ H) ∧ ∀ i m acc σ H, W i m acc σ H →
  (J.stop i H ∧ Q H) ∨ (J.go i H ∧ ∃ N : List V → St → Hp → Prop, (∀ acc' σ' H', N acc' σ' H' → ∃ m', m' < m ∧ W (i + 1) m' acc' σ' H') ∧ ∀ x H', J.yld i H x H' → g x σ H' fun σ2 H2 => tt σ2 H2 fun b H3 =>
    if b = true then te σ2 H3 fun v H4 => H4 D = some (.lst acc) ∧ acc.length < sizeLine ∧ N (acc ++ [v]) σ2 (upd H4 D (.lst (acc ++ [v])))
    else N acc σ2 H3)
def tLc (K : PySem.W.Frag) (wi : TI) (src : List (Option Nat)) (g : TG) (tt : TT) (te : TE) : TE := fun σ H Q => wi σ H fun J H1 => ∀ D, L2.new K H1 D → LcLoop J g tt te D (fun H' => Q (.ref D) H') (pick σ src) (upd H1 D (.lst []))
section
variable {X : Cx} {sc : Scope} {N : List Str} {src : List (Option Nat)} {tg iter elt : Expr} {ifs : List Expr} {wi : TI} {g : TG} {tt : TT} {te : TE} {pos : Pos}
theorem comp_run {R : Value → Addr → Result → Shared → Prop} {E : Value → Shared → Prop} (c : Cap X sc N src) (hc : X.calm = true)
    (hg : ∀ C s H fp, JG (X.comp N sc C s H fp) tg g) (ht : ∀ C s H fp, JF (X.comp N sc C s H fp) ifs tt) (he : ∀ C s H fp, JE (X.comp N sc C s H fp) elt te)
    {pins : List (Addr × Obj)} {σ : St} {H : Hp} {s : Shared} {it : Addr} {fp : List Addr} {tn : Nat → Heap → Prop} {J : It} {Q : V → Hp → Prop} (I : Inv X pins σ H s) (T : Turn X.prog X.w X.K tg J fp it tn) (st : tn 0 s.heap) (hf : ∀ b ∈ fp, FpOk X pins H b)
    (h : ∀ D, L2.new X.K H D → LcLoop J g tt te D (fun H' => Q (.ref D) H') (pick σ src) (upd H D (.lst [])))
    (hR : ∀ D C s' σ' H', s.heap.objs.size ≤ C → Inv (X.comp N sc C s H fp) [] σ' H' s' → Q (.ref D) H' → R (.ref D) C (.ok .next) s') :
    wpAny (model X.prog X.w) X.A (newList []) (fun acc s₃ => wpAny (model X.prog X.w) X.A (newFunctionEnv sc X.env.globals (closL X.env sc.names []) [] X.env.qual none .none (some X.env)) (fun cenv s₄ =>
      codeAny (model X.prog X.w) X.A (.compStart (.ListComp elt [⟨tg, iter, ifs, 0⟩] sc pos) 0 (.ref it) acc { cenv with scope := relabel sc X.env }) (R acc cenv.locals) s₄) E s₃) E s := by
  refine wpAny_newObj_type (wpAny_newFunctionEnv c.cell (by intro y hy; simp at hy) (fun h₁ hns₁ hsb₁ => ?_) c.kind)
  dsimp only at hns₁ hsb₁ ⊢
  generalize hH2 : s.heap.push { cls := .type "list", dict := none, data := .seq ([] : List Value).toArray } = H2 at hns₁ hsb₁ ⊢
  have hC : H2.objs.size = s.heap.objs.size + 1 := by rw [← hH2, Heap.size_push]
  have hDC : s.heap.objs.size ≠ H2.objs.size := by rw [hC]; exact Nat.ne_of_lt (Nat.lt_succ_self _)
  have hCle : s.heap.objs.size ≤ H2.objs.size := by rw [hC]; exact Nat.le_succ _
  have below : ∀ b, b < s.heap.objs.size → b ≠ H2.objs.size := fun b hb => by rw [hC]; exact Nat.ne_of_lt (Nat.lt_succ_of_lt hb)
  have old : ∀ b o, s.heap.get? b = some o → h₁.get? b = some o := fun b o e => hsb₁.extBut b o (below b (Heap.lt_size e)) (Heap.get?_push_of_some _ (hH2 ▸ Heap.get?_push_of_some _ e))
  have hacc : h₁.get? s.heap.objs.size = some { cls := .type "list", dict := none, data := .seq ([] : List Value).toArray } := hsb₁.extBut _ _ hDC (Heap.get?_push_of_some _ (hH2 ▸ Heap.get?_push_size _ rfl))
  have ho : ∀ b ∈ fp, ∃ o, s.heap.get? b = some o := fun b hb => let ⟨o, e, _⟩ := T.obj _ _ st b hb; ⟨o, e⟩
  have I0 := I.block (t' := s.toks + ([] : List (Str × Value)).length) c hf ho (Nat.le_refl _) hCle hDC old hns₁ ⟨Nat.zero_le _, [], 0, .nil, hacc⟩
  have st0 : tn 0 h₁ := T.keep _ _ _ st fun b hb o e => old b o e
  obtain ⟨W, ⟨m0, w0⟩, turn⟩ := h _ I.new
  have stat : ∀ {H' : Hp}, (∀ b ∈ fp, H' b = none) → ∀ b ∈ fp, FpOk (X.comp N sc H2.objs.size s H fp) [] H' b := fun hn b hb => by
    obtain ⟨f0, f1, f2, f3, f4, f5⟩ := hf b hb
    obtain ⟨o, e⟩ := ho b hb
    refine ⟨hn b hb, below b (Heap.lt_size e), fun z => ?_, .inl hb, fun x a q => f4 x a (clos_look q), fun p hp => nomatch hp⟩
    rcases List.mem_cons.mp (I.stkSub b z) with q | q
    · exact f1 q
    · exact f2 q
  have fr0 : ∀ b ∈ fp, (upd H s.heap.objs.size (.lst [])) b = none := fun b hb => by
    obtain ⟨o, e⟩ := ho b hb
    rw [upd_ne (Nat.ne_of_lt (Heap.lt_size e))]
    exact (hf b hb).1
  have loop : ∀ s₃ : Shared, s₃ = { s with heap := h₁, toks := s.toks + ([] : List (Str × Value)).length } →
      codeAny (model X.prog X.w) X.A (.compLoop (.ListComp elt [⟨tg, iter, ifs, 0⟩] sc pos) 0 (.ref it) (.ref s.heap.objs.size) (compEnvC sc (closL X.env sc.names []) H2.objs.size X.env)) (R (.ref s.heap.objs.size) H2.objs.size) s₃ := by
    rintro s₃ rfl
    refine compLoop_any (fun n s' => ∃ i acc σ' H', Inv (X.comp N sc H2.objs.size s H fp) [] σ' H' s' ∧ tn i s'.heap ∧ (∀ b ∈ fp, H' b = none) ∧ W i n acc σ' H') ?_ m0 ⟨0, _, _, _, I0, st0, fr0, w0⟩
    rintro n s3 ⟨i, acc, σ3, H3, I3, st3, fr3, w3⟩
    rcases turn i n acc σ3 H3 w3 with ⟨stop, qn⟩ | ⟨go, NN, hNN, step⟩
    · refine thn (T.done (X.comp N sc H2.objs.size s H fp) rfl rfl rfl hc i [] s3 σ3 H3 F0 I3 (stat fr3) st3 stop) fun r s4 ⟨hr, I4⟩ => ?_
      subst hr
      exact hR _ _ _ _ _ hCle I4 qn
    · refine thn (T.item (X.comp N sc H2.objs.size s H fp) rfl rfl rfl hc i [] s3 σ3 H3 F0 I3 (stat fr3) st3 go) fun r s4 ⟨u, hr, h4⟩ => ?_
      subst hr
      refine thn h4 fun _ s5 ⟨x, H5, I5, r5, y5, st5, fr5⟩ => ?_
      have I5' := I5.pinned (stat fr5) (T.obj _ _ st5)
      refine thn ((hg _ _ _ _).h _ s5 σ3 H5 x u _ I5' r5 (step x H5 y5)) fun _ s6 ⟨σ6, H6, I6, q6⟩ => ?_
      refine thn ((ht _ _ _ _).h _ s6 σ6 H6 _ I6 q6) fun b s7 ⟨H7, I7, q7⟩ => ?_
      have again : ∀ {acc8 : List V} {s8 : Shared} {H8 : Hp}, Inv (X.comp N sc H2.objs.size s H fp) ([] ++ pinsAt fp s5.heap) σ6 H8 s8 → NN acc8 σ6 H8 → ∃ m, m < n ∧ ∃ i acc σ' H', Inv (X.comp N sc H2.objs.size s H fp) [] σ' H' s8 ∧ tn i s8.heap ∧ (∀ b ∈ fp, H' b = none) ∧ W i m acc σ' H' := fun {acc8 s8 H8} I8 w => by
        obtain ⟨m', hm, w8⟩ := hNN _ _ _ w
        refine ⟨m', hm, i + 1, acc8, σ6, H8, I8.unpinned, T.keep _ _ _ st5 fun b hb o e => (I8.pin (b, o) (List.mem_append_right _ (List.mem_append_right _ (mem_pinsAt hb e)))).1, fun b hb => ?_, w8⟩
        obtain ⟨o, e, d⟩ := T.obj _ _ st5 b hb
        exact (I8.pin (b, o) (List.mem_append_right _ (List.mem_append_right _ (mem_pinsAt hb e)))).2.1
      cases b with
      | false => exact again I7 q7
      | true =>
        refine thn ((he _ _ _ _).h _ s7 σ6 H7 _ I7 q7) fun y s8 ⟨v, H8, I8, r8, q8⟩ => ?_
        obtain ⟨hx, hz, w8⟩ := q8
        refine thn (mt_append (X := X.comp N sc H2.objs.size s H fp) _ s8 σ6 H8 (.ref s.heap.objs.size) [v] (.ref s.heap.objs.size) [y] (fun _ H9 => H9 = upd H8 s.heap.objs.size (.lst (acc ++ [v]))) I8 rfl (.cons r8 .nil) ⟨_, acc, v, rfl, rfl, hx, hz, rfl⟩) fun _ s9 ⟨_, H9, I9, _, q9⟩ => ?_
        subst q9
        exact again I9 w8
  exact codeAny_compStart_list (loop _ rfl) (T.self _ 0 _ _ _ st0 (loop _ rfl))
theorem elc (c : Cap X sc N src) (hc : X.calm = true) (hi : JI X tg iter wi)
    (hg : ∀ C s H fp, JG (X.comp N sc C s H fp) tg g) (ht : ∀ C s H fp, JF (X.comp N sc C s H fp) ifs tt) (he : ∀ C s H fp, JE (X.comp N sc C s H fp) elt te)
    (hs : ∀ x, foldedSetIterable iter X.env x = pure x := by intro _; rfl) : JE X (.ListComp elt [⟨tg, iter, ifs, 0⟩] sc pos) (tLc X.K wi src g tt te) := ⟨by
  intro pins s σ H Q I h
  rw [eval_ListComp]
  refine wpAny_comprehension_free (use := none) rfl hs (closureFor_eq fun x hx hk => ?_) c.kind c.names ?_
  · obtain ⟨n, k⟩ := x
    cases hk
    exact I.ok.has _ (c.free hx)
  refine thn (hi.h pins s σ H _ I h) fun v s1 h1 => thn h1 fun itv s2 h2 => ?_
  obtain ⟨it, fp, tn, J, H2, e, I2, T, st2, f2, h2⟩ := h2
  subst e
  refine comp_run (R := fun acc C => compPost (model X.prog X.w) X.A X.xe none (EP X pins σ Q) acc C) (Q := Q) c hc hg ht he I2 T st2 f2 h2 fun D C s' σ' H' hC I' q => ?_
  obtain ⟨m, hn, _⟩ := id I'.loc
  refine ⟨m, hn, fun h' sb => ?_⟩
  exact ⟨.ref D, H', I2.unblock f2 hC I' fun b hb => sb.2 b hb, rfl, q⟩⟩
theorem slc {i : Nat} {y : Str} {py spos : Pos} (hN : X.N.Nodup) (hy : X.N[i]? = some y) (hx : Loc X.env.scope y) (c : Cap X sc N src) (hc : X.calm = true) (hi : JI X tg iter wi)
    (hg : ∀ C s H fp, JG (X.comp N sc C s H fp) tg g) (ht : ∀ C s H fp, JF (X.comp N sc C s H fp) ifs tt) (he : ∀ C s H fp, JE (X.comp N sc C s H fp) elt te)
    (hsw : swapsWith (.ListComp elt [⟨tg, iter, ifs, 0⟩] sc pos) (some (.Name y py)) spos.line X.env = pure true := by rfl)
    (hf : X.fn y = true ∨ X.env.scope.names.lookup y = some .local := by first | exact .inl rfl | exact .inr rfl | assumption)
    (hs : ∀ x, foldedSetIterable iter X.env x = pure x := by intro _; rfl) : JS X (.Assign [.Name y py] (.ListComp elt [⟨tg, iter, ifs, 0⟩] sc pos) spos) (tAsg (tLc X.K wi src g tt te) (gName i)) := ⟨by
  intro pins s σ H D I h
  rw [exec_Assign_Name_used _ _ _ _ hsw]
  refine wpAny_bind (wpAny_standAt (wpAny_bind ?_))
  show wpAny _ X.A (do let _ ← comprehension (.ListComp elt [⟨tg, iter, ifs, 0⟩] sc pos) sc X.env _ (newList []) false (eval iter X.env) (some (assign (.Name y py) X.env))) _ _ s
  refine wpAny_bind (wpAny_mono (wpAny_comprehension_free (use := some (assign (.Name y py) X.env)) (Q := fun _ s' => SP X pins D .next s') rfl hs (closureFor_eq fun x hx hk => ?_) c.kind c.names ?_) (fun _ s' hq => wpAny_pure (wpAny_pure hq)) fun _ _ e => e)
  · obtain ⟨n, k⟩ := x
    cases hk
    exact I.ok.has _ (c.free hx)
  refine thn (hi.h pins s σ H _ I h) fun v s1 h1 => thn h1 fun itv s2 h2 => ?_
  obtain ⟨it, fp, tn, J, H2, e, I2, T, st2, f2, h2⟩ := h2
  subst e
  refine comp_run (R := fun acc C => compPost (model X.prog X.w) X.A X.xe (some (assign (.Name y py) X.env)) (fun _ s' => SP X pins D .next s') acc C) (Q := fun v H' => D.nx (σ.set i (some v)) H') c hc hg ht he I2 T st2 f2 h2 fun L C s' σ' H' hC I' q => ?_
  obtain ⟨m, hn, _⟩ := id I'.loc
  obtain ⟨o, es, ep, ho, r⟩ := id hn
  have I3 : Inv X pins σ H' s' := I2.unblock (h' := s'.heap) f2 hC I' fun _ _ => rfl
  have cL : C ≠ X.env.locals := Nat.ne_of_gt (Nat.lt_of_lt_of_le I2.lt hC)
  have cC : ∀ x a, X.env.cells.lookup x = some a → a ≠ C := fun x a e => by
    obtain ⟨v, o, e', _⟩ := I2.cell x a e
    exact Nat.ne_of_lt (Nat.lt_of_lt_of_le (Heap.lt_size e') hC)
  have cP : ∀ p ∈ X.pn ++ pins, p.1 ≠ C := fun p hp => Nat.ne_of_lt (Nat.lt_of_lt_of_le (Heap.lt_size (I2.pin p hp).1) hC)
  have fr : H' C = none := I'.free
  have I4 : Inv X (pins ++ [(C, o)]) σ H' s' := I3.pins_of fun p hp => (List.mem_append.mp hp).elim (fun z => I3.pin p (List.mem_append_right _ z)) fun z => by
    have e : p = (C, o) := by simpa using z
    subst e
    exact ⟨ho, fr, cL, I2.nofs hC, fun v z => by
      have r1 := r
      simp_all⟩
  show wpAny (model X.prog X.w) X.A (assign (.Name y py) X.env (.ref L)) _ _ s'
  refine thn (pg_name (pos := py) hN hy hx hf _ s' σ H' (.ref L) (.ref L) (fun σ1 H1 => D.nx σ1 H1 ∧ H1 = H') I4 rfl ⟨q, rfl⟩) fun _ s5 ⟨σ5, H5, I5, q5, e5⟩ => ?_
  subst e5
  have pC := (I5.pin (C, o) (List.mem_append_right _ (List.mem_append_right _ (by simp)))).1
  refine ⟨m, ⟨o, es, ep, pC, r⟩, fun h' sb => ?_⟩
  exact ⟨σ5, H5, I5.unpinned.turned (t' := s5.toks) (fun b u hb e => (sb.2 b hb).trans e) fr cL (.inr (Nat.le_trans I2.sz hC)) cC cP, q5⟩⟩
end
end L2
namespace L2
open PySem PySem.Spec PyProof.Rows
theorem pick_nil {σ : St} : pick σ [] = [] := rfl
theorem pick_own {σ : St} {r : List (Option Nat)} : pick σ (none :: r) = none :: pick σ r := rfl
theorem pick_cap {σ : St} {j : Nat} {r : List (Option Nat)} : pick σ (some j :: r) = (σ[j]?).join :: pick σ r := rfl
theorem join_some {α : Type} {o : Option α} : (some o).join = o := rfl
section
variable {K : PySem.W.Frag} {g : TG} {tt : TT} {te : TE} {D a : Addr} {Q : Hp → Prop} {σ : St} {H : Hp} {xs : List V} {lo : Int} {n : Nat}
theorem lc_run {J : It} (Pv : Nat → List V → St → Hp → Prop) (h0 : Pv 0 [] σ H) (hgo : ∀ i acc σ H, i < n → Pv i acc σ H → J.go i H) (hst : ∀ acc σ H, Pv n acc σ H → J.stop n H)
    (hs : ∀ i acc σ H x H', i < n → Pv i acc σ H → J.yld i H x H' → g x σ H' fun σ2 H2 => tt σ2 H2 fun b H3 => if b = true then te σ2 H3 fun v H4 => H4 D = some (.lst acc) ∧ acc.length < sizeLine ∧ Pv (i + 1) (acc ++ [v]) σ2 (upd H4 D (.lst (acc ++ [v]))) else Pv (i + 1) acc σ2 H3)
    (hd : ∀ acc σ H, Pv n acc σ H → Q H) : LcLoop J g tt te D Q σ H := by
  refine ⟨fun i m acc σ H => Pv i acc σ H ∧ i ≤ n ∧ m = n - i, ⟨n, h0, Nat.zero_le _, by omega⟩, fun i m acc σ H ⟨h, hi, hm⟩ => ?_⟩
  by_cases c : i < n
  · right
    exact ⟨hgo i acc σ H c h, Pv (i + 1), fun acc' σ' H' q => ⟨n - (i + 1), by omega, q, by omega, rfl⟩, fun x H' hy => hs i acc σ H x H' c h hy⟩
  · left
    have e : i = n := by omega
    subst e
    exact ⟨hst acc σ H h, hd acc σ H h⟩
theorem lc_range (Pv : Nat → List V → St → Hp → Prop) (h0 : Pv 0 [] σ H)
    (hs : ∀ i acc σ H, i < n → Pv i acc σ H → g (.int (lo + i)) σ H fun σ2 H2 => tt σ2 H2 fun b H3 => if b = true then te σ2 H3 fun v H4 => H4 D = some (.lst acc) ∧ acc.length < sizeLine ∧ Pv (i + 1) (acc ++ [v]) σ2 (upd H4 D (.lst (acc ++ [v]))) else Pv (i + 1) acc σ2 H3)
    (hd : ∀ acc σ H, Pv n acc σ H → Q H) : LcLoop (Itr lo n) g tt te D Q σ H := by
  refine lc_run (n := n) Pv h0 (fun i _ _ _ h _ => h) (fun _ _ _ _ => Nat.le_refl _) (fun i acc σ H x H' hi h hy => ?_) hd
  obtain ⟨rfl, rfl⟩ := hy
  exact hs i acc σ _ hi h
theorem lc_list (Pv : Nat → List V → St → Hp → Prop) (h0 : Pv 0 [] σ H) (hl : ∀ i acc σ H, i ≤ xs.length → Pv i acc σ H → SqL K H a xs)
    (hs : ∀ i x acc σ H, xs[i]? = some x → Pv i acc σ H → g x σ H fun σ2 H2 => tt σ2 H2 fun b H3 => if b = true then te σ2 H3 fun v H4 => H4 D = some (.lst acc) ∧ acc.length < sizeLine ∧ Pv (i + 1) (acc ++ [v]) σ2 (upd H4 D (.lst (acc ++ [v]))) else Pv (i + 1) acc σ2 H3)
    (hd : ∀ acc σ H, Pv xs.length acc σ H → Q H) : LcLoop (Itl K a) g tt te D Q σ H := by
  refine lc_run (n := xs.length) Pv h0 (fun i acc σ H hi h => ⟨xs, _, hl i acc σ H (Nat.le_of_lt hi) h, List.getElem?_eq_getElem hi⟩) (fun acc σ H h => ⟨xs, hl _ acc σ H (Nat.le_refl _) h, Nat.le_refl _⟩) (fun i acc σ H x H' hi h hy => ?_) hd
  obtain ⟨rfl, hy⟩ := hy
  exact hs i x acc σ _ (hy xs (hl i acc σ _ (Nat.le_of_lt hi) h)) h
theorem lc_tup (Pv : Nat → List V → St → Hp → Prop) (h0 : Pv 0 [] σ H) (hl : ∀ i acc σ H, i ≤ xs.length → Pv i acc σ H → SqT K H a xs)
    (hs : ∀ i x acc σ H, xs[i]? = some x → Pv i acc σ H → g x σ H fun σ2 H2 => tt σ2 H2 fun b H3 => if b = true then te σ2 H3 fun v H4 => H4 D = some (.lst acc) ∧ acc.length < sizeLine ∧ Pv (i + 1) (acc ++ [v]) σ2 (upd H4 D (.lst (acc ++ [v]))) else Pv (i + 1) acc σ2 H3)
    (hd : ∀ acc σ H, Pv xs.length acc σ H → Q H) : LcLoop (Itt K a) g tt te D Q σ H := by
  refine lc_run (n := xs.length) Pv h0 (fun i acc σ H hi h => ⟨xs, _, hl i acc σ H (Nat.le_of_lt hi) h, List.getElem?_eq_getElem hi⟩) (fun acc σ H h => ⟨xs, hl _ acc σ H (Nat.le_refl _) h, Nat.le_refl _⟩) (fun i acc σ H x H' hi h hy => ?_) hd
  obtain ⟨rfl, hy⟩ := hy
  exact hs i x acc σ _ (hy xs (hl i acc σ _ (Nat.le_of_lt hi) h)) h
/-- what a comprehension walks, its loop shut -/
theorem tLc_rng1 {ta : TA} {src : List (Option Nat)} {Q : VK} : tLc K (iRng1 ta) src g tt te σ H Q = ta σ H (fun vs H1 => ∃ j : Int, vs = [.int j] ∧ -(2 ^ 62) ≤ j ∧ j < 2 ^ 62 ∧ ∀ D, L2.new K H1 D → LcLoop (Itr 0 j.toNat) g tt te D (fun H' => Q (.ref D) H') (pick σ src) (upd H1 D (.lst []))) := rfl
theorem tLc_rng2 {ta : TA} {src : List (Option Nat)} {Q : VK} : tLc K (iRng2 ta) src g tt te σ H Q = ta σ H (fun vs H1 => ∃ i j : Int, vs = [.int i, .int j] ∧ (-(2 ^ 62) ≤ i ∧ i < 2 ^ 62 ∧ -(2 ^ 62) ≤ j ∧ j < 2 ^ 62) ∧ ∀ D, L2.new K H1 D → LcLoop (Itr i (j - i).toNat) g tt te D (fun H' => Q (.ref D) H') (pick σ src) (upd H1 D (.lst []))) := rfl
theorem tLc_list {tl : TE} {src : List (Option Nat)} {Q : VK} : tLc K (iList K tl) src g tt te σ H Q = tl σ H (fun x H1 => ∃ a, x = .ref a ∧ (∃ xs, SqL K H1 a xs) ∧ ∀ D, L2.new K H1 D → LcLoop (Itl K a) g tt te D (fun H' => Q (.ref D) H') (pick σ src) (upd H1 D (.lst []))) := rfl
theorem tLc_tup {tl : TE} {src : List (Option Nat)} {Q : VK} : tLc K (iTup K tl) src g tt te σ H Q = tl σ H (fun x H1 => ∃ a, x = .ref a ∧ (∃ xs, SqT K H1 a xs) ∧ ∀ D, L2.new K H1 D → LcLoop (Itt K a) g tt te D (fun H' => Q (.ref D) H') (pick σ src) (upd H1 D (.lst []))) := rfl
end
end L2
namespace L2
open PySem PySem.Spec PyProof.Rows
/-! ### the rules with the module's objects told by name, for use within a block -/
section
variable {X : Cx} {es : List Expr} {t : TA} {pos : Pos} (K : PySem.W.Frag)
theorem ix_QK (hk : X.K = K := by rfl) : IxR X (rIxQ K) := by subst hk; exact ix_Q
theorem call_lenQK (hk : X.K = K := by rfl) : CallR X (.builtin "len") (fun xs H Q => ∃ p ys, xs = [.ref p] ∧ seqQ K H p = some ys ∧ Q (.int ys.length) H) := by subst hk; exact call_lenQ
theorem call_isinstQK (hk : X.K = K := by rfl) : CallR X (.builtin "isinstance") (fun xs H Q => ∃ x n t b, xs = [x, .ty n] ∧ TyQ K H x t ∧ PySem.W.kitOne K t (.type n) = some b ∧ Q (.bl b) H) := by subst hk; exact call_isinstQ
theorem etupQK {k} (h : JA X es t) (hk : X.K = K := by rfl) : JE X (.Tuple es k pos) (tTupQ K t) := by subst hk; exact etupQ h
theorem elstQK (h : JA X es t) (hk : X.K = K := by rfl) : JE X (.List es pos) (tLstQ K t) := by subst hk; exact elstQ h
theorem op_catQK (hk : X.K = K := by rfl) : OpR X (binaryOp .Add) (rCatQ K) := by subst hk; exact op_catQ
theorem sl_listQK (hk : X.K = K := by rfl) : SlR X (rSlQ K) := by subst hk; exact sl_listQ
theorem op_inQK (hk : X.K = K := by rfl) : OpR X (compareOp .In) (rInQ K false) := by subst hk; exact op_inQ
theorem op_notInQK (hk : X.K = K := by rfl) : OpR X (compareOp .NotIn) (rInQ K true) := by subst hk; exact op_notInQ
theorem op_eqDK (hu : X.A.units + 64 < cLine) (hk : X.K = K := by rfl) : OpR X (compareOp .Eq) (rEqD K false) := by subst hk; exact op_eqD hu
theorem op_neDK (hu : X.A.units + 64 < cLine) (hk : X.K = K := by rfl) : OpR X (compareOp .NotEq) (rEqD K true) := by subst hk; exact op_neD hu
theorem gtupQK {k : Nat} {t : TGs} {n : Nat} (hc : X.calm = true) (h : JGs X es t) (hn : (assignEach es X.env).length = n := by rfl) (hst : (assignEach es X.env).findIdx? (·.1) = none := by rfl) (hk : X.K = K := by rfl) : JG X (.Tuple es k pos) (gTupQ K n t) := by subst hk; exact gtupQ hc h hn hst
theorem ilistK {tg l : Expr} {te : TE} (hl : JE X l te) (hk : X.K = K := by rfl) : JI X tg l (iList K te) := by subst hk; exact ilist hl
theorem itupK {tg l : Expr} {te : TE} (hl : JE X l te) (hk : X.K = K := by rfl) : JI X tg l (iTup K te) := by subst hk; exact itup hl
theorem elcK {sc : Scope} {N : List Str} {src : List (Option Nat)} {tg iter elt : Expr} {ifs : List Expr} {wi : TI} {g : TG} {tt : TT} {te : TE} (c : Cap X sc N src) (hc : X.calm = true) (hi : JI X tg iter wi)
    (hg : ∀ C s H fp, JG (X.comp N sc C s H fp) tg g) (ht : ∀ C s H fp, JF (X.comp N sc C s H fp) ifs tt) (he : ∀ C s H fp, JE (X.comp N sc C s H fp) elt te)
    (hs : ∀ x, foldedSetIterable iter X.env x = pure x := by intro _; rfl) (hk : X.K = K := by rfl) : JE X (.ListComp elt [⟨tg, iter, ifs, 0⟩] sc pos) (tLc K wi src g tt te) := by subst hk; exact elc c hc hi hg ht he hs
theorem ttruthK {a : Expr} {ta : TE} (ha : JE X a ta) (he : ∀ whole, isTrue a X.env whole = (do let v ← whole; standAt a.pos; holding [v] (truthy v))) (hk : X.K = K := by rfl) :
    JT X a (fun σ H Q => ta σ H fun x H' => ∃ k, TruV K x H' k ∧ Q k H') := by subst hk; exact ttruth ha he
end
end L2
namespace L2
open PySem PySem.Spec PyProof.Rows
section
variable {X : Cx} {pins : List (Addr × Obj)} {σ : St} {H : Hp} {s : Shared}
/-- what is tracked is no object of the module -/
theorem Inv.notMod (I : Inv X pins σ H s) {a : Addr} {o : HO} (h : H a = some o) : kTup X.K a = none := by
  cases e : kTup X.K a with
  | none => rfl
  | some xs =>
    obtain ⟨ob, q⟩ := kTup_look e
    rw [(I.bs a ob (I.ok.mod.kin a ob q)).2] at h
    cases h
theorem call_list_ofQ : CallR X (.type "list") (fun xs H Q => ∃ p ys, xs = [.ref p] ∧ seqQ X.K H p = some ys ∧ ∀ l, L2.new X.K H l → Q (.ref l) (upd H l (.lst ys))) := by
  intro pins s σ H xs us Q I r h
  obtain ⟨p, ys, e, hq, q⟩ := h
  refine thn (call_list_of pins s σ H xs us (fun v H' => ∃ l, H l = none ∧ v = .ref l ∧ H' = upd H l (.lst ys)) I r ⟨p, ys, e, seqQ_sq hq, fun l hl => ⟨l, hl, rfl, rfl⟩⟩) fun u s' ⟨v, H', I', rv, l, hl, e1, e2⟩ => ?_
  subst e1 e2
  exact ⟨_, _, I', rv, q l ⟨hl, I'.notMod upd_same⟩⟩
theorem call_list_ofQK (K : PySem.W.Frag) (hk : X.K = K := by rfl) : CallR X (.type "list") (fun xs H Q => ∃ p ys, xs = [.ref p] ∧ seqQ K H p = some ys ∧ ∀ l, L2.new K H l → Q (.ref l) (upd H l (.lst ys))) := by subst hk; exact call_list_ofQ
end
theorem Kp2.kp {K : PySem.W.Frag} {p D : Addr} {H H' : Hp} {o : HO} (k : Kp2 K p D (upd H D o) H') (n : L2.new K H D) : Kp K p H H' := by
  refine ⟨fun q u e m => ?_, fun b ys e m => k.mod b ys ((Ext.new n).mod b ys e m) m⟩
  have d : q ≠ D := ne_of_none e n.1
  exact k.keep q u (by rw [upd_ne d]; exact e) m d
theorem Kp2.refl {K : PySem.W.Frag} {p D : Addr} {H : Hp} : Kp2 K p D H H := ⟨fun _ _ h _ _ => h, fun _ _ h _ => h⟩
end L2

set_option Elab.async false
set_option linter.all false
set_option maxRecDepth 100000
/-! keywords at calls, defaults -/
namespace L2
open PySem PySem.Spec PyProof.Rows
def strKeysB (es : Array DictEntry) : Bool := es.toList.all fun e => match e.key with | .str _ _ => true | _ => false
theorem strKeys_of {es : Array DictEntry} (h : strKeysB es = true) : StrKeys es := fun e he => by
  have q := List.all_eq_true.mp h e (by simpa using he)
  cases k : e.key <;> rw [k] at q <;> first | exact ⟨_, _, rfl⟩ | cases q
theorem binds_kw {K : PySem.W.Frag} {s : Shared} {fd : FuncData} {args : Args} {binds : List (Str × Value)} {d : Addr} {name : Str} {v cls : Value} {es : Array DictEntry} {ep : Nat} {od : Option Addr} {sl : Array (Option Value)} {k : Option Value → Sem (List (Str × Value))}
    (hK : K.In s.heap) (l : K.lookup d = some ⟨cls, od, .dict es ep, sl⟩) (hs : strKeysB es = true) (hf : nsFind es name = some v) (h₁ : bindArgs fd args = nsGet d name >>= k) (h₂ : k (some v) = pure binds) : BindsTo s fd args binds :=
  fun M A E Q hq => by
    rw [h₁]
    have hn : s.heap.Ns d (fun n => nsFind es n) := ⟨_, es, ep, hK d _ l, rfl, strKeys_of hs, fun _ => rfl⟩
    refine wpAny_bind (wpAny_nsGet hn ?_)
    rw [hf, h₂]
    exact wpAny_pure hq
/-- n values by place, m by name, in order -/
def gk {α : Type} (n m : Nat) (us ws : List α) : List α := if us.length = n ∧ ws.length = m then us ++ ws else []
theorem gk_rel {n m : Nat} {vs : List V} {us : List Value} {zs : List V} {ws : List Value} (r : Vals vs us) (r' : Vals zs ws) : Vals (gk n m vs zs) (gk n m us ws) := by
  unfold gk
  rw [r.length, r'.length]
  split
  · exact r.append r'
  · exact .nil
theorem gk_11 {α : Type} {a b : α} : gk 1 1 [a] [b] = [a, b] := rfl
theorem gk_31 {α : Type} {a b c d : α} : gk 3 1 [a, b, c] [d] = [a, b, c, d] := rfl
theorem kbinds {K : PySem.W.Frag} {fd : FuncData} {ps ks : List Str} {n m : Nat} (hn : ps.length = n + m) (hp : 0 < n + m) (h : ∀ (s : Shared) (us ws : List Value), us.length = n → ws.length = m → BindsTo s fd ⟨us, ks.zip ws⟩ (ps.zip (us ++ ws))) : KBinds K fd ps ks (gk n m) (gk n m) where
  to := fun s us ws _ hl => by
    unfold gk at hl ⊢
    split
    · next c => exact h s us ws c.1 c.2
    · next c => rw [if_neg c] at hl; simp only [List.length_nil] at hl; omega
  rel := gk_rel
structure JK (X : Cx) (kws : List Keyword) (t : TA) : Prop where h : PK X kws t
/-- a def called with keywords -/
structure CalleeK (P : Program) (w : World) (K : PySem.W.Frag) (mg : Str → Option Value) (base : Heap) (x : Str) (k : Nat) (ps : List Str) (ks : List Str) (n m : Nat) (sp : Sp) : Prop where
  ex : ∃ (f : Addr) (fd : FuncData), FnOk P w K mg base CX0 k f fd ps sp ∧ KBinds K fd ps ks (gk n m) (gk n m) ∧ PySem.W.keepIn K (.ref f) = true ∧ mg x = some (.ref f)
/-- a def called with its last parameters left to their defaults -/
structure CalleeD (P : Program) (w : World) (K : PySem.W.Frag) (mg : Str → Option Value) (base : Heap) (x : Str) (k : Nat) (ps : List Str) (dvs : List V) (sp : Sp) : Prop where
  ex : ∃ (f : Addr) (fd : FuncData) (ds : List Value), FnOk P w K mg base CX0 k f fd ps sp ∧ Binds K fd ps ds ∧ Vals dvs ds ∧ PySem.W.keepIn K (.ref f) = true ∧ mg x = some (.ref f)
section
variable {X : Cx} {x : Str} {k n m : Nat} {ps ks : List Str} {dvs : List V} {sp : Sp} {e : Expr} {es : List Expr} {kws : List Keyword} {t tk : TA} {te : TE} {p pos kpos : Pos} {nm : Option Str}
theorem knil : JK X [] tNil := ⟨pk_nil⟩
theorem kcons (ha : JE X e te) (hr : JK X kws t) : JK X (⟨nm, e, kpos⟩ :: kws) (tCons te t) := ⟨pk_cons ha.h hr.h⟩
theorem ecallK (C : CalleeK X.prog X.w X.K X.mg X.base x k ps ks n m sp) (hr : Room k X.A) (hg : Gl X x) (ha : JA X (e :: es) t) (hkw : JK X kws tk) (hall : (backToKw pos (keywordEach kws X.env)).all (·.1.isSome) = true := by rfl) (hks : (backToKw pos (keywordEach kws X.env)).filterMap (·.1) = ks := by rfl)
    (hdb : (x == ("__debug__" : Str)) = false := by decide) (he : starEach (e :: es) X.env = (false, eval e X.env) :: starEach es X.env := by rfl)
    (hpl : ((backTo pos (starEach (e :: es) X.env)).any (·.1) || (backToKw pos (keywordEach kws X.env)).any (·.1.isNone)) = false := by rfl) :
    JE X (.Call (.Name x p) (e :: es) kws pos) (tCallK sp (gk n m) E0 t tk) := ⟨by
  intro pins s σ H Q I h
  obtain ⟨f, fd, F, b, kp, mm⟩ := C.ex
  exact pe_callK F hr hg mm kp b pass0 ha.h hkw.h hall hks hdb he hpl pins s σ H Q I h⟩
theorem ecallD (C : CalleeD X.prog X.w X.K X.mg X.base x k ps dvs sp) (hr : Room k X.A) (hg : Gl X x) (ha : JA X (e :: es) t)
    (hdb : (x == ("__debug__" : Str)) = false := by decide) (he : starEach (e :: es) X.env = (false, eval e X.env) :: starEach es X.env := by rfl) (hpl : (backTo pos (starEach es X.env)).any (·.1) = false := by rfl) :
    JE X (.Call (.Name x p) (e :: es) [] pos) (tCall sp dvs E0 t) := ⟨by
  intro pins s σ H Q I h
  obtain ⟨f, fd, ds, F, b, vd, kp, mm⟩ := C.ex
  exact pe_call F hr hg mm kp b vd pass0 ha.h hdb he hpl pins s σ H Q I h⟩
theorem tCallKC {gV : List V → List V → List V} {E : XK} {σ : St} {H : Hp} {Q : VK} : tCallK sp gV E t tk σ H Q = t σ H (fun vs H1 => tk σ H1 fun zs H2 => Cal sp (gV vs zs) H2 Q ⟨0⟩ E) := rfl
end
end L2
namespace L2
open PySem PySem.Spec PyProof.Rows
theorem atI_lastE {α : Type} {xs : List α} (h : xs.length - 1 < xs.length) : atI xs (-1) = some xs[xs.length - 1] := by
  unfold atI ixN
  rw [if_neg (by decide), if_pos (by omega)]
  have e : ((-1 : Int) + (xs.length : Int)).toNat = xs.length - 1 := by omega
  rw [e]
  exact List.getElem?_eq_getElem h
end L2
namespace L2
open PySem PySem.Spec PyProof.Rows
section
variable {K : PySem.W.Frag} {s : Shared} {fd : FuncData} {args : Args} {binds : List (Str × Value)} {d : Addr} {name : Str} {v cls : Value} {es : Array DictEntry} {ep : Nat} {od : Option Addr} {sl : Array (Option Value)} {α β : Type}
theorem binds_kw2 {f : Option Value → Sem α} {g : α → Sem (List (Str × Value))}
    (hK : K.In s.heap) (l : K.lookup d = some ⟨cls, od, .dict es ep, sl⟩) (hs : strKeysB es = true) (hf : nsFind es name = some v) (h₁ : bindArgs fd args = (nsGet d name >>= f) >>= g) (h₂ : (f (some v) >>= g) = pure binds) : BindsTo s fd args binds :=
  binds_kw (k := fun x => f x >>= g) hK l hs hf (by rw [h₁, bind_assoc]) h₂
theorem binds_kw3 {f : Option Value → Sem α} {g : α → Sem β} {k : β → Sem (List (Str × Value))}
    (hK : K.In s.heap) (l : K.lookup d = some ⟨cls, od, .dict es ep, sl⟩) (hs : strKeysB es = true) (hf : nsFind es name = some v) (h₁ : bindArgs fd args = ((nsGet d name >>= f) >>= g) >>= k) (h₂ : ((f (some v) >>= g) >>= k) = pure binds) : BindsTo s fd args binds :=
  binds_kw2 (f := f) (g := fun x => g x >>= k) hK l hs hf (by rw [h₁, bind_assoc]) (by rw [← h₂, bind_assoc])
end
end L2

set_option Elab.async false
set_option linter.all false
set_option maxRecDepth 100000
/-! xs[i:j] = .., xs[::-1], xs + ys of any list that is read -/
namespace L2
open PySem PySem.Spec PyProof.Rows
section
variable {X : Cx} {o lo hi e : Expr} {to tl th te : TE} {p pos : Pos}
def gSlice (to tl th : TE) : TG := fun v σ H Q => to σ H fun x H1 => tl σ H1 fun i H2 => th σ H2 fun j H3 => ∃ l b xs ys a c, x = .ref l ∧ v = .ref b ∧ i = .int a ∧ j = .int c ∧ H3 l = some (.lst xs) ∧ H3 b = some (.lst ys) ∧ l ≠ b ∧ 0 ≤ a ∧ a ≤ c ∧ c ≤ xs.length ∧ xs.length + ys.length ≤ sizeLine ∧
  Q σ (upd H3 l (.lst (xs.take a.toNat ++ ys ++ xs.drop c.toNat)))
theorem gslice (ho : JE X o to) (hl : JE X lo tl) (hu : JE X hi th) : JG X (.Subscript o (.Slice (some lo) (some hi) none p) pos) (gSlice to tl th) := ⟨by
  intro pins s σ H v u Q I r h
  have ha : assign (.Subscript o (.Slice (some lo) (some hi) none p) pos) X.env u = (do
      let ov ← holding [u] (eval o X.env)
      let iv ← holding [u, ov] (eval (.Slice (some lo) (some hi) none p) X.env)
      standAt pos
      holding [u, ov, iv] (setItem ov iv u)
      release [iv, u, ov] []) := rfl
  rw [ha]
  refine wpAny_bind (wpAny_holding (thn (ho.h pins s σ H _ I h) fun ov s1 ⟨x, H1, I1, r1, q1⟩ => ?_))
  refine wpAny_bind (wpAny_holding (wpAny_Slice (thn (hl.h pins s1 σ H1 _ I1 q1) fun vl s2 ⟨i, H2, I2, r2, q2⟩ => thn (hu.h pins s2 σ H2 _ I2 q2) fun vu s3 ⟨j, H3, I3, r3, q3⟩ => ?_)))
  rw [evalPart_none]
  refine wpAny_pure ?_
  obtain ⟨l, b, xs, ys, a, c, rfl, rfl, rfl, rfl, h1, h2, h3, h4, h5, h6, h7, q⟩ := q3
  cases r1
  cases r
  have I4 : Inv X pins σ H3 { s3 with heap := s3.heap.push { cls := .type "slice", data := .fields #[vl, vu, .none] } } := I3.kept (t' := s3.toks) fun b ob q => Heap.get?_push_of_some _ q
  refine wpAny_bind (wpAny_standAt (wpAny_bind (wpAny_holding (set_slice I4 h1 h2 h3 (Heap.IsSliceOf.new ..) r2 r3 h4 h5 h6 h7 fun s5 I5 => ?_))))
  exact wpAny_release ⟨σ, _, I5, q⟩⟩
/-- list + list, the left one any list that is read -/
def rCatS (K : PySem.W.Frag) : R2 := fun x y H Q => ∃ l b xs zs, x = .ref l ∧ y = .ref b ∧ SqL K H l xs ∧ H b = some (.lst zs) ∧ xs.length + zs.length ≤ sizeLine ∧ ∀ p, L2.new K H p → Q (.ref p) (upd H p (.lst (xs ++ zs)))
theorem op_catS : OpR X (binaryOp .Add) (rCatS X.K) := by
  intro pins s σ H x y v u Q I rx ry h
  obtain ⟨l, b, xs, zs, rfl, rfl, hH, hB, hz, q⟩ := h
  cases rx
  cases ry
  obtain ⟨its, r, ht, hz1⟩ := I.list hH
  obtain ⟨z2, its2, n2, r2, hl2, e2⟩ := I.lstM hB
  have hl := r.length
  obtain ⟨⟨cls, dd, data, sl⟩, n, ho, hc, hdd, hd⟩ := ht
  simp only at hc hd hdd
  subst hc hd
  refine concat_meets ⟨_, ho, rfl⟩ ⟨_, e2, rfl⟩ noFill_list_add seq_list_add PySem.F.slot_list_add PySem.F.entry_list_add (PySem.F.args_list_add_2 _ _) (list_addW l b its.toArray its2.toArray n n2 dd none sl #[] (by rw [List.size_toArray, List.size_toArray]; omega)) ⟨ho, e2, ?_⟩
  have ea : its.toArray ++ its2.toArray = (its ++ its2).toArray := by simp
  rw [ea]
  exact ⟨.ref _, _, I.lnew (t' := s.toks) (r.append r2) (by rw [List.length_append]; omega), rfl, q _ I.new⟩
theorem vals_rev : ∀ {xs : List V} {us : List Value}, Vals xs us → Vals xs.reverse us.reverse
  | _, _, .nil => .nil
  | _, _, .cons r rr => by rw [List.reverse_cons, List.reverse_cons]; exact (vals_rev rr).append (.cons r .nil)
/-- xs[::-1] -/
def tRev (K : PySem.W.Frag) (te : TE) : TE := fun σ H Q => te σ H fun x H1 => ∃ a xs, x = .ref a ∧ SqL K H1 a xs ∧ ∀ p, L2.new K H1 p → Q (.ref p) (upd H1 p (.lst xs.reverse))
theorem erev {j1 : Nat} {p1 p2 p3 : Pos} (he : JE X e te) : JE X (.Subscript e (.Slice none none (some (.UnaryOp .USub (.Constant (.int 1) j1 p1) p2)) p3) pos) (tRev X.K te) := ⟨by
  intro pins s σ H Q I h
  refine Subscript_ (thn (he.h pins s σ H _ I h) fun v s1 ⟨x, H1, I1, r1, q1⟩ => ?_)
  refine wpAny_Slice ?_
  rw [evalPart_none]
  refine wpAny_pure (wpAny_pure ?_)
  rw [evalPart_some]
  refine thn ((eun (pos := p2) un_neg (ei (X := X) (i := 1) (j := j1) (pos := p1))).h pins s1 σ H1 (fun y H2 => y = .int (-1) ∧ H2 = H1) I1 ⟨1, rfl, rfl, rfl⟩) fun vs s2 ⟨y, H2, I2, r2, q2, q3⟩ => ?_
  subst q2 q3
  obtain ⟨tk, rfl⟩ := r2
  obtain ⟨a, xs, rfl, hx, q⟩ := q1
  cases r1
  have I4 : Inv X pins σ H2 { s2 with heap := s2.heap.push { cls := .type "slice", data := .fields #[.none, .none, .int (-1) tk] } } := I2.kept (t' := s2.toks) fun b ob q => Heap.get?_push_of_some _ q
  obtain ⟨its, r, ht, hz⟩ := I4.list hx
  have hlen := r.length
  show wpAny (model X.prog X.w) X.A (subscriptTail e (.Slice none none (some (.UnaryOp .USub (.Constant (.int 1) j1 p1) p2)) p3) (.ref a) (.ref s2.heap.objs.size)) (EP X pins σ Q) X.xe { s2 with heap := s2.heap.push { cls := .type "slice", data := .fields #[.none, .none, .int (-1) tk] } }
  refine tail_any (ops := [.ref a, .ref s2.heap.objs.size]) ht.isList.typeIs slot_list_getitem.lookup ?_ (by with_unfolding_all rfl)
  refine wpAny_getItem_list_slice ht.isList (Heap.IsSliceOf.new ..) .none .none (.int _ _) (by decide) ?_ (by rw [List.size_toArray] <;> omega)
  rw [PySem.W.krv_pick]
  exact ⟨.ref _, _, I4.lnew (t' := s2.toks) (vals_rev r) (by rw [List.length_reverse]; exact hz), rfl, q _ I4.new⟩⟩
end
end L2
namespace L2
open PySem PySem.Spec PyProof.Rows
section
variable {X : Cx}
/-- t[lo:hi] of a tuple, not the whole of it -/
def rSlTQ (K : PySem.W.Frag) : V → Option Int → Option Int → Hp → VK → Prop := fun x lo hi H Q => ∃ a xs, x = .ref a ∧ tupQ K H a = some xs ∧
  ¬ (HT.sIx xs.length 0 lo = 0 ∧ HT.sIx xs.length xs.length hi = xs.length) ∧ ∀ p, L2.new K H p → Q (.ref p) (upd H p (.tup (cutV xs lo hi)))
theorem sl_tupQ : SlR X (rSlTQ X.K) := by
  intro pins s σ H x v vl vu lo hi sl Q I rx hs pl pu h
  obtain ⟨a, xs, rfl, hx, hw, q⟩ := h
  obtain ⟨T, id, h1, h2, h3⟩ := sl_tup pins s σ H (.ref a) v vl vu lo hi sl (fun v' H' => ∃ l, H l = none ∧ v' = .ref l ∧ H' = upd H l (.tup (cutV xs lo hi))) I rx hs pl pu ⟨a, xs, rfl, tupQ_sq hx, hw, fun l hl => ⟨l, hl, rfl, rfl⟩⟩
  refine ⟨T, id, h1, h2, thn h3 fun u s' ⟨v', H', I', rv, l, hl, e1, e2⟩ => ?_⟩
  subst e1 e2
  exact ⟨_, _, I', rv, q l ⟨hl, I'.notMod upd_same⟩⟩
end
end L2

set_option Elab.async false
set_option linter.all false
set_option maxRecDepth 100000
/-! list comprehensions of two clauses -/
namespace L2
open PySem PySem.Spec PyProof.Rows
/-- the loop of a clause, shut: what a turn does is told by body -/
abbrev TBd := List V → St → Hp → (List V → St → Hp → Prop) → Prop
def LcLoopA (J : It) (g : TG) (tt : TT) (body : TBd) (acc0 : List V) (F : List V → St → Hp → Prop) (σ : St) (H : Hp) : Prop := ∃ W : Nat → Nat → List V → St → Hp → Prop, (∃ m, W 0 m acc0 σ H) ∧ ∀ i m acc σ H, W i m acc σ H →
  (J.stop i H ∧ F acc σ H) ∨ (J.go i H ∧ ∃ N : List V → St → Hp → Prop, (∀ acc' σ' H', N acc' σ' H' → ∃ m', m' < m ∧ W (i + 1) m' acc' σ' H') ∧ ∀ x H', J.yld i H x H' → g x σ H' fun σ2 H2 => tt σ2 H2 fun b H3 =>
    if b = true then body acc σ2 H3 N else N acc σ2 H3)
def bodyE (te : TE) (D : Addr) : TBd := fun acc σ H N => te σ H fun v H4 => H4 D = some (.lst acc) ∧ acc.length < sizeLine ∧ N (acc ++ [v]) σ (upd H4 D (.lst (acc ++ [v])))
def bodyL (wi : TI) (g : TG) (tt : TT) (te : TE) (D : Addr) : TBd := fun acc σ H N => wi σ H fun J H1 => LcLoopA J g tt (bodyE te D) acc N σ H1
def tLc2 (K : PySem.W.Frag) (wi : TI) (src : List (Option Nat)) (g : TG) (tt : TT) (wi1 : TI) (g1 : TG) (tt1 : TT) (te : TE) : TE := fun σ H Q => wi σ H fun J H1 => ∀ D, L2.new K H1 D → LcLoopA J g tt (bodyL wi1 g1 tt1 te D) [] (fun _ _ H' => Q (.ref D) H') (pick σ src) (upd H1 D (.lst []))
section
variable {elt tg iter tg1 iter1 : Expr} {ifs ifs1 : List Expr} {scope : Scope} {pos : Pos} {it acc : Value} {env : Env}
theorem compTurn_0 : compTurn (.ListComp elt [⟨tg, iter, ifs, 0⟩, ⟨tg1, iter1, ifs1, 0⟩] scope pos) 0 it acc env = (do
      standAt iter.pos
      match ← pyNext it with
      | none => pure (.done .next)
      | some v =>
        letOwnedTupleGo tg it v
        assign tg env v
        let mut ok := true
        for c in ifs do
          if ok then ok ← isTrue c env (eval c env)
        if ok then
          let x ← eval iter1 env
          standAt iter1.pos
          let x ← foldedSetIterable iter1 env x
          let _ ← runOwn (.compStart (.ListComp elt [⟨tg, iter, ifs, 0⟩, ⟨tg1, iter1, ifs1, 0⟩] scope pos) 1 (← holding [x] (pyIter x)) acc env) env
        again (.compLoop (.ListComp elt [⟨tg, iter, ifs, 0⟩, ⟨tg1, iter1, ifs1, 0⟩] scope pos) 0 it acc env)) := by rfl
theorem compTurn_1 : compTurn (.ListComp elt [⟨tg, iter, ifs, 0⟩, ⟨tg1, iter1, ifs1, 0⟩] scope pos) 1 it acc env = (do
      standAt iter1.pos
      match ← pyNext it with
      | none => pure (.done .next)
      | some v =>
        letOwnedTupleGo tg1 it v
        assign tg1 env v
        let mut ok := true
        for c in ifs1 do
          if ok then ok ← isTrue c env (eval c env)
        if ok then
          (do let _ ← call (.builtin "list.append") [acc, ← eval elt env])
        again (.compLoop (.ListComp elt [⟨tg, iter, ifs, 0⟩, ⟨tg1, iter1, ifs1, 0⟩] scope pos) 1 it acc env)) := by rfl
variable {prog : Program} {w : World} {A : Around} {R : Result → Shared → Prop} {s : Shared}
theorem compLoop_1 (I : Nat → Shared → Prop)
    (turn : ∀ n s, I n s → wpAny (model prog w) A (pyNext it) (fun r s₁ => match r with
      | none => R (.ok .next) s₁
      | some v => wpAny (model prog w) A (letOwnedTupleGo tg1 it v) (fun _ s₁' => wpAny (model prog w) A (assign tg1 env v) (fun _ s₂ =>
          wpAny (model prog w) A (forIn ifs1 true fun c r => if r = true then do let ok ← isTrue c env (eval c env); pure (ForInStep.yield ok) else pure (ForInStep.yield r)) (fun ok s₃ =>
            if ok = true then wpAny (model prog w) A (eval elt env) (fun x s₄ =>
              wpAny (model prog w) A (call (.builtin "list.append") [acc, x]) (fun _ s₅ => ∃ m, m < n ∧ I m s₅) F0 s₄) F0 s₃
            else ∃ m, m < n ∧ I m s₃) F0 s₂) F0 s₁') F0 s₁) F0 s)
    (n : Nat) (h : I n s) :
    codeAny (model prog w) A (.compLoop (.ListComp elt [⟨tg, iter, ifs, 0⟩, ⟨tg1, iter1, ifs1, 0⟩] scope pos) 1 it acc env) R s := by
  refine codeAny_loop rfl I (fun n s hI => ?_) n h
  show wpAny _ A ((compTurn (.ListComp elt [⟨tg, iter, ifs, 0⟩, ⟨tg1, iter1, ifs1, 0⟩] scope pos) 1 it acc env).onRaise (fun x => do noteFrame x env; theTreesLotGoes x)) _ _ s
  refine wpAny_noted ?_
  rw [compTurn_1]
  refine wpAny_bind (wpAny_standAt (wpAny_bind (wpAny_mono (turn n s hI) (fun r s₁ h₁ => ?_) fun _ _ h' => h'.elim)))
  cases r with
  | none => exact wpAny_pure h₁
  | some v =>
    refine wpAny_bind (wpAny_mono h₁ (fun _ s₁' h₁' => ?_) fun _ _ h' => h'.elim)
    refine wpAny_bind (wpAny_mono h₁' (fun _ s₂ h₂ => wpAny_bind (wpAny_mono h₂ (fun ok s₃ h₃ => ?_) fun _ _ h' => h'.elim)) fun _ _ h' => h'.elim)
    cases ok with
    | false => exact wpAny_pure ⟨rfl, h₃⟩
    | true =>
      exact wpAny_bind (wpAny_bind (wpAny_mono h₃ (fun x s₄ h₄ => wpAny_bind (wpAny_mono h₄ (fun _ s₅ h₅ => wpAny_pure (wpAny_pure ⟨rfl, h₅⟩)) fun _ _ h' => h'.elim)) fun _ _ h' => h'.elim))
theorem compLoop_0 (I : Nat → Shared → Prop) (hs : ∀ x, foldedSetIterable iter1 env x = pure x)
    (turn : ∀ n s, I n s → wpAny (model prog w) A (pyNext it) (fun r s₁ => match r with
      | none => R (.ok .next) s₁
      | some v => wpAny (model prog w) A (letOwnedTupleGo tg it v) (fun _ s₁' => wpAny (model prog w) A (assign tg env v) (fun _ s₂ =>
          wpAny (model prog w) A (forIn ifs true fun c r => if r = true then do let ok ← isTrue c env (eval c env); pure (ForInStep.yield ok) else pure (ForInStep.yield r)) (fun ok s₃ =>
            if ok = true then wpAny (model prog w) A (eval iter1 env) (fun x s₄ => wpAny (model prog w) A (pyIter x) (fun it' s₅ =>
              codeAny (model prog w) A (.compStart (.ListComp elt [⟨tg, iter, ifs, 0⟩, ⟨tg1, iter1, ifs1, 0⟩] scope pos) 1 it' acc env) (fun r s₆ => match r with | .ok _ => ∃ m, m < n ∧ I m s₆ | .error _ => False) s₅) F0 s₄) F0 s₃
            else ∃ m, m < n ∧ I m s₃) F0 s₂) F0 s₁') F0 s₁) F0 s)
    (n : Nat) (h : I n s) :
    codeAny (model prog w) A (.compLoop (.ListComp elt [⟨tg, iter, ifs, 0⟩, ⟨tg1, iter1, ifs1, 0⟩] scope pos) 0 it acc env) R s := by
  refine codeAny_loop rfl I (fun n s hI => ?_) n h
  show wpAny _ A ((compTurn (.ListComp elt [⟨tg, iter, ifs, 0⟩, ⟨tg1, iter1, ifs1, 0⟩] scope pos) 0 it acc env).onRaise (fun x => do noteFrame x env; theTreesLotGoes x)) _ _ s
  refine wpAny_noted ?_
  rw [compTurn_0]
  refine wpAny_bind (wpAny_standAt (wpAny_bind (wpAny_mono (turn n s hI) (fun r s₁ h₁ => ?_) fun _ _ h' => h'.elim)))
  cases r with
  | none => exact wpAny_pure h₁
  | some v =>
    refine wpAny_bind (wpAny_mono h₁ (fun _ s₁' h₁' => ?_) fun _ _ h' => h'.elim)
    refine wpAny_bind (wpAny_mono h₁' (fun _ s₂ h₂ => wpAny_bind (wpAny_mono h₂ (fun ok s₃ h₃ => ?_) fun _ _ h' => h'.elim)) fun _ _ h' => h'.elim)
    cases ok with
    | false => exact wpAny_pure ⟨rfl, h₃⟩
    | true =>
      refine wpAny_bind (wpAny_mono h₃ (fun x s₄ h₄ => ?_) fun _ _ h' => h'.elim)
      refine wpAny_bind (wpAny_standAt (wpAny_bind (wpAny_of_eq (hs x) (wpAny_bind (wpAny_holding (wpAny_mono h₄ (fun it' s₅ h₅ => ?_) fun _ _ h' => h'.elim))))))
      refine wpAny_bind (wpAny_runOwn (codeAny_mono h₅ fun r s₆ h₆ => ?_))
      cases r with
      | ok f => exact wpAny_pure ⟨rfl, h₆⟩
      | error x => exact h₆.elim
theorem compStart_1
    (h0 : codeAny (model prog w) A (.compLoop (.ListComp elt [⟨tg, iter, ifs, 0⟩, ⟨tg1, iter1, ifs1, 0⟩] scope pos) 1 it acc env) R s)
    (h : wpAny (model prog w) A (pyIter it) (fun it' s' => codeAny (model prog w) A (.compLoop (.ListComp elt [⟨tg, iter, ifs, 0⟩, ⟨tg1, iter1, ifs1, 0⟩] scope pos) 1 it' acc env) R s')
      (notedBy (model prog w) A env fun x s' => R (.error x) s') s) :
    codeAny (model prog w) A (.compStart (.ListComp elt [⟨tg, iter, ifs, 0⟩, ⟨tg1, iter1, ifs1, 0⟩] scope pos) 1 it acc env) R s := by
  refine codeAny_of_tree ?_
  show wpAny _ _ ((compStart (.ListComp elt [⟨tg, iter, ifs, 0⟩, ⟨tg1, iter1, ifs1, 0⟩] scope pos) 1 it acc env).onRaise (fun x => do noteFrame x env; standAt theWindowsPlace)) _ _ s
  refine wpAny_notedAt ?_
  unfold compStart
  show wpAny _ _ (ask >>= _) _ _ s
  refine wpAny_bind (wpAny_askSetting (wpAny_ite ?_))
  split
  · first
      | exact wpAny_bind (wpAny_pure (wpAny_pure (And.intro rfl h0)))
      | exact wpAny_pure (And.intro rfl h0)
  · first
      | exact wpAny_bind (wpAny_rule (wpAny_bind (wpAny_standAt (wpAny_bind (wpAny_mono h (fun it' s' h' => wpAny_pure (And.intro rfl h')) fun _ _ x => x)))))
      | (refine wpAny_bind (wpAny_rule ?_); show wpAny _ _ (standAt iter1.pos >>= _) _ _ s; exact wpAny_bind (wpAny_standAt (wpAny_bind (wpAny_mono h (fun it' s' h' => wpAny_pure (And.intro rfl h')) fun _ _ x => x))))
end
section
variable {Y : Cx} {elt tg iter tg1 iter1 : Expr} {ifs ifs1 : List Expr} {scope : Scope} {pos : Pos} {g : TG} {tt : TT} {te : TE}
/-- the inner loop -/
theorem inner_run (hc : Y.calm = true) (hg : JG Y tg1 g) (ht : JF Y ifs1 tt) (he : JE Y elt te) (hxe : Y.xe = F0) {R : Result → Shared → Prop}
    {pins : List (Addr × Obj)} {σ : St} {H : Hp} {s : Shared} {it D : Addr} {fp : List Addr} {tn : Nat → Heap → Prop} {J : It} {acc0 : List V} {F : List V → St → Hp → Prop} (I : Inv Y pins σ H s) (T : Turn Y.prog Y.w Y.K tg1 J fp it tn) (st : tn 0 s.heap) (hf : ∀ b ∈ fp, FpOk Y pins H b)
    (h : LcLoopA J g tt (bodyE te D) acc0 F σ H)
    (hR : ∀ acc σ' H' s', Inv Y pins σ' H' s' → F acc σ' H' → R (.ok .next) s') :
    codeAny (model Y.prog Y.w) Y.A (.compStart (.ListComp elt [⟨tg, iter, ifs, 0⟩, ⟨tg1, iter1, ifs1, 0⟩] scope pos) 1 (.ref it) (.ref D) Y.env) R s := by
  obtain ⟨W, ⟨m0, w0⟩, turn⟩ := h
  have stat : ∀ {H' : Hp}, (∀ b ∈ fp, H' b = none) → ∀ b ∈ fp, FpOk Y pins H' b := fun hn b hb => by
    obtain ⟨f0, f1, f2, f3, f4, f5⟩ := hf b hb
    exact ⟨hn b hb, f1, f2, f3, f4, f5⟩
  have loop : codeAny (model Y.prog Y.w) Y.A (.compLoop (.ListComp elt [⟨tg, iter, ifs, 0⟩, ⟨tg1, iter1, ifs1, 0⟩] scope pos) 1 (.ref it) (.ref D) Y.env) R s := by
    refine compLoop_1 (fun n s' => ∃ i acc σ' H', Inv Y pins σ' H' s' ∧ tn i s'.heap ∧ (∀ b ∈ fp, H' b = none) ∧ W i n acc σ' H') ?_ m0 ⟨0, _, _, _, I, st, fun b hb => (hf b hb).1, w0⟩
    rintro n s3 ⟨i, acc, σ3, H3, I3, st3, fr3, w3⟩
    rcases turn i n acc σ3 H3 w3 with ⟨stop, qn⟩ | ⟨go, NN, hNN, step⟩
    · refine thn (T.done Y rfl rfl rfl hc i pins s3 σ3 H3 F0 I3 (stat fr3) st3 stop) fun r s4 ⟨hr, I4⟩ => ?_
      subst hr
      exact hR _ _ _ _ I4 qn
    · refine thn (T.item Y rfl rfl rfl hc i pins s3 σ3 H3 F0 I3 (stat fr3) st3 go) fun r s4 ⟨u, hr, h4⟩ => ?_
      subst hr
      refine thn h4 fun _ s5 ⟨x, H5, I5, r5, y5, st5, fr5⟩ => ?_
      have I5' := I5.pinned (stat fr5) (T.obj _ _ st5)
      have hgh := hg.h _ s5 σ3 H5 x u _ I5' r5 (step x H5 y5)
      rw [hxe] at hgh
      refine thn hgh fun _ s6 ⟨σ6, H6, I6, q6⟩ => ?_
      have hth := ht.h _ s6 σ6 H6 _ I6 q6
      rw [hxe] at hth
      refine thn hth fun b s7 ⟨H7, I7, q7⟩ => ?_
      have again : ∀ {acc8 : List V} {s8 : Shared} {H8 : Hp}, Inv Y (pins ++ pinsAt fp s5.heap) σ6 H8 s8 → NN acc8 σ6 H8 → ∃ m, m < n ∧ ∃ i acc σ' H', Inv Y pins σ' H' s8 ∧ tn i s8.heap ∧ (∀ b ∈ fp, H' b = none) ∧ W i m acc σ' H' := fun {acc8 s8 H8} I8 w => by
        obtain ⟨m', hm, w8⟩ := hNN _ _ _ w
        refine ⟨m', hm, i + 1, acc8, σ6, H8, I8.unpinned, T.keep _ _ _ st5 fun b hb o e => (I8.pin (b, o) (List.mem_append_right _ (List.mem_append_right _ (mem_pinsAt hb e)))).1, fun b hb => ?_, w8⟩
        obtain ⟨o, e, d⟩ := T.obj _ _ st5 b hb
        exact (I8.pin (b, o) (List.mem_append_right _ (List.mem_append_right _ (mem_pinsAt hb e)))).2.1
      cases b with
      | false => exact again I7 q7
      | true =>
        have heh := he.h _ s7 σ6 H7 _ I7 q7
        rw [hxe] at heh
        refine thn heh fun y s8 ⟨v, H8, I8, r8, q8⟩ => ?_
        obtain ⟨hx, hz, w8⟩ := q8
        have hmt := mt_append (X := Y) _ s8 σ6 H8 (.ref D) [v] (.ref D) [y] (fun _ H9 => H9 = upd H8 D (.lst (acc ++ [v]))) I8 rfl (.cons r8 .nil) ⟨_, acc, v, rfl, rfl, hx, hz, rfl⟩
        rw [hxe] at hmt
        refine thn hmt fun _ s9 ⟨_, H9, I9, _, q9⟩ => ?_
        subst q9
        exact again I9 w8
  exact compStart_1 loop (T.self _ 0 _ _ _ st loop)
end
section
variable {X : Cx} {sc : Scope} {N : List Str} {src : List (Option Nat)} {tg iter tg1 iter1 elt : Expr} {ifs ifs1 : List Expr} {wi wi1 : TI} {g g1 : TG} {tt tt1 : TT} {te : TE} {pos : Pos}
theorem comp_run2 {R : Value → Addr → Result → Shared → Prop} {E : Value → Shared → Prop} (c : Cap X sc N src) (hc : X.calm = true)
    (hg : ∀ C s H fp, JG (X.comp N sc C s H fp) tg g) (ht : ∀ C s H fp, JF (X.comp N sc C s H fp) ifs tt)
    (hi1 : ∀ C s H fp, JI (X.comp N sc C s H fp) tg1 iter1 wi1) (hg1 : ∀ C s H fp, JG (X.comp N sc C s H fp) tg1 g1) (ht1 : ∀ C s H fp, JF (X.comp N sc C s H fp) ifs1 tt1) (he : ∀ C s H fp, JE (X.comp N sc C s H fp) elt te)
    (hs1 : ∀ C s H fp x, foldedSetIterable iter1 (X.comp N sc C s H fp).env x = pure x)
    {pins : List (Addr × Obj)} {σ : St} {H : Hp} {s : Shared} {it : Addr} {fp : List Addr} {tn : Nat → Heap → Prop} {J : It} {Q : V → Hp → Prop} (I : Inv X pins σ H s) (T : Turn X.prog X.w X.K tg J fp it tn) (st : tn 0 s.heap) (hf : ∀ b ∈ fp, FpOk X pins H b)
    (h : ∀ D, L2.new X.K H D → LcLoopA J g tt (bodyL wi1 g1 tt1 te D) [] (fun _ _ H' => Q (.ref D) H') (pick σ src) (upd H D (.lst [])))
    (hR : ∀ D C s' σ' H', s.heap.objs.size ≤ C → Inv (X.comp N sc C s H fp) [] σ' H' s' → Q (.ref D) H' → R (.ref D) C (.ok .next) s') :
    wpAny (model X.prog X.w) X.A (newList []) (fun acc s₃ => wpAny (model X.prog X.w) X.A (newFunctionEnv sc X.env.globals (closL X.env sc.names []) [] X.env.qual none .none (some X.env)) (fun cenv s₄ =>
      codeAny (model X.prog X.w) X.A (.compStart (.ListComp elt [⟨tg, iter, ifs, 0⟩, ⟨tg1, iter1, ifs1, 0⟩] sc pos) 0 (.ref it) acc { cenv with scope := relabel sc X.env }) (R acc cenv.locals) s₄) E s₃) E s := by
  refine wpAny_newObj_type (wpAny_newFunctionEnv c.cell (by intro y hy; simp at hy) (fun h₁ hns₁ hsb₁ => ?_) c.kind)
  dsimp only at hns₁ hsb₁ ⊢
  generalize hH2 : s.heap.push { cls := .type "list", dict := none, data := .seq ([] : List Value).toArray } = H2 at hns₁ hsb₁ ⊢
  have hC : H2.objs.size = s.heap.objs.size + 1 := by rw [← hH2, Heap.size_push]
  have hDC : s.heap.objs.size ≠ H2.objs.size := by rw [hC]; exact Nat.ne_of_lt (Nat.lt_succ_self _)
  have hCle : s.heap.objs.size ≤ H2.objs.size := by rw [hC]; exact Nat.le_succ _
  have below : ∀ b, b < s.heap.objs.size → b ≠ H2.objs.size := fun b hb => by rw [hC]; exact Nat.ne_of_lt (Nat.lt_succ_of_lt hb)
  have old : ∀ b o, s.heap.get? b = some o → h₁.get? b = some o := fun b o e => hsb₁.extBut b o (below b (Heap.lt_size e)) (Heap.get?_push_of_some _ (hH2 ▸ Heap.get?_push_of_some _ e))
  have hacc : h₁.get? s.heap.objs.size = some { cls := .type "list", dict := none, data := .seq ([] : List Value).toArray } := hsb₁.extBut _ _ hDC (Heap.get?_push_of_some _ (hH2 ▸ Heap.get?_push_size _ rfl))
  have ho : ∀ b ∈ fp, ∃ o, s.heap.get? b = some o := fun b hb => let ⟨o, e, _⟩ := T.obj _ _ st b hb; ⟨o, e⟩
  have I0 := I.block (t' := s.toks + ([] : List (Str × Value)).length) c hf ho (Nat.le_refl _) hCle hDC old hns₁ ⟨Nat.zero_le _, [], 0, .nil, hacc⟩
  have st0 : tn 0 h₁ := T.keep _ _ _ st fun b hb o e => old b o e
  obtain ⟨W, ⟨m0, w0⟩, turn⟩ := h _ I.new
  have stat : ∀ {H' : Hp}, (∀ b ∈ fp, H' b = none) → ∀ b ∈ fp, FpOk (X.comp N sc H2.objs.size s H fp) [] H' b := fun hn b hb => by
    obtain ⟨f0, f1, f2, f3, f4, f5⟩ := hf b hb
    obtain ⟨o, e⟩ := ho b hb
    refine ⟨hn b hb, below b (Heap.lt_size e), fun z => ?_, .inl hb, fun x a q => f4 x a (clos_look q), fun p hp => nomatch hp⟩
    rcases List.mem_cons.mp (I.stkSub b z) with q | q
    · exact f1 q
    · exact f2 q
  have fr0 : ∀ b ∈ fp, (upd H s.heap.objs.size (.lst [])) b = none := fun b hb => by
    obtain ⟨o, e⟩ := ho b hb
    rw [upd_ne (Nat.ne_of_lt (Heap.lt_size e))]
    exact (hf b hb).1
  have loop : ∀ s₃ : Shared, s₃ = { s with heap := h₁, toks := s.toks + ([] : List (Str × Value)).length } →
      codeAny (model X.prog X.w) X.A (.compLoop (.ListComp elt [⟨tg, iter, ifs, 0⟩, ⟨tg1, iter1, ifs1, 0⟩] sc pos) 0 (.ref it) (.ref s.heap.objs.size) (compEnvC sc (closL X.env sc.names []) H2.objs.size X.env)) (R (.ref s.heap.objs.size) H2.objs.size) s₃ := by
    rintro s₃ rfl
    refine compLoop_0 (fun n s' => ∃ i acc σ' H', Inv (X.comp N sc H2.objs.size s H fp) [] σ' H' s' ∧ tn i s'.heap ∧ (∀ b ∈ fp, H' b = none) ∧ W i n acc σ' H') (hs1 H2.objs.size s H fp) ?_ m0 ⟨0, _, _, _, I0, st0, fr0, w0⟩
    rintro n s3 ⟨i, acc, σ3, H3, I3, st3, fr3, w3⟩
    rcases turn i n acc σ3 H3 w3 with ⟨stop, qn⟩ | ⟨go, NN, hNN, step⟩
    · refine thn (T.done (X.comp N sc H2.objs.size s H fp) rfl rfl rfl hc i [] s3 σ3 H3 F0 I3 (stat fr3) st3 stop) fun r s4 ⟨hr, I4⟩ => ?_
      subst hr
      exact hR _ _ _ _ _ hCle I4 qn
    · refine thn (T.item (X.comp N sc H2.objs.size s H fp) rfl rfl rfl hc i [] s3 σ3 H3 F0 I3 (stat fr3) st3 go) fun r s4 ⟨u, hr, h4⟩ => ?_
      subst hr
      refine thn h4 fun _ s5 ⟨x, H5, I5, r5, y5, st5, fr5⟩ => ?_
      have I5' := I5.pinned (stat fr5) (T.obj _ _ st5)
      refine thn ((hg _ _ _ _).h _ s5 σ3 H5 x u _ I5' r5 (step x H5 y5)) fun _ s6 ⟨σ6, H6, I6, q6⟩ => ?_
      refine thn ((ht _ _ _ _).h _ s6 σ6 H6 _ I6 q6) fun b s7 ⟨H7, I7, q7⟩ => ?_
      have again : ∀ {acc8 : List V} {s8 : Shared} {σ8 : St} {H8 : Hp}, Inv (X.comp N sc H2.objs.size s H fp) ([] ++ pinsAt fp s5.heap) σ8 H8 s8 → NN acc8 σ8 H8 → ∃ m, m < n ∧ ∃ i acc σ' H', Inv (X.comp N sc H2.objs.size s H fp) [] σ' H' s8 ∧ tn i s8.heap ∧ (∀ b ∈ fp, H' b = none) ∧ W i m acc σ' H' := fun {acc8 s8 σ8 H8} I8 w => by
        obtain ⟨m', hm, w8⟩ := hNN _ _ _ w
        refine ⟨m', hm, i + 1, acc8, σ8, H8, I8.unpinned, T.keep _ _ _ st5 fun b hb o e => (I8.pin (b, o) (List.mem_append_right _ (List.mem_append_right _ (mem_pinsAt hb e)))).1, fun b hb => ?_, w8⟩
        obtain ⟨o, e, d⟩ := T.obj _ _ st5 b hb
        exact (I8.pin (b, o) (List.mem_append_right _ (List.mem_append_right _ (mem_pinsAt hb e)))).2.1
      cases b with
      | false => exact again I7 q7
      | true =>
        refine thn ((hi1 H2.objs.size s H fp).h ([] ++ pinsAt fp s5.heap) s7 σ6 H7 _ I7 q7) fun v s8 h8 => thn h8 fun itv s9 h9 => ?_
        obtain ⟨it9, fp9, tn9, J9, H9, e9, I9, T9, st9, f9, q9⟩ := h9
        subst e9
        exact inner_run (Y := X.comp N sc H2.objs.size s H fp) hc (hg1 _ _ _ _) (ht1 _ _ _ _) (he _ _ _ _) rfl I9 T9 st9 f9 q9 fun acc σ' H' s' I' w' => again I' w'
  exact codeAny_compStart_list (loop _ rfl) (T.self _ 0 _ _ _ st0 (loop _ rfl))
theorem elc2 (c : Cap X sc N src) (hc : X.calm = true) (hi : JI X tg iter wi)
    (hg : ∀ C s H fp, JG (X.comp N sc C s H fp) tg g) (ht : ∀ C s H fp, JF (X.comp N sc C s H fp) ifs tt)
    (hi1 : ∀ C s H fp, JI (X.comp N sc C s H fp) tg1 iter1 wi1) (hg1 : ∀ C s H fp, JG (X.comp N sc C s H fp) tg1 g1) (ht1 : ∀ C s H fp, JF (X.comp N sc C s H fp) ifs1 tt1) (he : ∀ C s H fp, JE (X.comp N sc C s H fp) elt te)
    (hs : ∀ x, foldedSetIterable iter X.env x = pure x := by intro _; rfl) (hs1 : ∀ C s H fp x, foldedSetIterable iter1 (X.comp N sc C s H fp).env x = pure x := by intros; rfl) : JE X (.ListComp elt [⟨tg, iter, ifs, 0⟩, ⟨tg1, iter1, ifs1, 0⟩] sc pos) (tLc2 X.K wi src g tt wi1 g1 tt1 te) := ⟨by
  intro pins s σ H Q I h
  rw [eval_ListComp]
  refine wpAny_comprehension_free (use := none) rfl hs (closureFor_eq fun x hx hk => ?_) c.kind c.names ?_
  · obtain ⟨n, k⟩ := x
    cases hk
    exact I.ok.has _ (c.free hx)
  refine thn (hi.h pins s σ H _ I h) fun v s1 h1 => thn h1 fun itv s2 h2 => ?_
  obtain ⟨it, fp, tn, J, H2, e, I2, T, st2, f2, h2⟩ := h2
  subst e
  refine comp_run2 (R := fun acc C => compPost (model X.prog X.w) X.A X.xe none (EP X pins σ Q) acc C) (Q := Q) c hc hg ht hi1 hg1 ht1 he hs1 I2 T st2 f2 h2 fun D C s' σ' H' hC I' q => ?_
  obtain ⟨m, hn, _⟩ := id I'.loc
  refine ⟨m, hn, fun h' sb => ?_⟩
  exact ⟨.ref D, H', I2.unblock f2 hC I' fun b hb => sb.2 b hb, rfl, q⟩⟩
theorem slc2 {i : Nat} {y : Str} {py spos : Pos} (hN : X.N.Nodup) (hy : X.N[i]? = some y) (hx : Loc X.env.scope y) (c : Cap X sc N src) (hc : X.calm = true) (hi : JI X tg iter wi)
    (hg : ∀ C s H fp, JG (X.comp N sc C s H fp) tg g) (ht : ∀ C s H fp, JF (X.comp N sc C s H fp) ifs tt)
    (hi1 : ∀ C s H fp, JI (X.comp N sc C s H fp) tg1 iter1 wi1) (hg1 : ∀ C s H fp, JG (X.comp N sc C s H fp) tg1 g1) (ht1 : ∀ C s H fp, JF (X.comp N sc C s H fp) ifs1 tt1) (he : ∀ C s H fp, JE (X.comp N sc C s H fp) elt te)
    (hsw : swapsWith (.ListComp elt [⟨tg, iter, ifs, 0⟩, ⟨tg1, iter1, ifs1, 0⟩] sc pos) (some (.Name y py)) spos.line X.env = pure true := by rfl)
    (hf : X.fn y = true ∨ X.env.scope.names.lookup y = some .local := by first | exact .inl rfl | exact .inr rfl | assumption)
    (hs : ∀ x, foldedSetIterable iter X.env x = pure x := by intro _; rfl) (hs1 : ∀ C s H fp x, foldedSetIterable iter1 (X.comp N sc C s H fp).env x = pure x := by intros; rfl) : JS X (.Assign [.Name y py] (.ListComp elt [⟨tg, iter, ifs, 0⟩, ⟨tg1, iter1, ifs1, 0⟩] sc pos) spos) (tAsg (tLc2 X.K wi src g tt wi1 g1 tt1 te) (gName i)) := ⟨by
  intro pins s σ H D I h
  rw [exec_Assign_Name_used _ _ _ _ hsw]
  refine wpAny_bind (wpAny_standAt (wpAny_bind ?_))
  show wpAny _ X.A (do let _ ← comprehension (.ListComp elt [⟨tg, iter, ifs, 0⟩, ⟨tg1, iter1, ifs1, 0⟩] sc pos) sc X.env _ (newList []) false (eval iter X.env) (some (assign (.Name y py) X.env))) _ _ s
  refine wpAny_bind (wpAny_mono (wpAny_comprehension_free (use := some (assign (.Name y py) X.env)) (Q := fun _ s' => SP X pins D .next s') rfl hs (closureFor_eq fun x hx hk => ?_) c.kind c.names ?_) (fun _ s' hq => wpAny_pure (wpAny_pure hq)) fun _ _ e => e)
  · obtain ⟨n, k⟩ := x
    cases hk
    exact I.ok.has _ (c.free hx)
  refine thn (hi.h pins s σ H _ I h) fun v s1 h1 => thn h1 fun itv s2 h2 => ?_
  obtain ⟨it, fp, tn, J, H2, e, I2, T, st2, f2, h2⟩ := h2
  subst e
  refine comp_run2 (R := fun acc C => compPost (model X.prog X.w) X.A X.xe (some (assign (.Name y py) X.env)) (fun _ s' => SP X pins D .next s') acc C) (Q := fun v H' => D.nx (σ.set i (some v)) H') c hc hg ht hi1 hg1 ht1 he hs1 I2 T st2 f2 h2 fun L C s' σ' H' hC I' q => ?_
  obtain ⟨m, hn, _⟩ := id I'.loc
  obtain ⟨o, es, ep, ho, r⟩ := id hn
  have I3 : Inv X pins σ H' s' := I2.unblock (h' := s'.heap) f2 hC I' fun _ _ => rfl
  have cL : C ≠ X.env.locals := Nat.ne_of_gt (Nat.lt_of_lt_of_le I2.lt hC)
  have cC : ∀ x a, X.env.cells.lookup x = some a → a ≠ C := fun x a e => by
    obtain ⟨v, o, e', _⟩ := I2.cell x a e
    exact Nat.ne_of_lt (Nat.lt_of_lt_of_le (Heap.lt_size e') hC)
  have cP : ∀ p ∈ X.pn ++ pins, p.1 ≠ C := fun p hp => Nat.ne_of_lt (Nat.lt_of_lt_of_le (Heap.lt_size (I2.pin p hp).1) hC)
  have fr : H' C = none := I'.free
  have I4 : Inv X (pins ++ [(C, o)]) σ H' s' := I3.pins_of fun p hp => (List.mem_append.mp hp).elim (fun z => I3.pin p (List.mem_append_right _ z)) fun z => by
    have e : p = (C, o) := by simpa using z
    subst e
    exact ⟨ho, fr, cL, I2.nofs hC, fun v z => by
      have r1 := r
      simp_all⟩
  show wpAny (model X.prog X.w) X.A (assign (.Name y py) X.env (.ref L)) _ _ s'
  refine thn (pg_name (pos := py) hN hy hx hf _ s' σ H' (.ref L) (.ref L) (fun σ1 H1 => D.nx σ1 H1 ∧ H1 = H') I4 rfl ⟨q, rfl⟩) fun _ s5 ⟨σ5, H5, I5, q5, e5⟩ => ?_
  subst e5
  have pC := (I5.pin (C, o) (List.mem_append_right _ (List.mem_append_right _ (by simp)))).1
  refine ⟨m, ⟨o, es, ep, pC, r⟩, fun h' sb => ?_⟩
  exact ⟨σ5, H5, I5.unpinned.turned (t' := s5.toks) (fun b u hb e => (sb.2 b hb).trans e) fr cL (.inr (Nat.le_trans I2.sz hC)) cC cP, q5⟩⟩
end
section
variable {K : PySem.W.Frag} {g : TG} {tt : TT} {body : TBd} {a : Addr} {acc0 : List V} {F : List V → St → Hp → Prop} {σ : St} {H : Hp} {xs : List V} {n : Nat}
theorem la_run {J : It} (Pv : Nat → List V → St → Hp → Prop) (h0 : Pv 0 acc0 σ H) (hgo : ∀ i acc σ H, i < n → Pv i acc σ H → J.go i H) (hst : ∀ acc σ H, Pv n acc σ H → J.stop n H)
    (hs : ∀ i acc σ H x H', i < n → Pv i acc σ H → J.yld i H x H' → g x σ H' fun σ2 H2 => tt σ2 H2 fun b H3 => if b = true then body acc σ2 H3 (Pv (i + 1)) else Pv (i + 1) acc σ2 H3)
    (hd : ∀ acc σ H, Pv n acc σ H → F acc σ H) : LcLoopA J g tt body acc0 F σ H := by
  refine ⟨fun i m acc σ H => Pv i acc σ H ∧ i ≤ n ∧ m = n - i, ⟨n, h0, Nat.zero_le _, by omega⟩, fun i m acc σ H ⟨h, hi, hm⟩ => ?_⟩
  by_cases c : i < n
  · right
    exact ⟨hgo i acc σ H c h, Pv (i + 1), fun acc' σ' H' q => ⟨n - (i + 1), by omega, q, by omega, rfl⟩, fun x H' hy => hs i acc σ H x H' c h hy⟩
  · left
    have e : i = n := by omega
    subst e
    exact ⟨hst acc σ H h, hd acc σ H h⟩
theorem la_list (Pv : Nat → List V → St → Hp → Prop) (h0 : Pv 0 acc0 σ H) (hl : ∀ i acc σ H, i ≤ xs.length → Pv i acc σ H → SqL K H a xs)
    (hs : ∀ i x acc σ H, xs[i]? = some x → Pv i acc σ H → g x σ H fun σ2 H2 => tt σ2 H2 fun b H3 => if b = true then body acc σ2 H3 (Pv (i + 1)) else Pv (i + 1) acc σ2 H3)
    (hd : ∀ acc σ H, Pv xs.length acc σ H → F acc σ H) : LcLoopA (Itl K a) g tt body acc0 F σ H := by
  refine la_run (n := xs.length) Pv h0 (fun i acc σ H hi h => ⟨xs, _, hl i acc σ H (Nat.le_of_lt hi) h, List.getElem?_eq_getElem hi⟩) (fun acc σ H h => ⟨xs, hl _ acc σ H (Nat.le_refl _) h, Nat.le_refl _⟩) (fun i acc σ H x H' hi h hy => ?_) hd
  obtain ⟨rfl, hy⟩ := hy
  exact hs i x acc σ _ (hy xs (hl i acc σ _ (Nat.le_of_lt hi) h)) h
theorem la_tup (Pv : Nat → List V → St → Hp → Prop) (h0 : Pv 0 acc0 σ H) (hl : ∀ i acc σ H, i ≤ xs.length → Pv i acc σ H → SqT K H a xs)
    (hs : ∀ i x acc σ H, xs[i]? = some x → Pv i acc σ H → g x σ H fun σ2 H2 => tt σ2 H2 fun b H3 => if b = true then body acc σ2 H3 (Pv (i + 1)) else Pv (i + 1) acc σ2 H3)
    (hd : ∀ acc σ H, Pv xs.length acc σ H → F acc σ H) : LcLoopA (Itt K a) g tt body acc0 F σ H := by
  refine la_run (n := xs.length) Pv h0 (fun i acc σ H hi h => ⟨xs, _, hl i acc σ H (Nat.le_of_lt hi) h, List.getElem?_eq_getElem hi⟩) (fun acc σ H h => ⟨xs, hl _ acc σ H (Nat.le_refl _) h, Nat.le_refl _⟩) (fun i acc σ H x H' hi h hy => ?_) hd
  obtain ⟨rfl, hy⟩ := hy
  exact hs i x acc σ _ (hy xs (hl i acc σ _ (Nat.le_of_lt hi) h)) h
theorem tLc2_list {tl : TE} {src : List (Option Nat)} {wi1 : TI} {g1 : TG} {tt1 : TT} {te : TE} {Q : VK} : tLc2 K (iList K tl) src g tt wi1 g1 tt1 te σ H Q = tl σ H (fun x H1 => ∃ a, x = .ref a ∧ (∃ xs, SqL K H1 a xs) ∧ ∀ D, L2.new K H1 D → LcLoopA (Itl K a) g tt (bodyL wi1 g1 tt1 te D) [] (fun _ _ H' => Q (.ref D) H') (pick σ src) (upd H1 D (.lst []))) := rfl
theorem bodyL_tup {tl : TE} {te : TE} {D : Addr} {acc : List V} {N : List V → St → Hp → Prop} : bodyL (iTup K tl) g tt te D acc σ H N = tl σ H (fun x H1 => ∃ a, x = .ref a ∧ (∃ xs, SqT K H1 a xs) ∧ LcLoopA (Itt K a) g tt (bodyE te D) acc N σ H1) := rfl
theorem bodyL_list {tl : TE} {te : TE} {D : Addr} {acc : List V} {N : List V → St → Hp → Prop} : bodyL (iList K tl) g tt te D acc σ H N = tl σ H (fun x H1 => ∃ a, x = .ref a ∧ (∃ xs, SqL K H1 a xs) ∧ LcLoopA (Itl K a) g tt (bodyE te D) acc N σ H1) := rfl
theorem bodyE_eq {te : TE} {D : Addr} {acc : List V} {N : List V → St → Hp → Prop} : bodyE te D acc σ H N = te σ H (fun v H4 => H4 D = some (.lst acc) ∧ acc.length < sizeLine ∧ N (acc ++ [v]) σ (upd H4 D (.lst (acc ++ [v])))) := rfl
end
end L2

set_option Elab.async false
set_option linter.all false
set_option maxRecDepth 100000
set_option maxHeartbeats 4000000
namespace K18
open PySem L2
local macro_rules | `(tactic| walk_at "rd") => `(tactic| simp only [tSeq, tNext, tIfS, tAsg, gName, gSub, tRet, tRetN, tDrop, tVar, tC, tOp, tUn, rI0, rI, rU, tTest, tB, tAndV, tOrV, tNotV, tAnd, tOr, tNot, tIf, tChain, tCB, tCons, tNil, tLst, tTup, tCallC, List.getElem?_cons_zero, List.getElem?_cons_succ, List.set_cons_zero, List.set_cons_succ, Option.some.injEq, V.int.injEq, V.bl.injEq, V.ref.injEq, V.ty.injEq, V.str.injEq, List.cons.injEq, exists_eq_left', exists_eq_left, exists_and_left, and_true, true_and, and_assoc, cxK, rIxF, rSetL, rEq, rNe, scal, HO.lst.injEq, HO.tup.injEq, upd_none, ixN_10, ixN_20, ixN_21, ixN_30, ixN_31, ixN_32, upd_same, seqAt_updL, seqAt_updT, atI_0, atI_1, atI_2, atI_3, decide_eq_true_eq, L2.start, List.map_cons, List.map_nil, List.length_cons, List.length_nil, Nat.reduceAdd, Nat.reduceSub, List.replicate_succ, List.replicate_zero, List.cons_append, List.nil_append, List.append_nil, tFor_rng1, tFor_rng2, tFor_list, tFor_tup, CDv, CMul, CPow, sizeLine_eq, Int.reduceLE, Int.reduceLT, Int.reducePow, Int.reduceToNat, Int.reduceAdd, Int.reduceSub, Int.reduceMul, Int.reduceNeg, Nat.reduceLeDiff, Nat.reducePow, Nat.reduceLT, Int.reduceEq, true_or, or_true, ite_true, ite_false, if_true, if_false, Bool.not_true, Bool.not_false, Bool.false_eq_true, decide_true, decide_false, rIxQ, seqQ_updL, seqQ_updT, tupQ_updT, tSl, tNoPart, tPart, rSlQ, rSlTQ, rCatQ, tTupQ, tLstQ, new_upd, tNever, rEqD, rInQ, gTupQ, gCons, gNil, tBM, tBM0, rAppend, rClear, tFor_rng3, tLc_rng1, tLc_rng2, tLc_list, tLc_tup, pick_nil, pick_own, pick_cap, join_some, tYes, gSlice, tCallKC, gk_11, gk_31, tLc2_list, bodyL_tup, bodyL_list, bodyE_eq])
local macro_rules | `(tactic| walk_at "rn") => `(tactic| simp only [tSeq, tNext, tIfS, tAsg, gName, gSub, tRet, tRetN, tDrop, tVar, tC, tOp, tUn, rI0, rI, rU, tTest, tB, tAndV, tOrV, tNotV, tAnd, tOr, tNot, tIf, tChain, tCB, tCons, tNil, tLst, tTup, tCallC, List.getElem?_cons_zero, List.getElem?_cons_succ, List.set_cons_zero, List.set_cons_succ, Option.some.injEq, V.int.injEq, V.bl.injEq, V.ref.injEq, V.ty.injEq, V.str.injEq, List.cons.injEq, exists_eq_left', exists_eq_left, exists_and_left, and_true, true_and, and_assoc, cxK, rIxF, rSetL, rEq, rNe, scal, HO.lst.injEq, HO.tup.injEq, upd_none, ixN_10, ixN_20, ixN_21, ixN_30, ixN_31, ixN_32, upd_same, seqAt_updL, seqAt_updT, atI_0, atI_1, atI_2, atI_3, decide_eq_true_eq, L2.start, List.map_cons, List.map_nil, List.length_cons, List.length_nil, Nat.reduceAdd, Nat.reduceSub, List.replicate_succ, List.replicate_zero, List.cons_append, List.nil_append, List.append_nil, tFor_rng1, tFor_rng2, tFor_list, tFor_tup, CDv, CMul, CPow, sizeLine_eq, Int.reduceLE, Int.reduceLT, Int.reducePow, Int.reduceToNat, Int.reduceAdd, Int.reduceSub, Int.reduceMul, Int.reduceNeg, Nat.reduceLeDiff, Nat.reducePow, Nat.reduceLT, Int.reduceEq, true_or, or_true, ite_true, ite_false, if_true, if_false, Bool.not_true, Bool.not_false, Bool.false_eq_true, decide_true, decide_false, rIxQ, seqQ_updL, seqQ_updT, tupQ_updT, tSl, tNoPart, tPart, rSlQ, rSlTQ, rCatQ, tTupQ, tLstQ, tNever, rEqD, rInQ, gTupQ, gCons, gNil, tBM, tBM0, rAppend, rClear, tFor_rng3, tLc_rng1, tLc_rng2, tLc_list, tLc_tup, pick_nil, pick_own, pick_cap, join_some, tYes, gSlice, tCallKC, gk_11, gk_31, tLc2_list, bodyL_tup, bodyL_list, bodyE_eq])
def top (i : Nat) : Stmt := PySem.Challenge.pw_notefall_k18_poured_apart.main.body.getD i (.Pass ⟨0, 0, 0, 0⟩)
abbrev s_half_acts : Stmt := top 3
abbrev s_does : Stmt := top 4
abbrev s_has_key : Stmt := top 6
abbrev s_cut : Stmt := top 7
abbrev s_up_to : Stmt := top 9
abbrev s_touching : Stmt := top 10
abbrev s_within : Stmt := top 11
abbrev s_without : Stmt := top 12
abbrev s_seen : Stmt := top 13
abbrev s_poured : Stmt := top 14
abbrev s__law_well : Stmt := top 16
abbrev s__law_draw : Stmt := top 17
abbrev s__law_key : Stmt := top 18
abbrev s__law_base : Stmt := top 19
abbrev s__law_amount : Stmt := top 20
abbrev s__law_stretch : Stmt := top 21
abbrev s__law_action : Stmt := top 22
abbrev s__law_note : Stmt := top 23
abbrev s__law_done : Stmt := top 24
abbrev s__law_tray : Stmt := top 25
abbrev s__law_see : Stmt := top 26
abbrev s__law_keys : Stmt := top 27
abbrev s__law_cut : Stmt := top 28
abbrev s_law : Stmt := top 29
structure B (K : PySem.W.Frag) (mg : Str → Option Value) (aG : Addr) (tE : Tok) : Prop where
  len : mg "len" = none
  isinstance : mg "isinstance" = none
  int : mg "int" = none
  range : mg "range" = none
  min : mg "min" = none
  max : mg "max" = none
  list : mg "list" = none
  tuple : mg "tuple" = none
  GONE : mg "GONE" = some (.ref aG)
  kG : kTup K aG = some [.str "gone"]
  END : mg "END" = some (.int 1000000000000 tE)
theorem B.GONE_is {K : PySem.W.Frag} {mg : Str → Option Value} {aG : Addr} {tE : Tok} (_ : B K mg aG tE) : RelV (.ref aG) (.ref aG) := rfl
theorem B.END_is {K : PySem.W.Frag} {mg : Str → Option Value} {aG : Addr} {tE : Tok} (_ : B K mg aG tE) : RelV (.int 1000000000000) (.int 1000000000000 tE) := ⟨tE, rfl⟩
/-! ### halves and actions -/
inductive Half where
  | plus (n : Int) | is (n : Int) | gone
def Half.v : Half → List V
  | .plus n => [.str "plus", .int n]
  | .is n => [.str "is", .int n]
  | .gone => [.str "gone"]
def Half.noPlus : Half → Prop
  | .plus _ => False
  | _ => True
def oV : Option Int → V
  | some i => .int i
  | none => .non
def Half.f : Half → Option Int → Option Int
  | .plus n, some i => some (i + n)
  | .plus _, none => none
  | .is n, _ => some n
  | .gone, _ => none
def actF (t n : Half) : Option Int → Option Int
  | some i => t.f (some i)
  | none => n.f none
def Act (K : PySem.W.Frag) (H : Hp) (v : V) (t n : Half) : Prop := ∃ a r s, v = .ref a ∧ tupQ K H a = some [.ref r, .ref s] ∧ tupQ K H r = some t.v ∧ tupQ K H s = some n.v ∧ n.noPlus
theorem Act.ext {K : PySem.W.Frag} {H H' : Hp} {v : V} {t n : Half} (h : Act K H v t n) (x : Ext K H H') : Act K H' v t n := by
  obtain ⟨a, r, s, rfl, e1, e2, e3, e4⟩ := h
  exact ⟨a, r, s, rfl, x.tup e1, x.tup e2, x.tup e3, e4⟩
theorem Act.kp {K : PySem.W.Frag} {H H' : Hp} {v : V} {t n : Half} {p : Addr} {xs : List V} (h : Act K H v t n) (k : Kp K p H H') (hp : H p = some (.lst xs)) : Act K H' v t n := by
  obtain ⟨a, r, s, rfl, e1, e2, e3, e4⟩ := h
  exact ⟨a, r, s, rfl, k.tup hp e1, k.tup hp e2, k.tup hp e3, e4⟩
theorem s1 : ¬ (("plus" : Str) = "is") := by decide +kernel
theorem s2 : ¬ (("gone" : Str) = "is") := by decide +kernel
theorem s3 : ¬ (("is" : Str) = "plus") := by decide +kernel
theorem s4 : ¬ (("gone" : Str) = "plus") := by decide +kernel
def L3 (x y z : Int) : HO := .lst [.int x, .int y, .int z]
def spWell (K : PySem.W.Frag) : Sp := fun vs H Q _ => ∃ c, vs = [.int c] ∧ ∀ (p : Addr) (x y z : Int), new K H p → Q (.ref p) (upd H p (L3 x y z))
def spDraw (K : PySem.W.Frag) : Sp := fun vs H Q _ => ∃ p x y z m, vs = [.ref p, .int m] ∧ H p = some (L3 x y z) ∧ 0 < m ∧ m < 10 ^ 100 ∧
  ∀ (r x y z : Int) (H' : Hp), 0 ≤ r → r < m → H' p = some (L3 x y z) → Kp K p H H' → Q (.int r) H'
def spNumber (K : PySem.W.Frag) : Sp := fun vs H Q _ => ∃ p x y z, vs = [.ref p] ∧ H p = some (L3 x y z) ∧ ∀ (n x y z : Int) (H' : Hp), H' p = some (L3 x y z) → Kp K p H H' → Q (.int n) H'
def spAction (K : PySem.W.Frag) : Sp := fun vs H Q _ => ∃ p x y z, vs = [.ref p] ∧ H p = some (L3 x y z) ∧ ∀ (v : V) (t n : Half) (x y z : Int) (H' : Hp), Act K H' v t n → H' p = some (L3 x y z) → Kp K p H H' → Q v H'
def spDone (K : PySem.W.Frag) : Sp := fun vs H Q _ => ∃ v t n val, vs = [v, oV val] ∧ Act K H v t n ∧ ∀ H', Ext K H H' → Q (oV (actF t n val)) H'
section
variable {P : Program} {w : World} {K : PySem.W.Frag} {mg : Str → Option Value} {base : Heap}
theorem sc__law_well : FnScope ["_law_cell"] ["_law_cell"] (defScope s__law_well) := ⟨rfl, rfl, rfl, by decide +kernel, rfl, by decide +kernel, by decide +kernel⟩
theorem ok__law_well {f : Addr} {fd : FuncData} (F : Fun K "_law_well" "_law_well" s__law_well f fd) {aG : Addr} {tE : Tok} (B : B K mg aG tE) : FnOk P w K mg base CX0 1 f fd ["_law_cell"] (spWell K) := by
  refine F.okJ sc__law_well (fun vs H Q E h => ?_) (fun cdv A outer s H vs Q E hr h => ?_)
  · obtain ⟨c, rfl, _⟩ := h
    rfl
  obtain ⟨c, rfl, q⟩ := h
  refine ⟨_, (bone (sret (elstQ (acons (eop op_mul (ev 0) (ecallTy call_intB rfl B.int bt_int (acons (ecmp op_ge (ev 0) (epowc 1000000000000000000) (nomark _)) anil))) (acons (ev 0) (acons ei anil)))))), ?_⟩
  try walk_at "rd"
  refine ⟨?_, fun p hp => q p _ _ _ hp⟩
  right
  split <;> decide
theorem sc__law_draw : FnScope ["_law_well_here", "_law_many", "_law_found", "_law_low"] ["_law_well_here", "_law_many"] (defScope s__law_draw) := ⟨rfl, rfl, rfl, by decide +kernel, rfl, by decide +kernel, by decide +kernel⟩
theorem ok__law_draw {f : Addr} {fd : FuncData} (F : Fun K "_law_draw" "_law_draw" s__law_draw f fd) {aG : Addr} {tE : Tok} (B : B K mg aG tE) : FnOk P w K mg base CX0 1 f fd ["_law_well_here", "_law_many"] (spDraw K) := by
  refine F.okJ sc__law_draw (fun vs H Q E h => ?_) (fun cdv A outer s H vs Q E hr h => ?_)
  · obtain ⟨p, x, y, z, m, rfl, _⟩ := h
    rfl
  obtain ⟨p, x, y, z, m, rfl, hp, h0, h1, q⟩ := h
  unfold L3 at hp
  refine ⟨_, (bcons (sif (tcmp op_gt (eix ix_Q (ev 0) ei (fun _ _ => rfl)) ei (nomark _)) (bcons (sset (i := 2) sc__law_draw.nd rfl (Or.inl rfl) (eop op_mod (eix ix_Q (ev 0) ei (fun _ _ => rfl)) (ev 1)))
      (bcons (sasg (eop op_fdivP (eix ix_Q (ev 0) ei (fun _ _ => rfl)) (ev 1)) (gsub (ev 0) ei set_list))
      (bone (sret (ev 2))))) bnil)
      (bcons (sasg (eop op_add (eix ix_Q (ev 0) ei (fun _ _ => rfl)) ei) (gsub (ev 0) ei set_list))
      (bcons (sset (i := 3) sc__law_draw.nd rfl (Or.inl rfl) (eop op_add (eop op_mod (eix ix_Q (ev 0) ei (fun _ _ => rfl)) ei) (eop op_mul (eop op_fdivP (eix ix_Q (ev 0) ei (fun _ _ => rfl)) ei) ei)))
      (bcons (sset (i := 3) sc__law_draw.nd rfl (Or.inl rfl) (eop op_mod (eop op_mul (eop op_add (eop op_add (ev 3) (eop op_mul ei (eix ix_Q (ev 0) ei (fun _ _ => rfl)))) ei) ei) ei))
      (bcons (sset (i := 3) sc__law_draw.nd rfl (Or.inl rfl) (eop op_mod (eop op_mul (ev 3) (eop op_add (eop op_add (eop op_fdivP (ev 3) ei) ei) (eix ix_Q (ev 0) ei (fun _ _ => rfl)))) ei))
      (bone (sret (eop op_mod (eop op_mod (eop op_mul (ev 3) (eop op_add (eop op_fdivP (ev 3) ei) ei)) ei) (ev 1))))))))), ?_⟩
  simp only [tSeq, tNext, tIfS, tAsg, gName, gSub, tRet, tRetN, tDrop, tVar, tC, tOp, tUn, rI0, rI, rU, tTest, tB, tAndV, tOrV, tNotV, tAnd, tOr, tNot, tIf, tChain, tCB, tCons, tNil, tLst, tTup, tCallC, List.getElem?_cons_zero, List.getElem?_cons_succ, List.set_cons_zero, List.set_cons_succ, Option.some.injEq, V.int.injEq, V.bl.injEq, V.ref.injEq, V.ty.injEq, V.str.injEq, List.cons.injEq, exists_eq_left', exists_eq_left, exists_and_left, and_true, true_and, and_assoc, cxK, rIxF, rSetL, rEq, rNe, scal, HO.lst.injEq, HO.tup.injEq, upd_none, ixN_10, ixN_20, ixN_21, ixN_30, ixN_31, ixN_32, upd_same, seqAt_updL, seqAt_updT, atI_0, atI_1, atI_2, atI_3, decide_eq_true_eq, L2.start, List.map_cons, List.map_nil, List.length_cons, List.length_nil, Nat.reduceAdd, Nat.reduceSub, List.replicate_succ, List.replicate_zero, List.cons_append, List.nil_append, List.append_nil, tFor_rng1, tFor_rng2, tFor_list, tFor_tup, CDv, CMul, CPow, sizeLine_eq, Int.reduceLE, Int.reduceLT, Int.reducePow, Int.reduceToNat, Int.reduceAdd, Int.reduceSub, Int.reduceMul, Int.reduceNeg, Nat.reduceLeDiff, Nat.reducePow, Nat.reduceLT, Int.reduceEq, true_or, or_true, ite_true, ite_false, if_true, if_false, Bool.not_true, Bool.not_false, Bool.false_eq_true, decide_true, decide_false, rIxQ, seqQ_updL, seqQ_updT, tupQ_updT, tSl, tNoPart, tPart, rSlQ, rSlTQ, rCatQ, tTupQ, tLstQ, new_upd, tNever, rEqD, rInQ, gTupQ, gCons, gNil, tBM, tBM0, rAppend, rClear, tFor_rng3, tLc_rng1, tLc_rng2, tLc_list, tLc_tup, pick_nil, pick_own, pick_cap, join_some, tYes, gSlice, tCallKC, gk_11, gk_31, tLc2_list, bodyL_tup, bodyL_list, bodyE_eq, hp,  seqQ_lst hp]
  have g : ∀ (u v z : Int), Kp K p H (upd H p (L3 u v z)) := fun u v z => Kp.upd hp
  refine ite2 (fun c => ⟨h0, h0, by omega, ?_⟩) (fun c => ?_)
  · exact q _ _ _ _ _ (Int.emod_nonneg _ (by omega)) (Int.emod_lt_of_pos _ h0) upd_same (g _ _ _)
  · refine ⟨?_, ?_, h0, q _ _ _ _ _ (Int.emod_nonneg _ (by omega)) (Int.emod_lt_of_pos _ h0) upd_same (g _ _ _)⟩
    all_goals omega
theorem oV_n : oV none = .non := rfl
theorem oV_s {i : Int} : oV (some i) = .int i := rfl
/-! ### keys, stretches and notes that the law draws -/
def spKeyL (K : PySem.W.Frag) : Sp := fun vs H Q _ => ∃ p x y z b, vs = [.ref p, .int b] ∧ H p = some (L3 x y z) ∧ 0 ≤ b ∧ b ≤ 999999999976 ∧ ∀ (k x y z : Int) (H' : Hp), 0 ≤ k → k < 1000000000000 → H' p = some (L3 x y z) → Kp K p H H' → Q (.int k) H'
def spBaseL (K : PySem.W.Frag) : Sp := fun vs H Q _ => ∃ p x y z, vs = [.ref p] ∧ H p = some (L3 x y z) ∧ ∀ (b x y z : Int) (H' : Hp), 0 ≤ b → b ≤ 999999999976 → H' p = some (L3 x y z) → Kp K p H H' → Q (.int b) H'
def spAmountL (K : PySem.W.Frag) : Sp := fun vs H Q _ => ∃ p x y z, vs = [.ref p] ∧ H p = some (L3 x y z) ∧ ∀ (n x y z : Int) (H' : Hp), H' p = some (L3 x y z) → Kp K p H H' → Q (.int n) H'
def spStretchL (K : PySem.W.Frag) : Sp := fun vs H Q _ => ∃ p x y z b, vs = [.ref p, .int b] ∧ H p = some (L3 x y z) ∧ 0 ≤ b ∧ b ≤ 999999999976 ∧
  ∀ (a : Addr) (lo hi x y z : Int) (H' : Hp), tupQ K H' a = some [.int lo, .int hi] → 0 ≤ lo → lo < hi → hi ≤ 1000000000000 → H' p = some (L3 x y z) → Kp K p H H' → Q (.ref a) H'
def spActionL (K : PySem.W.Frag) : Sp := fun vs H Q _ => ∃ p x y z one, vs = [.ref p, .bl one] ∧ H p = some (L3 x y z) ∧
  ∀ (v : V) (t n : Half) (x y z : Int) (H' : Hp), Act K H' v t n → (one = false → n = .gone) → H' p = some (L3 x y z) → Kp K p H H' → Q v H'
/-- a note: number, low, high, and its action's halves -/
structure Nt where
  n : Int
  lo : Int
  hi : Int
  t : Half
  m : Half
structure Nt.ok (e : Nt) : Prop where
  n1 : 1 ≤ e.n
  lo0 : 0 ≤ e.lo
  lt : e.lo < e.hi
  hi1 : e.hi ≤ 1000000000000
  one : e.hi - e.lo = 1 ∨ e.m = .gone
  np : e.m.noPlus
def NoteAt (K : PySem.W.Frag) (H : Hp) (v : V) (e : Nt) : Prop := ∃ a w, v = .ref a ∧ tupQ K H a = some [.int e.n, .int e.lo, .int e.hi, w] ∧ Act K H w e.t e.m
theorem NoteAt.ext {K : PySem.W.Frag} {H H' : Hp} {v : V} {e : Nt} (h : NoteAt K H v e) (x : Ext K H H') : NoteAt K H' v e := by
  obtain ⟨a, w, rfl, h1, h2⟩ := h
  exact ⟨a, w, rfl, x.tup h1, h2.ext x⟩
theorem NoteAt.kp {K : PySem.W.Frag} {H H' : Hp} {v : V} {e : Nt} {p : Addr} {xs : List V} (h : NoteAt K H v e) (k : Kp K p H H') (hp : H p = some (.lst xs)) : NoteAt K H' v e := by
  obtain ⟨a, w, rfl, h1, h2⟩ := h
  exact ⟨a, w, rfl, k.tup hp h1, h2.kp k hp⟩
def spNoteL (K : PySem.W.Frag) : Sp := fun vs H Q _ => ∃ p x y z b n, vs = [.ref p, .int b, .int n] ∧ H p = some (L3 x y z) ∧ 0 ≤ b ∧ b ≤ 999999999976 ∧ 1 ≤ n ∧
  ∀ (v : V) (e : Nt) (x y z : Int) (H' : Hp), NoteAt K H' v e → e.ok → e.n = n → H' p = some (L3 x y z) → Kp K p H H' → Q v H'
theorem sc__law_key : FnScope ["_law_well_here", "_law_base_here", "_law_way"] ["_law_well_here", "_law_base_here"] (defScope s__law_key) := ⟨rfl, rfl, rfl, by decide +kernel, rfl, by decide +kernel, by decide +kernel⟩
theorem ok__law_key {f : Addr} {fd : FuncData} (F : Fun K "_law_key" "_law_key" s__law_key f fd) {aG : Addr} {tE : Tok} (B : B K mg aG tE) (C__law_draw : Callee P w K mg base "_law_draw" 1 ["_law_well_here", "_law_many"] (spDraw K)) : FnOk P w K mg base CX0 2 f fd ["_law_well_here", "_law_base_here"] (spKeyL K) := by
  refine F.okJ sc__law_key (fun vs H Q E h => ?_) (fun cdv A outer s H vs Q E hr h => ?_)
  · obtain ⟨p, x, y, z, b, rfl, _⟩ := h
    rfl
  obtain ⟨p, x, y, z, b, rfl, hp, b0, b1, q⟩ := h
  refine ⟨_, (bcons (sset (i := 2) sc__law_key.nd rfl (Or.inl rfl) (ecall C__law_draw (hr.mono (by decide)) rfl (acons (ev 0) (acons ei anil))))
      (bcons (sif (tcmp op_eq (ev 2) ei (nomark _)) (bone (sret (eop op_add (eop op_mul (ecall C__law_draw (hr.mono (by decide)) rfl (acons (ev 0) (acons (epowc 1000000) anil))) (epowc 1000000)) (ecall C__law_draw (hr.mono (by decide)) rfl (acons (ev 0) (acons (epowc 1000000) anil)))))) bnil)
      (bone (sret (eop op_add (ev 1) (ecall C__law_draw (hr.mono (by decide)) rfl (acons (ev 0) (acons ei anil)))))))), ?_⟩
  try walk_at "rn"
  refine ⟨p, _, _, _, 6, rfl, hp, by decide, by omega, fun way x y z H1 _ _ g1 k1 => ?_⟩
  try walk_at "rn"
  refine ite2 (fun c => ?_) (fun c => ?_)
  · refine ⟨p, _, _, _, _, rfl, g1, by decide, by omega, fun r x y z H2 r0 r1 g2 k2 => ?_⟩
    try walk_at "rn"
    refine ⟨p, _, _, _, _, rfl, g2, by decide, by omega, fun r' x y z H3 r0' r1' g3 k3 => ?_⟩
    try walk_at "rn"
    exact q _ _ _ _ _ (by omega) (by omega) g3 (k1.trans (k2.trans k3))
  · refine ⟨p, _, _, _, 24, rfl, g1, by decide, by omega, fun r x y z H2 r0 r1 g2 k2 => ?_⟩
    try walk_at "rn"
    exact q _ _ _ _ _ (by omega) (by omega) g2 (k1.trans k2)
theorem sc__law_base : FnScope ["_law_well_here"] ["_law_well_here"] (defScope s__law_base) := ⟨rfl, rfl, rfl, by decide +kernel, rfl, by decide +kernel, by decide +kernel⟩
theorem ok__law_base {f : Addr} {fd : FuncData} (F : Fun K "_law_base" "_law_base" s__law_base f fd) {aG : Addr} {tE : Tok} (B : B K mg aG tE) (C__law_draw : Callee P w K mg base "_law_draw" 1 ["_law_well_here", "_law_many"] (spDraw K)) : FnOk P w K mg base CX0 2 f fd ["_law_well_here"] (spBaseL K) := by
  refine F.okJ sc__law_base (fun vs H Q E h => ?_) (fun cdv A outer s H vs Q E hr h => ?_)
  · obtain ⟨p, x, y, z, rfl, _⟩ := h
    rfl
  obtain ⟨p, x, y, z, rfl, hp, q⟩ := h
  refine ⟨_, (bone (sret (eix ix_Q (elstQ (acons ei (acons (eop op_sub (epowc 1000000000000) ei) (acons ei (acons (eop op_mul (ecall C__law_draw (hr.mono (by decide)) rfl (acons (ev 0) (acons (epowc 1000000) anil))) (epowc 100000)) anil))))) (ecall C__law_draw (hr.mono (by decide)) rfl (acons (ev 0) (acons ei anil))) (fun _ _ => rfl)))), ?_⟩
  try walk_at "rn"
  refine ⟨p, _, _, _, _, rfl, hp, by decide, by omega, fun d x y z H1 d0 d1 g1 k1 => ?_⟩
  try walk_at "rn"
  intro b1 n1
  have x1 := Ext.new (K := K) (o := .lst [.int 0, .int 999999999976, .int 1000, .int (d * 100000)]) n1
  refine ⟨p, _, _, _, 4, rfl, x1.at g1, by decide, by omega, fun r x y z H2 r0 r1 g2 k2 => ?_⟩
  have ne : b1 ≠ p := (ne_of_none g1 n1.1).symm
  simp only [tSeq, tNext, tIfS, tAsg, gName, gSub, tRet, tRetN, tDrop, tVar, tC, tOp, tUn, rI0, rI, rU, tTest, tB, tAndV, tOrV, tNotV, tAnd, tOr, tNot, tIf, tChain, tCB, tCons, tNil, tLst, tTup, tCallC, List.getElem?_cons_zero, List.getElem?_cons_succ, List.set_cons_zero, List.set_cons_succ, Option.some.injEq, V.int.injEq, V.bl.injEq, V.ref.injEq, V.ty.injEq, V.str.injEq, List.cons.injEq, exists_eq_left', exists_eq_left, exists_and_left, and_true, true_and, and_assoc, cxK, rIxF, rSetL, rEq, rNe, scal, HO.lst.injEq, HO.tup.injEq, upd_none, ixN_10, ixN_20, ixN_21, ixN_30, ixN_31, ixN_32, upd_same, seqAt_updL, seqAt_updT, atI_0, atI_1, atI_2, atI_3, decide_eq_true_eq, L2.start, List.map_cons, List.map_nil, List.length_cons, List.length_nil, Nat.reduceAdd, Nat.reduceSub, List.replicate_succ, List.replicate_zero, List.cons_append, List.nil_append, List.append_nil, tFor_rng1, tFor_rng2, tFor_list, tFor_tup, CDv, CMul, CPow, sizeLine_eq, Int.reduceLE, Int.reduceLT, Int.reducePow, Int.reduceToNat, Int.reduceAdd, Int.reduceSub, Int.reduceMul, Int.reduceNeg, Nat.reduceLeDiff, Nat.reducePow, Nat.reduceLT, Int.reduceEq, true_or, or_true, ite_true, ite_false, if_true, if_false, Bool.not_true, Bool.not_false, Bool.false_eq_true, decide_true, decide_false, rIxQ, seqQ_updL, seqQ_updT, tupQ_updT, tSl, tNoPart, tPart, rSlQ, rSlTQ, rCatQ, tTupQ, tLstQ, tNever, rEqD, rInQ, gTupQ, gCons, gNil, tBM, tBM0, rAppend, rClear, tFor_rng3, tLc_rng1, tLc_rng2, tLc_list, tLc_tup, pick_nil, pick_own, pick_cap, join_some, tYes, gSlice, tCallKC, gk_11, gk_31, tLc2_list, bodyL_tup, bodyL_list, bodyE_eq, seqQ_lst (k2.keep b1 _ upd_same ne)]
  obtain ⟨v, ev, mv⟩ := atI_in (xs := [V.int 0, V.int 999999999976, V.int 1000, V.int (d * 100000)]) r0 r1
  obtain ⟨b, rfl, hb0, hb1⟩ : ∃ n : Int, v = .int n ∧ 0 ≤ n ∧ n ≤ 999999999976 := by
    simp only [List.mem_cons, List.not_mem_nil, or_false] at mv
    rcases mv with rfl | rfl | rfl | rfl <;> exact ⟨_, rfl, by omega, by omega⟩
  exact ⟨_, ev, q _ _ _ _ _ hb0 hb1 g2 (k1.trans (x1.kp.trans k2))⟩
theorem sc__law_amount : FnScope ["_law_well_here", "_law_way", "_law_sign", "_law_near"] ["_law_well_here"] (defScope s__law_amount) := ⟨rfl, rfl, rfl, by decide +kernel, rfl, by decide +kernel, by decide +kernel⟩
theorem ok__law_amount {f : Addr} {fd : FuncData} (F : Fun K "_law_amount" "_law_amount" s__law_amount f fd) {aG : Addr} {tE : Tok} (B : B K mg aG tE) (C__law_draw : Callee P w K mg base "_law_draw" 1 ["_law_well_here", "_law_many"] (spDraw K)) : FnOk P w K mg base CX0 2 f fd ["_law_well_here"] (spAmountL K) := by
  refine F.okJ sc__law_amount (fun vs H Q E h => ?_) (fun cdv A outer s H vs Q E hr h => ?_)
  · obtain ⟨p, x, y, z, rfl, _⟩ := h
    rfl
  obtain ⟨p, x, y, z, rfl, hp, q⟩ := h
  refine ⟨_, (bcons (sset (i := 1) sc__law_amount.nd rfl (Or.inl rfl) (ecall C__law_draw (hr.mono (by decide)) rfl (acons (ev 0) (acons ei anil))))
      (bcons (sset (i := 2) sc__law_amount.nd rfl (Or.inl rfl) (eix ix_Q (elstQ (acons ei (acons ei (acons (eun un_neg ei) anil)))) (ecall C__law_draw (hr.mono (by decide)) rfl (acons (ev 0) (acons ei anil))) (fun _ _ => rfl)))
      (bcons (sset (i := 3) sc__law_amount.nd rfl (Or.inl rfl) (ecall C__law_draw (hr.mono (by decide)) rfl (acons (ev 0) (acons (eix ix_Q (elstQ (acons ei (acons ei (acons (epowc 1000000000) (acons (epowc 1000000000) anil))))) (ev 1) (fun _ _ => rfl)) anil))))
      (bone (sret (eop op_mul (eop op_mul (ev 2) (ev 3)) (eix ix_Q (elstQ (acons ei (acons ei (acons ei (acons (epowc 1000000000000000000000) anil))))) (ev 1) (fun _ _ => rfl)))))))), ?_⟩
  try walk_at "rn"
  refine ⟨p, _, _, _, 4, rfl, hp, by decide, by omega, fun way x y z H1 w0 w1 g1 k1 => ?_⟩
  try walk_at "rn"
  intro b1 n1
  have x1 := Ext.new (K := K) (o := .lst [.int 1, .int 1, .int (-1)]) n1
  refine ⟨p, _, _, _, 3, rfl, x1.at g1, by decide, by omega, fun r x y z H2 r0 r1 g2 k2 => ?_⟩
  simp only [tSeq, tNext, tIfS, tAsg, gName, gSub, tRet, tRetN, tDrop, tVar, tC, tOp, tUn, rI0, rI, rU, tTest, tB, tAndV, tOrV, tNotV, tAnd, tOr, tNot, tIf, tChain, tCB, tCons, tNil, tLst, tTup, tCallC, List.getElem?_cons_zero, List.getElem?_cons_succ, List.set_cons_zero, List.set_cons_succ, Option.some.injEq, V.int.injEq, V.bl.injEq, V.ref.injEq, V.ty.injEq, V.str.injEq, List.cons.injEq, exists_eq_left', exists_eq_left, exists_and_left, and_true, true_and, and_assoc, cxK, rIxF, rSetL, rEq, rNe, scal, HO.lst.injEq, HO.tup.injEq, upd_none, ixN_10, ixN_20, ixN_21, ixN_30, ixN_31, ixN_32, upd_same, seqAt_updL, seqAt_updT, atI_0, atI_1, atI_2, atI_3, decide_eq_true_eq, L2.start, List.map_cons, List.map_nil, List.length_cons, List.length_nil, Nat.reduceAdd, Nat.reduceSub, List.replicate_succ, List.replicate_zero, List.cons_append, List.nil_append, List.append_nil, tFor_rng1, tFor_rng2, tFor_list, tFor_tup, CDv, CMul, CPow, sizeLine_eq, Int.reduceLE, Int.reduceLT, Int.reducePow, Int.reduceToNat, Int.reduceAdd, Int.reduceSub, Int.reduceMul, Int.reduceNeg, Nat.reduceLeDiff, Nat.reducePow, Nat.reduceLT, Int.reduceEq, true_or, or_true, ite_true, ite_false, if_true, if_false, Bool.not_true, Bool.not_false, Bool.false_eq_true, decide_true, decide_false, rIxQ, seqQ_updL, seqQ_updT, tupQ_updT, tSl, tNoPart, tPart, rSlQ, rSlTQ, rCatQ, tTupQ, tLstQ, tNever, rEqD, rInQ, gTupQ, gCons, gNil, tBM, tBM0, rAppend, rClear, tFor_rng3, tLc_rng1, tLc_rng2, tLc_list, tLc_tup, pick_nil, pick_own, pick_cap, join_some, tYes, gSlice, tCallKC, gk_11, gk_31, tLc2_list, bodyL_tup, bodyL_list, bodyE_eq, seqQ_lst (k2.keep b1 _ upd_same (ne_of_none g1 n1.1).symm)]
  obtain ⟨v, ev, mv⟩ := atI_in (xs := [V.int 1, V.int 1, V.int (-1)]) r0 r1
  obtain ⟨sg, rfl, hsg⟩ : ∃ n, v = V.int n ∧ -2 < n ∧ n < 2 := by
    simp only [List.mem_cons, List.not_mem_nil, or_false] at mv
    rcases mv with rfl | rfl | rfl <;> exact ⟨_, rfl, by decide, by decide⟩
  refine ⟨_, ev, fun b2 n2 => ?_⟩
  have x2 := Ext.new (K := K) (o := .lst [.int 4, .int 30, .int 1000000000, .int 1000000000]) n2
  obtain ⟨u, eu, mu⟩ := atI_in (xs := [V.int 4, V.int 30, V.int 1000000000, V.int 1000000000]) w0 w1
  obtain ⟨m, rfl, hm0, hm1⟩ : ∃ n, u = V.int n ∧ 0 < n ∧ n ≤ 1000000000 := by
    simp only [List.mem_cons, List.not_mem_nil, or_false] at mu
    rcases mu with rfl | rfl | rfl | rfl <;> exact ⟨_, rfl, by decide, by decide⟩
  refine ⟨_, eu, p, _, _, _, m, rfl, x2.at g2, hm0, by omega, fun near x y z H3 e0 e1 g3 k3 => ?_⟩
  try walk_at "rn"
  obtain ⟨v4, ev4, mv4⟩ := atI_in (xs := [V.int 1, V.int 1, V.int 1, V.int 1000000000000000000000]) w0 w1
  obtain ⟨m4, rfl⟩ : ∃ n, v4 = V.int n := by
    simp only [List.mem_cons, List.not_mem_nil, or_false] at mv4
    rcases mv4 with rfl | rfl | rfl | rfl <;> exact ⟨_, rfl⟩
  have hs : -(1000000000 : Int) ≤ sg * near ∧ sg * near ≤ 1000000000 := by
    have : sg = -1 ∨ sg = 0 ∨ sg = 1 := by omega
    rcases this with rfl | rfl | rfl <;> omega
  refine ⟨.inl ⟨by omega, by omega⟩, fun b5 n5 => ⟨_, ev4, _, rfl, .inl ⟨by omega, by omega⟩, ?_⟩⟩
  exact q _ _ _ _ _ ((Ext.new n5).at g3) (k1.trans (x1.kp.trans (k2.trans (x2.kp.trans (k3.trans (Ext.new n5).kp)))))
theorem sc__law_stretch : FnScope ["_law_well_here", "_law_base_here", "_law_way", "_law_low", "_law_far"] ["_law_well_here", "_law_base_here"] (defScope s__law_stretch) := ⟨rfl, rfl, rfl, by decide +kernel, rfl, by decide +kernel, by decide +kernel⟩
theorem ok__law_stretch {f : Addr} {fd : FuncData} (F : Fun K "_law_stretch" "_law_stretch" s__law_stretch f fd) {aG : Addr} {tE : Tok} (B : B K mg aG tE) (C__law_draw : Callee P w K mg base "_law_draw" 1 ["_law_well_here", "_law_many"] (spDraw K)) (C__law_key : Callee P w K mg base "_law_key" 2 ["_law_well_here", "_law_base_here"] (spKeyL K)) : FnOk P w K mg base CX0 3 f fd ["_law_well_here", "_law_base_here"] (spStretchL K) := by
  refine F.okJ sc__law_stretch (fun vs H Q E h => ?_) (fun cdv A outer s H vs Q E hr h => ?_)
  · obtain ⟨p, x, y, z, b, rfl, _⟩ := h
    rfl
  obtain ⟨p, x, y, z, b, rfl, hp, b0, b1, q⟩ := h
  refine ⟨_, (bcons (sset (i := 2) sc__law_stretch.nd rfl (Or.inl rfl) (ecall C__law_draw (hr.mono (by decide)) rfl (acons (ev 0) (acons ei anil))))
      (bcons (sset (i := 3) sc__law_stretch.nd rfl (Or.inl rfl) (ecall C__law_key (hr.mono (by decide)) rfl (acons (ev 0) (acons (ev 1) anil))))
      (bcons (sif (tcmp op_eq (ev 2) ei (nomark _)) (bone (sret (etupQ (acons ei (acons (epowc 1000000000000) anil))))) bnil)
      (bcons (sif (tcmp op_eq (ev 2) ei (nomark _)) (bone (sret (etupQ (acons (ev 3) (acons (epowc 1000000000000) anil))))) bnil)
      (bcons (sset (i := 4) sc__law_stretch.nd rfl (Or.inl rfl) (eix ix_Q (elstQ (acons ei (acons (eop op_add ei (ecall C__law_draw (hr.mono (by decide)) rfl (acons (ev 0) (acons ei anil)))) (acons (eop op_add ei (ecall C__law_draw (hr.mono (by decide)) rfl (acons (ev 0) (acons (epowc 1000000000) anil)))) anil)))) (eop op_mod (ev 2) ei) (fun _ _ => rfl)))
      (bone (sret (etupQ (acons (ev 3) (acons (ecallB (call_min2 rfl) rfl B.min bt_min (acons (epowc 1000000000000) (acons (eop op_add (ev 3) (ev 4)) anil))) anil)))))))))), ?_⟩
  try walk_at "rn"
  refine ⟨p, _, _, _, 9, rfl, hp, by decide, by omega, fun way x y z H1 w0 w1 g1 k1 => ?_⟩
  try walk_at "rn"
  refine ⟨p, _, _, _, b, rfl, g1, b0, b1, fun k x y z H2 r0 r1 g2 k2 => ?_⟩
  have k12 := k1.trans k2
  try walk_at "rn"
  refine ite2 (fun c => fun b3 n3 => ?_) (fun c => ?_)
  · exact q b3 0 1000000000000 _ _ _ _ tupQ_updT (by omega) (by omega) (by omega) ((Ext.new n3).at g2) (k12.trans (Ext.new n3).kp)
  refine ite2 (fun c => fun b3 n3 => ?_) (fun c => ?_)
  · exact q b3 k 1000000000000 _ _ _ _ tupQ_updT (by omega) (by omega) (by omega) ((Ext.new n3).at g2) (k12.trans (Ext.new n3).kp)
  refine ⟨p, _, _, _, 20, rfl, g2, by decide, by omega, fun d x y z H3 d0 _ g3 k3 => ?_⟩
  try walk_at "rn"
  refine ⟨p, _, _, _, _, rfl, g3, by decide, by omega, fun d' x y z H4 d0' _ g4 k4 => ?_⟩
  try walk_at "rn"
  intro b5 n5
  obtain ⟨v, ev, mv⟩ := atI_in (xs := [V.int 1, V.int (1 + d), V.int (1 + d')]) (k := way % 3) (by omega) (by show way % 3 < 3; omega)
  obtain ⟨fa, rfl, hf⟩ : ∃ n : Int, v = .int n ∧ 1 ≤ n := by
    simp only [List.mem_cons, List.not_mem_nil, or_false] at mv
    rcases mv with rfl | rfl | rfl <;> exact ⟨_, rfl, by omega⟩
  refine ⟨_, ev, ?_⟩
  try walk_at "rn"
  intro b6 n6
  have x6 := (Ext.new (K := K) (o := .lst [.int 1, .int (1 + d), .int (1 + d')]) n5)
  refine q b6 k (if k + fa < 1000000000000 then k + fa else 1000000000000) _ _ _ _ tupQ_updT (by omega) ?_ ?_ ((x6.trans (Ext.new n6)).at g4) (k12.trans (k3.trans (k4.trans (x6.trans (Ext.new n6)).kp)))
  · split <;> omega
  · split <;> omega
theorem sc__law_action : FnScope ["_law_well_here", "_law_is_one", "_law_way", "_law_amount_here", "_law_there"] ["_law_well_here", "_law_is_one"] (defScope s__law_action) := ⟨rfl, rfl, rfl, by decide +kernel, rfl, by decide +kernel, by decide +kernel⟩
theorem ok__law_action {f : Addr} {fd : FuncData} (F : Fun K "_law_action" "_law_action" s__law_action f fd) {aG : Addr} {tE : Tok} (B : B K mg aG tE) (C__law_draw : Callee P w K mg base "_law_draw" 1 ["_law_well_here", "_law_many"] (spDraw K)) (C__law_amount : Callee P w K mg base "_law_amount" 2 ["_law_well_here"] (spAmountL K)) : FnOk P w K mg base CX0 3 f fd ["_law_well_here", "_law_is_one"] (spActionL K) := by
  refine F.okJ sc__law_action (fun vs H Q E h => ?_) (fun cdv A outer s H vs Q E hr h => ?_)
  · obtain ⟨p, x, y, z, one, rfl, _⟩ := h
    rfl
  obtain ⟨p, x, y, z, one, rfl, hp, q⟩ := h
  refine ⟨_, (bcons (sset (i := 2) sc__law_action.nd rfl (Or.inl rfl) (ecall C__law_draw (hr.mono (by decide)) rfl (acons (ev 0) (acons ei anil))))
      (bcons (sset (i := 3) sc__law_action.nd rfl (Or.inl rfl) (ecall C__law_amount (hr.mono (by decide)) rfl (acons (ev 0) anil)))
      (bcons (sset (i := 4) sc__law_action.nd rfl (Or.inl rfl) (eix ix_Q (elstQ (acons (etupQ (acons estr (acons (ev 3) anil))) (acons (etupQ (acons estr (acons (ev 3) anil))) (acons (etupQ (acons estr anil)) anil)))) (eop op_mod (ev 2) ei) (fun _ _ => rfl)))
      (bone (sret (etupQ (acons (ev 4) (acons (eix ix_Q (elstQ (acons (etupQ (acons estr anil)) (acons (etupQ (acons estr (acons (eop op_add (ev 3) ei) anil))) anil))) (eop op_mul (eop op_fdivP (ev 2) ei) (ecallTy call_intB rfl B.int bt_int (acons (ev 1) anil))) (fun _ _ => rfl)) anil)))))))), ?_⟩
  try walk_at "rn"
  refine ⟨p, _, _, _, 6, rfl, hp, by decide, by omega, fun way x y z H1 w0 w1 g1 k1 => ?_⟩
  try walk_at "rn"
  refine ⟨p, _, _, _, rfl, g1, fun n x y z H2 g2 k2 => ?_⟩
  try walk_at "rn"
  intro p1 n1 p2 n2 p3 n3 p4 n4
  obtain ⟨v1, hv1, mv1⟩ := atI_in (xs := [V.ref p1, V.ref p2, V.ref p3]) (k := way % 3) (by omega) (by show way % 3 < 3; omega)
  refine ⟨v1, hv1, ?_⟩
  intro p5 n5 p6 n6 p7 n7
  have x7 : Ext K H2 (upd (upd (upd (upd (upd (upd (upd H2 p1 (.tup [.str "plus", .int n])) p2 (.tup [.str "is", .int n])) p3 (.tup [.str "gone"])) p4 (.lst [.ref p1, .ref p2, .ref p3])) p5 (.tup [.str "gone"])) p6 (.tup [.str "is", .int (n + 1)])) p7 (.lst [.ref p5, .ref p6])) := (Ext.new n1).trans ((Ext.new n2).trans ((Ext.new n3).trans ((Ext.new n4).trans ((Ext.new n5).trans ((Ext.new n6).trans (Ext.new n7))))))
  have e5 : tupQ K (upd (upd (upd (upd (upd (upd (upd H2 p1 (.tup [.str "plus", .int n])) p2 (.tup [.str "is", .int n])) p3 (.tup [.str "gone"])) p4 (.lst [.ref p1, .ref p2, .ref p3])) p5 (.tup [.str "gone"])) p6 (.tup [.str "is", .int (n + 1)])) p7 (.lst [.ref p5, .ref p6])) p5 = some [.str "gone"] := ((Ext.new n6).trans (Ext.new n7)).tup tupQ_updT
  have e6 : tupQ K (upd (upd (upd (upd (upd (upd (upd H2 p1 (.tup [.str "plus", .int n])) p2 (.tup [.str "is", .int n])) p3 (.tup [.str "gone"])) p4 (.lst [.ref p1, .ref p2, .ref p3])) p5 (.tup [.str "gone"])) p6 (.tup [.str "is", .int (n + 1)])) p7 (.lst [.ref p5, .ref p6])) p6 = some [.str "is", .int (n + 1)] := (Ext.new n7).tup tupQ_updT
  obtain ⟨r1, t1, rfl, et⟩ : ∃ r1 t1, v1 = .ref r1 ∧ tupQ K (upd (upd (upd (upd (upd (upd (upd H2 p1 (.tup [.str "plus", .int n])) p2 (.tup [.str "is", .int n])) p3 (.tup [.str "gone"])) p4 (.lst [.ref p1, .ref p2, .ref p3])) p5 (.tup [.str "gone"])) p6 (.tup [.str "is", .int (n + 1)])) p7 (.lst [.ref p5, .ref p6])) r1 = some (Half.v t1) := by
    simp only [List.mem_cons, List.not_mem_nil, or_false] at mv1
    rcases mv1 with rfl | rfl | rfl
    · exact ⟨p1, .plus n, rfl, ((Ext.new n2).trans ((Ext.new n3).trans ((Ext.new n4).trans ((Ext.new n5).trans ((Ext.new n6).trans (Ext.new n7)))))).tup tupQ_updT⟩
    · exact ⟨p2, .is n, rfl, ((Ext.new n3).trans ((Ext.new n4).trans ((Ext.new n5).trans ((Ext.new n6).trans (Ext.new n7))))).tup tupQ_updT⟩
    · exact ⟨p3, .gone, rfl, ((Ext.new n4).trans ((Ext.new n5).trans ((Ext.new n6).trans (Ext.new n7)))).tup tupQ_updT⟩
  generalize upd (upd (upd (upd (upd (upd (upd H2 p1 (.tup [.str "plus", .int n])) p2 (.tup [.str "is", .int n])) p3 (.tup [.str "gone"])) p4 (.lst [.ref p1, .ref p2, .ref p3])) p5 (.tup [.str "gone"])) p6 (.tup [.str "is", .int (n + 1)])) p7 (.lst [.ref p5, .ref p6]) = G at x7 e5 e6 et ⊢
  have k2' := k1.trans (k2.trans x7.kp)
  have hw : way / 3 = 0 ∨ way / 3 = 1 := by omega
  have fin : ∀ (r2 : Addr) (t2 : Half), tupQ K G r2 = some (Half.v t2) → t2.noPlus → (one = false → t2 = .gone) → ∀ p8, new K G p8 → Q (.ref p8) (upd G p8 (.tup [.ref r1, .ref r2])) := fun r2 t2 e2 np h1 p8 n8 =>
    q _ t1 t2 _ _ _ _ ⟨p8, r1, r2, rfl, tupQ_updT, (Ext.new n8).tup et, (Ext.new n8).tup e2, np⟩ h1 ((x7.trans (Ext.new n8)).at g2) (k2'.trans (Ext.new n8).kp)
  refine ⟨by cases one <;> omega, ?_⟩
  cases one with
  | false => exact ⟨.ref p5, by rcases hw with h | h <;> rw [h] <;> rfl, fin p5 .gone e5 trivial fun _ => rfl⟩
  | true =>
    rcases hw with h | h
    · exact ⟨.ref p5, by rw [h]; rfl, fin p5 .gone e5 trivial fun z => nomatch z⟩
    · exact ⟨.ref p6, by rw [h]; rfl, fin p6 (.is (n + 1)) e6 trivial fun z => nomatch z⟩
theorem sc__law_note : FnScope ["_law_well_here", "_law_base_here", "_law_number", "_law_low", "_law_high"] ["_law_well_here", "_law_base_here", "_law_number"] (defScope s__law_note) := ⟨rfl, rfl, rfl, by decide +kernel, rfl, by decide +kernel, by decide +kernel⟩
theorem ok__law_note {f : Addr} {fd : FuncData} (F : Fun K "_law_note" "_law_note" s__law_note f fd) {aG : Addr} {tE : Tok} (B : B K mg aG tE) (C__law_stretch : Callee P w K mg base "_law_stretch" 3 ["_law_well_here", "_law_base_here"] (spStretchL K)) (C__law_action : Callee P w K mg base "_law_action" 3 ["_law_well_here", "_law_is_one"] (spActionL K)) : FnOk P w K mg base CX0 4 f fd ["_law_well_here", "_law_base_here", "_law_number"] (spNoteL K) := by
  refine F.okJ sc__law_note (fun vs H Q E h => ?_) (fun cdv A outer s H vs Q E hr h => ?_)
  · obtain ⟨p, x, y, z, b, n, rfl, _⟩ := h
    rfl
  obtain ⟨p, x, y, z, b, n, rfl, hp, b0, b1, n1, q⟩ := h
  refine ⟨_, (bcons (sasg (ecall C__law_stretch (hr.mono (by decide)) rfl (acons (ev 0) (acons (ev 1) anil))) (gtupQ (n := 2) rfl (gcons (gname (i := 3) sc__law_note.nd rfl (Or.inl rfl)) (gcons (gname (i := 4) sc__law_note.nd rfl (Or.inl rfl)) gnil))))
      (bone (sret (etupQ (acons (ev 2) (acons (ev 3) (acons (ev 4) (acons (ecall C__law_action (hr.mono (by decide)) rfl (acons (ev 0) (acons (ecmp op_eq (eop op_sub (ev 4) (ev 3)) ei (nomark _)) anil))) anil)))))))), ?_⟩
  try walk_at "rn"
  refine ⟨p, _, _, _, b, rfl, hp, b0, b1, fun a lo hi x y z H1 ea l0 lh h1 g1 k1 => ?_⟩
  simp only [tSeq, tNext, tIfS, tAsg, gName, gSub, tRet, tRetN, tDrop, tVar, tC, tOp, tUn, rI0, rI, rU, tTest, tB, tAndV, tOrV, tNotV, tAnd, tOr, tNot, tIf, tChain, tCB, tCons, tNil, tLst, tTup, tCallC, List.getElem?_cons_zero, List.getElem?_cons_succ, List.set_cons_zero, List.set_cons_succ, Option.some.injEq, V.int.injEq, V.bl.injEq, V.ref.injEq, V.ty.injEq, V.str.injEq, List.cons.injEq, exists_eq_left', exists_eq_left, exists_and_left, and_true, true_and, and_assoc, cxK, rIxF, rSetL, rEq, rNe, scal, HO.lst.injEq, HO.tup.injEq, upd_none, ixN_10, ixN_20, ixN_21, ixN_30, ixN_31, ixN_32, upd_same, seqAt_updL, seqAt_updT, atI_0, atI_1, atI_2, atI_3, decide_eq_true_eq, L2.start, List.map_cons, List.map_nil, List.length_cons, List.length_nil, Nat.reduceAdd, Nat.reduceSub, List.replicate_succ, List.replicate_zero, List.cons_append, List.nil_append, List.append_nil, tFor_rng1, tFor_rng2, tFor_list, tFor_tup, CDv, CMul, CPow, sizeLine_eq, Int.reduceLE, Int.reduceLT, Int.reducePow, Int.reduceToNat, Int.reduceAdd, Int.reduceSub, Int.reduceMul, Int.reduceNeg, Nat.reduceLeDiff, Nat.reducePow, Nat.reduceLT, Int.reduceEq, true_or, or_true, ite_true, ite_false, if_true, if_false, Bool.not_true, Bool.not_false, Bool.false_eq_true, decide_true, decide_false, rIxQ, seqQ_updL, seqQ_updT, tupQ_updT, tSl, tNoPart, tPart, rSlQ, rSlTQ, rCatQ, tTupQ, tLstQ, tNever, rEqD, rInQ, gTupQ, gCons, gNil, tBM, tBM0, rAppend, rClear, tFor_rng3, tLc_rng1, tLc_rng2, tLc_list, tLc_tup, pick_nil, pick_own, pick_cap, join_some, tYes, gSlice, tCallKC, gk_11, gk_31, tLc2_list, bodyL_tup, bodyL_list, bodyE_eq, ea]
  refine ⟨p, _, _, _, _, rfl, g1, fun v t m x y z H2 A2 hone g2 k2 => ?_⟩
  try walk_at "rn"
  intro b3 n3
  have np : m.noPlus := let ⟨_, _, _, _, _, _, _, h⟩ := A2; h
  refine q _ ⟨n, lo, hi, t, m⟩ _ _ _ _ ⟨b3, v, rfl, tupQ_updT, A2.ext (Ext.new n3)⟩ ⟨n1, l0, lh, h1, ?_, np⟩ rfl ((Ext.new n3).at g2) (k1.trans (k2.trans (Ext.new n3).kp))
  by_cases c : hi - lo = 1
  · exact .inl c
  · exact .inr (hone (by simpa using c))
/-! ### one behind another -/
def Half.of : Option Int → Half
  | some k => .is k
  | none => .gone
/-- half an action, and then an action -/
def Half.then : Half → Half → Half → Half
  | .plus a, .plus b, _ => .plus (a + b)
  | .plus _, t, _ => t
  | .is a, t, n => Half.of (actF t n (some a))
  | .gone, t, n => Half.of (actF t n none)
theorem Half.of_noPlus (o : Option Int) : (Half.of o).noPlus := by cases o <;> trivial
theorem Half.then_noPlus {h : Half} (t n : Half) (hh : h.noPlus) : (h.then t n).noPlus := by
  cases h with
  | plus k => exact hh.elim
  | is k => exact Half.of_noPlus _
  | gone => exact Half.of_noPlus _
def spBehind (K : PySem.W.Frag) : Sp := fun vs H Q _ => ∃ v t n v' t' n', vs = [v, v'] ∧ Act K H v t n ∧ Act K H v' t' n' ∧ ∀ u H', Act K H' u (t.then t' n') (n.then t' n') → Ext K H H' → Q u H'
def spIsAct (K : PySem.W.Frag) : Sp := fun vs H Q _ => ∃ v t n, vs = [v] ∧ Act K H v t n ∧ ∀ H', Ext K H H' → Q (.bl true) H'
/-! ### an action as data -/
def Half.d : Half → PyData
  | .plus n => .tuple [.str "plus", .int n]
  | .is n => .tuple [.str "is", .int n]
  | .gone => .tuple [.str "gone"]
def actD (t n : Half) : PyData := .tuple [t.d, n.d]
theorem Half.is_d {K : PySem.W.Frag} {H : Hp} {r : Addr} {h : Half} (e : tupQ K H r = some h.v) : Is K H h.d (.ref r) := by
  cases h with
  | plus n => simp only [Half.d, Is, IsAll]; exact ⟨r, _, rfl, tupQ_sq e, _, _, rfl, rfl, _, _, rfl, rfl, rfl⟩
  | is n => simp only [Half.d, Is, IsAll]; exact ⟨r, _, rfl, tupQ_sq e, _, _, rfl, rfl, _, _, rfl, rfl, rfl⟩
  | gone => simp only [Half.d, Is, IsAll]; exact ⟨r, _, rfl, tupQ_sq e, _, _, rfl, rfl, rfl⟩
theorem Act.is {K : PySem.W.Frag} {H : Hp} {v : V} {t n : Half} (h : Act K H v t n) : Is K H (actD t n) v := by
  obtain ⟨a, r, s, rfl, e1, e2, e3, _⟩ := h
  simp only [actD, Is, IsAll]
  exact ⟨a, _, rfl, tupQ_sq e1, _, _, rfl, Half.is_d e2, _, _, rfl, Half.is_d e3, rfl⟩
theorem shaped_act (t n : Half) : SeqAt.shaped (actD t n) = true := by
  cases t <;> cases n <;> simp only [SeqAt.shaped, actD, Half.d, PyData.canLay0, PyData.canLayAll0, PyData.depth, PyData.depthAll] <;> decide +kernel
theorem nob_act (t n : Half) : nob (actD t n) = true := by cases t <;> cases n <;> rfl
theorem Half.d_inj {h k : Half} (e : h.d = k.d) : h = k := by
  cases h <;> cases k <;> simp only [Half.d, PyData.tuple.injEq, List.cons.injEq, PyData.str.injEq, PyData.int.injEq, and_true, reduceCtorEq, and_false, false_and] at e <;>
    first | rfl | (obtain ⟨e1, e2⟩ := e; first | (subst e2; rfl) | exact absurd e1 (by decide +kernel)) | exact absurd e (by decide +kernel)
theorem eqv_act (t n t' n' : Half) : PyData.eqv (actD t n) (actD t' n') = true ↔ t = t' ∧ n = n' := by
  rw [eqv_iff (nob_act _ _) (nob_act _ _)]
  constructor
  · intro e
    simp only [actD, PyData.tuple.injEq, List.cons.injEq, and_true] at e
    exact ⟨Half.d_inj e.1, Half.d_inj e.2⟩
  · rintro ⟨rfl, rfl⟩
    rfl
theorem eqv_same (t n : Half) : PyData.eqv (actD t n) (actD t n) = true := (eqv_act _ _ _ _).mpr ⟨rfl, rfl⟩
/-! ### what NOTHING does -/
theorem nothing_ahead {t n : Half} (hn : n.noPlus) : (Half.plus 0).then t n = t ∧ Half.gone.then t n = n := by
  constructor
  · cases t <;> simp [Half.then]
  · cases n with
    | plus k => exact hn.elim
    | is k => rfl
    | gone => rfl
theorem nothing_behind (h : Half) : h.then (.plus 0) .gone = h := by
  cases h <;> simp [Half.then, actF, Half.f, Half.of]
theorem fixed_behind (h f : Half) (hf : f.noPlus) : h.then f f = f := by
  cases f with
  | plus k => exact hf.elim
  | is k => cases h <;> rfl
  | gone => cases h <;> rfl
theorem actF_then {t n t' n' : Half} (hn : n.noPlus) (hn' : n'.noPlus) (val : Option Int) : actF (t.then t' n') (n.then t' n') val = actF t' n' (actF t n val) := by
  cases val with
  | none =>
    cases n with
    | plus k => exact hn.elim
    | is k => cases t' <;> simp [actF, Half.f, Half.then, Half.of]
    | gone => cases n' <;> first | exact hn'.elim | simp [actF, Half.f, Half.then, Half.of]
  | some i =>
    cases t with
    | plus k => cases t' <;> simp [actF, Half.f, Half.then, Half.of, Int.add_assoc]
    | is k => cases t' <;> simp [actF, Half.f, Half.then, Half.of]
    | gone => cases n' <;> first | exact hn'.elim | simp [actF, Half.f, Half.then, Half.of]
/-! ### unlike just where they do otherwise -/
def vals3 : List (Option Int) := [some 0, some 1, none]
theorem actF_inj {t n t' n' : Half} (hn : n.noPlus) (hn' : n'.noPlus) : vals3.map (actF t n) = vals3.map (actF t' n') ↔ t = t' ∧ n = n' := by
  constructor
  · intro h
    simp only [vals3, List.map_cons, List.map_nil, List.cons.injEq, and_true, actF] at h
    obtain ⟨h0, h1, h2⟩ := h
    constructor
    · cases t <;> cases t' <;> simp only [Half.f, Option.some.injEq, reduceCtorEq, Half.plus.injEq, Half.is.injEq] at h0 h1 ⊢ <;> omega
    · cases n <;> cases n' <;> first | exact hn.elim | exact hn'.elim | rfl | (simp only [Half.f, Option.some.injEq, reduceCtorEq, Half.is.injEq] at h2 ⊢; omega) | (simp only [Half.f, Option.some.injEq, reduceCtorEq] at h2)
  · rintro ⟨rfl, rfl⟩
    rfl
theorem sc__law_done : FnScope ["_law_action_here", "_law_value", "_law_half"] ["_law_action_here", "_law_value"] (defScope s__law_done) := ⟨rfl, rfl, rfl, by decide +kernel, rfl, by decide +kernel, by decide +kernel⟩
theorem ok__law_done {f : Addr} {fd : FuncData} (F : Fun K "_law_done" "_law_done" s__law_done f fd) {aG : Addr} {tE : Tok} (B : B K mg aG tE) : FnOk P w K mg base CX0 1 f fd ["_law_action_here", "_law_value"] (spDone K) := by
  refine F.okJ sc__law_done (fun vs H Q E h => ?_) (fun cdv A outer s H vs Q E hr h => ?_)
  · obtain ⟨v, t, n, val, rfl, _⟩ := h
    rfl
  obtain ⟨v, t, n, val, rfl, ⟨a, r, s', rfl, ha, ht, hn, hp⟩, q⟩ := h
  refine ⟨_, (bcons (sset (i := 2) sc__law_done.nd rfl (Or.inl rfl) (eix ix_Q (ev 0) (ecallTy call_intB rfl B.int bt_int (acons (ecmp op_isN (ev 1) enon (nomark _)) anil)) (fun _ _ => rfl)))
      (bcons (sif (tcmp op_eq (eix ix_Q (ev 2) ei (fun _ _ => rfl)) estr (nomark _)) (bone (sret (eop op_add (ev 1) (eix ix_Q (ev 2) ei (fun _ _ => rfl))))) bnil)
      (bone (sret (eix ix_Q (elstQ (acons enon (acons (eix ix_Q (ev 2) (eun un_neg ei) (fun _ _ => rfl)) anil))) (ecallTy call_intB rfl B.int bt_int (acons (ecmp op_eq (eix ix_Q (ev 2) ei (fun _ _ => rfl)) estr (nomark _)) anil)) (fun _ _ => rfl)))))), ?_⟩
  cases val with
  | none =>
    cases n with
    | plus k => exact hp.elim
    | is k =>
      simp only [tSeq, tNext, tIfS, tAsg, gName, gSub, tRet, tRetN, tDrop, tVar, tC, tOp, tUn, rI0, rI, rU, tTest, tB, tAndV, tOrV, tNotV, tAnd, tOr, tNot, tIf, tChain, tCB, tCons, tNil, tLst, tTup, tCallC, List.getElem?_cons_zero, List.getElem?_cons_succ, List.set_cons_zero, List.set_cons_succ, Option.some.injEq, V.int.injEq, V.bl.injEq, V.ref.injEq, V.ty.injEq, V.str.injEq, List.cons.injEq, exists_eq_left', exists_eq_left, exists_and_left, and_true, true_and, and_assoc, cxK, rIxF, rSetL, rEq, rNe, scal, HO.lst.injEq, HO.tup.injEq, upd_none, ixN_10, ixN_20, ixN_21, ixN_30, ixN_31, ixN_32, upd_same, seqAt_updL, seqAt_updT, atI_0, atI_1, atI_2, atI_3, decide_eq_true_eq, L2.start, List.map_cons, List.map_nil, List.length_cons, List.length_nil, Nat.reduceAdd, Nat.reduceSub, List.replicate_succ, List.replicate_zero, List.cons_append, List.nil_append, List.append_nil, tFor_rng1, tFor_rng2, tFor_list, tFor_tup, CDv, CMul, CPow, sizeLine_eq, Int.reduceLE, Int.reduceLT, Int.reducePow, Int.reduceToNat, Int.reduceAdd, Int.reduceSub, Int.reduceMul, Int.reduceNeg, Nat.reduceLeDiff, Nat.reducePow, Nat.reduceLT, Int.reduceEq, true_or, or_true, ite_true, ite_false, if_true, if_false, Bool.not_true, Bool.not_false, Bool.false_eq_true, decide_true, decide_false, rIxQ, seqQ_updL, seqQ_updT, tupQ_updT, tSl, tNoPart, tPart, rSlQ, rSlTQ, rCatQ, tTupQ, tLstQ, new_upd, tNever, rEqD, rInQ, gTupQ, gCons, gNil, tBM, tBM0, rAppend, rClear, tFor_rng3, tLc_rng1, tLc_rng2, tLc_list, tLc_tup, pick_nil, pick_own, pick_cap, join_some, tYes, gSlice, tCallKC, gk_11, gk_31, tLc2_list, bodyL_tup, bodyL_list, bodyE_eq, seqQ_T ha,  oV,  Half.v,  seqQ_T hn,  atI_m12,  s3,  s1]
      intro p np
      simp only [tSeq, tNext, tIfS, tAsg, gName, gSub, tRet, tRetN, tDrop, tVar, tC, tOp, tUn, rI0, rI, rU, tTest, tB, tAndV, tOrV, tNotV, tAnd, tOr, tNot, tIf, tChain, tCB, tCons, tNil, tLst, tTup, tCallC, List.getElem?_cons_zero, List.getElem?_cons_succ, List.set_cons_zero, List.set_cons_succ, Option.some.injEq, V.int.injEq, V.bl.injEq, V.ref.injEq, V.ty.injEq, V.str.injEq, List.cons.injEq, exists_eq_left', exists_eq_left, exists_and_left, and_true, true_and, and_assoc, cxK, rIxF, rSetL, rEq, rNe, scal, HO.lst.injEq, HO.tup.injEq, upd_none, ixN_10, ixN_20, ixN_21, ixN_30, ixN_31, ixN_32, upd_same, seqAt_updL, seqAt_updT, atI_0, atI_1, atI_2, atI_3, decide_eq_true_eq, L2.start, List.map_cons, List.map_nil, List.length_cons, List.length_nil, Nat.reduceAdd, Nat.reduceSub, List.replicate_succ, List.replicate_zero, List.cons_append, List.nil_append, List.append_nil, tFor_rng1, tFor_rng2, tFor_list, tFor_tup, CDv, CMul, CPow, sizeLine_eq, Int.reduceLE, Int.reduceLT, Int.reducePow, Int.reduceToNat, Int.reduceAdd, Int.reduceSub, Int.reduceMul, Int.reduceNeg, Nat.reduceLeDiff, Nat.reducePow, Nat.reduceLT, Int.reduceEq, true_or, or_true, ite_true, ite_false, if_true, if_false, Bool.not_true, Bool.not_false, Bool.false_eq_true, decide_true, decide_false, rIxQ, seqQ_updL, seqQ_updT, tupQ_updT, tSl, tNoPart, tPart, rSlQ, rSlTQ, rCatQ, tTupQ, tLstQ, new_upd, tNever, rEqD, rInQ, gTupQ, gCons, gNil, tBM, tBM0, rAppend, rClear, tFor_rng3, tLc_rng1, tLc_rng2, tLc_list, tLc_tup, pick_nil, pick_own, pick_cap, join_some, tYes, gSlice, tCallKC, gk_11, gk_31, tLc2_list, bodyL_tup, bodyL_list, bodyE_eq, seqQ_T ((Ext.new np).tup hn),  Half.v]
      exact q _ (Ext.new np)
    | gone =>
      simp only [tSeq, tNext, tIfS, tAsg, gName, gSub, tRet, tRetN, tDrop, tVar, tC, tOp, tUn, rI0, rI, rU, tTest, tB, tAndV, tOrV, tNotV, tAnd, tOr, tNot, tIf, tChain, tCB, tCons, tNil, tLst, tTup, tCallC, List.getElem?_cons_zero, List.getElem?_cons_succ, List.set_cons_zero, List.set_cons_succ, Option.some.injEq, V.int.injEq, V.bl.injEq, V.ref.injEq, V.ty.injEq, V.str.injEq, List.cons.injEq, exists_eq_left', exists_eq_left, exists_and_left, and_true, true_and, and_assoc, cxK, rIxF, rSetL, rEq, rNe, scal, HO.lst.injEq, HO.tup.injEq, upd_none, ixN_10, ixN_20, ixN_21, ixN_30, ixN_31, ixN_32, upd_same, seqAt_updL, seqAt_updT, atI_0, atI_1, atI_2, atI_3, decide_eq_true_eq, L2.start, List.map_cons, List.map_nil, List.length_cons, List.length_nil, Nat.reduceAdd, Nat.reduceSub, List.replicate_succ, List.replicate_zero, List.cons_append, List.nil_append, List.append_nil, tFor_rng1, tFor_rng2, tFor_list, tFor_tup, CDv, CMul, CPow, sizeLine_eq, Int.reduceLE, Int.reduceLT, Int.reducePow, Int.reduceToNat, Int.reduceAdd, Int.reduceSub, Int.reduceMul, Int.reduceNeg, Nat.reduceLeDiff, Nat.reducePow, Nat.reduceLT, Int.reduceEq, true_or, or_true, ite_true, ite_false, if_true, if_false, Bool.not_true, Bool.not_false, Bool.false_eq_true, decide_true, decide_false, rIxQ, seqQ_updL, seqQ_updT, tupQ_updT, tSl, tNoPart, tPart, rSlQ, rSlTQ, rCatQ, tTupQ, tLstQ, new_upd, tNever, rEqD, rInQ, gTupQ, gCons, gNil, tBM, tBM0, rAppend, rClear, tFor_rng3, tLc_rng1, tLc_rng2, tLc_list, tLc_tup, pick_nil, pick_own, pick_cap, join_some, tYes, gSlice, tCallKC, gk_11, gk_31, tLc2_list, bodyL_tup, bodyL_list, bodyE_eq, seqQ_T ha,  oV,  Half.v,  seqQ_T hn,  atI_m11,  s4,  s2]
      intro p np
      simp only [tSeq, tNext, tIfS, tAsg, gName, gSub, tRet, tRetN, tDrop, tVar, tC, tOp, tUn, rI0, rI, rU, tTest, tB, tAndV, tOrV, tNotV, tAnd, tOr, tNot, tIf, tChain, tCB, tCons, tNil, tLst, tTup, tCallC, List.getElem?_cons_zero, List.getElem?_cons_succ, List.set_cons_zero, List.set_cons_succ, Option.some.injEq, V.int.injEq, V.bl.injEq, V.ref.injEq, V.ty.injEq, V.str.injEq, List.cons.injEq, exists_eq_left', exists_eq_left, exists_and_left, and_true, true_and, and_assoc, cxK, rIxF, rSetL, rEq, rNe, scal, HO.lst.injEq, HO.tup.injEq, upd_none, ixN_10, ixN_20, ixN_21, ixN_30, ixN_31, ixN_32, upd_same, seqAt_updL, seqAt_updT, atI_0, atI_1, atI_2, atI_3, decide_eq_true_eq, L2.start, List.map_cons, List.map_nil, List.length_cons, List.length_nil, Nat.reduceAdd, Nat.reduceSub, List.replicate_succ, List.replicate_zero, List.cons_append, List.nil_append, List.append_nil, tFor_rng1, tFor_rng2, tFor_list, tFor_tup, CDv, CMul, CPow, sizeLine_eq, Int.reduceLE, Int.reduceLT, Int.reducePow, Int.reduceToNat, Int.reduceAdd, Int.reduceSub, Int.reduceMul, Int.reduceNeg, Nat.reduceLeDiff, Nat.reducePow, Nat.reduceLT, Int.reduceEq, true_or, or_true, ite_true, ite_false, if_true, if_false, Bool.not_true, Bool.not_false, Bool.false_eq_true, decide_true, decide_false, rIxQ, seqQ_updL, seqQ_updT, tupQ_updT, tSl, tNoPart, tPart, rSlQ, rSlTQ, rCatQ, tTupQ, tLstQ, new_upd, tNever, rEqD, rInQ, gTupQ, gCons, gNil, tBM, tBM0, rAppend, rClear, tFor_rng3, tLc_rng1, tLc_rng2, tLc_list, tLc_tup, pick_nil, pick_own, pick_cap, join_some, tYes, gSlice, tCallKC, gk_11, gk_31, tLc2_list, bodyL_tup, bodyL_list, bodyE_eq, seqQ_T ((Ext.new np).tup hn),  Half.v,  s2]
      exact q _ (Ext.new np)
  | some i =>
    cases t with
    | plus k =>
      simp only [tSeq, tNext, tIfS, tAsg, gName, gSub, tRet, tRetN, tDrop, tVar, tC, tOp, tUn, rI0, rI, rU, tTest, tB, tAndV, tOrV, tNotV, tAnd, tOr, tNot, tIf, tChain, tCB, tCons, tNil, tLst, tTup, tCallC, List.getElem?_cons_zero, List.getElem?_cons_succ, List.set_cons_zero, List.set_cons_succ, Option.some.injEq, V.int.injEq, V.bl.injEq, V.ref.injEq, V.ty.injEq, V.str.injEq, List.cons.injEq, exists_eq_left', exists_eq_left, exists_and_left, and_true, true_and, and_assoc, cxK, rIxF, rSetL, rEq, rNe, scal, HO.lst.injEq, HO.tup.injEq, upd_none, ixN_10, ixN_20, ixN_21, ixN_30, ixN_31, ixN_32, upd_same, seqAt_updL, seqAt_updT, atI_0, atI_1, atI_2, atI_3, decide_eq_true_eq, L2.start, List.map_cons, List.map_nil, List.length_cons, List.length_nil, Nat.reduceAdd, Nat.reduceSub, List.replicate_succ, List.replicate_zero, List.cons_append, List.nil_append, List.append_nil, tFor_rng1, tFor_rng2, tFor_list, tFor_tup, CDv, CMul, CPow, sizeLine_eq, Int.reduceLE, Int.reduceLT, Int.reducePow, Int.reduceToNat, Int.reduceAdd, Int.reduceSub, Int.reduceMul, Int.reduceNeg, Nat.reduceLeDiff, Nat.reducePow, Nat.reduceLT, Int.reduceEq, true_or, or_true, ite_true, ite_false, if_true, if_false, Bool.not_true, Bool.not_false, Bool.false_eq_true, decide_true, decide_false, rIxQ, seqQ_updL, seqQ_updT, tupQ_updT, tSl, tNoPart, tPart, rSlQ, rSlTQ, rCatQ, tTupQ, tLstQ, new_upd, tNever, rEqD, rInQ, gTupQ, gCons, gNil, tBM, tBM0, rAppend, rClear, tFor_rng3, tLc_rng1, tLc_rng2, tLc_list, tLc_tup, pick_nil, pick_own, pick_cap, join_some, tYes, gSlice, tCallKC, gk_11, gk_31, tLc2_list, bodyL_tup, bodyL_list, bodyE_eq, seqQ_T ha,  oV,  Half.v,  seqQ_T ht,  atI_m12,  reduceCtorEq]
      exact q _ Ext.refl
    | is k =>
      simp only [tSeq, tNext, tIfS, tAsg, gName, gSub, tRet, tRetN, tDrop, tVar, tC, tOp, tUn, rI0, rI, rU, tTest, tB, tAndV, tOrV, tNotV, tAnd, tOr, tNot, tIf, tChain, tCB, tCons, tNil, tLst, tTup, tCallC, List.getElem?_cons_zero, List.getElem?_cons_succ, List.set_cons_zero, List.set_cons_succ, Option.some.injEq, V.int.injEq, V.bl.injEq, V.ref.injEq, V.ty.injEq, V.str.injEq, List.cons.injEq, exists_eq_left', exists_eq_left, exists_and_left, and_true, true_and, and_assoc, cxK, rIxF, rSetL, rEq, rNe, scal, HO.lst.injEq, HO.tup.injEq, upd_none, ixN_10, ixN_20, ixN_21, ixN_30, ixN_31, ixN_32, upd_same, seqAt_updL, seqAt_updT, atI_0, atI_1, atI_2, atI_3, decide_eq_true_eq, L2.start, List.map_cons, List.map_nil, List.length_cons, List.length_nil, Nat.reduceAdd, Nat.reduceSub, List.replicate_succ, List.replicate_zero, List.cons_append, List.nil_append, List.append_nil, tFor_rng1, tFor_rng2, tFor_list, tFor_tup, CDv, CMul, CPow, sizeLine_eq, Int.reduceLE, Int.reduceLT, Int.reducePow, Int.reduceToNat, Int.reduceAdd, Int.reduceSub, Int.reduceMul, Int.reduceNeg, Nat.reduceLeDiff, Nat.reducePow, Nat.reduceLT, Int.reduceEq, true_or, or_true, ite_true, ite_false, if_true, if_false, Bool.not_true, Bool.not_false, Bool.false_eq_true, decide_true, decide_false, rIxQ, seqQ_updL, seqQ_updT, tupQ_updT, tSl, tNoPart, tPart, rSlQ, rSlTQ, rCatQ, tTupQ, tLstQ, new_upd, tNever, rEqD, rInQ, gTupQ, gCons, gNil, tBM, tBM0, rAppend, rClear, tFor_rng3, tLc_rng1, tLc_rng2, tLc_list, tLc_tup, pick_nil, pick_own, pick_cap, join_some, tYes, gSlice, tCallKC, gk_11, gk_31, tLc2_list, bodyL_tup, bodyL_list, bodyE_eq, seqQ_T ha,  oV,  Half.v,  seqQ_T ht,  atI_m12,  s3,  s1,  reduceCtorEq]
      intro p np
      simp only [tSeq, tNext, tIfS, tAsg, gName, gSub, tRet, tRetN, tDrop, tVar, tC, tOp, tUn, rI0, rI, rU, tTest, tB, tAndV, tOrV, tNotV, tAnd, tOr, tNot, tIf, tChain, tCB, tCons, tNil, tLst, tTup, tCallC, List.getElem?_cons_zero, List.getElem?_cons_succ, List.set_cons_zero, List.set_cons_succ, Option.some.injEq, V.int.injEq, V.bl.injEq, V.ref.injEq, V.ty.injEq, V.str.injEq, List.cons.injEq, exists_eq_left', exists_eq_left, exists_and_left, and_true, true_and, and_assoc, cxK, rIxF, rSetL, rEq, rNe, scal, HO.lst.injEq, HO.tup.injEq, upd_none, ixN_10, ixN_20, ixN_21, ixN_30, ixN_31, ixN_32, upd_same, seqAt_updL, seqAt_updT, atI_0, atI_1, atI_2, atI_3, decide_eq_true_eq, L2.start, List.map_cons, List.map_nil, List.length_cons, List.length_nil, Nat.reduceAdd, Nat.reduceSub, List.replicate_succ, List.replicate_zero, List.cons_append, List.nil_append, List.append_nil, tFor_rng1, tFor_rng2, tFor_list, tFor_tup, CDv, CMul, CPow, sizeLine_eq, Int.reduceLE, Int.reduceLT, Int.reducePow, Int.reduceToNat, Int.reduceAdd, Int.reduceSub, Int.reduceMul, Int.reduceNeg, Nat.reduceLeDiff, Nat.reducePow, Nat.reduceLT, Int.reduceEq, true_or, or_true, ite_true, ite_false, if_true, if_false, Bool.not_true, Bool.not_false, Bool.false_eq_true, decide_true, decide_false, rIxQ, seqQ_updL, seqQ_updT, tupQ_updT, tSl, tNoPart, tPart, rSlQ, rSlTQ, rCatQ, tTupQ, tLstQ, new_upd, tNever, rEqD, rInQ, gTupQ, gCons, gNil, tBM, tBM0, rAppend, rClear, tFor_rng3, tLc_rng1, tLc_rng2, tLc_list, tLc_tup, pick_nil, pick_own, pick_cap, join_some, tYes, gSlice, tCallKC, gk_11, gk_31, tLc2_list, bodyL_tup, bodyL_list, bodyE_eq, seqQ_T ((Ext.new np).tup ht),  Half.v]
      exact q _ (Ext.new np)
    | gone =>
      simp only [tSeq, tNext, tIfS, tAsg, gName, gSub, tRet, tRetN, tDrop, tVar, tC, tOp, tUn, rI0, rI, rU, tTest, tB, tAndV, tOrV, tNotV, tAnd, tOr, tNot, tIf, tChain, tCB, tCons, tNil, tLst, tTup, tCallC, List.getElem?_cons_zero, List.getElem?_cons_succ, List.set_cons_zero, List.set_cons_succ, Option.some.injEq, V.int.injEq, V.bl.injEq, V.ref.injEq, V.ty.injEq, V.str.injEq, List.cons.injEq, exists_eq_left', exists_eq_left, exists_and_left, and_true, true_and, and_assoc, cxK, rIxF, rSetL, rEq, rNe, scal, HO.lst.injEq, HO.tup.injEq, upd_none, ixN_10, ixN_20, ixN_21, ixN_30, ixN_31, ixN_32, upd_same, seqAt_updL, seqAt_updT, atI_0, atI_1, atI_2, atI_3, decide_eq_true_eq, L2.start, List.map_cons, List.map_nil, List.length_cons, List.length_nil, Nat.reduceAdd, Nat.reduceSub, List.replicate_succ, List.replicate_zero, List.cons_append, List.nil_append, List.append_nil, tFor_rng1, tFor_rng2, tFor_list, tFor_tup, CDv, CMul, CPow, sizeLine_eq, Int.reduceLE, Int.reduceLT, Int.reducePow, Int.reduceToNat, Int.reduceAdd, Int.reduceSub, Int.reduceMul, Int.reduceNeg, Nat.reduceLeDiff, Nat.reducePow, Nat.reduceLT, Int.reduceEq, true_or, or_true, ite_true, ite_false, if_true, if_false, Bool.not_true, Bool.not_false, Bool.false_eq_true, decide_true, decide_false, rIxQ, seqQ_updL, seqQ_updT, tupQ_updT, tSl, tNoPart, tPart, rSlQ, rSlTQ, rCatQ, tTupQ, tLstQ, new_upd, tNever, rEqD, rInQ, gTupQ, gCons, gNil, tBM, tBM0, rAppend, rClear, tFor_rng3, tLc_rng1, tLc_rng2, tLc_list, tLc_tup, pick_nil, pick_own, pick_cap, join_some, tYes, gSlice, tCallKC, gk_11, gk_31, tLc2_list, bodyL_tup, bodyL_list, bodyE_eq, seqQ_T ha,  oV,  Half.v,  seqQ_T ht,  atI_m11,  s4,  s2,  reduceCtorEq]
      intro p np
      simp only [tSeq, tNext, tIfS, tAsg, gName, gSub, tRet, tRetN, tDrop, tVar, tC, tOp, tUn, rI0, rI, rU, tTest, tB, tAndV, tOrV, tNotV, tAnd, tOr, tNot, tIf, tChain, tCB, tCons, tNil, tLst, tTup, tCallC, List.getElem?_cons_zero, List.getElem?_cons_succ, List.set_cons_zero, List.set_cons_succ, Option.some.injEq, V.int.injEq, V.bl.injEq, V.ref.injEq, V.ty.injEq, V.str.injEq, List.cons.injEq, exists_eq_left', exists_eq_left, exists_and_left, and_true, true_and, and_assoc, cxK, rIxF, rSetL, rEq, rNe, scal, HO.lst.injEq, HO.tup.injEq, upd_none, ixN_10, ixN_20, ixN_21, ixN_30, ixN_31, ixN_32, upd_same, seqAt_updL, seqAt_updT, atI_0, atI_1, atI_2, atI_3, decide_eq_true_eq, L2.start, List.map_cons, List.map_nil, List.length_cons, List.length_nil, Nat.reduceAdd, Nat.reduceSub, List.replicate_succ, List.replicate_zero, List.cons_append, List.nil_append, List.append_nil, tFor_rng1, tFor_rng2, tFor_list, tFor_tup, CDv, CMul, CPow, sizeLine_eq, Int.reduceLE, Int.reduceLT, Int.reducePow, Int.reduceToNat, Int.reduceAdd, Int.reduceSub, Int.reduceMul, Int.reduceNeg, Nat.reduceLeDiff, Nat.reducePow, Nat.reduceLT, Int.reduceEq, true_or, or_true, ite_true, ite_false, if_true, if_false, Bool.not_true, Bool.not_false, Bool.false_eq_true, decide_true, decide_false, rIxQ, seqQ_updL, seqQ_updT, tupQ_updT, tSl, tNoPart, tPart, rSlQ, rSlTQ, rCatQ, tTupQ, tLstQ, new_upd, tNever, rEqD, rInQ, gTupQ, gCons, gNil, tBM, tBM0, rAppend, rClear, tFor_rng3, tLc_rng1, tLc_rng2, tLc_list, tLc_tup, pick_nil, pick_own, pick_cap, join_some, tYes, gSlice, tCallKC, gk_11, gk_31, tLc2_list, bodyL_tup, bodyL_list, bodyE_eq, seqQ_T ((Ext.new np).tup ht),  Half.v,  s2]
      exact q _ (Ext.new np)
/-! ### the program's own: actions -/
def spNum : Sp := fun vs H Q _ => ∃ i, vs = [.int i] ∧ Q (.bl true) H
def Half.word : Half → Str
  | .plus _ => "plus"
  | .is _ => "is"
  | .gone => "gone"
def Half.hd : Half → PyData
  | .plus n => .tuple [.str "plus", .int n]
  | .is n => .tuple [.str "is", .int n]
  | .gone => .tuple [.str "gone"]
theorem Half.is_hd {K : PySem.W.Frag} {H : Hp} {r : Addr} {h : Half} (e : tupQ K H r = some h.v) : Is K H h.hd (.ref r) := by
  cases h with
  | plus n => simp only [Half.hd, Is, IsAll]; exact ⟨r, _, rfl, tupQ_sq e, _, _, rfl, rfl, _, _, rfl, rfl, rfl⟩
  | is n => simp only [Half.hd, Is, IsAll]; exact ⟨r, _, rfl, tupQ_sq e, _, _, rfl, rfl, _, _, rfl, rfl, rfl⟩
  | gone => simp only [Half.hd, Is, IsAll]; exact ⟨r, _, rfl, tupQ_sq e, _, _, rfl, rfl, rfl⟩
theorem Half.shaped (h : Half) : SeqAt.shaped h.hd = true := by
  cases h <;> simp only [SeqAt.shaped, Half.hd, PyData.canLay0, PyData.canLayAll0, PyData.depth, PyData.depthAll] <;> decide +kernel
theorem Half.eqv_gone (h : Half) : PyData.eqv h.hd Half.gone.hd = (match h with | .gone => true | _ => false) := by
  cases h <;> simp only [Half.hd, PyData.eqv, PyData.eqvAll] <;> decide +kernel
def spHalf (K : PySem.W.Frag) : Sp := fun vs H Q _ => ∃ r h a ws, vs = [.ref r, .ref a] ∧ tupQ K H r = some (Half.v h) ∧ tupQ K H a = some ws ∧ ws.all flatV = true ∧ (h = .gone ∨ inV (.str h.word) ws = true) ∧ ∀ H', Ext K H H' → Q (.bl true) H'
def spIsActP (K : PySem.W.Frag) : Sp := fun vs H Q _ => ∃ v t n, vs = [v] ∧ Act K H v t n ∧ ∀ H', Ext K H H' → Q (.bl true) H'
def spCheckAct (K : PySem.W.Frag) : Sp := fun vs H Q _ => ∃ v t n, vs = [v] ∧ Act K H v t n ∧ ∀ H', Ext K H H' → Q .non H'
def spHalfActs (K : PySem.W.Frag) : Sp := fun vs H Q _ => ∃ r h val, vs = [.ref r, oV val] ∧ tupQ K H r = some (Half.v h) ∧ (val = none → h.noPlus) ∧ Q (oV (h.f val)) H
def spDoes (K : PySem.W.Frag) : Sp := fun vs H Q _ => ∃ v t n val, vs = [v, oV val] ∧ Act K H v t n ∧ Q (oV (actF t n val)) H
theorem sc_half_acts : FnScope ["half", "value", "word", "number"] ["half", "value"] (defScope s_half_acts) := ⟨rfl, rfl, rfl, by decide +kernel, rfl, by decide +kernel, by decide +kernel⟩
theorem ok_half_acts {f : Addr} {fd : FuncData} (F : Fun K "half_acts" "half_acts" s_half_acts f fd) {aG : Addr} {tE : Tok} (B : B K mg aG tE) : FnOk P w K mg base CX0 1 f fd ["half", "value"] (spHalfActs K) := by
  refine F.okM sc_half_acts (fun vs H Q E h => ?_) (fun cdv A outer s H vs Q E hr hm h => ?_)
  · obtain ⟨r, h, val, rfl, _⟩ := h
    rfl
  obtain ⟨r, h, val, rfl, hq, hv, q⟩ := h
  refine ⟨_, (bcons (sif (tcmp (op_eqD hr.units) (ev 0) (eglob rfl B.GONE B.GONE_is) (nomark _)) (bone (sret enon)) bnil)
      (bcons (sasg (ev 0) (gtupQ (n := 2) rfl (gcons (gname (i := 2) sc_half_acts.nd rfl (Or.inl rfl)) (gcons (gname (i := 3) sc_half_acts.nd rfl (Or.inl rfl)) gnil))))
      (bone (sret (eif (tcmp op_eq (ev 2) estr (nomark _)) (eop op_add (ev 1) (ev 3)) (ev 3)))))), ?_⟩
  try walk_at "rd"
  refine ⟨h.hd, Half.is_hd hq, Half.gone.hd, Half.is_hd (h := .gone) (hm.tup B.kG), h.shaped, Half.shaped .gone, ?_⟩
  rw [Half.eqv_gone]
  cases h with
  | plus n =>
    cases val with
    | none => exact (hv rfl).elim
    | some i =>
      simp only [tSeq, tNext, tIfS, tAsg, gName, gSub, tRet, tRetN, tDrop, tVar, tC, tOp, tUn, rI0, rI, rU, tTest, tB, tAndV, tOrV, tNotV, tAnd, tOr, tNot, tIf, tChain, tCB, tCons, tNil, tLst, tTup, tCallC, List.getElem?_cons_zero, List.getElem?_cons_succ, List.set_cons_zero, List.set_cons_succ, Option.some.injEq, V.int.injEq, V.bl.injEq, V.ref.injEq, V.ty.injEq, V.str.injEq, List.cons.injEq, exists_eq_left', exists_eq_left, exists_and_left, and_true, true_and, and_assoc, cxK, rIxF, rSetL, rEq, rNe, scal, HO.lst.injEq, HO.tup.injEq, upd_none, ixN_10, ixN_20, ixN_21, ixN_30, ixN_31, ixN_32, upd_same, seqAt_updL, seqAt_updT, atI_0, atI_1, atI_2, atI_3, decide_eq_true_eq, L2.start, List.map_cons, List.map_nil, List.length_cons, List.length_nil, Nat.reduceAdd, Nat.reduceSub, List.replicate_succ, List.replicate_zero, List.cons_append, List.nil_append, List.append_nil, tFor_rng1, tFor_rng2, tFor_list, tFor_tup, CDv, CMul, CPow, sizeLine_eq, Int.reduceLE, Int.reduceLT, Int.reducePow, Int.reduceToNat, Int.reduceAdd, Int.reduceSub, Int.reduceMul, Int.reduceNeg, Nat.reduceLeDiff, Nat.reducePow, Nat.reduceLT, Int.reduceEq, true_or, or_true, ite_true, ite_false, if_true, if_false, Bool.not_true, Bool.not_false, Bool.false_eq_true, decide_true, decide_false, rIxQ, seqQ_updL, seqQ_updT, tupQ_updT, tSl, tNoPart, tPart, rSlQ, rSlTQ, rCatQ, tTupQ, tLstQ, new_upd, tNever, rEqD, rInQ, gTupQ, gCons, gNil, tBM, tBM0, rAppend, rClear, tFor_rng3, tLc_rng1, tLc_rng2, tLc_list, tLc_tup, pick_nil, pick_own, pick_cap, join_some, tYes, gSlice, tCallKC, gk_11, gk_31, tLc2_list, bodyL_tup, bodyL_list, bodyE_eq, hq,  Half.v,  oV]
      exact q
  | is n =>
    simp only [tSeq, tNext, tIfS, tAsg, gName, gSub, tRet, tRetN, tDrop, tVar, tC, tOp, tUn, rI0, rI, rU, tTest, tB, tAndV, tOrV, tNotV, tAnd, tOr, tNot, tIf, tChain, tCB, tCons, tNil, tLst, tTup, tCallC, List.getElem?_cons_zero, List.getElem?_cons_succ, List.set_cons_zero, List.set_cons_succ, Option.some.injEq, V.int.injEq, V.bl.injEq, V.ref.injEq, V.ty.injEq, V.str.injEq, List.cons.injEq, exists_eq_left', exists_eq_left, exists_and_left, and_true, true_and, and_assoc, cxK, rIxF, rSetL, rEq, rNe, scal, HO.lst.injEq, HO.tup.injEq, upd_none, ixN_10, ixN_20, ixN_21, ixN_30, ixN_31, ixN_32, upd_same, seqAt_updL, seqAt_updT, atI_0, atI_1, atI_2, atI_3, decide_eq_true_eq, L2.start, List.map_cons, List.map_nil, List.length_cons, List.length_nil, Nat.reduceAdd, Nat.reduceSub, List.replicate_succ, List.replicate_zero, List.cons_append, List.nil_append, List.append_nil, tFor_rng1, tFor_rng2, tFor_list, tFor_tup, CDv, CMul, CPow, sizeLine_eq, Int.reduceLE, Int.reduceLT, Int.reducePow, Int.reduceToNat, Int.reduceAdd, Int.reduceSub, Int.reduceMul, Int.reduceNeg, Nat.reduceLeDiff, Nat.reducePow, Nat.reduceLT, Int.reduceEq, true_or, or_true, ite_true, ite_false, if_true, if_false, Bool.not_true, Bool.not_false, Bool.false_eq_true, decide_true, decide_false, rIxQ, seqQ_updL, seqQ_updT, tupQ_updT, tSl, tNoPart, tPart, rSlQ, rSlTQ, rCatQ, tTupQ, tLstQ, new_upd, tNever, rEqD, rInQ, gTupQ, gCons, gNil, tBM, tBM0, rAppend, rClear, tFor_rng3, tLc_rng1, tLc_rng2, tLc_list, tLc_tup, pick_nil, pick_own, pick_cap, join_some, tYes, gSlice, tCallKC, gk_11, gk_31, tLc2_list, bodyL_tup, bodyL_list, bodyE_eq, hq,  Half.v,  s3]
    cases val with
    | none => exact q
    | some i => exact q
  | gone =>
    try walk_at "rd"
    cases val with
    | none => exact q
    | some i => exact q
theorem sc_does : FnScope ["action", "value", "there", "none"] ["action", "value"] (defScope s_does) := ⟨rfl, rfl, rfl, by decide +kernel, rfl, by decide +kernel, by decide +kernel⟩
theorem ok_does {f : Addr} {fd : FuncData} (F : Fun K "does" "does" s_does f fd) {aG : Addr} {tE : Tok} (B : B K mg aG tE) (C_half_acts : Callee P w K mg base "half_acts" 1 ["half", "value"] (spHalfActs K)) : FnOk P w K mg base CX0 2 f fd ["action", "value"] (spDoes K) := by
  refine F.okJ sc_does (fun vs H Q E h => ?_) (fun cdv A outer s H vs Q E hr h => ?_)
  · obtain ⟨v, t, n, val, rfl, _⟩ := h
    rfl
  obtain ⟨v, t, n, val, rfl, ⟨a, r, s', rfl, ha, ht, hn, hp⟩, q⟩ := h
  refine ⟨_, (bcons (sasg (ev 0) (gtupQ (n := 2) rfl (gcons (gname (i := 2) sc_does.nd rfl (Or.inl rfl)) (gcons (gname (i := 3) sc_does.nd rfl (Or.inl rfl)) gnil))))
      (bone (sret (ecall C_half_acts (hr.mono (by decide)) rfl (acons (eif (tcmp op_isN (ev 1) enon (nomark _)) (ev 3) (ev 2)) (acons (ev 1) anil)))))), ?_⟩
  cases val with
  | none =>
    simp only [tSeq, tNext, tIfS, tAsg, gName, gSub, tRet, tRetN, tDrop, tVar, tC, tOp, tUn, rI0, rI, rU, tTest, tB, tAndV, tOrV, tNotV, tAnd, tOr, tNot, tIf, tChain, tCB, tCons, tNil, tLst, tTup, tCallC, List.getElem?_cons_zero, List.getElem?_cons_succ, List.set_cons_zero, List.set_cons_succ, Option.some.injEq, V.int.injEq, V.bl.injEq, V.ref.injEq, V.ty.injEq, V.str.injEq, List.cons.injEq, exists_eq_left', exists_eq_left, exists_and_left, and_true, true_and, and_assoc, cxK, rIxF, rSetL, rEq, rNe, scal, HO.lst.injEq, HO.tup.injEq, upd_none, ixN_10, ixN_20, ixN_21, ixN_30, ixN_31, ixN_32, upd_same, seqAt_updL, seqAt_updT, atI_0, atI_1, atI_2, atI_3, decide_eq_true_eq, L2.start, List.map_cons, List.map_nil, List.length_cons, List.length_nil, Nat.reduceAdd, Nat.reduceSub, List.replicate_succ, List.replicate_zero, List.cons_append, List.nil_append, List.append_nil, tFor_rng1, tFor_rng2, tFor_list, tFor_tup, CDv, CMul, CPow, sizeLine_eq, Int.reduceLE, Int.reduceLT, Int.reducePow, Int.reduceToNat, Int.reduceAdd, Int.reduceSub, Int.reduceMul, Int.reduceNeg, Nat.reduceLeDiff, Nat.reducePow, Nat.reduceLT, Int.reduceEq, true_or, or_true, ite_true, ite_false, if_true, if_false, Bool.not_true, Bool.not_false, Bool.false_eq_true, decide_true, decide_false, rIxQ, seqQ_updL, seqQ_updT, tupQ_updT, tSl, tNoPart, tPart, rSlQ, rSlTQ, rCatQ, tTupQ, tLstQ, new_upd, tNever, rEqD, rInQ, gTupQ, gCons, gNil, tBM, tBM0, rAppend, rClear, tFor_rng3, tLc_rng1, tLc_rng2, tLc_list, tLc_tup, pick_nil, pick_own, pick_cap, join_some, tYes, gSlice, tCallKC, gk_11, gk_31, tLc2_list, bodyL_tup, bodyL_list, bodyE_eq, ha,  oV]
    exact ⟨s', n, none, rfl, hn, fun _ => hp, q⟩
  | some i =>
    simp only [tSeq, tNext, tIfS, tAsg, gName, gSub, tRet, tRetN, tDrop, tVar, tC, tOp, tUn, rI0, rI, rU, tTest, tB, tAndV, tOrV, tNotV, tAnd, tOr, tNot, tIf, tChain, tCB, tCons, tNil, tLst, tTup, tCallC, List.getElem?_cons_zero, List.getElem?_cons_succ, List.set_cons_zero, List.set_cons_succ, Option.some.injEq, V.int.injEq, V.bl.injEq, V.ref.injEq, V.ty.injEq, V.str.injEq, List.cons.injEq, exists_eq_left', exists_eq_left, exists_and_left, and_true, true_and, and_assoc, cxK, rIxF, rSetL, rEq, rNe, scal, HO.lst.injEq, HO.tup.injEq, upd_none, ixN_10, ixN_20, ixN_21, ixN_30, ixN_31, ixN_32, upd_same, seqAt_updL, seqAt_updT, atI_0, atI_1, atI_2, atI_3, decide_eq_true_eq, L2.start, List.map_cons, List.map_nil, List.length_cons, List.length_nil, Nat.reduceAdd, Nat.reduceSub, List.replicate_succ, List.replicate_zero, List.cons_append, List.nil_append, List.append_nil, tFor_rng1, tFor_rng2, tFor_list, tFor_tup, CDv, CMul, CPow, sizeLine_eq, Int.reduceLE, Int.reduceLT, Int.reducePow, Int.reduceToNat, Int.reduceAdd, Int.reduceSub, Int.reduceMul, Int.reduceNeg, Nat.reduceLeDiff, Nat.reducePow, Nat.reduceLT, Int.reduceEq, true_or, or_true, ite_true, ite_false, if_true, if_false, Bool.not_true, Bool.not_false, Bool.false_eq_true, decide_true, decide_false, rIxQ, seqQ_updL, seqQ_updT, tupQ_updT, tSl, tNoPart, tPart, rSlQ, rSlTQ, rCatQ, tTupQ, tLstQ, new_upd, tNever, rEqD, rInQ, gTupQ, gCons, gNil, tBM, tBM0, rAppend, rClear, tFor_rng3, tLc_rng1, tLc_rng2, tLc_list, tLc_tup, pick_nil, pick_own, pick_cap, join_some, tYes, gSlice, tCallKC, gk_11, gk_31, tLc2_list, bodyL_tup, bodyL_list, bodyE_eq, ha,  oV,  reduceCtorEq]
    exact ⟨r, t, some i, rfl, ht, (fun z => nomatch z), q⟩
/-! ### the program's own: has_key, have_common, cut -/
def Nt.has (e : Nt) (k : Int) : Bool := decide (e.lo ≤ k ∧ k < e.hi)
def Nt.com (e e' : Nt) : Bool := decide (e.lo < e'.hi ∧ e'.lo < e.hi)
def mx (a b : Int) : Int := if b > a then b else a
def mn (a b : Int) : Int := if b < a then b else a
def Nt.cut (e : Nt) (lo hi : Int) : Nt := { e with lo := mx e.lo lo, hi := mn e.hi hi }
def spHasKey (K : PySem.W.Frag) : Sp := fun vs H Q _ => ∃ v e k, vs = [v, .int k] ∧ NoteAt K H v e ∧ Q (.bl (e.has k)) H
def spCommon (K : PySem.W.Frag) : Sp := fun vs H Q _ => ∃ v e v' e', vs = [v, v'] ∧ NoteAt K H v e ∧ NoteAt K H v' e' ∧ Q (.bl (e.com e')) H
def spCut (K : PySem.W.Frag) : Sp := fun vs H Q _ => ∃ v e lo hi, vs = [v, .int lo, .int hi] ∧ NoteAt K H v e ∧
  (mx e.lo lo < mn e.hi hi → ∀ b H', NoteAt K H' b (e.cut lo hi) → Ext K H H' → Q b H') ∧ (¬ mx e.lo lo < mn e.hi hi → Q .non H)
theorem sc_has_key : FnScope ["note", "key"] ["note", "key"] (defScope s_has_key) := ⟨rfl, rfl, rfl, by decide +kernel, rfl, by decide +kernel, by decide +kernel⟩
theorem ok_has_key {f : Addr} {fd : FuncData} (F : Fun K "has_key" "has_key" s_has_key f fd) {aG : Addr} {tE : Tok} (B : B K mg aG tE) : FnOk P w K mg base CX0 1 f fd ["note", "key"] (spHasKey K) := by
  refine F.okJ sc_has_key (fun vs H Q E h => ?_) (fun cdv A outer s H vs Q E hr h => ?_)
  · obtain ⟨v, e, k, rfl, _⟩ := h
    rfl
  obtain ⟨v, e, k, rfl, ⟨a, w, rfl, ha, hA⟩, q⟩ := h
  refine ⟨_, (bone (sret (echain op_le op_lt (eix ix_Q (ev 0) ei (fun _ _ => rfl)) (ev 1) (eix ix_Q (ev 0) ei (fun _ _ => rfl))))), ?_⟩
  simp only [tSeq, tNext, tIfS, tAsg, gName, gSub, tRet, tRetN, tDrop, tVar, tC, tOp, tUn, rI0, rI, rU, tTest, tB, tAndV, tOrV, tNotV, tAnd, tOr, tNot, tIf, tChain, tCB, tCons, tNil, tLst, tTup, tCallC, List.getElem?_cons_zero, List.getElem?_cons_succ, List.set_cons_zero, List.set_cons_succ, Option.some.injEq, V.int.injEq, V.bl.injEq, V.ref.injEq, V.ty.injEq, V.str.injEq, List.cons.injEq, exists_eq_left', exists_eq_left, exists_and_left, and_true, true_and, and_assoc, cxK, rIxF, rSetL, rEq, rNe, scal, HO.lst.injEq, HO.tup.injEq, upd_none, ixN_10, ixN_20, ixN_21, ixN_30, ixN_31, ixN_32, upd_same, seqAt_updL, seqAt_updT, atI_0, atI_1, atI_2, atI_3, decide_eq_true_eq, L2.start, List.map_cons, List.map_nil, List.length_cons, List.length_nil, Nat.reduceAdd, Nat.reduceSub, List.replicate_succ, List.replicate_zero, List.cons_append, List.nil_append, List.append_nil, tFor_rng1, tFor_rng2, tFor_list, tFor_tup, CDv, CMul, CPow, sizeLine_eq, Int.reduceLE, Int.reduceLT, Int.reducePow, Int.reduceToNat, Int.reduceAdd, Int.reduceSub, Int.reduceMul, Int.reduceNeg, Nat.reduceLeDiff, Nat.reducePow, Nat.reduceLT, Int.reduceEq, true_or, or_true, ite_true, ite_false, if_true, if_false, Bool.not_true, Bool.not_false, Bool.false_eq_true, decide_true, decide_false, rIxQ, seqQ_updL, seqQ_updT, tupQ_updT, tSl, tNoPart, tPart, rSlQ, rSlTQ, rCatQ, tTupQ, tLstQ, tNever, rEqD, rInQ, gTupQ, gCons, gNil, tBM, tBM0, rAppend, rClear, tFor_rng3, tLc_rng1, tLc_rng2, tLc_list, tLc_tup, pick_nil, pick_own, pick_cap, join_some, tYes, gSlice, tCallKC, gk_11, gk_31, tLc2_list, bodyL_tup, bodyL_list, bodyE_eq, seqQ_T ha]
  refine ite2 (fun c => ?_) (fun c => ?_)
  · have e1 : e.has k = decide (k < e.hi) := by simp [Nt.has, c]
    rw [e1] at q
    exact q
  · have e1 : e.has k = false := by simp [Nt.has, c]
    rw [e1] at q
    exact q
theorem sc_cut : FnScope ["note", "low", "high", "number", "note_low", "note_high", "action", "first", "end"] ["note", "low", "high"] (defScope s_cut) := ⟨rfl, rfl, rfl, by decide +kernel, rfl, by decide +kernel, by decide +kernel⟩
theorem ok_cut {f : Addr} {fd : FuncData} (F : Fun K "cut" "cut" s_cut f fd) {aG : Addr} {tE : Tok} (B : B K mg aG tE) : FnOk P w K mg base CX0 1 f fd ["note", "low", "high"] (spCut K) := by
  refine F.okJ sc_cut (fun vs H Q E h => ?_) (fun cdv A outer s H vs Q E hr h => ?_)
  · obtain ⟨v, e, lo, hi, rfl, _⟩ := h
    rfl
  obtain ⟨v, e, lo, hi, rfl, ⟨a, w, rfl, ha, hA⟩, q1, q2⟩ := h
  refine ⟨_, (bcons (sasg (ev 0) (gtupQ (n := 4) rfl (gcons (gname (i := 3) sc_cut.nd rfl (Or.inl rfl)) (gcons (gname (i := 4) sc_cut.nd rfl (Or.inl rfl)) (gcons (gname (i := 5) sc_cut.nd rfl (Or.inl rfl)) (gcons (gname (i := 6) sc_cut.nd rfl (Or.inl rfl)) gnil))))))
      (bcons (sset (i := 7) sc_cut.nd rfl (Or.inl rfl) (ecallB (call_max2 rfl) rfl B.max bt_max (acons (ev 4) (acons (ev 1) anil))))
      (bcons (sset (i := 8) sc_cut.nd rfl (Or.inl rfl) (ecallB (call_min2 rfl) rfl B.min bt_min (acons (ev 5) (acons (ev 2) anil))))
      (bone (sret (eif (tcmp op_lt (ev 7) (ev 8) (nomark _)) (etupQ (acons (ev 3) (acons (ev 7) (acons (ev 8) (acons (ev 6) anil))))) enon)))))), ?_⟩
  simp only [tSeq, tNext, tIfS, tAsg, gName, gSub, tRet, tRetN, tDrop, tVar, tC, tOp, tUn, rI0, rI, rU, tTest, tB, tAndV, tOrV, tNotV, tAnd, tOr, tNot, tIf, tChain, tCB, tCons, tNil, tLst, tTup, tCallC, List.getElem?_cons_zero, List.getElem?_cons_succ, List.set_cons_zero, List.set_cons_succ, Option.some.injEq, V.int.injEq, V.bl.injEq, V.ref.injEq, V.ty.injEq, V.str.injEq, List.cons.injEq, exists_eq_left', exists_eq_left, exists_and_left, and_true, true_and, and_assoc, cxK, rIxF, rSetL, rEq, rNe, scal, HO.lst.injEq, HO.tup.injEq, upd_none, ixN_10, ixN_20, ixN_21, ixN_30, ixN_31, ixN_32, upd_same, seqAt_updL, seqAt_updT, atI_0, atI_1, atI_2, atI_3, decide_eq_true_eq, L2.start, List.map_cons, List.map_nil, List.length_cons, List.length_nil, Nat.reduceAdd, Nat.reduceSub, List.replicate_succ, List.replicate_zero, List.cons_append, List.nil_append, List.append_nil, tFor_rng1, tFor_rng2, tFor_list, tFor_tup, CDv, CMul, CPow, sizeLine_eq, Int.reduceLE, Int.reduceLT, Int.reducePow, Int.reduceToNat, Int.reduceAdd, Int.reduceSub, Int.reduceMul, Int.reduceNeg, Nat.reduceLeDiff, Nat.reducePow, Nat.reduceLT, Int.reduceEq, true_or, or_true, ite_true, ite_false, if_true, if_false, Bool.not_true, Bool.not_false, Bool.false_eq_true, decide_true, decide_false, rIxQ, seqQ_updL, seqQ_updT, tupQ_updT, tSl, tNoPart, tPart, rSlQ, rSlTQ, rCatQ, tTupQ, tLstQ, tNever, rEqD, rInQ, gTupQ, gCons, gNil, tBM, tBM0, rAppend, rClear, tFor_rng3, tLc_rng1, tLc_rng2, tLc_list, tLc_tup, pick_nil, pick_own, pick_cap, join_some, tYes, gSlice, tCallKC, gk_11, gk_31, tLc2_list, bodyL_tup, bodyL_list, bodyE_eq, ha]
  refine ite2 (fun c => fun b nb => ?_) (fun c => q2 c)
  exact q1 c _ _ ⟨b, w, rfl, tupQ_updT, hA.ext (Ext.new nb)⟩ (Ext.new nb)
theorem Nt.cut_ok {e : Nt} (h : e.ok) {lo hi : Int} (c : mx e.lo lo < mn e.hi hi) : (e.cut lo hi).ok := by
  have l1 : e.lo ≤ mx e.lo lo := by unfold mx; split <;> omega
  have h1 : mn e.hi hi ≤ e.hi := by unfold mn; split <;> omega
  have := h.lo0
  have := h.hi1
  refine ⟨h.n1, by show 0 ≤ mx e.lo lo; omega, c, by show mn e.hi hi ≤ _; omega, ?_, h.np⟩
  rcases h.one with z | z
  · left
    show mn e.hi hi - mx e.lo lo = 1
    omega
  · exact .inr z
/-! ### trays -/
abbrev Tr := List (V × Nt)
def TrayAt (K : PySem.W.Frag) (H : Hp) (L : Tr) : Prop := ∀ q ∈ L, NoteAt K H q.1 q.2 ∧ q.2.ok
theorem TrayAt.ext {K : PySem.W.Frag} {H H' : Hp} {L : Tr} (h : TrayAt K H L) (x : Ext K H H') : TrayAt K H' L := fun q hq => ⟨(h q hq).1.ext x, (h q hq).2⟩
theorem TrayAt.kp {K : PySem.W.Frag} {H H' : Hp} {L : Tr} {p : Addr} {xs : List V} (h : TrayAt K H L) (k : Kp K p H H') (hp : H p = some (.lst xs)) : TrayAt K H' L := fun q hq => ⟨(h q hq).1.kp k hp, (h q hq).2⟩
theorem TrayAt.sub {K : PySem.W.Frag} {H : Hp} {L L' : Tr} (h : TrayAt K H L) (s : ∀ q ∈ L', q ∈ L) : TrayAt K H L' := fun q hq => h q (s q hq)
theorem TrayAt.app {K : PySem.W.Frag} {H : Hp} {L L' : Tr} (h : TrayAt K H L) (h' : TrayAt K H L') : TrayAt K H (L ++ L') := fun q hq => (List.mem_append.mp hq).elim (h q) (h' q)
abbrev Tr.v (L : Tr) : List V := L.map (·.1)
def okAt (at_ : Option Int) (n : Int) : Bool := match at_ with | none => true | some w => decide (n ≤ w)
def seeF (L : Tr) (key : Int) (at_ : Option Int) (v : Option Int) : Option Int := (L.filter fun q => q.2.has key && okAt at_ q.2.n).foldl (fun v q => actF q.2.t q.2.m v) v
/-- [note for note in tray if test]: what a test leaves of a tray -/
theorem lc_tray {K : PySem.W.Frag} {c D : Addr} {L : Tr} {f : V × Nt → Bool} {tt : TT} {v0 : Option V} {rest : St} {H : Hp} {Q : Hp → Prop} (hk : SqL K H c L.v) (hsame : ∀ H', Ext K H H' → SqL K H' c L.v) (nD : new K H D) (hz : L.length ≤ 1000)
    (test : ∀ q ∈ L, ∀ H' (Q : Bool → Hp → Prop), Ext K H H' → (∀ H'', Ext K H' H'' → Q (f q) H'') → tt (some q.1 :: rest) H' Q)
    (fin : ∀ H', H' D = some (.lst (Tr.v (L.filter f))) → Ext K H H' → Q H') : LcLoop (Itl K c) (gName 0) tt (tVar 0) D Q (v0 :: rest) (upd H D (.lst [])) := by
  refine lc_list (xs := L.v) (fun i acc σ' H' => ∃ (v0 : Option V), σ' = v0 :: rest ∧ H' D = some (.lst acc) ∧ acc = Tr.v ((L.take i).filter f) ∧ Kp K D (upd H D (.lst [])) H') ?_ ?_ ?_ ?_
  · exact ⟨_, rfl, upd_same, rfl, Kp.refl⟩
  · rintro i acc σ' H' _ ⟨v0, rfl, hD, rfl, k⟩
    exact hsame H' (k.ext nD)
  · rintro i x acc σ' H' hx ⟨v0, rfl, hD, rfl, k⟩
    rw [List.getElem?_map] at hx
    obtain ⟨q, ek, rfl⟩ := Option.map_eq_some_iff.mp hx
    have et : L.take (i + 1) = L.take i ++ [q] := by rw [List.take_add_one, ek]; rfl
    have hlen : ((L.take i).filter f).length ≤ 1000 := Nat.le_trans (List.length_filter_le _ _) (by rw [List.length_take]; omega)
    refine test q (List.mem_of_getElem? ek) H' _ (k.ext nD) fun H5 x5 => ?_
    have hD5 := x5.at hD
    cases ci : f q with
    | true =>
      refine iteT ⟨q.1, rfl, hD5, by rw [List.length_map]; exact Nat.lt_of_le_of_lt hlen (by decide), _, rfl, upd_same, by rw [et, List.filter_append, List.filter_cons_of_pos ci]; simp [Tr.v], k.trans (x5.kp.trans (Kp.upd hD5))⟩
    | false =>
      exact iteF ⟨_, rfl, hD5, by rw [et, List.filter_append, List.filter_cons_of_neg (by rw [ci]; decide), List.filter_nil, List.append_nil], k.trans x5.kp⟩
  · rintro acc σ' H' ⟨v0, rfl, hD, rfl, k⟩
    rw [List.length_map, List.take_length] at hD
    exact fin H' hD (k.ext nD)
def spUpTo (K : PySem.W.Frag) : Sp := fun vs H Q _ => ∃ (r : Addr) (L : Tr) (at_ : Option Int), vs = [.ref r, oV at_] ∧ H r = some (.lst L.v) ∧ TrayAt K H L ∧ L.length ≤ 1000 ∧ ∀ (D : Addr) H', H' D = some (.lst (Tr.v (L.filter fun q => okAt at_ q.2.n))) → Ext K H H' → Q (.ref D) H'
def spTouching (K : PySem.W.Frag) : Sp := fun vs H Q _ => ∃ (r : Addr) (L : Tr) (key : Int), vs = [.ref r, .int key] ∧ H r = some (.lst L.v) ∧ TrayAt K H L ∧ L.length ≤ 1000 ∧ ∀ (D : Addr) H', H' D = some (.lst (Tr.v (L.filter fun q => q.2.has key))) → Ext K H H' → Q (.ref D) H'
def spSeen (K : PySem.W.Frag) : Sp := fun vs H Q _ => ∃ (r : Addr) (L : Tr) (key : Int) (val at_ : Option Int), vs = [.ref r, .int key, oV val, oV at_] ∧ H r = some (.lst L.v) ∧ TrayAt K H L ∧ L.length ≤ 1000 ∧ ∀ H', Ext K H H' → Q (oV (seeF L key at_ val)) H'
theorem sc_up_to : FnScope ["tray", "at"] ["tray", "at"] (defScope s_up_to) := ⟨rfl, rfl, rfl, by decide +kernel, rfl, by decide +kernel, by decide +kernel⟩
theorem ok_up_to {f : Addr} {fd : FuncData} (F : Fun K "up_to" "up_to" s_up_to f fd) {aG : Addr} {tE : Tok} (B : B K mg aG tE) : FnOk P w K mg base CX0 1 f fd ["tray", "at"] (spUpTo K) := by
  refine F.okJ sc_up_to (fun vs H Q E h => ?_) (fun cdv A outer s H vs Q E hr h => ?_)
  · obtain ⟨r, L, at_, rfl, _⟩ := h
    rfl
  obtain ⟨r, L, at_, rfl, hr0, hT, hz, q⟩ := h
  refine ⟨_, (bone (sret (elc (Cap.mk (N := ["note", "at"]) (src := [none, some 1]) rfl rfl) rfl (ilist (ev 0)) (fun _ _ _ _ => (gname (i := 0) (show (["note", "at"] : List Str).Nodup from by decide +kernel) rfl (Or.inl rfl))) (fun _ _ _ _ => (fone (tw (wor (tcmp op_isN (ev 1) enon (nomark _)) (wor1 (tcmp op_le (eix (ix_QK K) (ev 0) ei (fun _ _ => rfl)) (ev 1) (nomark _))))))) (fun _ _ _ _ => (ev 0))))), ?_⟩
  try walk_at "rn"
  refine ⟨⟨_, SqL.of hr0⟩, fun D nD => ?_⟩
  refine lc_tray (f := fun q => okAt at_ q.2.n) (SqL.of hr0) (fun H' x => SqL.of (x.at hr0)) nD hz (fun n hn H' Q' xx qq => ?_) (fun H' hD xD => q D H' hD xD)
  obtain ⟨a, w, e1, e2, e3⟩ := ((hT.ext xx) n hn).1
  have qk := qq _ Ext.refl
  cases at_ with
  | none =>
    simp only [tSeq, tNext, tIfS, tAsg, gName, gSub, tRet, tRetN, tDrop, tVar, tC, tOp, tUn, rI0, rI, rU, tTest, tB, tAndV, tOrV, tNotV, tAnd, tOr, tNot, tIf, tChain, tCB, tCons, tNil, tLst, tTup, tCallC, List.getElem?_cons_zero, List.getElem?_cons_succ, List.set_cons_zero, List.set_cons_succ, Option.some.injEq, V.int.injEq, V.bl.injEq, V.ref.injEq, V.ty.injEq, V.str.injEq, List.cons.injEq, exists_eq_left', exists_eq_left, exists_and_left, and_true, true_and, and_assoc, cxK, rIxF, rSetL, rEq, rNe, scal, HO.lst.injEq, HO.tup.injEq, upd_none, ixN_10, ixN_20, ixN_21, ixN_30, ixN_31, ixN_32, upd_same, seqAt_updL, seqAt_updT, atI_0, atI_1, atI_2, atI_3, decide_eq_true_eq, L2.start, List.map_cons, List.map_nil, List.length_cons, List.length_nil, Nat.reduceAdd, Nat.reduceSub, List.replicate_succ, List.replicate_zero, List.cons_append, List.nil_append, List.append_nil, tFor_rng1, tFor_rng2, tFor_list, tFor_tup, CDv, CMul, CPow, sizeLine_eq, Int.reduceLE, Int.reduceLT, Int.reducePow, Int.reduceToNat, Int.reduceAdd, Int.reduceSub, Int.reduceMul, Int.reduceNeg, Nat.reduceLeDiff, Nat.reducePow, Nat.reduceLT, Int.reduceEq, true_or, or_true, ite_true, ite_false, if_true, if_false, Bool.not_true, Bool.not_false, Bool.false_eq_true, decide_true, decide_false, rIxQ, seqQ_updL, seqQ_updT, tupQ_updT, tSl, tNoPart, tPart, rSlQ, rSlTQ, rCatQ, tTupQ, tLstQ, tNever, rEqD, rInQ, gTupQ, gCons, gNil, tBM, tBM0, rAppend, rClear, tFor_rng3, tLc_rng1, tLc_rng2, tLc_list, tLc_tup, pick_nil, pick_own, pick_cap, join_some, tYes, gSlice, tCallKC, gk_11, gk_31, tLc2_list, bodyL_tup, bodyL_list, bodyE_eq, oV_n]
    exact qk
  | some m =>
    simp only [tSeq, tNext, tIfS, tAsg, gName, gSub, tRet, tRetN, tDrop, tVar, tC, tOp, tUn, rI0, rI, rU, tTest, tB, tAndV, tOrV, tNotV, tAnd, tOr, tNot, tIf, tChain, tCB, tCons, tNil, tLst, tTup, tCallC, List.getElem?_cons_zero, List.getElem?_cons_succ, List.set_cons_zero, List.set_cons_succ, Option.some.injEq, V.int.injEq, V.bl.injEq, V.ref.injEq, V.ty.injEq, V.str.injEq, List.cons.injEq, exists_eq_left', exists_eq_left, exists_and_left, and_true, true_and, and_assoc, cxK, rIxF, rSetL, rEq, rNe, scal, HO.lst.injEq, HO.tup.injEq, upd_none, ixN_10, ixN_20, ixN_21, ixN_30, ixN_31, ixN_32, upd_same, seqAt_updL, seqAt_updT, atI_0, atI_1, atI_2, atI_3, decide_eq_true_eq, L2.start, List.map_cons, List.map_nil, List.length_cons, List.length_nil, Nat.reduceAdd, Nat.reduceSub, List.replicate_succ, List.replicate_zero, List.cons_append, List.nil_append, List.append_nil, tFor_rng1, tFor_rng2, tFor_list, tFor_tup, CDv, CMul, CPow, sizeLine_eq, Int.reduceLE, Int.reduceLT, Int.reducePow, Int.reduceToNat, Int.reduceAdd, Int.reduceSub, Int.reduceMul, Int.reduceNeg, Nat.reduceLeDiff, Nat.reducePow, Nat.reduceLT, Int.reduceEq, true_or, or_true, ite_true, ite_false, if_true, if_false, Bool.not_true, Bool.not_false, Bool.false_eq_true, decide_true, decide_false, rIxQ, seqQ_updL, seqQ_updT, tupQ_updT, tSl, tNoPart, tPart, rSlQ, rSlTQ, rCatQ, tTupQ, tLstQ, tNever, rEqD, rInQ, gTupQ, gCons, gNil, tBM, tBM0, rAppend, rClear, tFor_rng3, tLc_rng1, tLc_rng2, tLc_list, tLc_tup, pick_nil, pick_own, pick_cap, join_some, tYes, gSlice, tCallKC, gk_11, gk_31, tLc2_list, bodyL_tup, bodyL_list, bodyE_eq, oV_s,  reduceCtorEq]
    rw [e1]
    simp only [tSeq, tNext, tIfS, tAsg, gName, gSub, tRet, tRetN, tDrop, tVar, tC, tOp, tUn, rI0, rI, rU, tTest, tB, tAndV, tOrV, tNotV, tAnd, tOr, tNot, tIf, tChain, tCB, tCons, tNil, tLst, tTup, tCallC, List.getElem?_cons_zero, List.getElem?_cons_succ, List.set_cons_zero, List.set_cons_succ, Option.some.injEq, V.int.injEq, V.bl.injEq, V.ref.injEq, V.ty.injEq, V.str.injEq, List.cons.injEq, exists_eq_left', exists_eq_left, exists_and_left, and_true, true_and, and_assoc, cxK, rIxF, rSetL, rEq, rNe, scal, HO.lst.injEq, HO.tup.injEq, upd_none, ixN_10, ixN_20, ixN_21, ixN_30, ixN_31, ixN_32, upd_same, seqAt_updL, seqAt_updT, atI_0, atI_1, atI_2, atI_3, decide_eq_true_eq, L2.start, List.map_cons, List.map_nil, List.length_cons, List.length_nil, Nat.reduceAdd, Nat.reduceSub, List.replicate_succ, List.replicate_zero, List.cons_append, List.nil_append, List.append_nil, tFor_rng1, tFor_rng2, tFor_list, tFor_tup, CDv, CMul, CPow, sizeLine_eq, Int.reduceLE, Int.reduceLT, Int.reducePow, Int.reduceToNat, Int.reduceAdd, Int.reduceSub, Int.reduceMul, Int.reduceNeg, Nat.reduceLeDiff, Nat.reducePow, Nat.reduceLT, Int.reduceEq, true_or, or_true, ite_true, ite_false, if_true, if_false, Bool.not_true, Bool.not_false, Bool.false_eq_true, decide_true, decide_false, rIxQ, seqQ_updL, seqQ_updT, tupQ_updT, tSl, tNoPart, tPart, rSlQ, rSlTQ, rCatQ, tTupQ, tLstQ, tNever, rEqD, rInQ, gTupQ, gCons, gNil, tBM, tBM0, rAppend, rClear, tFor_rng3, tLc_rng1, tLc_rng2, tLc_list, tLc_tup, pick_nil, pick_own, pick_cap, join_some, tYes, gSlice, tCallKC, gk_11, gk_31, tLc2_list, bodyL_tup, bodyL_list, bodyE_eq, seqQ_T e2]
    exact qk
theorem sc_touching : FnScope ["tray", "key"] ["tray", "key"] (defScope s_touching) := ⟨rfl, rfl, rfl, by decide +kernel, rfl, by decide +kernel, by decide +kernel⟩
theorem ok_touching {f : Addr} {fd : FuncData} (F : Fun K "touching" "touching" s_touching f fd) {aG : Addr} {tE : Tok} (B : B K mg aG tE) (C_has_key : Callee P w K mg base "has_key" 1 ["note", "key"] (spHasKey K)) : FnOk P w K mg base CX0 2 f fd ["tray", "key"] (spTouching K) := by
  refine F.okJ sc_touching (fun vs H Q E h => ?_) (fun cdv A outer s H vs Q E hr h => ?_)
  · obtain ⟨r, L, key, rfl, _⟩ := h
    rfl
  obtain ⟨r, L, key, rfl, hr0, hT, hz, q⟩ := h
  refine ⟨_, (bone (sret (elc (Cap.mk (N := ["note", "key"]) (src := [none, some 1]) rfl rfl) rfl (ilist (ev 0)) (fun _ _ _ _ => (gname (i := 0) (show (["note", "key"] : List Str).Nodup from by decide +kernel) rfl (Or.inl rfl))) (fun _ _ _ _ => (fone (tval (ecall C_has_key (hr.mono (by decide)) rfl (acons (ev 0) (acons (ev 1) anil)))))) (fun _ _ _ _ => (ev 0))))), ?_⟩
  try walk_at "rn"
  refine ⟨⟨_, SqL.of hr0⟩, fun D nD => ?_⟩
  refine lc_tray (f := fun q => q.2.has key) (SqL.of hr0) (fun H' x => SqL.of (x.at hr0)) nD hz (fun n hn H' Q' xx qq => ?_) (fun H' hD xD => q D H' hD xD)
  try walk_at "rn"
  exact ⟨n.1, n.2, key, rfl, ((hT.ext xx) n hn).1, ⟨_, rfl, qq _ Ext.refl⟩⟩
theorem sc_seen : FnScope ["tray", "key", "value", "at", "note"] ["tray", "key", "value", "at"] (defScope s_seen) := ⟨rfl, rfl, rfl, by decide +kernel, rfl, by decide +kernel, by decide +kernel⟩
theorem ok_seen {f : Addr} {fd : FuncData} (F : Fun K "seen" "seen" s_seen f fd) {aG : Addr} {tE : Tok} (B : B K mg aG tE) (C_up_to : Callee P w K mg base "up_to" 1 ["tray", "at"] (spUpTo K)) (C_touching : Callee P w K mg base "touching" 2 ["tray", "key"] (spTouching K)) (C_does : Callee P w K mg base "does" 2 ["action", "value"] (spDoes K)) : FnOk P w K mg base CX0 3 f fd ["tray", "key", "value", "at"] (spSeen K) := by
  refine F.okJ sc_seen (fun vs H Q E h => ?_) (fun cdv A outer s H vs Q E hr h => ?_)
  · obtain ⟨r, L, key, val, at_, rfl, _⟩ := h
    rfl
  obtain ⟨r, L, key, val, at_, rfl, hr0, hT, hz, q⟩ := h
  refine ⟨_, (bcons (sfor PassesOwn.never rfl (ilist (ecall C_touching (hr.mono (by decide)) rfl (acons (ecall C_up_to (hr.mono (by decide)) rfl (acons (ev 0) (acons (ev 3) anil))) (acons (ev 1) anil)))) (gname (i := 4) sc_seen.nd rfl (Or.inl rfl))
        (bone (sset (i := 2) sc_seen.nd rfl (Or.inl rfl) (ecall C_does (hr.mono (by decide)) rfl (acons (eix ix_Q (ev 4) ei (fun _ _ => rfl)) (acons (ev 2) anil))))))
      (bone (sret (ev 2)))), ?_⟩
  try walk_at "rn"
  refine ⟨r, L, at_, rfl, hr0, hT, hz, fun D1 H1 hD1 x1 => ?_⟩
  try walk_at "rn"
  have T1 : TrayAt K H1 (L.filter fun q => okAt at_ q.2.n) := (hT.ext x1).sub fun q hq => (List.mem_filter.mp hq).1
  refine ⟨D1, _, key, rfl, hD1, T1, Nat.le_trans (List.length_filter_le _ _) hz, fun D2 H2 hD2 x2 => ?_⟩
  rw [List.filter_filter] at hD2
  try walk_at "rn"
  refine ⟨⟨_, SqL.of hD2⟩, ?_⟩
  have T2 : TrayAt K H2 (L.filter fun q => q.2.has key && okAt at_ q.2.n) := (hT.ext (x1.trans x2)).sub fun q hq => (List.mem_filter.mp hq).1
  have eS : seeF L key at_ val = (L.filter fun q => q.2.has key && okAt at_ q.2.n).foldl (fun v q => actF q.2.t q.2.m v) val := rfl
  rw [eS] at q
  generalize (L.filter fun q => q.2.has key && okAt at_ q.2.n) = M at hD2 T2 q
  obtain ⟨Pv, eP⟩ : ∃ Pv : Nat → St → Hp → Prop, Pv = fun i σ' H' => ∃ (v4 : Option V), σ' = [some (.ref r), some (.int key), some (oV ((M.take i).foldl (fun v q => actF q.2.t q.2.m v) val)), some (oV at_), v4] ∧ H' = H2 := ⟨_, rfl⟩
  refine loop_list (xs := Tr.v M) Pv ?_ ?_ ?_ ?_
  · rw [eP]
    exact ⟨_, rfl, rfl⟩
  · intro i σ' H' _ h
    rw [eP] at h
    obtain ⟨_, _, rfl⟩ := h
    exact SqL.of hD2
  · intro i x σ' H' hx h
    rw [eP] at h
    obtain ⟨v4, rfl, rfl⟩ := h
    rw [List.getElem?_map] at hx
    obtain ⟨m, em, rfl⟩ := Option.map_eq_some_iff.mp hx
    obtain ⟨⟨a, w, e1, e2, e3⟩, _⟩ := T2 m (List.mem_of_getElem? em)
    rw [e1]
    simp only [tSeq, tNext, tIfS, tAsg, gName, gSub, tRet, tRetN, tDrop, tVar, tC, tOp, tUn, rI0, rI, rU, tTest, tB, tAndV, tOrV, tNotV, tAnd, tOr, tNot, tIf, tChain, tCB, tCons, tNil, tLst, tTup, tCallC, List.getElem?_cons_zero, List.getElem?_cons_succ, List.set_cons_zero, List.set_cons_succ, Option.some.injEq, V.int.injEq, V.bl.injEq, V.ref.injEq, V.ty.injEq, V.str.injEq, List.cons.injEq, exists_eq_left', exists_eq_left, exists_and_left, and_true, true_and, and_assoc, cxK, rIxF, rSetL, rEq, rNe, scal, HO.lst.injEq, HO.tup.injEq, upd_none, ixN_10, ixN_20, ixN_21, ixN_30, ixN_31, ixN_32, upd_same, seqAt_updL, seqAt_updT, atI_0, atI_1, atI_2, atI_3, decide_eq_true_eq, L2.start, List.map_cons, List.map_nil, List.length_cons, List.length_nil, Nat.reduceAdd, Nat.reduceSub, List.replicate_succ, List.replicate_zero, List.cons_append, List.nil_append, List.append_nil, tFor_rng1, tFor_rng2, tFor_list, tFor_tup, CDv, CMul, CPow, sizeLine_eq, Int.reduceLE, Int.reduceLT, Int.reducePow, Int.reduceToNat, Int.reduceAdd, Int.reduceSub, Int.reduceMul, Int.reduceNeg, Nat.reduceLeDiff, Nat.reducePow, Nat.reduceLT, Int.reduceEq, true_or, or_true, ite_true, ite_false, if_true, if_false, Bool.not_true, Bool.not_false, Bool.false_eq_true, decide_true, decide_false, rIxQ, seqQ_updL, seqQ_updT, tupQ_updT, tSl, tNoPart, tPart, rSlQ, rSlTQ, rCatQ, tTupQ, tLstQ, tNever, rEqD, rInQ, gTupQ, gCons, gNil, tBM, tBM0, rAppend, rClear, tFor_rng3, tLc_rng1, tLc_rng2, tLc_list, tLc_tup, pick_nil, pick_own, pick_cap, join_some, tYes, gSlice, tCallKC, gk_11, gk_31, tLc2_list, bodyL_tup, bodyL_list, bodyE_eq, seqQ_T e2]
    refine ⟨w, _, _, _, rfl, e3, ?_⟩
    rw [eP]
    refine ⟨some (.ref a), ?_, rfl⟩
    rw [List.take_add_one, em, Option.toList_some, List.foldl_append]
    rfl
  intro σ' H' h
  rw [eP] at h
  obtain ⟨v4, rfl, rfl⟩ := h
  try walk_at "rn"
  rw [List.length_map, List.take_length]
  exact q _ (x1.trans x2)
/-! ### notes as data -/
def Nt.d (e : Nt) : PyData := .tuple [.int e.n, .int e.lo, .int e.hi, actD e.t e.m]
theorem NoteAt.is {K : PySem.W.Frag} {H : Hp} {v : V} {e : Nt} (h : NoteAt K H v e) : Is K H e.d v := by
  obtain ⟨a, w, rfl, h1, h2⟩ := h
  simp only [Nt.d, Is, IsAll]
  exact ⟨a, _, rfl, tupQ_sq h1, _, _, rfl, rfl, _, _, rfl, rfl, _, _, rfl, rfl, _, _, rfl, h2.is, rfl⟩
theorem Nt.shaped (e : Nt) : SeqAt.shaped e.d = true := by
  obtain ⟨n, lo, hi, t, m⟩ := e
  cases t <;> cases m <;> simp only [SeqAt.shaped, Nt.d, actD, Half.d, PyData.canLay0, PyData.canLayAll0, PyData.depth, PyData.depthAll] <;> decide +kernel
theorem Nt.nob (e : Nt) : L2.nob e.d = true := by simp [Nt.d, L2.nob, nobAll, nob_act]
theorem Nt.same (e : Nt) : PyData.eqv e.d e.d = true := (eqv_iff e.nob e.nob).mpr rfl
/-! ### pouring: parts of a tray -/
theorem _root_.L2.Ext.thenKp {K : PySem.W.Frag} {H0 H H' : Hp} {D : Addr} (x : Ext K H0 H) (h : H0 D = none) (k : Kp K D H H') : Ext K H0 H' :=
  ⟨fun q o e => k.keep q o (x.at e) (ne_of_none e h), fun q xs e m => k.mod q xs (x.mod q xs e m) m⟩
theorem _root_.L2.Ext.was {K : PySem.W.Frag} {H H' : Hp} {D : Addr} (x : Ext K H H') (h : H' D = none) : H D = none := by
  cases e : H D with
  | none => rfl
  | some o => rw [x.at e] at h; cases h
def cutO (e : Nt) (lo hi : Int) : Option Nt := if mx e.lo lo < mn e.hi hi then some (e.cut lo hi) else none
abbrev Pr := List (V × Option Nt)
def PartAt (K : PySem.W.Frag) (H : Hp) (q : V × Option Nt) : Prop := match q.2 with | none => q.1 = .non | some e => NoteAt K H q.1 e ∧ e.ok
def PartsAt (K : PySem.W.Frag) (H : Hp) (L : Pr) : Prop := ∀ q ∈ L, PartAt K H q
theorem PartAt.ext {K : PySem.W.Frag} {H H' : Hp} {q : V × Option Nt} (h : PartAt K H q) (x : Ext K H H') : PartAt K H' q := by
  obtain ⟨v, o⟩ := q
  cases o with
  | none => exact h
  | some e => exact ⟨h.1.ext x, h.2⟩
theorem PartAt.kp {K : PySem.W.Frag} {H H' : Hp} {q : V × Option Nt} {p : Addr} {xs : List V} (h : PartAt K H q) (k : Kp K p H H') (hp : H p = some (.lst xs)) : PartAt K H' q := by
  obtain ⟨v, o⟩ := q
  cases o with
  | none => exact h
  | some e => exact ⟨h.1.kp k hp, h.2⟩
theorem PartsAt.ext {K : PySem.W.Frag} {H H' : Hp} {L : Pr} (h : PartsAt K H L) (x : Ext K H H') : PartsAt K H' L := fun q hq => (h q hq).ext x
theorem PartsAt.kp {K : PySem.W.Frag} {H H' : Hp} {L : Pr} {p : Addr} {xs : List V} (h : PartsAt K H L) (k : Kp K p H H') (hp : H p = some (.lst xs)) : PartsAt K H' L := fun q hq => (h q hq).kp k hp
theorem PartsAt.snoc {K : PySem.W.Frag} {H : Hp} {L : Pr} {q : V × Option Nt} (h : PartsAt K H L) (hq : PartAt K H q) : PartsAt K H (L ++ [q]) := fun q' hq' => by
  rcases List.mem_append.mp hq' with z | z
  · exact h q' z
  · have e : q' = q := by simpa using z
    rw [e]; exact hq
def someOf (L : Pr) : Tr := L.filterMap fun q => q.2.map fun e => (q.1, e)
theorem someOf_at {K : PySem.W.Frag} {H : Hp} {L : Pr} (h : PartsAt K H L) : TrayAt K H (someOf L) := fun q hq => by
  obtain ⟨⟨v, o⟩, h1, h2⟩ := List.mem_filterMap.mp hq
  obtain ⟨e, h3, h4⟩ := Option.map_eq_some_iff.mp h2
  have hp := h _ h1
  cases h4
  dsimp only at h3
  subst h3
  exact hp
theorem someOf_snd (L : Pr) : (someOf L).map (·.2) = (L.map (·.2)).filterMap id := by
  unfold someOf
  rw [List.map_filterMap, List.filterMap_map]
  congr 1
  funext q
  cases h : q.2 <;> simp [h]
theorem someOf_len (L : Pr) : (someOf L).length ≤ L.length := List.length_filterMap_le ..
theorem part_v {K : PySem.W.Frag} {H : Hp} {q : V × Option Nt} (h : PartAt K H q) : decide (q.1 = V.non) = q.2.isNone := by
  obtain ⟨v, o⟩ := q
  cases o with
  | none => have e : v = V.non := h; rw [e]; rfl
  | some e =>
    obtain ⟨⟨a, w, e1, _⟩, _⟩ := h
    have e2 : v = V.ref a := e1
    rw [e2]; rfl
/-- [piece for piece in parts if piece is not None] -/
theorem lc_some {K : PySem.W.Frag} {c D : Addr} {L : Pr} {tt : TT} {v0 : Option V} {rest : St} {H : Hp} {Q : Hp → Prop} (hk : H c = some (.lst (L.map (·.1)))) (hP : PartsAt K H L) (nD : new K H D) (hz : L.length ≤ 1000)
    (test : ∀ (v : V) H' (Q : Bool → Hp → Prop), Q (!decide (v = V.non)) H' → tt (some v :: rest) H' Q)
    (fin : ∀ H', H' D = some (.lst (Tr.v (someOf L))) → Ext K H H' → Q H') : LcLoop (Itl K c) (gName 0) tt (tVar 0) D Q (v0 :: rest) (upd H D (.lst [])) := by
  refine lc_list (xs := L.map (·.1)) (fun i acc σ' H' => ∃ (v0 : Option V), σ' = v0 :: rest ∧ H' D = some (.lst acc) ∧ acc = Tr.v (someOf (L.take i)) ∧ Kp K D (upd H D (.lst [])) H') ?_ ?_ ?_ ?_
  · exact ⟨_, rfl, upd_same, rfl, Kp.refl⟩
  · rintro i acc σ' H' _ ⟨v0, rfl, hD, rfl, k⟩
    exact SqL.of ((k.ext nD).at hk)
  · rintro i x acc σ' H' hx ⟨v0, rfl, hD, rfl, k⟩
    rw [List.getElem?_map] at hx
    obtain ⟨q, ek, rfl⟩ := Option.map_eq_some_iff.mp hx
    have et : L.take (i + 1) = L.take i ++ [q] := by rw [List.take_add_one, ek]; rfl
    have hlen : (someOf (L.take i)).length ≤ 1000 := Nat.le_trans (someOf_len _) (by rw [List.length_take]; omega)
    have hpv := part_v (hP q (List.mem_of_getElem? ek))
    refine test q.1 H' _ ?_
    rw [hpv]
    cases ci : q.2 with
    | some e =>
      refine iteT ⟨q.1, rfl, hD, by rw [List.length_map]; exact Nat.lt_of_le_of_lt hlen (by decide), _, rfl, upd_same, ?_, k.trans (Kp.upd hD)⟩
      rw [et]
      simp [someOf, ci, Tr.v]
    | none =>
      refine iteF ⟨_, rfl, hD, ?_, k⟩
      rw [et]
      simp [someOf, ci]
  · rintro acc σ' H' ⟨v0, rfl, hD, rfl, k⟩
    rw [List.length_map, List.take_length] at hD
    exact fin H' hD (k.ext nD)
theorem sum_two {α : Type} (l : List α) : (l.map fun _ => 2).sum = 2 * l.length := by
  induction l with
  | nil => rfl
  | cons a l ih => rw [List.map_cons, List.sum_cons, ih, List.length_cons]; omega
def inF (ns : List Nt) (lo hi : Int) : List Nt := (ns.map fun e => cutO e lo hi).filterMap id
def outF (ns : List Nt) (lo hi : Int) : List Nt := (ns.flatMap fun e => [cutO e 0 lo, cutO e hi 1000000000000]).filterMap id
abbrev Tr.ns (L : Tr) : List Nt := L.map (·.2)
def spWithin (K : PySem.W.Frag) (F : List Nt → Int → Int → List Nt) : Sp := fun vs H Q _ => ∃ (r : Addr) (L : Tr) (lo hi : Int), vs = [.ref r, .int lo, .int hi] ∧ H r = some (.lst L.v) ∧ TrayAt K H L ∧ L.length ≤ 400 ∧
  ∀ (D : Addr) (M : Tr) H', H D = none → H' D = some (.lst M.v) → TrayAt K H' M → M.ns = F L.ns lo hi → M.length ≤ 2 * L.length → Ext K H H' → Q (.ref D) H'
theorem cut_use {K : PySem.W.Frag} {v : V} {e : Nt} {lo hi : Int} {H : Hp} {Q : VK} (hN : NoteAt K H v e) (ok : e.ok) (h : ∀ (u : V) H', PartAt K H' (u, cutO e lo hi) → Ext K H H' → Q u H') : Cal (spCut K) [v, .int lo, .int hi] H Q ⟨0⟩ E0 := by
  refine ⟨v, e, lo, hi, rfl, hN, fun c b H' hb x => h b H' ?_ x, fun c => h .non H ?_ Ext.refl⟩
  · unfold cutO
    rw [if_pos c]
    exact ⟨hb, Nt.cut_ok ok c⟩
  · unfold cutO
    rw [if_neg c]
    rfl
theorem sc_within : FnScope ["tray", "low", "high", "parts"] ["tray", "low", "high"] (defScope s_within) := ⟨rfl, rfl, rfl, by decide +kernel, rfl, by decide +kernel, by decide +kernel⟩
theorem ok_within {f : Addr} {fd : FuncData} (F : Fun K "within" "within" s_within f fd) {aG : Addr} {tE : Tok} (B : B K mg aG tE) (C_cut : Callee P w K mg base "cut" 1 ["note", "low", "high"] (spCut K)) : FnOk P w K mg base CX0 2 f fd ["tray", "low", "high"] (spWithin K inF) := by
  refine F.okJ sc_within (fun vs H Q E h => ?_) (fun cdv A outer s H vs Q E hr h => ?_)
  · obtain ⟨r, L, lo, hi, rfl, _⟩ := h
    rfl
  obtain ⟨r, L, lo, hi, rfl, hr0, hT, hz, q⟩ := h
  refine ⟨_, (bcons (slc (i := 3) sc_within.nd rfl (Or.inl rfl) (Cap.mk (N := ["note", "low", "high"]) (src := [none, some 1, some 2]) rfl rfl) rfl (ilist (ev 0)) (fun _ _ _ _ => (gname (i := 0) (show (["note", "low", "high"] : List Str).Nodup from by decide +kernel) rfl (Or.inl rfl))) (fun _ _ _ _ => fnone) (fun _ _ _ _ => (ecall C_cut (hr.mono (by decide)) rfl (acons (ev 0) (acons (ev 1) (acons (ev 2) anil))))))
      (bone (sret (elc (Cap.mk (N := ["piece"]) (src := [none]) rfl rfl) rfl (ilist (ev 3)) (fun _ _ _ _ => (gname (i := 0) (show (["piece"] : List Str).Nodup from by decide +kernel) rfl (Or.inl rfl))) (fun _ _ _ _ => (fone (tcmp op_notN (ev 0) enon (nomark _)))) (fun _ _ _ _ => (ev 0)))))), ?_⟩
  try walk_at "rn"
  refine ⟨⟨_, SqL.of hr0⟩, fun D nD => ?_⟩
  obtain ⟨Pv, eP⟩ : ∃ Pv : Nat → List V → St → Hp → Prop, Pv = fun i acc σ' H' => ∃ (v0 : Option V) (M : Pr), σ' = [v0, some (.int lo), some (.int hi)] ∧ H' D = some (.lst acc) ∧ acc = M.map (·.1) ∧ PartsAt K H' M ∧ M.map (·.2) = (L.take i).map (fun q => cutO q.2 lo hi) ∧ Kp K D (upd H D (.lst [])) H' := ⟨_, rfl⟩
  refine lc_list (xs := Tr.v L) Pv ?_ ?_ ?_ ?_
  · rw [eP]
    exact ⟨_, [], rfl, upd_same, rfl, (fun q hq => nomatch hq), rfl, Kp.refl⟩
  · intro i acc σ' H' _ h
    rw [eP] at h
    obtain ⟨v0, M, rfl, hD, rfl, hM, eM, k⟩ := h
    exact SqL.of ((k.ext nD).at hr0)
  · intro i x acc σ' H' hx h
    rw [eP] at h
    obtain ⟨v0, M, rfl, hD, rfl, hM, eM, k⟩ := h
    rw [List.getElem?_map] at hx
    obtain ⟨m, em, rfl⟩ := Option.map_eq_some_iff.mp hx
    have hT' := (hT.ext (k.ext nD)) m (List.mem_of_getElem? em)
    have lM : M.length ≤ 400 := by
      have := congrArg List.length eM
      rw [List.length_map, List.length_map, List.length_take] at this
      omega
    try walk_at "rn"
    refine cut_use hT'.1 hT'.2 fun u H2 hu x2 => ?_
    rw [eP]
    have hD2 := x2.at hD
    refine ⟨hD2, by rw [List.length_map]; omega, _, M ++ [(u, cutO m.2 lo hi)], rfl, upd_same, by rw [List.map_append]; rfl, ((hM.ext x2).snoc hu).kp (Kp.upd hD2) hD2, ?_, k.trans (x2.kp.trans (Kp.upd hD2))⟩
    rw [List.map_append, eM, List.take_add_one, em, Option.toList_some, List.map_append]
    rfl
  intro acc σ' H1 h
  rw [eP] at h
  clear eP
  obtain ⟨v0, M, rfl, hD, rfl, hM, eM, k⟩ := h
  rw [List.length_map, List.take_length] at eM
  have x1 := k.ext nD
  have lM : M.length = L.length := by
    have := congrArg List.length eM
    rwa [List.length_map, List.length_map] at this
  try walk_at "rn"
  refine ⟨⟨_, SqL.of hD⟩, fun D2 nD2 => ?_⟩
  refine lc_some hD hM nD2 (by omega) (fun v H' Q' qq => ?_) (fun H2 hD2 x2 => ?_)
  · try walk_at "rn"
    exact qq
  refine q D2 (someOf M) H2 (x1.was nD2.1) hD2 (someOf_at (hM.ext x2)) ?_ (Nat.le_trans (someOf_len M) (by omega)) (x1.trans x2)
  rw [Tr.ns, someOf_snd, eM, inF, Tr.ns, List.map_map]
  rfl
theorem sc_without : FnScope ["tray", "low", "high", "parts"] ["tray", "low", "high"] (defScope s_without) := ⟨rfl, rfl, rfl, by decide +kernel, rfl, by decide +kernel, by decide +kernel⟩
theorem ok_without {f : Addr} {fd : FuncData} (F : Fun K "without" "without" s_without f fd) {aG : Addr} {tE : Tok} (B : B K mg aG tE) (C_cut : Callee P w K mg base "cut" 1 ["note", "low", "high"] (spCut K)) : FnOk P w K mg base CX0 2 f fd ["tray", "low", "high"] (spWithin K outF) := by
  refine F.okJ sc_without (fun vs H Q E h => ?_) (fun cdv A outer s H vs Q E hr h => ?_)
  · obtain ⟨r, L, lo, hi, rfl, _⟩ := h
    rfl
  obtain ⟨r, L, lo, hi, rfl, hr0, hT, hz, q⟩ := h
  refine ⟨_, (bcons (slc2 (i := 3) sc_without.nd rfl (Or.inl rfl) (Cap.mk (N := ["note", "first", "end", "low", "high"]) (src := [none, none, none, some 1, some 2]) rfl rfl) rfl (ilist (ev 0)) (fun _ _ _ _ => (gname (i := 0) (show (["note", "first", "end", "low", "high"] : List Str).Nodup from by decide +kernel) rfl (Or.inl rfl))) (fun _ _ _ _ => fnone) (fun _ _ _ _ => (itupK K (etupQK K (acons (etupQK K (acons ei (acons (ev 3) anil))) (acons (etupQK K (acons (ev 4) (acons (eglob rfl B.END B.END_is) anil))) anil))))) (fun _ _ _ _ => (gtupQK K (n := 2) rfl (gcons (gname (i := 1) (show (["note", "first", "end", "low", "high"] : List Str).Nodup from by decide +kernel) rfl (Or.inl rfl)) (gcons (gname (i := 2) (show (["note", "first", "end", "low", "high"] : List Str).Nodup from by decide +kernel) rfl (Or.inl rfl)) gnil)))) (fun _ _ _ _ => fnone) (fun _ _ _ _ => (ecall C_cut (hr.mono (by decide)) rfl (acons (ev 0) (acons (ev 1) (acons (ev 2) anil))))))
      (bone (sret (elc (Cap.mk (N := ["piece"]) (src := [none]) rfl rfl) rfl (ilist (ev 3)) (fun _ _ _ _ => (gname (i := 0) (show (["piece"] : List Str).Nodup from by decide +kernel) rfl (Or.inl rfl))) (fun _ _ _ _ => (fone (tcmp op_notN (ev 0) enon (nomark _)))) (fun _ _ _ _ => (ev 0)))))), ?_⟩
  try walk_at "rn"
  refine ⟨⟨_, SqL.of hr0⟩, fun D nD => ?_⟩
  obtain ⟨Pv, eP⟩ : ∃ Pv : Nat → List V → St → Hp → Prop, Pv = fun i acc σ' H' => ∃ (v0 v1 v2 : Option V) (M : Pr), σ' = [v0, v1, v2, some (.int lo), some (.int hi)] ∧ H' D = some (.lst acc) ∧ acc = M.map (·.1) ∧ PartsAt K H' M ∧ M.map (·.2) = (L.take i).flatMap (fun q => [cutO q.2 0 lo, cutO q.2 hi 1000000000000]) ∧ Kp K D (upd H D (.lst [])) H' := ⟨_, rfl⟩
  refine la_list (xs := Tr.v L) Pv ?_ ?_ ?_ ?_
  · rw [eP]
    exact ⟨_, _, _, [], rfl, upd_same, rfl, (fun q hq => nomatch hq), rfl, Kp.refl⟩
  · intro i acc σ' H' _ h
    rw [eP] at h
    obtain ⟨v0, v1, v2, M, rfl, hD, rfl, hM, eM, k⟩ := h
    exact SqL.of ((k.ext nD).at hr0)
  · intro i x acc σ' H' hx h
    rw [eP] at h
    obtain ⟨v0, v1, v2, M, rfl, hD, rfl, hM, eM, k⟩ := h
    rw [List.getElem?_map] at hx
    obtain ⟨m, em, rfl⟩ := Option.map_eq_some_iff.mp hx
    try walk_at "rn"
    intro a1 n1 a2 n2 a3 n3
    have x1 := Ext.new (K := K) (o := .tup [.int 0, .int lo]) n1
    have x2 := Ext.new (K := K) (o := .tup [.int hi, .int 1000000000000]) n2
    have x3 := Ext.new (K := K) (o := .tup [.ref a1, .ref a2]) n3
    have x13 := x1.trans (x2.trans x3)
    have t1 := (x2.trans x3).tup (tupQ_updT (K := K) (H := H') (a := a1) (xs := [.int 0, .int lo]))
    have t2 := x3.tup (tupQ_updT (K := K) (H := upd H' a1 (.tup [.int 0, .int lo])) (a := a2) (xs := [.int hi, .int 1000000000000]))
    have t3 : tupQ K (upd (upd (upd H' a1 (.tup [.int 0, .int lo])) a2 (.tup [.int hi, .int 1000000000000])) a3 (.tup [.ref a1, .ref a2])) a3 = some [.ref a1, .ref a2] := tupQ_updT
    generalize upd (upd (upd H' a1 (.tup [.int 0, .int lo])) a2 (.tup [.int hi, .int 1000000000000])) a3 (.tup [.ref a1, .ref a2]) = G at x13 t1 t2 t3 ⊢
    refine ⟨⟨_, tupQ_sq t3⟩, ?_⟩
    have lM : M.length ≤ 800 := by
      have h := congrArg List.length eM
      rw [List.length_map, List.length_flatMap] at h
      have h2 : ∀ (l : List (V × Nt)), (l.map fun q => [cutO q.2 0 lo, cutO q.2 hi 1000000000000].length).sum = 2 * l.length := fun l => sum_two l
      rw [h2, List.length_take] at h
      omega
    have hDG := x13.at hD
    obtain ⟨Pi, eI⟩ : ∃ Pv : Nat → List V → St → Hp → Prop, Pv = fun j acc σ' H2 => ∃ (v1 v2 : Option V) (M' : Pr), σ' = [some m.1, v1, v2, some (.int lo), some (.int hi)] ∧ H2 D = some (.lst acc) ∧ acc = M'.map (·.1) ∧ PartsAt K H2 M' ∧ M'.map (·.2) = M.map (·.2) ++ [cutO m.2 0 lo, cutO m.2 hi 1000000000000].take j ∧ Kp K D G H2 := ⟨_, rfl⟩
    refine la_tup (xs := [.ref a1, .ref a2]) Pi ?_ ?_ ?_ ?_
    · rw [eI]
      exact ⟨_, _, M, rfl, hDG, rfl, hM.ext x13, by simp, Kp.refl⟩
    · intro j acc σ' H2 _ h
      rw [eI] at h
      obtain ⟨v1, v2, M', rfl, hD2, rfl, hM2, eM2, k2⟩ := h
      exact tupQ_sq (k2.tup hDG t3)
    · intro j x acc σ' H2 hj h
      rw [eI] at h
      obtain ⟨v1, v2, M', rfl, hD2, rfl, hM2, eM2, k2⟩ := h
      have hj2 : j < 2 := (List.getElem?_eq_some_iff.mp hj).1
      obtain ⟨ax, l, h, rfl, ht, hc⟩ : ∃ (ax : Addr) (l h : Int), x = .ref ax ∧ tupQ K G ax = some [.int l, .int h] ∧ [cutO m.2 0 lo, cutO m.2 hi 1000000000000].take (j + 1) = [cutO m.2 0 lo, cutO m.2 hi 1000000000000].take j ++ [cutO m.2 l h] := by
        match j, hj2 with
        | 0, _ => cases hj; exact ⟨a1, 0, lo, rfl, t1, rfl⟩
        | 1, _ => cases hj; exact ⟨a2, hi, _, rfl, t2, rfl⟩
      have hT2 := ((hT.ext (k.ext nD)).ext x13) m (List.mem_of_getElem? em)
      have lM2 : M'.length ≤ 900 := by
        have h := congrArg List.length eM2
        rw [List.length_append, List.length_map, List.length_map, List.length_take] at h
        omega
      simp only [tSeq, tNext, tIfS, tAsg, gName, gSub, tRet, tRetN, tDrop, tVar, tC, tOp, tUn, rI0, rI, rU, tTest, tB, tAndV, tOrV, tNotV, tAnd, tOr, tNot, tIf, tChain, tCB, tCons, tNil, tLst, tTup, tCallC, List.getElem?_cons_zero, List.getElem?_cons_succ, List.set_cons_zero, List.set_cons_succ, Option.some.injEq, V.int.injEq, V.bl.injEq, V.ref.injEq, V.ty.injEq, V.str.injEq, List.cons.injEq, exists_eq_left', exists_eq_left, exists_and_left, and_true, true_and, and_assoc, cxK, rIxF, rSetL, rEq, rNe, scal, HO.lst.injEq, HO.tup.injEq, upd_none, ixN_10, ixN_20, ixN_21, ixN_30, ixN_31, ixN_32, upd_same, seqAt_updL, seqAt_updT, atI_0, atI_1, atI_2, atI_3, decide_eq_true_eq, L2.start, List.map_cons, List.map_nil, List.length_cons, List.length_nil, Nat.reduceAdd, Nat.reduceSub, List.replicate_succ, List.replicate_zero, List.cons_append, List.nil_append, List.append_nil, tFor_rng1, tFor_rng2, tFor_list, tFor_tup, CDv, CMul, CPow, sizeLine_eq, Int.reduceLE, Int.reduceLT, Int.reducePow, Int.reduceToNat, Int.reduceAdd, Int.reduceSub, Int.reduceMul, Int.reduceNeg, Nat.reduceLeDiff, Nat.reducePow, Nat.reduceLT, Int.reduceEq, true_or, or_true, ite_true, ite_false, if_true, if_false, Bool.not_true, Bool.not_false, Bool.false_eq_true, decide_true, decide_false, rIxQ, seqQ_updL, seqQ_updT, tupQ_updT, tSl, tNoPart, tPart, rSlQ, rSlTQ, rCatQ, tTupQ, tLstQ, tNever, rEqD, rInQ, gTupQ, gCons, gNil, tBM, tBM0, rAppend, rClear, tFor_rng3, tLc_rng1, tLc_rng2, tLc_list, tLc_tup, pick_nil, pick_own, pick_cap, join_some, tYes, gSlice, tCallKC, gk_11, gk_31, tLc2_list, bodyL_tup, bodyL_list, bodyE_eq, k2.tup hDG ht]
      refine cut_use (hT2.1.kp k2 hDG) hT2.2 fun u H3 hu x3 => ?_
      rw [eI]
      have hD3 := x3.at hD2
      refine ⟨hD3, by rw [List.length_map]; omega, _, _, M' ++ [(u, cutO m.2 l h)], rfl, upd_same, by rw [List.map_append]; rfl, ((hM2.ext x3).snoc hu).kp (Kp.upd hD3) hD3, ?_, k2.trans (x3.kp.trans (Kp.upd hD3))⟩
      rw [List.map_append, eM2, hc, List.append_assoc]
      rfl
    intro acc σ' H2 h
    rw [eI] at h
    obtain ⟨v1, v2, M', rfl, hD2, rfl, hM2, eM2, k2⟩ := h
    rw [eP]
    refine ⟨_, _, _, M', rfl, hD2, rfl, hM2, ?_, k.trans (x13.kp.trans k2)⟩
    rw [eM2, eM, List.take_add_one, em, Option.toList_some, List.flatMap_append]
    rfl
  intro acc σ' H1 h
  rw [eP] at h
  clear eP
  obtain ⟨v0, v1, v2, M, rfl, hD, rfl, hM, eM, k⟩ := h
  rw [List.length_map, List.take_length] at eM
  have x1 := k.ext nD
  have lM : M.length = 2 * L.length := by
    have h := congrArg List.length eM
    rw [List.length_map, List.length_flatMap] at h
    have h2 : ∀ (l : List (V × Nt)), (l.map fun q => [cutO q.2 0 lo, cutO q.2 hi 1000000000000].length).sum = 2 * l.length := fun l => sum_two l
    rwa [h2] at h
  try walk_at "rn"
  refine ⟨⟨_, SqL.of hD⟩, fun D2 nD2 => ?_⟩
  refine lc_some hD hM nD2 (by omega) (fun v H' Q' qq => ?_) (fun H2 hD2 x2 => ?_)
  · try walk_at "rn"
    exact qq
  refine q D2 (someOf M) H2 (x1.was nD2.1) hD2 (someOf_at (hM.ext x2)) ?_ (Nat.le_trans (someOf_len M) (by omega)) (x1.trans x2)
  rw [Tr.ns, someOf_snd, eM, outF, Tr.ns, List.flatMap_map]
def spPoured (K : PySem.W.Frag) : Sp := fun vs H Q _ => ∃ (r : Addr) (L : Tr) (lo hi : Int), vs = [.ref r, .int lo, .int hi] ∧ H r = some (.lst L.v) ∧ TrayAt K H L ∧ L.length ≤ 400 ∧
  ∀ (t D D' : Addr) (M M' : Tr) H', H D = none → H D' = none → D ≠ D' → tupQ K H' t = some [.ref D, .ref D'] → H' D = some (.lst M.v) → H' D' = some (.lst M'.v) → TrayAt K H' M → TrayAt K H' M' → M.ns = inF L.ns lo hi → M'.ns = outF L.ns lo hi → M.length ≤ 2 * L.length → M'.length ≤ 2 * L.length → Ext K H H' → Q (.ref t) H'
theorem sc_poured : FnScope ["tray", "low", "high"] ["tray", "low", "high"] (defScope s_poured) := ⟨rfl, rfl, rfl, by decide +kernel, rfl, by decide +kernel, by decide +kernel⟩
theorem ok_poured {f : Addr} {fd : FuncData} (F : Fun K "poured" "poured" s_poured f fd) {aG : Addr} {tE : Tok} (B : B K mg aG tE) (C_within : Callee P w K mg base "within" 2 ["tray", "low", "high"] (spWithin K inF)) (C_without : Callee P w K mg base "without" 2 ["tray", "low", "high"] (spWithin K outF)) : FnOk P w K mg base CX0 3 f fd ["tray", "low", "high"] (spPoured K) := by
  refine F.okJ sc_poured (fun vs H Q E h => ?_) (fun cdv A outer s H vs Q E hr h => ?_)
  · obtain ⟨r, L, lo, hi, rfl, _⟩ := h
    rfl
  obtain ⟨r, L, lo, hi, rfl, hr0, hT, hz, q⟩ := h
  refine ⟨_, (bone (sret (etupQ (acons (ecall C_within (hr.mono (by decide)) rfl (acons (ev 0) (acons (ev 1) (acons (ev 2) anil)))) (acons (ecall C_without (hr.mono (by decide)) rfl (acons (ev 0) (acons (ev 1) (acons (ev 2) anil)))) anil))))), ?_⟩
  try walk_at "rn"
  refine ⟨r, L, lo, hi, rfl, hr0, hT, hz, fun D M H1 nD hD hM eM lM x1 => ?_⟩
  try walk_at "rn"
  refine ⟨r, L, lo, hi, rfl, x1.at hr0, hT.ext x1, hz, fun D' M' H2 nD' hD' hM' eM' lM' x2 => ?_⟩
  try walk_at "rn"
  intro t nt
  have x3 := Ext.new (K := K) (o := .tup [.ref D, .ref D']) nt
  exact q t D D' M M' _ nD (x1.was nD') (ne_of_none hD nD') tupQ_updT ((x2.trans x3).at hD) (x3.at hD') (hM.ext (x2.trans x3)) (hM'.ext x3) eM eM' lM lM' (x1.trans (x2.trans x3))
/-! ### what the law does to trays -/
theorem seeF_snoc (L : Tr) (q : V × Nt) (key : Int) (at_ v : Option Int) : seeF (L ++ [q]) key at_ v = if (q.2.has key && okAt at_ q.2.n) = true then actF q.2.t q.2.m (seeF L key at_ v) else seeF L key at_ v := by
  unfold seeF
  rw [List.filter_append]
  cases c : (q.2.has key && okAt at_ q.2.n) with
  | true =>
    rw [List.filter_cons_of_pos (p := fun q : V × Nt => q.2.has key && okAt at_ q.2.n) c, List.filter_nil, List.foldl_append, if_pos rfl]
    rfl
  | false =>
    rw [List.filter_cons_of_neg (p := fun q : V × Nt => q.2.has key && okAt at_ q.2.n) (by rw [c]; decide), List.filter_nil, List.append_nil, if_neg (by decide)]
theorem sc__law_see : FnScope ["_law_tray_here", "_law_key_here", "_law_value", "_law_moment", "_law_number", "_law_low", "_law_high", "_law_action_here"] ["_law_tray_here", "_law_key_here", "_law_value", "_law_moment"] (defScope s__law_see) := ⟨rfl, rfl, rfl, by decide +kernel, rfl, by decide +kernel, by decide +kernel⟩
theorem ok__law_see {f : Addr} {fd : FuncData} (F : Fun K "_law_see" "_law_see" s__law_see f fd) {aG : Addr} {tE : Tok} (B : B K mg aG tE) (C__law_done : Callee P w K mg base "_law_done" 1 ["_law_action_here", "_law_value"] (spDone K)) : FnOk P w K mg base CX0 2 f fd ["_law_tray_here", "_law_key_here", "_law_value", "_law_moment"] (spSeen K) := by
  refine F.okJ sc__law_see (fun vs H Q E h => ?_) (fun cdv A outer s H vs Q E hr h => ?_)
  · obtain ⟨r, L, key, val, at_, rfl, _⟩ := h
    rfl
  obtain ⟨r, L, key, val, at_, rfl, hr0, hT, hz, q⟩ := h
  refine ⟨_, (bcons (sfor PassesOwn.never rfl (ilist (ev 0)) (gtupQ (n := 4) rfl (gcons (gname (i := 4) sc__law_see.nd rfl (Or.inl rfl)) (gcons (gname (i := 5) sc__law_see.nd rfl (Or.inl rfl)) (gcons (gname (i := 6) sc__law_see.nd rfl (Or.inl rfl)) (gcons (gname (i := 7) sc__law_see.nd rfl (Or.inl rfl)) gnil)))))
        (bone (sif (tw (wand (tchain op_le op_lt (ev 5) (ev 1) (ev 6)) (wand1 (tw (wor (tcmp op_isN (ev 3) enon (nomark _)) (wor1 (tcmp op_le (ev 4) (ev 3) (nomark _)))))))) (bone (sset (i := 2) sc__law_see.nd rfl (Or.inl rfl) (ecall C__law_done (hr.mono (by decide)) rfl (acons (ev 7) (acons (ev 2) anil))))) bnil)))
      (bone (sret (ev 2)))), ?_⟩
  try walk_at "rn"
  refine ⟨⟨_, SqL.of hr0⟩, ?_⟩
  obtain ⟨Pv, eP⟩ : ∃ Pv : Nat → St → Hp → Prop, Pv = fun i σ' H' => ∃ (v4 v5 v6 v7 : Option V), σ' = [some (.ref r), some (.int key), some (oV (seeF (L.take i) key at_ val)), some (oV at_), v4, v5, v6, v7] ∧ Ext K H H' := ⟨_, rfl⟩
  refine loop_list (xs := Tr.v L) Pv ?_ ?_ ?_ ?_
  · rw [eP]
    exact ⟨_, _, _, _, rfl, Ext.refl⟩
  · intro i σ' H' _ h
    rw [eP] at h
    obtain ⟨_, _, _, _, _, x⟩ := h
    exact SqL.of (x.at hr0)
  · intro i x σ' H' hx h
    rw [eP] at h
    obtain ⟨v4, v5, v6, v7, rfl, x1⟩ := h
    rw [List.getElem?_map] at hx
    obtain ⟨m, em, rfl⟩ := Option.map_eq_some_iff.mp hx
    obtain ⟨⟨a, w, e1, e2, e3⟩, _⟩ := (hT.ext x1) m (List.mem_of_getElem? em)
    rw [e1]
    simp only [tSeq, tNext, tIfS, tAsg, gName, gSub, tRet, tRetN, tDrop, tVar, tC, tOp, tUn, rI0, rI, rU, tTest, tB, tAndV, tOrV, tNotV, tAnd, tOr, tNot, tIf, tChain, tCB, tCons, tNil, tLst, tTup, tCallC, List.getElem?_cons_zero, List.getElem?_cons_succ, List.set_cons_zero, List.set_cons_succ, Option.some.injEq, V.int.injEq, V.bl.injEq, V.ref.injEq, V.ty.injEq, V.str.injEq, List.cons.injEq, exists_eq_left', exists_eq_left, exists_and_left, and_true, true_and, and_assoc, cxK, rIxF, rSetL, rEq, rNe, scal, HO.lst.injEq, HO.tup.injEq, upd_none, ixN_10, ixN_20, ixN_21, ixN_30, ixN_31, ixN_32, upd_same, seqAt_updL, seqAt_updT, atI_0, atI_1, atI_2, atI_3, decide_eq_true_eq, L2.start, List.map_cons, List.map_nil, List.length_cons, List.length_nil, Nat.reduceAdd, Nat.reduceSub, List.replicate_succ, List.replicate_zero, List.cons_append, List.nil_append, List.append_nil, tFor_rng1, tFor_rng2, tFor_list, tFor_tup, CDv, CMul, CPow, sizeLine_eq, Int.reduceLE, Int.reduceLT, Int.reducePow, Int.reduceToNat, Int.reduceAdd, Int.reduceSub, Int.reduceMul, Int.reduceNeg, Nat.reduceLeDiff, Nat.reducePow, Nat.reduceLT, Int.reduceEq, true_or, or_true, ite_true, ite_false, if_true, if_false, Bool.not_true, Bool.not_false, Bool.false_eq_true, decide_true, decide_false, rIxQ, seqQ_updL, seqQ_updT, tupQ_updT, tSl, tNoPart, tPart, rSlQ, rSlTQ, rCatQ, tTupQ, tLstQ, tNever, rEqD, rInQ, gTupQ, gCons, gNil, tBM, tBM0, rAppend, rClear, tFor_rng3, tLc_rng1, tLc_rng2, tLc_list, tLc_tup, pick_nil, pick_own, pick_cap, join_some, tYes, gSlice, tCallKC, gk_11, gk_31, tLc2_list, bodyL_tup, bodyL_list, bodyE_eq, e2]
    have et : L.take (i + 1) = L.take i ++ [m] := by rw [List.take_add_one, em]; rfl
    have yes : (m.2.has key && okAt at_ m.2.n) = true → Cal (spDone K) [w, oV (seeF (L.take i) key at_ val)] H' (fun x H1 => Pv (i + 1) [some (.ref r), some (.int key), some x, some (oV at_), some (.int m.2.n), some (.int m.2.lo), some (.int m.2.hi), some w] H1) ⟨0⟩ E0 := fun c => by
      refine ⟨w, _, _, _, rfl, e3, fun H2 x2 => ?_⟩
      rw [eP]
      refine ⟨some (.int m.2.n), some (.int m.2.lo), some (.int m.2.hi), some w, ?_, x1.trans x2⟩
      rw [et, seeF_snoc, if_pos c]
    have no : (m.2.has key && okAt at_ m.2.n) = false → Pv (i + 1) [some (.ref r), some (.int key), some (oV (seeF (L.take i) key at_ val)), some (oV at_), some (.int m.2.n), some (.int m.2.lo), some (.int m.2.hi), some w] H' := fun c => by
      rw [eP]
      refine ⟨some (.int m.2.n), some (.int m.2.lo), some (.int m.2.hi), some w, ?_, x1⟩
      rw [et, seeF_snoc, if_neg (by rw [c]; decide)]
    cases at_ with
    | none =>
      simp only [tSeq, tNext, tIfS, tAsg, gName, gSub, tRet, tRetN, tDrop, tVar, tC, tOp, tUn, rI0, rI, rU, tTest, tB, tAndV, tOrV, tNotV, tAnd, tOr, tNot, tIf, tChain, tCB, tCons, tNil, tLst, tTup, tCallC, List.getElem?_cons_zero, List.getElem?_cons_succ, List.set_cons_zero, List.set_cons_succ, Option.some.injEq, V.int.injEq, V.bl.injEq, V.ref.injEq, V.ty.injEq, V.str.injEq, List.cons.injEq, exists_eq_left', exists_eq_left, exists_and_left, and_true, true_and, and_assoc, cxK, rIxF, rSetL, rEq, rNe, scal, HO.lst.injEq, HO.tup.injEq, upd_none, ixN_10, ixN_20, ixN_21, ixN_30, ixN_31, ixN_32, upd_same, seqAt_updL, seqAt_updT, atI_0, atI_1, atI_2, atI_3, decide_eq_true_eq, L2.start, List.map_cons, List.map_nil, List.length_cons, List.length_nil, Nat.reduceAdd, Nat.reduceSub, List.replicate_succ, List.replicate_zero, List.cons_append, List.nil_append, List.append_nil, tFor_rng1, tFor_rng2, tFor_list, tFor_tup, CDv, CMul, CPow, sizeLine_eq, Int.reduceLE, Int.reduceLT, Int.reducePow, Int.reduceToNat, Int.reduceAdd, Int.reduceSub, Int.reduceMul, Int.reduceNeg, Nat.reduceLeDiff, Nat.reducePow, Nat.reduceLT, Int.reduceEq, true_or, or_true, ite_true, ite_false, if_true, if_false, Bool.not_true, Bool.not_false, Bool.false_eq_true, decide_true, decide_false, rIxQ, seqQ_updL, seqQ_updT, tupQ_updT, tSl, tNoPart, tPart, rSlQ, rSlTQ, rCatQ, tTupQ, tLstQ, tNever, rEqD, rInQ, gTupQ, gCons, gNil, tBM, tBM0, rAppend, rClear, tFor_rng3, tLc_rng1, tLc_rng2, tLc_list, tLc_tup, pick_nil, pick_own, pick_cap, join_some, tYes, gSlice, tCallKC, gk_11, gk_31, tLc2_list, bodyL_tup, bodyL_list, bodyE_eq, oV_n,  eq_self]
      refine ite2 (fun c1 => ite2 (fun c2 => yes ?_) (fun c2 => no ?_)) (fun c1 => no ?_)
      · simp [Nt.has, okAt, c1, c2]
      · simp [Nt.has, okAt, c1, c2]
      · simp [Nt.has, okAt, c1]
    | some mm =>
      simp only [tSeq, tNext, tIfS, tAsg, gName, gSub, tRet, tRetN, tDrop, tVar, tC, tOp, tUn, rI0, rI, rU, tTest, tB, tAndV, tOrV, tNotV, tAnd, tOr, tNot, tIf, tChain, tCB, tCons, tNil, tLst, tTup, tCallC, List.getElem?_cons_zero, List.getElem?_cons_succ, List.set_cons_zero, List.set_cons_succ, Option.some.injEq, V.int.injEq, V.bl.injEq, V.ref.injEq, V.ty.injEq, V.str.injEq, List.cons.injEq, exists_eq_left', exists_eq_left, exists_and_left, and_true, true_and, and_assoc, cxK, rIxF, rSetL, rEq, rNe, scal, HO.lst.injEq, HO.tup.injEq, upd_none, ixN_10, ixN_20, ixN_21, ixN_30, ixN_31, ixN_32, upd_same, seqAt_updL, seqAt_updT, atI_0, atI_1, atI_2, atI_3, decide_eq_true_eq, L2.start, List.map_cons, List.map_nil, List.length_cons, List.length_nil, Nat.reduceAdd, Nat.reduceSub, List.replicate_succ, List.replicate_zero, List.cons_append, List.nil_append, List.append_nil, tFor_rng1, tFor_rng2, tFor_list, tFor_tup, CDv, CMul, CPow, sizeLine_eq, Int.reduceLE, Int.reduceLT, Int.reducePow, Int.reduceToNat, Int.reduceAdd, Int.reduceSub, Int.reduceMul, Int.reduceNeg, Nat.reduceLeDiff, Nat.reducePow, Nat.reduceLT, Int.reduceEq, true_or, or_true, ite_true, ite_false, if_true, if_false, Bool.not_true, Bool.not_false, Bool.false_eq_true, decide_true, decide_false, rIxQ, seqQ_updL, seqQ_updT, tupQ_updT, tSl, tNoPart, tPart, rSlQ, rSlTQ, rCatQ, tTupQ, tLstQ, tNever, rEqD, rInQ, gTupQ, gCons, gNil, tBM, tBM0, rAppend, rClear, tFor_rng3, tLc_rng1, tLc_rng2, tLc_list, tLc_tup, pick_nil, pick_own, pick_cap, join_some, tYes, gSlice, tCallKC, gk_11, gk_31, tLc2_list, bodyL_tup, bodyL_list, bodyE_eq, oV_s,  reduceCtorEq]
      refine ite2 (fun c1 => ite2 (fun c2 => ite2 (fun c3 => yes ?_) (fun c3 => no ?_)) (fun c2 => no ?_)) (fun c1 => no ?_)
      · simp [Nt.has, okAt, c1, c2, c3]
      · simp [Nt.has, okAt, c1, c2, c3]
      · simp [Nt.has, okAt, c1, c2]
      · simp [Nt.has, okAt, c1]
  intro σ' H' h
  rw [eP] at h
  obtain ⟨v4, v5, v6, v7, rfl, x1⟩ := h
  try walk_at "rn"
  rw [List.length_map, List.take_length]
  exact q _ x1
/-! ### trays as data -/
theorem tray_all {K : PySem.W.Frag} {H : Hp} : ∀ {L : Tr}, TrayAt K H L → IsAll K H (L.map fun q => q.2.d) (Tr.v L)
  | [], _ => by simp only [Tr.v, List.map_nil, IsAll]
  | q :: L, h => by
    simp only [Tr.v, List.map_cons, IsAll]
    exact ⟨_, _, rfl, (h q (by simp)).1.is, tray_all fun q' hq => h q' (List.mem_cons_of_mem _ hq)⟩
theorem tray_is {K : PySem.W.Frag} {H : Hp} {r : Addr} {L : Tr} (h : H r = some (.lst (Tr.v L))) (t : TrayAt K H L) : Is K H (.list (L.map fun q => q.2.d)) (.ref r) := by
  simp only [Is]
  exact ⟨r, _, rfl, SqL.of h, tray_all t⟩
theorem tray_lay : ∀ (L : Tr), PyData.canLayAll0 (L.map fun q => q.2.d) = true ∧ PyData.depthAll (L.map fun q => q.2.d) ≤ 6
  | [] => by simp [PyData.canLayAll0, PyData.depthAll]
  | q :: L => by
    have ih := tray_lay L
    have hs := Nt.shaped q.2
    simp only [SeqAt.shaped, Bool.and_eq_true, decide_eq_true_eq] at hs
    have hd : q.2.d.depth ≤ 6 := by
      obtain ⟨n, lo, hi, t, m⟩ := q.2
      cases t <;> cases m <;> simp only [Nt.d, actD, Half.d, PyData.depth, PyData.depthAll] <;> decide
    simp only [List.map_cons, PyData.canLayAll0, PyData.depthAll, ih.1, hs.1, Bool.and_true]
    exact ⟨trivial, Nat.max_le.mpr ⟨hd, ih.2⟩⟩
theorem tray_shaped (L : Tr) : SeqAt.shaped (.list (L.map fun q => q.2.d)) = true := by
  have h := tray_lay L
  have e : (PyData.list (L.map fun q => q.2.d)).depth = PyData.depthAll (L.map fun q => q.2.d) + 1 := by simp only [PyData.depth]
  simp only [SeqAt.shaped, PyData.canLay0, h.1, Bool.true_and, decide_eq_true_eq]
  rw [e]
  omega
theorem tray_nob : ∀ (L : Tr), nobAll (L.map fun q => q.2.d) = true
  | [] => rfl
  | q :: L => by simp only [List.map_cons, nobAll, Nt.nob, tray_nob L, Bool.and_true]
theorem tray_same (L : Tr) : PyData.eqv (.list (L.map fun q => q.2.d)) (.list (L.map fun q => q.2.d)) = true := (eqv_iff (show nob (.list _) = true from tray_nob L) (show nob (.list _) = true from tray_nob L)).mpr rfl
theorem tray_bare (L : Tr) : PyData.eqv (.list (L.map fun q => q.2.d)) (.list []) = decide (L = []) := by
  cases L with
  | nil => rfl
  | cons q L => simp [PyData.eqv, PyData.eqvAll]
def spTray (K : PySem.W.Frag) : Sp := fun vs H Q _ => ∃ (p : Addr) (x y z b m : Int), vs = [.ref p, .int b, .int m] ∧ H p = some (L3 x y z) ∧ 0 ≤ b ∧ b ≤ 999999999976 ∧ 0 ≤ m ∧ m ≤ 20 ∧
  ∀ (r : Addr) (L : Tr) (x y z : Int) (H' : Hp), H' r = some (.lst (Tr.v L)) → TrayAt K H' L → L.length ≤ 20 → r ≠ p → H' p = some (L3 x y z) → Kp K p H H' → Q (.ref r) H'
theorem sc__law_tray : FnScope ["_law_well_here", "_law_base_here", "_law_many", "_law_found", "_law_number", "_law_k", "_law_way", "_law_note_here", "_law_low", "_law_high"] ["_law_well_here", "_law_base_here", "_law_many"] (defScope s__law_tray) := ⟨rfl, rfl, rfl, by decide +kernel, rfl, by decide +kernel, by decide +kernel⟩
theorem ok__law_tray {f : Addr} {fd : FuncData} (F : Fun K "_law_tray" "_law_tray" s__law_tray f fd) {aG : Addr} {tE : Tok} (B : B K mg aG tE) (C__law_draw : Callee P w K mg base "_law_draw" 1 ["_law_well_here", "_law_many"] (spDraw K)) (C__law_note : Callee P w K mg base "_law_note" 4 ["_law_well_here", "_law_base_here", "_law_number"] (spNoteL K)) (C__law_action : Callee P w K mg base "_law_action" 3 ["_law_well_here", "_law_is_one"] (spActionL K)) : FnOk P w K mg base CX0 5 f fd ["_law_well_here", "_law_base_here", "_law_many"] (spTray K) := by
  refine F.okJ sc__law_tray (fun vs H Q E h => ?_) (fun cdv A outer s H vs Q E hr h => ?_)
  · obtain ⟨p, x, y, z, b, m, rfl, _⟩ := h
    rfl
  obtain ⟨p, x, y, z, b, m, rfl, hp, b0, b1, m0, m1, q⟩ := h
  refine ⟨_, (bcons (sset (i := 3) sc__law_tray.nd rfl (Or.inl rfl) (elstQ anil))
      (bcons (sset (i := 4) sc__law_tray.nd rfl (Or.inl rfl) ei)
      (bcons (sfor PassesOwn.never rfl (irange1 rfl B.range (acons (ev 2) anil)) (gname (i := 5) sc__law_tray.nd rfl (Or.inl rfl))
        (bcons (sset (i := 6) sc__law_tray.nd rfl (Or.inl rfl) (ecall C__law_draw (hr.mono (by decide)) rfl (acons (ev 0) (acons ei anil))))
      (bcons (sset (i := 4) sc__law_tray.nd rfl (Or.inl rfl) (eop op_add (eop op_add (ev 4) ei) (ecall C__law_draw (hr.mono (by decide)) rfl (acons (ev 0) (acons ei anil)))))
      (bcons (sset (i := 7) sc__law_tray.nd rfl (Or.inl rfl) (ecall C__law_note (hr.mono (by decide)) rfl (acons (ev 0) (acons (ev 1) (acons (ev 4) anil)))))
      (bcut (sif (tw (wand (tcmp op_eq (ev 6) ei (nomark _)) (wand1 (tcmp (op_neD hr.units) (ev 3) (elstQ anil) (nomark _))))) (bcons (sasg (eslice sl_tupQ (eix ix_Q (ev 3) (ecall C__law_draw (hr.mono (by decide)) rfl (acons (ev 0) (acons (ecallB call_lenQ rfl B.len bt_len (acons (ev 3) anil)) anil))) (fun _ _ => rfl)) (osome ei) (osome ei)) (gtupQ (n := 2) rfl (gcons (gname (i := 8) sc__law_tray.nd rfl (Or.inl rfl)) (gcons (gname (i := 9) sc__law_tray.nd rfl (Or.inl rfl)) gnil))))
      (bone (sset (i := 7) sc__law_tray.nd rfl (Or.inl rfl) (etupQ (acons (ev 4) (acons (ev 8) (acons (ev 9) (acons (ecall C__law_action (hr.mono (by decide)) rfl (acons (ev 0) (acons (ecmp op_eq (eop op_sub (ev 9) (ev 8)) ei (nomark _)) anil))) anil)))))))) bnil)
      (bone (sexpr (ebm PySem.F.plainAttrs_list PySem.F.slot_list_append PySem.F.type_list_append mt_append (ev 3) (acons (ev 7) anil)))))))))
      (bone (sret (ev 3)))))), ?_⟩
  try walk_at "rn"
  intro D nD
  have neD : D ≠ p := (ne_of_none hp nD.1).symm
  refine ⟨by omega, by omega, ?_⟩
  obtain ⟨Pv, eP⟩ : ∃ Pv : Nat → St → Hp → Prop, Pv = fun i σ' H' => ∃ (num : Int) (v5 v6 v7 v8 v9 : Option V) (L : Tr) (x y z : Int), σ' = [some (.ref p), some (.int b), some (.int m), some (.ref D), some (.int num), v5, v6, v7, v8, v9] ∧ 0 ≤ num ∧ H' D = some (.lst (Tr.v L)) ∧ TrayAt K H' L ∧ L.length = i ∧ H' p = some (L3 x y z) ∧ Kp2 K p D (upd H D (.lst [])) H' := ⟨_, rfl⟩
  refine loop_range Pv ?_ ?_ ?_
  · rw [eP]
    exact ⟨_, _, _, _, _, _, [], _, _, _, rfl, by omega, upd_same, (fun q hq => nomatch hq), rfl, (Ext.new nD).at hp, Kp2.refl⟩
  · intro i σ' H' hi h
    rw [eP] at h
    obtain ⟨num, v5, v6, v7, v8, v9, L, x, y, z, rfl, hnum, hD, hT, hl, gp, k⟩ := h
    try walk_at "rn"
    refine ⟨p, _, _, _, 4, rfl, gp, by decide, by omega, fun way x y z H1 w0 w1 g1 k1 => ?_⟩
    try walk_at "rn"
    refine ⟨p, _, _, _, 3, rfl, g1, by decide, by omega, fun d x y z H2 d0 d1 g2 k2 => ?_⟩
    try walk_at "rn"
    refine ⟨p, _, _, _, b, num + 1 + d, rfl, g2, b0, b1, by omega, fun v e x y z H3 N3 ok3 _ g3 k3 => ?_⟩
    have hD3 := k3.keep D _ (k2.keep D _ (k1.keep D _ hD neD) neD) neD
    have hT3 := ((hT.kp k1 gp).kp k2 g1).kp k3 g2
    have k03 := k.trans (k1.l.trans (k2.l.trans k3.l))
    obtain ⟨J, eJ⟩ : ∃ J : St → Hp → Prop, J = fun σ1 G1 => ∃ (v : V) (e : Nt) (v8 v9 : Option V) (x y z : Int), σ1 = [some (.ref p), some (.int b), some (.int m), some (.ref D), some (.int (num + 1 + d)), some (.int (0 + (i : Int))), some (.int way), some v, v8, v9] ∧ NoteAt K G1 v e ∧ e.ok ∧ G1 D = some (.lst (Tr.v L)) ∧ TrayAt K G1 L ∧ G1 p = some (L3 x y z) ∧ Kp2 K p D (upd H D (.lst [])) G1 := ⟨_, rfl⟩
    refine ⟨J, ?_, ?_⟩
    · try walk_at "rn"
      refine ite2 (fun c => fun b4 n4 => ?_) (fun c => ?_)
      · have x4 := Ext.new (K := K) (o := .lst []) n4
        have bare : Is K (upd H3 b4 (.lst [])) (.list []) (.ref b4) := by
          simp only [Is, IsAll]
          exact ⟨b4, [], rfl, SqL.of upd_same, rfl⟩
        refine ⟨_, tray_is (x4.at hD3) (hT3.ext x4), _, bare, tray_shaped L, rfl, ?_⟩
        rw [tray_bare]
        by_cases hb : L = []
        · rw [decide_eq_true hb]
          try walk_at "rn"
          rw [eJ]
          exact ⟨v, e, _, _, _, _, _, rfl, N3.ext x4, ok3, x4.at hD3, hT3.ext x4, x4.at g3, k03.trans x4.kp2⟩
        · rw [decide_eq_false hb]
          simp only [tSeq, tNext, tIfS, tAsg, gName, gSub, tRet, tRetN, tDrop, tVar, tC, tOp, tUn, rI0, rI, rU, tTest, tB, tAndV, tOrV, tNotV, tAnd, tOr, tNot, tIf, tChain, tCB, tCons, tNil, tLst, tTup, tCallC, List.getElem?_cons_zero, List.getElem?_cons_succ, List.set_cons_zero, List.set_cons_succ, Option.some.injEq, V.int.injEq, V.bl.injEq, V.ref.injEq, V.ty.injEq, V.str.injEq, List.cons.injEq, exists_eq_left', exists_eq_left, exists_and_left, and_true, true_and, and_assoc, cxK, rIxF, rSetL, rEq, rNe, scal, HO.lst.injEq, HO.tup.injEq, upd_none, ixN_10, ixN_20, ixN_21, ixN_30, ixN_31, ixN_32, upd_same, seqAt_updL, seqAt_updT, atI_0, atI_1, atI_2, atI_3, decide_eq_true_eq, L2.start, List.map_cons, List.map_nil, List.length_cons, List.length_nil, Nat.reduceAdd, Nat.reduceSub, List.replicate_succ, List.replicate_zero, List.cons_append, List.nil_append, List.append_nil, tFor_rng1, tFor_rng2, tFor_list, tFor_tup, CDv, CMul, CPow, sizeLine_eq, Int.reduceLE, Int.reduceLT, Int.reducePow, Int.reduceToNat, Int.reduceAdd, Int.reduceSub, Int.reduceMul, Int.reduceNeg, Nat.reduceLeDiff, Nat.reducePow, Nat.reduceLT, Int.reduceEq, true_or, or_true, ite_true, ite_false, if_true, if_false, Bool.not_true, Bool.not_false, Bool.false_eq_true, decide_true, decide_false, rIxQ, seqQ_updL, seqQ_updT, tupQ_updT, tSl, tNoPart, tPart, rSlQ, rSlTQ, rCatQ, tTupQ, tLstQ, tNever, rEqD, rInQ, gTupQ, gCons, gNil, tBM, tBM0, rAppend, rClear, tFor_rng3, tLc_rng1, tLc_rng2, tLc_list, tLc_tup, pick_nil, pick_own, pick_cap, join_some, tYes, gSlice, tCallKC, gk_11, gk_31, tLc2_list, bodyL_tup, bodyL_list, bodyE_eq, seqQ_lst (x4.at hD3)]
          have hpos : 0 < L.length := List.length_pos_iff.mpr hb
          refine ⟨p, _, _, _, _, rfl, x4.at g3, by rw [List.length_map]; omega, by rw [List.length_map]; omega, fun j x y z H5 j0 j1 g5 k5 => ?_⟩
          have hD5 := k5.keep D _ (x4.at hD3) neD
          simp only [tSeq, tNext, tIfS, tAsg, gName, gSub, tRet, tRetN, tDrop, tVar, tC, tOp, tUn, rI0, rI, rU, tTest, tB, tAndV, tOrV, tNotV, tAnd, tOr, tNot, tIf, tChain, tCB, tCons, tNil, tLst, tTup, tCallC, List.getElem?_cons_zero, List.getElem?_cons_succ, List.set_cons_zero, List.set_cons_succ, Option.some.injEq, V.int.injEq, V.bl.injEq, V.ref.injEq, V.ty.injEq, V.str.injEq, List.cons.injEq, exists_eq_left', exists_eq_left, exists_and_left, and_true, true_and, and_assoc, cxK, rIxF, rSetL, rEq, rNe, scal, HO.lst.injEq, HO.tup.injEq, upd_none, ixN_10, ixN_20, ixN_21, ixN_30, ixN_31, ixN_32, upd_same, seqAt_updL, seqAt_updT, atI_0, atI_1, atI_2, atI_3, decide_eq_true_eq, L2.start, List.map_cons, List.map_nil, List.length_cons, List.length_nil, Nat.reduceAdd, Nat.reduceSub, List.replicate_succ, List.replicate_zero, List.cons_append, List.nil_append, List.append_nil, tFor_rng1, tFor_rng2, tFor_list, tFor_tup, CDv, CMul, CPow, sizeLine_eq, Int.reduceLE, Int.reduceLT, Int.reducePow, Int.reduceToNat, Int.reduceAdd, Int.reduceSub, Int.reduceMul, Int.reduceNeg, Nat.reduceLeDiff, Nat.reducePow, Nat.reduceLT, Int.reduceEq, true_or, or_true, ite_true, ite_false, if_true, if_false, Bool.not_true, Bool.not_false, Bool.false_eq_true, decide_true, decide_false, rIxQ, seqQ_updL, seqQ_updT, tupQ_updT, tSl, tNoPart, tPart, rSlQ, rSlTQ, rCatQ, tTupQ, tLstQ, tNever, rEqD, rInQ, gTupQ, gCons, gNil, tBM, tBM0, rAppend, rClear, tFor_rng3, tLc_rng1, tLc_rng2, tLc_list, tLc_tup, pick_nil, pick_own, pick_cap, join_some, tYes, gSlice, tCallKC, gk_11, gk_31, tLc2_list, bodyL_tup, bodyL_list, bodyE_eq, seqQ_lst hD5]
          obtain ⟨vq, eq, mq⟩ := atI_in j0 j1
          obtain ⟨q, hq, rfl⟩ := List.mem_map.mp mq
          have T5 := (hT3.ext x4).kp k5 (x4.at g3)
          obtain ⟨⟨a, w, e1, e2, e3⟩, okq⟩ := T5 q hq
          refine ⟨_, eq, a, e1, _, e2, (fun z => absurd (show HT.sIx 4 0 (some 1) = 0 from z.1) (by decide)), fun b6 n6 => ?_⟩
          rw [show cutV [V.int q.2.n, V.int q.2.lo, V.int q.2.hi, w] (some 1) (some 3) = [V.int q.2.lo, V.int q.2.hi] from cutV_nat _ 1 3 (by simp) (by decide)]
          try walk_at "rn"
          refine ⟨p, _, _, _, _, rfl, (Ext.new n6).at g5, fun v t n x y z H7 A7 hone g7 k7 => ?_⟩
          try walk_at "rn"
          intro b8 n8
          have x6 := Ext.new (K := K) (o := .tup [.int q.2.lo, .int q.2.hi]) n6
          have x8 := Ext.new (K := K) (o := .tup [.int (num + 1 + d), .int q.2.lo, .int q.2.hi, v]) n8
          have np : n.noPlus := let ⟨_, _, _, _, _, _, _, h⟩ := A7; h
          rw [eJ]
          refine ⟨.ref b8, ⟨num + 1 + d, q.2.lo, q.2.hi, t, n⟩, _, _, x, y, z, rfl, ⟨b8, v, rfl, tupQ_updT, A7.ext x8⟩, ⟨by show 1 ≤ num + 1 + d; omega, okq.lo0, okq.lt, okq.hi1, ?_, np⟩, x8.at (k7.keep D _ (x6.at hD5) neD), ((T5.ext x6).kp k7 (x6.at g5)).ext x8, x8.at g7, k03.trans (x4.kp2.trans (k5.l.trans (x6.kp2.trans (k7.l.trans x8.kp2))))⟩
          by_cases c1 : q.2.hi - q.2.lo = 1
          · exact .inl c1
          · exact .inr (hone (by simpa using c1))
      · rw [eJ]
        exact ⟨v, e, _, _, _, _, _, rfl, N3, ok3, hD3, hT3, g3, k03⟩
    intro σ1 G1 h
    rw [eJ] at h
    clear eJ
    obtain ⟨v, e, v8, v9, x, y, z, rfl, N, ok, hDG, hTG, gG, kG⟩ := h
    try walk_at "rn"
    refine ⟨.inl ⟨rfl, _, SqL.of hDG⟩, _, hDG, by rw [List.length_map]; omega, ?_⟩
    rw [eP]
    have kD : Kp K D G1 (upd G1 D (.lst (Tr.v L ++ [v]))) := Kp.upd hDG
    refine ⟨_, _, _, _, _, _, L ++ [(v, e)], x, y, z, rfl, by omega, by rw [upd_same]; simp [Tr.v], ?_, by rw [List.length_append, hl]; rfl, by rw [upd_ne neD.symm]; exact gG, kG.trans kD.r⟩
    refine TrayAt.kp (TrayAt.app hTG fun q hq => ?_) kD hDG
    have eq : q = (v, e) := by simpa using hq
    subst eq
    exact ⟨N, ok⟩
  intro σ' H' h
  rw [eP] at h
  obtain ⟨num, v5, v6, v7, v8, v9, L, x, y, z, rfl, hnum, hD, hT, hl, gp, k⟩ := h
  try walk_at "rn"
  exact q D L x y z H' hD hT (by omega) neD gp (k.kp nD)
/-- a tray of which only the stretches count -/
def RawAt (K : PySem.W.Frag) (H : Hp) (v : V) (e : Nt) : Prop := ∃ a w, v = .ref a ∧ tupQ K H a = some [.int e.n, .int e.lo, .int e.hi, w]
def RawTr (K : PySem.W.Frag) (H : Hp) (L : Tr) : Prop := ∀ q ∈ L, RawAt K H q.1 q.2 ∧ 0 ≤ q.2.lo ∧ q.2.lo < q.2.hi
theorem RawTr.ext {K : PySem.W.Frag} {H H' : Hp} {L : Tr} (h : RawTr K H L) (x : Ext K H H') : RawTr K H' L := fun q hq => by
  obtain ⟨⟨a, w, e1, e2⟩, h2⟩ := h q hq
  exact ⟨⟨a, w, e1, x.tup e2⟩, h2⟩
theorem RawTr.kp {K : PySem.W.Frag} {H H' : Hp} {L : Tr} {p : Addr} {xs : List V} (h : RawTr K H L) (k : Kp K p H H') (hp : H p = some (.lst xs)) : RawTr K H' L := fun q hq => by
  obtain ⟨⟨a, w, e1, e2⟩, h2⟩ := h q hq
  exact ⟨⟨a, w, e1, k.tup hp e2⟩, h2⟩
theorem RawTr.app {K : PySem.W.Frag} {H : Hp} {L L' : Tr} (h : RawTr K H L) (h' : RawTr K H L') : RawTr K H (L ++ L') := fun q hq => (List.mem_append.mp hq).elim (h q) (h' q)
theorem TrayAt.raw {K : PySem.W.Frag} {H : Hp} {L : Tr} (h : TrayAt K H L) : RawTr K H L := fun q hq => by
  obtain ⟨⟨a, w, e1, e2, _⟩, ok⟩ := h q hq
  exact ⟨⟨a, w, e1, e2⟩, ok.lo0, ok.lt⟩
def isKey (k : Int) : Prop := 0 ≤ k ∧ k < 1000000000000
def spKeysT (K : PySem.W.Frag) : Sp := fun vs H Q _ => ∃ (p : Addr) (x y z b : Int) (c : Addr) (L : Tr), vs = [.ref p, .int b, .ref c] ∧ H p = some (L3 x y z) ∧ 0 ≤ b ∧ b ≤ 999999999976 ∧ H c = some (.lst (Tr.v L)) ∧ RawTr K H L ∧ c ≠ p ∧ L.length ≤ 100 ∧
  ∀ (r : Addr) (ks : List Int) (x y z : Int) (H' : Hp), H' r = some (.lst (ks.map V.int)) → (∀ k ∈ ks, isKey k) → ks.length ≤ 1000 → r ≠ p → H' p = some (L3 x y z) → Kp K p H H' → Q (.ref r) H'
theorem sc__law_keys : FnScope ["_law_well_here", "_law_base_here", "_law_tray_here", "_law_found", "_law_number", "_law_low", "_law_high", "_law_action_here"] ["_law_well_here", "_law_base_here", "_law_tray_here"] (defScope s__law_keys) := ⟨rfl, rfl, rfl, by decide +kernel, rfl, by decide +kernel, by decide +kernel⟩
theorem ok__law_keys {f : Addr} {fd : FuncData} (F : Fun K "_law_keys" "_law_keys" s__law_keys f fd) {aG : Addr} {tE : Tok} (B : B K mg aG tE) (C__law_key : Callee P w K mg base "_law_key" 2 ["_law_well_here", "_law_base_here"] (spKeyL K)) : FnOk P w K mg base CX0 3 f fd ["_law_well_here", "_law_base_here", "_law_tray_here"] (spKeysT K) := by
  refine F.okJ sc__law_keys (fun vs H Q E h => ?_) (fun cdv A outer s H vs Q E hr h => ?_)
  · obtain ⟨p, x, y, z, b, c, es, rfl, _⟩ := h
    rfl
  obtain ⟨p, x, y, z, b, c, L, rfl, hp, b0, b1, hc, hT, ncp, hes, q⟩ := h
  refine ⟨_, (bcons (slc (i := 3) sc__law_keys.nd rfl (Or.inl rfl) (Cap.mk (N := ["_law_k", "_law_well_here", "_law_base_here"]) (src := [none, some 0, some 1]) rfl rfl) rfl (irange1 rfl B.range (acons ei anil)) (fun _ _ _ _ => (gname (i := 0) (show (["_law_k", "_law_well_here", "_law_base_here"] : List Str).Nodup from by decide +kernel) rfl (Or.inl rfl))) (fun _ _ _ _ => fnone) (fun _ _ _ _ => (ecall C__law_key (hr.mono (by decide)) rfl (acons (ev 1) (acons (ev 2) anil)))))
      (bcons (sfor PassesOwn.never rfl (ilist (ev 2)) (gtupQ (n := 4) rfl (gcons (gname (i := 4) sc__law_keys.nd rfl (Or.inl rfl)) (gcons (gname (i := 5) sc__law_keys.nd rfl (Or.inl rfl)) (gcons (gname (i := 6) sc__law_keys.nd rfl (Or.inl rfl)) (gcons (gname (i := 7) sc__law_keys.nd rfl (Or.inl rfl)) gnil)))))
        (bone (sset (i := 3) sc__law_keys.nd rfl (Or.inl rfl) (eop op_catQ (ev 3) (elc (Cap.mk (N := ["_law_one"]) (src := [none]) rfl rfl) rfl (ilist (elstQ (acons (ev 5) (acons (eop op_sub (ev 6) ei) (acons (ev 6) anil))))) (fun _ _ _ _ => (gname (i := 0) (show (["_law_one"] : List Str).Nodup from by decide +kernel) rfl (Or.inl rfl))) (fun _ _ _ _ => (fone (tcmp op_lt (ev 0) (epowc 1000000000000) (nomark _)))) (fun _ _ _ _ => (ev 0)))))))
      (bone (sret (ev 3))))), ?_⟩
  try walk_at "rn"
  intro D nD
  have neD : D ≠ p := (ne_of_none hp nD.1).symm
  obtain ⟨Pv, eP⟩ : ∃ Pv : Nat → List V → St → Hp → Prop, Pv = fun i acc σ' H' => ∃ (v0 : Option V) (x y z : Int) (ks : List Int), σ' = [v0, some (.ref p), some (.int b)] ∧ H' D = some (.lst acc) ∧ acc = ks.map V.int ∧ ks.length = i ∧ (∀ k ∈ ks, isKey k) ∧ H' p = some (L3 x y z) ∧ Kp2 K p D (upd H D (.lst [])) H' := ⟨_, rfl⟩
  refine lc_range Pv ?_ ?_ ?_
  · rw [eP]
    exact ⟨_, _, _, _, [], rfl, upd_same, rfl, rfl, (fun k hk => nomatch hk), by rw [upd_ne neD.symm]; exact hp, Kp2.refl⟩
  · intro i acc σ' H' hi h
    rw [eP] at h
    obtain ⟨v0, x, y, z, ks, rfl, hD, rfl, hl, hk, gp, k⟩ := h
    try walk_at "rn"
    refine ⟨p, _, _, _, b, rfl, gp, b0, b1, fun k1 x y z H3 k10 k11 g3 k3 => ?_⟩
    have hD3 := k3.keep D _ hD neD
    rw [eP]
    refine ⟨hD3, by rw [List.length_map]; omega, _, x, y, z, ks ++ [k1], rfl, upd_same, by rw [List.map_append]; rfl, by rw [List.length_append, hl]; rfl, fun k hk' => ?_, by rw [upd_ne neD.symm]; exact g3, (k.trans k3.l).trans (Kp.r (Kp.upd hD3))⟩
    rcases List.mem_append.mp hk' with z | z
    · exact hk k z
    · have e : k = k1 := by simpa using z
      subst e
      exact ⟨k10, k11⟩
  intro acc σ' H6 h
  rw [eP] at h
  clear eP
  obtain ⟨v0, x, y, z, ks, rfl, hD, rfl, hl, hk, gp, k⟩ := h
  have k6 := k.kp nD
  have hc6 := k6.keep c _ hc ncp
  have hT6 := hT.kp k6 hp
  refine ⟨⟨_, SqL.of hc6⟩, ?_⟩
  obtain ⟨Pv, eP⟩ : ∃ Pv : Nat → St → Hp → Prop, Pv = fun i σ' H' => ∃ (r : Addr) (v4 v5 v6 v7 : Option V) (ks : List Int), σ' = [some (.ref p), some (.int b), some (.ref c), some (.ref r), v4, v5, v6, v7] ∧ H' r = some (.lst (ks.map V.int)) ∧ (∀ k ∈ ks, isKey k) ∧ ks.length ≤ 4 + 3 * i ∧ r ≠ p ∧ Ext K H6 H' := ⟨_, rfl⟩
  refine loop_list (xs := Tr.v L) Pv ?_ ?_ ?_ ?_
  · rw [eP]
    exact ⟨_, _, _, _, _, ks, rfl, hD, hk, by omega, neD, Ext.refl⟩
  · intro i σ' H' _ h
    rw [eP] at h
    obtain ⟨r, v4, v5, v6, v7, ks, rfl, hr1, hk, hl, nr, xx⟩ := h
    exact SqL.of (xx.at hc6)
  · intro i x σ' H7 hx h
    rw [eP] at h
    obtain ⟨r, v4, v5, v6, v7, ks, rfl, hr1, hk, hl, nr, x7⟩ := h
    rw [List.getElem?_map] at hx
    obtain ⟨m, em, rfl⟩ := Option.map_eq_some_iff.mp hx
    have hi : i < L.length := (List.getElem?_eq_some_iff.mp em).1
    obtain ⟨⟨a, w, e1, e2⟩, l0, l1⟩ := (hT6.ext x7) m (List.mem_of_getElem? em)
    rw [e1]
    simp only [tSeq, tNext, tIfS, tAsg, gName, gSub, tRet, tRetN, tDrop, tVar, tC, tOp, tUn, rI0, rI, rU, tTest, tB, tAndV, tOrV, tNotV, tAnd, tOr, tNot, tIf, tChain, tCB, tCons, tNil, tLst, tTup, tCallC, List.getElem?_cons_zero, List.getElem?_cons_succ, List.set_cons_zero, List.set_cons_succ, Option.some.injEq, V.int.injEq, V.bl.injEq, V.ref.injEq, V.ty.injEq, V.str.injEq, List.cons.injEq, exists_eq_left', exists_eq_left, exists_and_left, and_true, true_and, and_assoc, cxK, rIxF, rSetL, rEq, rNe, scal, HO.lst.injEq, HO.tup.injEq, upd_none, ixN_10, ixN_20, ixN_21, ixN_30, ixN_31, ixN_32, upd_same, seqAt_updL, seqAt_updT, atI_0, atI_1, atI_2, atI_3, decide_eq_true_eq, L2.start, List.map_cons, List.map_nil, List.length_cons, List.length_nil, Nat.reduceAdd, Nat.reduceSub, List.replicate_succ, List.replicate_zero, List.cons_append, List.nil_append, List.append_nil, tFor_rng1, tFor_rng2, tFor_list, tFor_tup, CDv, CMul, CPow, sizeLine_eq, Int.reduceLE, Int.reduceLT, Int.reducePow, Int.reduceToNat, Int.reduceAdd, Int.reduceSub, Int.reduceMul, Int.reduceNeg, Nat.reduceLeDiff, Nat.reducePow, Nat.reduceLT, Int.reduceEq, true_or, or_true, ite_true, ite_false, if_true, if_false, Bool.not_true, Bool.not_false, Bool.false_eq_true, decide_true, decide_false, rIxQ, seqQ_updL, seqQ_updT, tupQ_updT, tSl, tNoPart, tPart, rSlQ, rSlTQ, rCatQ, tTupQ, tLstQ, tNever, rEqD, rInQ, gTupQ, gCons, gNil, tBM, tBM0, rAppend, rClear, tFor_rng3, tLc_rng1, tLc_rng2, tLc_list, tLc_tup, pick_nil, pick_own, pick_cap, join_some, tYes, gSlice, tCallKC, gk_11, gk_31, tLc2_list, bodyL_tup, bodyL_list, bodyE_eq, e2]
    intro b8 n8
    refine ⟨⟨_, SqL.of upd_same⟩, fun D2 nD2 => ?_⟩
    have x8 := Ext.new (K := K) (o := .lst [.int m.2.lo, .int (m.2.hi - 1), .int m.2.hi]) n8
    obtain ⟨Pc, eC⟩ : ∃ Pv : Nat → List V → St → Hp → Prop, Pv = fun i acc σ' H' => ∃ (v0 : Option V) (ks : List Int), σ' = [v0] ∧ H' D2 = some (.lst acc) ∧ acc = ks.map V.int ∧ ks.length ≤ i ∧ (∀ k ∈ ks, isKey k) ∧ Kp K D2 (upd (upd H7 b8 (.lst [.int m.2.lo, .int (m.2.hi - 1), .int m.2.hi])) D2 (.lst [])) H' := ⟨_, rfl⟩
    refine lc_list (xs := [.int m.2.lo, .int (m.2.hi - 1), .int m.2.hi]) Pc ?_ ?_ ?_ ?_
    · rw [eC]
      exact ⟨_, [], rfl, upd_same, rfl, Nat.le_refl _, (fun k hk => nomatch hk), Kp.refl⟩
    · intro i acc σ' H' _ h
      rw [eC] at h
      obtain ⟨v0, ks, rfl, hD2, rfl, hl, hk, kk⟩ := h
      exact SqL.of ((kk.ext nD2).at upd_same)
    · intro i x acc σ' H' hx h
      rw [eC] at h
      obtain ⟨v0, ks, rfl, hD2, rfl, hl, hk, kk⟩ := h
      have hi3 : i < 3 := (List.getElem?_eq_some_iff.mp hx).1
      obtain ⟨e', rfl, he'⟩ : ∃ e', x = V.int e' ∧ 0 ≤ e' := by
        have h := List.mem_of_getElem? hx
        simp only [List.mem_cons, List.not_mem_nil, or_false] at h
        rcases h with rfl | rfl | rfl <;> exact ⟨_, rfl, by omega⟩
      try walk_at "rn"
      rw [eC]
      dsimp only
      refine ite2 (fun c1 => ?_) (fun c1 => ⟨_, ks, rfl, hD2, rfl, by omega, hk, kk⟩)
      refine ⟨hD2, by rw [List.length_map]; omega, _, ks ++ [e'], rfl, upd_same, by rw [List.map_append]; rfl, by rw [List.length_append]; simp only [List.length_cons, List.length_nil]; omega, fun k hk' => ?_, kk.trans (Kp.upd hD2)⟩
      rcases List.mem_append.mp hk' with z | z
      · exact hk k z
      · have ee : k = e' := by simpa using z
        subst ee
        exact ⟨he', c1⟩
    intro acc σ' H9 h
    rw [eC] at h
    clear eC
    obtain ⟨v0, ks', rfl, hD2, rfl, hl', hk', kk⟩ := h
    have x9 := x8.trans (kk.ext nD2)
    try walk_at "rn"
    refine ⟨_, x9.at hr1, _, hD2, by rw [List.length_map, List.length_map]; simp only [List.length_cons, List.length_nil] at hl'; omega, fun b10 n10 => ?_⟩
    rw [eP]
    refine ⟨b10, _, _, _, _, ks ++ ks', rfl, by rw [upd_same, List.map_append], fun k hk1 => (List.mem_append.mp hk1).elim (hk k) (hk' k), ?_, ?_, x7.trans (x9.trans (Ext.new n10))⟩
    · rw [List.length_append]
      simp only [List.length_cons, List.length_nil] at hl'
      omega
    · exact (ne_of_none (x9.at (x7.at gp)) n10.1).symm
  intro σ' H7 h
  rw [eP] at h
  obtain ⟨r, v4, v5, v6, v7, ks, rfl, hr1, hk, hl', nr, x7⟩ := h
  try walk_at "rn"
  exact q r ks x y z H7 hr1 hk (by rw [List.length_map] at hl'; omega) nr (x7.at gp) (k6.trans x7.kp)
/-! ### what pouring means -/
def stepN (k : Int) (v : Option Int) (e : Nt) : Option Int := if e.has k = true then actF e.t e.m v else v
def seeN (ns : List Nt) (k : Int) (v : Option Int) : Option Int := ns.foldl (stepN k) v
theorem seeF_ns (L : Tr) (k : Int) (v : Option Int) : seeF L k none v = seeN L.ns k v := by
  unfold seeF seeN Tr.ns
  rw [List.foldl_map]
  induction L generalizing v with
  | nil => rfl
  | cons q L ih =>
    simp only [okAt, Bool.and_true] at ih ⊢
    cases c : q.2.has k with
    | true => rw [List.filter_cons_of_pos (p := fun q : V × Nt => q.2.has k) c, List.foldl_cons, List.foldl_cons, stepN, if_pos c]; exact ih _
    | false => rw [List.filter_cons_of_neg (p := fun q : V × Nt => q.2.has k) (by rw [c]; decide), List.foldl_cons, stepN, if_neg (by rw [c]; decide)]; exact ih _
theorem cutO_step {e : Nt} {lo hi k : Int} (v : Option Int) : (cutO e lo hi).toList.foldl (stepN k) v = if lo ≤ k ∧ k < hi then stepN k v e else v := by
  unfold cutO
  have hs : ∀ c : Prop, (c ↔ (e.cut lo hi).has k = true) → stepN k v (e.cut lo hi) = if (e.cut lo hi).has k = true then actF e.t e.m v else v := fun _ _ => rfl
  have h2 : (e.cut lo hi).has k = decide ((e.lo ≤ k ∧ k < e.hi) ∧ (lo ≤ k ∧ k < hi)) := by
    show decide (mx e.lo lo ≤ k ∧ k < mn e.hi hi) = _
    unfold mx mn
    congr 1
    apply propext
    constructor
    · rintro ⟨h1, h2⟩
      refine ⟨⟨?_, ?_⟩, ?_, ?_⟩ <;> revert h1 h2 <;> split <;> split <;> intros <;> omega
    · rintro ⟨h1, h2⟩
      constructor <;> split <;> omega
  by_cases c : mx e.lo lo < mn e.hi hi
  · rw [if_pos c]
    show stepN k v (e.cut lo hi) = _
    unfold stepN
    rw [h2]
    unfold Nt.has
    by_cases c1 : lo ≤ k ∧ k < hi
    · rw [if_pos c1]
      simp only [c1, and_true]
      rfl
    · rw [if_neg c1, if_neg (by simp only [c1, and_false]; decide)]
  · rw [if_neg c]
    show v = _
    have c2 : ¬ ((e.lo ≤ k ∧ k < e.hi) ∧ (lo ≤ k ∧ k < hi)) := by
      intro h
      apply c
      unfold mx mn
      split <;> split <;> omega
    by_cases c1 : lo ≤ k ∧ k < hi
    · rw [if_pos c1]
      unfold stepN Nt.has
      rw [if_neg (by simp only [decide_eq_true_eq]; exact fun h => c2 ⟨h, c1⟩)]
    · rw [if_neg c1]
theorem foldl_some {α β : Type} (f : β → α → β) (l : List (Option α)) (b : β) : (l.filterMap id).foldl f b = l.foldl (fun b o => o.toList.foldl f b) b := by
  induction l generalizing b with
  | nil => rfl
  | cons o l ih =>
    cases o with
    | none => exact ih b
    | some a => exact ih (f b a)
theorem see_in (ns : List Nt) {lo hi k : Int} (v : Option Int) : seeN (inF ns lo hi) k v = if lo ≤ k ∧ k < hi then seeN ns k v else v := by
  unfold seeN inF
  rw [foldl_some, List.foldl_map]
  induction ns generalizing v with
  | nil => split <;> rfl
  | cons e ns ih =>
    rw [List.foldl_cons, List.foldl_cons, ih, cutO_step]
    by_cases c : lo ≤ k ∧ k < hi
    · rw [if_pos c, if_pos c, if_pos c]
    · rw [if_neg c, if_neg c, if_neg c]
theorem see_out (ns : List Nt) (ok : ∀ e ∈ ns, e.ok) {lo hi k : Int} (h : lo < hi) (v : Option Int) : seeN (outF ns lo hi) k v = if lo ≤ k ∧ k < hi then v else seeN ns k v := by
  unfold seeN outF
  rw [foldl_some, List.foldl_flatMap]
  induction ns generalizing v with
  | nil => split <;> rfl
  | cons e ns ih =>
    have oe := ok e (by simp)
    rw [List.foldl_cons, List.foldl_cons, ih (fun e he => ok e (List.mem_cons_of_mem _ he))]
    simp only [List.foldl_cons, List.foldl_nil, cutO_step]
    have l0 := oe.lo0
    have l1 := oe.hi1
    by_cases c : lo ≤ k ∧ k < hi
    · rw [if_pos c, if_pos c, if_neg (by omega), if_neg (by omega)]
    · rw [if_neg c, if_neg c]
      congr 1
      by_cases c1 : 0 ≤ k ∧ k < lo
      · rw [if_pos c1, if_neg (by omega)]
      · rw [if_neg c1]
        by_cases c2 : hi ≤ k ∧ k < 1000000000000
        · rw [if_pos c2]
        · rw [if_neg c2]
          unfold stepN Nt.has
          rw [if_neg (by simp only [decide_eq_true_eq]; omega)]
theorem fm_self {α : Type} {l : List α} {f : α → Option α} (h : ∀ e ∈ l, f e = some e) : (l.map f).filterMap id = l := by
  induction l with
  | nil => rfl
  | cons a l ih =>
    rw [List.map_cons, h a (by simp)]
    show a :: _ = _
    rw [ih fun e he => h e (List.mem_cons_of_mem _ he)]
theorem fm_none {α : Type} {l : List α} {f : α → Option α} (h : ∀ e ∈ l, f e = none) : (l.map f).filterMap id = [] := by
  induction l with
  | nil => rfl
  | cons a l ih =>
    rw [List.map_cons, h a (by simp)]
    exact ih fun e he => h e (List.mem_cons_of_mem _ he)
theorem fm2_self {α : Type} {l : List α} {f g : α → Option α} (h : ∀ e ∈ l, [f e, g e].filterMap id = [e]) : (l.flatMap fun e => [f e, g e]).filterMap id = l := by
  induction l with
  | nil => rfl
  | cons a l ih =>
    rw [List.flatMap_cons, List.filterMap_append, h a (by simp), ih fun e he => h e (List.mem_cons_of_mem _ he)]
    rfl
theorem fm2_none {α : Type} {l : List α} {f g : α → Option α} (h : ∀ e ∈ l, f e = none ∧ g e = none) : (l.flatMap fun e => [f e, g e]).filterMap id = [] := by
  induction l with
  | nil => rfl
  | cons a l ih =>
    rw [List.flatMap_cons, List.filterMap_append, (h a (by simp)).1, (h a (by simp)).2, ih fun e he => h e (List.mem_cons_of_mem _ he)]
    rfl
theorem cutO_in {e e' : Nt} {lo hi : Int} (h : cutO e lo hi = some e') : lo ≤ e'.lo ∧ e'.hi ≤ hi ∧ e'.lo < e'.hi ∧ e.lo ≤ e'.lo ∧ e'.hi ≤ e.hi := by
  unfold cutO at h
  split at h
  · next c =>
    cases h
    revert c
    unfold Nt.cut mx mn
    dsimp only
    split <;> split <;> intros <;> omega
  · cases h
theorem cutO_all {e : Nt} {lo hi : Int} (h1 : lo ≤ e.lo) (h2 : e.hi ≤ hi) (h3 : e.lo < e.hi) : cutO e lo hi = some e := by
  have e1 : mx e.lo lo = e.lo := by unfold mx; split <;> omega
  have e2 : mn e.hi hi = e.hi := by unfold mn; split <;> omega
  unfold cutO
  rw [e1, e2, if_pos h3]
  show some { e with lo := mx e.lo lo, hi := mn e.hi hi } = some e
  rw [e1, e2]
theorem cutO_no {e : Nt} {lo hi : Int} (h1 : hi ≤ e.lo ∨ e.hi ≤ lo) : cutO e lo hi = none := by
  unfold cutO
  rw [if_neg]
  unfold mx mn
  split <;> split <;> omega
theorem in_mem {ns : List Nt} {lo hi : Int} {e' : Nt} (h : e' ∈ inF ns lo hi) : ∃ e ∈ ns, cutO e lo hi = some e' := by
  unfold inF at h
  obtain ⟨o, h1, h2⟩ := List.mem_filterMap.mp h
  obtain ⟨e, h3, rfl⟩ := List.mem_map.mp h1
  exact ⟨e, h3, h2⟩
theorem out_mem {ns : List Nt} {lo hi : Int} {e' : Nt} (h : e' ∈ outF ns lo hi) : ∃ e ∈ ns, cutO e 0 lo = some e' ∨ cutO e hi 1000000000000 = some e' := by
  unfold outF at h
  obtain ⟨o, h1, h2⟩ := List.mem_filterMap.mp h
  obtain ⟨e, h3, h4⟩ := List.mem_flatMap.mp h1
  simp only [List.mem_cons, List.not_mem_nil, or_false] at h4
  rcases h4 with rfl | rfl
  · exact ⟨e, h3, .inl h2⟩
  · exact ⟨e, h3, .inr h2⟩
theorem in_in {ns : List Nt} {lo hi : Int} : inF (inF ns lo hi) lo hi = inF ns lo hi := fm_self fun e' he => by
  obtain ⟨e, _, h⟩ := in_mem he
  obtain ⟨h1, h2, h3, _⟩ := cutO_in h
  exact cutO_all h1 h2 h3
theorem out_in {ns : List Nt} {lo hi : Int} : outF (inF ns lo hi) lo hi = [] := fm2_none fun e' he => by
  obtain ⟨e, _, h⟩ := in_mem he
  obtain ⟨h1, h2, h3, _⟩ := cutO_in h
  exact ⟨cutO_no (.inl h1), cutO_no (.inr h2)⟩
theorem in_out {ns : List Nt} {lo hi : Int} : inF (outF ns lo hi) lo hi = [] := fm_none fun e' he => by
  obtain ⟨e, _, h⟩ := out_mem he
  rcases h with h | h
  · obtain ⟨h1, h2, h3, _⟩ := cutO_in h
    exact cutO_no (.inr h2)
  · obtain ⟨h1, h2, h3, _⟩ := cutO_in h
    exact cutO_no (.inl h1)
theorem out_out {ns : List Nt} {lo hi : Int} (h : lo < hi) : outF (outF ns lo hi) lo hi = outF ns lo hi := fm2_self fun e' he => by
  obtain ⟨e, _, h⟩ := out_mem he
  rcases h with h | h
  · obtain ⟨h1, h2, h3, _⟩ := cutO_in h
    rw [cutO_all h1 h2 h3, cutO_no (.inr (by omega))]
    rfl
  · obtain ⟨h1, h2, h3, _⟩ := cutO_in h
    rw [cutO_all h1 h2 h3, cutO_no (.inl (by omega))]
    rfl
theorem in_snoc (ns : List Nt) (e : Nt) (lo hi : Int) : inF (ns ++ [e]) lo hi = inF ns lo hi ++ (cutO e lo hi).toList := by
  unfold inF
  rw [List.map_append, List.filterMap_append]
  cases h : cutO e lo hi <;> simp [h]
theorem out_snoc (ns : List Nt) (e : Nt) (lo hi : Int) : outF (ns ++ [e]) lo hi = outF ns lo hi ++ (cutO e 0 lo).toList ++ (cutO e hi 1000000000000).toList := by
  unfold outF
  rw [List.flatMap_append, List.filterMap_append, List.append_assoc]
  cases h : cutO e 0 lo <;> cases h' : cutO e hi 1000000000000 <;> simp [h, h']
theorem ns_d {L : Tr} : (L.map fun q => q.2.d) = L.ns.map Nt.d := by rw [Tr.ns, List.map_map]; rfl
def spCutL (K : PySem.W.Frag) : Sp := fun vs H Q _ => ∃ v e lo hi, vs = [v, .int lo, .int hi] ∧ NoteAt K H v e ∧ e.ok ∧
  ∀ (D : Addr) (M : Tr) H', H' D = some (.lst M.v) → TrayAt K H' M → M.ns = (cutO e lo hi).toList → Ext K H H' → Q (.ref D) H'
theorem sc__law_cut : FnScope ["_law_note_here", "_law_low", "_law_high", "_law_first", "_law_last"] ["_law_note_here", "_law_low", "_law_high"] (defScope s__law_cut) := ⟨rfl, rfl, rfl, by decide +kernel, rfl, by decide +kernel, by decide +kernel⟩
theorem ok__law_cut {f : Addr} {fd : FuncData} (F : Fun K "_law_cut" "_law_cut" s__law_cut f fd) {aG : Addr} {tE : Tok} (B : B K mg aG tE) : FnOk P w K mg base CX0 1 f fd ["_law_note_here", "_law_low", "_law_high"] (spCutL K) := by
  refine F.okJ sc__law_cut (fun vs H Q E h => ?_) (fun cdv A outer s H vs Q E hr h => ?_)
  · obtain ⟨v, e, lo, hi, rfl, _⟩ := h
    rfl
  obtain ⟨v, e, lo, hi, rfl, ⟨a, w, rfl, ha, hA⟩, ok, q⟩ := h
  refine ⟨_, (bcons (sset (i := 3) sc__law_cut.nd rfl (Or.inl rfl) (ecallB (call_max2 rfl) rfl B.max bt_max (acons (eix ix_Q (ev 0) ei (fun _ _ => rfl)) (acons (ev 1) anil))))
      (bcons (sset (i := 4) sc__law_cut.nd rfl (Or.inl rfl) (ecallB (call_min2 rfl) rfl B.min bt_min (acons (eix ix_Q (ev 0) ei (fun _ _ => rfl)) (acons (ev 2) anil))))
      (bcons (sif (tcmp op_ge (ev 3) (ev 4) (nomark _)) (bone (sret (elstQ anil))) bnil)
      (bone (sret (elstQ (acons (etupQ (acons (eix ix_Q (ev 0) ei (fun _ _ => rfl)) (acons (ev 3) (acons (ev 4) (acons (eix ix_Q (ev 0) ei (fun _ _ => rfl)) anil))))) anil))))))), ?_⟩
  simp only [tSeq, tNext, tIfS, tAsg, gName, gSub, tRet, tRetN, tDrop, tVar, tC, tOp, tUn, rI0, rI, rU, tTest, tB, tAndV, tOrV, tNotV, tAnd, tOr, tNot, tIf, tChain, tCB, tCons, tNil, tLst, tTup, tCallC, List.getElem?_cons_zero, List.getElem?_cons_succ, List.set_cons_zero, List.set_cons_succ, Option.some.injEq, V.int.injEq, V.bl.injEq, V.ref.injEq, V.ty.injEq, V.str.injEq, List.cons.injEq, exists_eq_left', exists_eq_left, exists_and_left, and_true, true_and, and_assoc, cxK, rIxF, rSetL, rEq, rNe, scal, HO.lst.injEq, HO.tup.injEq, upd_none, ixN_10, ixN_20, ixN_21, ixN_30, ixN_31, ixN_32, upd_same, seqAt_updL, seqAt_updT, atI_0, atI_1, atI_2, atI_3, decide_eq_true_eq, L2.start, List.map_cons, List.map_nil, List.length_cons, List.length_nil, Nat.reduceAdd, Nat.reduceSub, List.replicate_succ, List.replicate_zero, List.cons_append, List.nil_append, List.append_nil, tFor_rng1, tFor_rng2, tFor_list, tFor_tup, CDv, CMul, CPow, sizeLine_eq, Int.reduceLE, Int.reduceLT, Int.reducePow, Int.reduceToNat, Int.reduceAdd, Int.reduceSub, Int.reduceMul, Int.reduceNeg, Nat.reduceLeDiff, Nat.reducePow, Nat.reduceLT, Int.reduceEq, true_or, or_true, ite_true, ite_false, if_true, if_false, Bool.not_true, Bool.not_false, Bool.false_eq_true, decide_true, decide_false, rIxQ, seqQ_updL, seqQ_updT, tupQ_updT, tSl, tNoPart, tPart, rSlQ, rSlTQ, rCatQ, tTupQ, tLstQ, tNever, rEqD, rInQ, gTupQ, gCons, gNil, tBM, tBM0, rAppend, rClear, tFor_rng3, tLc_rng1, tLc_rng2, tLc_list, tLc_tup, pick_nil, pick_own, pick_cap, join_some, tYes, gSlice, tCallKC, gk_11, gk_31, tLc2_list, bodyL_tup, bodyL_list, bodyE_eq, seqQ_T ha]
  refine ite2 (fun c => fun b nb => ?_) (fun c => fun b nb b2 nb2 => ?_)
  · refine q b [] _ upd_same (fun q hq => nomatch hq) ?_ (Ext.new nb)
    unfold cutO
    rw [if_neg (by show ¬ (if lo > e.lo then lo else e.lo) < (if hi < e.hi then hi else e.hi); omega)]
    rfl
  · have c' : mx e.lo lo < mn e.hi hi := by show (if lo > e.lo then lo else e.lo) < (if hi < e.hi then hi else e.hi); omega
    have x2 := Ext.new (K := K) (o := .lst [.ref b]) nb2
    refine q b2 [(.ref b, e.cut lo hi)] _ upd_same ?_ ?_ ((Ext.new nb).trans x2)
    · intro q hq
      have e1 : q = (.ref b, e.cut lo hi) := by simpa using hq
      rw [e1]
      exact ⟨NoteAt.ext ⟨b, w, rfl, tupQ_updT, hA.ext (Ext.new nb)⟩ x2, Nt.cut_ok ok c'⟩
    · unfold cutO
      rw [if_pos c']
      rfl
theorem in_len (ns : List Nt) (lo hi : Int) : (inF ns lo hi).length ≤ ns.length := by
  unfold inF
  exact Nat.le_trans (List.length_filterMap_le ..) (by rw [List.length_map]; exact Nat.le_refl _)
theorem out_len (ns : List Nt) (lo hi : Int) : (outF ns lo hi).length ≤ 2 * ns.length := by
  unfold outF
  refine Nat.le_trans (List.length_filterMap_le ..) ?_
  rw [List.length_flatMap]
  exact Nat.le_of_eq (sum_two ns)
theorem ns_len {L : Tr} {ns : List Nt} (h : L.ns = ns) : L.length = ns.length := by rw [← h, Tr.ns, List.length_map]
theorem ns_lay (ns : List Nt) : PyData.canLayAll0 (ns.map Nt.d) = true ∧ PyData.depthAll (ns.map Nt.d) ≤ 6 := by
  have h := tray_lay (ns.map fun e => (V.non, e))
  rw [List.map_map] at h
  exact h
theorem ns_nob (ns : List Nt) : nobAll (ns.map Nt.d) = true := by
  have h := tray_nob (ns.map fun e => (V.non, e))
  rw [List.map_map] at h
  exact h
/-- two trays in a tuple -/
def pairD (ns ns' : List Nt) : PyData := .tuple [.list (ns.map Nt.d), .list (ns'.map Nt.d)]
theorem pair_shaped (ns ns' : List Nt) : SeqAt.shaped (pairD ns ns') = true := by
  have h := ns_lay ns
  have h' := ns_lay ns'
  simp only [SeqAt.shaped, pairD, PyData.canLay0, PyData.canLayAll0, PyData.depth, PyData.depthAll, h.1, h'.1, Bool.true_and, decide_eq_true_eq]
  omega
theorem pair_same (ns ns' : List Nt) : PyData.eqv (pairD ns ns') (pairD ns ns') = true := by
  have n : nob (pairD ns ns') = true := by simp only [pairD, nob, nobAll, ns_nob, Bool.true_and]
  exact (eqv_iff n n).mpr rfl
theorem pair_is {K : PySem.W.Frag} {H : Hp} {t D D' : Addr} {M M' : Tr} {ns ns' : List Nt} (ht : tupQ K H t = some [.ref D, .ref D']) (hD : H D = some (.lst M.v)) (hD' : H D' = some (.lst M'.v)) (hM : TrayAt K H M) (hM' : TrayAt K H M') (e : M.ns = ns) (e' : M'.ns = ns') : Is K H (pairD ns ns') (.ref t) := by
  subst e e'
  simp only [pairD, Is, IsAll]
  refine ⟨t, _, rfl, tupQ_sq ht, _, _, rfl, ⟨D, _, rfl, SqL.of hD, ?_⟩, _, _, rfl, ⟨D', _, rfl, SqL.of hD', ?_⟩, rfl⟩
  · have h := tray_all hM
    rwa [ns_d] at h
  · have h := tray_all hM'
    rwa [ns_d] at h
def oD : Option Int → PyData
  | none => .none
  | some i => .int i
theorem oD_is {K : PySem.W.Frag} {H : Hp} (o : Option Int) : Is K H (oD o) (oV o) := by cases o <;> simp only [oD, oV, Is]
def twoD (o o' : Option Int) : PyData := .list [oD o, oD o']
theorem two_is {K : PySem.W.Frag} {H : Hp} {a : Addr} {o o' : Option Int} (h : H a = some (.lst [oV o, oV o'])) : Is K H (twoD o o') (.ref a) := by
  simp only [twoD, Is, IsAll]
  exact ⟨a, _, rfl, SqL.of h, _, _, rfl, oD_is o, _, _, rfl, oD_is o', rfl⟩
theorem two_shaped (o o' : Option Int) : SeqAt.shaped (twoD o o') = true := by cases o <;> cases o' <;> rfl
theorem two_same (o o' : Option Int) : PyData.eqv (twoD o o') (twoD o o') = true := by
  have n : nob (twoD o o') = true := by cases o <;> cases o' <;> rfl
  exact (eqv_iff n n).mpr rfl
theorem tray_notwell {K : PySem.W.Frag} {H : Hp} {i p : Addr} {M : Tr} {x y z : Int} (t : TrayAt K H M) (h : H i = some (.lst M.v)) (g : H p = some (L3 x y z)) : i ≠ p := by
  rintro rfl
  rw [g] at h
  have h1 : [V.int x, V.int y, V.int z] = M.v := by simpa [L3] using h
  cases M with
  | nil => cases h1
  | cons q M =>
    obtain ⟨⟨a, w, e, _⟩, _⟩ := t q (by simp)
    simp only [Tr.v, List.map_cons, List.cons.injEq] at h1
    rw [e] at h1
    cases h1.1
theorem tray_oks {K : PySem.W.Frag} {H : Hp} {L : Tr} (t : TrayAt K H L) : ∀ e ∈ L.ns, e.ok := fun e he => by
  obtain ⟨q, hq, rfl⟩ := List.mem_map.mp he
  exact (t q hq).2
theorem sc_law : FnScope ["_law_script", "_law_cell", "_law_well_here", "_law_base_here", "_law_tray_here", "_law_low", "_law_high", "_law_handed", "_law_told", "_law_inside", "_law_outside", "_law_note_here", "_law_key_here", "_law_due"] ["_law_script"] (defScope s_law) := ⟨rfl, rfl, rfl, by decide +kernel, rfl, by decide +kernel, by decide +kernel⟩
def spLaw (K : PySem.W.Frag) : Sp := fun vs H Q _ => ∃ (a : Addr) (ns : List Int), vs = [.ref a] ∧ SqL K H a (ns.map V.int) ∧ ns.length ≤ 63 ∧ Only H ∧ ∀ H', Q (.bl true) H'
theorem ok_law {f : Addr} {fd : FuncData} (F : Fun K "law" "law" s_law f fd) {aG : Addr} {tE : Tok} (B : B K mg aG tE)
    (C__law_well : Callee P w K mg base "_law_well" 1 ["_law_cell"] (spWell K))
    (C__law_draw : Callee P w K mg base "_law_draw" 1 ["_law_well_here", "_law_many"] (spDraw K))
    (C__law_base : Callee P w K mg base "_law_base" 2 ["_law_well_here"] (spBaseL K))
    (C__law_stretch : Callee P w K mg base "_law_stretch" 3 ["_law_well_here", "_law_base_here"] (spStretchL K))
    (C__law_tray : Callee P w K mg base "_law_tray" 5 ["_law_well_here", "_law_base_here", "_law_many"] (spTray K))
    (C__law_keys : Callee P w K mg base "_law_keys" 3 ["_law_well_here", "_law_base_here", "_law_tray_here"] (spKeysT K))
    (C__law_see : Callee P w K mg base "_law_see" 2 ["_law_tray_here", "_law_key_here", "_law_value", "_law_moment"] (spSeen K))
    (C__law_cut : Callee P w K mg base "_law_cut" 1 ["_law_note_here", "_law_low", "_law_high"] (spCutL K))
    (C_poured : Callee P w K mg base "poured" 3 ["tray", "low", "high"] (spPoured K))
    (CD_seen : CalleeD P w K mg base "seen" 3 ["tray", "key", "value", "at"] [.non] (spSeen K)) : FnOk P w K mg base CX0 6 f fd ["_law_script"] (spLaw K) := by
  refine F.okJ sc_law (fun vs H Q E h => ?_) (fun cdv A outer s H vs Q E hr h => ?_)
  · obtain ⟨a, ns, rfl, _⟩ := h
    rfl
  obtain ⟨a, ns, rfl, hS, h63, ho, q⟩ := h
  refine ⟨_, (bcons (sfor PassesOwn.never rfl (ilist (eop op_catQ (elstQ (acons ei (acons ei anil))) (eslice sl_listQ (ev 0) onone (osome ei)))) (gname (i := 1) sc_law.nd rfl (Or.inl rfl))
        (bcons (sset (i := 2) sc_law.nd rfl (Or.inl rfl) (ecall C__law_well (hr.mono (by decide)) rfl (acons (ev 1) anil)))
      (bcons (sset (i := 3) sc_law.nd rfl (Or.inl rfl) (ecall C__law_base (hr.mono (by decide)) rfl (acons (ev 2) anil)))
      (bcons (sset (i := 4) sc_law.nd rfl (Or.inl rfl) (ecall C__law_tray (hr.mono (by decide)) rfl (acons (ev 2) (acons (ev 3) (acons (ecall C__law_draw (hr.mono (by decide)) rfl (acons (ev 2) (acons ei anil))) anil)))))
      (bcons (sasg (ecall C__law_stretch (hr.mono (by decide)) rfl (acons (ev 2) (acons (ev 3) anil))) (gtupQ (n := 2) rfl (gcons (gname (i := 5) sc_law.nd rfl (Or.inl rfl)) (gcons (gname (i := 6) sc_law.nd rfl (Or.inl rfl)) gnil))))
      (bcons (sset (i := 7) sc_law.nd rfl (Or.inl rfl) (ecallTy call_list_ofQ rfl B.list bt_list (acons (ev 4) anil)))
      (bcons (sset (i := 8) sc_law.nd rfl (Or.inl rfl) (ecall C_poured (hr.mono (by decide)) rfl (acons (ev 7) (acons (ev 5) (acons (ev 6) anil)))))
      (bcons (sif (tw (wor (tnot (tval (ecallB call_isinstQ rfl B.isinstance bt_isinstance (acons (ev 8) (acons (etyp rfl B.tuple bt_tuple) anil))))) (wor (tcmp op_ne (ecallB call_lenQ rfl B.len bt_len (acons (ev 8) anil)) ei (nomark _)) (wor1 (tcmp (op_neD hr.units) (ev 7) (ev 4) (nomark _)))))) (bone (sret ebl)) bnil)
      (bcons (sset (i := 9) sc_law.nd rfl (Or.inl rfl) (elstQ anil))
      (bcons (sset (i := 10) sc_law.nd rfl (Or.inl rfl) (elstQ anil))
      (bcons (sfor PassesOwn.never rfl (ilist (ev 4)) (gname (i := 11) sc_law.nd rfl (Or.inl rfl))
        (bcons (sset (i := 9) sc_law.nd rfl (Or.inl rfl) (eop op_catQ (ev 9) (ecall C__law_cut (hr.mono (by decide)) rfl (acons (ev 11) (acons (ev 5) (acons (ev 6) anil))))))
      (bone (sset (i := 10) sc_law.nd rfl (Or.inl rfl) (eop op_catQ (eop op_catQ (ev 10) (ecall C__law_cut (hr.mono (by decide)) rfl (acons (ev 11) (acons ei (acons (ev 5) anil))))) (ecall C__law_cut (hr.mono (by decide)) rfl (acons (ev 11) (acons (ev 6) (acons (epowc 1000000000000) anil)))))))))
      (bcons (sif (tw (wor (tnot (tval (ecallB call_isinstQ rfl B.isinstance bt_isinstance (acons (eix ix_Q (ev 8) ei (fun _ _ => rfl)) (acons (etyp rfl B.list bt_list) anil))))) (wor (tnot (tval (ecallB call_isinstQ rfl B.isinstance bt_isinstance (acons (eix ix_Q (ev 8) ei (fun _ _ => rfl)) (acons (etyp rfl B.list bt_list) anil))))) (wor1 (tcmp (op_neD hr.units) (ev 8) (etupQ (acons (ev 9) (acons (ev 10) anil))) (nomark _)))))) (bone (sret ebl)) bnil)
      (bcons (sfor PassesOwn.never rfl (ilist (ecall C__law_keys (hr.mono (by decide)) rfl (acons (ev 2) (acons (ev 3) (acons (eop op_catQ (ev 4) (elstQ (acons (etupQ (acons ei (acons (ev 5) (acons (ev 6) (acons enon anil))))) anil))) anil))))) (gname (i := 12) sc_law.nd rfl (Or.inl rfl))
        (bcons (sset (i := 13) sc_law.nd rfl (Or.inl rfl) (elstQ (acons ei (acons ei anil))))
      (bcons (sasg (ecall C__law_see (hr.mono (by decide)) rfl (acons (ev 4) (acons (ev 12) (acons ei (acons enon anil))))) (gsub (ev 13) (ecallTy call_intB rfl B.int bt_int (acons (enot (echain op_le op_lt (ev 5) (ev 12) (ev 6))) anil)) set_list))
      (bone (sif (tcmp (op_neD hr.units) (elstQ (acons (ecallD CD_seen (hr.mono (by decide)) rfl (acons (eix ix_Q (ev 8) ei (fun _ _ => rfl)) (acons (ev 12) (acons ei anil)))) (acons (ecallD CD_seen (hr.mono (by decide)) rfl (acons (eix ix_Q (ev 8) ei (fun _ _ => rfl)) (acons (ev 12) (acons ei anil)))) anil))) (ev 13) (nomark _)) (bone (sret ebl)) bnil)))))
      (bcons (sif (tw (wor (tcmp (op_neD hr.units) (ecall C_poured (hr.mono (by decide)) rfl (acons (eix ix_Q (ev 8) ei (fun _ _ => rfl)) (acons (ev 5) (acons (ev 6) anil)))) (etupQ (acons (elstQ anil) (acons (ev 10) anil))) (nomark _)) (wor1 (tcmp (op_neD hr.units) (ecall C_poured (hr.mono (by decide)) rfl (acons (eix ix_Q (ev 8) ei (fun _ _ => rfl)) (acons (ev 5) (acons (ev 6) anil)))) (etupQ (acons (ev 9) (acons (elstQ anil) anil))) (nomark _))))) (bone (sret ebl)) bnil)
      (bcons (sexpr (ebm0 PySem.F.plainAttrs_list PySem.F.slot_list_clear PySem.F.type_list_clear mt_clear (eix ix_Q (ev 8) ei (fun _ _ => rfl))))
      (bcons (sexpr (ebm PySem.F.plainAttrs_list PySem.F.slot_list_append PySem.F.type_list_append mt_append (eix ix_Q (ev 8) ei (fun _ _ => rfl)) (acons enon anil)))
      (bone (sif (tcmp (op_neD hr.units) (ev 7) (ev 4) (nomark _)) (bone (sret ebl)) bnil))))))))))))))))))
      (bone (sret ebl))), ?_⟩
  try walk_at "rn"
  intro b0 n0
  refine ⟨_, (Ext.new n0).same.seq hS, fun b1 n1 => ⟨_, (Ext.new n1).at upd_same, ?_, fun b2 n2 => ⟨⟨_, SqL.of upd_same⟩, ?_⟩⟩⟩
  · have z1 := cutV_length (ns.map V.int) none (some 10)
    rw [List.length_map] at z1
    simp only [List.length_cons, List.length_nil]
    omega
  have xG : Ext K H (upd (upd (upd H b0 (.lst [.int 0, .int 3])) b1 (.lst (cutV (ns.map V.int) none (some 10)))) b2 (.lst ([V.int 0, V.int 3] ++ cutV (ns.map V.int) none (some 10)))) := (Ext.new n0).trans ((Ext.new n1).trans (Ext.new n2))
  have eG : (upd (upd (upd H b0 (.lst [.int 0, .int 3])) b1 (.lst (cutV (ns.map V.int) none (some 10)))) b2 (.lst ([V.int 0, V.int 3] ++ cutV (ns.map V.int) none (some 10)))) b2 = some (.lst ([V.int 0, V.int 3] ++ cutV (ns.map V.int) none (some 10))) := upd_same
  generalize (upd (upd (upd H b0 (.lst [.int 0, .int 3])) b1 (.lst (cutV (ns.map V.int) none (some 10)))) b2 (.lst ([V.int 0, V.int 3] ++ cutV (ns.map V.int) none (some 10)))) = G at xG eG ⊢
  have allI : ∀ x ∈ ([V.int 0, V.int 3] ++ cutV (ns.map V.int) none (some 10) : List V), ∃ c : Int, x = .int c := by
    intro x hx
    rcases List.mem_append.mp hx with hx | h
    · simp only [List.mem_cons, List.not_mem_nil, or_false] at hx
      rcases hx with rfl | rfl <;> exact ⟨_, rfl⟩
    · obtain ⟨c, _, rfl⟩ := List.mem_map.mp (List.mem_of_mem_drop (List.mem_of_mem_take h))
      exact ⟨c, rfl⟩
  obtain ⟨Pv, eP⟩ : ∃ Pv : Nat → St → Hp → Prop, Pv = fun i σ H2 => ∃ r : St, r.length = 13 ∧ σ = some (.ref a) :: r ∧ Ext K G H2 := ⟨_, rfl⟩
  refine loop_list (xs := [V.int 0, V.int 3] ++ cutV (ns.map V.int) none (some 10)) Pv ?_ ?_ ?_ ?_
  · rw [eP]
    exact ⟨_, rfl, rfl, Ext.refl⟩
  · intro i σ H2 _ h
    rw [eP] at h
    obtain ⟨_, _, _, x⟩ := h
    exact SqL.of (x.at eG)
  · intro i x σ H0 hi h
    rw [eP] at h
    obtain ⟨r, hr1, rfl, x0⟩ := h
    obtain ⟨v1, v2, v3, v4, v5, v6, v7, v8, v9, v10, v11, v12, v13, rfl⟩ : ∃ v1 v2 v3 v4 v5 v6 v7 v8 v9 v10 v11 v12 v13, r = [v1, v2, v3, v4, v5, v6, v7, v8, v9, v10, v11, v12, v13] := by
      match r, hr1 with
      | [v1, v2, v3, v4, v5, v6, v7, v8, v9, v10, v11, v12, v13], _ => exact ⟨v1, v2, v3, v4, v5, v6, v7, v8, v9, v10, v11, v12, v13, rfl⟩
    obtain ⟨c, rfl⟩ := allI x (List.mem_of_getElem? hi)
    try walk_at "rn"
    refine ⟨c, rfl, fun p xw yw zw np => ?_⟩
    try walk_at "rn"
    refine ⟨p, _, _, _, rfl, upd_same, fun b x y z H2 hb0 hb1 g2 k2 => ?_⟩
    try walk_at "rn"
    refine ⟨p, _, _, _, 12, rfl, g2, by decide, by omega, fun m x y z H3 m0 m1 g3 k3 => ?_⟩
    try walk_at "rn"
    refine ⟨p, _, _, _, b, m, rfl, g3, hb0, hb1, m0, by omega, fun r L x y z H4 hr4 hT4 hz4 nr4 g4 k4 => ?_⟩
    try walk_at "rn"
    refine ⟨p, _, _, _, b, rfl, g4, hb0, hb1, fun sa lo hi x y z H5 es l0 lh h1 g5 k5 => ?_⟩
    have hr5 := k5.keep r _ hr4 nr4
    have hT5 := hT4.kp k5 g4
    have x05 : Ext K H0 H5 := (k2.trans (k3.trans (k4.trans k5))).ext np
    clear hr4 hT4 g4 k5 k4 k3 k2 g2 g3
    simp only [tSeq, tNext, tIfS, tAsg, gName, gSub, tRet, tRetN, tDrop, tVar, tC, tOp, tUn, rI0, rI, rU, tTest, tB, tAndV, tOrV, tNotV, tAnd, tOr, tNot, tIf, tChain, tCB, tCons, tNil, tLst, tTup, tCallC, List.getElem?_cons_zero, List.getElem?_cons_succ, List.set_cons_zero, List.set_cons_succ, Option.some.injEq, V.int.injEq, V.bl.injEq, V.ref.injEq, V.ty.injEq, V.str.injEq, List.cons.injEq, exists_eq_left', exists_eq_left, exists_and_left, and_true, true_and, and_assoc, cxK, rIxF, rSetL, rEq, rNe, scal, HO.lst.injEq, HO.tup.injEq, upd_none, ixN_10, ixN_20, ixN_21, ixN_30, ixN_31, ixN_32, upd_same, seqAt_updL, seqAt_updT, atI_0, atI_1, atI_2, atI_3, decide_eq_true_eq, L2.start, List.map_cons, List.map_nil, List.length_cons, List.length_nil, Nat.reduceAdd, Nat.reduceSub, List.replicate_succ, List.replicate_zero, List.cons_append, List.nil_append, List.append_nil, tFor_rng1, tFor_rng2, tFor_list, tFor_tup, CDv, CMul, CPow, sizeLine_eq, Int.reduceLE, Int.reduceLT, Int.reducePow, Int.reduceToNat, Int.reduceAdd, Int.reduceSub, Int.reduceMul, Int.reduceNeg, Nat.reduceLeDiff, Nat.reducePow, Nat.reduceLT, Int.reduceEq, true_or, or_true, ite_true, ite_false, if_true, if_false, Bool.not_true, Bool.not_false, Bool.false_eq_true, decide_true, decide_false, rIxQ, seqQ_updL, seqQ_updT, tupQ_updT, tSl, tNoPart, tPart, rSlQ, rSlTQ, rCatQ, tTupQ, tLstQ, tNever, rEqD, rInQ, gTupQ, gCons, gNil, tBM, tBM0, rAppend, rClear, tFor_rng3, tLc_rng1, tLc_rng2, tLc_list, tLc_tup, pick_nil, pick_own, pick_cap, join_some, tYes, gSlice, tCallKC, gk_11, gk_31, tLc2_list, bodyL_tup, bodyL_list, bodyE_eq, es]
    rw [seqQ_lst hr5]
    refine ⟨_, rfl, fun b6 n6 => ?_⟩
    have x6 := Ext.new (K := K) (o := .lst (Tr.v L)) n6
    have e6 : (upd H5 b6 (.lst (Tr.v L))) b6 = some (.lst (Tr.v L)) := upd_same
    have np6 : b6 ≠ p := (ne_of_none g5 n6.1).symm
    refine ⟨b6, L, lo, hi, rfl, e6, hT5.ext x6, by omega, fun t D D' M M' H7 nD nD' nDD ht hD hD' hM hM' eM eM' lM lM' x7 => ?_⟩
    have hb7 := x7.at e6
    have x57 := x6.trans x7
    have hr7 := x57.at hr5
    have hT7 := hT5.ext x57
    have g7 := x57.at g5
    have x07 := x05.trans x57
    have nDr : D ≠ r := (ne_of_none (x6.at hr5) nD).symm
    have nDr' : D' ≠ r := (ne_of_none (x6.at hr5) nD').symm
    have nDb : D ≠ b6 := (ne_of_none e6 nD).symm
    have nDb' : D' ≠ b6 := (ne_of_none e6 nD').symm
    have nDp : D ≠ p := (ne_of_none (x6.at g5) nD).symm
    have nDp' : D' ≠ p := (ne_of_none (x6.at g5) nD').symm
    have nD0 : H0 D = none := (x05.trans x6).was nD
    have nD0' : H0 D' = none := (x05.trans x6).was nD'
    clear nD nD' x6 x7 e6 hr5 hT5 g5 x57 x05
    try walk_at "rn"
    refine ⟨_, TyQ.tup ht, true, rfl, ?_⟩
    simp only [tSeq, tNext, tIfS, tAsg, gName, gSub, tRet, tRetN, tDrop, tVar, tC, tOp, tUn, rI0, rI, rU, tTest, tB, tAndV, tOrV, tNotV, tAnd, tOr, tNot, tIf, tChain, tCB, tCons, tNil, tLst, tTup, tCallC, List.getElem?_cons_zero, List.getElem?_cons_succ, List.set_cons_zero, List.set_cons_succ, Option.some.injEq, V.int.injEq, V.bl.injEq, V.ref.injEq, V.ty.injEq, V.str.injEq, List.cons.injEq, exists_eq_left', exists_eq_left, exists_and_left, and_true, true_and, and_assoc, cxK, rIxF, rSetL, rEq, rNe, scal, HO.lst.injEq, HO.tup.injEq, upd_none, ixN_10, ixN_20, ixN_21, ixN_30, ixN_31, ixN_32, upd_same, seqAt_updL, seqAt_updT, atI_0, atI_1, atI_2, atI_3, decide_eq_true_eq, L2.start, List.map_cons, List.map_nil, List.length_cons, List.length_nil, Nat.reduceAdd, Nat.reduceSub, List.replicate_succ, List.replicate_zero, List.cons_append, List.nil_append, List.append_nil, tFor_rng1, tFor_rng2, tFor_list, tFor_tup, CDv, CMul, CPow, sizeLine_eq, Int.reduceLE, Int.reduceLT, Int.reducePow, Int.reduceToNat, Int.reduceAdd, Int.reduceSub, Int.reduceMul, Int.reduceNeg, Nat.reduceLeDiff, Nat.reducePow, Nat.reduceLT, Int.reduceEq, true_or, or_true, ite_true, ite_false, if_true, if_false, Bool.not_true, Bool.not_false, Bool.false_eq_true, decide_true, decide_false, rIxQ, seqQ_updL, seqQ_updT, tupQ_updT, tSl, tNoPart, tPart, rSlQ, rSlTQ, rCatQ, tTupQ, tLstQ, tNever, rEqD, rInQ, gTupQ, gCons, gNil, tBM, tBM0, rAppend, rClear, tFor_rng3, tLc_rng1, tLc_rng2, tLc_list, tLc_tup, pick_nil, pick_own, pick_cap, join_some, tYes, gSlice, tCallKC, gk_11, gk_31, tLc2_list, bodyL_tup, bodyL_list, bodyE_eq, seqQ_T ht]
    refine ⟨_, tray_is hb7 hT7, _, tray_is hr7 hT7, tray_shaped L, tray_shaped L, ?_⟩
    rw [tray_same]
    try walk_at "rn"
    intro i1 m1 i2 m2
    have x8 := (Ext.new (K := K) (o := .lst []) m1).trans (Ext.new (K := K) (o := .lst []) m2)
    have hI8 : (upd (upd H7 i1 (.lst [])) i2 (.lst [])) i1 = some (.lst []) := (Ext.new m2).at upd_same
    have hO8 : (upd (upd H7 i1 (.lst [])) i2 (.lst [])) i2 = some (.lst []) := upd_same
    generalize upd (upd H7 i1 (.lst [])) i2 (.lst []) = H8 at x8 hI8 hO8 ⊢
    refine ⟨⟨_, SqL.of (x8.at hr7)⟩, ?_⟩
    have hT8 := hT7.ext x8
    obtain ⟨PI, eI⟩ : ∃ Pv : Nat → St → Hp → Prop, Pv = fun j σ' H' => ∃ (iI iO : Addr) (MI MO : Tr) (v11 : Option V), σ' = [some (.ref a), some (.int c), some (.ref p), some (.int b), some (.ref r), some (.int lo), some (.int hi), some (.ref b6), some (.ref t), some (.ref iI), some (.ref iO), v11, v12, v13] ∧ H' iI = some (.lst MI.v) ∧ H' iO = some (.lst MO.v) ∧ TrayAt K H' MI ∧ TrayAt K H' MO ∧ MI.ns = inF (Tr.ns (L.take j)) lo hi ∧ MO.ns = outF (Tr.ns (L.take j)) lo hi ∧ Ext K H8 H' := ⟨_, rfl⟩
    refine loop_list (xs := Tr.v L) PI ?_ ?_ ?_ ?_
    · rw [eI]
      exact ⟨i1, i2, [], [], _, rfl, hI8, hO8, (fun q hq => nomatch hq), (fun q hq => nomatch hq), rfl, rfl, Ext.refl⟩
    · intro j σ' H' _ h
      rw [eI] at h
      obtain ⟨_, _, _, _, _, _, _, _, _, _, _, _, x⟩ := h
      exact SqL.of (x.at (x8.at hr7))
    · intro j u σ' H9 hj h
      rw [eI] at h
      obtain ⟨iI, iO, MI, MO, v11, rfl, hI, hO, tI, tO, eI1, eO1, x9⟩ := h
      rw [List.getElem?_map] at hj
      obtain ⟨qn, eq, rfl⟩ := Option.map_eq_some_iff.mp hj
      have hjl : j < L.length := (List.getElem?_eq_some_iff.mp eq).1
      have hN := (hT8.ext x9) qn (List.mem_of_getElem? eq)
      have et : Tr.ns (L.take (j + 1)) = Tr.ns (L.take j) ++ [qn.2] := by rw [List.take_add_one, eq, Option.toList_some, Tr.ns, List.map_append]; rfl
      have lj : (Tr.ns (L.take j)).length ≤ 20 := by rw [Tr.ns, List.length_map, List.length_take]; omega
      have lI : MI.length ≤ 20 := by rw [ns_len eI1]; exact Nat.le_trans (in_len _ _ _) lj
      have lO : MO.length ≤ 40 := by rw [ns_len eO1]; exact Nat.le_trans (out_len _ _ _) (by omega)
      try walk_at "rn"
      refine ⟨_, _, lo, hi, rfl, hN.1, hN.2, fun D1 M1 H10 hD1 hM1 eM1 x10 => ?_⟩
      have l1 : M1.length ≤ 1 := by rw [ns_len eM1]; cases cutO qn.2 lo hi <;> simp
      try walk_at "rn"
      refine ⟨_, x10.at hI, _, hD1, by rw [List.length_map, List.length_map]; omega, fun b11 n11 => ?_⟩
      have x11 := Ext.new (K := K) (o := .lst (Tr.v MI ++ Tr.v M1)) n11
      have x911 := x10.trans x11
      refine ⟨_, _, 0, lo, rfl, hN.1.ext x911, hN.2, fun D2 M2 H12 hD2 hM2 eM2 x12 => ?_⟩
      have l2 : M2.length ≤ 1 := by rw [ns_len eM2]; cases cutO qn.2 0 lo <;> simp
      have x912 := x911.trans x12
      try walk_at "rn"
      refine ⟨_, x912.at hO, _, hD2, by rw [List.length_map, List.length_map]; omega, fun b13 n13 => ?_⟩
      have x13 := Ext.new (K := K) (o := .lst (Tr.v MO ++ Tr.v M2)) n13
      have x913 := x912.trans x13
      refine ⟨_, _, hi, 1000000000000, rfl, hN.1.ext x913, hN.2, fun D3 M3 H14 hD3 hM3 eM3 x14 => ?_⟩
      have l3 : M3.length ≤ 1 := by rw [ns_len eM3]; cases cutO qn.2 hi 1000000000000 <;> simp
      try walk_at "rn"
      refine ⟨_, x14.at upd_same, _, hD3, by rw [List.length_append, List.length_map, List.length_map, List.length_map]; omega, fun b15 n15 => ?_⟩
      have x15 := Ext.new (K := K) (o := .lst (Tr.v MO ++ Tr.v M2 ++ Tr.v M3)) n15
      have x1315 := x13.trans (x14.trans x15)
      have x1115 := x11.trans (x12.trans x1315)
      rw [eI]
      refine ⟨b11, b15, MI ++ M1, MO ++ M2 ++ M3, _, rfl, ?_, ?_, ?_, ?_, ?_, ?_, x9.trans (x10.trans x1115)⟩
      · rw [(x12.trans x1315).at upd_same]; simp [Tr.v]
      · rw [upd_same]; simp [Tr.v]
      · exact TrayAt.app (tI.ext (x10.trans x1115)) (hM1.ext x1115)
      · exact TrayAt.app (TrayAt.app (tO.ext (x10.trans x1115)) (hM2.ext x1315)) (hM3.ext x15)
      · rw [et, in_snoc, ← eI1, ← eM1, Tr.ns, Tr.ns, Tr.ns, List.map_append]
      · rw [et, out_snoc, ← eO1, ← eM2, ← eM3, Tr.ns, Tr.ns, Tr.ns, Tr.ns, List.map_append, List.map_append]
    intro σ' H9 h
    rw [eI] at h
    clear eI
    obtain ⟨iI, iO, MI, MO, v11, rfl, hI, hO, tI, tO, eI1, eO1, x9⟩ := h
    rw [List.length_map, List.take_length] at eI1 eO1
    have x79 := x8.trans x9
    simp only [tSeq, tNext, tIfS, tAsg, gName, gSub, tRet, tRetN, tDrop, tVar, tC, tOp, tUn, rI0, rI, rU, tTest, tB, tAndV, tOrV, tNotV, tAnd, tOr, tNot, tIf, tChain, tCB, tCons, tNil, tLst, tTup, tCallC, List.getElem?_cons_zero, List.getElem?_cons_succ, List.set_cons_zero, List.set_cons_succ, Option.some.injEq, V.int.injEq, V.bl.injEq, V.ref.injEq, V.ty.injEq, V.str.injEq, List.cons.injEq, exists_eq_left', exists_eq_left, exists_and_left, and_true, true_and, and_assoc, cxK, rIxF, rSetL, rEq, rNe, scal, HO.lst.injEq, HO.tup.injEq, upd_none, ixN_10, ixN_20, ixN_21, ixN_30, ixN_31, ixN_32, upd_same, seqAt_updL, seqAt_updT, atI_0, atI_1, atI_2, atI_3, decide_eq_true_eq, L2.start, List.map_cons, List.map_nil, List.length_cons, List.length_nil, Nat.reduceAdd, Nat.reduceSub, List.replicate_succ, List.replicate_zero, List.cons_append, List.nil_append, List.append_nil, tFor_rng1, tFor_rng2, tFor_list, tFor_tup, CDv, CMul, CPow, sizeLine_eq, Int.reduceLE, Int.reduceLT, Int.reducePow, Int.reduceToNat, Int.reduceAdd, Int.reduceSub, Int.reduceMul, Int.reduceNeg, Nat.reduceLeDiff, Nat.reducePow, Nat.reduceLT, Int.reduceEq, true_or, or_true, ite_true, ite_false, if_true, if_false, Bool.not_true, Bool.not_false, Bool.false_eq_true, decide_true, decide_false, rIxQ, seqQ_updL, seqQ_updT, tupQ_updT, tSl, tNoPart, tPart, rSlQ, rSlTQ, rCatQ, tTupQ, tLstQ, tNever, rEqD, rInQ, gTupQ, gCons, gNil, tBM, tBM0, rAppend, rClear, tFor_rng3, tLc_rng1, tLc_rng2, tLc_list, tLc_tup, pick_nil, pick_own, pick_cap, join_some, tYes, gSlice, tCallKC, gk_11, gk_31, tLc2_list, bodyL_tup, bodyL_list, bodyE_eq, seqQ_T (x79.tup ht)]
    refine ⟨_, .inl (.lst (x79.at hD)), true, rfl, ?_⟩
    simp only [tSeq, tNext, tIfS, tAsg, gName, gSub, tRet, tRetN, tDrop, tVar, tC, tOp, tUn, rI0, rI, rU, tTest, tB, tAndV, tOrV, tNotV, tAnd, tOr, tNot, tIf, tChain, tCB, tCons, tNil, tLst, tTup, tCallC, List.getElem?_cons_zero, List.getElem?_cons_succ, List.set_cons_zero, List.set_cons_succ, Option.some.injEq, V.int.injEq, V.bl.injEq, V.ref.injEq, V.ty.injEq, V.str.injEq, List.cons.injEq, exists_eq_left', exists_eq_left, exists_and_left, and_true, true_and, and_assoc, cxK, rIxF, rSetL, rEq, rNe, scal, HO.lst.injEq, HO.tup.injEq, upd_none, ixN_10, ixN_20, ixN_21, ixN_30, ixN_31, ixN_32, upd_same, seqAt_updL, seqAt_updT, atI_0, atI_1, atI_2, atI_3, decide_eq_true_eq, L2.start, List.map_cons, List.map_nil, List.length_cons, List.length_nil, Nat.reduceAdd, Nat.reduceSub, List.replicate_succ, List.replicate_zero, List.cons_append, List.nil_append, List.append_nil, tFor_rng1, tFor_rng2, tFor_list, tFor_tup, CDv, CMul, CPow, sizeLine_eq, Int.reduceLE, Int.reduceLT, Int.reducePow, Int.reduceToNat, Int.reduceAdd, Int.reduceSub, Int.reduceMul, Int.reduceNeg, Nat.reduceLeDiff, Nat.reducePow, Nat.reduceLT, Int.reduceEq, true_or, or_true, ite_true, ite_false, if_true, if_false, Bool.not_true, Bool.not_false, Bool.false_eq_true, decide_true, decide_false, rIxQ, seqQ_updL, seqQ_updT, tupQ_updT, tSl, tNoPart, tPart, rSlQ, rSlTQ, rCatQ, tTupQ, tLstQ, tNever, rEqD, rInQ, gTupQ, gCons, gNil, tBM, tBM0, rAppend, rClear, tFor_rng3, tLc_rng1, tLc_rng2, tLc_list, tLc_tup, pick_nil, pick_own, pick_cap, join_some, tYes, gSlice, tCallKC, gk_11, gk_31, tLc2_list, bodyL_tup, bodyL_list, bodyE_eq, seqQ_T (x79.tup ht)]
    refine ⟨_, .inl (.lst (x79.at hD')), true, rfl, ?_⟩
    try walk_at "rn"
    intro t2 nt2
    have x10 := Ext.new (K := K) (o := .tup [.ref iI, .ref iO]) nt2
    have x710 := x79.trans x10
    refine ⟨_, pair_is (x710.tup ht) (x710.at hD) (x710.at hD') (hM.ext x710) (hM'.ext x710) eM eM', _, pair_is tupQ_updT (x10.at hI) (x10.at hO) (tI.ext x10) (tO.ext x10) eI1 eO1, pair_shaped _ _, pair_shaped _ _, ?_⟩
    rw [pair_same]
    try walk_at "rn"
    intro b11 n11 b12 n12
    have hI10 := x10.at hI
    have hO10 := x10.at hO
    have tI10 := tI.ext x10
    have tO10 := tO.ext x10
    generalize upd H9 t2 (.tup [.ref iI, .ref iO]) = H10 at *
    have y11 := Ext.new (K := K) (o := .tup [.int 0, .int lo, .int hi, .non]) n11
    have y12 := Ext.new (K := K) (o := .lst [.ref b11]) n12
    have y1 := y11.trans y12
    have tO11 : tupQ K (upd (upd H10 b11 (.tup [.int 0, .int lo, .int hi, .non])) b12 (.lst [.ref b11])) b11 = some [.int 0, .int lo, .int hi, .non] := y12.tup tupQ_updT
    refine ⟨_, (x710.trans y1).at hr7, by rw [List.length_map]; omega, fun b13 n13 => ?_⟩
    have y13 := Ext.new (K := K) (o := .lst (Tr.v L ++ [.ref b11])) n13
    have e13 : (upd (upd (upd H10 b11 (.tup [.int 0, .int lo, .int hi, .non])) b12 (.lst [.ref b11])) b13 (.lst (Tr.v L ++ [.ref b11]))) b13 = some (.lst (Tr.v L ++ [.ref b11])) := upd_same
    have tO13 := y13.tup tO11
    have x713 := x710.trans (y1.trans y13)
    have y1013 := y1.trans y13
    have n13p : b13 ≠ p := (ne_of_none ((x710.trans y1).at g7) n13.1).symm
    generalize upd (upd (upd H10 b11 (.tup [.int 0, .int lo, .int hi, .non])) b12 (.lst [.ref b11])) b13 (.lst (Tr.v L ++ [.ref b11])) = H11 at e13 tO13 x713 y1013 ⊢
    refine ⟨p, _, _, _, b, b13, L ++ [(.ref b11, ⟨0, lo, hi, .gone, .gone⟩)], rfl, x713.at g7, hb0, hb1, ?_, ?_, n13p, ?_, fun kr ks x y z H12 hk12 kk kl nk g12 k12 => ?_⟩
    · rw [e13]; simp [Tr.v]
    · refine RawTr.app (hT7.ext x713).raw fun q hq => ?_
      have eq : q = (.ref b11, ⟨0, lo, hi, .gone, .gone⟩) := by simpa using hq
      rw [eq]
      exact ⟨⟨b11, .non, rfl, tO13⟩, l0, lh⟩
    · rw [List.length_append]; simp only [List.length_cons, List.length_nil]; omega
    have hp11 := x713.at g7
    have hr12 := k12.keep r _ (x713.at hr7) nr4
    have hT12 := (hT7.ext x713).kp k12 hp11
    have hb12 := k12.keep b6 _ (x713.at hb7) np6
    have hD12 := k12.keep D _ (x713.at hD) nDp
    have hD12' := k12.keep D' _ (x713.at hD') nDp'
    have hM12 := (hM.ext x713).kp k12 hp11
    have hM12' := (hM'.ext x713).kp k12 hp11
    have ht12 := k12.tup hp11 (x713.tup ht)
    have hI12 := k12.keep iI _ (y1013.at hI10) (tray_notwell tI10 hI10 (x710.at g7))
    have hO12 := k12.keep iO _ (y1013.at hO10) (tray_notwell tO10 hO10 (x710.at g7))
    have tI12 := (tI10.ext y1013).kp k12 hp11
    have tO12 := (tO10.ext y1013).kp k12 hp11
    have x012 := (x07.trans x713).thenKp np.1 k12
    try walk_at "rn"
    refine ⟨⟨_, SqL.of hk12⟩, ?_⟩
    obtain ⟨PK, eK⟩ : ∃ Pv : Nat → St → Hp → Prop, Pv = fun j σ' H' => ∃ (v12 v13 : Option V), σ' = [some (.ref a), some (.int c), some (.ref p), some (.int b), some (.ref r), some (.int lo), some (.int hi), some (.ref b6), some (.ref t), some (.ref iI), some (.ref iO), v11, v12, v13] ∧ Ext K H12 H' := ⟨_, rfl⟩
    refine loop_list (xs := ks.map V.int) PK ?_ ?_ ?_ ?_
    · rw [eK]
      exact ⟨_, _, rfl, Ext.refl⟩
    · intro j σ' H' _ h
      rw [eK] at h
      obtain ⟨_, _, _, x⟩ := h
      exact SqL.of (x.at hk12)
    · intro j u σ' H13 hj h
      rw [eK] at h
      obtain ⟨v12, v13, rfl, x13⟩ := h
      obtain ⟨key, _, rfl⟩ := List.mem_map.mp (List.mem_of_getElem? hj)
      try walk_at "rn"
      intro bd nd
      have z1 := x13.trans (Ext.new (K := K) (o := .lst [.int 5, .int 5]) nd)
      refine ⟨r, L, key, some 5, none, rfl, z1.at hr12, hT12.ext z1, by omega, fun H14 x14 => ?_⟩
      have hbd := x14.at (upd_same (H := H13) (a := bd) (o := .lst [.int 5, .int 5]))
      have z14 := z1.trans x14
      try walk_at "rn"
      refine ite2 (fun c1 => ?_) (fun c1 => ?_)
      · by_cases c2 : key < hi
        · refine ⟨_, hbd, 0, by rw [decide_eq_true c2]; rfl, ?_⟩
          have c3 : lo ≤ key ∧ key < hi := ⟨c1, c2⟩
          have kD : Kp K bd H14 (upd H14 bd (.lst [oV (seeF L key none (some 5)), .int 5])) := Kp.upd hbd
          simp only [tSeq, tNext, tIfS, tAsg, gName, gSub, tRet, tRetN, tDrop, tVar, tC, tOp, tUn, rI0, rI, rU, tTest, tB, tAndV, tOrV, tNotV, tAnd, tOr, tNot, tIf, tChain, tCB, tCons, tNil, tLst, tTup, tCallC, List.getElem?_cons_zero, List.getElem?_cons_succ, List.set_cons_zero, List.set_cons_succ, Option.some.injEq, V.int.injEq, V.bl.injEq, V.ref.injEq, V.ty.injEq, V.str.injEq, List.cons.injEq, exists_eq_left', exists_eq_left, exists_and_left, and_true, true_and, and_assoc, cxK, rIxF, rSetL, rEq, rNe, scal, HO.lst.injEq, HO.tup.injEq, upd_none, ixN_10, ixN_20, ixN_21, ixN_30, ixN_31, ixN_32, upd_same, seqAt_updL, seqAt_updT, atI_0, atI_1, atI_2, atI_3, decide_eq_true_eq, L2.start, List.map_cons, List.map_nil, List.length_cons, List.length_nil, Nat.reduceAdd, Nat.reduceSub, List.replicate_succ, List.replicate_zero, List.cons_append, List.nil_append, List.append_nil, tFor_rng1, tFor_rng2, tFor_list, tFor_tup, CDv, CMul, CPow, sizeLine_eq, Int.reduceLE, Int.reduceLT, Int.reducePow, Int.reduceToNat, Int.reduceAdd, Int.reduceSub, Int.reduceMul, Int.reduceNeg, Nat.reduceLeDiff, Nat.reducePow, Nat.reduceLT, Int.reduceEq, true_or, or_true, ite_true, ite_false, if_true, if_false, Bool.not_true, Bool.not_false, Bool.false_eq_true, decide_true, decide_false, rIxQ, seqQ_updL, seqQ_updT, tupQ_updT, tSl, tNoPart, tPart, rSlQ, rSlTQ, rCatQ, tTupQ, tLstQ, tNever, rEqD, rInQ, gTupQ, gCons, gNil, tBM, tBM0, rAppend, rClear, tFor_rng3, tLc_rng1, tLc_rng2, tLc_list, tLc_tup, pick_nil, pick_own, pick_cap, join_some, tYes, gSlice, tCallKC, gk_11, gk_31, tLc2_list, bodyL_tup, bodyL_list, bodyE_eq, seqQ_T (kD.tup hbd (z14.tup ht12))]
          refine ⟨D, M, key, some 5, none, rfl, kD.keep D _ (z14.at hD12) (ne_of_none (x13.at hD12) nd.1), (hM12.ext z14).kp kD hbd, by omega, fun H15 x15 => ?_⟩
          simp only [tSeq, tNext, tIfS, tAsg, gName, gSub, tRet, tRetN, tDrop, tVar, tC, tOp, tUn, rI0, rI, rU, tTest, tB, tAndV, tOrV, tNotV, tAnd, tOr, tNot, tIf, tChain, tCB, tCons, tNil, tLst, tTup, tCallC, List.getElem?_cons_zero, List.getElem?_cons_succ, List.set_cons_zero, List.set_cons_succ, Option.some.injEq, V.int.injEq, V.bl.injEq, V.ref.injEq, V.ty.injEq, V.str.injEq, List.cons.injEq, exists_eq_left', exists_eq_left, exists_and_left, and_true, true_and, and_assoc, cxK, rIxF, rSetL, rEq, rNe, scal, HO.lst.injEq, HO.tup.injEq, upd_none, ixN_10, ixN_20, ixN_21, ixN_30, ixN_31, ixN_32, upd_same, seqAt_updL, seqAt_updT, atI_0, atI_1, atI_2, atI_3, decide_eq_true_eq, L2.start, List.map_cons, List.map_nil, List.length_cons, List.length_nil, Nat.reduceAdd, Nat.reduceSub, List.replicate_succ, List.replicate_zero, List.cons_append, List.nil_append, List.append_nil, tFor_rng1, tFor_rng2, tFor_list, tFor_tup, CDv, CMul, CPow, sizeLine_eq, Int.reduceLE, Int.reduceLT, Int.reducePow, Int.reduceToNat, Int.reduceAdd, Int.reduceSub, Int.reduceMul, Int.reduceNeg, Nat.reduceLeDiff, Nat.reducePow, Nat.reduceLT, Int.reduceEq, true_or, or_true, ite_true, ite_false, if_true, if_false, Bool.not_true, Bool.not_false, Bool.false_eq_true, decide_true, decide_false, rIxQ, seqQ_updL, seqQ_updT, tupQ_updT, tSl, tNoPart, tPart, rSlQ, rSlTQ, rCatQ, tTupQ, tLstQ, tNever, rEqD, rInQ, gTupQ, gCons, gNil, tBM, tBM0, rAppend, rClear, tFor_rng3, tLc_rng1, tLc_rng2, tLc_list, tLc_tup, pick_nil, pick_own, pick_cap, join_some, tYes, gSlice, tCallKC, gk_11, gk_31, tLc2_list, bodyL_tup, bodyL_list, bodyE_eq, seqQ_T (x15.tup (kD.tup hbd (z14.tup ht12)))]
          refine ⟨D', M', key, some 5, none, rfl, x15.at (kD.keep D' _ (z14.at hD12') (ne_of_none (x13.at hD12') nd.1)), ((hM12'.ext z14).kp kD hbd).ext x15, by omega, fun H16 x16 => ?_⟩
          try walk_at "rn"
          rw [seeF_ns M, seeF_ns M', eM, eM', see_in, see_out _ (tray_oks hT7) lh, if_pos c3, if_pos c3, ← seeF_ns L]
          intro b17 n17
          have yy := x15.trans (x16.trans (Ext.new (K := K) (o := .lst [oV (seeF L key none (some 5)), oV (some 5)]) n17))
          refine ⟨_, two_is (o := (seeF L key none (some 5))) (o' := (some 5)) upd_same, _, two_is (o := (seeF L key none (some 5))) (o' := (some 5)) (yy.at upd_same), two_shaped _ _, two_shaped _ _, ?_⟩
          rw [two_same]
          try walk_at "rn"
          rw [eK]
          exact ⟨_, _, rfl, (z14.thenKp (x13.was nd.1) kD).trans yy⟩
        · refine ⟨_, hbd, 1, by rw [decide_eq_false c2]; rfl, ?_⟩
          have c3 : ¬ (lo ≤ key ∧ key < hi) := fun h => c2 h.2
          have kD : Kp K bd H14 (upd H14 bd (.lst [.int 5, oV (seeF L key none (some 5))])) := Kp.upd hbd
          simp only [tSeq, tNext, tIfS, tAsg, gName, gSub, tRet, tRetN, tDrop, tVar, tC, tOp, tUn, rI0, rI, rU, tTest, tB, tAndV, tOrV, tNotV, tAnd, tOr, tNot, tIf, tChain, tCB, tCons, tNil, tLst, tTup, tCallC, List.getElem?_cons_zero, List.getElem?_cons_succ, List.set_cons_zero, List.set_cons_succ, Option.some.injEq, V.int.injEq, V.bl.injEq, V.ref.injEq, V.ty.injEq, V.str.injEq, List.cons.injEq, exists_eq_left', exists_eq_left, exists_and_left, and_true, true_and, and_assoc, cxK, rIxF, rSetL, rEq, rNe, scal, HO.lst.injEq, HO.tup.injEq, upd_none, ixN_10, ixN_20, ixN_21, ixN_30, ixN_31, ixN_32, upd_same, seqAt_updL, seqAt_updT, atI_0, atI_1, atI_2, atI_3, decide_eq_true_eq, L2.start, List.map_cons, List.map_nil, List.length_cons, List.length_nil, Nat.reduceAdd, Nat.reduceSub, List.replicate_succ, List.replicate_zero, List.cons_append, List.nil_append, List.append_nil, tFor_rng1, tFor_rng2, tFor_list, tFor_tup, CDv, CMul, CPow, sizeLine_eq, Int.reduceLE, Int.reduceLT, Int.reducePow, Int.reduceToNat, Int.reduceAdd, Int.reduceSub, Int.reduceMul, Int.reduceNeg, Nat.reduceLeDiff, Nat.reducePow, Nat.reduceLT, Int.reduceEq, true_or, or_true, ite_true, ite_false, if_true, if_false, Bool.not_true, Bool.not_false, Bool.false_eq_true, decide_true, decide_false, rIxQ, seqQ_updL, seqQ_updT, tupQ_updT, tSl, tNoPart, tPart, rSlQ, rSlTQ, rCatQ, tTupQ, tLstQ, tNever, rEqD, rInQ, gTupQ, gCons, gNil, tBM, tBM0, rAppend, rClear, tFor_rng3, tLc_rng1, tLc_rng2, tLc_list, tLc_tup, pick_nil, pick_own, pick_cap, join_some, tYes, gSlice, tCallKC, gk_11, gk_31, tLc2_list, bodyL_tup, bodyL_list, bodyE_eq, seqQ_T (kD.tup hbd (z14.tup ht12))]
          refine ⟨D, M, key, some 5, none, rfl, kD.keep D _ (z14.at hD12) (ne_of_none (x13.at hD12) nd.1), (hM12.ext z14).kp kD hbd, by omega, fun H15 x15 => ?_⟩
          simp only [tSeq, tNext, tIfS, tAsg, gName, gSub, tRet, tRetN, tDrop, tVar, tC, tOp, tUn, rI0, rI, rU, tTest, tB, tAndV, tOrV, tNotV, tAnd, tOr, tNot, tIf, tChain, tCB, tCons, tNil, tLst, tTup, tCallC, List.getElem?_cons_zero, List.getElem?_cons_succ, List.set_cons_zero, List.set_cons_succ, Option.some.injEq, V.int.injEq, V.bl.injEq, V.ref.injEq, V.ty.injEq, V.str.injEq, List.cons.injEq, exists_eq_left', exists_eq_left, exists_and_left, and_true, true_and, and_assoc, cxK, rIxF, rSetL, rEq, rNe, scal, HO.lst.injEq, HO.tup.injEq, upd_none, ixN_10, ixN_20, ixN_21, ixN_30, ixN_31, ixN_32, upd_same, seqAt_updL, seqAt_updT, atI_0, atI_1, atI_2, atI_3, decide_eq_true_eq, L2.start, List.map_cons, List.map_nil, List.length_cons, List.length_nil, Nat.reduceAdd, Nat.reduceSub, List.replicate_succ, List.replicate_zero, List.cons_append, List.nil_append, List.append_nil, tFor_rng1, tFor_rng2, tFor_list, tFor_tup, CDv, CMul, CPow, sizeLine_eq, Int.reduceLE, Int.reduceLT, Int.reducePow, Int.reduceToNat, Int.reduceAdd, Int.reduceSub, Int.reduceMul, Int.reduceNeg, Nat.reduceLeDiff, Nat.reducePow, Nat.reduceLT, Int.reduceEq, true_or, or_true, ite_true, ite_false, if_true, if_false, Bool.not_true, Bool.not_false, Bool.false_eq_true, decide_true, decide_false, rIxQ, seqQ_updL, seqQ_updT, tupQ_updT, tSl, tNoPart, tPart, rSlQ, rSlTQ, rCatQ, tTupQ, tLstQ, tNever, rEqD, rInQ, gTupQ, gCons, gNil, tBM, tBM0, rAppend, rClear, tFor_rng3, tLc_rng1, tLc_rng2, tLc_list, tLc_tup, pick_nil, pick_own, pick_cap, join_some, tYes, gSlice, tCallKC, gk_11, gk_31, tLc2_list, bodyL_tup, bodyL_list, bodyE_eq, seqQ_T (x15.tup (kD.tup hbd (z14.tup ht12)))]
          refine ⟨D', M', key, some 5, none, rfl, x15.at (kD.keep D' _ (z14.at hD12') (ne_of_none (x13.at hD12') nd.1)), ((hM12'.ext z14).kp kD hbd).ext x15, by omega, fun H16 x16 => ?_⟩
          try walk_at "rn"
          rw [seeF_ns M, seeF_ns M', eM, eM', see_in, see_out _ (tray_oks hT7) lh, if_neg c3, if_neg c3, ← seeF_ns L]
          intro b17 n17
          have yy := x15.trans (x16.trans (Ext.new (K := K) (o := .lst [oV (some 5), oV (seeF L key none (some 5))]) n17))
          refine ⟨_, two_is (o := (some 5)) (o' := (seeF L key none (some 5))) upd_same, _, two_is (o := (some 5)) (o' := (seeF L key none (some 5))) (yy.at upd_same), two_shaped _ _, two_shaped _ _, ?_⟩
          rw [two_same]
          try walk_at "rn"
          rw [eK]
          exact ⟨_, _, rfl, (z14.thenKp (x13.was nd.1) kD).trans yy⟩
      · refine ⟨_, hbd, 1, rfl, ?_⟩
        have c3 : ¬ (lo ≤ key ∧ key < hi) := fun h => c1 h.1
        have kD : Kp K bd H14 (upd H14 bd (.lst [.int 5, oV (seeF L key none (some 5))])) := Kp.upd hbd
        simp only [tSeq, tNext, tIfS, tAsg, gName, gSub, tRet, tRetN, tDrop, tVar, tC, tOp, tUn, rI0, rI, rU, tTest, tB, tAndV, tOrV, tNotV, tAnd, tOr, tNot, tIf, tChain, tCB, tCons, tNil, tLst, tTup, tCallC, List.getElem?_cons_zero, List.getElem?_cons_succ, List.set_cons_zero, List.set_cons_succ, Option.some.injEq, V.int.injEq, V.bl.injEq, V.ref.injEq, V.ty.injEq, V.str.injEq, List.cons.injEq, exists_eq_left', exists_eq_left, exists_and_left, and_true, true_and, and_assoc, cxK, rIxF, rSetL, rEq, rNe, scal, HO.lst.injEq, HO.tup.injEq, upd_none, ixN_10, ixN_20, ixN_21, ixN_30, ixN_31, ixN_32, upd_same, seqAt_updL, seqAt_updT, atI_0, atI_1, atI_2, atI_3, decide_eq_true_eq, L2.start, List.map_cons, List.map_nil, List.length_cons, List.length_nil, Nat.reduceAdd, Nat.reduceSub, List.replicate_succ, List.replicate_zero, List.cons_append, List.nil_append, List.append_nil, tFor_rng1, tFor_rng2, tFor_list, tFor_tup, CDv, CMul, CPow, sizeLine_eq, Int.reduceLE, Int.reduceLT, Int.reducePow, Int.reduceToNat, Int.reduceAdd, Int.reduceSub, Int.reduceMul, Int.reduceNeg, Nat.reduceLeDiff, Nat.reducePow, Nat.reduceLT, Int.reduceEq, true_or, or_true, ite_true, ite_false, if_true, if_false, Bool.not_true, Bool.not_false, Bool.false_eq_true, decide_true, decide_false, rIxQ, seqQ_updL, seqQ_updT, tupQ_updT, tSl, tNoPart, tPart, rSlQ, rSlTQ, rCatQ, tTupQ, tLstQ, tNever, rEqD, rInQ, gTupQ, gCons, gNil, tBM, tBM0, rAppend, rClear, tFor_rng3, tLc_rng1, tLc_rng2, tLc_list, tLc_tup, pick_nil, pick_own, pick_cap, join_some, tYes, gSlice, tCallKC, gk_11, gk_31, tLc2_list, bodyL_tup, bodyL_list, bodyE_eq, seqQ_T (kD.tup hbd (z14.tup ht12))]
        refine ⟨D, M, key, some 5, none, rfl, kD.keep D _ (z14.at hD12) (ne_of_none (x13.at hD12) nd.1), (hM12.ext z14).kp kD hbd, by omega, fun H15 x15 => ?_⟩
        simp only [tSeq, tNext, tIfS, tAsg, gName, gSub, tRet, tRetN, tDrop, tVar, tC, tOp, tUn, rI0, rI, rU, tTest, tB, tAndV, tOrV, tNotV, tAnd, tOr, tNot, tIf, tChain, tCB, tCons, tNil, tLst, tTup, tCallC, List.getElem?_cons_zero, List.getElem?_cons_succ, List.set_cons_zero, List.set_cons_succ, Option.some.injEq, V.int.injEq, V.bl.injEq, V.ref.injEq, V.ty.injEq, V.str.injEq, List.cons.injEq, exists_eq_left', exists_eq_left, exists_and_left, and_true, true_and, and_assoc, cxK, rIxF, rSetL, rEq, rNe, scal, HO.lst.injEq, HO.tup.injEq, upd_none, ixN_10, ixN_20, ixN_21, ixN_30, ixN_31, ixN_32, upd_same, seqAt_updL, seqAt_updT, atI_0, atI_1, atI_2, atI_3, decide_eq_true_eq, L2.start, List.map_cons, List.map_nil, List.length_cons, List.length_nil, Nat.reduceAdd, Nat.reduceSub, List.replicate_succ, List.replicate_zero, List.cons_append, List.nil_append, List.append_nil, tFor_rng1, tFor_rng2, tFor_list, tFor_tup, CDv, CMul, CPow, sizeLine_eq, Int.reduceLE, Int.reduceLT, Int.reducePow, Int.reduceToNat, Int.reduceAdd, Int.reduceSub, Int.reduceMul, Int.reduceNeg, Nat.reduceLeDiff, Nat.reducePow, Nat.reduceLT, Int.reduceEq, true_or, or_true, ite_true, ite_false, if_true, if_false, Bool.not_true, Bool.not_false, Bool.false_eq_true, decide_true, decide_false, rIxQ, seqQ_updL, seqQ_updT, tupQ_updT, tSl, tNoPart, tPart, rSlQ, rSlTQ, rCatQ, tTupQ, tLstQ, tNever, rEqD, rInQ, gTupQ, gCons, gNil, tBM, tBM0, rAppend, rClear, tFor_rng3, tLc_rng1, tLc_rng2, tLc_list, tLc_tup, pick_nil, pick_own, pick_cap, join_some, tYes, gSlice, tCallKC, gk_11, gk_31, tLc2_list, bodyL_tup, bodyL_list, bodyE_eq, seqQ_T (x15.tup (kD.tup hbd (z14.tup ht12)))]
        refine ⟨D', M', key, some 5, none, rfl, x15.at (kD.keep D' _ (z14.at hD12') (ne_of_none (x13.at hD12') nd.1)), ((hM12'.ext z14).kp kD hbd).ext x15, by omega, fun H16 x16 => ?_⟩
        try walk_at "rn"
        rw [seeF_ns M, seeF_ns M', eM, eM', see_in, see_out _ (tray_oks hT7) lh, if_neg c3, if_neg c3, ← seeF_ns L]
        intro b17 n17
        have yy := x15.trans (x16.trans (Ext.new (K := K) (o := .lst [oV (some 5), oV (seeF L key none (some 5))]) n17))
        refine ⟨_, two_is (o := (some 5)) (o' := (seeF L key none (some 5))) upd_same, _, two_is (o := (some 5)) (o' := (seeF L key none (some 5))) (yy.at upd_same), two_shaped _ _, two_shaped _ _, ?_⟩
        rw [two_same]
        try walk_at "rn"
        rw [eK]
        exact ⟨_, _, rfl, (z14.thenKp (x13.was nd.1) kD).trans yy⟩
    intro σ' H13 h
    rw [eK] at h
    clear eK
    obtain ⟨v12, v13, rfl, x13⟩ := h
    simp only [tSeq, tNext, tIfS, tAsg, gName, gSub, tRet, tRetN, tDrop, tVar, tC, tOp, tUn, rI0, rI, rU, tTest, tB, tAndV, tOrV, tNotV, tAnd, tOr, tNot, tIf, tChain, tCB, tCons, tNil, tLst, tTup, tCallC, List.getElem?_cons_zero, List.getElem?_cons_succ, List.set_cons_zero, List.set_cons_succ, Option.some.injEq, V.int.injEq, V.bl.injEq, V.ref.injEq, V.ty.injEq, V.str.injEq, List.cons.injEq, exists_eq_left', exists_eq_left, exists_and_left, and_true, true_and, and_assoc, cxK, rIxF, rSetL, rEq, rNe, scal, HO.lst.injEq, HO.tup.injEq, upd_none, ixN_10, ixN_20, ixN_21, ixN_30, ixN_31, ixN_32, upd_same, seqAt_updL, seqAt_updT, atI_0, atI_1, atI_2, atI_3, decide_eq_true_eq, L2.start, List.map_cons, List.map_nil, List.length_cons, List.length_nil, Nat.reduceAdd, Nat.reduceSub, List.replicate_succ, List.replicate_zero, List.cons_append, List.nil_append, List.append_nil, tFor_rng1, tFor_rng2, tFor_list, tFor_tup, CDv, CMul, CPow, sizeLine_eq, Int.reduceLE, Int.reduceLT, Int.reducePow, Int.reduceToNat, Int.reduceAdd, Int.reduceSub, Int.reduceMul, Int.reduceNeg, Nat.reduceLeDiff, Nat.reducePow, Nat.reduceLT, Int.reduceEq, true_or, or_true, ite_true, ite_false, if_true, if_false, Bool.not_true, Bool.not_false, Bool.false_eq_true, decide_true, decide_false, rIxQ, seqQ_updL, seqQ_updT, tupQ_updT, tSl, tNoPart, tPart, rSlQ, rSlTQ, rCatQ, tTupQ, tLstQ, tNever, rEqD, rInQ, gTupQ, gCons, gNil, tBM, tBM0, rAppend, rClear, tFor_rng3, tLc_rng1, tLc_rng2, tLc_list, tLc_tup, pick_nil, pick_own, pick_cap, join_some, tYes, gSlice, tCallKC, gk_11, gk_31, tLc2_list, bodyL_tup, bodyL_list, bodyE_eq, seqQ_T (x13.tup ht12)]
    have lM0 : M'.length ≤ 40 := by omega
    refine ⟨D', M', lo, hi, rfl, x13.at hD12', hM12'.ext x13, by omega, fun t3 D3 D3' M3 M3' H14 _ _ _ ht3 hD3 hD3' hM3 hM3' eM3 eM3' _ _ x14 => ?_⟩
    try walk_at "rn"
    intro b15 n15 b16 n16
    have x15 := (Ext.new (K := K) (o := .lst []) n15).trans (Ext.new (K := K) (o := .tup [.ref b15, .ref iO]) n16)
    have x1315 := x13.trans (x14.trans x15)
    rw [eM', in_out] at eM3
    rw [eM', out_out lh] at eM3'
    refine ⟨_, pair_is (x15.tup ht3) (x15.at hD3) (x15.at hD3') (hM3.ext x15) (hM3'.ext x15) eM3 eM3', _, pair_is (M := []) (ns := []) tupQ_updT ((Ext.new n16).at upd_same) (x1315.at hO12) (fun q hq => nomatch hq) (tO12.ext x1315) rfl eO1, pair_shaped _ _, pair_shaped _ _, ?_⟩
    rw [pair_same]
    have e16 : tupQ K (upd (upd H14 b15 (.lst [])) b16 (.tup [.ref b15, .ref iO])) t = some [.ref D, .ref D'] := x1315.tup ht12
    generalize upd (upd H14 b15 (.lst [])) b16 (.tup [.ref b15, .ref iO]) = H15 at x1315 e16 ⊢
    simp only [tSeq, tNext, tIfS, tAsg, gName, gSub, tRet, tRetN, tDrop, tVar, tC, tOp, tUn, rI0, rI, rU, tTest, tB, tAndV, tOrV, tNotV, tAnd, tOr, tNot, tIf, tChain, tCB, tCons, tNil, tLst, tTup, tCallC, List.getElem?_cons_zero, List.getElem?_cons_succ, List.set_cons_zero, List.set_cons_succ, Option.some.injEq, V.int.injEq, V.bl.injEq, V.ref.injEq, V.ty.injEq, V.str.injEq, List.cons.injEq, exists_eq_left', exists_eq_left, exists_and_left, and_true, true_and, and_assoc, cxK, rIxF, rSetL, rEq, rNe, scal, HO.lst.injEq, HO.tup.injEq, upd_none, ixN_10, ixN_20, ixN_21, ixN_30, ixN_31, ixN_32, upd_same, seqAt_updL, seqAt_updT, atI_0, atI_1, atI_2, atI_3, decide_eq_true_eq, L2.start, List.map_cons, List.map_nil, List.length_cons, List.length_nil, Nat.reduceAdd, Nat.reduceSub, List.replicate_succ, List.replicate_zero, List.cons_append, List.nil_append, List.append_nil, tFor_rng1, tFor_rng2, tFor_list, tFor_tup, CDv, CMul, CPow, sizeLine_eq, Int.reduceLE, Int.reduceLT, Int.reducePow, Int.reduceToNat, Int.reduceAdd, Int.reduceSub, Int.reduceMul, Int.reduceNeg, Nat.reduceLeDiff, Nat.reducePow, Nat.reduceLT, Int.reduceEq, true_or, or_true, ite_true, ite_false, if_true, if_false, Bool.not_true, Bool.not_false, Bool.false_eq_true, decide_true, decide_false, rIxQ, seqQ_updL, seqQ_updT, tupQ_updT, tSl, tNoPart, tPart, rSlQ, rSlTQ, rCatQ, tTupQ, tLstQ, tNever, rEqD, rInQ, gTupQ, gCons, gNil, tBM, tBM0, rAppend, rClear, tFor_rng3, tLc_rng1, tLc_rng2, tLc_list, tLc_tup, pick_nil, pick_own, pick_cap, join_some, tYes, gSlice, tCallKC, gk_11, gk_31, tLc2_list, bodyL_tup, bodyL_list, bodyE_eq, seqQ_T e16]
    refine ⟨D, M, lo, hi, rfl, x1315.at hD12, hM12.ext x1315, by omega, fun t4 D4 D4' M4 M4' H16 _ _ _ ht4 hD4 hD4' hM4 hM4' eM4 eM4' _ _ x16 => ?_⟩
    try walk_at "rn"
    intro b17 n17 b18 n18
    have x17 := (Ext.new (K := K) (o := .lst []) n17).trans (Ext.new (K := K) (o := .tup [.ref iI, .ref b17]) n18)
    have x1317 := x1315.trans (x16.trans x17)
    rw [eM, in_in] at eM4
    rw [eM, out_in] at eM4'
    refine ⟨_, pair_is (x17.tup ht4) (x17.at hD4) (x17.at hD4') (hM4.ext x17) (hM4'.ext x17) eM4 eM4', _, pair_is (M' := []) (ns' := []) tupQ_updT (x1317.at hI12) ((Ext.new n18).at upd_same) (tI12.ext x1317) (fun q hq => nomatch hq) eI1 rfl, pair_shaped _ _, pair_shaped _ _, ?_⟩
    rw [pair_same]
    have e18 : tupQ K (upd (upd H16 b17 (.lst [])) b18 (.tup [.ref iI, .ref b17])) t = some [.ref D, .ref D'] := x1317.tup ht12
    generalize upd (upd H16 b17 (.lst [])) b18 (.tup [.ref iI, .ref b17]) = H17 at x1317 e18 ⊢
    simp only [tSeq, tNext, tIfS, tAsg, gName, gSub, tRet, tRetN, tDrop, tVar, tC, tOp, tUn, rI0, rI, rU, tTest, tB, tAndV, tOrV, tNotV, tAnd, tOr, tNot, tIf, tChain, tCB, tCons, tNil, tLst, tTup, tCallC, List.getElem?_cons_zero, List.getElem?_cons_succ, List.set_cons_zero, List.set_cons_succ, Option.some.injEq, V.int.injEq, V.bl.injEq, V.ref.injEq, V.ty.injEq, V.str.injEq, List.cons.injEq, exists_eq_left', exists_eq_left, exists_and_left, and_true, true_and, and_assoc, cxK, rIxF, rSetL, rEq, rNe, scal, HO.lst.injEq, HO.tup.injEq, upd_none, ixN_10, ixN_20, ixN_21, ixN_30, ixN_31, ixN_32, upd_same, seqAt_updL, seqAt_updT, atI_0, atI_1, atI_2, atI_3, decide_eq_true_eq, L2.start, List.map_cons, List.map_nil, List.length_cons, List.length_nil, Nat.reduceAdd, Nat.reduceSub, List.replicate_succ, List.replicate_zero, List.cons_append, List.nil_append, List.append_nil, tFor_rng1, tFor_rng2, tFor_list, tFor_tup, CDv, CMul, CPow, sizeLine_eq, Int.reduceLE, Int.reduceLT, Int.reducePow, Int.reduceToNat, Int.reduceAdd, Int.reduceSub, Int.reduceMul, Int.reduceNeg, Nat.reduceLeDiff, Nat.reducePow, Nat.reduceLT, Int.reduceEq, true_or, or_true, ite_true, ite_false, if_true, if_false, Bool.not_true, Bool.not_false, Bool.false_eq_true, decide_true, decide_false, rIxQ, seqQ_updL, seqQ_updT, tupQ_updT, tSl, tNoPart, tPart, rSlQ, rSlTQ, rCatQ, tTupQ, tLstQ, tNever, rEqD, rInQ, gTupQ, gCons, gNil, tBM, tBM0, rAppend, rClear, tFor_rng3, tLc_rng1, tLc_rng2, tLc_list, tLc_tup, pick_nil, pick_own, pick_cap, join_some, tYes, gSlice, tCallKC, gk_11, gk_31, tLc2_list, bodyL_tup, bodyL_list, bodyE_eq, seqQ_T e18]
    refine ⟨.inl ⟨rfl, _, SqL.of (x1317.at hD12)⟩, _, x1317.at hD12, ?_⟩
    have kC : Kp K D H17 (upd H17 D (.lst [])) := Kp.upd (x1317.at hD12)
    simp only [tSeq, tNext, tIfS, tAsg, gName, gSub, tRet, tRetN, tDrop, tVar, tC, tOp, tUn, rI0, rI, rU, tTest, tB, tAndV, tOrV, tNotV, tAnd, tOr, tNot, tIf, tChain, tCB, tCons, tNil, tLst, tTup, tCallC, List.getElem?_cons_zero, List.getElem?_cons_succ, List.set_cons_zero, List.set_cons_succ, Option.some.injEq, V.int.injEq, V.bl.injEq, V.ref.injEq, V.ty.injEq, V.str.injEq, List.cons.injEq, exists_eq_left', exists_eq_left, exists_and_left, and_true, true_and, and_assoc, cxK, rIxF, rSetL, rEq, rNe, scal, HO.lst.injEq, HO.tup.injEq, upd_none, ixN_10, ixN_20, ixN_21, ixN_30, ixN_31, ixN_32, upd_same, seqAt_updL, seqAt_updT, atI_0, atI_1, atI_2, atI_3, decide_eq_true_eq, L2.start, List.map_cons, List.map_nil, List.length_cons, List.length_nil, Nat.reduceAdd, Nat.reduceSub, List.replicate_succ, List.replicate_zero, List.cons_append, List.nil_append, List.append_nil, tFor_rng1, tFor_rng2, tFor_list, tFor_tup, CDv, CMul, CPow, sizeLine_eq, Int.reduceLE, Int.reduceLT, Int.reducePow, Int.reduceToNat, Int.reduceAdd, Int.reduceSub, Int.reduceMul, Int.reduceNeg, Nat.reduceLeDiff, Nat.reducePow, Nat.reduceLT, Int.reduceEq, true_or, or_true, ite_true, ite_false, if_true, if_false, Bool.not_true, Bool.not_false, Bool.false_eq_true, decide_true, decide_false, rIxQ, seqQ_updL, seqQ_updT, tupQ_updT, tSl, tNoPart, tPart, rSlQ, rSlTQ, rCatQ, tTupQ, tLstQ, tNever, rEqD, rInQ, gTupQ, gCons, gNil, tBM, tBM0, rAppend, rClear, tFor_rng3, tLc_rng1, tLc_rng2, tLc_list, tLc_tup, pick_nil, pick_own, pick_cap, join_some, tYes, gSlice, tCallKC, gk_11, gk_31, tLc2_list, bodyL_tup, bodyL_list, bodyE_eq, seqQ_T (kC.tup (x1317.at hD12) e18)]
    have hD1' := kC.keep D' _ (x1317.at hD12') nDD.symm
    refine ⟨.inl ⟨rfl, _, SqL.of hD1'⟩, _, hD1', by rw [List.length_map]; omega, ?_⟩
    have kA : Kp K D' (upd H17 D (.lst [])) (upd (upd H17 D (.lst [])) D' (.lst (M'.v ++ [.non]))) := Kp.upd hD1'
    have hbF := kA.keep b6 _ (kC.keep b6 _ (x1317.at hb12) nDb.symm) nDb'.symm
    have hrF := kA.keep r _ (kC.keep r _ (x1317.at hr12) nDr.symm) nDr'.symm
    have hTF := ((hT12.ext x1317).kp kC (x1317.at hD12)).kp kA hD1'
    refine ⟨_, tray_is hbF hTF, _, tray_is hrF hTF, tray_shaped L, tray_shaped L, ?_⟩
    rw [tray_same]
    try walk_at "rn"
    rw [eP]
    exact ⟨_, rfl, rfl, x0.trans (((x012.trans x1317).thenKp nD0 kC).thenKp nD0' kA)⟩
  · intro σ H2 h
    rw [eP] at h
    obtain ⟨r, _, rfl, _⟩ := h
    exact q H2
end
theorem all_mk {l : PySem.W.OpenLaw} {w : World} {K : PySem.W.Frag} {h : Heap} {mg : Str → Option Value} {fa f1 f2 f3 f4 f5 f6 f7 f8 f9 f10 f11 f12 f13 f14 f15 f16 f17 f18 f19 f20 f21 f22 f23 f24 : Addr} {od1 an1 od2 an2 od3 an3 od4 an4 od5 an5 od6 an6 od7 an7 od8 an8 od9 an9 od10 an10 od11 an11 od12 an12 od13 an13 od14 an14 od15 an15 od16 an16 od17 an17 od18 an18 od19 an19 od20 an20 od21 an21 od22 an22 od23 an23 od24 an24 : Option Addr} {sl1 sl2 sl3 sl4 sl5 sl6 sl7 sl8 sl9 sl10 sl11 sl12 sl13 sl14 sl15 sl16 sl17 sl18 sl19 sl20 sl21 sl22 sl23 sl24 : Array (Option Value)} {oc1 kV1 dc1 pm1 cd1 ct1 oc2 kV2 dc2 pm2 cd2 ct2 oc3 kV3 dc3 pm3 cd3 ct3 oc4 kV4 dc4 pm4 cd4 ct4 oc5 kV5 dc5 pm5 cd5 ct5 oc6 kV6 dc6 pm6 cd6 ct6 oc7 dc7 pm7 cd7 ct7 oc8 kV8 dc8 pm8 cd8 ct8 oc9 kV9 dc9 pm9 cd9 ct9 oc10 kV10 dc10 pm10 cd10 ct10 oc11 kV11 dc11 pm11 cd11 ct11 oc12 kV12 dc12 pm12 cd12 ct12 oc13 kV13 dc13 pm13 cd13 ct13 oc14 kV14 dc14 pm14 cd14 ct14 oc15 kV15 dc15 pm15 cd15 ct15 oc16 kV16 dc16 pm16 cd16 ct16 oc17 kV17 dc17 pm17 cd17 ct17 oc18 kV18 dc18 pm18 cd18 ct18 oc19 kV19 dc19 pm19 cd19 ct19 oc20 kV20 dc20 pm20 cd20 ct20 oc21 kV21 dc21 pm21 cd21 ct21 oc22 kV22 dc22 pm22 cd22 ct22 oc23 kV23 dc23 pm23 cd23 ct23 oc24 kV24 dc24 pm24 cd24 ct24 : Value} {aG : Addr} {tE : Tok} {dG : Option Addr} {tG : Tok} {nG : Nat} {slG : Array (Option Value)} {w7 : Addr} {wc7 : Value} {wd7 : Option Addr} {we7 : Array DictEntry} {wn7 : Nat} {ws7 : Array (Option Value)} (X : K.In h) (G : h.Ns mainGlobals mg) (hfa : mg "law" = some (.ref fa))
    (a1 : PySem.W.nsIn K mainGlobals "half_acts" = some (some (.ref f1))) (l1 : K.lookup f1 = some ⟨oc1, od1, .func (PySem.W.fnOf "half_acts" "half_acts" (defArgs s_half_acts) (defBody s_half_acts) (defScope s_half_acts) .none kV1 dc1 pm1 an1 cd1 ct1), sl1⟩) (c1 : PySem.W.codeIn K cd1 "half_acts" = true) (k1 : PySem.W.keepIn K (.ref f1) = true)
    (a2 : PySem.W.nsIn K mainGlobals "does" = some (some (.ref f2))) (l2 : K.lookup f2 = some ⟨oc2, od2, .func (PySem.W.fnOf "does" "does" (defArgs s_does) (defBody s_does) (defScope s_does) .none kV2 dc2 pm2 an2 cd2 ct2), sl2⟩) (c2 : PySem.W.codeIn K cd2 "does" = true) (k2 : PySem.W.keepIn K (.ref f2) = true)
    (a3 : PySem.W.nsIn K mainGlobals "has_key" = some (some (.ref f3))) (l3 : K.lookup f3 = some ⟨oc3, od3, .func (PySem.W.fnOf "has_key" "has_key" (defArgs s_has_key) (defBody s_has_key) (defScope s_has_key) .none kV3 dc3 pm3 an3 cd3 ct3), sl3⟩) (c3 : PySem.W.codeIn K cd3 "has_key" = true) (k3 : PySem.W.keepIn K (.ref f3) = true)
    (a4 : PySem.W.nsIn K mainGlobals "cut" = some (some (.ref f4))) (l4 : K.lookup f4 = some ⟨oc4, od4, .func (PySem.W.fnOf "cut" "cut" (defArgs s_cut) (defBody s_cut) (defScope s_cut) .none kV4 dc4 pm4 an4 cd4 ct4), sl4⟩) (c4 : PySem.W.codeIn K cd4 "cut" = true) (k4 : PySem.W.keepIn K (.ref f4) = true)
    (a5 : PySem.W.nsIn K mainGlobals "up_to" = some (some (.ref f5))) (l5 : K.lookup f5 = some ⟨oc5, od5, .func (PySem.W.fnOf "up_to" "up_to" (defArgs s_up_to) (defBody s_up_to) (defScope s_up_to) .none kV5 dc5 pm5 an5 cd5 ct5), sl5⟩) (c5 : PySem.W.codeIn K cd5 "up_to" = true) (k5 : PySem.W.keepIn K (.ref f5) = true)
    (a6 : PySem.W.nsIn K mainGlobals "touching" = some (some (.ref f6))) (l6 : K.lookup f6 = some ⟨oc6, od6, .func (PySem.W.fnOf "touching" "touching" (defArgs s_touching) (defBody s_touching) (defScope s_touching) .none kV6 dc6 pm6 an6 cd6 ct6), sl6⟩) (c6 : PySem.W.codeIn K cd6 "touching" = true) (k6 : PySem.W.keepIn K (.ref f6) = true)
    (a7 : PySem.W.nsIn K mainGlobals "seen" = some (some (.ref f7))) (l7 : K.lookup f7 = some ⟨oc7, od7, .func (PySem.W.fnOf "seen" "seen" (defArgs s_seen) (defBody s_seen) (defScope s_seen) .none (.ref w7) dc7 pm7 an7 cd7 ct7), sl7⟩) (c7 : PySem.W.codeIn K cd7 "seen" = true) (k7 : PySem.W.keepIn K (.ref f7) = true)
    (wl7 : K.lookup w7 = some ⟨wc7, wd7, .dict we7 wn7, ws7⟩) (wk7 : strKeysB we7 = true) (wf7 : nsFind we7 "at" = some .none)
    (a8 : PySem.W.nsIn K mainGlobals "within" = some (some (.ref f8))) (l8 : K.lookup f8 = some ⟨oc8, od8, .func (PySem.W.fnOf "within" "within" (defArgs s_within) (defBody s_within) (defScope s_within) .none kV8 dc8 pm8 an8 cd8 ct8), sl8⟩) (c8 : PySem.W.codeIn K cd8 "within" = true) (k8 : PySem.W.keepIn K (.ref f8) = true)
    (a9 : PySem.W.nsIn K mainGlobals "without" = some (some (.ref f9))) (l9 : K.lookup f9 = some ⟨oc9, od9, .func (PySem.W.fnOf "without" "without" (defArgs s_without) (defBody s_without) (defScope s_without) .none kV9 dc9 pm9 an9 cd9 ct9), sl9⟩) (c9 : PySem.W.codeIn K cd9 "without" = true) (k9 : PySem.W.keepIn K (.ref f9) = true)
    (a10 : PySem.W.nsIn K mainGlobals "poured" = some (some (.ref f10))) (l10 : K.lookup f10 = some ⟨oc10, od10, .func (PySem.W.fnOf "poured" "poured" (defArgs s_poured) (defBody s_poured) (defScope s_poured) .none kV10 dc10 pm10 an10 cd10 ct10), sl10⟩) (c10 : PySem.W.codeIn K cd10 "poured" = true) (k10 : PySem.W.keepIn K (.ref f10) = true)
    (a11 : PySem.W.nsIn K mainGlobals "_law_well" = some (some (.ref f11))) (l11 : K.lookup f11 = some ⟨oc11, od11, .func (PySem.W.fnOf "_law_well" "_law_well" (defArgs s__law_well) (defBody s__law_well) (defScope s__law_well) .none kV11 dc11 pm11 an11 cd11 ct11), sl11⟩) (c11 : PySem.W.codeIn K cd11 "_law_well" = true) (k11 : PySem.W.keepIn K (.ref f11) = true)
    (a12 : PySem.W.nsIn K mainGlobals "_law_draw" = some (some (.ref f12))) (l12 : K.lookup f12 = some ⟨oc12, od12, .func (PySem.W.fnOf "_law_draw" "_law_draw" (defArgs s__law_draw) (defBody s__law_draw) (defScope s__law_draw) .none kV12 dc12 pm12 an12 cd12 ct12), sl12⟩) (c12 : PySem.W.codeIn K cd12 "_law_draw" = true) (k12 : PySem.W.keepIn K (.ref f12) = true)
    (a13 : PySem.W.nsIn K mainGlobals "_law_key" = some (some (.ref f13))) (l13 : K.lookup f13 = some ⟨oc13, od13, .func (PySem.W.fnOf "_law_key" "_law_key" (defArgs s__law_key) (defBody s__law_key) (defScope s__law_key) .none kV13 dc13 pm13 an13 cd13 ct13), sl13⟩) (c13 : PySem.W.codeIn K cd13 "_law_key" = true) (k13 : PySem.W.keepIn K (.ref f13) = true)
    (a14 : PySem.W.nsIn K mainGlobals "_law_base" = some (some (.ref f14))) (l14 : K.lookup f14 = some ⟨oc14, od14, .func (PySem.W.fnOf "_law_base" "_law_base" (defArgs s__law_base) (defBody s__law_base) (defScope s__law_base) .none kV14 dc14 pm14 an14 cd14 ct14), sl14⟩) (c14 : PySem.W.codeIn K cd14 "_law_base" = true) (k14 : PySem.W.keepIn K (.ref f14) = true)
    (a15 : PySem.W.nsIn K mainGlobals "_law_amount" = some (some (.ref f15))) (l15 : K.lookup f15 = some ⟨oc15, od15, .func (PySem.W.fnOf "_law_amount" "_law_amount" (defArgs s__law_amount) (defBody s__law_amount) (defScope s__law_amount) .none kV15 dc15 pm15 an15 cd15 ct15), sl15⟩) (c15 : PySem.W.codeIn K cd15 "_law_amount" = true) (k15 : PySem.W.keepIn K (.ref f15) = true)
    (a16 : PySem.W.nsIn K mainGlobals "_law_stretch" = some (some (.ref f16))) (l16 : K.lookup f16 = some ⟨oc16, od16, .func (PySem.W.fnOf "_law_stretch" "_law_stretch" (defArgs s__law_stretch) (defBody s__law_stretch) (defScope s__law_stretch) .none kV16 dc16 pm16 an16 cd16 ct16), sl16⟩) (c16 : PySem.W.codeIn K cd16 "_law_stretch" = true) (k16 : PySem.W.keepIn K (.ref f16) = true)
    (a17 : PySem.W.nsIn K mainGlobals "_law_action" = some (some (.ref f17))) (l17 : K.lookup f17 = some ⟨oc17, od17, .func (PySem.W.fnOf "_law_action" "_law_action" (defArgs s__law_action) (defBody s__law_action) (defScope s__law_action) .none kV17 dc17 pm17 an17 cd17 ct17), sl17⟩) (c17 : PySem.W.codeIn K cd17 "_law_action" = true) (k17 : PySem.W.keepIn K (.ref f17) = true)
    (a18 : PySem.W.nsIn K mainGlobals "_law_note" = some (some (.ref f18))) (l18 : K.lookup f18 = some ⟨oc18, od18, .func (PySem.W.fnOf "_law_note" "_law_note" (defArgs s__law_note) (defBody s__law_note) (defScope s__law_note) .none kV18 dc18 pm18 an18 cd18 ct18), sl18⟩) (c18 : PySem.W.codeIn K cd18 "_law_note" = true) (k18 : PySem.W.keepIn K (.ref f18) = true)
    (a19 : PySem.W.nsIn K mainGlobals "_law_done" = some (some (.ref f19))) (l19 : K.lookup f19 = some ⟨oc19, od19, .func (PySem.W.fnOf "_law_done" "_law_done" (defArgs s__law_done) (defBody s__law_done) (defScope s__law_done) .none kV19 dc19 pm19 an19 cd19 ct19), sl19⟩) (c19 : PySem.W.codeIn K cd19 "_law_done" = true) (k19 : PySem.W.keepIn K (.ref f19) = true)
    (a20 : PySem.W.nsIn K mainGlobals "_law_tray" = some (some (.ref f20))) (l20 : K.lookup f20 = some ⟨oc20, od20, .func (PySem.W.fnOf "_law_tray" "_law_tray" (defArgs s__law_tray) (defBody s__law_tray) (defScope s__law_tray) .none kV20 dc20 pm20 an20 cd20 ct20), sl20⟩) (c20 : PySem.W.codeIn K cd20 "_law_tray" = true) (k20 : PySem.W.keepIn K (.ref f20) = true)
    (a21 : PySem.W.nsIn K mainGlobals "_law_see" = some (some (.ref f21))) (l21 : K.lookup f21 = some ⟨oc21, od21, .func (PySem.W.fnOf "_law_see" "_law_see" (defArgs s__law_see) (defBody s__law_see) (defScope s__law_see) .none kV21 dc21 pm21 an21 cd21 ct21), sl21⟩) (c21 : PySem.W.codeIn K cd21 "_law_see" = true) (k21 : PySem.W.keepIn K (.ref f21) = true)
    (a22 : PySem.W.nsIn K mainGlobals "_law_keys" = some (some (.ref f22))) (l22 : K.lookup f22 = some ⟨oc22, od22, .func (PySem.W.fnOf "_law_keys" "_law_keys" (defArgs s__law_keys) (defBody s__law_keys) (defScope s__law_keys) .none kV22 dc22 pm22 an22 cd22 ct22), sl22⟩) (c22 : PySem.W.codeIn K cd22 "_law_keys" = true) (k22 : PySem.W.keepIn K (.ref f22) = true)
    (a23 : PySem.W.nsIn K mainGlobals "_law_cut" = some (some (.ref f23))) (l23 : K.lookup f23 = some ⟨oc23, od23, .func (PySem.W.fnOf "_law_cut" "_law_cut" (defArgs s__law_cut) (defBody s__law_cut) (defScope s__law_cut) .none kV23 dc23 pm23 an23 cd23 ct23), sl23⟩) (c23 : PySem.W.codeIn K cd23 "_law_cut" = true) (k23 : PySem.W.keepIn K (.ref f23) = true)
    (a24 : PySem.W.nsIn K mainGlobals "law" = some (some (.ref f24))) (l24 : K.lookup f24 = some ⟨oc24, od24, .func (PySem.W.fnOf "law" "law" (defArgs s_law) (defBody s_law) (defScope s_law) .none kV24 dc24 pm24 an24 cd24 ct24), sl24⟩) (c24 : PySem.W.codeIn K cd24 "law" = true) (k24 : PySem.W.keepIn K (.ref f24) = true)
    (z_len : PySem.W.nsIn K mainGlobals "len" = some none)
    (z_isinstance : PySem.W.nsIn K mainGlobals "isinstance" = some none)
    (z_int : PySem.W.nsIn K mainGlobals "int" = some none)
    (z_range : PySem.W.nsIn K mainGlobals "range" = some none)
    (z_min : PySem.W.nsIn K mainGlobals "min" = some none)
    (z_max : PySem.W.nsIn K mainGlobals "max" = some none)
    (z_list : PySem.W.nsIn K mainGlobals "list" = some none)
    (z_tuple : PySem.W.nsIn K mainGlobals "tuple" = some none)
    (z_GONE : PySem.W.nsIn K mainGlobals "GONE" = some (some (.ref aG)))
    (z_END : PySem.W.nsIn K mainGlobals "END" = some (some (.int 1000000000000 tE)))
    (z_kG : K.lookup aG = some ⟨.type "tuple", dG, .seq #[.str "gone" tG] nG, slG⟩) :
    ∃ fd : FuncData, (∀ (s : Shared) (v : Value), BindsTo s fd ⟨[v], []⟩ [("_law_script", v)]) ∧ ∀ base : Heap, K.In base → base.Ns mainGlobals mg → FnOk l.prog w K mg base CX0 6 fa fd ["_law_script"] (spLaw K) := by
  have e := hfa.symm.trans (PySem.W.mg_of X G a24)
  cases e
  have B := (B.mk (PySem.W.mg_none_of X G z_len) (PySem.W.mg_none_of X G z_isinstance) (PySem.W.mg_none_of X G z_int) (PySem.W.mg_none_of X G z_range) (PySem.W.mg_none_of X G z_min) (PySem.W.mg_none_of X G z_max) (PySem.W.mg_none_of X G z_list) (PySem.W.mg_none_of X G z_tuple) (PySem.W.mg_of X G z_GONE) (kTup_of z_kG (by simp) rfl) (PySem.W.mg_of X G z_END) : B K mg aG tE)
  have F1 := fun_mk (st := s_half_acts) l1 c1 k1
  have b1 := F1.binds (ps := ["half", "value"]) fun _ _ _ _ _ _ us hl => match us, hl with | [_, _], _ => rfl
  have F2 := fun_mk (st := s_does) l2 c2 k2
  have b2 := F2.binds (ps := ["action", "value"]) fun _ _ _ _ _ _ us hl => match us, hl with | [_, _], _ => rfl
  have F3 := fun_mk (st := s_has_key) l3 c3 k3
  have b3 := F3.binds (ps := ["note", "key"]) fun _ _ _ _ _ _ us hl => match us, hl with | [_, _], _ => rfl
  have F4 := fun_mk (st := s_cut) l4 c4 k4
  have b4 := F4.binds (ps := ["note", "low", "high"]) fun _ _ _ _ _ _ us hl => match us, hl with | [_, _, _], _ => rfl
  have F5 := fun_mk (st := s_up_to) l5 c5 k5
  have b5 := F5.binds (ps := ["tray", "at"]) fun _ _ _ _ _ _ us hl => match us, hl with | [_, _], _ => rfl
  have F6 := fun_mk (st := s_touching) l6 c6 k6
  have b6 := F6.binds (ps := ["tray", "key"]) fun _ _ _ _ _ _ us hl => match us, hl with | [_, _], _ => rfl
  have F7 := fun_mk (st := s_seen) l7 c7 k7
  have kb7 : KBinds K (PySem.W.fnOf "seen" "seen" (defArgs s_seen) (defBody s_seen) (defScope s_seen) .none (.ref w7) dc7 pm7 an7 cd7 ct7) ["tray", "key", "value", "at"] ["at"] (gk 3 1) (gk 3 1) := kbinds rfl (by decide) fun s us ws h1 h2 => match us, h1, ws, h2 with | [_, _, _], _, [_], _ => .of_eq rfl
  have db7 : Binds K (PySem.W.fnOf "seen" "seen" (defArgs s_seen) (defBody s_seen) (defScope s_seen) .none (.ref w7) dc7 pm7 an7 cd7 ct7) ["tray", "key", "value", "at"] [.none] := fun s us hK hl => match us, (show us.length = 3 by simpa using hl) with | [_, _, _], _ => by refine binds_kw3 hK wl7 wk7 wf7 (h₁ := rfl) ?_; rfl
  have F8 := fun_mk (st := s_within) l8 c8 k8
  have b8 := F8.binds (ps := ["tray", "low", "high"]) fun _ _ _ _ _ _ us hl => match us, hl with | [_, _, _], _ => rfl
  have F9 := fun_mk (st := s_without) l9 c9 k9
  have b9 := F9.binds (ps := ["tray", "low", "high"]) fun _ _ _ _ _ _ us hl => match us, hl with | [_, _, _], _ => rfl
  have F10 := fun_mk (st := s_poured) l10 c10 k10
  have b10 := F10.binds (ps := ["tray", "low", "high"]) fun _ _ _ _ _ _ us hl => match us, hl with | [_, _, _], _ => rfl
  have F11 := fun_mk (st := s__law_well) l11 c11 k11
  have b11 := F11.binds (ps := ["_law_cell"]) fun _ _ _ _ _ _ us hl => match us, hl with | [_], _ => rfl
  have F12 := fun_mk (st := s__law_draw) l12 c12 k12
  have b12 := F12.binds (ps := ["_law_well_here", "_law_many"]) fun _ _ _ _ _ _ us hl => match us, hl with | [_, _], _ => rfl
  have F13 := fun_mk (st := s__law_key) l13 c13 k13
  have b13 := F13.binds (ps := ["_law_well_here", "_law_base_here"]) fun _ _ _ _ _ _ us hl => match us, hl with | [_, _], _ => rfl
  have F14 := fun_mk (st := s__law_base) l14 c14 k14
  have b14 := F14.binds (ps := ["_law_well_here"]) fun _ _ _ _ _ _ us hl => match us, hl with | [_], _ => rfl
  have F15 := fun_mk (st := s__law_amount) l15 c15 k15
  have b15 := F15.binds (ps := ["_law_well_here"]) fun _ _ _ _ _ _ us hl => match us, hl with | [_], _ => rfl
  have F16 := fun_mk (st := s__law_stretch) l16 c16 k16
  have b16 := F16.binds (ps := ["_law_well_here", "_law_base_here"]) fun _ _ _ _ _ _ us hl => match us, hl with | [_, _], _ => rfl
  have F17 := fun_mk (st := s__law_action) l17 c17 k17
  have b17 := F17.binds (ps := ["_law_well_here", "_law_is_one"]) fun _ _ _ _ _ _ us hl => match us, hl with | [_, _], _ => rfl
  have F18 := fun_mk (st := s__law_note) l18 c18 k18
  have b18 := F18.binds (ps := ["_law_well_here", "_law_base_here", "_law_number"]) fun _ _ _ _ _ _ us hl => match us, hl with | [_, _, _], _ => rfl
  have F19 := fun_mk (st := s__law_done) l19 c19 k19
  have b19 := F19.binds (ps := ["_law_action_here", "_law_value"]) fun _ _ _ _ _ _ us hl => match us, hl with | [_, _], _ => rfl
  have F20 := fun_mk (st := s__law_tray) l20 c20 k20
  have b20 := F20.binds (ps := ["_law_well_here", "_law_base_here", "_law_many"]) fun _ _ _ _ _ _ us hl => match us, hl with | [_, _, _], _ => rfl
  have F21 := fun_mk (st := s__law_see) l21 c21 k21
  have b21 := F21.binds (ps := ["_law_tray_here", "_law_key_here", "_law_value", "_law_moment"]) fun _ _ _ _ _ _ us hl => match us, hl with | [_, _, _, _], _ => rfl
  have F22 := fun_mk (st := s__law_keys) l22 c22 k22
  have b22 := F22.binds (ps := ["_law_well_here", "_law_base_here", "_law_tray_here"]) fun _ _ _ _ _ _ us hl => match us, hl with | [_, _, _], _ => rfl
  have F23 := fun_mk (st := s__law_cut) l23 c23 k23
  have b23 := F23.binds (ps := ["_law_note_here", "_law_low", "_law_high"]) fun _ _ _ _ _ _ us hl => match us, hl with | [_, _, _], _ => rfl
  have F24 := fun_mk (st := s_law) l24 c24 k24
  refine ⟨PySem.W.fnOf "law" "law" (defArgs s_law) (defBody s_law) (defScope s_law) .none kV24 dc24 pm24 an24 cd24 ct24, fun s v => .of_eq rfl, fun base _ _ => ?_⟩
  have C_half_acts : Callee l.prog w K mg base "half_acts" 1 ["half", "value"] (spHalfActs K) := ⟨f1, _, ok_half_acts F1 B , b1, k1, PySem.W.mg_of X G a1⟩
  have C_does : Callee l.prog w K mg base "does" 2 ["action", "value"] (spDoes K) := ⟨f2, _, ok_does F2 B (C_half_acts := C_half_acts), b2, k2, PySem.W.mg_of X G a2⟩
  have C_has_key : Callee l.prog w K mg base "has_key" 1 ["note", "key"] (spHasKey K) := ⟨f3, _, ok_has_key F3 B , b3, k3, PySem.W.mg_of X G a3⟩
  have C_cut : Callee l.prog w K mg base "cut" 1 ["note", "low", "high"] (spCut K) := ⟨f4, _, ok_cut F4 B , b4, k4, PySem.W.mg_of X G a4⟩
  have C_up_to : Callee l.prog w K mg base "up_to" 1 ["tray", "at"] (spUpTo K) := ⟨f5, _, ok_up_to F5 B , b5, k5, PySem.W.mg_of X G a5⟩
  have C_touching : Callee l.prog w K mg base "touching" 2 ["tray", "key"] (spTouching K) := ⟨f6, _, ok_touching F6 B (C_has_key := C_has_key), b6, k6, PySem.W.mg_of X G a6⟩
  have CK_seen : CalleeK l.prog w K mg base "seen" 3 ["tray", "key", "value", "at"] ["at"] 3 1 (spSeen K) := ⟨f7, _, ok_seen F7 B (C_touching := C_touching) (C_up_to := C_up_to) (C_does := C_does), kb7, k7, PySem.W.mg_of X G a7⟩
  have CD_seen : CalleeD l.prog w K mg base "seen" 3 ["tray", "key", "value", "at"] [.non] (spSeen K) := ⟨f7, _, _, ok_seen F7 B (C_touching := C_touching) (C_up_to := C_up_to) (C_does := C_does), db7, .cons rfl .nil, k7, PySem.W.mg_of X G a7⟩
  have C_within : Callee l.prog w K mg base "within" 2 ["tray", "low", "high"] (spWithin K inF) := ⟨f8, _, ok_within F8 B (C_cut := C_cut), b8, k8, PySem.W.mg_of X G a8⟩
  have C_without : Callee l.prog w K mg base "without" 2 ["tray", "low", "high"] (spWithin K outF) := ⟨f9, _, ok_without F9 B (C_cut := C_cut), b9, k9, PySem.W.mg_of X G a9⟩
  have C_poured : Callee l.prog w K mg base "poured" 3 ["tray", "low", "high"] (spPoured K) := ⟨f10, _, ok_poured F10 B (C_within := C_within) (C_without := C_without), b10, k10, PySem.W.mg_of X G a10⟩
  have C__law_well : Callee l.prog w K mg base "_law_well" 1 ["_law_cell"] (spWell K) := ⟨f11, _, ok__law_well F11 B , b11, k11, PySem.W.mg_of X G a11⟩
  have C__law_draw : Callee l.prog w K mg base "_law_draw" 1 ["_law_well_here", "_law_many"] (spDraw K) := ⟨f12, _, ok__law_draw F12 B , b12, k12, PySem.W.mg_of X G a12⟩
  have C__law_key : Callee l.prog w K mg base "_law_key" 2 ["_law_well_here", "_law_base_here"] (spKeyL K) := ⟨f13, _, ok__law_key F13 B (C__law_draw := C__law_draw), b13, k13, PySem.W.mg_of X G a13⟩
  have C__law_base : Callee l.prog w K mg base "_law_base" 2 ["_law_well_here"] (spBaseL K) := ⟨f14, _, ok__law_base F14 B (C__law_draw := C__law_draw), b14, k14, PySem.W.mg_of X G a14⟩
  have C__law_amount : Callee l.prog w K mg base "_law_amount" 2 ["_law_well_here"] (spAmountL K) := ⟨f15, _, ok__law_amount F15 B (C__law_draw := C__law_draw), b15, k15, PySem.W.mg_of X G a15⟩
  have C__law_stretch : Callee l.prog w K mg base "_law_stretch" 3 ["_law_well_here", "_law_base_here"] (spStretchL K) := ⟨f16, _, ok__law_stretch F16 B (C__law_draw := C__law_draw) (C__law_key := C__law_key), b16, k16, PySem.W.mg_of X G a16⟩
  have C__law_action : Callee l.prog w K mg base "_law_action" 3 ["_law_well_here", "_law_is_one"] (spActionL K) := ⟨f17, _, ok__law_action F17 B (C__law_draw := C__law_draw) (C__law_amount := C__law_amount), b17, k17, PySem.W.mg_of X G a17⟩
  have C__law_note : Callee l.prog w K mg base "_law_note" 4 ["_law_well_here", "_law_base_here", "_law_number"] (spNoteL K) := ⟨f18, _, ok__law_note F18 B (C__law_stretch := C__law_stretch) (C__law_action := C__law_action), b18, k18, PySem.W.mg_of X G a18⟩
  have C__law_done : Callee l.prog w K mg base "_law_done" 1 ["_law_action_here", "_law_value"] (spDone K) := ⟨f19, _, ok__law_done F19 B , b19, k19, PySem.W.mg_of X G a19⟩
  have C__law_tray : Callee l.prog w K mg base "_law_tray" 5 ["_law_well_here", "_law_base_here", "_law_many"] (spTray K) := ⟨f20, _, ok__law_tray F20 B (C__law_draw := C__law_draw) (C__law_note := C__law_note) (C__law_action := C__law_action), b20, k20, PySem.W.mg_of X G a20⟩
  have C__law_see : Callee l.prog w K mg base "_law_see" 2 ["_law_tray_here", "_law_key_here", "_law_value", "_law_moment"] (spSeen K) := ⟨f21, _, ok__law_see F21 B (C__law_done := C__law_done), b21, k21, PySem.W.mg_of X G a21⟩
  have C__law_keys : Callee l.prog w K mg base "_law_keys" 3 ["_law_well_here", "_law_base_here", "_law_tray_here"] (spKeysT K) := ⟨f22, _, ok__law_keys F22 B (C__law_key := C__law_key), b22, k22, PySem.W.mg_of X G a22⟩
  have C__law_cut : Callee l.prog w K mg base "_law_cut" 1 ["_law_note_here", "_law_low", "_law_high"] (spCutL K) := ⟨f23, _, ok__law_cut F23 B , b23, k23, PySem.W.mg_of X G a23⟩
  exact ok_law F24 B (C__law_well := C__law_well) (C__law_base := C__law_base) (C__law_tray := C__law_tray) (C__law_stretch := C__law_stretch) (C_poured := C_poured) (C__law_keys := C__law_keys) (C__law_draw := C__law_draw) (C__law_see := C__law_see) (C__law_cut := C__law_cut) (CD_seen := CD_seen)
theorem walk {l : PySem.W.OpenLaw} {q : Program} {loose : List Str} {XP : (Str → Option Value) → Heap → Prop} {YP : World → Heap → Prop} {d : DefRec} {K : Params → PySem.W.Frag} (hn : l.most = some 63) (hdf : d.params.defaults = [])
    (hY : ∀ (w : World) (h : Heap), YP w h → (K w.params).In h)
    (F : ∀ (w : World) (mg : Str → Option Value) (fa : Addr) (h : Heap), (K w.params).In h → h.Ns mainGlobals mg → mg d.name = some (.ref fa) →
      ∃ fd : FuncData, (∀ (s : Shared) (u : Value), BindsTo s fd ⟨[u], []⟩ [("_law_script", u)]) ∧ ∀ base : Heap, (K w.params).In base → base.Ns mainGlobals mg → FnOk l.prog w (K w.params) mg base CX0 6 fa fd ["_law_script"] (spLaw (K w.params))) :
    PySem.W.WalkO q loose XP YP l.row.toRowW d [] (fun f vs => PySem.call f vs) :=
  L2.walk_of (n := 63) (k := 6) (x := "_law_script") (CX := fun _ => CX0) (sp := fun w => spLaw (K w.params)) hn (by decide) hdf ⟨rfl, by decide, by decide⟩ hY F (fun _ _ a ns hl ho hS => ⟨a, ns, rfl, hS, hl, ho, fun _ => rfl⟩) fun _ _ _ _ _ z => z
end K18
open PySem PySem.W PyProof.Rows
set_option maxRecDepth 100000 in
set_option maxHeartbeats 0 in
theorem PySem.Challenge.cw_notefall_k18_poured_apart_holds : PySem.Challenge.rw_notefall_k18_poured_apart.Holds := by
  w_on; o_law; k_head; (case hw => w_witness2)
  k_fill
  refine K18.walk (l := PySem.Challenge.rw_notefall_k18_poured_apart) rfl rfl (fun w h Y => PySem.W.kIn_of Y) ?F
  case F =>
    intro w mg fa h KX G hmg
    refine' K18.all_mk KX G hmg ?a1 ?l1 ?c1 ?k1 ?a2 ?l2 ?c2 ?k2 ?a3 ?l3 ?c3 ?k3 ?a4 ?l4 ?c4 ?k4 ?a5 ?l5 ?c5 ?k5 ?a6 ?l6 ?c6 ?k6 ?a7 ?l7 ?c7 ?k7 ?wl7 ?wk7 ?wf7 ?a8 ?l8 ?c8 ?k8 ?a9 ?l9 ?c9 ?k9 ?a10 ?l10 ?c10 ?k10 ?a11 ?l11 ?c11 ?k11 ?a12 ?l12 ?c12 ?k12 ?a13 ?l13 ?c13 ?k13 ?a14 ?l14 ?c14 ?k14 ?a15 ?l15 ?c15 ?k15 ?a16 ?l16 ?c16 ?k16 ?a17 ?l17 ?c17 ?k17 ?a18 ?l18 ?c18 ?k18 ?a19 ?l19 ?c19 ?k19 ?a20 ?l20 ?c20 ?k20 ?a21 ?l21 ?c21 ?k21 ?a22 ?l22 ?c22 ?k22 ?a23 ?l23 ?c23 ?k23 ?a24 ?l24 ?c24 ?k24 ?z_len ?z_isinstance ?z_int ?z_range ?z_min ?z_max ?z_list ?z_tuple ?z_GONE ?z_END ?z_kG
    (case a1 => k_is)
    (case l1 => k_is)
    (case c1 => k_is)
    (case k1 => k_is)
    (case a2 => k_is)
    (case l2 => k_is)
    (case c2 => k_is)
    (case k2 => k_is)
    (case a3 => k_is)
    (case l3 => k_is)
    (case c3 => k_is)
    (case k3 => k_is)
    (case a4 => k_is)
    (case l4 => k_is)
    (case c4 => k_is)
    (case k4 => k_is)
    (case a5 => k_is)
    (case l5 => k_is)
    (case c5 => k_is)
    (case k5 => k_is)
    (case a6 => k_is)
    (case l6 => k_is)
    (case c6 => k_is)
    (case k6 => k_is)
    (case a7 => k_is)
    (case l7 => k_is)
    (case c7 => k_is)
    (case k7 => k_is)
    (case wl7 => k_is)
    (case wk7 => first | k_is | rfl | decide +kernel)
    (case wf7 => first | k_is | rfl | decide +kernel)
    (case a8 => k_is)
    (case l8 => k_is)
    (case c8 => k_is)
    (case k8 => k_is)
    (case a9 => k_is)
    (case l9 => k_is)
    (case c9 => k_is)
    (case k9 => k_is)
    (case a10 => k_is)
    (case l10 => k_is)
    (case c10 => k_is)
    (case k10 => k_is)
    (case a11 => k_is)
    (case l11 => k_is)
    (case c11 => k_is)
    (case k11 => k_is)
    (case a12 => k_is)
    (case l12 => k_is)
    (case c12 => k_is)
    (case k12 => k_is)
    (case a13 => k_is)
    (case l13 => k_is)
    (case c13 => k_is)
    (case k13 => k_is)
    (case a14 => k_is)
    (case l14 => k_is)
    (case c14 => k_is)
    (case k14 => k_is)
    (case a15 => k_is)
    (case l15 => k_is)
    (case c15 => k_is)
    (case k15 => k_is)
    (case a16 => k_is)
    (case l16 => k_is)
    (case c16 => k_is)
    (case k16 => k_is)
    (case a17 => k_is)
    (case l17 => k_is)
    (case c17 => k_is)
    (case k17 => k_is)
    (case a18 => k_is)
    (case l18 => k_is)
    (case c18 => k_is)
    (case k18 => k_is)
    (case a19 => k_is)
    (case l19 => k_is)
    (case c19 => k_is)
    (case k19 => k_is)
    (case a20 => k_is)
    (case l20 => k_is)
    (case c20 => k_is)
    (case k20 => k_is)
    (case a21 => k_is)
    (case l21 => k_is)
    (case c21 => k_is)
    (case k21 => k_is)
    (case a22 => k_is)
    (case l22 => k_is)
    (case c22 => k_is)
    (case k22 => k_is)
    (case a23 => k_is)
    (case l23 => k_is)
    (case c23 => k_is)
    (case k23 => k_is)
    (case a24 => k_is)
    (case l24 => k_is)
    (case c24 => k_is)
    (case k24 => k_is)
    (case z_len => k_is)
    (case z_isinstance => k_is)
    (case z_int => k_is)
    (case z_range => k_is)
    (case z_min => k_is)
    (case z_max => k_is)
    (case z_list => k_is)
    (case z_tuple => k_is)
    (case z_GONE => k_is)
    (case z_END => k_is)
    (case z_kG => k_is)

