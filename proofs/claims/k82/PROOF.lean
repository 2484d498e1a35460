import PyProof.Rows.All
import Wide.All
import OpenK.AllK
import Wide.FinOn
import Lean
import PyProof.EqAt
import PyProof.EqKinds
import PyProof.TupleCall
import PySem.Challenge.RW_notefall_k82_shelves_cut
set_option Elab.async false
set_option linter.all false
set_option maxRecDepth 100000
namespace L2
open PySem PySem.Spec PyProof.Rows
abbrev Key := Sum Int Str
def keyIs : Key → Value → Bool
  | .inl k, v => Value.isInt k v
  | .inr x, v => Value.isStrOf x v
def keyH (w : World) : Key → Int
  | .inl k => hashInt k
  | .inr x => hashStr w x
theorem keyIs_shape : ∀ {k : Key} {v : Value}, keyIs k v = true → (∃ i t, k = Sum.inl i ∧ v = Value.int i t) ∨ (∃ x t, k = Sum.inr x ∧ v = Value.str x t)
  | .inl i, v, h => by
    obtain ⟨t, e⟩ := Value.isInt_shape (k := i) (v := v) h
    exact .inl ⟨i, t, rfl, e⟩
  | .inr x, v, h => by
    obtain ⟨t, e⟩ := Value.isStrOf_shape (x := x) (v := v) h
    exact .inr ⟨x, t, rfl, e⟩
theorem keyIs_int (i : Int) (t : Tok) : keyIs (.inl i) (.int i t) = true := by simp [keyIs, Value.isInt]
theorem keyIs_str (x : Str) (t : Tok) : keyIs (.inr x) (.str x t) = true := by simp [keyIs, Value.isStrOf]
theorem key_ll (a b : Int) : decide ((Sum.inl a : Key) = Sum.inl b) = (a == b) := by
  by_cases e : a = b
  · subst e; simp
  · have h : ¬ (Sum.inl a : Key) = Sum.inl b := fun q => e (Sum.inl.inj q)
    rw [decide_eq_false h]
    exact (beq_eq_false_iff_ne.mpr e).symm
theorem key_rr (a b : Str) : decide ((Sum.inr a : Key) = Sum.inr b) = decide (a = b) := by
  by_cases e : a = b
  · subst e; simp
  · have h : ¬ (Sum.inr a : Key) = Sum.inr b := fun q => e (Sum.inr.inj q)
    rw [decide_eq_false h, decide_eq_false e]
theorem key_lr (a : Int) (b : Str) : decide ((Sum.inl a : Key) = Sum.inr b) = false := decide_eq_false (fun q => nomatch q)
theorem key_rl (a : Str) (b : Int) : decide ((Sum.inr a : Key) = Sum.inl b) = false := decide_eq_false (fun q => nomatch q)
def mixKind (prog : Program) (w : World) : PySem.KeyKind prog w Key where
  is := keyIs
  hash := keyH w
  inj := fun v a b ha hb => by
    rcases keyIs_shape ha with ⟨i, t, rfl, rfl⟩ | ⟨x, t, rfl, rfl⟩
    · rcases keyIs_shape hb with ⟨j, u, rfl, e⟩ | ⟨y, u, rfl, e⟩
      · injection e with e1 _; rw [e1]
      · exact nomatch e
    · rcases keyIs_shape hb with ⟨j, u, rfl, e⟩ | ⟨y, u, rfl, e⟩
      · exact nomatch e
      · injection e with e1 _; rw [e1]
  byValue := fun k v h => by
    rcases keyIs_shape h with ⟨i, t, rfl, rfl⟩ | ⟨x, t, rfl, rfl⟩ <;> rfl
  pyHash := fun hv h => by
    rcases keyIs_shape hv with ⟨i, t, rfl, rfl⟩ | ⟨x, t, rfl, rfl⟩
    · exact wpAny_pyHash_int h
    · exact wpAny_pyHash_str h
  eqBool := fun hu hv h => by
    rcases keyIs_shape hu with ⟨i, t, rfl, rfl⟩ | ⟨x, t, rfl, rfl⟩
    · rcases keyIs_shape hv with ⟨j, u, rfl, rfl⟩ | ⟨y, u, rfl, rfl⟩
      · rw [key_ll] at h; exact wpAny_eqBool_int h
      · rw [key_lr] at h; exact SeqAt.EqAt.int_str i t y u _ _ _ _ h
    · rcases keyIs_shape hv with ⟨j, u, rfl, rfl⟩ | ⟨y, u, rfl, rfl⟩
      · rw [key_rl] at h; exact SeqAt.EqAt.str_int x t j u _ _ _ _ h
      · rw [key_rr] at h; exact wpAny_eqBool_str h
  «strs» := fun k x t v h => by
    rcases keyIs_shape h with ⟨i, u, rfl, e⟩ | ⟨y, u, rfl, e⟩
    · exact nomatch e
    · injection e with e1 _
      subst e1
      cases v <;> rfl
theorem mixKind_int (prog : Program) (w : World) (i : Int) (t : Tok) : (mixKind prog w).is (.inl i) (.int i t) = true := keyIs_int i t
theorem mixKind_str (prog : Program) (w : World) (x : Str) (t : Tok) : (mixKind prog w).is (.inr x) (.str x t) = true := keyIs_str x t
end L2
namespace L2
open PySem PySem.Spec PyProof.Rows
inductive V where
  | non | bl (b : Bool) | int (i : Int) | str (x : Str) | byt (b : Array UInt8) | flt (b : UInt64) | ref (a : Addr) | ty (n : String)
  deriving DecidableEq
def RelV : V → Value → Prop
  | .non, u => u = Value.none
  | .bl b, u => u = Value.bool b
  | .int i, u => ∃ t, u = Value.int i t
  | .str x, u => ∃ t, u = Value.str x t
  | .byt b, u => ∃ t, u = Value.bytes b t
  | .flt b, u => ∃ t, u = Value.float b t
  | .ref a, u => u = Value.ref a
  | .ty n, u => u = Value.type n
abbrev Vals : List V → List Value → Prop := Paired RelV
theorem Vals.length {xs : List V} {us : List Value} (r : Vals xs us) : xs.length = us.length := Paired.length r
theorem Vals.get : ∀ {xs : List V} {us : List Value} {i : Nat} {x : V}, Vals xs us → xs[i]? = some x → ∃ u, us[i]? = some u ∧ RelV x u
  | _, _, _, _, .nil, e => by simp at e
  | _, _, 0, _, .cons r _, e => by simp at e; subst e; exact ⟨_, rfl, r⟩
  | _, _, i + 1, x, .cons _ t, e => by
    obtain ⟨u, h1, h2⟩ := Vals.get (i := i) (x := x) t (by simpa using e)
    exact ⟨u, by simpa using h1, h2⟩
theorem Vals.set {x : V} {u : Value} (r : RelV x u) : ∀ {xs : List V} {us : List Value} (i : Nat), Vals xs us → Vals (xs.set i x) (us.set i u)
  | _, _, _, .nil => .nil
  | _, _, 0, .cons _ t => .cons r t
  | _, _, i + 1, .cons q t => .cons q (Vals.set r i t)
theorem Vals.append : ∀ {xs ys : List V} {us ws : List Value}, Vals xs us → Vals ys ws → Vals (xs ++ ys) (us ++ ws)
  | _, _, _, _, .nil, s => s
  | _, _, _, _, .cons r t, s => .cons r (Vals.append t s)
theorem Vals.take : ∀ {xs : List V} {us : List Value} (n : Nat), Vals xs us → Vals (xs.take n) (us.take n)
  | _, _, 0, _ => .nil
  | _, _, _ + 1, .nil => .nil
  | _, _, n + 1, .cons r t => .cons r (Vals.take n t)
theorem Vals.drop : ∀ {xs : List V} {us : List Value} (n : Nat), Vals xs us → Vals (xs.drop n) (us.drop n)
  | _, _, 0, r => r
  | _, _, _ + 1, .nil => .nil
  | _, _, n + 1, .cons _ t => Vals.drop n t
theorem Vals.none_of : ∀ {xs : List V} {us : List Value} {i : Nat}, Vals xs us → xs[i]? = none → us[i]? = none := fun {xs us i} r e => by
  have h1 := r.length
  have h2 : xs.length ≤ i := List.getElem?_eq_none_iff.mp e
  exact List.getElem?_eq_none_iff.mpr (by omega)
def RelO : Option V → Option Value → Prop
  | some v, some u => RelV v u
  | none, none => True
  | _, _ => False
def KV {κ : Type} : List (κ × V) → List (κ × Value) → Prop := Paired fun (p : κ × V) (q : κ × Value) => p.1 = q.1 ∧ RelV p.2 q.2
def kV : Key → V
  | .inl i => .int i
  | .inr x => .str x
inductive HO where
  | lst (xs : List V)
  | tup (xs : List V)
  | dK (kvs : List (Key × V)) | dT (kvs : List (List Key × V))
  | set (S : Int → Bool) (n : Nat)
  | ins (C dx : Addr) (fs : List (Str × V))
  | own (x : Addr)
  | xd (fs : List (Str × V))
  | met (f x : Addr)
  | rng (lo hi : Int)
  | frz (o : Obj) (u : HO)
  | tbl (ps : Array Value)
  | ext (φ : Heap → Prop)
abbrev Hp := Addr → Option HO
def upd (H : Hp) (a : Addr) (o : HO) : Hp := fun b => if b = a then some o else H b
theorem upd_same {H : Hp} {a : Addr} {o : HO} : upd H a o a = some o := by unfold upd; rw [if_pos rfl]
theorem upd_ne {H : Hp} {a b : Addr} {o : HO} (h : b ≠ a) : upd H a o b = H b := by unfold upd; rw [if_neg h]
theorem upd_upd {H : Hp} {a : Addr} {o u : HO} : upd (upd H a o) a u = upd H a u := by
  funext b; unfold upd; split <;> rfl
theorem ne_of {H : Hp} {a b : Addr} {o u : HO} (h : H a = some o) (h' : H b = some u) (d : o ≠ u) : a ≠ b := by
  intro e; subst e; rw [h] at h'; exact d (Option.some.inj h')
theorem ne_of_none {H : Hp} {a b : Addr} {o : HO} (h : H a = some o) (h' : H b = none) : a ≠ b := by
  intro e; subst e; rw [h] at h'; cases h'
section
variable (P : Program) (w : World)
def ObjOk (H : Hp) (h : Heap) (a : Addr) : HO → Prop
  | .lst xs => xs.length ≤ sizeLine ∧ ∃ (its : List Value) (n : Nat), Vals xs its ∧ h.get? a = some { cls := .type "list", data := .seq its.toArray n }
  | .tup xs => xs.length ≤ sizeLine ∧ ∃ its : List Value, Vals xs its ∧ IsTup h a its.toArray
  | .dK kvs => kvs.length ≤ sizeLine ∧ (a == sysModules) = false ∧ ∃ vs, KV kvs vs ∧ h.DictOf (mixKind P w) a vs
  | .dT kvs => kvs.length ≤ sizeLine ∧ (a == sysModules) = false ∧ ∃ xs : List (List Key × Addr × Value),
      Paired (fun (p : List Key × V) (q : List Key × Addr × Value) => p.1 = q.1 ∧ H q.2.1 = some (.tup (p.1.map kV)) ∧ RelV p.2 q.2.2) kvs xs ∧
      ∃ o es ep, h.get? a = some o ∧ o.ExactDict ∧ o.data = .dict es ep ∧ es.toList = xs.map (entryOfKey (tupleKind (mixKind P w))) ∧ (xs.map (·.1)).Nodup
  | .set S n => h.SetOf (intKind P w) a S n
  | .ins C dx fs => H dx = some (.own a) ∧ fs.length ≤ 1000 ∧ dx ≠ a ∧ h.get? a = some (PySem.W.instObj C dx) ∧
      ∃ mA, h.Ns1 dx mA ∧ (∀ f, RelO (fs.lookup f) (mA f)) ∧ PySem.Within mA (fs.map (·.1))
  | .own _ => ∃ o, h.get? a = some o
  | .xd fs => ∃ mA, h.Ns1 a mA ∧ ∀ f, RelO (fs.lookup f) (mA f)
  | .rng lo hi => ∃ t u v, h.get? a = some { cls := .type "range", data := .fields #[.int lo t, .int hi u, .int 1 v] }
  | .frz o u => h.get? a = some o ∧ ObjOk H h a u
  | .tbl ps => h.get? a = some { cls := .none, data := .fields ps }
  | .met f x => h.get? a = some (PySem.W.methodObj (.ref f) (.ref x))
  | .ext φ => φ h ∧ (∃ o, h.get? a = some o) ∧ ∀ h1 h2 : Heap, φ h1 → (∀ o, h1.get? a = some o → h2.get? a = some o) → φ h2
def HOk (H : Hp) (h : Heap) : Prop := ∀ a o, H a = some o → ObjOk P w H h a o
end
section
variable {P : Program} {w : World} {H H' : Hp} {h h' : Heap} {a : Addr} {o : HO}
theorem ObjOk.lt (x : ObjOk P w H h a o) : a < h.objs.size := by
  cases o with
  | lst xs => obtain ⟨_, _, _, _, e⟩ := x; exact Heap.lt_size e
  | tup xs => obtain ⟨_, _, _, p⟩ := x; exact p.lt
  | dK kvs => obtain ⟨_, _, _, _, o, _, _, e, _⟩ := x; exact Heap.lt_size e
  | dT kvs => obtain ⟨_, _, _, _, o, _, _, e, _⟩ := x; exact Heap.lt_size e
  | set S n => obtain ⟨o, _, _, _, e, _⟩ := x; exact Heap.lt_size e
  | ins C dx fs => obtain ⟨_, _, _, e, _⟩ := x; exact Heap.lt_size e
  | own y => obtain ⟨_, e⟩ := x; exact Heap.lt_size e
  | xd fs => obtain ⟨_, ⟨_, _, _, e, _⟩, _⟩ := x; exact Heap.lt_size e
  | rng lo hi => obtain ⟨_, _, _, e⟩ := x; exact Heap.lt_size e
  | frz ob u => obtain ⟨e, _⟩ := x; exact Heap.lt_size e
  | tbl ps => exact Heap.lt_size (show h.get? a = some _ from x)
  | met f y => exact Heap.lt_size (show h.get? a = some _ from x)
  | ext φ => obtain ⟨_, ⟨_, e⟩, _⟩ := x; exact Heap.lt_size e
theorem Paired.mapP {α β : Type} {F G : α → β → Prop} : ∀ {l₁ : List α} {l₂ : List β}, Paired F l₁ l₂ → (∀ a b, F a b → G a b) → Paired G l₁ l₂
  | _, _, .nil, _ => .nil
  | _, _, .cons r t, f => .cons (f _ _ r) (Paired.mapP t f)
theorem ObjOk.stay (x : ObjOk P w H h a o) (k : ∀ b u, (b = a ∨ H b = some (.own a)) → h.get? b = some u → h'.get? b = some u)
    (ho : ∀ b, H b = some (.own a) → H' b = some (.own a)) (ht : ∀ b xs, H b = some (.tup xs) → H' b = some (.tup xs)) : ObjOk P w H' h' a o := by
  induction o with
  | lst xs => obtain ⟨z, its, n, r, e⟩ := x; exact ⟨z, its, n, r, k _ _ (.inl rfl) e⟩
  | tup xs => obtain ⟨z, its, r, ob, e, c⟩ := x; exact ⟨z, its, r, ob, k _ _ (.inl rfl) e, c⟩
  | dK kvs => obtain ⟨z, y, vs, r, ob, es, ep, e, c⟩ := x; exact ⟨z, y, vs, r, ob, es, ep, k _ _ (.inl rfl) e, c⟩
  | dT kvs =>
    obtain ⟨z, y, xs, r, ob, es, ep, e, c⟩ := x
    exact ⟨z, y, xs, Paired.mapP r fun p q z => ⟨z.1, ht _ _ z.2.1, z.2.2⟩, ob, es, ep, k _ _ (.inl rfl) e, c⟩
  | set S n => obtain ⟨ob, es, ep, t, e, c⟩ := x; exact ⟨ob, es, ep, t, k _ _ (.inl rfl) e, c⟩
  | ins C dx fs =>
    obtain ⟨d, z, ne, e, mA, ⟨od, es, ep, e2, c⟩, r⟩ := x
    exact ⟨ho _ d, z, ne, k _ _ (.inl rfl) e, mA, ⟨od, es, ep, k _ _ (.inr d) e2, c⟩, r⟩
  | own y => obtain ⟨ob, e⟩ := x; exact ⟨ob, k _ _ (.inl rfl) e⟩
  | xd fs => obtain ⟨mA, ⟨od, es, ep, e, c⟩, r⟩ := x; exact ⟨mA, ⟨od, es, ep, k _ _ (.inl rfl) e, c⟩, r⟩
  | rng lo hi => obtain ⟨t, u, v, e⟩ := x; exact ⟨t, u, v, k _ _ (.inl rfl) e⟩
  | frz ob u ih => obtain ⟨e, q⟩ := x; exact ⟨k _ _ (.inl rfl) e, ih q⟩
  | tbl ps =>
    have e : h.get? a = some { cls := .none, data := .fields ps } := x
    show h'.get? a = some { cls := .none, data := .fields ps }
    exact k a _ (.inl rfl) e
  | met f y =>
    have e : h.get? a = some (PySem.W.methodObj (.ref f) (.ref y)) := x
    show h'.get? a = some (PySem.W.methodObj (.ref f) (.ref y))
    exact k a _ (.inl rfl) e
  | ext φ => obtain ⟨p, ⟨o, e⟩, st⟩ := x; exact ⟨st _ _ p fun o q => k _ _ (.inl rfl) q, ⟨o, k _ _ (.inl rfl) e⟩, st⟩
theorem HOk.lt (x : HOk P w H h) (e : H a = some o) : a < h.objs.size := (x a o e).lt
theorem HOk.fresh (x : HOk P w H h) (e : h.objs.size ≤ a) : H a = none := by
  cases q : H a with
  | none => rfl
  | some u => exact absurd (Nat.lt_of_lt_of_le (x.lt q) e) (Nat.lt_irrefl _)
theorem HOk.kept (x : HOk P w H h) (k : ∀ b u, h.get? b = some u → h'.get? b = some u) : HOk P w H h' := fun a o e =>
  (x a o e).stay (fun b u _ q => k b u q) (fun _ q => q) fun _ _ q => q
theorem HOk.laid (x : HOk P w H h) (k : ∀ b u, h.get? b = some u → h'.get? b = some u) (hp : h.objs.size ≤ a) (new : ObjOk P w (upd H a o) h' a o) : HOk P w (upd H a o) h' := fun b u e => by
  have hn := x.fresh hp
  by_cases hb : b = a
  · subst hb; rw [upd_same] at e; cases e; exact new
  · rw [upd_ne hb] at e
    exact (x b u e).stay (fun c v _ q => k c v q) (fun c q => by rw [upd_ne (ne_of_none q hn)]; exact q) fun c xs q => by rw [upd_ne (ne_of_none q hn)]; exact q
end
def Rd (H : Hp) (a : Addr) (u : HO) : Prop := H a = some u ∨ ∃ o, H a = some (.frz o u)
theorem Rd.of {H : Hp} {a : Addr} {u : HO} (h : H a = some u) : Rd H a u := .inl h
theorem Rd.ok {P : Program} {w : World} {H : Hp} {h : Heap} {a : Addr} {u : HO} (r : Rd H a u) (x : HOk P w H h) : ObjOk P w H h a u := by
  rcases r with r | ⟨o, r⟩
  · exact x a u r
  · obtain ⟨_, q⟩ := x a _ r
    exact q
def Mut : Option HO → Prop
  | some (.lst _) => True
  | some (.dK _) => True
  | some (.dT _) => True
  | some (.set _ _) => True
  | some (.ins _ _ _) => True
  | some (.ext _) => True
  | _ => False
section
variable {P : Program} {w : World} {H : Hp} {h h' : Heap} {x e : Addr} {o' : HO}
theorem HOk.write (ok : HOk P w H h) (mu : Mut (H x)) (he : e = x ∨ H e = some (.own x)) (k : ∀ b u, b ≠ e → h.get? b = some u → h'.get? b = some u) (heo : ∃ u, h'.get? e = some u)
    (new : ObjOk P w (upd H x o') h' x o') : HOk P w (upd H x o') h' := fun b u q => by
  have nown : ∀ c y, H c = some (.own y) → c ≠ x := fun c y r z => by subst z; rw [r] at mu; exact mu
  have ntup : ∀ c xs, H c = some (.tup xs) → c ≠ x := fun c xs r z => by subst z; rw [r] at mu; exact mu
  by_cases hb : b = x
  · subst hb; rw [upd_same] at q; cases q; exact new
  · rw [upd_ne hb] at q
    by_cases hbe : b = e
    · have q' : H b = some (.own x) := by
        rcases he with z | z
        · exact absurd (hbe.trans z) hb
        · rw [hbe]; exact z
      rw [q] at q'; cases q'
      obtain ⟨v, hv⟩ := heo
      exact ⟨v, by rw [hbe]; exact hv⟩
    · refine (ok b u q).stay (fun c v hc r => k c v ?_ r) (fun c r => by rw [upd_ne (nown c b r)]; exact r) fun c xs r => by rw [upd_ne (ntup c xs r)]; exact r
      rcases hc with rfl | hc
      · exact hbe
      · rintro rfl
        rcases he with z | z
        · exact nown c b hc z
        · rw [hc] at z; cases z; exact hb rfl
end
structure Un (fs ex : List Addr) (H H' : Hp) (h h' : Heap) : Prop where
  keep : ∀ b o, h.get? b = some o → H b = none → b ∉ fs → b ∉ ex → h'.get? b = some o
  slot : ∀ b o, h.get? b = some o → H b = none → b ∈ fs → b ∉ ex → ∃ sl, h'.get? b = some { o with slots := sl }
  free : ∀ b o, h.get? b = some o → H b = none → b ∉ ex → H' b = none
  there : ∀ b o, h.get? b = some o → b ∉ ex → ∃ o', h'.get? b = some o'
  tups : ∀ b xs, H b = some (.tup xs) → H' b = some (.tup xs)
  frzs : ∀ b o u, H b = some (.frz o u) → H' b = some (.frz o u)
  tbls : ∀ b ps, H b = some (.tbl ps) → ∃ more, H' b = some (.tbl (ps ++ more))
section
variable {fs fs' ex ex' : List Addr} {H H1 H2 : Hp} {h h1 h2 h' : Heap} {a x e : Addr} {o : HO}
theorem Un.any (u : Un fs ex H H1 h h1) {b : Addr} {ob : Obj} (q : h.get? b = some ob) (n : H b = none) (hx : b ∉ ex) : ∃ sl, h1.get? b = some { ob with slots := sl } := by
  by_cases hb : b ∈ fs
  · exact u.slot b ob q n hb hx
  · exact ⟨ob.slots, u.keep b ob q n hb hx⟩
theorem Un.trans (a : Un fs ex H H1 h h1) (b : Un fs ex H1 H2 h1 h2) : Un fs ex H H2 h h2 where
  keep := fun c ob q n hc hx => b.keep c ob (a.keep c ob q n hc hx) (a.free c ob q n hx) hc hx
  slot := fun c ob q n hc hx => by
    obtain ⟨sl, e1⟩ := a.slot c ob q n hc hx
    obtain ⟨sl', e2⟩ := b.slot c _ e1 (a.free c ob q n hx) hc hx
    exact ⟨sl', e2⟩
  free := fun c ob q n hx => by
    obtain ⟨o', e1⟩ := a.there c ob q hx
    exact b.free c o' e1 (a.free c ob q n hx) hx
  there := fun c ob q hx => by
    obtain ⟨o', e1⟩ := a.there c ob q hx
    exact b.there c o' e1 hx
  tups := fun c xs q => b.tups c xs (a.tups c xs q)
  frzs := fun c ob xs q => b.frzs c ob xs (a.frzs c ob xs q)
  tbls := fun c ps q => by
    obtain ⟨m1, e1⟩ := a.tbls c ps q
    obtain ⟨m2, e2⟩ := b.tbls c _ e1
    exact ⟨m1 ++ m2, by rw [e2, Array.append_assoc]⟩
theorem Un.kept (k : ∀ b u, h.get? b = some u → h'.get? b = some u) : Un fs ex H H h h' :=
  ⟨fun b ob q _ _ _ => k b ob q, fun b ob q _ _ _ => ⟨ob.slots, k b ob q⟩, fun _ _ _ n _ => n, fun b ob q _ => ⟨ob, k b ob q⟩, fun _ _ q => q, fun _ _ _ q => q, fun _ ps q => ⟨#[], by rw [q]; simp⟩⟩
theorem Un.refl : Un fs ex H H h h := Un.kept fun _ _ q => q
theorem Un.laid (k : ∀ b u, h.get? b = some u → h'.get? b = some u) (hp : h.objs.size ≤ a) (hn : H a = none) : Un fs ex H (upd H a o) h h' where
  keep := fun b u q _ _ _ => k b u q
  slot := fun b u q _ _ _ => ⟨u.slots, k b u q⟩
  free := fun b u q n _ => by rw [upd_ne (Nat.ne_of_lt (Nat.lt_of_lt_of_le (Heap.lt_size q) hp))]; exact n
  there := fun b u q _ => ⟨u, k b u q⟩
  tups := fun b xs q => by rw [upd_ne (ne_of_none q hn)]; exact q
  frzs := fun b u xs q => by rw [upd_ne (ne_of_none q hn)]; exact q
  tbls := fun b ps q => ⟨#[], by rw [upd_ne (ne_of_none q hn), q]; simp⟩
theorem Un.write (mu : Mut (H x)) (he : e = x ∨ H e = some (.own x)) (k : ∀ b u, b ≠ e → h.get? b = some u → h'.get? b = some u) (heo : ∃ u, h'.get? e = some u) : Un fs ex H (upd H x o) h h' := by
  have hx : ∀ b, H b = none → b ≠ x := fun b n z => by subst z; rw [n] at mu; exact mu
  have hb : ∀ b, H b = none → b ≠ e := fun b n z => by
    subst z
    rcases he with r | r
    · exact hx b n r
    · rw [n] at r; cases r
  have hm : ∀ b u, H b = some u → ¬ Mut (some u) → b ≠ x := fun b u q nm z => by subst z; rw [q] at mu; exact nm mu
  refine ⟨fun b u q n _ _ => k b u (hb b n) q, fun b u q n _ _ => ⟨u.slots, k b u (hb b n) q⟩, fun b u q n _ => by rw [upd_ne (hx b n)]; exact n, fun b u q _ => ?_,
    fun b xs q => by rw [upd_ne (hm b _ q fun z => z)]; exact q, fun b u xs q => by rw [upd_ne (hm b _ q fun z => z)]; exact q, fun b ps q => ⟨#[], by rw [upd_ne (hm b _ q fun z => z), q]; simp⟩⟩
  by_cases hbe : b = e
  · subst hbe; exact heo
  · exact ⟨u, k b u hbe q⟩
theorem Un.mono (u : Un fs ex H H1 h h1) (hs : ∀ b ∈ fs, b ∈ fs') (hx : ∀ b ∈ ex, b ∈ ex') : Un fs' ex' H H1 h h1 :=
  ⟨fun b ob q n hb he => u.keep b ob q n (fun z => hb (hs b z)) fun z => he (hx b z), fun _ _ q n _ he => u.any q n fun z => he (hx _ z), fun b ob q n he => u.free b ob q n fun z => he (hx b z), fun b ob q he => u.there b ob q fun z => he (hx b z), u.tups, u.frzs, u.tbls⟩
end
def trk (h : Heap) (H : Hp) : List Addr := (List.range h.objs.size).filter fun a => (H a).isSome
def hidT (h : Heap) (H : Hp) : Heap := PySem.W.hideAll h (trk h H)
theorem hidT_size (h : Heap) (H : Hp) : (hidT h H).objs.size = h.objs.size := PySem.W.hideAll_size _ _
theorem hidT_get {h : Heap} {H : Hp} {b : Addr} {o : Obj} (e : h.get? b = some o) (n : H b = none) : (hidT h H).get? b = some o :=
  PySem.W.hideAll_get _ e fun hm => by
    have q : (H b).isSome = true := (List.mem_filter.mp hm).2
    rw [n] at q; simp at q
theorem of_hidT {h : Heap} {H : Hp} {b : Addr} {o : Obj} (e : (hidT h H).get? b = some o) : h.get? b = some o ∧ H b = none := by
  have e' : h.get? b = some o := PySem.W.of_hideAll (trk h H) e
  refine ⟨e', ?_⟩
  cases q : H b with
  | none => rfl
  | some x =>
    have hm : b ∈ trk h H := List.mem_filter.mpr ⟨List.mem_range.mpr (Heap.lt_size e'), by simp [q]⟩
    have z : (hidT h H).get? b = none := PySem.W.hideAll_none (trk h H) hm
    rw [z] at e; cases e
def allNews (g h : Heap) (L : Addr) : List (Addr × Obj) := (List.range h.objs.size).filterMap fun a => if a = L ∨ (g.get? a).isSome = true then none else (h.get? a).map fun o => (a, o)
def rest (g h : Heap) (L d : Addr) : List (Addr × Obj) := (allNews g h L).filter fun p => decide (p.1 ≠ d)
end L2
namespace L2
open PySem PySem.Spec PyProof.Rows
structure Mod (K : PySem.W.Frag) (mg : Str → Option Value) (base : Heap) : Prop where
  kin : K.In base
  glob : base.Ns mainGlobals mg
  blt : ∃ mb, base.Ns builtinsNs mb ∧ ∀ x : Str, x ≠ "__name__" → mb x = bootBuiltins x
  nolimit : base.NoLimit
structure Cx where
  prog : Program
  w : World
  K : PySem.W.Frag
  mg : Str → Option Value
  base : Heap
  A : Around
  N : List Str
  s₀ : Shared
  H₀ : Hp
  env : Env
  outer : List Env
  stack : List Env
  ex : List Addr
  fn : Str → Bool
  calm : Bool
  pn : List (Addr × Obj)
  xe : Value → Shared → Prop
def frs (l : List Env) : List Addr := l.filterMap (·.frame)
abbrev Cx.fs (X : Cx) : List Addr := frs X.outer
def Vis (sc : Scope) (x : Str) : Prop := sc.names.lookup x = some .local ∨ sc.names.lookup x = some .cell ∨ sc.names.lookup x = some .free
def Loc (sc : Scope) (x : Str) : Prop := sc.names.lookup x = some .local ∨ sc.names.lookup x = some .cell
def Look (env : Env) (h : Heap) (m : Str → Option Value) (x : Str) (u : Value) : Prop :=
  (env.kindOf x = some .local ∧ m x = some u) ∨ ((env.kindOf x = some .cell ∨ env.kindOf x = some .free) ∧ ∃ c, env.cells.lookup x = some c ∧ h.IsCell c (some u))
structure Cx.Ok (X : Cx) : Prop where
  mod : Mod X.K X.mg X.base
  kind : X.env.scope.kind = .function
  glob : X.env.globals = mainGlobals
  blt : X.env.builtins = builtinsNs
  above : X.s₀.heap.objs.size ≤ X.env.locals
  inj : ∀ x y c, X.env.cells.lookup x = some c → X.env.cells.lookup y = some c → x = y
  has : ∀ x, (X.env.kindOf x = some .cell ∨ X.env.kindOf x = some .free) → ∃ c, X.env.cells.lookup x = some c
  cab : ∀ x c, X.fn x = true → X.env.cells.lookup x = some c → X.s₀.heap.objs.size ≤ c
  hd : X.calm = true → X.A.handled = none
  frames : X.A.frames = some X.stack
  stk : X.stack = X.outer ∨ (X.stack = X.env :: X.outer ∧ X.env.frame = some X.env.locals)
  exf : ∀ b ∈ X.ex, b ≠ X.env.locals ∧ ∀ x c, X.env.cells.lookup x = some c → c ≠ b
  bs : ∀ b o, X.base.get? b = some o → X.s₀.heap.get? b = some o ∧ X.H₀ b = none
  bsz : X.base.objs.size ≤ X.s₀.heap.objs.size
  noex : ∀ b o, X.base.get? b = some o → b ∉ X.ex
  exfs : ∀ b ∈ X.ex, b ∉ X.fs
  funs : X.s₀.heap.FunFrames X.base X.outer
  frf : ∀ b ∈ X.fs, X.H₀ b = none
structure Inv (X : Cx) (pins : List (Addr × Obj)) (σ : List (Option V)) (H : Hp) (s : Shared) : Prop where
  ok : X.Ok
  os : s.os = X.s₀.os
  bare : AllBare s.gens
  base : Un X.fs X.ex X.H₀ H X.s₀.heap s.heap
  loc : ∃ m, s.heap.Ns X.env.locals m ∧ ∀ (i : Nat) (x : Str) (v : V), X.N[i]? = some x → σ[i]? = some (some v) → Vis X.env.scope x → ∃ u, RelV v u ∧ Look X.env s.heap m x u
  cell : ∀ x c, X.env.cells.lookup x = some c → ∃ v, s.heap.IsCell c v
  free : H X.env.locals = none
  freeC : ∀ x c, X.env.cells.lookup x = some c → H c = none
  pin : ∀ p ∈ X.pn ++ pins, s.heap.get? p.1 = some p.2 ∧ H p.1 = none ∧ p.1 ≠ X.env.locals ∧ p.1 ∉ X.fs ∧ ∀ v, p.2.data ≠ .cell v
  hok : HOk X.prog X.w H s.heap
  len : σ.length = X.N.length
section
variable {X : Cx} {pins : List (Addr × Obj)} {σ : List (Option V)} {H H' : Hp} {s : Shared} {h' : Heap}
theorem Cx.Ok.nofr (ok : X.Ok) {b : Addr} {o : Obj} (e : X.base.get? b = some o) : b ∉ X.fs := fun hb => by
  have := (ok.funs.mem hb).1
  rw [e] at this; cases this
theorem Inv.bs (I : Inv X pins σ H s) : ∀ b o, X.base.get? b = some o → s.heap.get? b = some o ∧ H b = none := fun b o e =>
  ⟨I.base.keep b o (I.ok.bs b o e).1 (I.ok.bs b o e).2 (I.ok.nofr e) (I.ok.noex b o e), I.base.free b o (I.ok.bs b o e).1 (I.ok.bs b o e).2 (I.ok.noex b o e)⟩
theorem Inv.bk (I : Inv X pins σ H s) : ∀ b o, X.base.get? b = some o → s.heap.get? b = some o := fun b o e => (I.bs b o e).1
theorem Inv.mod (I : Inv X pins σ H s) : Mod X.K X.mg X.base := I.ok.mod
theorem Inv.kIn (I : Inv X pins σ H s) : X.K.In s.heap := I.ok.mod.kin.keeps I.bk
theorem Inv.nolimit (I : Inv X pins σ H s) : s.heap.NoLimit := I.ok.mod.nolimit.keeps I.bk
theorem Inv.fr (I : Inv X pins σ H s) : ∃ m, Fr X.base X.env.locals s.heap m :=
  let ⟨m, hn, _⟩ := I.loc
  ⟨m, hn, I.bk, Nat.le_trans I.ok.bsz I.ok.above⟩
theorem Inv.lt (I : Inv X pins σ H s) : X.env.locals < s.heap.objs.size := let ⟨_, hn, _⟩ := I.loc; hn.lt
theorem Inv.sz (I : Inv X pins σ H s) : X.s₀.heap.objs.size ≤ s.heap.objs.size := Nat.le_trans I.ok.above (Nat.le_of_lt I.lt)
theorem Inv.nofs (I : Inv X pins σ H s) {a : Addr} (h : s.heap.objs.size ≤ a) : a ∉ X.fs := fun hb => by
  obtain ⟨_, o, ho, _⟩ := I.ok.funs.mem hb
  exact absurd (Nat.lt_of_lt_of_le (Heap.lt_size ho) (Nat.le_trans I.sz h)) (Nat.lt_irrefl _)
theorem Inv.cne (I : Inv X pins σ H s) : ∀ x c, X.env.cells.lookup x = some c → c ≠ X.env.locals := fun x c e z => by
  obtain ⟨v, o, ho, hd⟩ := I.cell x c e
  obtain ⟨m, ⟨o', es, ep, ho', hd', _⟩, _⟩ := I.loc
  rw [z, ho'] at ho; cases ho; rw [hd'] at hd; cases hd
theorem Inv.funs (I : Inv X pins σ H s) : s.heap.FunFrames X.base X.outer := by
  have all : ∀ (l : List Env), (∀ b ∈ frs l, b ∈ X.fs) → X.s₀.heap.FunFrames X.base l → s.heap.FunFrames X.base l := by
    intro l
    induction l with
    | nil => intro _ _; trivial
    | cons env r ih =>
      intro hs hl
      obtain ⟨hk, ⟨L, o, hf, hn, ho, hd⟩, hr⟩ := hl
      have hL : L ∈ X.fs := hs L (by unfold frs; rw [List.filterMap_cons, hf]; exact List.mem_cons_self)
      obtain ⟨sl, e⟩ := I.base.slot L o ho (I.ok.frf L hL) hL fun z => I.ok.exfs L z hL
      exact ⟨hk, ⟨L, _, hf, hn, e, hd⟩, ih (fun b hb => hs b (by unfold frs; rw [List.filterMap_cons, hf]; exact List.mem_cons_of_mem _ hb)) hr⟩
  exact all X.outer (fun _ hb => hb) I.ok.funs
theorem Inv.stack (I : Inv X pins σ H s) : s.heap.FunFrames X.base X.stack := by
  rcases I.ok.stk with e | ⟨e, hf⟩
  · rw [e]; exact I.funs
  · rw [e]
    obtain ⟨m, hn, _⟩ := I.loc
    refine .cons (by rw [I.ok.kind]; decide) hf hn ?_ I.funs
    exact Heap.get?_none_of_le (Nat.le_trans I.ok.bsz I.ok.above)
theorem Inv.stkSub (I : Inv X pins σ H s) : ∀ b ∈ frs X.stack, b ∈ X.env.locals :: X.fs := fun b hb => by
  rcases I.ok.stk with e | ⟨e, hf⟩
  · rw [e] at hb; exact List.mem_cons_of_mem _ hb
  · rw [e] at hb
    unfold frs at hb
    rw [List.filterMap_cons, hf] at hb
    exact hb
theorem Inv.stkFree (I : Inv X pins σ H s) : ∀ b ∈ frs X.stack, H b = none := fun b hb => by
  rcases List.mem_cons.mp (I.stkSub b hb) with e | hb
  · rw [e]; exact I.free
  · obtain ⟨_, o, ho, _⟩ := I.ok.funs.mem hb
    exact I.base.free b o ho (I.ok.frf b hb) fun z => I.ok.exfs b z hb
theorem Inv.step {g' : Array GenState} {t' : Nat} {d' : Drawn} {ch : List Addr} (I : Inv X pins σ H s)
    (hch : ∀ b ∈ ch, (b ∈ X.ex ∨ X.s₀.heap.objs.size ≤ b) ∧ b ≠ X.env.locals ∧ (∀ x c, X.env.cells.lookup x = some c → c ≠ b) ∧ ∀ p ∈ X.pn ++ pins, p.1 ≠ b)
    (keep : ∀ b o, b ≠ X.env.locals → b ∉ X.fs → b ∉ ch → s.heap.get? b = some o → H b = none → h'.get? b = some o)
    (slot : ∀ b o, b ≠ X.env.locals → b ∈ X.fs → b ∉ ch → s.heap.get? b = some o → H b = none → ∃ sl, h'.get? b = some { o with slots := sl }) (free : ∀ b o, b ∉ ch → s.heap.get? b = some o → H b = none → H' b = none)
    (there : ∀ b o, b ∉ ch → s.heap.get? b = some o → ∃ o', h'.get? b = some o')
    (tups : ∀ b xs, H b = some (.tup xs) → H' b = some (.tup xs)) (frzs : ∀ b o u, H b = some (.frz o u) → H' b = some (.frz o u)) (tbls : ∀ b ps, H b = some (.tbl ps) → ∃ more, H' b = some (.tbl (ps ++ more)))
    (ns : ∀ m, s.heap.Ns X.env.locals m → h'.Ns X.env.locals m) (hok : HOk X.prog X.w H' h') (hg : AllBare g') :
    Inv X pins σ H' { s with heap := h', gens := g', drawn := d', toks := t' } := by
  have neL : ∀ b o, X.s₀.heap.get? b = some o → b ≠ X.env.locals := fun b o e => Nat.ne_of_lt (Nat.lt_of_lt_of_le (Heap.lt_size e) I.ok.above)
  have neC : ∀ b o, X.s₀.heap.get? b = some o → b ∉ X.ex → b ∉ ch := fun b o e hx hb => by
    rcases (hch b hb).1 with z | z
    · exact hx z
    · exact absurd (Nat.lt_of_lt_of_le (Heap.lt_size e) z) (Nat.lt_irrefl _)
  have cellK : ∀ x c, X.env.cells.lookup x = some c → ∀ v, s.heap.IsCell c v → h'.IsCell c v := fun x c e v ⟨o, ho, hd⟩ => by
    have nch : c ∉ ch := fun z => (hch c z).2.2.1 x c e rfl
    by_cases hc : c ∈ X.fs
    · obtain ⟨sl, q⟩ := slot c o (I.cne x c e) hc nch ho (I.freeC x c e)
      exact ⟨_, q, hd⟩
    · exact ⟨o, keep c o (I.cne x c e) hc nch ho (I.freeC x c e), hd⟩
  refine ⟨I.ok, I.os, hg, ⟨fun b o e n hb hx => ?_, fun b o e n hb hx => ?_, fun b o e n hx => ?_, fun b o e hx => ?_, fun b xs e => tups b xs (I.base.tups b xs e), fun b o xs e => frzs b o xs (I.base.frzs b o xs e), fun b ps e => ?_⟩, ?_, fun x c e => ?_, ?_, fun x c e => ?_, fun p hp => ?_, hok, I.len⟩
  · exact keep b o (neL b o e) hb (neC b o e hx) (I.base.keep b o e n hb hx) (I.base.free b o e n hx)
  · obtain ⟨sl, e1⟩ := I.base.slot b o e n hb hx
    obtain ⟨sl', e2⟩ := slot b _ (neL b o e) hb (neC b o e hx) e1 (I.base.free b o e n hx)
    exact ⟨sl', e2⟩
  · obtain ⟨o', e1⟩ := I.base.there b o e hx
    exact free b o' (neC b o e hx) e1 (I.base.free b o e n hx)
  · obtain ⟨o', e1⟩ := I.base.there b o e hx
    exact there b o' (neC b o e hx) e1
  · obtain ⟨m1, e1⟩ := I.base.tbls b ps e
    obtain ⟨m2, e2⟩ := tbls b _ e1
    exact ⟨m1 ++ m2, by rw [e2, Array.append_assoc]⟩
  · obtain ⟨m, hn, hl⟩ := I.loc
    refine ⟨m, ns m hn, fun i x v e1 e2 e3 => ?_⟩
    obtain ⟨u, r, l⟩ := hl i x v e1 e2 e3
    refine ⟨u, r, ?_⟩
    rcases l with l | ⟨k, c, e, z⟩
    · exact .inl l
    · exact .inr ⟨k, c, e, cellK x c e _ z⟩
  · obtain ⟨v, z⟩ := I.cell x c e
    exact ⟨v, cellK x c e v z⟩
  · obtain ⟨m, ⟨o, _, _, ho, _⟩, _⟩ := I.loc
    exact free _ o (fun z => (hch _ z).2.1 rfl) ho I.free
  · obtain ⟨v, o, ho, hd⟩ := I.cell x c e
    exact free c o (fun z => (hch c z).2.2.1 x c e rfl) ho (I.freeC x c e)
  · obtain ⟨e, n, ne, nf, d⟩ := I.pin p hp
    have nch : p.1 ∉ ch := fun z => (hch p.1 z).2.2.2 p hp rfl
    exact ⟨keep p.1 p.2 ne nf nch e n, free p.1 p.2 nch e n, ne, nf, d⟩
theorem Inv.un {t' : Nat} (I : Inv X pins σ H s) (u : Un X.fs [] H H' s.heap h') (hok : HOk X.prog X.w H' h') : Inv X pins σ H' { s with heap := h', toks := t' } := by
  obtain ⟨m, ⟨o, es, ep, ho, r⟩, _⟩ := id I.loc
  obtain ⟨sl, hL⟩ := u.any ho I.free (by simp)
  exact I.step (g' := s.gens) (d' := s.drawn) (ch := []) (fun _ z => nomatch z) (fun b o _ hb _ e n => u.keep b o e n hb (by simp)) (fun b o _ hb _ e n => u.slot b o e n hb (by simp)) (fun b o _ e n => u.free b o e n (by simp)) (fun b o _ e => u.there b o e (by simp)) u.tups u.frzs u.tbls (fun m' hm => by
    obtain ⟨o', es', ep', ho', r'⟩ := hm
    rw [ho] at ho'; cases ho'
    exact ⟨_, es', ep', hL, r'⟩) hok I.bare
theorem Inv.call {g' : Array GenState} {t' : Nat} {d' : Drawn} {ch : List Addr} (I : Inv X pins σ H s) (u : Un (frs X.stack) ch H H' s.heap h') (hok : HOk X.prog X.w H' h') (hg : AllBare g')
    (hch : ∀ b ∈ ch, (b ∈ X.ex ∨ X.s₀.heap.objs.size ≤ b) ∧ b ≠ X.env.locals ∧ (∀ x c, X.env.cells.lookup x = some c → c ≠ b) ∧ ∀ p ∈ X.pn ++ pins, p.1 ≠ b) :
    Inv X pins σ H' { s with heap := h', gens := g', drawn := d', toks := t' } := by
  obtain ⟨m, ⟨o, es, ep, ho, r⟩, _⟩ := id I.loc
  obtain ⟨sl, hL⟩ := u.any ho I.free fun z => (hch _ z).2.1 rfl
  exact I.step (ch := ch) hch (fun b o hL hb hc e n => u.keep b o e n (fun z => (List.mem_cons.mp (I.stkSub b z)).elim hL hb) hc) (fun b o _ _ hc e n => u.any e n hc) (fun b o hc e n => u.free b o e n hc) (fun b o hc e => u.there b o e hc) u.tups u.frzs u.tbls (fun m' hm => by
    obtain ⟨o', es', ep', ho', r'⟩ := hm
    rw [ho] at ho'; cases ho'
    exact ⟨_, es', ep', hL, r'⟩) hok hg
theorem Inv.turned {t' : Nat} {it : Addr} (I : Inv X pins σ H s) (k : ∀ b o, b ≠ it → s.heap.get? b = some o → h'.get? b = some o) (hn : H it = none) (hL : it ≠ X.env.locals)
    (h1 : it ∈ X.ex ∨ X.s₀.heap.objs.size ≤ it) (h2 : ∀ x c, X.env.cells.lookup x = some c → c ≠ it) (h3 : ∀ p ∈ X.pn ++ pins, p.1 ≠ it) : Inv X pins σ H { s with heap := h', toks := t' } := by
  have nit : ∀ b u, H b = some u → b ≠ it := fun b u e z => by rw [z, hn] at e; cases e
  refine I.step (g' := s.gens) (d' := s.drawn) (ch := [it]) (fun b hb => ?_) (fun b o _ _ hc e _ => k b o (fun z => hc (by simp [z])) e) (fun b o _ _ hc e _ => ⟨o.slots, k b o (fun z => hc (by simp [z])) e⟩) (fun _ _ _ _ n => n)
    (fun b o hc e => ⟨o, k b o (fun z => hc (by simp [z])) e⟩) (fun _ _ e => e) (fun _ _ _ e => e) (fun b ps e => ⟨#[], by rw [e]; simp⟩) (fun m hm => ?_) (fun b u e => ?_) I.bare
  · have e : b = it := by simpa using hb
    subst e
    exact ⟨h1, hL, h2, h3⟩
  · obtain ⟨o, es, ep, ho, r⟩ := hm
    exact ⟨o, es, ep, k _ o (Ne.symm hL) ho, r⟩
  · refine (I.hok b u e).stay (fun c v hc q => k c v ?_ q) (fun _ q => q) fun _ _ q => q
    rcases hc with z | z
    · rw [z]; exact nit b u e
    · exact nit c _ z
theorem Inv.tok (I : Inv X pins σ H s) (t : Nat) : Inv X pins σ H { s with toks := t } := I.un (h' := s.heap) (t' := t) Un.refl I.hok
theorem Inv.kept {t' : Nat} (I : Inv X pins σ H s) (k : ∀ b u, s.heap.get? b = some u → h'.get? b = some u) : Inv X pins σ H { s with heap := h', toks := t' } := I.un (Un.kept k) (I.hok.kept k)
theorem Inv.laid {a : Addr} {o : HO} {t' : Nat} (I : Inv X pins σ H s) (k : ∀ b u, s.heap.get? b = some u → h'.get? b = some u) (hp : s.heap.objs.size ≤ a) (new : ObjOk X.prog X.w (upd H a o) h' a o) :
    Inv X pins σ (upd H a o) { s with heap := h', toks := t' } := I.un (Un.laid k hp (I.hok.fresh hp)) (I.hok.laid k hp new)
theorem Inv.write {x e : Addr} {o : HO} {t' : Nat} (I : Inv X pins σ H s) (mu : Mut (H x)) (he : e = x ∨ H e = some (.own x)) (k : ∀ b u, b ≠ e → s.heap.get? b = some u → h'.get? b = some u) (heo : ∃ u, h'.get? e = some u)
    (new : ObjOk X.prog X.w (upd H x o) h' x o) : Inv X pins σ (upd H x o) { s with heap := h', toks := t' } := I.un (Un.write mu he k heo) (I.hok.write mu he k heo new)
theorem Inv.weak {σ' : List (Option V)} (I : Inv X pins σ H s) (hl : σ'.length = σ.length) (w : ∀ (i : Nat) v, σ'[i]? = some (some v) → σ[i]? = some (some v)) : Inv X pins σ' H s :=
  ⟨I.ok, I.os, I.bare, I.base, let ⟨m, hn, hl'⟩ := I.loc; ⟨m, hn, fun i x v e1 e2 e3 => hl' i x v e1 (w i v e2) e3⟩, I.cell, I.free, I.freeC, I.pin, I.hok, hl.trans I.len⟩
theorem Inv.pins_of {pins' : List (Addr × Obj)} (I : Inv X pins σ H s) (h : ∀ p ∈ pins', s.heap.get? p.1 = some p.2 ∧ H p.1 = none ∧ p.1 ≠ X.env.locals ∧ p.1 ∉ X.fs ∧ ∀ v, p.2.data ≠ .cell v) : Inv X pins' σ H s :=
  ⟨I.ok, I.os, I.bare, I.base, I.loc, I.cell, I.free, I.freeC, fun p hp => (List.mem_append.mp hp).elim (fun z => I.pin p (List.mem_append_left _ z)) (h p), I.hok, I.len⟩
theorem nodup_ix {N : List Str} (hN : N.Nodup) {i j : Nat} {x : Str} (a : N[i]? = some x) (b : N[j]? = some x) : i = j := by
  obtain ⟨h1, e1⟩ := List.getElem?_eq_some_iff.mp a
  obtain ⟨h2, e2⟩ := List.getElem?_eq_some_iff.mp b
  exact (List.getElem_inj hN).mp (e1.trans e2.symm)
theorem store_ok2 {M : Model} {A : Around} {E : Value → Shared → Prop} {i : Nat} {x : Str} {v : V} {u : Value} {Q : Unit → Shared → Prop} (I : Inv X pins σ H s) (hN : X.N.Nodup) (hi : X.N[i]? = some x) (hx : Loc X.env.scope x) (r : RelV v u)
    (h : ∀ s', Inv X pins (σ.set i (some v)) H s' → (∃ a, Heap.SameBut a s.heap s'.heap ∧ (a = X.env.locals ∨ X.env.cells.lookup x = some a)) → Q () s') (hf : X.fn x = true ∨ X.env.scope.names.lookup x = some .local := by first | exact .inl rfl | exact .inr rfl | assumption) : wpAny M A (storeName X.env x u) Q E s := by
  obtain ⟨m, hn, hl⟩ := id I.loc
  have hcls : (X.env.scope.kind == .class || (X.env.scope.kind == .module && X.env.locals != X.env.globals)) = false := by rw [I.ok.kind]; rfl
  have hiσ : i < σ.length := by rw [I.len]; exact (List.getElem?_eq_some_iff.mp hi).1
  have cne := I.cne
  have tracked : ∀ {a : Addr} {h' : Heap}, (∃ o, s.heap.get? a = some o ∧ H a = none) → Heap.SameBut a s.heap h' → HOk X.prog X.w H h' := fun {a h'} ha hs b ob e => by
    obtain ⟨_, _, hfree⟩ := ha
    refine (I.hok b ob e).stay (fun c w' hc q => (hs.2 c ?_).trans q) (fun _ q => q) fun _ _ q => q
    rintro rfl
    rcases hc with rfl | hc
    · rw [hfree] at e; cases e
    · rw [hfree] at hc; cases hc
  rcases hx with hk | hk
  · refine wpAny_storeName_local hk hn (fun h' hn' hs => ?_) hcls
    obtain ⟨oL, _, _, hoL, _⟩ := id hn
    refine h _ ⟨I.ok, I.os, I.bare, ⟨fun b o e n hb hx => ?_, fun b o e n hb hx => ?_, I.base.free, fun b o e hx => ?_, I.base.tups, I.base.frzs, I.base.tbls⟩, ⟨_, hn', fun j y v' e1 e2 e3 => ?_⟩, fun y c e => ?_, I.free, I.freeC, fun p hp => ?_, tracked ⟨oL, hoL, I.free⟩ hs, by simpa using I.len⟩ ⟨_, hs, .inl rfl⟩
    · exact (hs.2 b (Nat.ne_of_lt (Nat.lt_of_lt_of_le (Heap.lt_size e) I.ok.above))).trans (I.base.keep b o e n hb hx)
    · obtain ⟨sl, e1⟩ := I.base.slot b o e n hb hx
      exact ⟨sl, (hs.2 b (Nat.ne_of_lt (Nat.lt_of_lt_of_le (Heap.lt_size e) I.ok.above))).trans e1⟩
    · obtain ⟨o', e1⟩ := I.base.there b o e hx
      exact ⟨o', (hs.2 b (Nat.ne_of_lt (Nat.lt_of_lt_of_le (Heap.lt_size e) I.ok.above))).trans e1⟩
    · by_cases hj : j = i
      · subst hj
        rw [hi] at e1; cases e1
        rw [List.getElem?_set_self hiσ] at e2
        cases e2
        exact ⟨u, r, .inl ⟨hk, by simp⟩⟩
      · rw [List.getElem?_set_ne (Ne.symm hj)] at e2
        obtain ⟨u', r', q⟩ := hl j y v' e1 e2 e3
        refine ⟨u', r', ?_⟩
        rcases q with ⟨k, e⟩ | ⟨k, c, e, z⟩
        · refine .inl ⟨k, ?_⟩
          have : y ≠ x := fun e => hj (nodup_ix hN e1 (e ▸ hi))
          simp [this, e]
        · exact .inr ⟨k, c, e, z.sameBut hs (cne y c e)⟩
    · obtain ⟨w', z⟩ := I.cell y c e
      exact ⟨w', z.sameBut hs (cne y c e)⟩
    · obtain ⟨e, n, ne, nf, d⟩ := I.pin p hp
      exact ⟨(hs.2 p.1 ne).trans e, n, ne, nf, d⟩
  · have hfn : X.fn x = true := by
      rcases hf with z | z
      · exact z
      · rw [z] at hk; cases hk
    obtain ⟨c, hc⟩ := I.ok.has x (.inl hk)
    obtain ⟨w', z⟩ := I.cell x c hc
    refine wpAny_storeName_cell I.ok.kind hk hc z (fun h' hc' hs => ?_)
    obtain ⟨oc, hoc, hocd⟩ := id z
    refine h { s with heap := h' } ⟨I.ok, I.os, I.bare, ⟨fun b o e n hb hx => ?_, fun b o e n hb hx => ?_, I.base.free, fun b o e hx => ?_, I.base.tups, I.base.frzs, I.base.tbls⟩, ⟨m, hn.sameBut hs (Ne.symm (cne x c hc)), fun j y v' e1 e2 e3 => ?_⟩, fun y c' e => ?_, I.free, I.freeC, fun p hp => ?_, tracked ⟨oc, hoc, I.freeC x c hc⟩ hs, by simpa using I.len⟩ ⟨c, hs, .inr hc⟩
    · exact (hs.2 b (Nat.ne_of_lt (Nat.lt_of_lt_of_le (Heap.lt_size e) (I.ok.cab x c hfn hc)))).trans (I.base.keep b o e n hb hx)
    · obtain ⟨sl, e1⟩ := I.base.slot b o e n hb hx
      exact ⟨sl, (hs.2 b (Nat.ne_of_lt (Nat.lt_of_lt_of_le (Heap.lt_size e) (I.ok.cab x c hfn hc)))).trans e1⟩
    · obtain ⟨o', e1⟩ := I.base.there b o e hx
      exact ⟨o', (hs.2 b (Nat.ne_of_lt (Nat.lt_of_lt_of_le (Heap.lt_size e) (I.ok.cab x c hfn hc)))).trans e1⟩
    · by_cases hj : j = i
      · subst hj
        rw [hi] at e1; cases e1
        rw [List.getElem?_set_self hiσ] at e2
        cases e2
        exact ⟨u, r, .inr ⟨.inl hk, c, hc, hc'⟩⟩
      · rw [List.getElem?_set_ne (Ne.symm hj)] at e2
        obtain ⟨u', r', q⟩ := hl j y v' e1 e2 e3
        refine ⟨u', r', ?_⟩
        rcases q with q | ⟨k, c', e, z'⟩
        · exact .inl q
        · refine .inr ⟨k, c', e, z'.sameBut hs ?_⟩
          rintro rfl
          exact hj (nodup_ix hN e1 (I.ok.inj _ _ _ e hc ▸ hi))
    · by_cases hcc : c' = c
      · subst hcc; exact ⟨_, hc'⟩
      · obtain ⟨w2, z2⟩ := I.cell y c' e
        exact ⟨w2, z2.sameBut hs hcc⟩
    · obtain ⟨e, n, ne, nf, d⟩ := I.pin p hp
      refine ⟨(hs.2 p.1 ?_).trans e, n, ne, nf, d⟩
      intro q
      rw [q, hoc] at e
      have q' : oc = p.2 := Option.some.inj e
      exact d w' (by rw [← q']; exact hocd)
theorem store_ok {M : Model} {A : Around} {E : Value → Shared → Prop} {i : Nat} {x : Str} {v : V} {u : Value} {Q : Unit → Shared → Prop} (I : Inv X pins σ H s) (hN : X.N.Nodup) (hi : X.N[i]? = some x) (hx : Loc X.env.scope x) (r : RelV v u)
    (h : ∀ s', Inv X pins (σ.set i (some v)) H s' → Q () s') (hf : X.fn x = true ∨ X.env.scope.names.lookup x = some .local := by first | exact .inl rfl | exact .inr rfl | assumption) : wpAny M A (storeName X.env x u) Q E s :=
  store_ok2 I hN hi hx r (fun s' I' _ => h s' I') hf
theorem Inv.call' {s' : Shared} {ch : List Addr} (I : Inv X pins σ H s) (ho : s'.os = s.os) (u : Un (frs X.stack) ch H H' s.heap s'.heap) (hok : HOk X.prog X.w H' s'.heap) (hg : AllBare s'.gens)
    (hch : ∀ b ∈ ch, (b ∈ X.ex ∨ X.s₀.heap.objs.size ≤ b) ∧ b ≠ X.env.locals ∧ (∀ x c, X.env.cells.lookup x = some c → c ≠ b) ∧ ∀ p ∈ X.pn ++ pins, p.1 ≠ b) : Inv X pins σ H' s' := by
  obtain ⟨h', g', d', t', o'⟩ := s'
  have e : o' = s.os := ho
  subst e
  exact I.call (g' := g') (t' := t') (d' := d') u hok hg hch
end
abbrev XK := Value → Option Addr → Hp → Prop
abbrev St := List (Option V)
abbrev VK := V → Hp → Prop
abbrev TE := St → Hp → VK → Prop
abbrev TT := St → Hp → (Bool → Hp → Prop) → Prop
abbrev TA := St → Hp → (List V → Hp → Prop) → Prop
structure Ends where
  nx : St → Hp → Prop
  rt : VK
  bk : St → Hp → Prop := fun _ _ => False
  ct : St → Hp → Prop := fun _ _ => False
abbrev TS := Ends → St → Hp → Prop
def EP (X : Cx) (pins : List (Addr × Obj)) (σ : St) (Q : VK) (u : Value) (s' : Shared) : Prop := ∃ v H', Inv X pins σ H' s' ∧ RelV v u ∧ Q v H'
def TP (X : Cx) (pins : List (Addr × Obj)) (σ : St) (Q : Bool → Hp → Prop) (b : Bool) (s' : Shared) : Prop := ∃ H', Inv X pins σ H' s' ∧ Q b H'
def AP (X : Cx) (pins : List (Addr × Obj)) (σ : St) (Q : List V → Hp → Prop) (us : List Value) (s' : Shared) : Prop := ∃ vs H', Inv X pins σ H' s' ∧ Vals vs us ∧ Q vs H'
def SP (X : Cx) (pins : List (Addr × Obj)) (D : Ends) (f : Flow) (s' : Shared) : Prop :=
  match f with
  | .next => ∃ σ' H', Inv X pins σ' H' s' ∧ D.nx σ' H'
  | .brk => ∃ σ' H', Inv X pins σ' H' s' ∧ D.bk σ' H'
  | .cont => ∃ σ' H', Inv X pins σ' H' s' ∧ D.ct σ' H'
  | .ret u => ∃ v σ' H', Inv X pins σ' H' s' ∧ RelV v u ∧ D.rt v H'
def PE (X : Cx) (e : Expr) (t : TE) : Prop :=
  ∀ (pins : List (Addr × Obj)) (s : Shared) (σ : St) (H : Hp) (Q : VK), Inv X pins σ H s → t σ H Q → wpAny (model X.prog X.w) X.A (eval e X.env) (EP X pins σ Q) X.xe s
def PT (X : Cx) (e : Expr) (t : TT) : Prop :=
  ∀ (pins : List (Addr × Obj)) (s : Shared) (σ : St) (H : Hp) (Q : Bool → Hp → Prop), Inv X pins σ H s → t σ H Q → wpAny (model X.prog X.w) X.A (isTrue e X.env (eval e X.env)) (TP X pins σ Q) X.xe s
def PW (X : Cx) (e : Expr) (t : TT) : Prop :=
  ∀ (whole : Sem Value) (pins : List (Addr × Obj)) (s : Shared) (σ : St) (H : Hp) (Q : Bool → Hp → Prop), Inv X pins σ H s → t σ H Q → wpAny (model X.prog X.w) X.A (isTrue e X.env whole) (TP X pins σ Q) X.xe s
theorem PW.pt {X : Cx} {e : Expr} {t : TT} (h : PW X e t) : PT X e t := h _
def PA (X : Cx) (es : List Expr) (t : TA) : Prop :=
  ∀ (pos : Pos) (pins : List (Addr × Obj)) (s : Shared) (σ : St) (H : Hp) (Q : List V → Hp → Prop), Inv X pins σ H s → t σ H Q → wpAny (model X.prog X.w) X.A (spliced (backTo pos (starEach es X.env))) (AP X pins σ Q) X.xe s
def PS (X : Cx) (st : Stmt) (t : TS) : Prop :=
  ∀ (pins : List (Addr × Obj)) (s : Shared) (σ : St) (H : Hp) (D : Ends), Inv X pins σ H s → t D σ H → wpAny (model X.prog X.w) X.A (exec st X.env) (SP X pins D) X.xe s
def PSs (X : Cx) (st : List Stmt) (t : TS) : Prop :=
  ∀ (pins : List (Addr × Obj)) (s : Shared) (σ : St) (H : Hp) (D : Ends), Inv X pins σ H s → t D σ H → wpAny (model X.prog X.w) X.A (execs st X.env) (SP X pins D) X.xe s
theorem thn {α : Type} {t : Sem α} {Q Q' : α → Shared → Prop} {M : Model} {A : Around} {E : Value → Shared → Prop} {s : Shared} (h : wpAny M A t Q E s) (hQ : ∀ a s, Q a s → Q' a s) : wpAny M A t Q' E s := wpAny_mono h hQ fun _ _ x => x
end L2
namespace L2
open PySem PySem.Spec PyProof.Rows
section
variable {X : Cx}
def tVar (i : Nat) : TE := fun σ H Q => ∃ v, σ[i]? = some (some v) ∧ Q v H
def tC (v : V) : TE := fun _ H Q => Q v H
theorem pe_var {i : Nat} {x : Str} {pos : Pos} (hN : X.N[i]? = some x) (hv : Vis X.env.scope x) (hd : (x == ("__debug__" : Str)) = false := by decide) (hcd : (x == ("__classdict__" : Str)) = false := by decide) : PE X (.Name x pos) (tVar i) := by
  intro pins s σ H Q I h
  obtain ⟨v, e, h⟩ := h
  obtain ⟨m, hn, hl⟩ := I.loc
  obtain ⟨u, r, l⟩ := hl i x v hN e hv
  have fin : EP X pins σ Q u s := ⟨v, H, I, r, h⟩
  rcases l with ⟨hk, hm⟩ | ⟨hk, c, hc, hcell⟩
  · exact wpAny_Name (wpAny_loadName_local I.ok.kind hk hn hm fin) hd
  · rcases hk with hk | hk
    · exact wpAny_Name (wpAny_loadName_cell I.ok.kind hk hc hcell fin) hd
    · exact wpAny_Name (wpAny_loadName_free I.ok.kind hk hc hcell fin hcd) hd
theorem pe_int {i j pos} : PE X (.Constant (.int i) j pos) (tC (.int i)) := fun _ _ _ H _ I h => wpAny_Constant_int ⟨.int i, H, I.tok _, ⟨_, rfl⟩, h⟩
theorem pe_bl {b j pos} : PE X (.Constant (.bool b) j pos) (tC (.bl b)) := fun _ _ _ H _ I h => Constant_bool ⟨.bl b, H, I, rfl, h⟩
theorem pe_non {j pos} : PE X (.Constant .none j pos) (tC .non) := fun _ _ _ H _ I h => Constant_none ⟨.non, H, I, rfl, h⟩
theorem pe_str {x j pos} : PE X (.Constant (.str x) j pos) (tC (.str x)) := fun _ _ _ H _ I h => Calls.Constant_str ⟨.str x, H, I.tok _, ⟨_, rfl⟩, h⟩
def Gl (X : Cx) (x : Str) : Prop := X.env.kindOf x = some .globalImplicit
theorem ld_glob {E : Value → Shared → Prop} {pins : List (Addr × Obj)} {s : Shared} {σ : St} {H : Hp} {x : Str} {u : Value} {pos : Pos} {Q : Value → Shared → Prop} (I : Inv X pins σ H s) (hg : Gl X x) (hm : X.mg x = some u) (h : Q u s)
    (hd : (x == ("__debug__" : Str)) = false := by decide) : wpAny (model X.prog X.w) X.A (eval (.Name x pos) X.env) Q E s :=
  Calls.Name_function_global I.ok.kind hg (Calls.loadGlobal_global (by rw [I.ok.glob]; exact I.mod.glob.keeps I.bk) hm h) hd
theorem ld_blt {E : Value → Shared → Prop} {pins : List (Addr × Obj)} {s : Shared} {σ : St} {H : Hp} {x : Str} {u : Value} {pos : Pos} {Q : Value → Shared → Prop} (I : Inv X pins σ H s) (hg : Gl X x) (hm : X.mg x = none) (hv : bootBuiltins x = some u) (h : Q u s)
    (hn : x ≠ "__name__" := by decide) (hd : (x == ("__debug__" : Str)) = false := by decide) : wpAny (model X.prog X.w) X.A (eval (.Name x pos) X.env) Q E s := by
  obtain ⟨mb, h1, h2⟩ := I.mod.blt
  exact Calls.Name_function_global I.ok.kind hg (Calls.loadGlobal_builtin (by rw [I.ok.glob]; exact I.mod.glob.keeps I.bk) hm (by rw [I.ok.blt]; exact h1.keeps I.bk) ((h2 x hn).trans hv) h) hd
theorem pe_glob {x : Str} {v : V} {u : Value} {pos : Pos} (hg : Gl X x) (hm : X.mg x = some u) (r : RelV v u) (hd : (x == ("__debug__" : Str)) = false := by decide) : PE X (.Name x pos) (tC v) :=
  fun _ _ _ H _ I h => ld_glob I hg hm ⟨v, H, I, r, h⟩ hd
theorem pe_bltn {x : Str} {v : V} {u : Value} {pos : Pos} (hg : Gl X x) (hm : X.mg x = none) (hv : bootBuiltins x = some u) (r : RelV v u) (hn : x ≠ "__name__" := by decide) (hd : (x == ("__debug__" : Str)) = false := by decide) : PE X (.Name x pos) (tC v) :=
  fun _ _ _ H _ I h => ld_blt I hg hm hv ⟨v, H, I, r, h⟩ hn hd
variable {a b : Expr} {ta tb : TE} {pos : Pos}
def tB (t : TE) : TT := fun σ H Q => t σ H fun x H1 => ∃ c, x = .bl c ∧ Q c H1
theorem pt_val {e : Expr} {t : TE} (h : PE X e t) (he : ∀ whole, isTrue e X.env whole = (do let v ← whole; standAt e.pos; holding [v] (truthy v)) := by intro _; rfl) : PT X e (tB t) := by
  intro pins s σ H Q I hw
  refine isTrue_plain (thn (h pins s σ H _ I hw) fun v s1 ⟨x, H1, I1, r1, q1⟩ => ?_) (he _)
  obtain ⟨d, rfl, q⟩ := q1
  cases r1
  exact wpAny_truthy_bool ⟨H1, I1, q⟩
variable {tA tB' : TT} {rest : List Expr}
def tAnd (t u : TT) : TT := fun σ H Q => t σ H fun c H1 => if c = true then u σ H1 Q else Q false H1
def tOr (t u : TT) : TT := fun σ H Q => t σ H fun c H1 => if c = true then Q true H1 else u σ H1 Q
def tNot (t : TT) : TT := fun σ H Q => t σ H fun c H1 => Q (!c) H1
theorem pw_or1 (ha : PT X a tA) : PW X (.BoolOp .Or [a] pos) tA := by
  intro wh pins s σ H Q I h
  refine isTrue_or (thn (ha pins s σ H Q I h) fun c s1 e => ?_)
  cases c with
  | false => exact isTrue_or_nil e
  | true => exact e
theorem pw_or (ha : PT X a tA) (hb : PW X (.BoolOp .Or (b :: rest) pos) tB') : PW X (.BoolOp .Or (a :: b :: rest) pos) (tOr tA tB') := by
  intro wh pins s σ H Q I h
  refine isTrue_or (thn (ha pins s σ H _ I h) fun c s1 ⟨H1, I1, q1⟩ => ?_)
  cases c with
  | true => exact ⟨H1, I1, q1⟩
  | false => exact hb wh pins s1 σ H1 Q I1 q1
theorem pt_not (ha : PT X a tA) : PT X (.UnaryOp .Not a pos) (tNot tA) := by
  intro pins s σ H Q I h
  exact isTrue_not (ha pins s σ H (fun c H1 => Q (!c) H1) I h)
def tAndV (ta tb : TE) : TE := fun σ H Q => ta σ H fun x H1 => ∃ c, x = .bl c ∧ if c = true then tb σ H1 Q else Q (.bl false) H1
def tOrV (ta tb : TE) : TE := fun σ H Q => ta σ H fun x H1 => ∃ c, x = .bl c ∧ if c = true then Q (.bl true) H1 else tb σ H1 Q
def tNotV (ta : TE) : TE := fun σ H Q => ta σ H fun x H1 => ∃ c, x = .bl c ∧ Q (.bl (!c)) H1
theorem pe_one {op} {t : TE} (h : PE X a t) : PE X (.BoolOp op [a] pos) t := fun pins s σ H Q I hw => BoolOp_one (h pins s σ H Q I hw)
theorem pe_and (ha : PE X a ta) (hb : PE X (.BoolOp .And (b :: rest) pos) tb) : PE X (.BoolOp .And (a :: b :: rest) pos) (tAndV ta tb) := by
  intro pins s σ H Q I h
  refine BoolOp_and (thn (ha pins s σ H _ I h) fun v s1 ⟨x, H1, I1, r1, q1⟩ => ?_)
  obtain ⟨c, rfl, q1⟩ := q1
  cases r1
  refine wpAny_truthy_bool ?_
  cases c with
  | true => exact hb pins s1 σ H1 Q I1 q1
  | false => exact ⟨.bl false, H1, I1, rfl, q1⟩
theorem pe_not (ha : PE X a ta) : PE X (.UnaryOp .Not a pos) (tNotV ta) := by
  intro pins s σ H Q I h
  refine UnaryOp_ (thn (ha pins s σ H _ I h) fun v s1 ⟨x, H1, I1, r1, q1⟩ => ?_)
  obtain ⟨c, rfl, q1⟩ := q1
  cases r1
  exact not_of (wpAny_truthy_bool ⟨.bl (!c), H1, I1, rfl, q1⟩)
def tIf (t : TT) (ta tb : TE) : TE := fun σ H Q => t σ H fun c H1 => if c = true then ta σ H1 Q else tb σ H1 Q
theorem pe_ifExp {c : Expr} (hc : PT X c tA) (ha : PE X a ta) (hb : PE X b tb) : PE X (.IfExp c a b pos) (tIf tA ta tb) := by
  intro pins s σ H Q I h
  refine wpAny_IfExp (thn (hc pins s σ H _ I h) fun d s1 ⟨H1, I1, q1⟩ => ?_)
  cases d with
  | true => exact ha pins s1 σ H1 Q I1 q1
  | false => exact hb pins s1 σ H1 Q I1 q1
end
end L2
namespace L2
open PySem PySem.Spec PyProof.Rows
def SqL (K : PySem.W.Frag) (H : Hp) (a : Addr) (xs : List V) : Prop :=
  Rd H a (.lst xs) ∨
    ∃ (o : Obj) (its : Array Value) (n : Nat), K.lookup a = some o ∧ o.cls = .type "list" ∧ o.dict = none ∧ o.data = .seq its n ∧ its.size ≤ sizeLine ∧ Vals xs its.toList
def SqT (K : PySem.W.Frag) (H : Hp) (a : Addr) (xs : List V) : Prop :=
  Rd H a (.tup xs) ∨
    ∃ (o : Obj) (its : Array Value) (n : Nat), K.lookup a = some o ∧ o.cls = .type "tuple" ∧ o.data = .seq its n ∧ its.size ≤ sizeLine ∧ Vals xs its.toList
def absV : Value → Option V
  | .none => some .non
  | .bool b => some (.bl b)
  | .int i _ => some (.int i)
  | .str x _ => some (.str x)
  | .bytes b _ => some (.byt b)
  | .float b _ => some (.flt b)
  | .ref a => some (.ref a)
  | .type n => some (.ty n)
  | _ => none
theorem RelV.abs {x : V} {u : Value} (r : RelV x u) : absV u = some x := by
  cases x with
  | non => cases r; rfl
  | bl _ => cases r; rfl
  | int _ => obtain ⟨t, rfl⟩ := r; rfl
  | str _ => obtain ⟨t, rfl⟩ := r; rfl
  | byt _ => obtain ⟨t, rfl⟩ := r; rfl
  | flt _ => obtain ⟨t, rfl⟩ := r; rfl
  | ref _ => cases r; rfl
  | ty _ => cases r; rfl
theorem RelV.inj {x y : V} {u : Value} (r : RelV x u) (q : RelV y u) : x = y := Option.some.inj (r.abs.symm.trans q.abs)
theorem Vals.inj : ∀ {xs ys : List V} {us : List Value}, Vals xs us → Vals ys us → xs = ys
  | _, _, _, .nil, .nil => rfl
  | _, _, _, .cons r t, .cons r' t' => by rw [r.inj r', Vals.inj t t']
section
variable {X : Cx} {pins : List (Addr × Obj)} {σ : St} {H : Hp} {s : Shared} {a : Addr} {xs ys : List V}
theorem SqL.of {K : PySem.W.Frag} (h : H a = some (.lst xs)) : SqL K H a xs := .inl (.inl h)
theorem SqT.of {K : PySem.W.Frag} (h : H a = some (.tup xs)) : SqT K H a xs := .inl (.inl h)
theorem Inv.list (I : Inv X pins σ H s) (h : SqL X.K H a xs) : ∃ its : List Value, Vals xs its ∧ PlainL s.heap a its.toArray ∧ xs.length ≤ sizeLine := by
  rcases h with h | ⟨o, its, n, hk, hc, hd, hs, hz, r⟩
  · obtain ⟨z, its, n, r, e⟩ := h.ok I.hok
    exact ⟨its, r, ⟨_, n, e, rfl, rfl, rfl⟩, z⟩
  · refine ⟨its.toList, r, ⟨o, n, I.kIn a o hk, hc, hd, by simpa using hs⟩, ?_⟩
    have e := r.length
    simp only [Array.length_toList] at e
    omega
theorem Inv.tuple (I : Inv X pins σ H s) (h : SqT X.K H a xs) : ∃ its : List Value, Vals xs its ∧ IsTup s.heap a its.toArray ∧ xs.length ≤ sizeLine := by
  rcases h with h | ⟨o, its, n, hk, hc, hs, hz, r⟩
  · obtain ⟨z, its, r, p⟩ := h.ok I.hok
    exact ⟨its, r, p, z⟩
  · refine ⟨its.toList, r, ⟨o, I.kIn a o hk, hc, n, by simpa using hs⟩, ?_⟩
    have e := r.length
    simp only [Array.length_toList] at e
    omega
theorem Inv.list_inj (I : Inv X pins σ H s) (h : SqL X.K H a xs) (h' : SqL X.K H a ys) : xs = ys := by
  obtain ⟨its, r, ⟨o, n, e, _, _, d⟩, _⟩ := I.list h
  obtain ⟨its', r', ⟨o', n', e', _, _, d'⟩, _⟩ := I.list h'
  rw [e] at e'; cases e'
  rw [d] at d'
  injection d' with d1 _
  have : its = its' := by simpa using congrArg Array.toList d1
  subst this
  exact r.inj r'
theorem Inv.tuple_inj (I : Inv X pins σ H s) (h : SqT X.K H a xs) (h' : SqT X.K H a ys) : xs = ys := by
  obtain ⟨its, r, ⟨o, e, _, n, d⟩, _⟩ := I.tuple h
  obtain ⟨its', r', ⟨o', e', _, n', d'⟩, _⟩ := I.tuple h'
  rw [e] at e'; cases e'
  rw [d] at d'
  injection d' with d1 _
  have : its = its' := by simpa using congrArg Array.toList d1
  subst this
  exact r.inj r'
end
abbrev Cx.wish (X : Cx) (E : Value → Shared → Prop) : Cx := { X with xe := E }
abbrev Cx.nox (X : Cx) : Cx := X.wish fun _ _ => False
theorem Cx.Ok.wish {X : Cx} (ok : X.Ok) (E : Value → Shared → Prop) : (X.wish E).Ok :=
  ⟨ok.mod, ok.kind, ok.glob, ok.blt, ok.above, ok.inj, ok.has, ok.cab, ok.hd, ok.frames, ok.stk, ok.exf, ok.bs, ok.bsz, ok.noex, ok.exfs, ok.funs, ok.frf⟩
theorem Cx.Ok.unwish {X : Cx} {E : Value → Shared → Prop} (ok : (X.wish E).Ok) : X.Ok :=
  ⟨ok.mod, ok.kind, ok.glob, ok.blt, ok.above, ok.inj, ok.has, ok.cab, ok.hd, ok.frames, ok.stk, ok.exf, ok.bs, ok.bsz, ok.noex, ok.exfs, ok.funs, ok.frf⟩
section
variable {X : Cx} {pins : List (Addr × Obj)} {σ : St} {H : Hp} {s : Shared} {E : Value → Shared → Prop}
theorem Inv.wish (I : Inv X pins σ H s) (E : Value → Shared → Prop) : Inv (X.wish E) pins σ H s := ⟨I.ok.wish E, I.os, I.bare, I.base, I.loc, I.cell, I.free, I.freeC, I.pin, I.hok, I.len⟩
theorem Inv.unwish (I : Inv (X.wish E) pins σ H s) : Inv X pins σ H s := ⟨I.ok.unwish, I.os, I.bare, I.base, I.loc, I.cell, I.free, I.freeC, I.pin, I.hok, I.len⟩
theorem SP.unwish {D : Ends} {f : Flow} {s' : Shared} (h : SP (X.wish E) pins D f s') : SP X pins D f s' := by
  cases f with
  | next => obtain ⟨σ', H', I, q⟩ := h; exact ⟨σ', H', I.unwish, q⟩
  | brk => obtain ⟨σ', H', I, q⟩ := h; exact ⟨σ', H', I.unwish, q⟩
  | cont => obtain ⟨σ', H', I, q⟩ := h; exact ⟨σ', H', I.unwish, q⟩
  | ret u => obtain ⟨v, σ', H', I, r, q⟩ := h; exact ⟨v, σ', H', I.unwish, r, q⟩
theorem PE.nox {e : Expr} {t : TE} (h : PE X.nox e t) : PE X e t := fun pins s σ H Q I hw =>
  wpAny_mono (h pins s σ H Q (I.wish _) hw) (fun _ _ ⟨v, H', I', r, q⟩ => ⟨v, H', I'.unwish, r, q⟩) fun _ _ z => False.elim z
theorem PT.nox {e : Expr} {t : TT} (h : PT X.nox e t) : PT X e t := fun pins s σ H Q I hw =>
  wpAny_mono (h pins s σ H Q (I.wish _) hw) (fun _ _ ⟨H', I', q⟩ => ⟨H', I'.unwish, q⟩) fun _ _ z => False.elim z
theorem PSs.nox {st : List Stmt} {t : TS} (h : PSs X.nox st t) : PSs X st t := fun pins s σ H D I hw =>
  wpAny_mono (h pins s σ H D (I.wish _) hw) (fun _ _ q => q.unwish) fun _ _ z => False.elim z
end
section
variable {X : Cx} {st : Stmt} {rest : List Stmt} {t u : TS} {e : Expr} {te : TE} {pos : Pos}
def tNext : TS := fun D σ H => D.nx σ H
def tSeq (t u : TS) : TS := fun D σ H => t { D with nx := u D } σ H
theorem pss_nil : PSs X [] tNext := fun _ _ σ H _ I h => wpAny_execs_nil ⟨σ, H, I, h⟩
theorem pss_cons (h1 : PS X st t) (h2 : PSs X rest u) : PSs X (st :: rest) (tSeq t u) := by
  intro pins s σ H D I h
  refine wpAny_execs_cons (thn (h1 pins s σ H { D with nx := u D } I h) fun f s1 q => ?_)
  cases f with
  | next =>
    obtain ⟨σ', H', I', q⟩ := q
    exact h2 pins s1 σ' H' D I' q
  | ret v => exact q
  | brk => exact q
  | cont => exact q
theorem pss_one (h1 : PS X st t) : PSs X [st] t := by
  intro pins s σ H D I h
  refine wpAny_execs_cons (thn (h1 pins s σ H D I h) fun f s1 q => ?_)
  cases f with
  | next => exact wpAny_execs_nil q
  | ret v => exact q
  | brk => exact q
  | cont => exact q
theorem Inv.quiet {pins : List (Addr × Obj)} {σ : St} {H : Hp} {s : Shared} (I : Inv X pins σ H s) : interactive X.env = false := by simp [interactive, I.ok.kind]
def tDrop (te : TE) : TS := fun D σ H => te σ H fun _ H1 => D.nx σ H1
theorem ps_expr (he : PE X e te) (hs : swapsWith e none pos.line X.env = pure false := by rfl) : PS X (.Expr e pos) (tDrop te) := by
  intro pins s σ H D I h
  exact wpAny_Expr_any (thn (he pins s σ H _ I h) fun v s1 ⟨x, H1, I1, r1, q1⟩ => ⟨σ, H1, I1, q1⟩) I.quiet hs
def tRet (te : TE) : TS := fun D σ H => te σ H D.rt
theorem ps_ret (he : PE X e te) : PS X (.Return (some e) pos) (tRet te) := by
  intro pins s σ H D I h
  exact wpAny_Return_some (thn (he pins s σ H _ I h) fun v s1 ⟨x, H1, I1, r1, q1⟩ => ⟨x, σ, H1, I1, r1, q1⟩)
def tRetN : TS := fun D _ H => D.rt .non H
def tIfS (c : TT) (t u : TS) : TS := fun D σ H => c σ H fun b H1 => if b = true then t D σ H1 else u D σ H1
theorem ps_if {c : Expr} {a b : List Stmt} {tc : TT} (hc : PT X c tc) (ha : PSs X a t) (hb : PSs X b u) : PS X (.If c a b pos) (tIfS tc t u) := by
  intro pins s σ H D I h
  refine wpAny_If (thn (hc pins s σ H _ I h) fun d s1 ⟨H1, I1, q1⟩ => ?_)
  cases d with
  | true => exact ha pins s1 σ H1 D I1 q1
  | false => exact hb pins s1 σ H1 D I1 q1
def tNever : TS := fun _ _ _ => False
theorem ps_never : PS X st tNever := fun _ _ _ _ _ _ h => h.elim
end
abbrev TG := V → St → Hp → (St → Hp → Prop) → Prop
abbrev TGs := List V → St → Hp → (St → Hp → Prop) → Prop
def PG (X : Cx) (target : Expr) (t : TG) : Prop :=
  ∀ (pins : List (Addr × Obj)) (s : Shared) (σ : St) (H : Hp) (v : V) (u : Value) (Q : St → Hp → Prop), Inv X pins σ H s → RelV v u → t v σ H Q →
    wpAny (model X.prog X.w) X.A (assign target X.env u) (fun _ s' => ∃ σ' H', Inv X pins σ' H' s' ∧ Q σ' H') X.xe s
def PGs (X : Cx) (ts : List Expr) (t : TGs) : Prop :=
  ∀ (pins : List (Addr × Obj)) (s : Shared) (σ : St) (H : Hp) (vs : List V) (us : List Value) (Q : St → Hp → Prop), Inv X pins σ H s → Vals vs us → t vs σ H Q →
    wpAny (model X.prog X.w) X.A (assignInOrder ((assignEach ts X.env).map (·.2)) us) (fun _ s' => ∃ σ' H', Inv X pins σ' H' s' ∧ Q σ' H') X.xe s
abbrev TSet := V → V → V → Hp → (Hp → Prop) → Prop
def PSet (X : Cx) (t : TSet) : Prop :=
  ∀ (pins : List (Addr × Obj)) (s : Shared) (σ : St) (H : Hp) (o i v : V) (ov iv u : Value) (Q : Hp → Prop), Inv X pins σ H s → RelV o ov → RelV i iv → RelV v u → t o i v H Q →
    wpAny (model X.prog X.w) X.A (setItem ov iv u) (fun _ s' => ∃ H', Inv X pins σ H' s' ∧ Q H') X.xe s
section
variable {X : Cx} {pos : Pos}
def gName (i : Nat) : TG := fun v σ H Q => Q (σ.set i (some v)) H
theorem pg_name {i : Nat} {x : Str} (hN : X.N.Nodup) (hi : X.N[i]? = some x) (hx : Loc X.env.scope x) (hf : X.fn x = true ∨ X.env.scope.names.lookup x = some .local := by first | exact .inl rfl | exact .inr rfl | assumption) : PG X (.Name x pos) (gName i) := by
  intro pins s σ H v u Q I r h
  exact wpAny_assign_Name (store_ok I hN hi hx r (fun s' I' => ⟨_, H, I', h⟩) hf)
def gNil : TGs := fun vs σ H Q => vs = [] ∧ Q σ H
def gCons (t : TG) (u : TGs) : TGs := fun vs σ H Q => ∃ v r, vs = v :: r ∧ t v σ H fun σ' H' => u r σ' H' Q
theorem pgs_nil : PGs X [] gNil := by
  intro pins s σ H vs us Q I r h
  obtain ⟨e, h⟩ := h
  subst e
  cases r
  exact assignInOrder_nil ⟨σ, H, I, h⟩
theorem pgs_cons {e : Expr} {es : List Expr} {t : TG} {u : TGs} (h1 : PG X e t) (h2 : PGs X es u)
    (hs : (assignEach (e :: es) X.env).map (·.2) = assign e X.env :: (assignEach es X.env).map (·.2) := by rfl) : PGs X (e :: es) (gCons t u) := by
  intro pins s σ H vs us Q I r h
  obtain ⟨v, vr, e1, h⟩ := h
  subst e1
  cases r with
  | cons r rr =>
    rw [hs]
    refine assignInOrder_cons (thn (h1 pins s σ H _ _ _ I r h) fun _ s1 ⟨σ1, H1, I1, q1⟩ => ?_)
    exact h2 pins s1 σ1 H1 _ _ Q I1 rr q1
def gTup (K : PySem.W.Frag) (n : Nat) (t : TGs) : TG := fun v σ H Q => ∃ a xs, v = .ref a ∧ SqT K H a xs ∧ xs.length = n ∧ t xs σ H Q
theorem pg_tup {es : List Expr} {k : Nat} {t : TGs} {n : Nat} (hc : X.calm = true) (h : PGs X es t)
    (hn : (assignEach es X.env).length = n := by rfl) (hst : (assignEach es X.env).findIdx? (·.1) = none := by rfl) : PG X (.Tuple es k pos) (gTup X.K n t) := by
  intro pins s σ H v u Q I r hw
  obtain ⟨a, xs, e1, hq, hl, hw⟩ := hw
  subst e1
  cases r
  obtain ⟨its, rv, ht, hz⟩ := I.tuple hq
  refine assign_Tuple_tuple (I.ok.hd hc) ht (by simp [hn, ← hl, rv.length]) hst fun h' hx => ?_
  have I1 : Inv X pins σ H { s with heap := h' } := I.kept (t' := s.toks) fun b o e => hx b o (Nat.ne_of_lt (Heap.lt_size e)) e
  exact h pins _ σ H xs _ Q I1 (by simpa using rv) hw
def gSub (to ti : TE) (t : TSet) : TG := fun v σ H Q => to σ H fun o H1 => ti σ H1 fun i H2 => t o i v H2 fun H3 => Q σ H3
theorem pg_sub {o i : Expr} {to ti : TE} {t : TSet} (ho : PE X o to) (hi : PE X i ti) (hs : PSet X t)
    (ha : ∀ v, assign (.Subscript o i pos) X.env v = (do
      let ov ← holding [v] (eval o X.env)
      let iv ← holding [v, ov] (eval i X.env)
      standAt pos
      holding [v, ov, iv] (setItem ov iv v)
      release [v, ov, iv] []) := by intro _; rfl) : PG X (.Subscript o i pos) (gSub to ti t) := by
  intro pins s σ H v u Q I r h
  rw [ha]
  refine wpAny_bind (wpAny_holding (thn (ho pins s σ H _ I h) fun ov s1 ⟨x, H1, I1, r1, q1⟩ => ?_))
  refine wpAny_bind (wpAny_holding (thn (hi pins s1 σ H1 _ I1 q1) fun iv s2 ⟨y, H2, I2, r2, q2⟩ => ?_))
  refine wpAny_bind (wpAny_standAt (wpAny_bind (wpAny_holding (thn (hs pins s2 σ H2 x y v ov iv u _ I2 r1 r2 r q2) fun _ s3 ⟨H3, I3, q3⟩ => ?_))))
  exact wpAny_release ⟨σ, H3, I3, q3⟩
def tAsg (te : TE) (g : TG) : TS := fun D σ H => te σ H fun x H1 => g x σ H1 D.nx
theorem ps_asg {tg e : Expr} {te : TE} {g : TG} (he : PE X e te) (hg : PG X tg g) (hs : swapsWithSole [tg] e pos.line X.env = pure false := by rfl) (hw : swappedStores [tg] e X.env = pure none := by rfl)
    (h1 : (assignEach [tg] X.env).map (·.2) = [assign tg X.env] := by rfl) : PS X (.Assign [tg] e pos) (tAsg te g) := by
  intro pins s σ H D I h
  refine wpAny_Assign_stores (thn (he pins s σ H _ I h) fun v s1 ⟨x, H1, I1, r1, q1⟩ => ?_) hs hw
  rw [h1]
  exact thn (hg pins s1 σ H1 x v _ I1 r1 q1) fun _ s2 q => q
theorem ps_set {i : Nat} {x : Str} {e : Expr} {te : TE} {pos' : Pos} (hN : X.N.Nodup) (hi : X.N[i]? = some x) (hx : Loc X.env.scope x) (he : PE X e te) (hs : swapsWith e (some (.Name x pos')) pos.line X.env = pure false := by rfl) (hf : X.fn x = true ∨ X.env.scope.names.lookup x = some .local := by first | exact .inl rfl | exact .inr rfl | assumption) :
    PS X (.Assign [.Name x pos'] e pos) (tAsg te (gName i)) := by
  intro pins s σ H D I h
  refine wpAny_Assign_Name (thn (he pins s σ H _ I h) fun v s1 ⟨y, H1, I1, r1, q1⟩ => ?_) hs
  exact store_ok I1 hN hi hx r1 (fun s2 I2 => ⟨_, H1, I2, q1⟩) hf
end
section
variable {X : Cx} {pos : Pos}
end
structure It where
  go : Nat → Hp → Prop
  yld : Nat → Hp → V → Hp → Prop
  stop : Nat → Hp → Prop
def FpOk (X : Cx) (pins : List (Addr × Obj)) (H : Hp) (b : Addr) : Prop :=
  H b = none ∧ b ≠ X.env.locals ∧ b ∉ X.fs ∧ (b ∈ X.ex ∨ X.s₀.heap.objs.size ≤ b) ∧ (∀ x c, X.env.cells.lookup x = some c → c ≠ b) ∧ ∀ p ∈ X.pn ++ pins, p.1 ≠ b
theorem Inv.fpOk {X : Cx} {pins : List (Addr × Obj)} {σ : St} {H H' : Hp} {s : Shared} {b : Addr} (I : Inv X pins σ H s) (hb : s.heap.objs.size ≤ b) (hn : H' b = none) : FpOk X pins H' b := by
  refine ⟨hn, Nat.ne_of_gt (Nat.lt_of_lt_of_le I.lt hb), I.nofs hb, .inr (Nat.le_trans I.sz hb), fun x c e z => ?_, fun p hp z => ?_⟩
  · obtain ⟨v, q⟩ := I.cell x c e
    exact absurd (Nat.lt_of_lt_of_le q.lt (by rw [z]; exact hb)) (Nat.lt_irrefl _)
  · exact absurd (Nat.lt_of_lt_of_le (Heap.lt_size (I.pin p hp).1) (by rw [z]; exact hb)) (Nat.lt_irrefl _)
structure Turn (P : Program) (w : World) (K : PySem.W.Frag) (tg : Expr) (J : It) (fp : List Addr) (it : Addr) (tn : Nat → Heap → Prop) : Prop where
  mem : it ∈ fp
  obj : ∀ i h, tn i h → ∀ b ∈ fp, ∃ o, h.get? b = some o ∧ ∀ v, o.data ≠ .cell v
  keep : ∀ i h h', tn i h → (∀ b ∈ fp, ∀ o, h.get? b = some o → h'.get? b = some o) → tn i h'
  item : ∀ (X : Cx), X.prog = P → X.w = w → X.K = K → X.calm = true → ∀ (i : Nat) (pins : List (Addr × Obj)) (s : Shared) (σ : St) (H : Hp) (E : Value → Shared → Prop), Inv X pins σ H s → (∀ b ∈ fp, FpOk X pins H b) → tn i s.heap → J.go i H →
    wpAny (model P w) X.A (pyNext (.ref it)) (fun r s1 => ∃ u, r = some u ∧
      wpAny (model P w) X.A (letOwnedTupleGo tg (.ref it) u) (fun _ s2 => ∃ x H', Inv X pins σ H' s2 ∧ RelV x u ∧ J.yld i H x H' ∧ tn (i + 1) s2.heap ∧ ∀ b ∈ fp, H' b = none) E s1) E s
  done : ∀ (X : Cx), X.prog = P → X.w = w → X.K = K → X.calm = true → ∀ (i : Nat) (pins : List (Addr × Obj)) (s : Shared) (σ : St) (H : Hp) (E : Value → Shared → Prop), Inv X pins σ H s → (∀ b ∈ fp, FpOk X pins H b) → tn i s.heap → J.stop i H →
    wpAny (model P w) X.A (pyNext (.ref it)) (fun r s1 => r = none ∧ Inv X pins σ H s1) E s
  self : ∀ (A : Around) (i : Nat) (s : Shared) (Q : Value → Shared → Prop) (E : Value → Shared → Prop), tn i s.heap → Q (.ref it) s → wpAny (model P w) A (pyIter (.ref it)) Q E s
abbrev TI := St → Hp → (It → Hp → Prop) → Prop
def PIE (X : Cx) (pins : List (Addr × Obj)) (σ : St) (tg : Expr) (R : It → Hp → Prop) (itv : Value) (s2 : Shared) : Prop :=
  ∃ (it : Addr) (fp : List Addr) (tn : Nat → Heap → Prop) (J : It) (H' : Hp), itv = .ref it ∧ Inv X pins σ H' s2 ∧ Turn X.prog X.w X.K tg J fp it tn ∧ tn 0 s2.heap ∧ (∀ b ∈ fp, FpOk X pins H' b) ∧ R J H'
def PI (X : Cx) (tg iter : Expr) (wi : TI) : Prop :=
  ∀ (pins : List (Addr × Obj)) (s : Shared) (σ : St) (H : Hp) (R : It → Hp → Prop), Inv X pins σ H s → wi σ H R →
    wpAny (model X.prog X.w) X.A (eval iter X.env) (fun v s1 => wpAny (model X.prog X.w) X.A (pyIter v) (PIE X pins σ tg R) X.xe s1) X.xe s
theorem go_of {M : Model} {A : Around} {E : Value → Shared → Prop} {s : Shared} {tg : Expr} {it : Addr} {u : Value} {o : Obj} {n : String} {vs : Array Value} {Q : Unit → Shared → Prop} (ho : s.heap.get? it = some o) (hc : o.cls = .type n) (hd : o.data = .fields vs)
    (hn : ["enumerate", "zip", "dict_itemiterator", "dict_reverseitemiterator", "odict_iterator", "itertools.zip_longest", "itertools.pairwise"].contains n = false) (hQ : Q () s) : wpAny M A (letOwnedTupleGo tg (.ref it) u) Q E s := by
  unfold letOwnedTupleGo
  cases tg <;> first
    | exact wpAny_pure hQ
    | (cases u <;> first
        | exact wpAny_pure hQ
        | (refine wpAny_bind (wpAny_load ho ?_)
           rw [hc, hd]
           show wpAny M A (if (["enumerate", "zip", "dict_itemiterator", "dict_reverseitemiterator", "odict_iterator", "itertools.zip_longest", "itertools.pairwise"].contains n && vs[0]? == some (rawInt _)) = true then _ else _) Q E s
           rw [if_neg (by intro h; rw [hn, Bool.false_and] at h; cases h)]
           exact wpAny_pure hQ))
def Itl (K : PySem.W.Frag) (a : Addr) : It :=
  ⟨fun i H => ∃ xs x, SqL K H a xs ∧ xs[i]? = some x, fun i H x H' => H' = H ∧ ∀ xs, SqL K H a xs → xs[i]? = some x, fun i H => ∃ xs, SqL K H a xs ∧ xs.length ≤ i⟩
def Itt (K : PySem.W.Frag) (a : Addr) : It :=
  ⟨fun i H => ∃ xs x, SqT K H a xs ∧ xs[i]? = some x, fun i H x H' => H' = H ∧ ∀ xs, SqT K H a xs → xs[i]? = some x, fun i H => ∃ xs, SqT K H a xs ∧ xs.length ≤ i⟩
def Itr (lo : Int) (n : Nat) : It := ⟨fun i _ => i < n, fun i H x H' => H' = H ∧ x = .int (lo + i), fun i _ => n ≤ i⟩
theorem turn_list {P : Program} {w : World} {K : PySem.W.Frag} {tg : Expr} (a it : Addr) : Turn P w K tg (Itl K a) [it] it (fun i h => h.IsListIter it a i) where
  mem := by simp
  obj := fun i h st b hb => by
    have e : b = it := by simpa using hb
    subst e
    obtain ⟨o, e, c, d⟩ := st
    exact ⟨o, e, fun v z => by rw [d] at z; cases z⟩
  keep := fun i h h' st k => st.at fun o e => k it (by simp) o e
  item := by
    intro X hP hw hK hc i pins s σ H E I hf st hg
    subst hP hw hK
    obtain ⟨xs, x, hq, hx⟩ := hg
    obtain ⟨its, rv, p, hz⟩ := I.list hq
    obtain ⟨u, hu, ru⟩ := rv.get hx
    obtain ⟨f0, f1, f2, f3, f4, f5⟩ := hf it (by simp)
    refine wpAny_pyNext_list_item st p.isList (x := u) (by simpa using hu) fun h' st' sb => ?_
    have I1 : Inv X pins σ H { s with heap := h' } := I.turned (t' := s.toks) (fun b o hb e => (sb.2 b hb).trans e) f0 f1 f3 f4 f5
    obtain ⟨o, e, c, d⟩ := id st'
    exact ⟨u, rfl, go_of (s := { s with heap := h' }) e c d (by decide) ⟨x, H, I1, ru, ⟨rfl, fun ys hy => by rw [I.list_inj hy hq]; exact hx⟩, st', fun b hb => (hf b hb).1⟩⟩
  done := by
    intro X hP hw hK hc i pins s σ H E I hf st hg
    subst hP hw hK
    obtain ⟨xs, hq, hx⟩ := hg
    obtain ⟨its, rv, p, hz⟩ := I.list hq
    obtain ⟨f0, f1, f2, f3, f4, f5⟩ := hf it (by simp)
    have hl := rv.length
    exact wpAny_pyNext_list_end (I.ok.hd hc) st p.isList (by simp; omega) fun h' eb => ⟨rfl, I.turned (t' := s.toks) (fun b o hb e => eb b o hb e) f0 f1 f3 f4 f5⟩
  self := fun _ _ _ _ _ st h => wpAny_pyIter_listiter st h
theorem turn_range {P : Program} {w : World} {K : PySem.W.Frag} {tg : Expr} (it : Addr) (lo : Int) (n : Nat) : Turn P w K tg (Itr lo n) [it] it (fun i h => IsRangeIter h it (lo + (i : Nat) * 1) ((n : Int) - (i : Nat)) 1) where
  mem := by simp
  obj := fun i h st b hb => by
    have e : b = it := by simpa using hb
    subst e
    exact ⟨_, st, fun v z => by
      have z' : Data.fields _ = Data.cell v := z
      cases z'⟩
  keep := fun i h h' st k => k it (by simp) _ st
  item := by
    intro X hP hw hK hc i pins s σ H E I hf st hg
    subst hP hw hK
    obtain ⟨f0, f1, f2, f3, f4, f5⟩ := hf it (by simp)
    have W := Walks.range (prog := X.prog) (w := X.w) (I.ok.hd hc) it lo 1 n
    refine W.item i s _ _ hg st fun v h' tk hv st' kk => ?_
    obtain ⟨t, rfl⟩ := hv
    have I1 : Inv X pins σ H { s with heap := h', toks := tk } := I.turned (fun b o hb e => kk b o (by simpa using hb) e) f0 f1 f3 f4 f5
    refine ⟨_, rfl, go_of (s := { s with heap := h', toks := tk }) (n := "range_iterator") st' rfl rfl (by decide) ⟨.int (lo + i), H, I1, ⟨t, ?_⟩, ⟨rfl, rfl⟩, st', fun b hb => (hf b hb).1⟩⟩
    rw [Int.mul_one]
  done := by
    intro X hP hw hK hc i pins s σ H E I hf st hg
    subst hP hw hK
    obtain ⟨f0, f1, f2, f3, f4, f5⟩ := hf it (by simp)
    exact wpAny_pyNext_range_end (I.ok.hd hc) st (by have : n ≤ i := hg; omega) fun h' eb => ⟨rfl, I.turned (t' := s.toks) (fun b o hb e => eb b o hb e) f0 f1 f3 f4 f5⟩
  self := fun _ _ _ _ _ st h => wpAny_pyIter_rangeiter st h
end L2
namespace L2
open PySem PySem.Spec PyProof.Rows
section
variable {X : Cx} {tg : Expr}
def iList (K : PySem.W.Frag) (tl : TE) : TI := fun σ H R => tl σ H fun x H1 => ∃ a, x = .ref a ∧ (∃ xs, SqL K H1 a xs) ∧ R (Itl K a) H1
def iTup (K : PySem.W.Frag) (tl : TE) : TI := fun σ H R => tl σ H fun x H1 => ∃ a, x = .ref a ∧ (∃ xs, SqT K H1 a xs) ∧ R (Itt K a) H1
theorem pi_list {l : Expr} {tl : TE} (hl : PE X l tl) : PI X tg l (iList X.K tl) := by
  intro pins s σ H R I h
  refine thn (hl pins s σ H _ I h) fun v s1 ⟨x, H1, I1, r1, q1⟩ => ?_
  obtain ⟨a, e, ⟨xs, hq⟩, q⟩ := q1
  subst e
  cases r1
  obtain ⟨its, rv, p, hz⟩ := I1.list hq
  refine wpAny_pyIter_list p.isList ?_
  refine ⟨s1.heap.objs.size, [s1.heap.objs.size], _, _, H1, rfl, I1.kept (t' := s1.toks) fun b o e => Heap.get?_push_of_some _ e, turn_list a _, ⟨_, Heap.get?_push_size _ rfl, rfl, rfl⟩, fun b hb => ?_, q⟩
  have e : b = s1.heap.objs.size := by simpa using hb
  subst e
  exact I1.fpOk (Nat.le_refl _) (I1.hok.fresh (Nat.le_refl _))
theorem range_it {pins : List (Addr × Obj)} {σ : St} {H : Hp} {s : Shared} {R : It → Hp → Prop} {E : Value → Shared → Prop} {lo hi : Int} {t u v : Tok} {tk : Nat} (I : Inv X pins σ H s) (h1 : -(2 ^ 62) ≤ lo) (h2 : lo < 2 ^ 62) (h3 : -(2 ^ 62) ≤ hi) (h4 : hi < 2 ^ 62)
    (q : R (Itr lo (hi - lo).toNat) H) : wpAny (model X.prog X.w) X.A (pyIter (.ref s.heap.objs.size)) (PIE X pins σ tg R) E { s with heap := s.heap.push { cls := .type "range", data := .fields #[.int lo t, .int hi u, .int 1 v] }, toks := tk } := by
  refine wpAny_pyIter_range (IsRange.new ..) (small_one h1 h2 h3 h4) ?_
  have I1 : Inv X pins σ H { s with heap := s.heap.push { cls := .type "range", data := .fields #[.int lo t, .int hi u, .int 1 v] }, toks := tk } := I.kept fun b o e => Heap.get?_push_of_some _ e
  refine ⟨(s.heap.push { cls := .type "range", data := .fields #[.int lo t, .int hi u, .int 1 v] }).objs.size, [(s.heap.push { cls := .type "range", data := .fields #[.int lo t, .int hi u, .int 1 v] }).objs.size], _, _, H, rfl,
    I1.kept (t' := tk) fun b o e => Heap.get?_push_of_some _ e, turn_range _ lo (hi - lo).toNat, ?_, fun b hb => ?_, q⟩
  · have e1 : lo + ((0 : Nat) : Int) * 1 = lo := by simp
    have e2 : (((hi - lo).toNat : Nat) : Int) - ((0 : Nat) : Int) = Builtin.Range.rangeSize lo hi 1 := by rw [rangeSize_one]; split <;> omega
    show IsRangeIter _ _ (lo + ((0 : Nat) : Int) * 1) ((((hi - lo).toNat : Nat) : Int) - ((0 : Nat) : Int)) 1
    rw [e1, e2]
    exact Heap.get?_push_size _ rfl
  · have e : b = (s.heap.push { cls := .type "range", data := .fields #[.int lo t, .int hi u, .int 1 v] }).objs.size := by simpa using hb
    subst e
    exact I1.fpOk (Nat.le_refl _) (I1.hok.fresh (Nat.le_refl _))
def iRng1 (ta : TA) : TI := fun σ H R => ta σ H fun vs H1 => ∃ j : Int, vs = [.int j] ∧ -(2 ^ 62) ≤ j ∧ j < 2 ^ 62 ∧ R (Itr 0 j.toNat) H1
def iRng2 (ta : TA) : TI := fun σ H R => ta σ H fun vs H1 => ∃ i j : Int, vs = [.int i, .int j] ∧ (-(2 ^ 62) ≤ i ∧ i < 2 ^ 62 ∧ -(2 ^ 62) ≤ j ∧ j < 2 ^ 62) ∧ R (Itr i (j - i).toNat) H1
theorem pi_range1 {a : Expr} {ta : TA} {p pos : Pos} (hg : Gl X "range") (hm : X.mg "range" = none) (ha : PA X [a] ta) (hs : starEach [a] X.env = [(false, eval a X.env)] := by rfl) : PI X tg (.Call (.Name "range" p) [a] [] pos) (iRng1 ta) := by
  intro pins s σ H R I h
  refine Call_ (ld_blt I hg hm boot_range (PyProof.Rows.callWith_type1 (thn (ha pos pins s σ H _ I h) fun us s1 ⟨vs, H1, I1, r1, q1⟩ => ?_) hs rfl))
  obtain ⟨j, e, q1, q2, q⟩ := q1
  subst e
  cases r1 with
  | cons r rr =>
    cases rr
    obtain ⟨t, rfl⟩ := r
    exact call_range_1 (range_it I1 (by omega) (by omega) q1 q2 (by simpa using q))
theorem pi_range2 {a b : Expr} {ta : TA} {p pos : Pos} (hg : Gl X "range") (hm : X.mg "range" = none) (ha : PA X [a, b] ta) (hs : starEach [a, b] X.env = [(false, eval a X.env), (false, eval b X.env)] := by rfl) (hs2 : starEach [b] X.env = [(false, eval b X.env)] := by rfl) :
    PI X tg (.Call (.Name "range" p) [a, b] [] pos) (iRng2 ta) := by
  intro pins s σ H R I h
  refine Call_ (ld_blt I hg hm boot_range (PyProof.Rows.callWith_type1 (thn (ha pos pins s σ H _ I h) fun us s1 ⟨vs, H1, I1, r1, q1⟩ => ?_) (by rw [hs, hs2]) (by rw [hs2]; rfl)))
  obtain ⟨i, j, e, ⟨q1, q2, q3, q4⟩, q⟩ := q1
  subst e
  cases r1 with
  | cons r rr =>
    cases rr with
    | cons r' rr =>
      cases rr
      obtain ⟨t, rfl⟩ := r
      obtain ⟨t', rfl⟩ := r'
      exact call_range_2 (range_it I1 q1 q2 q3 q4 q)
def tFor (wi : TI) (g : TG) (tb : TS) : TS := fun D σ H => wi σ H fun J H1 => ∃ W : Nat → Nat → St → Hp → Prop, (∃ m, W 0 m σ H1) ∧ ∀ i m σ H, W i m σ H →
  (J.stop i H ∧ D.nx σ H) ∨ (J.go i H ∧ ∃ N : St → Hp → Prop, (∀ σ' H', N σ' H' → ∃ m', m' < m ∧ W (i + 1) m' σ' H') ∧ ∀ x H', J.yld i H x H' → g x σ H' fun σ2 H2 => tb { D with nx := N, ct := N, bk := D.nx } σ2 H2)
def pinsAt (fp : List Addr) (h : Heap) : List (Addr × Obj) := fp.filterMap fun b => (h.get? b).map fun o => (b, o)
theorem mem_pinsAt {fp : List Addr} {h : Heap} {b : Addr} {o : Obj} (hb : b ∈ fp) (e : h.get? b = some o) : (b, o) ∈ pinsAt fp h := List.mem_filterMap.mpr ⟨b, hb, by rw [e]; rfl⟩
theorem of_pinsAt {fp : List Addr} {h : Heap} {p : Addr × Obj} (hp : p ∈ pinsAt fp h) : p.1 ∈ fp ∧ h.get? p.1 = some p.2 := by
  obtain ⟨b, hb, e⟩ := List.mem_filterMap.mp hp
  cases q : h.get? b with
  | none => rw [q] at e; cases e
  | some o =>
    rw [q] at e
    have e' : (b, o) = p := Option.some.inj e
    subst e'
    exact ⟨hb, q⟩
theorem Inv.pinned {pins : List (Addr × Obj)} {σ : St} {H : Hp} {s : Shared} {fp : List Addr} (I : Inv X pins σ H s) (hf : ∀ b ∈ fp, FpOk X pins H b) (ho : ∀ b ∈ fp, ∃ o, s.heap.get? b = some o ∧ ∀ v, o.data ≠ .cell v) : Inv X (pins ++ pinsAt fp s.heap) σ H s :=
  I.pins_of fun p hp => (List.mem_append.mp hp).elim (fun z => I.pin p (List.mem_append_right _ z)) fun z => by
    obtain ⟨hb, e⟩ := of_pinsAt z
    obtain ⟨f0, f1, f2, _⟩ := hf p.1 hb
    obtain ⟨o, e', d⟩ := ho p.1 hb
    rw [e] at e'; cases e'
    exact ⟨e, f0, f1, f2, d⟩
theorem Inv.unpinned {pins pl : List (Addr × Obj)} {σ : St} {H : Hp} {s : Shared} (I : Inv X (pins ++ pl) σ H s) : Inv X pins σ H s := I.pins_of fun p hp => I.pin p (List.mem_append_right _ (List.mem_append_left _ hp))
theorem ps_for {iter : Expr} {body : List Stmt} {wi : TI} {g : TG} {tb : TS} {pos : Pos} (hp : PassesOwn (model X.prog X.w) X.A X.env X.xe) (hc : X.calm = true) (hi : PI X tg iter wi) (hg : PG X tg g) (hb : PSs X body tb)
    (hs : ∀ x, foldedSetIterable iter X.env x = pure x := by intro _; rfl) : PS X (.For tg iter body [] pos) (tFor wi g tb) := by
  intro pins s σ H D I h
  refine wpAny_For (thn (hi pins s σ H _ I h) fun v s1 h1 => thn h1 fun itv s2 h2 => ?_) hs
  obtain ⟨it, fp, tn, J, H2, e, I2, T, st2, f2, W, ⟨m0, w0⟩, turn⟩ := h2
  subst e
  have stat : ∀ {H' : Hp}, (∀ b ∈ fp, H' b = none) → ∀ b ∈ fp, FpOk X pins H' b := fun hn b hb => ⟨hn b hb, (f2 b hb).2⟩
  refine codeAny_forLoop_any (fun n s' => ∃ i σ' H', Inv X pins σ' H' s' ∧ tn i s'.heap ∧ (∀ b ∈ fp, H' b = none) ∧ W i n σ' H') ?_ m0 ⟨0, σ, H2, I2, st2, fun b hb => (f2 b hb).1, w0⟩
  rintro n s3 ⟨i, σ3, H3, I3, st3, fr3, w3⟩
  rcases turn i n σ3 H3 w3 with ⟨stop, qn⟩ | ⟨go, N, hN, step⟩
  · refine wpAny_passesOwn hp (thn (T.done X rfl rfl rfl hc i pins s3 σ3 H3 X.xe I3 (stat fr3) st3 stop) fun r s4 ⟨hr, I4⟩ => ?_)
    subst hr
    exact wpAny_execs_nil ⟨σ3, H3, I4, qn⟩
  · refine wpAny_passesOwn hp (thn (T.item X rfl rfl rfl hc i pins s3 σ3 H3 X.xe I3 (stat fr3) st3 go) fun r s4 ⟨u, hr, h4⟩ => ?_)
    subst hr
    refine wpAny_passesOwn hp (thn h4 fun _ s5 ⟨x, H5, I5, r5, y5, st5, fr5⟩ => ?_)
    have I5' := I5.pinned (stat fr5) (T.obj _ _ st5)
    refine wpAny_passesOwn hp (thn (hg _ s5 σ3 H5 x u _ I5' r5 (step x H5 y5)) fun _ s6 ⟨σ6, H6, I6, q6⟩ => ?_)
    refine wpAny_passesOwn hp (thn (hb _ s6 σ6 H6 _ I6 q6) fun f s7 q7 => ?_)
    have again : ∀ {σ7 : St} {H7 : Hp}, Inv X (pins ++ pinsAt fp s5.heap) σ7 H7 s7 → N σ7 H7 → ∃ m, m < n ∧ ∃ i σ' H', Inv X pins σ' H' s7 ∧ tn i s7.heap ∧ (∀ b ∈ fp, H' b = none) ∧ W i m σ' H' := fun {σ7 H7} I7 n7 => by
      obtain ⟨m', hm, w7⟩ := hN σ7 H7 n7
      refine ⟨m', hm, i + 1, σ7, H7, I7.unpinned, T.keep _ _ _ st5 fun b hb o e => (I7.pin (b, o) (List.mem_append_right _ (List.mem_append_right _ (mem_pinsAt hb e)))).1, fun b hb => ?_, w7⟩
      obtain ⟨o, e, d⟩ := T.obj _ _ st5 b hb
      exact (I7.pin (b, o) (List.mem_append_right _ (List.mem_append_right _ (mem_pinsAt hb e)))).2.1
    cases f with
    | next => obtain ⟨σ7, H7, I7, n7⟩ := q7; exact again I7 n7
    | cont => obtain ⟨σ7, H7, I7, n7⟩ := q7; exact again I7 n7
    | brk => obtain ⟨σ7, H7, I7, q7⟩ := q7; exact ⟨σ7, H7, I7.unpinned, q7⟩
    | ret v => obtain ⟨x7, σ7, H7, I7, r7, q7⟩ := q7; exact ⟨x7, σ7, H7, I7.unpinned, r7, q7⟩
end
theorem for_list {K : PySem.W.Frag} {a : Addr} {xs : List V} {g : TG} {tb : TS} {D : Ends} {σ : St} {H : Hp} (Pv : Nat → St → Hp → Prop) (h0 : Pv 0 σ H) (hl : ∀ i σ H, i ≤ xs.length → Pv i σ H → SqL K H a xs)
    (hs : ∀ i x σ H, xs[i]? = some x → Pv i σ H → g x σ H fun σ2 H2 => tb { D with nx := Pv (i + 1), ct := Pv (i + 1), bk := D.nx } σ2 H2) (hd : ∀ σ H, Pv xs.length σ H → D.nx σ H) :
    ∃ W : Nat → Nat → St → Hp → Prop, (∃ m, W 0 m σ H) ∧ ∀ i m σ H, W i m σ H →
      ((Itl K a).stop i H ∧ D.nx σ H) ∨ ((Itl K a).go i H ∧ ∃ N : St → Hp → Prop, (∀ σ' H', N σ' H' → ∃ m', m' < m ∧ W (i + 1) m' σ' H') ∧ ∀ x H', (Itl K a).yld i H x H' → g x σ H' fun σ2 H2 => tb { D with nx := N, ct := N, bk := D.nx } σ2 H2) := by
  refine ⟨fun i m σ H => m = xs.length - i ∧ i ≤ xs.length ∧ Pv i σ H, ⟨xs.length, by simp, Nat.zero_le _, h0⟩, ?_⟩
  rintro i m σ H ⟨rfl, hi, p⟩
  have q := hl i σ H hi p
  by_cases hlt : i < xs.length
  · refine .inr ⟨⟨xs, xs[i], q, by simp [hlt]⟩, Pv (i + 1), fun σ' H' p' => ⟨xs.length - (i + 1), by omega, rfl, hlt, p'⟩, fun x H' y => ?_⟩
    obtain ⟨e, y⟩ := y
    subst e
    exact hs i x σ _ (y xs q) p
  · have e : i = xs.length := by omega
    subst e
    exact .inl ⟨⟨xs, q, Nat.le_refl _⟩, hd σ H p⟩
theorem for_range {lo : Int} {n : Nat} {g : TG} {tb : TS} {D : Ends} {σ : St} {H : Hp} (Pv : Nat → St → Hp → Prop) (h0 : Pv 0 σ H)
    (hs : ∀ i σ H, i < n → Pv i σ H → g (.int (lo + i)) σ H fun σ2 H2 => tb { D with nx := Pv (i + 1), ct := Pv (i + 1), bk := D.nx } σ2 H2) (hd : ∀ σ H, Pv n σ H → D.nx σ H) :
    ∃ W : Nat → Nat → St → Hp → Prop, (∃ m, W 0 m σ H) ∧ ∀ i m σ H, W i m σ H →
      ((Itr lo n).stop i H ∧ D.nx σ H) ∨ ((Itr lo n).go i H ∧ ∃ N : St → Hp → Prop, (∀ σ' H', N σ' H' → ∃ m', m' < m ∧ W (i + 1) m' σ' H') ∧ ∀ x H', (Itr lo n).yld i H x H' → g x σ H' fun σ2 H2 => tb { D with nx := N, ct := N, bk := D.nx } σ2 H2) := by
  refine ⟨fun i m σ H => m = n - i ∧ i ≤ n ∧ Pv i σ H, ⟨n, by simp, Nat.zero_le _, h0⟩, ?_⟩
  rintro i m σ H ⟨rfl, hi, p⟩
  by_cases hlt : i < n
  · refine .inr ⟨hlt, Pv (i + 1), fun σ' H' p' => ⟨n - (i + 1), by omega, rfl, hlt, p'⟩, fun x H' y => ?_⟩
    obtain ⟨e, y⟩ := y
    subst e y
    exact hs i σ _ hlt p
  · have e : i = n := by omega
    subst e
    exact .inl ⟨Nat.le_refl _, hd σ H p⟩
end L2
namespace L2
open PySem PySem.Spec PyProof.Rows
abbrev R2 := V → V → Hp → VK → Prop
def OpR (X : Cx) (f : Value → Value → Sem Value) (r : R2) : Prop :=
  ∀ (pins : List (Addr × Obj)) (s : Shared) (σ : St) (H : Hp) (x y : V) (v u : Value) (Q : VK), Inv X pins σ H s → RelV x v → RelV y u → r x y H Q →
    wpAny (model X.prog X.w) X.A (f v u) (EP X pins σ Q) X.xe s
def CallR (X : Cx) (f : Value) (r : List V → Hp → VK → Prop) : Prop :=
  ∀ (pins : List (Addr × Obj)) (s : Shared) (σ : St) (H : Hp) (xs : List V) (us : List Value) (Q : VK), Inv X pins σ H s → Vals xs us → r xs H Q →
    wpAny (model X.prog X.w) X.A (call f us) (EP X pins σ Q) X.xe s
def TruR (X : Cx) (r : V → Hp → (Bool → Hp → Prop) → Prop) : Prop :=
  ∀ (pins : List (Addr × Obj)) (s : Shared) (σ : St) (H : Hp) (x : V) (v : Value) (Q : Bool → Hp → Prop), Inv X pins σ H s → RelV x v → r x H Q →
    wpAny (model X.prog X.w) X.A (truthy v) (TP X pins σ Q) X.xe s
def tOp (r : R2) (ta tb : TE) : TE := fun σ H Q => ta σ H fun x H1 => tb σ H1 fun y H2 => r x y H2 Q
def tUn (r : V → Hp → VK → Prop) (ta : TE) : TE := fun σ H Q => ta σ H fun x H1 => r x H1 Q
def rI (C : Int → Int → Prop) (g : Int → Int → V) : R2 := fun x y H Q => ∃ i j, x = .int i ∧ y = .int j ∧ C i j ∧ Q (g i j) H
def rI0 (g : Int → Int → V) : R2 := fun x y H Q => ∃ i j, x = .int i ∧ y = .int j ∧ Q (g i j) H
def rU (g : Int → V) : V → Hp → VK → Prop := fun x H Q => ∃ i, x = .int i ∧ Q (g i) H
section
variable {X : Cx} {a b c : Expr} {ta tb tc : TE} {pos : Pos}
theorem binT (ha : PE X a ta) (hb : PE X b tb) {pins : List (Addr × Obj)} {s : Shared} {σ : St} {H : Hp} {R : V → V → Hp → Prop} (I : Inv X pins σ H s)
    (h : ta σ H fun x H1 => tb σ H1 fun y H2 => R x y H2) {Q : Value → Shared → Prop} {f : Value → Value → Sem Value}
    (hf : ∀ v u s2 x y H2, Inv X pins σ H2 s2 → RelV x v → RelV y u → R x y H2 → wpAny (model X.prog X.w) X.A (f v u) Q X.xe s2) :
    wpAny (model X.prog X.w) X.A (eval a X.env) (fun v s₁ => wpAny (model X.prog X.w) X.A (eval b X.env) (fun u s₂ => wpAny (model X.prog X.w) X.A (f v u) Q X.xe s₂) X.xe s₁) X.xe s := by
  refine thn (ha pins s σ H _ I h) fun v s1 ⟨x, H1, I1, r1, q1⟩ => ?_
  refine thn (hb pins s1 σ H1 _ I1 q1) fun u s2 ⟨y, H2, I2, r2, q2⟩ => ?_
  exact hf v u s2 x y H2 I2 r1 r2 q2
theorem pe_op {op : Operator} {r : R2} (ho : OpR X (binaryOp op) r) (ha : PE X a ta) (hb : PE X b tb) : PE X (.BinOp a op b pos) (tOp r ta tb) := by
  intro pins s σ H Q I h
  exact wpAny_BinOp (binT ha hb I h fun v u s2 x y H2 I2 rx ry q => ho pins s2 σ H2 x y v u Q I2 rx ry q)
theorem opI {f : Value → Value → Sem Value} {C : Int → Int → Prop} {g : Int → Int → Int}
    (rule : ∀ (i j : Int) (t u : Tok) (s : Shared) (Q : Value → Shared → Prop) (E : Value → Shared → Prop), C i j → Q (.int (g i j) s.toks) { s with toks := s.toks + 1 } → wpAny (model X.prog X.w) X.A (f (.int i t) (.int j u)) Q E s) :
    OpR X f (rI C fun i j => .int (g i j)) := by
  intro pins s σ H x y v u Q I rx ry h
  obtain ⟨i, j, rfl, rfl, hc, q⟩ := h
  obtain ⟨t, rfl⟩ := rx
  obtain ⟨t', rfl⟩ := ry
  exact rule i j t t' s _ _ hc ⟨.int (g i j), H, I.tok _, ⟨_, rfl⟩, q⟩
theorem opI0 {f : Value → Value → Sem Value} {g : Int → Int → Int}
    (rule : ∀ (i j : Int) (t u : Tok) (s : Shared) (Q : Value → Shared → Prop) (E : Value → Shared → Prop), Q (.int (g i j) s.toks) { s with toks := s.toks + 1 } → wpAny (model X.prog X.w) X.A (f (.int i t) (.int j u)) Q E s) :
    OpR X f (rI0 fun i j => .int (g i j)) := by
  intro pins s σ H x y v u Q I rx ry h
  obtain ⟨i, j, rfl, rfl, q⟩ := h
  obtain ⟨t, rfl⟩ := rx
  obtain ⟨t', rfl⟩ := ry
  exact rule i j t t' s _ _ ⟨.int (g i j), H, I.tok _, ⟨_, rfl⟩, q⟩
theorem opB0 {f : Value → Value → Sem Value} {g : Int → Int → Bool}
    (rule : ∀ (i j : Int) (t u : Tok) (s : Shared) (Q : Value → Shared → Prop) (E : Value → Shared → Prop), Q (.bool (g i j)) s → wpAny (model X.prog X.w) X.A (f (.int i t) (.int j u)) Q E s) :
    OpR X f (rI0 fun i j => .bl (g i j)) := by
  intro pins s σ H x y v u Q I rx ry h
  obtain ⟨i, j, rfl, rfl, q⟩ := h
  obtain ⟨t, rfl⟩ := rx
  obtain ⟨t', rfl⟩ := ry
  exact rule i j t t' s _ _ ⟨.bl (g i j), H, I, rfl, q⟩
def CPow (i j : Int) : Prop := 0 ≤ j ∧ j ≤ 1000000 ∧ i.natAbs < 2 ^ 64
def CMul (i j : Int) : Prop := (-(2 ^ 64) < i ∧ i < 2 ^ 64) ∨ (-(2 ^ 64) < j ∧ j < 2 ^ 64)
theorem CMul.ok {i j : Int} (h : CMul i j) : IntMulOk i j := by
  rcases h with ⟨h1, h2⟩ | ⟨h1, h2⟩
  · exact .of_left (intBits_le_64 h1 h2)
  · exact .of_right (intBits_le_64 h1 h2)
theorem op_add : OpR X (binaryOp .Add) (rI0 fun i j => .int (i + j)) := opI0 fun _ _ _ _ _ _ _ q => add_int q
theorem op_sub : OpR X (binaryOp .Sub) (rI0 fun i j => .int (i - j)) := opI0 fun _ _ _ _ _ _ _ q => sub_int q
theorem op_mul : OpR X (binaryOp .Mult) (rI CMul fun i j => .int (i * j)) := opI fun _ _ _ _ _ _ _ hc q => mul_int q hc.ok
theorem op_mod : OpR X (binaryOp .Mod) (rI (fun _ j => 0 < j) fun i j => .int (i % j)) := opI fun i j _ _ _ _ _ hc q => by
  have h1 : (0 : Int) < j := hc
  exact mod_int' (by omega) (by rw [Int.fmod_eq_emod_of_nonneg i (by omega)]; exact q)
theorem op_pow : OpR X (binaryOp .Pow) (rI CPow fun i j => .int (i ^ j.toNat)) := opI fun _ _ _ _ _ _ _ hc q => pow_int_small hc.1 hc.2.1 hc.2.2 q
end
def scal : V → V → Bool
  | .non, .non => true | .non, .int _ => true | .int _, .non => true | .non, .bl _ => true | .bl _, .non => true | .non, .str _ => true | .str _, .non => true
  | .int _, .int _ => true | .bl _, .bl _ => true | .str _, .str _ => true | .byt _, .byt _ => true
  | .int _, .str _ => true | .str _, .int _ => true | .bl _, .str _ => true | .str _, .bl _ => true
  | _, _ => false
def rEq : R2 := fun x y H Q => scal x y = true ∧ Q (.bl (decide (x = y))) H
def rNe : R2 := fun x y H Q => scal x y = true ∧ Q (.bl (!decide (x = y))) H
theorem dec_int {i j : Int} : decide (V.int i = V.int j) = (i == j) := by
  rw [Bool.eq_iff_iff]
  simp
theorem dec_bl {i j : Bool} : decide (V.bl i = V.bl j) = (i == j) := by
  rw [Bool.eq_iff_iff]
  simp
theorem dec_str {i j : Str} : decide (V.str i = V.str j) = (i == j) := by
  rw [Bool.eq_iff_iff]
  simp
theorem dec_byt {i j : Array UInt8} : decide (V.byt i = V.byt j) = (i.toList == j.toList) := by
  rw [Bool.eq_iff_iff]
  cases i
  cases j
  simp
section
variable {X : Cx} {a b c : Expr} {ta tb tc : TE} {pos : Pos}
theorem fin_bl {pins : List (Addr × Obj)} {σ : St} {H : Hp} {s : Shared} {Q : VK} {k k' : Bool} (I : Inv X pins σ H s) (q : Q (.bl k) H) (e : k = k') : EP X pins σ Q (.bool k') s := by
  subst e
  exact ⟨.bl k, H, I, rfl, q⟩
theorem op_eq : OpR X (compareOp .Eq) rEq := by
  intro pins s σ H x y v u Q I rx ry h
  obtain ⟨hs, q⟩ := h
  cases x with
  | non =>
    cases rx
    cases y with
    | non => cases ry; exact PySem.EqNone.eq_none_none (fin_bl I q (by simp))
    | bl j => cases ry; exact PySem.EqNone.eq_none_bool (fin_bl I q (by simp))
    | int j => obtain ⟨t', rfl⟩ := ry; exact PySem.EqNone.eq_none_int (fin_bl I q (by simp))
    | str j => obtain ⟨t', rfl⟩ := ry; exact PySem.EqNone.eq_none_str (fin_bl I q (by simp))
    | _ => exact absurd (show false = true from hs) Bool.false_ne_true
  | bl i =>
    cases rx
    cases y with
    | non => cases ry; exact PySem.EqNone.eq_bool_none (fin_bl I q (by simp))
    | bl j => cases ry; exact eq_bool (fin_bl I q dec_bl)
    | str j => obtain ⟨t', rfl⟩ := ry; exact PySem.EqMixed.eq_bool_str (fin_bl I q (by simp))
    | _ => exact absurd (show false = true from hs) Bool.false_ne_true
  | int i =>
    obtain ⟨t, rfl⟩ := rx
    cases y with
    | non => cases ry; exact PySem.EqNone.eq_int_none (fin_bl I q (by simp))
    | int j => obtain ⟨t', rfl⟩ := ry; exact eq_int (fin_bl I q dec_int)
    | str j => obtain ⟨t', rfl⟩ := ry; exact PySem.EqMixed.eq_int_str (fin_bl I q (by simp))
    | _ => exact absurd (show false = true from hs) Bool.false_ne_true
  | str i =>
    obtain ⟨t, rfl⟩ := rx
    cases y with
    | non => cases ry; exact PySem.EqNone.eq_str_none (fin_bl I q (by simp))
    | bl j => cases ry; exact PySem.EqMixed.eq_str_bool (fin_bl I q (by simp))
    | int j => obtain ⟨t', rfl⟩ := ry; exact PySem.EqMixed.eq_str_int (fin_bl I q (by simp))
    | str j => obtain ⟨t', rfl⟩ := ry; exact eq_str (fin_bl I q dec_str)
    | _ => exact absurd (show false = true from hs) Bool.false_ne_true
  | byt i =>
    obtain ⟨t, rfl⟩ := rx
    cases y with
    | byt j => obtain ⟨t', rfl⟩ := ry; exact PySem.W.eq_bytes (fin_bl I q dec_byt)
    | _ => exact absurd (show false = true from hs) Bool.false_ne_true
  | _ => cases y <;> exact absurd (show false = true from hs) Bool.false_ne_true
theorem op_ne : OpR X (compareOp .NotEq) rNe := by
  intro pins s σ H x y v u Q I rx ry h
  obtain ⟨hs, q⟩ := h
  cases x with
  | non =>
    cases rx
    cases y with
    | non => cases ry; exact PySem.EqNone.ne_none_none (fin_bl I q (by simp))
    | bl j => cases ry; exact PySem.EqNone.ne_none_bool (fin_bl I q (by simp))
    | int j => obtain ⟨t', rfl⟩ := ry; exact PySem.EqNone.ne_none_int (fin_bl I q (by simp))
    | str j => obtain ⟨t', rfl⟩ := ry; exact PySem.EqNone.ne_none_str (fin_bl I q (by simp))
    | _ => exact absurd (show false = true from hs) Bool.false_ne_true
  | bl i =>
    cases rx
    cases y with
    | non => cases ry; exact PySem.EqNone.ne_bool_none (fin_bl I q (by simp))
    | bl j => cases ry; exact ne_bool (fin_bl I q (congrArg not dec_bl))
    | str j => obtain ⟨t', rfl⟩ := ry; exact PySem.EqMixed.ne_bool_str (fin_bl I q (by simp))
    | _ => exact absurd (show false = true from hs) Bool.false_ne_true
  | int i =>
    obtain ⟨t, rfl⟩ := rx
    cases y with
    | non => cases ry; exact PySem.EqNone.ne_int_none (fin_bl I q (by simp))
    | int j => obtain ⟨t', rfl⟩ := ry; exact ne_int (fin_bl I q (congrArg not dec_int))
    | str j => obtain ⟨t', rfl⟩ := ry; exact PySem.EqMixed.ne_int_str (fin_bl I q (by simp))
    | _ => exact absurd (show false = true from hs) Bool.false_ne_true
  | str i =>
    obtain ⟨t, rfl⟩ := rx
    cases y with
    | non => cases ry; exact PySem.EqNone.ne_str_none (fin_bl I q (by simp))
    | bl j => cases ry; exact PySem.EqMixed.ne_str_bool (fin_bl I q (by simp))
    | int j => obtain ⟨t', rfl⟩ := ry; exact PySem.EqMixed.ne_str_int (fin_bl I q (by simp))
    | str j => obtain ⟨t', rfl⟩ := ry; exact ne_str (fin_bl I q (congrArg not dec_str))
    | _ => exact absurd (show false = true from hs) Bool.false_ne_true
  | byt i =>
    obtain ⟨t, rfl⟩ := rx
    cases y with
    | byt j => obtain ⟨t', rfl⟩ := ry; exact PySem.W.ne_bytes (fin_bl I q (congrArg not dec_byt))
    | _ => exact absurd (show false = true from hs) Bool.false_ne_true
  | _ => cases y <;> exact absurd (show false = true from hs) Bool.false_ne_true
theorem op_lt : OpR X (compareOp .Lt) (rI0 fun i j => .bl (decide (i < j))) := opB0 fun _ _ _ _ _ _ _ q => lt_int q
theorem op_le : OpR X (compareOp .LtE) (rI0 fun i j => .bl (decide (i ≤ j))) := opB0 fun _ _ _ _ _ _ _ q => le_int q
theorem op_gt : OpR X (compareOp .Gt) (rI0 fun i j => .bl (decide (j < i))) := opB0 fun _ _ _ _ _ _ _ q => gt_int q
theorem op_ge : OpR X (compareOp .GtE) (rI0 fun i j => .bl (decide (j ≤ i))) := opB0 fun _ _ _ _ _ _ _ q => ge_int q
theorem op_isN : OpR X (compareOp .Is) (fun x y H Q => y = .non ∧ Q (.bl (decide (x = .non))) H) := by
  intro pins s σ H x y v u Q I rx ry h
  obtain ⟨rfl, q⟩ := h
  cases ry
  refine is_none_gen (fin_bl I q ?_)
  cases x <;> first
    | (cases rx; rfl)
    | (obtain ⟨t, rfl⟩ := rx; rfl)
theorem OpR.or {f : Value → Value → Sem Value} {r r' : R2} (h : OpR X f r) (h' : OpR X f r') : OpR X f (fun x y H Q => r x y H Q ∨ r' x y H Q) := by
  intro pins s σ H x y v u Q I rx ry q
  rcases q with q | q
  · exact h pins s σ H x y v u Q I rx ry q
  · exact h' pins s σ H x y v u Q I rx ry q
theorem nomark (b : Expr) {op : CmpOp} (h : op ≠ .In := by decide) (h2 : op ≠ .NotIn := by decide) : behindInMarks op b = false := by
  have e1 : (op == CmpOp.In) = false := by cases op <;> first | rfl | exact absurd rfl h
  have e2 : (op == CmpOp.NotIn) = false := by cases op <;> first | rfl | exact absurd rfl h2
  cases b <;> simp [behindInMarks, e1, e2]
theorem pe_cmpR {op : CmpOp} {r : R2} (ho : OpR X (compareOp op) r) (ha : PE X a ta) (hb : PE X b tb) (hm : behindInMarks op b = false) : PE X (.Compare a [op] [b] pos) (tOp r ta tb) := by
  intro pins s σ H Q I h
  exact wpAny_Compare1 (binT ha hb I h fun v u s2 x y H2 I2 rx ry q => ho pins s2 σ H2 x y v u Q I2 rx ry q) hm
def tTest (t : TE) : TT := fun σ H Q => t σ H fun x H' => ∃ k, x = .bl k ∧ Q k H'
theorem pt_cmpR {op : CmpOp} {r : R2} (ho : OpR X (compareOp op) r) (ha : PE X a ta) (hb : PE X b tb) (hm : behindInMarks op b = false) : PT X (.Compare a [op] [b] pos) (tTest (tOp r ta tb)) := by
  intro pins s σ H Q I h
  refine wpAny_isTrue_Compare1 (thn (ha pins s σ H _ I h) fun v s1 ⟨x, H1, I1, r1, q1⟩ => thn (hb pins s1 σ H1 _ I1 q1) fun u s2 ⟨y, H2, I2, r2, q2⟩ =>
    thn (ho pins s2 σ H2 x y v u _ I2 r1 r2 q2) fun c s3 ⟨z, H3, I3, r3, k, e, q3⟩ => ?_) hm
  subst e
  cases r3
  exact wpAny_truthy_bool ⟨H3, I3, q3⟩
def tChain (r r' : R2) (ta tb tc : TE) : TE := fun σ H Q => ta σ H fun x H1 => tb σ H1 fun y H2 => r x y H2 fun z H3 => ∃ k, z = .bl k ∧
  (if k = true then tc σ H3 fun w' H4 => r' y w' H4 Q else Q (.bl false) H3)
theorem pe_chain {op op' : CmpOp} {r r' : R2} (ho : OpR X (compareOp op) r) (ho' : OpR X (compareOp op') r') (ha : PE X a ta) (hb : PE X b tb) (hc : PE X c tc)
    (hm : lastMarks [op, op'] [b, c] = false := by with_unfolding_all rfl) : PE X (.Compare a [op, op'] [b, c] pos) (tChain r r' ta tb tc) := by
  intro pins s σ H Q I h
  refine Compare_chain (thn (ha pins s σ H _ I h) fun v s1 ⟨x, H1, I1, r1, q1⟩ => chain_link (thn (hb pins s1 σ H1 _ I1 q1) fun u s2 ⟨y, H2, I2, r2, q2⟩ =>
    thn (ho pins s2 σ H2 x y v u _ I2 r1 r2 q2) fun d s3 ⟨z, H3, I3, r3, k, e, q3⟩ => ?_)) hm
  subst e
  cases r3
  refine wpAny_truthy_bool ?_
  cases k with
  | false => exact ite_ff ⟨.bl false, H3, I3, rfl, q3⟩
  | true => exact ite_tt (chain_last (thn (hc pins s3 σ H3 _ I3 q3) fun w' s4 ⟨z', H4, I4, r4, q4⟩ => ho' pins s4 σ H4 y z' u w' Q I4 r2 r4 q4))
def TruV (K : PySem.W.Frag) (x : V) (H : Hp) (k : Bool) : Prop :=
  match x with
  | .non => k = false
  | .bl b => k = b
  | .int i => k = (i != 0)
  | .str y => y.length ≤ sizeLine ∧ k = ((y.length : Int) != 0)
  | .byt y => y.size ≤ sizeLine ∧ k = ((y.size : Int) != 0)
  | .ref p => (∃ xs, SqL K H p xs ∧ k = !xs.isEmpty) ∨ (∃ xs, SqT K H p xs ∧ k = !xs.isEmpty) ∨ ∃ kvs, H p = some (.dK kvs) ∧ k = !kvs.isEmpty
  | _ => False
theorem isEmpty_kv {κ : Type} {kvs : List (κ × V)} {vs : List (κ × Value)} (r : KV kvs vs) : (!vs.isEmpty) = !kvs.isEmpty := by
  cases r <;> rfl
theorem isEmpty_of {xs : List V} {its : List Value} (r : Vals xs its) : (!its.toArray.isEmpty) = !xs.isEmpty := by
  cases r <;> simp
theorem line63 : (sizeLine : Nat) < 2 ^ 63 := by rw [sizeLine_eq]; decide
theorem tru_ok : TruR X (fun x H Q => ∃ k, TruV X.K x H k ∧ Q k H) := by
  intro pins s σ H x v Q I rx h
  obtain ⟨k, e, q⟩ := h
  have hl := line63
  have hs : sizeLine = 16777216 := sizeLine_eq
  cases x with
  | non =>
    cases rx
    have e' : k = false := e
    subst e'
    exact truthy_none ⟨H, I, q⟩
  | bl b =>
    cases rx
    have e' : k = b := e
    subst e'
    exact wpAny_truthy_bool ⟨H, I, q⟩
  | int i =>
    obtain ⟨t, rfl⟩ := rx
    have e' : k = (i != 0) := e
    subst e'
    exact PySem.P.truthy_int ⟨H, I, q⟩
  | str y =>
    obtain ⟨t, rfl⟩ := rx
    obtain ⟨hy, e'⟩ : y.length ≤ sizeLine ∧ k = ((y.length : Int) != 0) := e
    subst e'
    exact PySem.P.truthy_str (by omega) ⟨H, I.tok _, q⟩
  | byt y =>
    obtain ⟨t, rfl⟩ := rx
    obtain ⟨hy, e'⟩ : y.size ≤ sizeLine ∧ k = ((y.size : Int) != 0) := e
    subst e'
    exact PySem.W.truthy_bytes (by omega) ⟨H, I.tok _, q⟩
  | ref p =>
    cases rx
    have e' : (∃ xs, SqL X.K H p xs ∧ k = !xs.isEmpty) ∨ (∃ xs, SqT X.K H p xs ∧ k = !xs.isEmpty) ∨ ∃ kvs, H p = some (.dK kvs) ∧ k = !kvs.isEmpty := e
    rcases e' with ⟨xs, hx, e'⟩ | ⟨xs, hx, e'⟩ | ⟨kvs, hx, e'⟩
    · subst e'
      obtain ⟨its, r, pl, hz⟩ := I.list hx
      have hlen := r.length
      exact wpAny_truthy_list pl.isList (by simp only [List.size_toArray]; omega) ⟨H, I.tok _, by rw [isEmpty_of r]; exact q⟩
    · subst e'
      obtain ⟨its, r, pl, hz⟩ := I.tuple hx
      have hlen := r.length
      exact truthy_tuple pl (by simp only [List.size_toArray]; omega) ⟨H, I.tok _, by rw [isEmpty_of r]; exact q⟩
    · subst e'
      obtain ⟨hz, hS, vs, r, m⟩ : kvs.length ≤ sizeLine ∧ (p == sysModules) = false ∧ ∃ vs, KV kvs vs ∧ s.heap.DictOf (mixKind X.prog X.w) p vs := I.hok p _ hx
      have hlen : kvs.length = vs.length := Paired.length r
      exact wpAny_truthy_dict hS m (by omega) ⟨H, I.tok _, by rw [isEmpty_kv r]; exact q⟩
  | _ => exact (show False from e).elim
theorem pt_truth (ha : PE X a ta) (he : ∀ whole, isTrue a X.env whole = (do let v ← whole; standAt a.pos; holding [v] (truthy v))) :
    PT X a (fun σ H Q => ta σ H fun x H' => ∃ k, TruV X.K x H' k ∧ Q k H') := by
  intro pins s σ H Q I h
  exact isTrue_plain (thn (ha pins s σ H _ I h) fun v s1 ⟨x, H1, I1, r1, q1⟩ => tru_ok pins s1 σ H1 x v Q I1 r1 q1) (he _)
theorem op_add_str : OpR X (binaryOp .Add) (fun x y H Q => ∃ i j, x = .str i ∧ y = .str j ∧ i.length + j.length ≤ sizeLine ∧ Q (.str (i ++ j)) H) := by
  intro pins s σ H x y v u Q I rx ry h
  obtain ⟨i, j, rfl, rfl, hz, q⟩ := h
  obtain ⟨t, rfl⟩ := rx
  obtain ⟨t', rfl⟩ := ry
  exact add_str (fun t' tk => ⟨.str (i ++ j), H, I.tok _, ⟨_, rfl⟩, q⟩) hz
theorem vals1 {x : V} {us : List Value} (r : Vals [x] us) : ∃ u, us = [u] ∧ RelV x u := by
  cases r with
  | cons r1 r2 => cases r2; exact ⟨_, rfl, r1⟩
theorem vals2 {x y : V} {us : List Value} (r : Vals [x, y] us) : ∃ u w', us = [u, w'] ∧ RelV x u ∧ RelV y w' := by
  cases r with
  | cons r1 r2 =>
    cases r2 with
    | cons r3 r4 => cases r4; exact ⟨_, _, rfl, r1, r3⟩
theorem call_max2 (hc : X.calm = true) : CallR X (.builtin "max") (fun xs H Q => ∃ i j, xs = [.int i, .int j] ∧ Q (.int (if j > i then j else i)) H) := by
  intro pins s σ H xs us Q I r h
  obtain ⟨i, j, rfl, q⟩ := h
  obtain ⟨u, w', rfl, ⟨t, rfl⟩, ⟨t', rfl⟩⟩ := vals2 r
  refine max_two_ints (I.ok.hd hc) fun h' tk k => ⟨_, H, I.kept k, ?_, q⟩
  by_cases hj : j > i
  · rw [if_pos hj, if_pos hj]; exact ⟨_, rfl⟩
  · rw [if_neg hj, if_neg hj]; exact ⟨_, rfl⟩
theorem call_min2 (hc : X.calm = true) : CallR X (.builtin "min") (fun xs H Q => ∃ i j, xs = [.int i, .int j] ∧ Q (.int (if j < i then j else i)) H) := by
  intro pins s σ H xs us Q I r h
  obtain ⟨i, j, rfl, q⟩ := h
  obtain ⟨u, w', rfl, ⟨t, rfl⟩, ⟨t', rfl⟩⟩ := vals2 r
  refine min_two_ints (I.ok.hd hc) fun h' tk k => ⟨_, H, I.kept k, ?_, q⟩
  by_cases hj : j < i
  · rw [if_pos hj, if_pos hj]; exact ⟨_, rfl⟩
  · rw [if_neg hj, if_neg hj]; exact ⟨_, rfl⟩
theorem call_int1 : CallR X (.type "int") (fun xs H Q => (∃ i, xs = [.int i] ∧ Q (.int i) H) ∨ ∃ k, xs = [.bl k] ∧ Q (.int (if k then 1 else 0)) H) := by
  intro pins s σ H xs us Q I r h
  rcases h with ⟨i, rfl, q⟩ | ⟨k, rfl, q⟩
  · obtain ⟨u, rfl, t, rfl⟩ := vals1 r
    exact call_int_int ⟨.int i, H, I, ⟨_, rfl⟩, q⟩
  · obtain ⟨u, rfl, r1⟩ := vals1 r
    cases r1
    exact call_int_bool ⟨.int (if k then 1 else 0), H, I.tok _, ⟨_, rfl⟩, q⟩
end
end L2
namespace L2
open PySem PySem.Spec PyProof.Rows
structure ObjM (h : Heap) (x dx C : Addr) (mA : Str → Option Value) : Prop where
  obj : h.get? x = some (PySem.W.instObj C dx)
  ns : h.Ns1 dx mA
  ne : dx ≠ x
theorem lookIn_ns {h : Heap} {dx : Addr} {mA : Str → Option Value} (n : h.Ns1 dx mA) : ∃ od, h.get? dx = some od ∧ ∀ name, PySem.W.lookIn name od = some (mA name) := by
  obtain ⟨o, es, ep, ho, hd, hk, _, hm⟩ := n
  refine ⟨o, ho, fun name => ?_⟩
  have e := hm name
  unfold nsFind findBy at e
  rw [← Array.find?_toList] at e
  unfold PySem.W.lookIn
  rw [hd]
  dsimp only
  split
  · rename_i y q
    rw [q] at e
    exact congrArg some e
  · rename_i q
    rw [q] at e
    have a : es.toList.any (·.refKey) = false := by
      rw [List.any_eq_false]
      intro y hy
      obtain ⟨z, t, hkey⟩ := hk y (Array.mem_toList_iff.mp hy)
      simp [DictEntry.refKey, hkey]
    have a' : ¬ es.toList.any (·.refKey) = true := by rw [a]; exact Bool.false_ne_true
    rw [if_neg a']
    exact congrArg some e
theorem ObjM.look {h : Heap} {x dx C : Addr} {mA : Str → Option Value} (I : ObjM h x dx C mA) : ∃ od, PySem.W.InstAt h x (PySem.W.instObj C dx) C (some od) ∧ ∀ name, PySem.W.lookIn name od = some (mA name) :=
  let ⟨od, ho, hl⟩ := lookIn_ns I.ns
  ⟨od, ⟨I.obj, rfl, rfl, ho⟩, hl⟩
section
variable {prog : Program} {w : World} {A : Around} {E : Value → Shared → Prop} {s : Shared} {K : PySem.W.Frag} {x dx C f : Addr} {mA : Str → Option Value} {name : Str} {v : Value}
theorem get_map {expr : Bool} {Q : Value → Shared → Prop} (X : K.In s.heap) (I : ObjM s.heap x dx C mA) (hg : PySem.W.plainGet K C name = true) (hh : PySem.W.hasDictIn K C = true)
    (ha : PySem.W.findIn K (.ref C) name = some none) (hv : mA name = some v) (hv' : PySem.W.handedIn v = true) (h : Q v { s with toks := s.toks + 1 }) :
    wpAny (model prog w) A (getAttr (.ref x) name expr) Q E s := by
  obtain ⟨od, J, hl⟩ := I.look
  exact PySem.W.get_value X J (PySem.W.plainGet_of hg).1 (PySem.W.findObj_own hh ha rfl (by rw [hl, hv])) hv' h
theorem get_meth {pl : Sem Bool} {Q : Value × List Value → Shared → Prop} (X : K.In s.heap) (I : ObjM s.heap x dx C mA) (hg : PySem.W.plainGet K C name = true)
    (hf : PySem.W.findIn K (.ref C) name = some (some (.ref f))) (ht : PySem.W.isFn K (.ref f) = true) (hv : mA name = none) (h : Q (.ref f, [.ref x]) s) :
    wpAny (model prog w) A (getMethod (.ref x) name pl) Q E s := by
  obtain ⟨od, J, hl⟩ := I.look
  exact PySem.W.method_fn X J (PySem.W.plainGet_of hg).1 (PySem.W.plainGet_of hg).2 hf (beq_iff_eq.mp ht) (by show (PySem.W.lookIn name od).map (·.isSome) = some false; rw [hl, hv]; rfl) h
theorem set_map {ns : List Str} {Q : Unit → Shared → Prop} (X : K.In s.heap) (I : ObjM s.heap x dx C mA)
    (hs : PySem.W.findIn K (.ref C) "__setattr__" = some (some (.builtin "object.__setattr__"))) (hp : PySem.W.plainOver K C = true) (ht : PySem.W.takerIn K C name = some none) (hh : PySem.W.hasDictIn K C = true)
    (hw : PySem.Within mA ns) (hsz : ns.length ≤ sizeLine)
    (h : ∀ h', ObjM h' x dx C (fun y => if y = name then some v else mA y) → Heap.SameBut dx s.heap h' → Q () { s with heap := h', toks := s.toks + 2 }) :
    wpAny (model prog w) A (setAttr (.ref x) name v) Q E s := by
  obtain ⟨od, J, hl⟩ := I.look
  refine PySem.W.set_plain X J hs (PySem.W.osa_open (s := { s with toks := s.toks + 1 }) (r := none) X J hp ht fun b => ?_)
  obtain ⟨cd, hc, hd'⟩ := PySem.W.any_some hh
  have hx : s.heap.get? x = some ⟨.ref C, some dx, .plain, #[]⟩ := I.obj
  refine wpAny_bind (wpAny_pure (wpAny_bind (wpAny_bind (wpAny_loadPart hx (wpAny_bind (PySem.W.Looks.here (s := { s with toks := s.toks + 1 }) (PySem.W.looks_clsIn X hc) ?_))))))
  rw [hd']
  refine wpAny_pure (a := some dx) (wpAny_bind (wpAny_pure (wpAny_bind ?_)))
  refine wpAny_nsSet1 (s := { s with toks := s.toks + 1 }) I.ns fun h' hn2 hs2 => ?_
  obtain ⟨oD, esD, epD, hoD, hdD, hcD⟩ := hn2.count (PySem.Within.cons name v hw)
  refine wpAny_bind (wpAny_lookBehind hoD (by rw [hdD]; exact pastItsLine_dict (Nat.le_trans hcD (by rw [List.length_cons]; omega))) ?_)
  exact wpAny_pure (h _ ⟨(hs2.2 _ (Ne.symm I.ne)).trans I.obj, hn2, I.ne⟩ hs2)
theorem make_map {R : Result → Shared → Prop} {vs : List Value} {kw : List (Str × Value)} (X : K.In s.heap) (hm : PySem.W.makesIn K C = true)
    (hi : PySem.W.findIn K (.ref C) "__init__" = some (some (.ref f))) (hf : PySem.W.typeIn K (.ref f) = some (.type "function"))
    (h : codeAny (model prog w) (A.under (.builtin "type.__call__" ⟨.ref C :: vs, kw⟩)) (.call (.ref f) ⟨.ref (s.heap.objs.size + 1) :: vs, kw⟩) (PySem.W.InitBack (s.heap.objs.size + 1) R)
      { s with heap := (s.heap.push PySem.W.emptyDict).push (PySem.W.instObj C s.heap.objs.size) }) :
    codeAny (model prog w) A (.call (.ref C) ⟨vs, kw⟩) R s := by
  obtain ⟨hh, g, d, t, os⟩ := s
  exact PySem.W.make_core (PySem.W.makes_of X hm) (PySem.W.looks_findIn X hi) (fun self => PySem.W.bind_fn X self hf) (.inl rfl) h
end
def putF (f : Str) (v : V) : List (Str × V) → List (Str × V)
  | [] => [(f, v)]
  | (g, x) :: r => if g = f then (g, v) :: r else (g, x) :: putF f v r
theorem lookup_putF (f g : Str) (v : V) : ∀ fs : List (Str × V), (putF f v fs).lookup g = if g = f then some v else fs.lookup g
  | [] => by
    show List.lookup g [(f, v)] = _
    by_cases h : g = f
    · have hb : (g == f) = true := beq_iff_eq.mpr h
      simp only [List.lookup, hb, if_pos h]
    · have hb : (g == f) = false := beq_eq_false_iff_ne.mpr h
      simp only [List.lookup, hb, if_neg h]
  | (k, x) :: r => by
    have ih := lookup_putF f g v r
    rw [show putF f v ((k, x) :: r) = (if k = f then (k, v) :: r else (k, x) :: putF f v r) from rfl]
    by_cases hk : k = f
    · rw [if_pos hk]
      by_cases h : g = k
      · have hb : (g == k) = true := beq_iff_eq.mpr h
        simp only [List.lookup, hb, if_pos (h.trans hk)]
      · have hb : (g == k) = false := beq_eq_false_iff_ne.mpr h
        simp only [List.lookup, hb, if_neg (fun e : g = f => h (e.trans hk.symm))]
    · rw [if_neg hk]
      by_cases h : g = k
      · have hb : (g == k) = true := beq_iff_eq.mpr h
        simp only [List.lookup, hb, if_neg (fun e : g = f => hk (h.symm.trans e))]
      · have hb : (g == k) = false := beq_eq_false_iff_ne.mpr h
        simp only [List.lookup, hb]
        exact ih
theorem keys_putF (f : Str) (v : V) : ∀ fs : List (Str × V), f ∈ (putF f v fs).map (·.1) ∧ ∀ g, g ∈ fs.map (·.1) → g ∈ (putF f v fs).map (·.1)
  | [] => ⟨by simp [putF], fun g h => by simp at h⟩
  | (k, x) :: r => by
    obtain ⟨i1, i2⟩ := keys_putF f v r
    rw [show putF f v ((k, x) :: r) = (if k = f then (k, v) :: r else (k, x) :: putF f v r) from rfl]
    by_cases hk : k = f
    · rw [if_pos hk]
      subst hk
      exact ⟨by simp, fun g h => by simpa using h⟩
    · rw [if_neg hk]
      refine ⟨?_, fun g h => ?_⟩
      · rw [List.map_cons]
        exact List.mem_cons_of_mem _ i1
      · rw [List.map_cons] at h ⊢
        rcases List.mem_cons.mp h with e | e
        · exact List.mem_cons.mpr (.inl e)
        · exact List.mem_cons_of_mem _ (i2 g e)
theorem length_putF (f : Str) (v : V) : ∀ fs : List (Str × V), (putF f v fs).length ≤ fs.length + 1
  | [] => by simp [putF]
  | (k, x) :: r => by
    have ih := length_putF f v r
    rw [show putF f v ((k, x) :: r) = (if k = f then (k, v) :: r else (k, x) :: putF f v r) from rfl]
    by_cases hk : k = f
    · rw [if_pos hk, List.length_cons, List.length_cons]; omega
    · rw [if_neg hk, List.length_cons, List.length_cons]; omega
theorem RelO.some_of {v : V} {o : Option Value} (r : RelO (some v) o) : ∃ u, o = some u ∧ RelV v u := by
  cases o with
  | none => exact (show False from r).elim
  | some u => exact ⟨u, rfl, r⟩
theorem RelO.none_of {o : Option Value} (r : RelO none o) : o = none := by
  cases o with
  | none => rfl
  | some u => exact (show False from r).elim
theorem handed_of {v : V} {u : Value} (r : RelV v u) : PySem.W.handedIn u = true := by
  cases v with
  | non => cases (show u = Value.none from r); rfl
  | bl b => cases (show u = Value.bool b from r); rfl
  | int i => obtain ⟨t, e⟩ := (show ∃ t, u = Value.int i t from r); cases e; rfl
  | str x => obtain ⟨t, e⟩ := (show ∃ t, u = Value.str x t from r); cases e; rfl
  | byt b => obtain ⟨t, e⟩ := (show ∃ t, u = Value.bytes b t from r); cases e; rfl
  | flt b => obtain ⟨t, e⟩ := (show ∃ t, u = Value.float b t from r); cases e; rfl
  | ref a => cases (show u = Value.ref a from r); rfl
  | ty n => cases (show u = Value.type n from r); rfl
section
variable {P : Program} {w : World} {H H' : Hp} {h h' : Heap} {a C dx : Addr} {fs fs' : List (Str × V)}
theorem ins_get (hok : HOk P w H h) (e : H a = some (.ins C dx fs)) : ∃ mA, ObjM h a dx C mA ∧ (∀ f, RelO (fs.lookup f) (mA f)) ∧ PySem.Within mA (fs.map (·.1)) ∧ fs.length ≤ 1000 ∧ H dx = some (.own a) := by
  obtain ⟨d, z, ne, ob, mA, n, r, q⟩ := (show ObjOk P w H h a (.ins C dx fs) from hok a _ e)
  exact ⟨mA, ⟨ob, n, ne⟩, r, q, z, d⟩
end
structure Cls (K : PySem.W.Frag) (C : Addr) : Prop where
  pg : PySem.W.plainGet K C Str.empty = true
  hd : PySem.W.hasDictIn K C = true
  po : PySem.W.plainOver K C = true
  sa : PySem.W.findIn K (.ref C) "__setattr__" = some (some (.builtin "object.__setattr__"))
theorem Cls.get {K : PySem.W.Frag} {C : Addr} (c : Cls K C) (f : Str) : PySem.W.plainGet K C f = true := c.pg
def NoAttr (K : PySem.W.Frag) (C : Addr) (f : Str) : Prop := PySem.W.findIn K (.ref C) f = some none
theorem NoAttr.taker {K : PySem.W.Frag} {C : Addr} {f : Str} (n : NoAttr K C f) : PySem.W.takerIn K C f = some none := by
  unfold PySem.W.takerIn
  rw [show PySem.W.findIn K (.ref C) f = some none from n]
  rfl
structure Con (K : PySem.W.Frag) (C : Addr) (f : Str) (v : V) (u : Value) : Prop where
  at_ : PySem.W.findIn K (.ref C) f = some (some u)
  rel : RelV v u
  get : PySem.W.specialIn K u "__get__" = some none
  cp : PySem.W.copiedNames.contains f = false
structure Meth (K : PySem.W.Frag) (C : Addr) (m : Str) (f : Addr) : Prop where
  at_ : PySem.W.findIn K (.ref C) m = some (some (.ref f))
  fn : PySem.W.isFn K (.ref f) = true
  kp : PySem.W.keepIn K (.ref f) = true
section
variable {X : Cx} {pins : List (Addr × Obj)} {σ : St} {H : Hp} {s : Shared} {a C dx : Addr} {fs : List (Str × V)} {f : Str} {v : V} {A : Around} {E : Value → Shared → Prop}
theorem getattr_ok {b : Bool} {Q : Value → Shared → Prop} (I : Inv X pins σ H s) (e : H a = some (.ins C dx fs)) (c : Cls X.K C) (n : NoAttr X.K C f) (l : fs.lookup f = some v)
    (h : ∀ u s', Inv X pins σ H s' → RelV v u → Q u s') : wpAny (model X.prog X.w) A (getAttr (.ref a) f b) Q E s := by
  obtain ⟨mA, O, r, _, _, _⟩ := ins_get I.hok e
  obtain ⟨u, hu, ru⟩ := RelO.some_of (v := v) (o := mA f) (by rw [← l]; exact r f)
  exact get_map I.kIn O (c.get f) c.hd n hu (handed_of ru) (h u _ (I.tok _) ru)
theorem getmeth_ok {m : Str} {g : Addr} {pl : Sem Bool} {Q : Value × List Value → Shared → Prop} (I : Inv X pins σ H s) (e : H a = some (.ins C dx fs)) (c : Cls X.K C) (k : Meth X.K C m g) (l : fs.lookup m = none)
    (h : Q (.ref g, [.ref a]) s) : wpAny (model X.prog X.w) A (getMethod (.ref a) m pl) Q E s := by
  obtain ⟨mA, O, r, _, _, _⟩ := ins_get I.hok e
  have hn : mA m = none := RelO.none_of (by rw [← l]; exact r m)
  exact get_meth I.kIn O (c.get m) k.at_ k.fn hn h
theorem setattr_ok {y : V} {u : Value} {Q : Unit → Shared → Prop} (I : Inv X pins σ H s) (e : H a = some (.ins C dx fs)) (c : Cls X.K C) (n : NoAttr X.K C f) (hl : fs.length < 1000) (ry : RelV y u)
    (h : ∀ s', Inv X pins σ (upd H a (.ins C dx (putF f y fs))) s' → Q () s') : wpAny (model X.prog X.w) A (setAttr (.ref a) f u) Q E s := by
  obtain ⟨mA, O, r, wi, _, ho⟩ := ins_get I.hok e
  have hz : (fs.map (·.1)).length ≤ sizeLine := by rw [List.length_map, sizeLine_eq]; omega
  refine set_map I.kIn O c.sa c.po n.taker c.hd wi hz fun h' O' sb => h _ ?_
  have hd : ∃ o, h'.get? dx = some o := let ⟨o, _, _, e', _⟩ := O'.ns; ⟨o, e'⟩
  refine I.write (x := a) (e := dx) (by rw [e]; exact True.intro) (.inr ho) (fun b q hb z => (sb.2 b hb).trans z) hd ?_
  refine ⟨by rw [upd_ne O.ne]; exact ho, ?_, O.ne, O'.obj, _, O'.ns, fun g => ?_, fun g hg => ?_⟩
  · have := length_putF f y fs; omega
  · show RelO ((putF f y fs).lookup g) (if g = f then some u else mA g)
    rw [lookup_putF]
    by_cases q : g = f
    · rw [if_pos q, if_pos q]; exact ry
    · rw [if_neg q, if_neg q]; exact r g
  · by_cases q : g = f
    · rw [q]; exact (keys_putF f y fs).1
    · refine (keys_putF f y fs).2 g (wi g fun z => hg ?_)
      show (if g = f then some u else mA g) = none
      rw [if_neg q]; exact z
theorem Inv.made (I : Inv X pins σ H s) : Inv X pins σ (upd (upd H s.heap.objs.size (.own (s.heap.objs.size + 1))) (s.heap.objs.size + 1) (.ins C s.heap.objs.size []))
    { s with heap := (s.heap.push PySem.W.emptyDict).push (PySem.W.instObj C s.heap.objs.size) } := by
  have e1 : (s.heap.push PySem.W.emptyDict).get? s.heap.objs.size = some PySem.W.emptyDict := Heap.get?_push_size s.heap rfl
  have e2 : ((s.heap.push PySem.W.emptyDict).push (PySem.W.instObj C s.heap.objs.size)).get? (s.heap.objs.size + 1) = some (PySem.W.instObj C s.heap.objs.size) := by
    have := Heap.get?_push_size (s.heap.push PySem.W.emptyDict) (o := PySem.W.instObj C s.heap.objs.size) rfl
    rwa [Heap.size_push] at this
  have e3 : (s.heap.push PySem.W.emptyDict).Ns s.heap.objs.size (fun _ => none) := ⟨PySem.W.emptyDict, #[], _, e1, rfl, (fun e he => absurd he (by simp)), fun _ => rfl⟩
  have I1 := I.laid (a := s.heap.objs.size) (o := .own (s.heap.objs.size + 1)) (h' := s.heap.push PySem.W.emptyDict) (t' := s.toks) (fun b u q => Heap.get?_push_of_some _ q) (Nat.le_refl _) ⟨_, e1⟩
  refine I1.laid (a := s.heap.objs.size + 1) (o := .ins C s.heap.objs.size []) (t' := s.toks) (fun b u q => Heap.get?_push_of_some _ q) (Nat.le_of_eq (Heap.size_push _ _)) ?_
  have ne : s.heap.objs.size ≠ s.heap.objs.size + 1 := Nat.ne_of_lt (Nat.lt_succ_self _)
  refine ⟨by rw [upd_ne ne, upd_same], Nat.zero_le _, ne, e2, fun _ => none, (Heap.Ns1.of_empty e3).at fun o q => Heap.get?_push_of_some _ q, fun _ => True.intro, fun y hy => absurd rfl hy⟩
theorem attr_of {prog : Program} {w : World} {env : Env} {e : Expr} {f : Str} {pos : Pos} {s : Shared} {Q : Value → Shared → Prop} (hb : attributeBase e f env (eval e env) = eval e env)
    (h : wpAny (model prog w) A (eval e env) (fun o s₁ => wpAny (model prog w) A (getAttr o f true) Q E s₁) E s) : wpAny (model prog w) A (eval (.Attribute e f pos) env) Q E s :=
  Attribute_any_ h (by rw [arm_eval_Attribute, hb])
end
def tFld (K : PySem.W.Frag) (ta : TE) (f : Str) : TE := fun σ H Q => ta σ H fun x H1 => ∃ a C dx fs v, x = .ref a ∧ H1 a = some (.ins C dx fs) ∧ Cls K C ∧ NoAttr K C f ∧ fs.lookup f = some v ∧ Q v H1
def sFld (K : PySem.W.Frag) (ta tv : TE) (f : Str) : TS := fun D σ H => tv σ H fun y H1 => ta σ H1 fun x H2 => ∃ a C dx fs, x = .ref a ∧ H2 a = some (.ins C dx fs) ∧ Cls K C ∧ NoAttr K C f ∧ fs.length < 1000 ∧
  D.nx σ (upd H2 a (.ins C dx (putF f y fs)))
def InOp (X : Cx) (op : Operator) (rd : V → V → Hp → VK → Prop) : Prop :=
  ∀ (pins : List (Addr × Obj)) (s : Shared) (σ : St) (H : Hp) (x y : V) (u v : Value) (Q : VK), Inv X pins σ H s → RelV x u → RelV y v → rd x y H Q → wpAny (model X.prog X.w) X.A (inplaceOp op u v) (EP X pins σ Q) X.xe s
def sFldAug (K : PySem.W.Frag) (ta tv : TE) (rd : V → V → Hp → VK → Prop) (f : Str) : TS := fun D σ H => ta σ H fun x H1 => ∃ a C dx fs v, x = .ref a ∧ H1 a = some (.ins C dx fs) ∧ Cls K C ∧ NoAttr K C f ∧ fs.lookup f = some v ∧
  tv σ H1 fun y H2 => rd v y H2 fun z H3 => ∃ dx' fs', H3 a = some (.ins C dx' fs') ∧ fs'.length < 1000 ∧ D.nx σ (upd H3 a (.ins C dx' (putF f z fs')))
section
variable {X : Cx} {o e value : Expr} {f : Str} {pos pos' tpos : Pos} {ta tv : TE}
theorem pe_fld (he : PE X e ta) (hb : attributeBase e f X.env (eval e X.env) = eval e X.env) : PE X (.Attribute e f pos) (tFld X.K ta f) := by
  intro pins s σ H Q I h
  refine attr_of hb (thn (he pins s σ H _ I h) fun u s1 ⟨x, H1, I1, rx, a, C, dx, fs, v, ex, ea, c, n, l, q⟩ => ?_)
  subst ex
  obtain rfl : u = Value.ref a := rx
  exact getattr_ok I1 ea c n l fun u' s2 I2 ru => ⟨v, H1, I2, ru, q⟩
theorem ps_fld (ha : PE X o ta) (hv : PE X value tv) (hs : swapsWith value (some (.Attribute o f pos')) pos.line X.env = pure false) : PS X (.Assign [.Attribute o f pos'] value pos) (sFld X.K ta tv f) := by
  intro pins s σ H D I h
  refine plainObj_wpAny_Assign_Attribute (thn (hv pins s σ H _ I h) fun u s1 ⟨y, H1, I1, ry, q⟩ => thn (ha pins s1 σ H1 _ I1 q) fun ov s2 ⟨x, H2, I2, rx, a, C, dx, fs, ex, ea, c, n, l, q2⟩ => ?_) hs
  subst ex
  obtain rfl : ov = Value.ref a := rx
  exact setattr_ok I2 ea c n l ry fun s3 I3 => ⟨σ, _, I3, q2⟩
theorem ps_fldaug {op : Operator} {rd : V → V → Hp → VK → Prop} (ha : PE X o ta) (hv : PE X value tv) (hop : InOp X op rd) : PS X (.AugAssign (.Attribute o f tpos) op value pos) (sFldAug X.K ta tv rd f) := by
  intro pins s σ H D I h
  refine wpAny_AugAssign_AttributeAny (thn (ha pins s σ H _ I h) fun ov s1 ⟨x, H1, I1, rx, a, C, dx, fs, v, ex, ea, c, n, l, q⟩ => ?_)
  subst ex
  obtain rfl : ov = Value.ref a := rx
  refine getattr_ok I1 ea c n l fun u s2 I2 ru => thn (hv pins s2 σ H1 _ I2 q) fun w3 s3 ⟨y, H2, I3, ry, q3⟩ => thn (hop pins s3 σ H2 v y u w3 _ I3 ru ry q3) fun w4 s4 ⟨z, H3, I4, rz, dx', fs', ea', l', q4⟩ => ?_
  exact setattr_ok I4 ea' c n l' rz fun s5 I5 => ⟨σ, _, I5, q4⟩
end
section
variable {X : Cx} {pins : List (Addr × Obj)} {σ : St} {H : Hp} {s : Shared} {A : Around} {E : Value → Shared → Prop} {Q : Value → Shared → Prop} {c : Value} {b : Bool}
inductive TyOf (K : PySem.W.Frag) (H : Hp) : V → Value → Prop where
  | non : TyOf K H .non (.type "NoneType")
  | bl (x : Bool) : TyOf K H (.bl x) (.type "bool")
  | int (i : Int) : TyOf K H (.int i) (.type "int")
  | str (x : Str) : TyOf K H (.str x) (.type "str")
  | flt (x : UInt64) : TyOf K H (.flt x) (.type "float")
  | lst {a : Addr} {xs : List V} (e : H a = some (.lst xs)) : TyOf K H (.ref a) (.type "list")
  | frz {a : Addr} {o : Obj} {xs : List V} (e : H a = some (.frz o (.lst xs))) : TyOf K H (.ref a) (.type "list")
  | tup {a : Addr} {xs : List V} (e : H a = some (.tup xs)) : TyOf K H (.ref a) (.type "tuple")
  | dK {a : Addr} {kvs : List (Key × V)} (e : H a = some (.dK kvs)) : TyOf K H (.ref a) (.type "dict")
  | dT {a : Addr} {kvs : List (List Key × V)} (e : H a = some (.dT kvs)) : TyOf K H (.ref a) (.type "dict")
  | ins {a C dx : Addr} {fs : List (Str × V)} (e : H a = some (.ins C dx fs)) (cl : Cls K C) (ha : PySem.W.findIn K (.ref C) "__class__" = some (some (.builtin "object.__class__")))
      (hn : PySem.W.specialIn K (.builtin "object.__class__") "__get__" = some (some (.builtin "getset_descriptor.__get__"))) (htk : PySem.W.takesIn K (.builtin "object.__class__") = some true)
      (hm : PySem.W.mroIn K C (.type "object") = some true) : TyOf K H (.ref a) (.ref C)
theorem isinst_ok {x : V} {u t : Value} (I : Inv X pins σ H s) (rx : RelV x u) (ty : TyOf X.K H x t) (e : PySem.W.kitOne X.K t c = some b) (h : ∀ tk, Q (.bool b) { s with toks := tk }) :
    wpAny (model X.prog X.w) A (call (.builtin "isinstance") [u, c]) Q E s := by
  cases ty with
  | non => cases (show u = Value.none from rx); exact PySem.W.kia_one PySem.W.kitx_none I.kIn True.intro e (fun z => nomatch z) h
  | bl y => cases (show u = Value.bool y from rx); exact PySem.W.kia_one PySem.W.kitx_bool I.kIn True.intro e (fun z => nomatch z) h
  | int i => obtain ⟨t, q⟩ := (show ∃ t, u = Value.int i t from rx); cases q; exact PySem.W.kia_one PySem.W.kitx_int I.kIn True.intro e (fun z => nomatch z) h
  | str y => obtain ⟨t, q⟩ := (show ∃ t, u = Value.str y t from rx); cases q; exact PySem.W.kia_one PySem.W.kitx_str I.kIn True.intro e (fun z => nomatch z) h
  | flt y => obtain ⟨t, q⟩ := (show ∃ t, u = Value.float y t from rx); cases q; exact PySem.W.kia_one PySem.W.kitx_float I.kIn True.intro e (fun z => nomatch z) h
  | @lst a xs ea =>
    cases (show u = Value.ref a from rx)
    obtain ⟨_, _, n, _, h1⟩ := (show ObjOk X.prog X.w H s.heap a (.lst xs) from I.hok a _ ea)
    exact PySem.W.kia_one PySem.W.kitx_list I.kIn ⟨_, h1, rfl⟩ e (fun z => nomatch z) h
  | @frz a ob xs ea =>
    cases (show u = Value.ref a from rx)
    obtain ⟨_, _, _, n, _, h1⟩ := (show ObjOk X.prog X.w H s.heap a (.frz ob (.lst xs)) from I.hok a _ ea)
    exact PySem.W.kia_one PySem.W.kitx_list I.kIn ⟨_, h1, rfl⟩ e (fun z => nomatch z) h
  | @tup a xs ea =>
    cases (show u = Value.ref a from rx)
    obtain ⟨_, _, _, p⟩ := (show ObjOk X.prog X.w H s.heap a (.tup xs) from I.hok a _ ea)
    obtain ⟨o, h1, h2, _⟩ := p
    exact PySem.W.kia_one PySem.W.kitx_tuple I.kIn ⟨o, h1, h2⟩ e (fun z => nomatch z) h
  | @dK a kvs ea =>
    cases (show u = Value.ref a from rx)
    obtain ⟨_, _, vs, _, p⟩ := (show ObjOk X.prog X.w H s.heap a (.dK kvs) from I.hok a _ ea)
    obtain ⟨o, es, ep, h1, h2, _⟩ := p
    exact PySem.W.kia_one PySem.W.kitx_dict I.kIn ⟨o, h1, h2.1⟩ e (fun z => nomatch z) h
  | @dT a kvs ea =>
    cases (show u = Value.ref a from rx)
    obtain ⟨_, _, xs, _, o, es, ep, h1, h2, _⟩ := (show ObjOk X.prog X.w H s.heap a (.dT kvs) from I.hok a _ ea)
    exact PySem.W.kia_one PySem.W.kitx_dict I.kIn ⟨o, h1, h2.1⟩ e (fun z => nomatch z) h
  | @ins a C dx fs ea cl ha hn htk hm =>
    cases (show u = Value.ref a from rx)
    obtain ⟨mA, O, _⟩ := ins_get I.hok ea
    obtain ⟨od, J, _⟩ := O.look
    exact PySem.W.kia_one (PySem.W.kitx_own (cl.get _) cl.hd ha hn htk hm) I.kIn J e (fun z => nomatch z) h
end
end L2
namespace L2
open PySem PySem.Spec PyProof.Rows
structure Room (k : Nat) (A : Around) : Prop where
  hd : A.handled = none
  dp : A.depth + 3 * k + 5 < recursionLimit
  un : A.units + 16 * k + 200 < cLine
  gd : A.guards = some []
theorem Room.mono {j k : Nat} {A : Around} (r : Room k A) (h : j ≤ k) : Room j A := ⟨r.hd, by have := r.dp; omega, by have := r.un; omega, r.gd⟩
theorem Room.deeper {k : Nat} {A : Around} (r : Room (k + 1) A) (env : Env) : Room k (A.deeper env) :=
  ⟨r.hd, by have := r.dp; show A.depth + 1 + 3 * k + 5 < _; omega, by have := r.un; show A.units + 3 + 16 * k + 200 < _; omega, r.gd⟩
theorem Room.in1 {k : Nat} {A : Around} (r : Room (k + 1) A) : Room k A.in1 :=
  ⟨r.hd, by have := r.dp; show A.depth + 3 * k + 5 < _; omega, by have := r.un; show A.units + 1 + 16 * k + 200 < _; omega, r.gd⟩
theorem make_depth {A : Around} {C : Addr} {us : List Value} {kw : List (Str × Value)} : (A.under (.builtin "type.__call__" ⟨.ref C :: us, kw⟩)).depth = A.depth + 1 := by
  first | rfl | simp [Around.under, Code.weight, Code.isCreation, Code.isGuard, Code.isCaller, Code.frames, Code.isFrame, guardIds]
theorem make_units {A : Around} {C : Addr} {us : List Value} {kw : List (Str × Value)} : (A.under (.builtin "type.__call__" ⟨.ref C :: us, kw⟩)).units = A.units + 1 := by
  first | rfl | simp [Around.under, Code.cUnits, Code.frames, Code.isFrame]
theorem Room.make {k : Nat} {A : Around} (r : Room (k + 1) A) (C : Addr) (us : List Value) (kw : List (Str × Value)) : Room k (A.under (.builtin "type.__call__" ⟨.ref C :: us, kw⟩)) :=
  ⟨r.hd, by have := r.dp; rw [make_depth]; omega, by have := r.un; rw [make_units]; omega, by have := r.gd; first | exact this | simpa [Around.under, Code.guards, Code.isGuard, pushGuards, guardIds] using this⟩
theorem Room.depth {k : Nat} {A : Around} (r : Room k A) : A.depth < recursionLimit := by have := r.dp; omega
theorem Room.units {k : Nat} {A : Around} (r : Room k A) : A.units + 64 < cLine := by have := r.un; omega
def tNil : TA := fun _ H Q => Q [] H
def tCons (ta : TE) (tr : TA) : TA := fun σ H Q => ta σ H fun x H1 => tr σ H1 fun xs H2 => Q (x :: xs) H2
section
variable {X : Cx} {e : Expr} {es : List Expr} {te : TE} {t : TA} {pos : Pos}
theorem pa_nil : PA X [] tNil := fun _ _ _ _ H Q I h => Calls.spliced_nil ⟨[], H, I, .nil, h⟩
theorem pa_cons (ha : PE X e te) (hr : PA X es t) (hs : starEach (e :: es) X.env = (false, eval e X.env) :: starEach es X.env := by rfl) : PA X (e :: es) (tCons te t) := by
  intro pos pins s σ H Q I h
  rw [hs]
  show wpAny _ _ (spliced ((false, eval e X.env) :: backTo pos (starEach es X.env))) _ _ s
  refine Calls.spliced_cons (thn (ha pins s σ H _ I h) fun u s1 ⟨x, H1, I1, r1, q1⟩ => ?_)
  exact thn (hr pos pins s1 σ H1 _ I1 q1) fun us s2 ⟨xs, H2, I2, r2, q2⟩ => ⟨x :: xs, H2, I2, .cons r1 r2, q2⟩
def tTup (t : TA) : TE := fun σ H Q => t σ H fun xs H1 => xs.length ≤ sizeLine ∧ ∀ p, H1 p = none → Q (.ref p) (upd H1 p (.tup xs))
def tLst (t : TA) : TE := fun σ H Q => t σ H fun xs H1 => xs.length ≤ sizeLine ∧ ∀ p, H1 p = none → Q (.ref p) (upd H1 p (.lst xs))
end
abbrev Sp := List V → Hp → VK → XK → Prop
abbrev CXT := List Env → Hp → Shared → XK → Value → Shared → Prop
structure Env0 (P : Program) (w : World) (K : PySem.W.Frag) (mg : Str → Option Value) (base : Heap) (A : Around) (outer : List Env) (s : Shared) (H : Hp) : Prop where
  frames : A.frames = some outer
  mod : Mod K mg base
  bs : ∀ b o, base.get? b = some o → s.heap.get? b = some o ∧ H b = none
  bsz : base.objs.size ≤ s.heap.objs.size
  funs : s.heap.FunFrames base outer
  frf : ∀ b ∈ frs outer, H b = none
  hok : HOk P w H s.heap
  bare : AllBare s.gens
def CE (outer : List Env) (P : Program) (w : World) (H : Hp) (s : Shared) (Q : VK) (u : Value) (s' : Shared) : Prop :=
  ∃ v H', s'.os = s.os ∧ AllBare s'.gens ∧ Un (frs outer) [] H H' s.heap s'.heap ∧ HOk P w H' s'.heap ∧ RelV v u ∧ Q v H'
def CR (CX : CXT) (outer : List Env) (P : Program) (w : World) (H : Hp) (s : Shared) (Q : VK) (E : XK) (r : Result) (s' : Shared) : Prop :=
  match r with
  | .ok (.ret u) => CE outer P w H s Q u s'
  | .ok _ => False
  | .error e => CX outer H s E e s'
structure FnOk (P : Program) (w : World) (K : PySem.W.Frag) (mg : Str → Option Value) (base : Heap) (CX : CXT) (k : Nat) (f : Addr) (fd : FuncData) (ps : List Str) (sp : Sp) : Prop where
  len : ∀ vs H Q E, sp vs H Q E → vs.length = ps.length
  run : ∀ (A : Around) (outer : List Env) (s : Shared) (H : Hp) (args : Args) (us : List Value) (vs : List V) (Q : VK) (E : XK), Room k A → Env0 P w K mg base A outer s H → BindsTo s fd args (ps.zip us) → Vals vs us → sp vs H Q E →
    codeAny (model P w) A (.call (.ref f) args) (CR CX outer P w H s Q E) s
theorem FnOk.mono {P : Program} {w : World} {K : PySem.W.Frag} {mg : Str → Option Value} {base : Heap} {CX : CXT} {j k : Nat} {f : Addr} {fd : FuncData} {ps : List Str} {sp : Sp} (F : FnOk P w K mg base CX j f fd ps sp) (h : j ≤ k) :
    FnOk P w K mg base CX k f fd ps sp := ⟨F.len, fun A outer s H args us vs Q E hr => F.run A outer s H args us vs Q E (hr.mono h)⟩
theorem FnOk.imp {P : Program} {w : World} {K : PySem.W.Frag} {mg : Str → Option Value} {base : Heap} {CX : CXT} {k : Nat} {f : Addr} {fd : FuncData} {ps : List Str} {sp sp' : Sp} (F : FnOk P w K mg base CX k f fd ps sp)
    (h : ∀ vs H Q E, sp' vs H Q E → sp vs H Q E) : FnOk P w K mg base CX k f fd ps sp' :=
  ⟨fun vs H Q E q => F.len vs H Q E (h _ _ _ _ q), fun A outer s H args us vs Q E hr he hb hv hs => F.run A outer s H args us vs Q E hr he hb hv (h _ _ _ _ hs)⟩
theorem Env0.make {P : Program} {w : World} {K : PySem.W.Frag} {mg : Str → Option Value} {base : Heap} {A : Around} {outer : List Env} {s : Shared} {H : Hp} (e : Env0 P w K mg base A outer s H) (C : Addr) (us : List Value) (kw : List (Str × Value)) :
    Env0 P w K mg base (A.under (.builtin "type.__call__" ⟨.ref C :: us, kw⟩)) outer s H := ⟨by first | exact e.frames | (simpa [Around.under, Code.envs, Code.isFrame, pushEnvs] using e.frames), e.mod, e.bs, e.bsz, e.funs, e.frf, e.hok, e.bare⟩
theorem Env0.in1 {P : Program} {w : World} {K : PySem.W.Frag} {mg : Str → Option Value} {base : Heap} {A : Around} {outer : List Env} {s : Shared} {H : Hp} (e : Env0 P w K mg base A outer s H) :
    Env0 P w K mg base A.in1 outer s H := ⟨e.frames, e.mod, e.bs, e.bsz, e.funs, e.frf, e.hok, e.bare⟩
section
variable {X : Cx} {pins : List (Addr × Obj)} {σ : St} {H : Hp} {s s' : Shared}
theorem Inv.env0 (I : Inv X pins σ H s) : Env0 X.prog X.w X.K X.mg X.base X.A X.stack s H :=
  ⟨I.ok.frames, I.ok.mod, I.bs, Nat.le_trans I.ok.bsz I.sz, I.stack, I.stkFree, I.hok, I.bare⟩
theorem Inv.after {Q : VK} {u : Value} (I : Inv X pins σ H s) (h : CE X.stack X.prog X.w H s Q u s') : EP X pins σ Q u s' := by
  obtain ⟨v, H', os, bare, un, hok, r, q⟩ := h
  obtain ⟨hh, g, d, t, os'⟩ := s'
  obtain rfl : os' = s.os := os
  exact ⟨v, H', I.call (h' := hh) (g' := g) (d' := d) (t' := t) (ch := []) un hok bare (fun b z => absurd z (by simp)), r, q⟩
end
def tCall (sp : Sp) (dvs : List V) (E : XK) (t : TA) : TE := fun σ H Q => t σ H fun vs H1 => sp (vs ++ dvs) H1 Q E
def tMeth (C : Addr) (m : Str) (sp : Sp) (dvs : List V) (E : XK) (ta : TE) (t : TA) : TE := fun σ H Q => ta σ H fun x H1 => ∃ a dx fs, x = .ref a ∧ H1 a = some (.ins C dx fs) ∧ fs.lookup m = none ∧
  t σ H1 fun vs H2 => sp (x :: (vs ++ dvs)) H2 Q E
def Binds (K : PySem.W.Frag) (fd : FuncData) (ps : List Str) (ds : List Value) : Prop :=
  ∀ (s : Shared) (us : List Value), K.In s.heap → (us ++ ds).length = ps.length → BindsTo s fd ⟨us, []⟩ (ps.zip (us ++ ds))
theorem Binds.all {K : PySem.W.Frag} {fd : FuncData} {ps : List Str} (h : ∀ us : List Value, us.length = ps.length → bindArgs fd ⟨us, []⟩ = pure (ps.zip us)) : Binds K fd ps [] := fun s us _ hl => by
  rw [List.append_nil] at hl ⊢
  exact .of_eq (h us hl)
def Passes (CX : CXT) (X : Cx) (E : XK) : Prop := ∀ (pins : List (Addr × Obj)) (σ : St) (H : Hp) (s : Shared) (e : Value) (s' : Shared), Inv X pins σ H s → CX X.stack H s E e s' → X.xe e s'
section
variable {X : Cx} {CX : CXT} {k : Nat} {f C : Addr} {fd : FuncData} {ps : List Str} {sp : Sp} {dvs : List V} {ds : List Value} {E : XK} {x m : Str} {p pos apos : Pos} {e o : Expr} {es : List Expr} {ta : TE} {t : TA}
theorem run_fn {pins : List (Addr × Obj)} {σ : St} {H : Hp} {s : Shared} {Q : VK} {us : List Value} {vs : List V} (F : FnOk X.prog X.w X.K X.mg X.base CX k f fd ps sp) (hr : Room k X.A) (hb : Binds X.K fd ps ds) (hd : Vals dvs ds) (hx : Passes CX X E)
    (I : Inv X pins σ H s) (r : Vals vs us) (h : sp (vs ++ dvs) H Q E) : wpAny (model X.prog X.w) X.A (call (.ref f) us) (EP X pins σ Q) X.xe s := by
  have r2 : Vals (vs ++ dvs) (us ++ ds) := r.append hd
  have hl : (us ++ ds).length = ps.length := by rw [← r2.length]; exact F.len _ _ _ _ h
  refine wpAny_call (codeAny_mono (F.run X.A X.stack s H ⟨us, []⟩ (us ++ ds) (vs ++ dvs) Q E hr I.env0 (hb s us I.kIn hl) r2 h) fun r s' hq => ?_)
  cases r with
  | error e => exact hx pins σ H s e s' I hq
  | ok fl =>
    cases fl with
    | ret u => exact I.after hq
    | next => exact False.elim hq
    | brk => exact False.elim hq
    | cont => exact False.elim hq
theorem pe_call (F : FnOk X.prog X.w X.K X.mg X.base CX k f fd ps sp) (hr : Room k X.A) (hg : Gl X x) (hm : X.mg x = some (.ref f)) (hk : PySem.W.keepIn X.K (.ref f) = true) (hb : Binds X.K fd ps ds) (hd : Vals dvs ds) (hx : Passes CX X E)
    (ha : PA X (e :: es) t) (hdb : (x == ("__debug__" : Str)) = false := by decide) (he : starEach (e :: es) X.env = (false, eval e X.env) :: starEach es X.env := by rfl) (hpl : (backTo pos (starEach es X.env)).any (·.1) = false := by rfl) :
    PE X (.Call (.Name x p) (e :: es) [] pos) (tCall sp dvs E t) := by
  intro pins s σ H Q I h
  refine wpAny_Call_Name_kw (ld_glob I hg hm ?_ hdb)
  refine PySem.W.callWith_K (h₀ := X.base) I.ok.mod.kin hk (thn (ha pos pins s σ H _ I h) fun us s1 ⟨vs, H1, I1, r, q⟩ => ⟨I1.kIn, ?_⟩) he hpl
  exact run_fn F hr hb hd hx I1 r q
theorem pe_meth {pl : Sem Bool} (he : PE X o ta) (c : Cls X.K C) (hm : Meth X.K C m f) (F : FnOk X.prog X.w X.K X.mg X.base CX k f fd ps sp) (hr : Room k X.A) (hb : Binds X.K fd ps ds) (hd : Vals dvs ds) (hx : Passes CX X E) (ha : PA X (e :: es) t)
    (hst : starEach (e :: es) X.env = (false, eval e X.env) :: starEach es X.env := by rfl) (hpl : (backTo pos (starEach es X.env)).any (·.1) = false := by rfl)
    (ht : eval (.Call (.Attribute o m apos) (e :: es) [] pos) X.env = (do
      let ov ← eval o X.env
      standAt apos.atName
      let (f, first) ← holding [ov] (getMethod ov m pl)
      callWith pos f first (backTo pos (starEach (e :: es) X.env)) (backToKw pos (keywordEach [] X.env))) := by rfl) :
    PE X (.Call (.Attribute o m apos) (e :: es) [] pos) (tMeth C m sp dvs E ta t) := by
  intro pins s σ H Q I h
  refine PySem.W.methodCall_KW (pl := pl) (thn (he pins s σ H _ I h) fun u s1 ⟨x, H1, I1, rx, a, dx, fs, ex, ea, l, q⟩ => ?_) ht
  subst ex
  obtain rfl : u = Value.ref a := rx
  refine getmeth_ok I1 ea c hm l ?_
  refine PySem.W.callWith_K (first := [.ref a]) (h₀ := X.base) I.ok.mod.kin hm.kp (thn (ha pos pins s1 σ H1 _ I1 q) fun us s2 ⟨vs, H2, I2, r, q2⟩ => ⟨I2.kIn, ?_⟩) hst hpl
  exact run_fn (us := .ref a :: us) (vs := .ref a :: vs) F hr hb hd hx I2 (.cons rfl r) q2
theorem pe_meth0 {pl : Sem Bool} (he : PE X o ta) (c : Cls X.K C) (hm : Meth X.K C m f) (F : FnOk X.prog X.w X.K X.mg X.base CX k f fd ps sp) (hr : Room k X.A) (hb : Binds X.K fd ps ds) (hd : Vals dvs ds) (hx : Passes CX X E)
    (ht : eval (.Call (.Attribute o m apos) [] [] pos) X.env = (do
      let ov ← eval o X.env
      standAt apos.atName
      let (f, first) ← holding [ov] (getMethod ov m pl)
      callWith pos f first (backTo pos (starEach [] X.env)) (backToKw pos (keywordEach [] X.env))) := by rfl) :
    PE X (.Call (.Attribute o m apos) [] [] pos) (tMeth C m sp dvs E ta tNil) := by
  intro pins s σ H Q I h
  refine PySem.W.methodCall_KW (pl := pl) (thn (he pins s σ H _ I h) fun u s1 ⟨x, H1, I1, rx, a, dx, fs, ex, ea, l, q⟩ => ?_) ht
  subst ex
  obtain rfl : u = Value.ref a := rx
  refine getmeth_ok I1 ea c hm l ?_
  exact PySem.W.callWith_K0 (first := [.ref a]) I1.kIn hm.kp (run_fn (us := [.ref a]) (vs := [.ref a]) F hr hb hd hx I1 (.cons rfl .nil) q)
structure Mk (K : PySem.W.Frag) (C f : Addr) : Prop where
  makes : PySem.W.makesIn K C = true
  init : PySem.W.findIn K (.ref C) "__init__" = some (some (.ref f))
  fn : PySem.W.isFn K (.ref f) = true
  kp : PySem.W.keepIn K (.ref C) = true
end
def PK (X : Cx) (kws : List Keyword) (t : TA) : Prop :=
  ∀ (pos : Pos) (pins : List (Addr × Obj)) (s : Shared) (σ : St) (H : Hp) (Q : List V → Hp → Prop), Inv X pins σ H s → t σ H Q → wpAny (model X.prog X.w) X.A (evalAll ((backToKw pos (keywordEach kws X.env)).map (·.2))) (AP X pins σ Q) X.xe s
section
variable {X : Cx} {CX : CXT} {k : Nat} {f C : Addr} {fd : FuncData} {ps ks : List Str} {sp : Sp} {E : XK} {x m : Str} {p pos apos kpos : Pos} {e o : Expr} {es : List Expr} {kws : List Keyword} {te ta : TE} {t tk : TA} {nm : Option Str}
structure KBinds (K : PySem.W.Frag) (fd : FuncData) (ps ks : List Str) (g : List Value → List Value → List Value) (gV : List V → List V → List V) : Prop where
  to : ∀ (s : Shared) (us ws : List Value), K.In s.heap → (g us ws).length = ps.length → BindsTo s fd ⟨us, ks.zip ws⟩ (ps.zip (g us ws))
  rel : ∀ {vs : List V} {us : List Value} {zs : List V} {ws : List Value}, Vals vs us → Vals zs ws → Vals (gV vs zs) (g us ws)
variable {g : List Value → List Value → List Value} {gV : List V → List V → List V}
end
structure FnScope (N P : List Str) (sc : Scope) : Prop where
  kind : sc.kind = .function
  co : sc.isCoroutine = false
  gen : sc.isGenerator = false
  nd : N.Nodup
  pre : N.take P.length = P
  par : ∀ x ∈ P, sc.names.lookup x = some .local ∨ sc.names.lookup x = some .cell
  nofree : ∀ y ∈ sc.names, y.2 ≠ .free
theorem bindL_out {kindOf : Str → Option NameKind} {x : Str} : ∀ {binds : List (Str × Value)} {m : Str → Option Value}, (∀ v, (x, v) ∉ binds) → bindL kindOf binds m x = m x
  | [], _, _ => rfl
  | (n, v) :: r, m, h => by
    unfold bindL
    rw [bindL_out fun w hw => h w (List.mem_cons_of_mem _ hw)]
    split
    · have : x ≠ n := by rintro rfl; exact h v List.mem_cons_self
      simp [this]
    · rfl
theorem bindC_out {kindOf : Str → Option NameKind} {x : Str} : ∀ {binds : List (Str × Value)} {m : Str → Option Value}, (∀ v, (x, v) ∉ binds) → bindC kindOf binds m x = m x
  | [], _, _ => rfl
  | (n, v) :: r, m, h => by
    unfold bindC
    rw [bindC_out fun w hw => h w (List.mem_cons_of_mem _ hw)]
    split
    · rfl
    · have : x ≠ n := by rintro rfl; exact h v List.mem_cons_self
      simp [this]
theorem bindL_get {kindOf : Str → Option NameKind} {x : Str} {v : Value} : ∀ {P : List Str} {vs : List Value} {i : Nat} {m : Str → Option Value}, P.Nodup → P[i]? = some x → vs[i]? = some v → kindOf x = some .local →
    bindL kindOf (P.zip vs) m x = some v
  | [], _, _, _, _, h, _, _ => by simp at h
  | _ :: _, [], _, _, _, _, h, _ => by simp at h
  | p :: P, w :: vs, 0, m, nd, h1, h2, hk => by
    simp at h1 h2; subst h1; subst h2
    show bindL kindOf ((p, w) :: P.zip vs) m p = _
    unfold bindL
    rw [bindL_out fun v hv => (List.nodup_cons.mp nd).1 (List.of_mem_zip hv).1, if_pos hk]
    simp
  | p :: P, w :: vs, i + 1, m, nd, h1, h2, hk => by
    show bindL kindOf ((p, w) :: P.zip vs) m x = _
    unfold bindL
    exact bindL_get (i := i) (List.nodup_cons.mp nd).2 (by simpa using h1) (by simpa using h2) hk
theorem bindC_get {kindOf : Str → Option NameKind} {x : Str} {v : Value} : ∀ {P : List Str} {vs : List Value} {i : Nat} {m : Str → Option Value}, P.Nodup → P[i]? = some x → vs[i]? = some v → kindOf x ≠ some .local →
    bindC kindOf (P.zip vs) m x = some v
  | [], _, _, _, _, h, _, _ => by simp at h
  | _ :: _, [], _, _, _, _, h, _ => by simp at h
  | p :: P, w :: vs, 0, m, nd, h1, h2, hk => by
    simp at h1 h2; subst h1; subst h2
    show bindC kindOf ((p, w) :: P.zip vs) m p = _
    unfold bindC
    rw [bindC_out fun v hv => (List.nodup_cons.mp nd).1 (List.of_mem_zip hv).1, if_neg hk]
    simp
  | p :: P, w :: vs, i + 1, m, nd, h1, h2, hk => by
    show bindC kindOf ((p, w) :: P.zip vs) m x = _
    unfold bindC
    exact bindC_get (i := i) (List.nodup_cons.mp nd).2 (by simpa using h1) (by simpa using h2) hk
def start (N : List Str) (vs : List V) : St := vs.map some ++ List.replicate (N.length - vs.length) none
def cxOf (CX : CXT) (P : Program) (w : World) (K : PySem.W.Frag) (mg : Str → Option Value) (base : Heap) (N : List Str) (qual : Str) (scope : Scope) (f : Addr) (cd : Value) (A : Around) (outer : List Env) (s : Shared) (H : Hp) (E : XK) : Cx where
  prog := P
  w := w
  K := K
  mg := mg
  base := base
  A := A.deeper (envOfC qual scope s.heap.objs.size f cd)
  N := N
  s₀ := s
  H₀ := H
  env := envOfC qual scope s.heap.objs.size f cd
  outer := outer
  stack := envOfC qual scope s.heap.objs.size f cd :: outer
  ex := []
  calm := true
  fn := fun _ => true
  pn := []
  xe := fun e s' => wpAny (model P w) (A.deeper (envOfC qual scope s.heap.objs.size f cd)) (leaving (envOfC qual scope s.heap.objs.size f cd) e) (fun _ s'' => CX outer H s E e s'') (fun e' s'' => CX outer H s E e' s'') s'
theorem cell_has {sc : Scope} {n : Nat} {x : Str} (h : sc.names.lookup x = some .cell) : ∃ c, (cellsFrom n sc.names []).lookup x = some c := by
  have q := PySem.W.cellsFrom_some sc.names n [] (.inl h)
  exact Option.isSome_iff_exists.mp q
theorem inv_start {CX : CXT} {P : Program} {w : World} {K : PySem.W.Frag} {mg : Str → Option Value} {base : Heap} {N ps : List Str} {qual : Str} {scope : Scope} {f : Addr} {cd : Value} {A : Around} {outer : List Env} {s s1 : Shared} {H : Hp} {E : XK} {us : List Value} {vs : List V}
    (S : FnScope N ps scope) (hd : A.handled = none) (e0 : Env0 P w K mg base A outer s H) (hl : vs.length = ps.length) (r : Vals vs us)
    (x : InCallC s s.heap.objs.size (bindL (envOfC qual scope s.heap.objs.size f cd).kindOf (ps.zip us) fun _ => none) (cellsFrom (s.heap.objs.size + 1) scope.names []) (bindC (envOfC qual scope s.heap.objs.size f cd).kindOf (ps.zip us) fun _ => none) s1) :
    Inv (cxOf CX P w K mg base N qual scope f cd A outer s H E) [] (start N vs) H s1 := by
  have hpl : ps.length ≤ N.length := by have := congrArg List.length S.pre; rw [List.length_take] at this; omega
  obtain ⟨h1, tk, rfl, hk⟩ := x.done
  have noA : ∀ b : Addr, b ∉ (cxOf CX P w K mg base N qual scope f cd A outer s H E).ex := fun b z => absurd (show b ∈ ([] : List Addr) from z) (by simp)
  refine ⟨⟨e0.mod, S.kind, rfl, rfl, Nat.le_refl _, fun y z c h1 h2 => ?_, fun y hy => ?_, fun y c _ h => ?_, fun _ => hd, Around.frames_deeper e0.frames, .inr ⟨rfl, rfl⟩, fun b z => absurd z (noA b), e0.bs, e0.bsz, fun b _ _ => noA b, fun b z => absurd z (noA b), e0.funs, e0.frf⟩,
    rfl, e0.bare, Un.kept hk, ⟨_, x.toInCall.ns, fun i y v h1 h2 h3 => ?_⟩, fun y c h => ⟨_, x.cell y c h⟩, e0.hok.fresh (Nat.le_refl _), fun y c h => ?_, fun p hp => absurd (show p ∈ ([] : List (Addr × Obj)) from hp) (by simp), e0.hok.kept hk, ?_⟩
  · exact name_of_addr x.apart (PySem.mem_of_lookup h1) (PySem.mem_of_lookup h2)
  · have hy : scope.names.lookup y = some .cell ∨ scope.names.lookup y = some .free := hy
    rcases hy with hy | hy
    · exact cell_has hy
    · exact absurd rfl (S.nofree _ (PySem.mem_of_lookup hy))
  · exact Nat.le_of_lt (x.above y c (PySem.mem_of_lookup h))
  · have hi : i < vs.length := by
      unfold start at h2
      by_cases hi : i < vs.length
      · exact hi
      · rw [List.getElem?_append_right (by simpa using hi)] at h2
        rw [List.getElem?_replicate] at h2
        split at h2 <;> cases h2
    have ha : vs[i]? = some v := by
      unfold start at h2
      rw [List.getElem?_append_left (by simpa using hi), List.getElem?_map] at h2
      cases e : vs[i]? with
      | none => rw [e] at h2; cases h2
      | some a => rw [e] at h2; cases h2; rfl
    obtain ⟨u, hu, rv⟩ := r.get ha
    have hp : ps[i]? = some y := by
      rw [← S.pre, List.getElem?_take_of_lt (by omega)]; exact h1
    have ndP : ps.Nodup := by rw [← S.pre]; exact S.nd.sublist (List.take_sublist _ _)
    refine ⟨u, rv, ?_⟩
    rcases S.par y (List.mem_of_getElem? hp) with k | k
    · exact .inl ⟨k, bindL_get ndP hp hu k⟩
    · obtain ⟨c, e⟩ := cell_has (n := s.heap.objs.size + 1) k
      refine .inr ⟨.inl k, c, e, ?_⟩
      have q := x.cell y c e
      rw [bindC_get ndP hp hu (by show scope.names.lookup y ≠ _; rw [k]; decide)] at q
      exact q
  · exact e0.hok.fresh (Nat.le_of_lt (x.above y c (PySem.mem_of_lookup h)))
  · unfold start
    show _ = N.length
    rw [List.length_append, List.length_map, List.length_replicate]
    omega
theorem fn_of {CX : CXT} {P : Program} {w : World} {K : PySem.W.Frag} {mg : Str → Option Value} {base : Heap} {k : Nat} {f : Addr} {name qual : Str} {params : Arguments} {body : List Stmt} {scope : Scope} {dV kV doc pm cdv ct oc : Value} {an od : Option Addr}
    {osl : Array (Option Value)} {N ps : List Str} {sp : Sp} (lk : K.lookup f = some ⟨oc, od, .func (PySem.W.fnOf name qual params body scope dV kV doc pm an cdv ct), osl⟩) (hcd : PySem.W.codeIn K cdv qual = true) (S : FnScope N ps scope)
    (len : ∀ vs H Q E, sp vs H Q E → vs.length = ps.length)
    (hbody : ∀ (A : Around) (outer : List Env) (s : Shared) (H : Hp) (vs : List V) (Q : VK) (E : XK), Room k (A.deeper (envOfC qual scope s.heap.objs.size f cdv)) → sp vs H Q E →
      ∃ t, PSs (cxOf CX P w K mg base N qual scope f cdv A outer s H E) body t ∧ t { nx := fun _ H' => Q .non H', rt := Q } (start N vs) H) :
    FnOk P w K mg base CX (k + 1) f (PySem.W.fnOf name qual params body scope dV kV doc pm an cdv ct) ps sp := by
  refine ⟨len, fun A outer s H args us vs Q E hr e0 hb r hsp => ?_⟩
  have hl := len _ _ _ _ hsp
  have KX : K.In s.heap := e0.mod.kin.keeps fun b o e => (e0.bs b o e).1
  have lim : s.heap.NoLimit := e0.mod.nolimit.keeps fun b o e => (e0.bs b o e).1
  have hkind : ∀ y ∈ ps.zip us, scope.names.lookup y.1 = some .local ∨ (scope.names.lookup y.1 = some .cell ∧ ((cellsFrom (s.heap.objs.size + 1) scope.names []).lookup y.1).isSome = true) := fun ⟨n, v⟩ hy => by
    rcases S.par n (List.of_mem_zip hy).1 with q | q
    · exact .inl q
    · exact .inr ⟨q, PySem.W.cellsFrom_some _ _ _ (.inl q)⟩
  refine codeAny_call_function hr.depth (KX _ _ lk) rfl S.co S.gen rfl (PySem.W.codeRec_of KX hcd) (hb _ _ _ _ ?_)
  refine wpAny_newFunctionEnv_cells S.kind hkind fun env he s1 x => ?_
  subst he
  refine ⟨lim.keeps x.toInCall.keep, codeAny_func ?_⟩
  obtain ⟨t, ht, hq⟩ := hbody A outer s H vs Q E (hr.deeper _) hsp
  have I : Inv (cxOf CX P w K mg base N qual scope f cdv A outer s H E) [] (start N vs) H s1 := inv_start S hr.hd e0 hl r x
  refine wpAny_mono (ht [] s1 (start N vs) H _ I hq) (fun fl s' hs => ?_) fun e s' hs => hs
  have fin : ∀ {σ' : St} {H' : Hp} {v : V} {u : Value}, Inv (cxOf CX P w K mg base N qual scope f cdv A outer s H E) [] σ' H' s' → RelV v u → Q v H' → CE outer P w H s Q u s' :=
    fun {σ' H' v u} J rv q => ⟨v, H', J.os, J.bare, J.base, J.hok, rv, q⟩
  cases fl with
  | ret u =>
    obtain ⟨v, σ', H', J, rv, q⟩ := hs
    exact fin J rv q
  | next =>
    obtain ⟨σ', H', J, q⟩ := hs
    exact fin (v := V.non) (u := Value.none) J rfl q
  | brk =>
    obtain ⟨_, _, _, q⟩ := hs
    exact False.elim q
  | cont =>
    obtain ⟨_, _, _, q⟩ := hs
    exact False.elim q
end L2
namespace L2
open PySem PySem.Spec PyProof.Rows
section
variable {X : Cx} {x : Str} {p pos : Pos} {e : Expr} {es : List Expr} {t : TA} {id T : String} {r : List V → Hp → VK → Prop}
def tCB (r : List V → Hp → VK → Prop) (t : TA) : TE := fun σ H Q => t σ H fun vs H1 => r vs H1 Q
theorem pe_callB (hc : CallR X (.builtin id) r) (hg : Gl X x) (hm : X.mg x = none) (hv : bootBuiltins x = some (.builtin id)) (ha : PA X (e :: es) t) (hn : x ≠ "__name__" := by decide) (hdb : (x == ("__debug__" : Str)) = false := by decide)
    (he : starEach (e :: es) X.env = (false, eval e X.env) :: starEach es X.env := by rfl) (hpl : (backTo pos (starEach es X.env)).any (·.1) = false := by rfl) : PE X (.Call (.Name x p) (e :: es) [] pos) (tCB r t) := by
  intro pins s σ H Q I h
  refine wpAny_Call_Name_kw (ld_blt I hg hm hv ?_ hn hdb)
  exact PyProof.Rows.callWith_builtin1 (thn (ha pos pins s σ H _ I h) fun us s1 ⟨vs, H1, I1, r1, q1⟩ => hc pins s1 σ H1 vs us Q I1 r1 q1) he hpl
theorem pe_callTy (hc : CallR X (.type T) r) (hg : Gl X x) (hm : X.mg x = none) (hv : bootBuiltins x = some (.type T)) (ha : PA X (e :: es) t) (hn : x ≠ "__name__" := by decide) (hdb : (x == ("__debug__" : Str)) = false := by decide)
    (he : starEach (e :: es) X.env = (false, eval e X.env) :: starEach es X.env := by rfl) (hpl : (backTo pos (starEach es X.env)).any (·.1) = false := by rfl) : PE X (.Call (.Name x p) (e :: es) [] pos) (tCB r t) := by
  intro pins s σ H Q I h
  refine wpAny_Call_Name_kw (ld_blt I hg hm hv ?_ hn hdb)
  exact PyProof.Rows.callWith_type1 (thn (ha pos pins s σ H _ I h) fun us s1 ⟨vs, H1, I1, r1, q1⟩ => hc pins s1 σ H1 vs us Q I1 r1 q1) he hpl
end
end L2
namespace HT
open PySem PyProof.Rows
section
open PySem.SeqAt
open PySem.AutoSeq1 (wpAny_loadPart')
open PySem.MeetsSeq PySem.MeetsSeq2 PySem.MeetsSeq3
end
section
variable {prog : Program} {w : World} {A : Around} {E : Value → Shared → Prop} {s : Shared}
def sIx (n d : Nat) : Option Int → Nat
  | none => d
  | some v => if v < 0 then (v + (n : Int)).toNat else min v.toNat n
theorem sIx_none (n d : Nat) : sIx n d none = d := rfl
theorem sIx_nat (n d k : Nat) : sIx n d (some (k : Int)) = min k n := by
  show (if (k : Int) < 0 then ((k : Int) + (n : Int)).toNat else min (k : Int).toNat n) = min k n
  rw [if_neg (by omega), Int.toNat_natCast]
end
end HT
namespace L2
open PySem PySem.Spec PyProof.Rows
abbrev TO := St → Hp → (Option Int → Hp → Prop) → Prop
def PO (X : Cx) (e : Option Expr) (t : TO) : Prop :=
  ∀ (pins : List (Addr × Obj)) (s : Shared) (σ : St) (H : Hp) (Q : Option Int → Hp → Prop), Inv X pins σ H s → t σ H Q →
    wpAny (model X.prog X.w) X.A (evalPart e X.env) (fun u s' => ∃ o H', Inv X pins σ H' s' ∧ IsPart u o ∧ Q o H') X.xe s
def tNoPart : TO := fun _ H Q => Q none H
def tPart (t : TE) : TO := fun σ H Q => t σ H fun x H1 => ∃ i, x = .int i ∧ Q (some i) H1
section
variable {X : Cx} {e : Expr} {te : TE} {lo hi : Option Expr} {tl th : TO} {pos p2 : Pos}
theorem po_none : PO X none tNoPart := by
  intro pins s σ H Q I h
  rw [evalPart_none]
  exact wpAny_pure ⟨none, H, I, .none, h⟩
theorem po_some (h : PE X e te) : PO X (some e) (tPart te) := by
  intro pins s σ H Q I hw
  rw [evalPart_some]
  refine thn (h pins s σ H _ I hw) fun u s1 ⟨x, H1, I1, r1, q1⟩ => ?_
  obtain ⟨i, rfl, q⟩ := q1
  obtain ⟨t, rfl⟩ := r1
  exact ⟨some i, H1, I1, .int i t, q⟩
def SlR (X : Cx) (r : V → Option Int → Option Int → Hp → VK → Prop) : Prop :=
  ∀ (pins : List (Addr × Obj)) (s : Shared) (σ : St) (H : Hp) (x : V) (v vl vu : Value) (lo hi : Option Int) (sl : Addr) (Q : VK), Inv X pins σ H s → RelV x v → s.heap.IsSliceOf sl vl vu .none → IsPart vl lo → IsPart vu hi → r x lo hi H Q →
    ∃ T id, typeLookup (.type T) "__getitem__" = pure (some (.builtin id)) ∧ s.TypeIs v T ∧ wpAny (model X.prog X.w) X.A (getItem v (.ref sl)) (EP X pins σ Q) X.xe s
theorem SlR.or {r r' : V → Option Int → Option Int → Hp → VK → Prop} (h : SlR X r) (h' : SlR X r') : SlR X (fun x lo hi H Q => r x lo hi H Q ∨ r' x lo hi H Q) := by
  intro pins s σ H x v vl vu lo hi sl Q I rx hs pl pu q
  rcases q with q | q
  · exact h pins s σ H x v vl vu lo hi sl Q I rx hs pl pu q
  · exact h' pins s σ H x v vl vu lo hi sl Q I rx hs pl pu q
def tSl (r : V → Option Int → Option Int → Hp → VK → Prop) (te : TE) (tl th : TO) : TE := fun σ H Q => te σ H fun x H1 => tl σ H1 fun l H2 => th σ H2 fun u H3 => r x l u H3 Q
theorem pe_slice {r : V → Option Int → Option Int → Hp → VK → Prop} (hr : SlR X r) (he : PE X e te) (hl : PO X lo tl) (hu : PO X hi th) : PE X (.Subscript e (.Slice lo hi none p2) pos) (tSl r te tl th) := by
  intro pins s σ H Q I h
  refine Subscript_ (thn (he pins s σ H _ I h) fun v s1 ⟨x, H1, I1, r1, q1⟩ => ?_)
  refine wpAny_Slice (thn (hl pins s1 σ H1 _ I1 q1) fun vl s2 ⟨l, H2, I2, pl, q2⟩ => thn (hu pins s2 σ H2 _ I2 q2) fun vu s3 ⟨u, H3, I3, pu, q3⟩ => ?_)
  rw [evalPart_none]
  refine wpAny_pure ?_
  have I4 : Inv X pins σ H3 { s3 with heap := s3.heap.push { cls := .type "slice", data := .fields #[vl, vu, .none] } } := I3.kept (t' := s3.toks) fun b ob q => Heap.get?_push_of_some _ q
  obtain ⟨T, id, hT, ht, hg⟩ := hr pins { s3 with heap := s3.heap.push { cls := .type "slice", data := .fields #[vl, vu, .none] } } σ H3 x v vl vu l u s3.heap.objs.size Q I4 r1 (Heap.IsSliceOf.new ..) pl pu q3
  show wpAny (model X.prog X.w) X.A (subscriptTail e (.Slice lo hi none p2) v (.ref s3.heap.objs.size)) (EP X pins σ Q) X.xe { s3 with heap := s3.heap.push { cls := .type "slice", data := .fields #[vl, vu, .none] } }
  exact tail_any (ops := [.ref s3.heap.objs.size, v]) ht hT hg (by with_unfolding_all rfl)
def cutV (xs : List V) (lo hi : Option Int) : List V := (xs.drop (HT.sIx xs.length 0 lo)).take (HT.sIx xs.length xs.length hi - HT.sIx xs.length 0 lo)
theorem cutV_length (xs : List V) (lo hi : Option Int) : (cutV xs lo hi).length ≤ xs.length := by
  unfold cutV
  rw [List.length_take, List.length_drop]
  omega
end
end L2
namespace L2
open PySem PySem.Spec PyProof.Rows
def ixN (n : Nat) (i : Int) : Option Nat := if 0 ≤ i then (if i < n then some i.toNat else none) else if -(n : Int) ≤ i then some (i + n).toNat else none
def atI {α : Type} (xs : List α) (i : Int) : Option α := (ixN xs.length i).bind fun j => xs[j]?
theorem ixN_seq {n : Nat} {i : Int} {j : Nat} (h : ixN n i = some j) : seqIndex? i n = some j ∧ j < n ∧ -(n : Int) ≤ i ∧ i < n := by
  unfold ixN at h
  by_cases h0 : 0 ≤ i
  · rw [if_pos h0] at h
    by_cases h1 : i < n
    · rw [if_pos h1] at h
      have e : i.toNat = j := Option.some.inj h
      exact ⟨by rw [seqIndex_of h0 h1, e], by omega, by omega, h1⟩
    · rw [if_neg h1] at h; cases h
  · rw [if_neg h0] at h
    by_cases h1 : -(n : Int) ≤ i
    · rw [if_pos h1] at h
      have e : (i + n).toNat = j := Option.some.inj h
      exact ⟨by rw [seqIndex_neg (by omega) h1, e], by omega, h1, by omega⟩
    · rw [if_neg h1] at h; cases h
theorem atI_get {α : Type} {xs : List α} {i : Int} {v : α} (h : atI xs i = some v) : ∃ j, seqIndex? i xs.length = some j ∧ xs[j]? = some v ∧ j < xs.length ∧ -(xs.length : Int) ≤ i ∧ i < xs.length := by
  unfold atI at h
  cases e : ixN xs.length i with
  | none => rw [e] at h; cases h
  | some j =>
    rw [e] at h
    obtain ⟨h1, h2, h3, h4⟩ := ixN_seq e
    exact ⟨j, h1, h, h2, h3, h4⟩
theorem atI_nat {α : Type} {xs : List α} {j : Nat} {v : α} (h : xs[j]? = some v) : atI xs (j : Int) = some v := by
  have hj : j < xs.length := (List.getElem?_eq_some_iff.mp h).1
  have e : ixN xs.length (j : Int) = some j := by
    unfold ixN
    rw [if_pos (by omega), if_pos (by omega)]; simp
  unfold atI; rw [e]; exact h
def PlainIx (b : Expr) : Prop := ∀ o i, subscripted b false o i = operate [o, i] (getItem o i)
def IxR (X : Cx) (r : R2) : Prop :=
  ∀ (value slice : Expr) (pins : List (Addr × Obj)) (s : Shared) (σ : St) (H : Hp) (x y : V) (v u : Value) (Q : VK), Inv X pins σ H s → RelV x v → RelV y u → r x y H Q →
    subscripted slice false v u = operate [v, u] (getItem v u) → wpAny (model X.prog X.w) X.A (subscriptTail value slice v u) (EP X pins σ Q) X.xe s
def MtR (X : Cx) (id : String) (r : V → List V → Hp → VK → Prop) : Prop :=
  ∀ (pins : List (Addr × Obj)) (s : Shared) (σ : St) (H : Hp) (x : V) (xs : List V) (v : Value) (us : List Value) (Q : VK), Inv X pins σ H s → RelV x v → Vals xs us → r x xs H Q →
    wpAny (model X.prog X.w) X.A (call (.builtin id) (v :: us)) (EP X pins σ Q) X.xe s
section
variable {X : Cx} {a b : Expr} {ta tb : TE} {pos : Pos}
theorem IxR.or {r r' : R2} (h : IxR X r) (h' : IxR X r') : IxR X (fun x y H Q => r x y H Q ∨ r' x y H Q) := by
  intro value slice pins s σ H x y v u Q I rx ry q hs
  rcases q with q | q
  · exact h value slice pins s σ H x y v u Q I rx ry q hs
  · exact h' value slice pins s σ H x y v u Q I rx ry q hs
theorem MtR.or {id : String} {r r' : V → List V → Hp → VK → Prop} (h : MtR X id r) (h' : MtR X id r') : MtR X id (fun x xs H Q => r x xs H Q ∨ r' x xs H Q) := by
  intro pins s σ H x xs v us Q I rx rs q
  rcases q with q | q
  · exact h pins s σ H x xs v us Q I rx rs q
  · exact h' pins s σ H x xs v us Q I rx rs q
theorem pe_ix {r : R2} (hr : IxR X r) (ha : PE X a ta) (hb : PE X b tb) (hs : PlainIx b) : PE X (.Subscript a b pos) (tOp r ta tb) := by
  intro pins s σ H Q I h
  exact Subscript_ (binT ha hb I h fun v u s2 x y H2 I2 rx ry q => hr a b pins s2 σ H2 x y v u Q I2 rx ry q (hs _ _))
def rIxL (K : PySem.W.Frag) : R2 := fun x y H Q => ∃ p xs i v, x = .ref p ∧ y = .int i ∧ SqL K H p xs ∧ atI xs i = some v ∧ Q v H
def rIxT (K : PySem.W.Frag) : R2 := fun x y H Q => ∃ p xs i v, x = .ref p ∧ y = .int i ∧ SqT K H p xs ∧ atI xs i = some v ∧ Q v H
def rIxS : R2 := fun x y H Q => ∃ z i c, x = .str z ∧ y = .int i ∧ z.length ≤ sizeLine ∧ atI z.cps.toList i = some c ∧ Q (.str ⟨#[c]⟩) H
theorem ix_list : IxR X (rIxL X.K) := by
  intro value slice pins s σ H x y v u Q I rx ry h hs
  obtain ⟨p, xs, i, z, rfl, rfl, hq, he, q⟩ := h
  cases rx
  obtain ⟨t, rfl⟩ := ry
  obtain ⟨its, r, pl, hz⟩ := I.list hq
  obtain ⟨j, h1, h2, h3, h4, h5⟩ := atI_get he
  obtain ⟨w, ew, rw'⟩ := r.get h2
  have hl := r.length
  have hn := line63
  have fin : EP X pins σ Q w s := ⟨z, H, I, rw', q⟩
  by_cases h0 : 0 ≤ i
  · have hj : i.toNat = j := by
      rw [seqIndex_of h0 h5] at h1
      exact Option.some.inj h1
    exact item_listR pl.isList h0 (by omega) (by rw [hj]; simpa using ew) fin hs
  · have hj : (i + (its.toArray.size : Int)).toNat = j := by
      rw [seqIndex_neg (by omega) h4] at h1
      rw [List.size_toArray, ← hl]
      exact Option.some.inj h1
    exact subscriptTail_builtinR (x := w) pl.isList.typeIs slot_list_getitem.lookup
      (wpAny_getItem_list_neg (Q := fun r s' => r = w ∧ EP X pins σ Q r s') pl.isList (by omega) (by rw [List.size_toArray] <;> omega) (by omega) (by rw [hj]; simpa using ew) ⟨rfl, fin⟩) hs
theorem ix_tup : IxR X (rIxT X.K) := by
  intro value slice pins s σ H x y v u Q I rx ry h hs
  obtain ⟨p, xs, i, z, rfl, rfl, hq, he, q⟩ := h
  cases rx
  obtain ⟨t, rfl⟩ := ry
  obtain ⟨its, r, pl, hz⟩ := I.tuple hq
  obtain ⟨j, h1, h2, h3, h4, h5⟩ := atI_get he
  obtain ⟨w, ew, rw'⟩ := r.get h2
  have hl := r.length
  have hn := line63
  have fin : EP X pins σ Q w s := ⟨z, H, I, rw', q⟩
  exact subscriptTail_builtinR (x := w) pl.typeIs slot_tuple_getitem.lookup
    (getItem_tuple (j := j) (Q := fun r s' => r = w ∧ EP X pins σ Q r s') pl (by omega) (by omega) (by rw [List.size_toArray, ← hl]; exact h1) (by simpa using ew) ⟨rfl, fin⟩) hs
theorem ix_str : IxR X rIxS := by
  intro value slice pins s σ H x y v u Q I rx ry h hs
  obtain ⟨z, i, c, rfl, rfl, hz, he, q⟩ := h
  obtain ⟨t, rfl⟩ := rx
  obtain ⟨t', rfl⟩ := ry
  obtain ⟨j, h1, h2, h3, h4, h5⟩ := atI_get he
  have hl : z.cps.toList.length = z.length := by simp [Str.length]
  rw [hl] at h1 h4 h5
  have hn := line63
  exact tail_any (typeIs_str s z t) slot_str_getitem.lookup (getItem_str (c := c) (by
    have e1 : decide (i < -(2 ^ 63 : Int)) = false := decide_eq_false (by omega)
    have e2 : decide (i ≥ 2 ^ 63) = false := decide_eq_false (by omega)
    rw [e1, e2, Bool.or_false]) (by rw [h1]; simpa using h2) ⟨.str ⟨#[c]⟩, H, I.tok _, ⟨_, rfl⟩, q⟩) hs
theorem mapSeq_set (its : List Value) (n j : Nat) (u : Value) : Obj.mapSeq (·.setIfInBounds j u) { cls := .type "list", data := .seq its.toArray n } = { cls := .type "list", data := .seq (its.set j u).toArray n } := by
  simp [Obj.mapSeq]
theorem Inv.lst {pins : List (Addr × Obj)} {σ : St} {H : Hp} {s : Shared} {p : Addr} {xs : List V} (I : Inv X pins σ H s) (h : H p = some (.lst xs)) :
    ∃ (its : List Value) (n : Nat), Vals xs its ∧ s.heap.get? p = some { cls := .type "list", data := .seq its.toArray n } ∧ xs.length ≤ sizeLine := by
  obtain ⟨z, its, n, r, e⟩ := I.hok p _ h
  exact ⟨its, n, r, e, z⟩
theorem Inv.lstUpd {pins : List (Addr × Obj)} {σ : St} {H : Hp} {s : Shared} {p : Addr} {xs ys : List V} {its its' : List Value} {n n' : Nat} {f : Obj → Obj} (I : Inv X pins σ H s) (h : H p = some (.lst xs))
    (ho : s.heap.get? p = some { cls := .type "list", data := .seq its.toArray n }) (hf : f { cls := .type "list", data := .seq its.toArray n } = { cls := .type "list", data := .seq its'.toArray n' }) (r : Vals ys its') (hz : ys.length ≤ sizeLine) (t : Nat) :
    Inv X pins σ (upd H p (.lst ys)) { s with heap := s.heap.update p f, toks := t } := by
  have e : (s.heap.update p f).get? p = some { cls := .type "list", data := .seq its'.toArray n' } := by
    rw [Heap.get?_update_self f ho (by rw [hf] <;> rfl), hf]
  refine I.write (x := p) (e := p) (by rw [h]; trivial) (.inl rfl) (fun b u hb q => (Heap.get?_update_other _ _ (Ne.symm hb)).trans q) ⟨_, e⟩ ?_
  exact ⟨hz, its', n', r, e⟩
def rSetL : V → V → V → Hp → (Hp → Prop) → Prop := fun o i v H Q => ∃ p xs k j, o = .ref p ∧ i = .int k ∧ H p = some (.lst xs) ∧ ixN xs.length k = some j ∧ Q (upd H p (.lst (xs.set j v)))
theorem set_list : PSet X rSetL := by
  intro pins s σ H o i v ov iv u Q I ro ri rv h
  obtain ⟨p, xs, k, j, rfl, rfl, hp, hj, q⟩ := h
  cases ro
  obtain ⟨t, rfl⟩ := ri
  obtain ⟨its, n, r, ho, hz⟩ := I.lst hp
  obtain ⟨h1, h2, h3, h4⟩ := ixN_seq hj
  have hl := r.length
  have hn := line63
  have I' : Inv X pins σ (upd H p (.lst (xs.set j v))) { s with heap := s.heap.update p (Obj.mapSeq (·.setIfInBounds j u)) } :=
    I.lstUpd hp ho (mapSeq_set its n j u) (r.set rv j) (by rw [List.length_set]; exact hz) s.toks
  by_cases h0 : 0 ≤ k
  · have hk : k.toNat = j := by
      rw [seqIndex_of h0 h4] at h1
      exact Option.some.inj h1
    exact PySem.W.ki_setAt ho h0 (by omega) (by rw [List.size_toArray, ← hl]; exact h4) (by rw [hk]; exact ⟨_, I', q⟩)
  · have hk : (k + (its.toArray.size : Int)).toNat = j := by
      rw [seqIndex_neg (by omega) h3] at h1
      rw [List.size_toArray, ← hl]
      exact Option.some.inj h1
    exact PySem.W.ki_setBack ho (by omega) (by rw [List.size_toArray, ← hl]; exact h3) (by omega) (by rw [hk]; exact ⟨_, I', q⟩)
theorem slice_bounds (lo hi : Option Int) (n : Nat) : (sliceBounds lo hi none n).1 = ((HT.sIx n 0 lo : Nat) : Int) ∧ (sliceBounds lo hi none n).2.1 = ((HT.sIx n n hi : Nat) : Int) ∧ (sliceBounds lo hi none n).2.2 = 1 := by
  refine ⟨?_, ?_, rfl⟩
  · cases lo with
    | none => simp [sliceBounds, HT.sIx]
    | some i =>
      simp only [sliceBounds, HT.sIx, Option.getD_none, show (1 : Int) > 0 by decide, if_true]
      by_cases h : i < 0
      · simp only [h, if_true] <;> omega
      · simp only [h, if_false] <;> omega
  · cases hi with
    | none => simp [sliceBounds, HT.sIx]
    | some i =>
      simp only [sliceBounds, HT.sIx, Option.getD_none, show (1 : Int) > 0 by decide, if_true]
      by_cases h : i < 0
      · simp only [h, if_true] <;> omega
      · simp only [h, if_false] <;> omega
theorem slicePick_cut (its : List Value) (lo hi : Option Int) : slicePick its.toArray lo hi none = ((its.drop (HT.sIx its.length 0 lo)).take (HT.sIx its.length its.length hi - HT.sIx its.length 0 lo)).toArray := by
  obtain ⟨h1, h2, h3⟩ := slice_bounds lo hi its.toArray.size
  unfold slicePick
  rw [h1, h2, h3]
  simp only [sliceRange_one, pick_run, List.size_toArray] <;> rfl
def flatV : V → Bool
  | .non => true
  | .bl _ => true
  | .int _ => true
  | .str _ => true
  | _ => false
def eqV : V → V → Bool
  | .non, .non => true
  | .bl a, .bl b => a == b
  | .bl a, .int b => (if a then 1 else 0) == b
  | .int a, .bl b => a == (if b then 1 else 0)
  | .int a, .int b => a == b
  | .str a, .str b => a == b
  | _, _ => false
def inV (x : V) (xs : List V) : Bool := xs.any fun y => eqV y x
theorem call_len_seq : CallR X (.builtin "len") (fun xs H Q => ∃ p ys, xs = [.ref p] ∧ (SqL X.K H p ys ∨ SqT X.K H p ys) ∧ Q (.int ys.length) H) := by
  intro pins s σ H xs us Q I r h
  obtain ⟨p, ys, rfl, hq, q⟩ := h
  obtain ⟨u, rfl, rx⟩ := vals1 r
  cases rx
  have hn := line63
  rcases hq with hq | hq
  · obtain ⟨its, r', pl, hz⟩ := I.list hq
    have hlen := r'.length
    exact Calls.call_len_list pl.isList (by simp only [List.size_toArray] <;> omega) ⟨.int ys.length, H, I.tok _, ⟨s.toks + 1, by rw [List.size_toArray, hlen]⟩, q⟩
  · obtain ⟨its, r', pl, hz⟩ := I.tuple hq
    have hlen := r'.length
    exact len_tuple pl (by simp only [List.size_toArray] <;> omega) ⟨.int ys.length, H, I.tok _, ⟨s.toks + 1, by rw [List.size_toArray, hlen]⟩, q⟩
theorem call_len_str : CallR X (.builtin "len") (fun xs H Q => ∃ z, xs = [.str z] ∧ z.length ≤ sizeLine ∧ Q (.int z.length) H) := by
  intro pins s σ H xs us Q I r h
  obtain ⟨z, rfl, hz, q⟩ := h
  obtain ⟨u, rfl, t, rfl⟩ := vals1 r
  have hn := line63
  exact len_str (by omega) ⟨.int z.length, H, I.tok _, ⟨_, rfl⟩, q⟩
theorem CallR.or {f : Value} {r r' : List V → Hp → VK → Prop} (h : CallR X f r) (h' : CallR X f r') : CallR X f (fun xs H Q => r xs H Q ∨ r' xs H Q) := by
  intro pins s σ H xs us Q I rs q
  rcases q with q | q
  · exact h pins s σ H xs us Q I rs q
  · exact h' pins s σ H xs us Q I rs q
theorem call_list_of : CallR X (.type "list") (fun xs H Q => ∃ p ys, xs = [.ref p] ∧ (SqL X.K H p ys ∨ SqT X.K H p ys) ∧ ∀ l, H l = none → Q (.ref l) (upd H l (.lst ys))) := by
  intro pins s σ H xs us Q I r h
  obtain ⟨p, ys, rfl, hq, q⟩ := h
  obtain ⟨u, rfl, rx⟩ := vals1 r
  cases rx
  have fin : ∀ (its : List Value), Vals ys its → ys.length ≤ sizeLine → ∀ (h' : Heap) (c' : Nat), (∀ b o', s.heap.get? b = some o' → h'.get? b = some o') →
      h'.get? s.heap.objs.size = some { cls := .type "list", dict := none, data := .seq its.toArray c', slots := #[] } → EP X pins σ Q (.ref s.heap.objs.size) { s with heap := h' } := fun its r' hz h' c' kp e =>
    ⟨.ref s.heap.objs.size, _, I.laid (t' := s.toks) kp (Nat.le_refl _) (show ObjOk X.prog X.w _ h' _ (.lst ys) from ⟨hz, its, c', r', e⟩), rfl, q _ (I.hok.fresh (Nat.le_refl _))⟩
  rcases hq with hq | hq
  · obtain ⟨its, r', pl, hz⟩ := I.list hq
    have hlen := r'.length
    obtain ⟨o, ho, hc, n, hd⟩ := pl.isList
    exact call_list_seq p (.inl rfl) ho hc hd (fun h' c' kp e => fin its r' hz h' c' kp e) (by simp only [List.size_toArray] <;> omega)
  · obtain ⟨its, r', pl, hz⟩ := I.tuple hq
    have hlen := r'.length
    obtain ⟨o, ho, hc, n, hd⟩ := pl
    exact call_list_seq p (.inr rfl) ho hc hd (fun h' c' kp e => fin its r' hz h' c' kp e) (by simp only [List.size_toArray] <;> omega)
def tyV (K : PySem.W.Frag) (T : String) (x : V) (H : Hp) : Prop := match x with
  | .str _ => T = "str"
  | .int _ => T = "int"
  | .ref p => (T = "list" ∧ ∃ xs, SqL K H p xs) ∨ (T = "tuple" ∧ ∃ o, K.lookup p = some o ∧ o.cls = .type "tuple" ∧ o.dict = none) ∨
      (T = "dict" ∧ ((∃ kvs, H p = some (.dK kvs)) ∨ ∃ kvs, H p = some (.dT kvs))) ∨ (T = "set" ∧ ∃ S n, H p = some (.set S n))
  | _ => False
theorem tyV_is {pins : List (Addr × Obj)} {σ : St} {H : Hp} {s : Shared} {T : String} {x : V} {v : Value} (I : Inv X pins σ H s) (r : RelV x v) (ty : tyV X.K T x H) :
    s.TypeIs v T ∧ ∀ a, v = .ref a → ∃ ob, s.heap.get? a = some ob ∧ ob.dict = none := by
  cases x with
  | str z =>
    obtain ⟨t, rfl⟩ := r
    cases (show T = "str" from ty)
    exact ⟨typeIs_str s z t, fun _ e => nomatch e⟩
  | int i =>
    obtain ⟨t, rfl⟩ := r
    cases (show T = "int" from ty)
    exact ⟨typeIs_int s i t, fun _ e => nomatch e⟩
  | ref p =>
    cases r
    rcases ty with ⟨rfl, xs, hq⟩ | ⟨rfl, o, hk, hc, hd⟩ | ⟨rfl, hk⟩ | ⟨rfl, S, n, hk⟩
    · obtain ⟨its, _, pl, _⟩ := I.list hq
      refine ⟨pl.isList.typeIs, fun a e => ?_⟩
      cases e
      obtain ⟨o, n, e, c, hd, _⟩ := pl
      exact ⟨o, e, hd⟩
    · refine ⟨⟨o, I.kIn p o hk, hc⟩, fun a e => ?_⟩
      cases e
      exact ⟨o, I.kIn _ o hk, hd⟩
    · have z : ∃ o, s.heap.get? p = some o ∧ o.ExactDict := by
        rcases hk with ⟨kvs, hk⟩ | ⟨kvs, hk⟩
        · obtain ⟨_, _, _, _, o, _, _, e, ex, _⟩ := I.hok p _ hk
          exact ⟨o, e, ex⟩
        · obtain ⟨_, _, _, _, o, _, _, e, ex, _⟩ := I.hok p _ hk
          exact ⟨o, e, ex⟩
      obtain ⟨o, e, ex⟩ := z
      refine ⟨⟨o, e, ex.1⟩, fun a e2 => ?_⟩
      cases e2
      exact ⟨o, e, ex.2.1⟩
    · obtain ⟨o, _, _, _, e, ex, _⟩ := I.hok p _ hk
      refine ⟨⟨o, e, ex.1⟩, fun a e2 => ?_⟩
      cases e2
      exact ⟨o, e, ex.2.1⟩
  | _ => exact False.elim ty
def tBM0 (K : PySem.W.Frag) (T : String) (r : V → List V → Hp → VK → Prop) (to : TE) : TE := fun σ H Q => to σ H fun x H1 => tyV K T x H1 ∧ r x [] H1 Q
def tBM (K : PySem.W.Frag) (T : String) (r : V → List V → Hp → VK → Prop) (to : TE) (t : TA) : TE := fun σ H Q => to σ H fun x H1 => tyV K T x H1 ∧ t σ H1 fun xs H2 => r x xs H2 Q
variable {o e : Expr} {es : List Expr} {to : TE} {t : TA} {name : Str} {apos cpos : Pos} {T id : String} {r : V → List V → Hp → VK → Prop}
theorem pe_bm (pa : PlainAttrs T) (slot : Slot T name id) (hty : typeOf (.builtin id) = pure (.type "method_descriptor")) (hm : MtR X id r) (ho : PE X o to) (ha : PA X (e :: es) t)
    (hbase : attributeBase o name X.env (eval o X.env) = eval o X.env := by rfl)
    (hfew : ((backTo cpos (starEach (e :: es) X.env)).all (fun x => !x.1) && (backToKw cpos (keywordEach [] X.env)).all (fun x => x.1.isSome)
      && decide ((e :: es).length + ([] : List Keyword).length + (if ([] : List Keyword).isEmpty then 0 else 1) < 30)) = true := by rfl)
    (hline : (apos.endLine == cpos.line) = true := by rfl) (hs : starEach (e :: es) X.env = (false, eval e X.env) :: starEach es X.env := by rfl) (hplain : (backTo cpos (starEach es X.env)).any (·.1) = false := by rfl) :
    PE X (.Call (.Attribute o name apos) (e :: es) [] cpos) (tBM X.K T r to t) := by
  intro pins s σ H Q I h
  refine wpAny_Call_method_late hbase hfew hline rfl (thn (ho pins s σ H _ I h) fun v s1 ⟨x, H1, I1, r1, ty, q1⟩ => ?_)
  obtain ⟨h1, h2⟩ := tyV_is I1 r1 ty
  refine ⟨T, id, pa, slot, hty, h1, h2, ?_⟩
  have hA := ha cpos pins s1 σ H1 _ I1 q1
  rw [hs] at hA ⊢
  refine Calls.callWith_builtin (by show (false || (backTo cpos (starEach es X.env)).any (·.1)) = false; rw [hplain] <;> rfl) (Calls.evalArgs_plain ?_)
  exact thn hA fun us s2 ⟨vs, H2, I2, r2, q2⟩ => hm pins s2 σ H2 x vs v us Q I2 r1 r2 q2
end
end L2
namespace L2
open PySem PySem.Spec PyProof.Rows
def MtM (X : Cx) (id : String) (r : V → List V → Hp → VK → Prop) : Prop :=
  ∀ (pins : List (Addr × Obj)) (s : Shared) (σ : St) (H : Hp) (x : V) (xs : List V) (v : Value) (us : List Value) (Q : VK), Inv X pins σ H s → RelV x v → Vals xs us → r x xs H Q →
    wpAny (model X.prog X.w) X.A (call (.builtin id) (v :: us)) (EP X pins σ Q) X.xe s
theorem Vals.one : ∀ {x : V} {us : List Value}, Vals [x] us → ∃ u, us = [u] ∧ RelV x u
  | _, _, .cons r .nil => ⟨_, rfl, r⟩
theorem Vals.zero : ∀ {us : List Value}, Vals [] us → us = []
  | _, .nil => rfl
theorem Vals.reverse {xs : List V} {us : List Value} (h : Vals xs us) : Vals xs.reverse us.reverse := by
  induction h with
  | nil => exact .nil
  | cons r t ih => rw [List.reverse_cons, List.reverse_cons]; exact Vals.append ih (.cons r .nil)
section
variable {X : Cx} {pins : List (Addr × Obj)} {σ : St} {H : Hp} {s : Shared} {l b : Addr} {xs ys zs : List V}
theorem Inv.lset {its its' : List Value} {n : Nat} {f : Array Value → Array Value} {t' : Nat} (I : Inv X pins σ H s) (hH : H l = some (.lst xs))
    (e : s.heap.get? l = some { cls := .type "list", data := .seq its.toArray n }) (hf : f its.toArray = its'.toArray) (hv : Vals ys its') (hz : ys.length ≤ sizeLine) :
    Inv X pins σ (upd H l (.lst ys)) { s with heap := s.heap.update l (Obj.mapSeq f), toks := t' } := by
  have q := PySem.IsL.update e f
  rw [hf] at q
  refine I.write (x := l) (e := l) (by rw [hH]; exact trivial) (.inl rfl) (fun b' u hb hu => (Heap.get?_update_other s.heap (Obj.mapSeq f) (Ne.symm hb)).trans hu) ⟨_, q⟩ ?_
  exact ⟨hz, its', _, hv, q⟩
theorem Inv.lnew {its : List Value} {t' : Nat} (I : Inv X pins σ H s) (hv : Vals ys its) (hz : ys.length ≤ sizeLine) :
    Inv X pins σ (upd H s.heap.objs.size (.lst ys)) { s with heap := s.heap.push { cls := .type "list", data := .seq its.toArray }, toks := t' } :=
  I.laid (fun _ _ q => Heap.get?_push_of_some _ q) (Nat.le_refl _) ⟨hz, its, 0, hv, Heap.get?_push_size _ rfl⟩
theorem Inv.fresh (I : Inv X pins σ H s) : H s.heap.objs.size = none := I.hok.fresh (Nat.le_refl _)
theorem Inv.lstM (I : Inv X pins σ H s) (hH : H l = some (.lst xs)) : xs.length ≤ sizeLine ∧ ∃ (its : List Value) (n : Nat), Vals xs its ∧ xs.length = its.length ∧ s.heap.get? l = some { cls := .type "list", data := .seq its.toArray n } := by
  obtain ⟨z, its, n, r, e⟩ := I.hok l _ hH
  exact ⟨z, its, n, r, r.length, e⟩
theorem notLongL {n : Nat} (h : n ≤ sizeLine) : Builtin.List.listTooLong n = false := by
  unfold Builtin.List.listTooLong
  exact decide_eq_false (by omega)
end
section
variable {X : Cx}
def rAppend : V → List V → Hp → VK → Prop := fun x vs H Q => ∃ l xs y, x = .ref l ∧ vs = [y] ∧ H l = some (.lst xs) ∧ xs.length < sizeLine ∧ Q .non (upd H l (.lst (xs ++ [y])))
theorem mt_append : MtM X "list.append" rAppend := by
  intro pins s σ H x vs v us Q I rx rv h
  obtain ⟨l, xs, y, rfl, rfl, hH, hz, q⟩ := h
  cases rx
  obtain ⟨u, rfl, ru⟩ := rv.one
  obtain ⟨z, its, n, r, hl, e⟩ := I.lstM hH
  refine call_meets F.slot_list_append ⟨_, e, rfl⟩ F.entry_list_append (F.args_list_append_2 _ _) (PySem.list_append l its.toArray n u (by rw [List.size_toArray]; omega)) ⟨e, ?_⟩
  refine ⟨.non, _, I.lset (its' := its ++ [u]) hH e (by simp) (r.append (.cons ru .nil)) ?_, rfl, q⟩
  rw [List.length_append, List.length_singleton]
  omega
def rExtend : V → List V → Hp → VK → Prop := fun x vs H Q => ∃ l b xs zs, x = .ref l ∧ vs = [.ref b] ∧ H l = some (.lst xs) ∧ H b = some (.lst zs) ∧ xs.length + zs.length ≤ sizeLine ∧ Q .non (upd H l (.lst (xs ++ zs)))
theorem mt_extend : MtM X "list.extend" rExtend := by
  intro pins s σ H x vs v us Q I rx rv h
  obtain ⟨l, b, xs, zs, rfl, rfl, hH, hB, hz, q⟩ := h
  cases rx
  obtain ⟨u, rfl, ru⟩ := rv.one
  cases ru
  obtain ⟨z, its, n, r, hl, e⟩ := I.lstM hH
  obtain ⟨z2, its2, n2, r2, hl2, e2⟩ := I.lstM hB
  have hsz : its.toArray.size + its2.toArray.size ≤ sizeLine := by rw [List.size_toArray, List.size_toArray]; omega
  have hlong : ¬ (!its.toArray.isEmpty && Builtin.List.listTooLong (its.toArray.size + its2.toArray.size)) = true := by
    rw [notLongL hsz, Bool.and_false]
    exact Bool.false_ne_true
  refine call_meets F.slot_list_extend ⟨_, e, rfl⟩ F.entry_list_extend (F.args_list_extend_2 _ _)
    (AutoSeq1.list_extend_list_list_0 l its.toArray n b its2.toArray n2 hlong (by rw [List.size_toArray]; omega) (by omega)) ⟨e, e2, ?_⟩
  refine ⟨.non, _, I.lset (its' := its ++ its2) hH e (by simp) (r.append r2) ?_, rfl, q⟩
  rw [List.length_append]
  omega
end
section
variable {prog : Program} {w : World} {A : Around} {E : Value → Shared → Prop} {s : Shared}
end
section
variable {X : Cx}
end
end L2
namespace L2
open PySem PySem.Spec PyProof.Rows
section
variable {κ : Type} [DecidableEq κ]
def valV (kvs : List (κ × V)) (k : κ) : Option V := (kvs.find? fun kv => decide (kv.1 = k)).map (·.2)
def putK (kvs : List (κ × V)) (k : κ) (v : V) : List (κ × V) :=
  if (kvs.any fun kv => decide (kv.1 = k)) = true then kvs.map (fun kv => if kv.1 = k then (kv.1, v) else kv) else kvs ++ [(k, v)]
def dropK (kvs : List (κ × V)) (k : κ) : List (κ × V) := kvs.filter fun kv => decide (kv.1 ≠ k)
theorem valV_pos {p : κ × V} {r : List (κ × V)} {k : κ} (e : p.1 = k) : valV (p :: r) k = some p.2 := by simp [valV, List.find?_cons, e]
theorem valV_neg {p : κ × V} {r : List (κ × V)} {k : κ} (e : ¬ p.1 = k) : valV (p :: r) k = valV r k := by simp [valV, List.find?_cons, e]
theorem valV_any (k : κ) : ∀ kvs : List (κ × V), (kvs.any fun kv => decide (kv.1 = k)) = (valV kvs k).isSome
  | [] => rfl
  | p :: r => by
    rw [List.any_cons]
    by_cases e : p.1 = k
    · simp only [valV_pos e, decide_eq_true e, Bool.true_or, Option.isSome_some]
    · rw [valV_neg e, decide_eq_false e, Bool.false_or]; exact valV_any k r
theorem length_putK (kvs : List (κ × V)) (k : κ) (v : V) : (putK kvs k v).length ≤ kvs.length + 1 := by
  unfold putK
  split
  · rw [List.length_map]; omega
  · rw [List.length_append, List.length_cons, List.length_nil]; omega
theorem RelO.isSome_eq {o : Option V} {u : Option Value} (r : RelO o u) : o.isSome = u.isSome := by
  cases o with
  | none => cases u with
    | none => rfl
    | some _ => exact (show False from r).elim
  | some _ => cases u with
    | none => exact (show False from r).elim
    | some _ => rfl
theorem RelO.getD {o : Option V} {u : Option Value} {d : V} {d' : Value} (r : RelO o u) (rd : RelV d d') : RelV (o.getD d) (u.getD d') := by
  cases o with
  | none => cases u with
    | none => exact rd
    | some _ => exact (show False from r).elim
  | some _ => cases u with
    | none => exact (show False from r).elim
    | some _ => exact r
theorem KV.val {kvs : List (κ × V)} {vs : List (κ × Value)} (r : KV kvs vs) (k : κ) : RelO (valV kvs k) (valueAt vs k) := by
  unfold KV at r
  induction r with
  | nil => exact True.intro
  | @cons p q ps qs h t ih =>
    obtain ⟨h1, h2⟩ := h
    by_cases e : p.1 = k
    · have e' : q.1 = k := h1.symm.trans e
      have b : valueAt (q :: qs) k = some q.2 := by simp [valueAt, List.find?_cons, e']
      rw [valV_pos e, b]; exact h2
    · have e' : ¬ q.1 = k := fun z => e (h1.trans z)
      have b : valueAt (q :: qs) k = valueAt qs k := by simp [valueAt, List.find?_cons, e']
      rw [valV_neg e, b]; exact ih
theorem KV.any {kvs : List (κ × V)} {vs : List (κ × Value)} (r : KV kvs vs) (k : κ) : (kvs.any fun kv => decide (kv.1 = k)) = vs.any fun kv => decide (kv.1 = k) := by
  unfold KV at r
  induction r with
  | nil => rfl
  | cons h t ih => rw [List.any_cons, List.any_cons, ih, h.1]
theorem KV.repl {kvs : List (κ × V)} {vs : List (κ × Value)} (r : KV kvs vs) (k : κ) {y : V} {u : Value} (ry : RelV y u) :
    KV (kvs.map fun kv => if kv.1 = k then (kv.1, y) else kv) (vs.map fun kv => if kv.1 = k then (kv.1, u) else kv) := by
  unfold KV at r ⊢
  induction r with
  | nil => exact .nil
  | @cons p q ps qs h t ih =>
    rw [List.map_cons, List.map_cons]
    refine .cons ?_ ih
    obtain ⟨h1, h2⟩ := h
    by_cases e : p.1 = k
    · rw [if_pos e, if_pos (h1.symm.trans e)]; exact ⟨h1, ry⟩
    · rw [if_neg e, if_neg (fun z => e (h1.trans z))]; exact ⟨h1, h2⟩
theorem KV.put {kvs : List (κ × V)} {vs : List (κ × Value)} (r : KV kvs vs) (k : κ) {y : V} {u : Value} (ry : RelV y u) : KV (putK kvs k y) (stored vs k u) := by
  unfold putK stored
  rw [r.any k]
  by_cases e : (vs.any fun kv => decide (kv.1 = k)) = true
  · rw [if_pos e, if_pos e]; exact r.repl k ry
  · rw [if_neg e, if_neg e]; exact Paired.snoc r ⟨rfl, ry⟩
theorem KV.drop {kvs : List (κ × V)} {vs : List (κ × Value)} (r : KV kvs vs) (k : κ) : KV (dropK kvs k) (without vs k) := by
  unfold KV at r ⊢
  unfold dropK without
  induction r with
  | nil => exact .nil
  | @cons p q ps qs h t ih =>
    obtain ⟨h1, h2⟩ := h
    rw [List.filter_cons, List.filter_cons]
    by_cases e : p.1 = k
    · have a : ¬ decide (p.1 ≠ k) = true := by simp [e]
      have b : ¬ decide (q.1 ≠ k) = true := by simp [h1.symm.trans e]
      rw [if_neg a, if_neg b]; exact ih
    · have e' : ¬ q.1 = k := fun z => e (h1.trans z)
      have a : decide (p.1 ≠ k) = true := by simp [e]
      have b : decide (q.1 ≠ k) = true := by simp [e']
      rw [if_pos a, if_pos b]; exact .cons ⟨h1, h2⟩ ih
theorem KV.keys {kvs : List (κ × V)} {vs : List (κ × Value)} (r : KV kvs vs) : kvs.map (·.1) = vs.map (·.1) := by
  unfold KV at r
  induction r with
  | nil => rfl
  | cons h t ih => rw [List.map_cons, List.map_cons, ih, h.1]
theorem KV.length {kvs : List (κ × V)} {vs : List (κ × Value)} (r : KV kvs vs) : kvs.length = vs.length := Paired.length r
end
theorem kV_is {P : Program} {w : World} {k : Key} {u : Value} (r : RelV (kV k) u) : (mixKind P w).is k u = true := by
  cases k with
  | inl i => obtain ⟨t, e⟩ := (show ∃ t, u = Value.int i t from r); subst e; exact mixKind_int P w i t
  | inr x => obtain ⟨t, e⟩ := (show ∃ t, u = Value.str x t from r); subst e; exact mixKind_str P w x t
theorem items_are {P : Program} {w : World} : ∀ {ks : List Key} {us : List Value}, Vals (ks.map kV) us → ItemsAre (mixKind P w) ks us
  | [], _, r => by rw [List.map_nil] at r; cases r; exact .nil
  | k :: ks, _, r => by
    rw [List.map_cons] at r
    cases r with
    | cons h t => exact .cons (kV_is h) (items_are t)
abbrev KT (H : Hp) : List (List Key × V) → List (List Key × Addr × Value) → Prop := Paired fun p q => p.1 = q.1 ∧ H q.2.1 = some (.tup (p.1.map kV)) ∧ RelV p.2 q.2.2
theorem KT.val {H : Hp} {kvs : List (List Key × V)} {xs : List (List Key × Addr × Value)} (r : KT H kvs xs) (k : List Key) : RelO (valV kvs k) ((atKey xs k).map (·.2)) := by
  induction r with
  | nil => exact True.intro
  | @cons p q ps qs h t ih =>
    obtain ⟨h1, _, h2⟩ := h
    by_cases e : p.1 = k
    · have e' : q.1 = k := h1.symm.trans e
      have b : atKey (q :: qs) k = some q.2 := by simp [atKey, List.find?_cons, e']
      rw [valV_pos e, b]; exact h2
    · have e' : ¬ q.1 = k := fun z => e (h1.trans z)
      have b : atKey (q :: qs) k = atKey qs k := by simp [atKey, List.find?_cons, e']
      rw [valV_neg e, b]; exact ih
theorem KT.repl {H : Hp} {kvs : List (List Key × V)} {xs : List (List Key × Addr × Value)} (r : KT H kvs xs) (k : List Key) {y : V} {u : Value} (ry : RelV y u) :
    KT H (kvs.map fun kv => if kv.1 = k then (kv.1, y) else kv) (xs.map (putAt k u)) := by
  induction r with
  | nil => exact .nil
  | @cons p q ps qs h t ih =>
    rw [List.map_cons, List.map_cons]
    refine .cons ?_ ih
    obtain ⟨h1, h2, h3⟩ := h
    unfold putAt
    by_cases e : p.1 = k
    · rw [if_pos e, if_pos (h1.symm.trans e)]; exact ⟨h1, h2, ry⟩
    · rw [if_neg e, if_neg (fun z => e (h1.trans z))]; exact ⟨h1, h2, h3⟩
theorem KT.put {H : Hp} {kvs : List (List Key × V)} {xs : List (List Key × Addr × Value)} (r : KT H kvs xs) (k : List Key) {b : Addr} {y : V} {u : Value} (hb : H b = some (.tup (k.map kV))) (ry : RelV y u) :
    KT H (putK kvs k y) (storedH xs k b u) := by
  have e : (kvs.any fun kv => decide (kv.1 = k)) = (atKey xs k).isSome := by
    rw [valV_any, (r.val k).isSome_eq, Option.isSome_map]
  unfold putK storedH
  rw [e]
  by_cases q : (atKey xs k).isSome = true
  · rw [if_pos q, if_pos q]; exact r.repl k ry
  · rw [if_neg q, if_neg q]; exact Paired.snoc r ⟨rfl, hb, ry⟩
theorem KT.keeps {H H' : Hp} {kvs : List (List Key × V)} {xs : List (List Key × Addr × Value)} (r : KT H kvs xs) (ht : ∀ b ys, H b = some (.tup ys) → H' b = some (.tup ys)) : KT H' kvs xs :=
  Paired.mapP r fun _ _ z => ⟨z.1, ht _ _ z.2.1, z.2.2⟩
section
variable {P : Program} {w : World} {H : Hp} {h : Heap} {a : Addr}
theorem rd_of {u : HO} (ok : HOk P w H h) (e : Rd H a u) : ObjOk P w H h a u := e.ok ok
theorem dk_rd {kvs : List (Key × V)} (ok : HOk P w H h) (e : Rd H a (.dK kvs)) : kvs.length ≤ sizeLine ∧ (a == sysModules) = false ∧ ∃ vs, KV kvs vs ∧ h.DictOf (mixKind P w) a vs :=
  show ObjOk P w H h a (.dK kvs) from rd_of ok e
theorem dk_of {kvs : List (Key × V)} (ok : HOk P w H h) (e : H a = some (.dK kvs)) : kvs.length ≤ sizeLine ∧ (a == sysModules) = false ∧ ∃ vs, KV kvs vs ∧ h.DictOf (mixKind P w) a vs := dk_rd ok (.inl e)
theorem key_of {ks : List Key} (ok : HOk P w H h) (e : H a = some (.tup (ks.map kV))) : (tupleKind (mixKind P w)).is h ks a := by
  obtain ⟨_, its, r, o, h1, h2, n, h3⟩ := (show ObjOk P w H h a (.tup (ks.map kV)) from ok a _ e)
  exact ⟨o, its.toArray, n, h1, h2, h3, by simpa using items_are r⟩
theorem dt_rd {kvs : List (List Key × V)} (ok : HOk P w H h) (e : Rd H a (.dT kvs)) : kvs.length ≤ sizeLine ∧ (a == sysModules) = false ∧
    ∃ xs, KT H kvs xs ∧ h.DictOfH (tupleKind (mixKind P w)) a xs := by
  obtain ⟨z, y, xs, r, o, es, ep, h1, h2, h3, h4, h5⟩ := (show ObjOk P w H h a (.dT kvs) from rd_of ok e)
  refine ⟨z, y, xs, r, o, es, ep, h1, h2, h3, h4, fun x hx => ?_, h5⟩
  have all : ∀ {l : List (List Key × V)} {m : List (List Key × Addr × Value)}, KT H l m → ∀ x ∈ m, (tupleKind (mixKind P w)).is h x.1 x.2.1 := by
    intro l m q
    induction q with
    | nil => intro x hx; exact nomatch hx
    | @cons p q ps qs hq t ih =>
      intro x hx
      rcases List.mem_cons.mp hx with e | hx
      · subst e
        exact key_of ok (by rw [← hq.1]; exact hq.2.1)
      · exact ih x hx
  exact all r x hx
theorem dt_of {kvs : List (List Key × V)} (ok : HOk P w H h) (e : H a = some (.dT kvs)) : kvs.length ≤ sizeLine ∧ (a == sysModules) = false ∧
    ∃ xs, KT H kvs xs ∧ h.DictOfH (tupleKind (mixKind P w)) a xs := dt_rd ok (.inl e)
end
def DGet (H : Hp) (a : Addr) (y : V) (r : Option V) : Prop :=
  (∃ kvs k, Rd H a (.dK kvs) ∧ y = kV k ∧ r = valV kvs k) ∨ ∃ kvs k b, Rd H a (.dT kvs) ∧ y = .ref b ∧ H b = some (.tup (k.map kV)) ∧ r = valV kvs k
def DPut (H : Hp) (a : Addr) (y v : V) (H' : Hp) : Prop :=
  (∃ kvs k, H a = some (.dK kvs) ∧ y = kV k ∧ kvs.length < sizeLine ∧ H' = upd H a (.dK (putK kvs k v))) ∨
  ∃ kvs k b, H a = some (.dT kvs) ∧ y = .ref b ∧ H b = some (.tup (k.map kV)) ∧ kvs.length < sizeLine ∧ H' = upd H a (.dT (putK kvs k v))
theorem DGet.k {H : Hp} {a : Addr} {kvs : List (Key × V)} {k : Key} (e : H a = some (.dK kvs)) : DGet H a (kV k) (valV kvs k) := .inl ⟨kvs, k, .inl e, rfl, rfl⟩
theorem DGet.t {H : Hp} {a b : Addr} {kvs : List (List Key × V)} {k : List Key} (e : H a = some (.dT kvs)) (eb : H b = some (.tup (k.map kV))) : DGet H a (.ref b) (valV kvs k) := .inr ⟨kvs, k, b, .inl e, rfl, eb, rfl⟩
theorem DPut.k {H : Hp} {a : Addr} {kvs : List (Key × V)} {k : Key} {v : V} (e : H a = some (.dK kvs)) (hl : kvs.length < sizeLine) : DPut H a (kV k) v (upd H a (.dK (putK kvs k v))) := .inl ⟨kvs, k, e, rfl, hl, rfl⟩
theorem DPut.t {H : Hp} {a b : Addr} {kvs : List (List Key × V)} {k : List Key} {v : V} (e : H a = some (.dT kvs)) (eb : H b = some (.tup (k.map kV))) (hl : kvs.length < sizeLine) :
    DPut H a (.ref b) v (upd H a (.dT (putK kvs k v))) := .inr ⟨kvs, k, b, e, rfl, eb, hl, rfl⟩
section
variable {X : Cx} {pins : List (Addr × Obj)} {σ : St} {H : Hp} {s : Shared} {a : Addr} {y v : V} {u r : Value} {o : Option V} {A : Around} {E : Value → Shared → Prop}
theorem Inv.big (I : Inv X pins σ H s) : sysModules < s.heap.objs.size := by
  have h : mainGlobals < s.heap.objs.size := (I.mod.glob.keeps I.bk).lt
  exact Nat.lt_trans (by decide) h
theorem d_getItem {Q : Value → Shared → Prop} (hu : A.units + 1 < cLine) (I : Inv X pins σ H s) (g : DGet H a y (some v)) (ry : RelV y u) (h : ∀ w' s', Inv X pins σ H s' → RelV v w' → Q w' s') :
    wpAny (model X.prog X.w) A (getItem (.ref a) u) Q E s := by
  rcases g with ⟨kvs, k, e, ey, l⟩ | ⟨kvs, k, b, e, ey, eb, l⟩
  · subst ey
    obtain ⟨z, hd, vs, rel, dd⟩ := dk_rd I.hok e
    obtain ⟨w', hw, rw'⟩ := RelO.some_of (v := v) (o := valueAt vs k) (by rw [l]; exact rel.val k)
    exact wpAny_getItem_of (kV_is ry) dd.mapOf hw (h w' _ (I.tok _) rw')
  · subst ey
    cases (show u = Value.ref b from ry)
    obtain ⟨z, hd, xs, rel, dd⟩ := dt_rd I.hok e
    obtain ⟨w', hw, rw'⟩ := RelO.some_of (v := v) (o := (atKey xs k).map (·.2)) (by rw [l]; exact rel.val k)
    obtain ⟨p, hp, hp2⟩ := Option.map_eq_some_iff.mp hw
    refine wpAny_getItem_heap (tupleKind_room_in1 hu) (key_of I.hok eb) dd hp ?_
    rw [hp2]
    exact h w' _ (I.tok _) rw'
theorem d_in {Q : Value → Shared → Prop} (hu : A.units + 1 < cLine) (I : Inv X pins σ H s) (g : DGet H a y o) (ry : RelV y u) (h : ∀ s', Inv X pins σ H s' → Q (.bool o.isSome) s') :
    wpAny (model X.prog X.w) A (compareOp .In u (.ref a)) Q E s := by
  rcases g with ⟨kvs, k, e, ey, l⟩ | ⟨kvs, k, b, e, ey, eb, l⟩
  · subst ey
    obtain ⟨z, hd, vs, rel, dd⟩ := dk_rd I.hok e
    refine wpAny_in_of (kV_is ry) hd dd.mapOf ?_
    rw [← (rel.val k).isSome_eq, ← l]
    exact h _ (I.tok _)
  · subst ey
    cases (show u = Value.ref b from ry)
    obtain ⟨z, hd, xs, rel, dd⟩ := dt_rd I.hok e
    refine wpAny_in_heap (tupleKind_room_in1 hu) (key_of I.hok eb) hd dd ?_
    have q := (rel.val k).isSome_eq
    rw [Option.isSome_map] at q
    rw [← q, ← l]
    exact h _ (I.tok _)
theorem d_write {h' : Heap} {t' : Nat} {ob : HO} (I : Inv X pins σ H s) (mu : Mut (H a)) (hs : Heap.SameBut a s.heap h') (he : ∃ q, h'.get? a = some q) (new : ObjOk X.prog X.w (upd H a ob) h' a ob) :
    Inv X pins σ (upd H a ob) { s with heap := h', toks := t' } :=
  I.write (x := a) (e := a) mu (.inl rfl) (fun b q hb z => (hs.2 b hb).trans z) he new
theorem dk_new {P : Program} {w : World} {H' : Hp} {h' : Heap} {kvs : List (Key × V)} {vs : List (Key × Value)} (z : kvs.length ≤ sizeLine) (hd : (a == sysModules) = false) (rel : KV kvs vs) (dd : h'.DictOf (mixKind P w) a vs) :
    ObjOk P w H' h' a (.dK kvs) := ⟨z, hd, vs, rel, dd⟩
theorem d_setItem {H' : Hp} {Q : Unit → Shared → Prop} (hu : A.units + 1 < cLine) (I : Inv X pins σ H s) (g : DPut H a y v H') (ry : RelV y u) (rv : RelV v r) (h : ∀ s', Inv X pins σ H' s' → Q () s') :
    wpAny (model X.prog X.w) A (setItem (.ref a) u r) Q E s := by
  rcases g with ⟨kvs, k, e, ey, l, eH⟩ | ⟨kvs, k, b, e, ey, eb, l, eH⟩
  · subst ey eH
    obtain ⟨z, hd, vs, rel, dd⟩ := dk_of I.hok e
    have hz : vs.length ≤ sizeLine := by rw [← rel.length]; exact z
    have hl : (putK kvs k v).length ≤ sizeLine := by have := length_putK kvs k v; omega
    refine wpAny_setItem_pairs (hsz := hz) (kV_is ry) dd fun h' dd' hs => h _ ?_
    have he : ∃ q, h'.get? a = some q := let ⟨q, _, _, hq, _⟩ := dd'; ⟨q, hq⟩
    exact d_write I (by rw [e]; exact True.intro) hs he (dk_new hl hd (rel.put k rv) dd')
  · subst ey eH
    cases (show u = Value.ref b from ry)
    obtain ⟨z, hd, xs, rel, dd⟩ := dt_of I.hok e
    have hz : xs.length ≤ sizeLine := by rw [← Paired.length rel]; exact z
    have hl : (putK kvs k v).length ≤ sizeLine := by have := length_putK kvs k v; omega
    refine wpAny_setItem_heap (hsz := hz) (tupleKind_room_in1 hu) (key_of I.hok eb) dd fun h' dd' hs => h _ ?_
    obtain ⟨q, es, ep, hq, h2, h3, h4, _, h5⟩ := dd'
    refine d_write I (by rw [e]; exact True.intro) hs ⟨q, hq⟩ ⟨hl, hd, _, (rel.put k eb rv).keeps fun c ys ec => ?_, q, es, ep, hq, h2, h3, h4, h5⟩
    rw [upd_ne (ne_of ec e (fun z => nomatch z))]
    exact ec
end
section
variable {X : Cx} {pins : List (Addr × Obj)} {σ : St} {H : Hp} {s : Shared} {a : Addr} {kvs : List (Key × V)} {k : Key} {u : Value} {A : Around} {E : Value → Shared → Prop}
theorem d_len {Q : Value → Shared → Prop} (I : Inv X pins σ H s) (e : Rd H a (.dK kvs)) (h : ∀ t s', Inv X pins σ H s' → Q (.int kvs.length t) s') : wpAny (model X.prog X.w) A (call (.builtin "len") [.ref a]) Q E s := by
  obtain ⟨z, hd, vs, rel, dd⟩ := dk_rd I.hok e
  refine call_len_dict hd dd (by rw [← rel.length]; rw [sizeLine_eq] at z; omega) ?_
  rw [← rel.length]
  exact h _ _ (I.tok _)
end
def NoSl (i : Expr) : Prop := ∀ ov iv, subscripted i false ov iv = operate [ov, iv] (getItem ov iv)
theorem subD_of {prog : Program} {w : World} {A : Around} {E : Value → Shared → Prop} {s : Shared} {env : Env} {value slice : Expr} {pos : Pos} {T id : String} {Q : Value → Shared → Prop}
    (hl : typeLookup (.type T) "__getitem__" = pure (some (.builtin id))) (hs : NoSl slice)
    (h : wpAny (model prog w) A (eval value env) (fun o s₁ => wpAny (model prog w) A (eval slice env) (fun i s₂ => s₂.TypeIs o T ∧ wpAny (model prog w) A (getItem o i) Q E s₂) E s₁) E s) :
    wpAny (model prog w) A (eval (.Subscript value slice pos) env) Q E s := by
  refine Subscript_ (wpAny_mono h (fun o s₁ h₁ => wpAny_mono h₁ (fun i s₂ h₂ => ?_) fun _ _ x => x) fun _ _ x => x)
  obtain ⟨hT, h₂⟩ := h₂
  unfold subscriptTail
  refine wpAny_bind ?_
  rw [getitemInPython_of_ne hT.not_modules]
  refine wpAny_bind (wpAny_specialOf hT hl ?_)
  have fin : wpAny (model prog w) A (subscripted slice false o i) (fun r s₃ => wpAny (model prog w) A (letTemporaryGo value o r >>= fun _ => pure r) Q E s₃) E s₂ := by
    rw [hs o i]
    exact wpAny_operating (wpAny_mono h₂ (fun r s₃ h₃ => wpAny_bind (wpAny_letTemporaryGo (wpAny_pure h₃))) fun _ _ x => x)
  first
    | exact wpAny_pure (wpAny_bind fin)
    | exact wpAny_bind (wpAny_pure (wpAny_bind fin))
    | exact wpAny_bind fin
theorem dict_typeIs {X : Cx} {pins : List (Addr × Obj)} {σ : St} {H : Hp} {s : Shared} {a : Addr} {y : V} {o : Option V} (I : Inv X pins σ H s) (g : DGet H a y o) : s.TypeIs (.ref a) "dict" := by
  rcases g with ⟨kvs, k, e, _, _⟩ | ⟨kvs, k, b, e, _, _, _⟩
  · obtain ⟨_, _, vs, _, dd⟩ := dk_rd I.hok e
    exact dd.typeIs
  · obtain ⟨_, _, xs, _, dd⟩ := dt_rd I.hok e
    exact dd.typeIs
def tDGet (td ty : TE) : TE := fun σ H Q => td σ H fun x H1 => ty σ H1 fun y H2 => ∃ a v, x = .ref a ∧ DGet H2 a y (some v) ∧ Q v H2
def sDPut (td ty tv : TE) : TS := fun D σ H => tv σ H fun v H1 => td σ H1 fun x H2 => ty σ H2 fun y H3 => ∃ a H4, x = .ref a ∧ DPut H3 a y v H4 ∧ D.nx σ H4
section
variable {X : Cx} {o i e value : Expr} {pos pos' tpos : Pos} {td ty tv : TE}
theorem pe_dget (hu : X.A.units + 1 < cLine) (ho : PE X o td) (hi : PE X i ty) (hs : NoSl i) : PE X (.Subscript o i pos) (tDGet td ty) := by
  intro pins s σ H Q I h
  refine subD_of PySem.F.slot_dict_getitem.lookup hs (thn (ho pins s σ H _ I h) fun u s1 ⟨x, H1, I1, rx, q1⟩ => thn (hi pins s1 σ H1 _ I1 q1) fun iv s2 ⟨y, H2, I2, ry, a, v, ex, g, q2⟩ => ?_)
  subst ex
  obtain rfl : u = Value.ref a := rx
  exact ⟨dict_typeIs I2 g, d_getItem hu I2 g ry fun w' s3 I3 rw' => ⟨v, H2, I3, rw', q2⟩⟩
theorem ps_dput (hu : X.A.units + 1 < cLine) (ho : PE X o td) (hi : PE X i ty) (hv : PE X value tv) (hs : swapsWith value (some (.Subscript o i pos')) pos.line X.env = pure false) :
    PS X (.Assign [.Subscript o i pos'] value pos) (sDPut td ty tv) := by
  intro pins s σ H D I h
  refine wpAny_Assign_Subscript (thn (hv pins s σ H _ I h) fun r s1 ⟨v, H1, I1, rv, q1⟩ => thn (ho pins s1 σ H1 _ I1 q1) fun u s2 ⟨x, H2, I2, rx, q2⟩ => thn (hi pins s2 σ H2 _ I2 q2) fun iv s3 ⟨y, H3, I3, ry, a, H4, ex, g, q3⟩ => ?_) hs
  subst ex
  obtain rfl : u = Value.ref a := rx
  exact d_setItem hu I3 g ry rv fun s4 I4 => ⟨σ, H4, I4, q3⟩
end
theorem dk_empty {P : Program} {w : World} {H : Hp} (h : Heap) (hb : sysModules < h.objs.size) : ObjOk P w H (h.push { cls := .type "dict", data := .dict #[] }) h.objs.size (.dK []) :=
  ⟨Nat.zero_le _, beq_eq_false_iff_ne.mpr (Ne.symm (Nat.ne_of_lt hb)), [], .nil, Heap.DictOf.new h⟩
section
variable {X : Cx} {pos : Pos}
end
structure M1 (X : Cx) (o : Expr) (m : Str) (apos : Pos) (e : Expr) (cpos : Pos) : Prop where
  base : attributeBase o m X.env (eval o X.env) = eval o X.env
  few : ((backTo cpos (starEach [e] X.env)).all (fun x => !x.1) && (backToKw cpos (keywordEach [] X.env)).all (fun x => x.1.isSome)
    && decide (([e] : List Expr).length + ([] : List Keyword).length + (if ([] : List Keyword).isEmpty then 0 else 1) < 30)) = true
  line : (apos.endLine == cpos.line) = true
  trees : backTo cpos (starEach [e] X.env) = [(false, eval e X.env)]
structure M2 (X : Cx) (o : Expr) (m : Str) (apos : Pos) (e f : Expr) (cpos : Pos) : Prop where
  base : attributeBase o m X.env (eval o X.env) = eval o X.env
  few : ((backTo cpos (starEach [e, f] X.env)).all (fun x => !x.1) && (backToKw cpos (keywordEach [] X.env)).all (fun x => x.1.isSome)
    && decide (([e, f] : List Expr).length + ([] : List Keyword).length + (if ([] : List Keyword).isEmpty then 0 else 1) < 30)) = true
  line : (apos.endLine == cpos.line) = true
  trees : backTo cpos (starEach [e, f] X.env) = [(false, eval e X.env), (false, eval f X.env)]
def IsD (H : Hp) (a : Addr) : Prop := (∃ kvs, Rd H a (.dK kvs)) ∨ ∃ kvs, Rd H a (.dT kvs)
theorem isD_at {X : Cx} {pins : List (Addr × Obj)} {σ : St} {H : Hp} {s : Shared} {a : Addr} (I : Inv X pins σ H s) (d : IsD H a) :
    s.TypeIs (.ref a) "dict" ∧ (∀ b, Value.ref a = .ref b → ∃ ob, s.heap.get? b = some ob ∧ ob.dict = none) ∧ (a == sysModules) = false := by
  rcases d with ⟨kvs, e⟩ | ⟨kvs, e⟩
  · obtain ⟨_, hd, vs, _, dd⟩ := dk_rd I.hok e
    refine ⟨dd.typeIs, fun b q => ?_, hd⟩
    cases q
    obtain ⟨ob, _, _, h1, h2, _⟩ := dd
    exact ⟨ob, h1, h2.2.1⟩
  · obtain ⟨_, hd, xs, _, dd⟩ := dt_rd I.hok e
    refine ⟨dd.typeIs, fun b q => ?_, hd⟩
    cases q
    obtain ⟨ob, _, _, h1, h2, _⟩ := dd
    exact ⟨ob, h1, h2.2.1⟩
section
variable {X : Cx} {pins : List (Addr × Obj)} {σ : St} {H : Hp} {s : Shared} {a : Addr} {y d : V} {u r : Value} {o : Option V} {A : Around} {E : Value → Shared → Prop}
theorem d_get1 {Q : Value → Shared → Prop} (hu : A.units + 1 < cLine) (I : Inv X pins σ H s) (g : DGet H a y o) (ry : RelV y u) (h : ∀ w' s', Inv X pins σ H s' → RelV (o.getD .non) w' → Q w' s') :
    wpAny (model X.prog X.w) A (call (.builtin "dict.get") [.ref a, u]) Q E s := by
  rcases g with ⟨kvs, k, e, ey, l⟩ | ⟨kvs, k, b, e, ey, eb, l⟩
  · subst ey
    obtain ⟨z, hd, vs, rel, dd⟩ := dk_rd I.hok e
    refine call_meetsIn PySem.F.slot_dict_get dd.typeIs PySem.F.entry_dict_get (PySem.F.args_dict_get_2 _ _) (meets_dict_get (mixKind X.prog X.w) a (kV_is ry) hd) ⟨_, dd.mapOf, h _ _ (I.tok _) ?_⟩
    rw [l]
    exact (rel.val k).getD rfl
  · subst ey
    cases (show u = Value.ref b from ry)
    obtain ⟨z, hd, xs, rel, dd⟩ := dt_rd I.hok e
    refine call_meetsIn PySem.F.slot_dict_get dd.typeIs PySem.F.entry_dict_get (PySem.F.args_dict_get_2 _ _) (meetsH_dict_get (tupleKind (mixKind X.prog X.w)) a b hd) ⟨tupleKind_room_in1 hu, k, xs, key_of I.hok eb, dd, h _ _ (I.tok _) ?_⟩
    rw [l]
    exact (rel.val k).getD rfl
end
def tDGet1 (td ty : TE) : TE := fun σ H Q => td σ H fun x H1 => ∃ a, x = .ref a ∧ IsD H1 a ∧ ty σ H1 fun y H2 => ∃ o, DGet H2 a y o ∧ Q (o.getD .non) H2
section
variable {X : Cx} {o e f : Expr} {apos cpos : Pos} {td ty tx : TE}
theorem pe_dget1 (hu : X.A.units + 1 < cLine) (ho : PE X o td) (he : PE X e ty) (m : M1 X o "get" apos e cpos) : PE X (.Call (.Attribute o "get" apos) [e] [] cpos) (tDGet1 td ty) := by
  intro pins s σ H Q I h
  refine wpAny_Call_method m.base m.few m.line PySem.F.plainAttrs_dict PySem.F.slot_dict_get PySem.F.type_dict_get (thn (ho pins s σ H _ I h) fun u s1 ⟨x, H1, I1, rx, a, ex, d, q1⟩ => ?_)
  subst ex
  obtain rfl : u = Value.ref a := rx
  obtain ⟨t1, t2, _⟩ := isD_at I1 d
  refine ⟨t1, t2, ?_⟩
  rw [m.trees]
  refine Calls.callWith_builtin rfl (Calls.evalArgs_plain (Calls.spliced_cons (thn (he pins s1 σ H1 _ I1 q1) fun iv s2 ⟨y, H2, I2, ry, ov, g, q2⟩ => Calls.spliced_nil ?_)))
  exact d_get1 hu I2 g ry fun w' s3 I3 rw' => ⟨_, H2, I3, rw', q2⟩
end
section
variable {X : Cx} {pins : List (Addr × Obj)} {σ : St} {H : Hp} {s : Shared} {a : Addr} {kvs : List (Key × V)} {A : Around} {E : Value → Shared → Prop}
theorem d_copyOf {Q : Value → Shared → Prop} (I : Inv X pins σ H s) (e : Rd H a (.dK kvs)) (h : ∀ p s', H p = none → Inv X pins σ (upd H p (.dK kvs)) s' → Q (.ref p) s') : wpAny (model X.prog X.w) A (call (.type "dict") [.ref a]) Q E s := by
  obtain ⟨z, hd, vs, rel, dd⟩ := dk_rd I.hok e
  refine kt_call_dict hd dd (by rw [← rel.length]; exact z) fun h' dd' hs => ?_
  refine h _ _ (I.hok.fresh (Nat.le_refl _)) (I.laid (a := s.heap.objs.size) (o := .dK kvs) (t' := s.toks) (fun b q hq => ?_) (Nat.le_refl _) (dk_new z (beq_eq_false_iff_ne.mpr (Ne.symm (Nat.ne_of_lt I.big))) rel dd'))
  exact (hs.2 b (Nat.ne_of_lt (Heap.lt_size hq))).trans (Heap.get?_push_of_some _ hq)
end
section
variable {X : Cx} {pins : List (Addr × Obj)} {σ : St} {H : Hp} {s : Shared} {a : Addr} {y : V} {u : Value} {A : Around} {E : Value → Shared → Prop}
end
end L2
namespace Att
open PySem PySem.W PySem.Calls PyProof.Rows
theorem ints_of_wellAll {P : Params} {h : Heap} : ∀ (ns : List Int) (vs : List Value), WellAll P h vs (ns.map WData.int) → IntsAre vs ns := by
  intro ns
  induction ns with
  | nil =>
    intro vs w
    rw [List.map_nil] at w
    cases w
    exact .nil
  | cons n ns ih =>
    intro vs w
    rw [List.map_cons] at w
    cases w with
    | cons a b =>
      cases a
      exact .cons _ _ (ih _ b)
theorem script_of {l : OpenLaw} {n : Nat} (hn : l.most = some n) {P : Params} {h : Heap} {args : List WData} {vals : List Value}
    (hpre : l.row.toRowW.claim.pre args = true) (hwl : WellAll P h vals args) :
    ∃ a vs ns, vals = [Value.ref a] ∧ args = [WData.list (ns.map WData.int)] ∧ h.get? a = some { cls := .type "list", data := .seq vs.toArray } ∧ IntsAre vs ns ∧ ns.length ≤ n := by
  have hsh : WShape.hasAll [] args [.list .int] = true := (pre_splitW hpre).1
  have hc : l.pre.holds [] { args := args } = true := (pre_splitW hpre).2
  obtain ⟨d, r, rfl, h1, h2⟩ := hasAllW_cons hsh
  obtain rfl := hasAllW_nil h2
  obtain ⟨xs, rfl, h3⟩ := hasW_list h1
  obtain ⟨ns, rfl⟩ := items_int h3
  have hlen : ns.length ≤ n := by
    unfold OpenLaw.pre at hc
    have h4 : (WTm.not (.lt (.lit (.int (n : Int))) (.len (.arg 0)))).holds [] { args := [.list (ns.map .int)] } = true := by
      have h4 := (holds_andW hc).1
      rw [hn] at h4
      exact h4
    have h5 := condW_of h4 (w_not (w_lt w_lit (w_len_list (w_arg rfl))))
    rw [List.length_map] at h5
    refine Nat.le_of_not_lt fun q => ?_
    have q' : (n : Int) < ((ns.length : Nat) : Int) := by omega
    first
      | (rw [decide_eq_true q'] at h5; exact absurd h5 (by decide))
      | (simp at h5; omega)
  cases hwl with
  | cons w1 w2 =>
    cases w2
    cases w1 with
    | list ho hall => exact ⟨_, _, ns, rfl, rfl, ho, ints_of_wellAll ns _ hall, hlen⟩
theorem post_true (l : OpenLaw) (args : List WData) : l.row.toRowW.claim.post args (.bool true) args = true :=
  postW_of (r := l.row.toRowW) (X := (true == true))
    (show WShape.has [] (.bool true) .bool = true by first | rfl | decide | simp [WShape.has, WShape.arms, WShape.armsAll])
    (show (WTm.eq .res (.lit (.bool true))).value [] { args := args, res := some (.bool true), after := args } = some (.bool (true == true)) from w_eq_bool (w_res rfl) w_lit) rfl
theorem attach_call {l : OpenLaw} {n : Nat} {q : Program} {loose : List Str} {XP : (Str → Option Value) → Heap → Prop} {YP : World → Heap → Prop} {d : DefRec}
    (hn : l.most = some n) (hdf : d.params.defaults = [])
    (call : ∀ (w : World) (s₀ s₁ : Shared) (mg mb : Str → Option Value) (fa : Addr) (o : Obj) (pm cd doc : Value) (a : Addr) (vs : List Value) (ns : List Int),
      Ground q loose [] XP w s₀ mg mb s₁.heap → YP w s₁.heap →
      s₁.heap.get? fa = some o → o.data = .func (docDef d.name d.params d.body d.scope pm cd doc) → s₁.heap.CodeRec cd d.name → mg d.name = some (.ref fa) →
      s₁.heap.get? a = some { cls := .type "list", data := .seq vs.toArray } → IntsAre vs ns → ns.length ≤ n → s₁.gens = #[] →
      codeAny (model l.prog w) callerA (.call (.ref fa) ⟨[.ref a], []⟩) (fun r s' => r = .ok (.ret (.bool true)) ∧ OldK s₁.heap s'.heap ∧ s'.os = s₁.os ∧ AllBare s'.gens) s₁) :
    WalkO q loose XP YP l.row.toRowW d [] (fun f vs => PySem.call f vs) := by
  intro w s₀ s₁ mg mb G Y fa o pm cd doc dV kV ho hd hcd hD hmg hg args vals as hpre hlay hrd hwl hlo
  obtain rfl : dV = .none := Dflts.none hD hdf
  obtain rfl : kV = .none := Dflts.noKw hD
  obtain ⟨a, vs, ns, rfl, rfl, hobj, hints, hlen⟩ := script_of hn hpre hwl
  refine enter_call (codeAny_mono (call w s₀ s₁ mg mb fa o pm cd doc a vs ns G Y ho (fd_plain hd) hcd hmg hobj hints hlen hg) fun r s' hq => ?_)
  obtain ⟨rfl, h2, h3, h4⟩ := hq
  exact ⟨.inl ⟨.bool true, .bool true, [], rfl, fun _ => rfl, .bool true, post_true l _, fun _ => ⟨List.Pairwise.nil, fun _ hm => (nomatch hm)⟩⟩, h2, h3, h4⟩
section
variable {prog : Program} {w : World} {A : Around} {E : Value → Shared → Prop} {s : Shared} {K : Frag}
end
end Att
namespace L2
open PySem PySem.Spec PyProof.Rows
theorem vals_ints : ∀ {vs : List Value} {ns : List Int}, IntsAre vs ns → Vals (ns.map V.int) vs
  | _, _, .nil => .nil
  | _, _, .cons n t h => .cons ⟨t, rfl⟩ (vals_ints h)
def Only (H : Hp) : Prop := ∀ b, H b = none ∨ ∃ o xs, H b = some (.frz o (.lst xs))
theorem law_call {P : Program} {w : World} {K : PySem.W.Frag} {mg mb : Str → Option Value} {CX : CXT} {k : Nat} {fa a : Addr} {fd : FuncData} {x : Str} {sp : Sp} {s₁ : Shared} {vs : List Value} {ns : List Int}
    (KX : K.In s₁.heap) (hns : s₁.heap.Ns mainGlobals mg) (hb : s₁.heap.Ns builtinsNs mb) (hbb : ∀ x : Str, x ≠ "__name__" → mb x = bootBuiltins x) (hlim : s₁.heap.NoLimit) (hg : s₁.gens = #[])
    (ha : s₁.heap.get? a = some { cls := .type "list", data := .seq vs.toArray }) (hi : IntsAre vs ns) (hl : ns.length ≤ sizeLine) (hr : Room k callerA)
    (F : ∀ base : Heap, K.In base → base.Ns mainGlobals mg → FnOk P w K mg base CX k fa fd [x] sp) (hbind : ∀ (s : Shared) (u : Value), BindsTo s fd ⟨[u], []⟩ [(x, u)])
    (hsp : ∀ H : Hp, Only H → SqL K H a (ns.map V.int) → sp [.ref a] H (fun v _ => v = .bl true) fun _ _ _ => False)
    (hCX : ∀ H e s', CX [] H s₁ (fun _ _ _ => False) e s' → False) :
    codeAny (model P w) callerA (.call (.ref fa) ⟨[.ref a], []⟩) (fun r s' => r = .ok (.ret (.bool true)) ∧ OldK s₁.heap s'.heap ∧ s'.os = s₁.os ∧ AllBare s'.gens) s₁ := by
  have rv := vals_ints hi
  have lenV := hi.length
  have core : ∀ H : Hp, Only H → SqL K H a (ns.map V.int) → HOk P w H s₁.heap → (∀ b, H b ≠ none → b = a) → (H a ≠ none → K.lookup a = none) →
      codeAny (model P w) callerA (.call (.ref fa) ⟨[.ref a], []⟩) (fun r s' => r = .ok (.ret (.bool true)) ∧ OldK s₁.heap s'.heap ∧ s'.os = s₁.os ∧ AllBare s'.gens) s₁ := by
    intro H hO hS hok hA hK
    have base_of : ∀ {b : Addr} {o : Obj}, s₁.heap.get? b = some o → H b = none → (hidT s₁.heap H).get? b = some o := fun e n => hidT_get e n
    have noA : ∀ {b : Addr} {o : Obj} {es : Array DictEntry} {ep : Nat}, s₁.heap.get? b = some o → o.data = .dict es ep → H b = none := fun {b o es ep} e d => by
      cases q : H b with
      | none => rfl
      | some u =>
        have e' : b = a := hA b (by rw [q]; simp)
        subst e'
        rw [ha] at e; cases e
        have d' : Data.seq vs.toArray _ = Data.dict es ep := d
        cases d'
    have nsK : ∀ {b : Addr} {m : Str → Option Value}, s₁.heap.Ns b m → (hidT s₁.heap H).Ns b m := fun {b m} ⟨o, es, ep, e, d, r⟩ => ⟨o, es, ep, base_of e (noA e d), d, r⟩
    have hKb : K.In (hidT s₁.heap H) := fun b o e => base_of (KX b o e) (by
      cases q : H b with
      | none => rfl
      | some u =>
        have e' : b = a := hA b (by rw [q]; simp)
        subst e'
        rw [hK (by rw [q]; simp)] at e; cases e)
    have hM : Mod K mg (hidT s₁.heap H) := ⟨hKb, nsK hns, ⟨mb, nsK hb, hbb⟩, let ⟨mc, h1, h2⟩ := hlim; ⟨mc, nsK h1, h2⟩⟩
    have e0 : Env0 P w K mg (hidT s₁.heap H) callerA [] s₁ H := ⟨rfl, hM, fun b o e => of_hidT e, Nat.le_of_eq (hidT_size _ _), trivial, fun b hb => absurd (show b ∈ ([] : List Addr) from hb) (by simp), hok, .of_eq hg⟩
    refine codeAny_mono ((F _ hKb (nsK hns)).run callerA [] s₁ H ⟨[.ref a], []⟩ [.ref a] [.ref a] _ _ hr e0 (hbind s₁ (.ref a)) (.cons rfl .nil) (hsp H hO hS)) fun r s' h => ?_
    cases r with
    | error e => exact (hCX H e s' h).elim
    | ok fl =>
      cases fl with
      | next => exact False.elim h
      | brk => exact False.elim h
      | cont => exact False.elim h
      | ret u =>
        obtain ⟨v, H', os, bare, un, hok', r', q⟩ := h
        have q' : v = .bl true := q
        subst q'
        obtain rfl : u = Value.bool true := r'
        refine ⟨rfl, OldK.of_keep fun b o e => ?_, os, bare⟩
        cases q : H b with
        | none => exact un.keep b o e q (by intro z; exact absurd (show b ∈ ([] : List Addr) from z) (by simp)) (by simp)
        | some u =>
          rcases hO b with z | ⟨ob, xs, z⟩
          · rw [q] at z; cases z
          · have z2 := un.frzs b ob _ z
            obtain ⟨e1, _⟩ := hok b _ z
            obtain ⟨e2, _⟩ := hok' b _ z2
            rw [e] at e1; cases e1
            exact e2
  cases hk : K.lookup a with
  | some o =>
    have e := KX a o hk
    rw [ha] at e
    cases e
    refine core (fun _ => none) (fun _ => .inl rfl) (.inr ⟨_, vs.toArray, _, hk, rfl, rfl, rfl, by rw [List.size_toArray, lenV]; exact hl, by simpa using rv⟩) (fun b u z => by have z' : (none : Option HO) = some u := z; cases z') (fun b z => absurd rfl z) fun z => absurd rfl z
  | none =>
    refine core (fun b => if b = a then some (.frz { cls := .type "list", data := .seq vs.toArray } (.lst (ns.map V.int))) else none) (fun b => ?_) (.inl (.inr ⟨{ cls := .type "list", data := .seq vs.toArray }, if_pos rfl⟩)) (fun b u z => ?_) (fun b z => ?_) fun _ => hk
    · by_cases hb : b = a
      · exact .inr ⟨_, _, if_pos hb⟩
      · exact .inl (if_neg hb)
    · by_cases hb : b = a
      · have z' := (if_pos hb).symm.trans z
        cases z'
        subst hb
        exact ⟨ha, by rw [List.length_map]; exact hl, vs, _, rv, ha⟩
      · have z' := (if_neg hb).symm.trans z
        cases z'
    · by_cases hb : b = a
      · exact hb
      · exact absurd (if_neg hb) z
end L2
namespace L2
open PySem PySem.Spec PyProof.Rows
theorem walk_of {l : PySem.W.OpenLaw} {n k : Nat} {q : Program} {loose : List Str} {XP : (Str → Option Value) → Heap → Prop} {YP : World → Heap → Prop} {d : DefRec} {K : Params → PySem.W.Frag} {CX : World → CXT} {sp : World → Sp} {x : Str}
    (hn : l.most = some n) (hn2 : n ≤ sizeLine) (hdf : d.params.defaults = []) (hr : Room k callerA)
    (hY : ∀ (w : World) (h : Heap), YP w h → (K w.params).In h)
    (F : ∀ (w : World) (mg : Str → Option Value) (fa : Addr) (h : Heap), (K w.params).In h → h.Ns mainGlobals mg → mg d.name = some (.ref fa) →
      ∃ fd : FuncData, (∀ (s : Shared) (u : Value), BindsTo s fd ⟨[u], []⟩ [(x, u)]) ∧
        ∀ base : Heap, (K w.params).In base → base.Ns mainGlobals mg → FnOk l.prog w (K w.params) mg base (CX w) k fa fd [x] (sp w))
    (hsp : ∀ (w : World) (H : Hp) (a : Addr) (ns : List Int), ns.length ≤ n → Only H → SqL (K w.params) H a (ns.map V.int) → sp w [.ref a] H (fun v _ => v = .bl true) fun _ _ _ => False)
    (hCX : ∀ (w : World) (H : Hp) (s : Shared) (e : Value) (s' : Shared), CX w [] H s (fun _ _ _ => False) e s' → False) :
    PySem.W.WalkO q loose XP YP l.row.toRowW d [] (fun f vs => PySem.call f vs) := by
  refine Att.attach_call hn hdf fun w s₀ s₁ mg mb fa o pm cd doc a vs ns G Y ho hd hcd hmg hobj hints hlen hg => ?_
  have KX := hY w _ Y
  obtain ⟨fd, hb, hF⟩ := F w mg fa _ KX G.T.g hmg
  exact law_call KX G.T.g G.T.b G.T.builtins G.T.nolimit hg hobj hints (Nat.le_trans hlen hn2) hr hF hb (fun H hO hS => hsp w H a ns hlen hO hS) fun H e s' => hCX w H s₁ e s'
end L2
namespace L2
open PySem PySem.Spec PyProof.Rows
def inClass (s : Stmt) (j : Nat) : Stmt := match s with
  | .ClassDef _ _ _ body _ _ _ _ _ _ _ => body.getD j (.Pass ⟨0, 0, 0, 0⟩)
  | _ => .Pass ⟨0, 0, 0, 0⟩
def defArgs (s : Stmt) : Arguments := match s with
  | .FunctionDef _ a _ _ _ _ _ _ _ _ => a
  | _ => { posonlyargs := [], args := [], vararg := none, kwonlyargs := [], kw_defaults := [], kwarg := none, defaults := [] }
def defBody (s : Stmt) : List Stmt := match s with
  | .FunctionDef _ _ b _ _ _ _ _ _ _ => b
  | _ => []
def defScope (s : Stmt) : Scope := match s with
  | .FunctionDef _ _ _ _ _ _ sc _ _ _ => sc
  | _ => { kind := .function, names := [], isGenerator := false, isCoroutine := false }
abbrev CX0 : CXT := fun _ _ _ _ _ _ => False
abbrev E0 : XK := fun _ _ _ => False
theorem pass0 {X : Cx} : Passes CX0 X E0 := fun _ _ _ _ _ _ _ h => h.elim
structure Fun (K : PySem.W.Frag) (x qual : Str) (st : Stmt) (f : Addr) (fd : FuncData) : Prop where
  ex : ∃ (oc : Value) (od : Option Addr) (kV doc pm : Value) (an : Option Addr) (cdv ct : Value) (osl : Array (Option Value)),
    fd = PySem.W.fnOf x qual (defArgs st) (defBody st) (defScope st) .none kV doc pm an cdv ct ∧ K.lookup f = some ⟨oc, od, .func fd, osl⟩ ∧ PySem.W.codeIn K cdv qual = true
  kp : PySem.W.keepIn K (.ref f) = true
section
variable {P : Program} {w : World} {K : PySem.W.Frag} {mg : Str → Option Value} {base : Heap}
theorem Fun.ok {x qual : Str} {st : Stmt} {f : Addr} {fd : FuncData} {N ps : List Str} {k : Nat} {sp : Sp} (F : Fun K x qual st f fd) (S : FnScope N ps (defScope st)) (len : ∀ vs H Q E, sp vs H Q E → vs.length = ps.length)
    (hbody : ∀ (cdv : Value) (A : Around) (outer : List Env) (s : Shared) (H : Hp) (vs : List V) (Q : VK) (E : XK), Room k (A.deeper (envOfC qual (defScope st) s.heap.objs.size f cdv)) → sp vs H Q E →
      ∃ t, PSs (cxOf CX0 P w K mg base N qual (defScope st) f cdv A outer s H E).nox (defBody st) t ∧ t { nx := fun _ H' => Q .non H', rt := Q } (start N vs) H) : FnOk P w K mg base CX0 (k + 1) f fd ps sp := by
  obtain ⟨oc, od, kV, doc, pm, an, cdv, ct, osl, rfl, lk, hcd⟩ := F.ex
  refine fn_of lk hcd S len fun A outer s H vs Q E hr hsp => ?_
  obtain ⟨t, h, q⟩ := hbody cdv A outer s H vs Q E hr hsp
  exact ⟨t, h.nox, q⟩
theorem Fun.binds {x qual : Str} {st : Stmt} {f : Addr} {fd : FuncData} {ps : List Str} (F : Fun K x qual st f fd)
    (h : ∀ (kV doc pm : Value) (an : Option Addr) (cdv ct : Value) (us : List Value), us.length = ps.length → bindArgs (PySem.W.fnOf x qual (defArgs st) (defBody st) (defScope st) .none kV doc pm an cdv ct) ⟨us, []⟩ = pure (ps.zip us)) : Binds K fd ps [] := by
  obtain ⟨oc, od, kV, doc, pm, an, cdv, ct, osl, rfl, lk, hcd⟩ := F.ex
  exact .all (h kV doc pm an cdv ct)
theorem fun_mk {x qual : Str} {st : Stmt} {f : Addr} {oc : Value} {od an : Option Addr} {osl : Array (Option Value)} {kV doc pm cdv ct : Value} (l : K.lookup f = some ⟨oc, od, .func (PySem.W.fnOf x qual (defArgs st) (defBody st) (defScope st) .none kV doc pm an cdv ct), osl⟩)
    (c : PySem.W.codeIn K cdv qual = true) (k : PySem.W.keepIn K (.ref f) = true) : Fun K x qual st f (PySem.W.fnOf x qual (defArgs st) (defBody st) (defScope st) .none kV doc pm an cdv ct) := ⟨⟨oc, od, kV, doc, pm, an, cdv, ct, osl, rfl, l, c⟩, k⟩
end
section
variable {X : Cx}
end
theorem ite2 {c A B : Prop} [Decidable c] (h1 : c → A) (h2 : ¬ c → B) : if c then A else B := by
  by_cases h : c
  · rw [if_pos h]
    exact h1 h
  · rw [if_neg h]
    exact h2 h
def Same (H H' : Hp) : Prop := ∀ b o, H b = some o → H' b = some o
theorem Same.refl (H : Hp) : Same H H := fun _ _ h => h
theorem Same.trans {H H1 H2 : Hp} (a : Same H H1) (b : Same H1 H2) : Same H H2 := fun c o h => b c o (a c o h)
theorem Same.free {H H' : Hp} (e : Same H H') {l : Addr} (h : H' l = Option.none) : H l = Option.none := by
  cases q : H l with
  | none => rfl
  | some o =>
    rw [e l o q] at h
    cases h
theorem Same.seq {K : PySem.W.Frag} {H H' : Hp} {a : Addr} {xs : List V} (e : Same H H') (h : SqL K H a xs) : SqL K H' a xs := by
  rcases h with (h | ⟨o, h⟩) | h
  · exact .inl (.inl (e _ _ h))
  · exact .inl (.inr ⟨o, e _ _ h⟩)
  · exact .inr h
section
variable {X : Cx}
theorem call_lenD : CallR X (.builtin "len") (fun xs H Q => ∃ a kvs, xs = [V.ref a] ∧ H a = some (.dK kvs) ∧ Q (.int kvs.length) H) := by
  intro pins s σ H xs us Q I r h
  obtain ⟨a, kvs, rfl, ha, q⟩ := h
  obtain ⟨u, rfl, ru⟩ := vals1 r
  cases ru
  exact d_len I (.inl ha) fun t s' I' => ⟨.int kvs.length, H, I', ⟨t, rfl⟩, q⟩
end
section
variable {κ : Type} [DecidableEq κ]
end
end L2
set_option Elab.async false
set_option linter.all false
set_option maxRecDepth 100000
namespace L2
open PySem PySem.Spec PyProof.Rows
section
variable {X : Cx}
def CDv (_ j : Int) : Prop := 0 < j ∧ j < 10 ^ 100
theorem op_fdivP : OpR X (binaryOp .FloorDiv) (rI CDv fun i j => .int (i / j)) := opI fun i j _ _ _ _ _ hc q => by
  have h0 : 0 < j := hc.1
  have h1 : j < 10 ^ 100 := hc.2
  refine floordiv_int (by omega) ?_ (.inl (PyProof.noPylong_of_log2 ?_))
  · rw [Int.fdiv_eq_ediv_of_nonneg _ (by omega)]
    exact q
  · have h2 : j.natAbs < 10 ^ 100 := by omega
    have h3 : (10 : Nat) ^ 100 ≤ 2 ^ 9000 := by decide +kernel
    exact (Nat.log2_lt (by omega)).mpr (Nat.lt_of_lt_of_le h2 h3)
end
structure Callee (P : Program) (w : World) (K : PySem.W.Frag) (mg : Str → Option Value) (base : Heap) (x : Str) (k : Nat) (ps : List Str) (sp : Sp) : Prop where
  ex : ∃ (f : Addr) (fd : FuncData), FnOk P w K mg base CX0 k f fd ps sp ∧ Binds K fd ps [] ∧ PySem.W.keepIn K (.ref f) = true ∧ mg x = some (.ref f)
section
variable {X : Cx} {x : Str} {k : Nat} {ps : List Str} {sp : Sp} {e : Expr} {es : List Expr} {t : TA} {p pos : Pos}
theorem pe_callF (C : Callee X.prog X.w X.K X.mg X.base x k ps sp) (hr : Room k X.A) (hg : Gl X x) (ha : PA X (e :: es) t)
    (hdb : (x == ("__debug__" : Str)) = false := by decide) (he : starEach (e :: es) X.env = (false, eval e X.env) :: starEach es X.env := by rfl) (hpl : (backTo pos (starEach es X.env)).any (·.1) = false := by rfl) :
    PE X (.Call (.Name x p) (e :: es) [] pos) (tCall sp [] E0 t) := by
  intro pins s σ H Q I h
  obtain ⟨f, fd, F, b, kp, m⟩ := C.ex
  have G : FnOk X.prog X.w X.K X.mg X.base (fun _ _ _ _ _ _ => False) k f fd ps sp := F
  exact pe_call F hr hg m kp b .nil pass0 ha hdb he hpl pins s σ H Q I h
end
end L2
namespace L2
open PySem PySem.Spec PyProof.Rows
def tCut (t u : TS) : TS := fun D σ H => ∃ J : St → Hp → Prop, t { D with nx := J } σ H ∧ ∀ σ1 H1, J σ1 H1 → u D σ1 H1
section
variable {X : Cx} {st : Stmt} {rest : List Stmt} {t u : TS}
theorem pss_cut (h1 : PS X st t) (h2 : PSs X rest u) : PSs X (st :: rest) (tCut t u) := by
  intro pins s σ H D I h
  obtain ⟨J, h, hJ⟩ := h
  refine wpAny_execs_cons (thn (h1 pins s σ H { D with nx := J } I h) fun f s1 q => ?_)
  cases f with
  | next =>
    obtain ⟨σ', H', I', q⟩ := q
    exact h2 pins s1 σ' H' D I' (hJ _ _ q)
  | ret v => exact q
  | brk => exact q
  | cont => exact q
end
section
variable {α : Type} {a b c d : α} {r : List α}
theorem atI_0 : atI (a :: r) 0 = some a := atI_nat (j := 0) rfl
theorem atI_1 : atI (a :: b :: r) 1 = some b := atI_nat (j := 1) rfl
theorem atI_2 : atI (a :: b :: c :: r) 2 = some c := atI_nat (j := 2) rfl
theorem atI_3 : atI (a :: b :: c :: d :: r) 3 = some d := atI_nat (j := 3) rfl
end
def seqAt (H : Hp) (p : Addr) : Option (List V) := match H p with
  | some (.lst xs) => some xs
  | some (.tup xs) => some xs
  | some (.frz _ (.lst xs)) => some xs
  | _ => none
theorem seqAt_lst {H : Hp} {p : Addr} {xs : List V} (h : H p = some (.lst xs)) : seqAt H p = some xs := by unfold seqAt; rw [h]
theorem seqAt_tup {H : Hp} {p : Addr} {xs : List V} (h : H p = some (.tup xs)) : seqAt H p = some xs := by unfold seqAt; rw [h]
section
variable {X : Cx}
def rIxF : R2 := fun x y H Q => ∃ p i xs v, x = .ref p ∧ y = .int i ∧ seqAt H p = some xs ∧ atI xs i = some v ∧ Q v H
theorem call_intB : CallR X (.type "int") (fun xs H Q => ∃ k, xs = [.bl k] ∧ Q (.int (if k = true then 1 else 0)) H) := by
  intro pins s σ H xs us Q I r h
  obtain ⟨k, rfl, q⟩ := h
  exact call_int1 pins s σ H _ us Q I r (.inr ⟨k, rfl, q⟩)
end
end L2
namespace L2
open PySem PySem.Spec PyProof.Rows
theorem bt_len : bootBuiltins "len" = some (.builtin "len") := by decide +kernel
theorem bt_isinstance : bootBuiltins "isinstance" = some (.builtin "isinstance") := by decide +kernel
theorem bt_max : bootBuiltins "max" = some (.builtin "max") := by decide +kernel
theorem bt_min : bootBuiltins "min" = some (.builtin "min") := by decide +kernel
theorem bt_sorted : bootBuiltins "sorted" = some (.builtin "sorted") := by decide +kernel
theorem bt_all : bootBuiltins "all" = some (.builtin "all") := by decide +kernel
theorem bt_int : bootBuiltins "int" = some (.type "int") := by decide +kernel
theorem bt_bool : bootBuiltins "bool" = some (.type "bool") := by decide +kernel
theorem bt_str : bootBuiltins "str" = some (.type "str") := by decide +kernel
theorem bt_list : bootBuiltins "list" = some (.type "list") := by decide +kernel
theorem bt_tuple : bootBuiltins "tuple" = some (.type "tuple") := by decide +kernel
theorem bt_dict : bootBuiltins "dict" = some (.type "dict") := by decide +kernel
theorem bt_zip : bootBuiltins "zip" = some (.type "zip") := by decide +kernel
end L2
namespace L2
open PySem PySem.Spec PyProof.Rows
theorem cxK {CX : CXT} {P : Program} {w : World} {K : PySem.W.Frag} {mg : Str → Option Value} {base : Heap} {N : List Str} {qual : Str} {scope : Scope} {f : Addr} {cd : Value} {A : Around} {outer : List Env} {s : Shared} {H : Hp} {E : XK} :
    (cxOf CX P w K mg base N qual scope f cd A outer s H E).K = K := rfl
end L2
namespace L2
open PySem PySem.Spec PyProof.Rows
theorem ixN_10 : ixN 1 0 = some 0 := rfl
theorem ixN_20 : ixN 2 0 = some 0 := rfl
theorem ixN_21 : ixN 2 1 = some 1 := rfl
theorem ixN_30 : ixN 3 0 = some 0 := rfl
theorem ixN_31 : ixN 3 1 = some 1 := rfl
theorem ixN_32 : ixN 3 2 = some 2 := rfl
theorem seqAt_updL {H : Hp} {p : Addr} {xs : List V} : seqAt (upd H p (.lst xs)) p = some xs := seqAt_lst upd_same
theorem seqAt_updT {H : Hp} {p : Addr} {xs : List V} : seqAt (upd H p (.tup xs)) p = some xs := seqAt_tup upd_same
theorem atI_in {α : Type} {xs : List α} {k : Int} (h0 : 0 ≤ k) (h1 : k < (xs.length : Int)) : ∃ v, atI xs k = some v ∧ v ∈ xs := by
  have hk : k.toNat < xs.length := by omega
  have e : k = ((k.toNat : Nat) : Int) := by omega
  have q : atI xs ((k.toNat : Nat) : Int) = some xs[k.toNat] := atI_nat (List.getElem?_eq_getElem hk)
  rw [← e] at q
  exact ⟨_, q, List.getElem_mem hk⟩
end L2
namespace L2
open PySem PySem.Spec PyProof.Rows
structure Shut (Q : VK) : Type where
  n : Nat
def Cal (sp : Sp) (vs : List V) (H : Hp) (Q : VK) (_ : Shut Q) (E : XK) : Prop := sp vs H Q E
theorem tCallC {sp : Sp} {dvs : List V} {E : XK} {t : TA} {σ : St} {H : Hp} {Q : VK} : tCall sp dvs E t σ H Q = t σ H (fun vs H1 => Cal sp (vs ++ dvs) H1 Q ⟨0⟩ E) := rfl
section
variable {X : Cx} {pos p1 p2 : Pos} {j1 j2 : Nat}
theorem pe_powc {a b : Int} (v : Int) (h : decide (0 ≤ b ∧ b ≤ 1000000 ∧ a.natAbs < 2 ^ 64 ∧ a ^ b.toNat = v) = true := by decide +kernel) : PE X (.BinOp (.Constant (.int a) j1 p1) .Pow (.Constant (.int b) j2 p2) pos) (tC (.int v)) := by
  intro pins s σ H Q I q
  obtain ⟨h1, h2, h3, h4⟩ := of_decide_eq_true h
  refine pe_op op_pow pe_int pe_int pins s σ H Q I ⟨a, b, rfl, rfl, ⟨h1, h2, h3⟩, ?_⟩
  show Q (V.int (a ^ b.toNat)) H
  rw [h4]
  exact q
end
end L2
namespace L2
open PySem PySem.Spec PyProof.Rows
theorem upd_none {H : Hp} {a b : Addr} {o : HO} : upd H a o b = none ↔ b ≠ a ∧ H b = none := by
  unfold upd
  by_cases h : b = a
  · simp [h]
  · simp [h]
end L2
namespace L2
open PySem PySem.Spec PyProof.Rows
def Loop (J : It) (g : TG) (tb : TS) (D : Ends) (σ : St) (H : Hp) : Prop := ∃ W : Nat → Nat → St → Hp → Prop, (∃ m, W 0 m σ H) ∧ ∀ i m σ H, W i m σ H →
  (J.stop i H ∧ D.nx σ H) ∨ (J.go i H ∧ ∃ N : St → Hp → Prop, (∀ σ' H', N σ' H' → ∃ m', m' < m ∧ W (i + 1) m' σ' H') ∧ ∀ x H', J.yld i H x H' → g x σ H' fun σ2 H2 => tb { D with nx := N, ct := N, bk := D.nx } σ2 H2)
section
variable {K : PySem.W.Frag} {ta : TA} {tl : TE} {g : TG} {tb : TS} {D : Ends} {σ : St} {H : Hp} {a : Addr} {xs : List V} {lo : Int} {n : Nat}
theorem tFor_rng1 : tFor (iRng1 ta) g tb D σ H = ta σ H (fun vs H1 => ∃ j : Int, vs = [.int j] ∧ -(2 ^ 62) ≤ j ∧ j < 2 ^ 62 ∧ Loop (Itr 0 j.toNat) g tb D σ H1) := rfl
theorem tFor_rng2 : tFor (iRng2 ta) g tb D σ H = ta σ H (fun vs H1 => ∃ i j : Int, vs = [.int i, .int j] ∧ (-(2 ^ 62) ≤ i ∧ i < 2 ^ 62 ∧ -(2 ^ 62) ≤ j ∧ j < 2 ^ 62) ∧ Loop (Itr i (j - i).toNat) g tb D σ H1) := rfl
theorem tFor_list : tFor (iList K tl) g tb D σ H = tl σ H (fun x H1 => ∃ a, x = .ref a ∧ (∃ xs, SqL K H1 a xs) ∧ Loop (Itl K a) g tb D σ H1) := rfl
theorem tFor_tup : tFor (iTup K tl) g tb D σ H = tl σ H (fun x H1 => ∃ a, x = .ref a ∧ (∃ xs, SqT K H1 a xs) ∧ Loop (Itt K a) g tb D σ H1) := rfl
theorem loop_range (Pv : Nat → St → Hp → Prop) (h0 : Pv 0 σ H)
    (hs : ∀ i σ H, i < n → Pv i σ H → g (.int (lo + i)) σ H fun σ2 H2 => tb { D with nx := Pv (i + 1), ct := Pv (i + 1), bk := D.nx } σ2 H2) (hd : ∀ σ H, Pv n σ H → D.nx σ H) : Loop (Itr lo n) g tb D σ H := for_range Pv h0 hs hd
theorem loop_list (Pv : Nat → St → Hp → Prop) (h0 : Pv 0 σ H) (hl : ∀ i σ H, i ≤ xs.length → Pv i σ H → SqL K H a xs)
    (hs : ∀ i x σ H, xs[i]? = some x → Pv i σ H → g x σ H fun σ2 H2 => tb { D with nx := Pv (i + 1), ct := Pv (i + 1), bk := D.nx } σ2 H2) (hd : ∀ σ H, Pv xs.length σ H → D.nx σ H) : Loop (Itl K a) g tb D σ H := for_list Pv h0 hl hs hd
end
end L2
set_option Elab.async false
set_option linter.all false
set_option maxRecDepth 100000
namespace L2
open PySem PySem.Spec PyProof.Rows
structure JE (X : Cx) (e : Expr) (t : TE) : Prop where h : PE X e t
structure JT (X : Cx) (e : Expr) (t : TT) : Prop where h : PT X e t
structure JW (X : Cx) (e : Expr) (t : TT) : Prop where h : PW X e t
structure JA (X : Cx) (es : List Expr) (t : TA) : Prop where h : PA X es t
structure JS (X : Cx) (st : Stmt) (t : TS) : Prop where h : PS X st t
structure JB (X : Cx) (st : List Stmt) (t : TS) : Prop where h : PSs X st t
structure JG (X : Cx) (e : Expr) (t : TG) : Prop where h : PG X e t
structure JGs (X : Cx) (es : List Expr) (t : TGs) : Prop where h : PGs X es t
structure JI (X : Cx) (tg e : Expr) (t : TI) : Prop where h : PI X tg e t
structure JO (X : Cx) (e : Option Expr) (t : TO) : Prop where h : PO X e t
section
variable {X : Cx} {a b c e o : Expr} {es rest : List Expr} {ta tb tc te to : TE} {t tl : TA} {tA tB' : TT} {pos p p' : Pos} {st : Stmt} {sts sts' : List Stmt} {u v : TS}
theorem ev (i : Nat) {x : Str} (hN : X.N[i]? = some x := by rfl) (hv : Vis X.env.scope x := by first | exact Or.inl rfl | exact Or.inr (Or.inl rfl) | exact Or.inr (Or.inr rfl)) (hd : (x == ("__debug__" : Str)) = false := by decide)
    (hcd : (x == ("__classdict__" : Str)) = false := by decide) : JE X (.Name x pos) (tVar i) := ⟨pe_var hN hv hd hcd⟩
theorem ei {i j} : JE X (.Constant (.int i) j pos) (tC (.int i)) := ⟨pe_int⟩
theorem ebl {b j} : JE X (.Constant (.bool b) j pos) (tC (.bl b)) := ⟨pe_bl⟩
theorem enon {j} : JE X (.Constant .none j pos) (tC .non) := ⟨pe_non⟩
theorem estr {x j} : JE X (.Constant (.str x) j pos) (tC (.str x)) := ⟨pe_str⟩
theorem eglob {x : Str} {v : V} {u : Value} (hg : Gl X x) (hm : X.mg x = some u) (r : RelV v u) (hd : (x == ("__debug__" : Str)) = false := by decide) : JE X (.Name x pos) (tC v) := ⟨pe_glob hg hm r hd⟩
theorem etyp {x : Str} {n : String} (hg : Gl X x) (hm : X.mg x = none) (hv : bootBuiltins x = some (.type n)) (hn : x ≠ "__name__" := by decide) (hd : (x == ("__debug__" : Str)) = false := by decide) : JE X (.Name x pos) (tC (.ty n)) := ⟨pe_bltn hg hm hv rfl hn hd⟩
theorem eop {op : Operator} {r : R2} (ho : OpR X (binaryOp op) r) (ha : JE X a ta) (hb : JE X b tb) : JE X (.BinOp a op b pos) (tOp r ta tb) := ⟨pe_op ho ha.h hb.h⟩
theorem epowc {a b : Int} {j1 j2 : Nat} {p1 p2 : Pos} (v : Int) (h : decide (0 ≤ b ∧ b ≤ 1000000 ∧ a.natAbs < 2 ^ 64 ∧ a ^ b.toNat = v) = true := by decide +kernel) : JE X (.BinOp (.Constant (.int a) j1 p1) .Pow (.Constant (.int b) j2 p2) pos) (tC (.int v)) := ⟨pe_powc v h⟩
theorem enot (ha : JE X a ta) : JE X (.UnaryOp .Not a pos) (tNotV ta) := ⟨pe_not ha.h⟩
theorem eone {op} (h : JE X a ta) : JE X (.BoolOp op [a] pos) ta := ⟨pe_one h.h⟩
theorem eand (ha : JE X a ta) (hb : JE X (.BoolOp .And (b :: rest) pos) tb) : JE X (.BoolOp .And (a :: b :: rest) pos) (tAndV ta tb) := ⟨pe_and ha.h hb.h⟩
theorem eif (hc : JT X c tA) (ha : JE X a ta) (hb : JE X b tb) : JE X (.IfExp c a b pos) (tIf tA ta tb) := ⟨pe_ifExp hc.h ha.h hb.h⟩
theorem ecmp {op : CmpOp} {r : R2} (ho : OpR X (compareOp op) r) (ha : JE X a ta) (hb : JE X b tb) (hm : behindInMarks op b = false) : JE X (.Compare a [op] [b] pos) (tOp r ta tb) := ⟨pe_cmpR ho ha.h hb.h hm⟩
theorem echain {op op' : CmpOp} {r r' : R2} (ho : OpR X (compareOp op) r) (ho' : OpR X (compareOp op') r') (ha : JE X a ta) (hb : JE X b tb) (hc : JE X c tc)
    (hm : lastMarks [op, op'] [b, c] = false := by with_unfolding_all rfl) : JE X (.Compare a [op, op'] [b, c] pos) (tChain r r' ta tb tc) := ⟨pe_chain ho ho' ha.h hb.h hc.h hm⟩
theorem eix {r : R2} (hr : IxR X r) (ha : JE X a ta) (hb : JE X b tb) (hs : PlainIx b) : JE X (.Subscript a b pos) (tOp r ta tb) := ⟨pe_ix hr ha.h hb.h hs⟩
theorem eslice {r : V → Option Int → Option Int → Hp → VK → Prop} {lo hi : Option Expr} {tl th : TO} (hr : SlR X r) (he : JE X e te) (hl : JO X lo tl) (hu : JO X hi th) : JE X (.Subscript e (.Slice lo hi none p) pos) (tSl r te tl th) := ⟨pe_slice hr he.h hl.h hu.h⟩
theorem ecall {x : Str} {k : Nat} {ps : List Str} {sp : Sp} (C : Callee X.prog X.w X.K X.mg X.base x k ps sp) (hr : Room k X.A) (hg : Gl X x) (ha : JA X (e :: es) t)
    (hdb : (x == ("__debug__" : Str)) = false := by decide) (he : starEach (e :: es) X.env = (false, eval e X.env) :: starEach es X.env := by rfl) (hpl : (backTo pos (starEach es X.env)).any (·.1) = false := by rfl) :
    JE X (.Call (.Name x p) (e :: es) [] pos) (tCall sp [] E0 t) := ⟨pe_callF C hr hg ha.h hdb he hpl⟩
theorem ecallB {x : Str} {id : String} {r : List V → Hp → VK → Prop} (hc : CallR X (.builtin id) r) (hg : Gl X x) (hm : X.mg x = none) (hv : bootBuiltins x = some (.builtin id)) (ha : JA X (e :: es) t) (hn : x ≠ "__name__" := by decide) (hdb : (x == ("__debug__" : Str)) = false := by decide)
    (he : starEach (e :: es) X.env = (false, eval e X.env) :: starEach es X.env := by rfl) (hpl : (backTo pos (starEach es X.env)).any (·.1) = false := by rfl) : JE X (.Call (.Name x p) (e :: es) [] pos) (tCB r t) := ⟨pe_callB hc hg hm hv ha.h hn hdb he hpl⟩
theorem ecallTy {x : Str} {T : String} {r : List V → Hp → VK → Prop} (hc : CallR X (.type T) r) (hg : Gl X x) (hm : X.mg x = none) (hv : bootBuiltins x = some (.type T)) (ha : JA X (e :: es) t) (hn : x ≠ "__name__" := by decide) (hdb : (x == ("__debug__" : Str)) = false := by decide)
    (he : starEach (e :: es) X.env = (false, eval e X.env) :: starEach es X.env := by rfl) (hpl : (backTo pos (starEach es X.env)).any (·.1) = false := by rfl) : JE X (.Call (.Name x p) (e :: es) [] pos) (tCB r t) := ⟨pe_callTy hc hg hm hv ha.h hn hdb he hpl⟩
theorem ebm {T id : String} {name : Str} {r : V → List V → Hp → VK → Prop} {apos cpos : Pos} (pa : PlainAttrs T) (slot : Slot T name id) (hty : typeOf (.builtin id) = pure (.type "method_descriptor")) (hm : MtR X id r) (ho : JE X o to) (ha : JA X (e :: es) t)
    (hbase : attributeBase o name X.env (eval o X.env) = eval o X.env := by rfl)
    (hfew : ((backTo cpos (starEach (e :: es) X.env)).all (fun x => !x.1) && (backToKw cpos (keywordEach [] X.env)).all (fun x => x.1.isSome)
      && decide ((e :: es).length + ([] : List Keyword).length + (if ([] : List Keyword).isEmpty then 0 else 1) < 30)) = true := by rfl)
    (hline : (apos.endLine == cpos.line) = true := by rfl) (hs : starEach (e :: es) X.env = (false, eval e X.env) :: starEach es X.env := by rfl) (hplain : (backTo cpos (starEach es X.env)).any (·.1) = false := by rfl) :
    JE X (.Call (.Attribute o name apos) (e :: es) [] cpos) (tBM X.K T r to t) := ⟨pe_bm pa slot hty hm ho.h ha.h hbase hfew hline hs hplain⟩
theorem anil : JA X [] tNil := ⟨pa_nil⟩
theorem acons (ha : JE X e te) (hr : JA X es t) (hs : starEach (e :: es) X.env = (false, eval e X.env) :: starEach es X.env := by rfl) : JA X (e :: es) (tCons te t) := ⟨pa_cons ha.h hr.h hs⟩
theorem tcmp {op : CmpOp} {r : R2} (ho : OpR X (compareOp op) r) (ha : JE X a ta) (hb : JE X b tb) (hm : behindInMarks op b = false) : JT X (.Compare a [op] [b] pos) (tTest (tOp r ta tb)) := ⟨pt_cmpR ho ha.h hb.h hm⟩
theorem tval (h : JE X e te) (he : ∀ whole, isTrue e X.env whole = (do let v ← whole; standAt e.pos; holding [v] (truthy v)) := by intro _; rfl) : JT X e (tB te) := ⟨pt_val h.h he⟩
theorem ttruth (ha : JE X a ta) (he : ∀ whole, isTrue a X.env whole = (do let v ← whole; standAt a.pos; holding [v] (truthy v))) :
    JT X a (fun σ H Q => ta σ H fun x H' => ∃ k, TruV X.K x H' k ∧ Q k H') := ⟨pt_truth ha.h he⟩
theorem tnot (ha : JT X a tA) : JT X (.UnaryOp .Not a pos) (tNot tA) := ⟨pt_not ha.h⟩
theorem tw (h : JW X e tA) : JT X e tA := ⟨PW.pt h.h⟩
theorem wor1 (ha : JT X a tA) : JW X (.BoolOp .Or [a] pos) tA := ⟨pw_or1 ha.h⟩
theorem wor (ha : JT X a tA) (hb : JW X (.BoolOp .Or (b :: rest) pos) tB') : JW X (.BoolOp .Or (a :: b :: rest) pos) (tOr tA tB') := ⟨pw_or ha.h hb.h⟩
theorem bnil : JB X [] tNext := ⟨pss_nil⟩
theorem bcons (h1 : JS X st u) (h2 : JB X sts v) : JB X (st :: sts) (tSeq u v) := ⟨pss_cons h1.h h2.h⟩
theorem bone (h1 : JS X st u) : JB X [st] u := ⟨pss_one h1.h⟩
theorem bcut (h1 : JS X st u) (h2 : JB X sts v) : JB X (st :: sts) (tCut u v) := ⟨pss_cut h1.h h2.h⟩
theorem sexpr (he : JE X e te) (hs : swapsWith e none pos.line X.env = pure false := by rfl) : JS X (.Expr e pos) (tDrop te) := ⟨ps_expr he.h hs⟩
theorem sret (he : JE X e te) : JS X (.Return (some e) pos) (tRet te) := ⟨ps_ret he.h⟩
theorem sif (hc : JT X c tA) (ha : JB X sts u) (hb : JB X sts' v) : JS X (.If c sts sts' pos) (tIfS tA u v) := ⟨ps_if hc.h ha.h hb.h⟩
theorem sset {i : Nat} {x : Str} (hN : X.N.Nodup) (hi : X.N[i]? = some x) (hx : Loc X.env.scope x) (he : JE X e te) (hs : swapsWith e (some (.Name x p)) pos.line X.env = pure false := by rfl) (hf : X.fn x = true ∨ X.env.scope.names.lookup x = some .local := by first | exact .inl rfl | exact .inr rfl | assumption) :
    JS X (.Assign [.Name x p] e pos) (tAsg te (gName i)) := ⟨ps_set hN hi hx he.h hs hf⟩
theorem sasg {tg : Expr} {g : TG} (he : JE X e te) (hg : JG X tg g) (hs : swapsWithSole [tg] e pos.line X.env = pure false := by rfl) (hw : swappedStores [tg] e X.env = pure none := by rfl)
    (h1 : (assignEach [tg] X.env).map (·.2) = [assign tg X.env] := by rfl) : JS X (.Assign [tg] e pos) (tAsg te g) := ⟨ps_asg he.h hg.h hs hw h1⟩
theorem sfor {tg iter : Expr} {wi : TI} {g : TG} (hp : PassesOwn (model X.prog X.w) X.A X.env X.xe) (hc : X.calm = true) (hi : JI X tg iter wi) (hg : JG X tg g) (hb : JB X sts u)
    (hs : ∀ x, foldedSetIterable iter X.env x = pure x := by intro _; rfl) : JS X (.For tg iter sts [] pos) (tFor wi g u) := ⟨ps_for hp hc hi.h hg.h hb.h hs⟩
theorem gname {i : Nat} {x : Str} (hN : X.N.Nodup) (hi : X.N[i]? = some x) (hx : Loc X.env.scope x) (hf : X.fn x = true ∨ X.env.scope.names.lookup x = some .local := by first | exact .inl rfl | exact .inr rfl | assumption) : JG X (.Name x pos) (gName i) := ⟨pg_name hN hi hx hf⟩
theorem gsub {i : Expr} {ti : TE} {t : TSet} (ho : JE X o to) (hi : JE X i ti) (hs : PSet X t)
    (ha : ∀ v, assign (.Subscript o i pos) X.env v = (do
      let ov ← holding [v] (eval o X.env)
      let iv ← holding [v, ov] (eval i X.env)
      standAt pos
      holding [v, ov, iv] (setItem ov iv v)
      release [v, ov, iv] []) := by intro _; rfl) : JG X (.Subscript o i pos) (gSub to ti t) := ⟨pg_sub ho.h hi.h hs ha⟩
theorem gnil : JGs X [] gNil := ⟨pgs_nil⟩
theorem gcons {t : TG} {u : TGs} (h1 : JG X e t) (h2 : JGs X es u) (hs : (assignEach (e :: es) X.env).map (·.2) = assign e X.env :: (assignEach es X.env).map (·.2) := by rfl) : JGs X (e :: es) (gCons t u) := ⟨pgs_cons h1.h h2.h hs⟩
theorem irange1 {tg : Expr} (hg : Gl X "range") (hm : X.mg "range" = none) (ha : JA X [a] t) (hs : starEach [a] X.env = [(false, eval a X.env)] := by rfl) : JI X tg (.Call (.Name "range" p) [a] [] pos) (iRng1 t) := ⟨pi_range1 hg hm ha.h hs⟩
theorem irange2 {tg : Expr} (hg : Gl X "range") (hm : X.mg "range" = none) (ha : JA X [a, b] t) (hs : starEach [a, b] X.env = [(false, eval a X.env), (false, eval b X.env)] := by rfl) (hs2 : starEach [b] X.env = [(false, eval b X.env)] := by rfl) :
    JI X tg (.Call (.Name "range" p) [a, b] [] pos) (iRng2 t) := ⟨pi_range2 hg hm ha.h hs hs2⟩
theorem ilist {tg l : Expr} (hl : JE X l te) : JI X tg l (iList X.K te) := ⟨pi_list hl.h⟩
theorem onone : JO X none tNoPart := ⟨po_none⟩
theorem osome (h : JE X e te) : JO X (some e) (tPart te) := ⟨po_some h.h⟩
end
section
variable {P : Program} {w : World} {K : PySem.W.Frag} {mg : Str → Option Value} {base : Heap}
theorem Fun.okJ {x qual : Str} {st : Stmt} {f : Addr} {fd : FuncData} {N ps : List Str} {k : Nat} {sp : Sp} (F : Fun K x qual st f fd) (S : FnScope N ps (defScope st)) (len : ∀ vs H Q E, sp vs H Q E → vs.length = ps.length)
    (hbody : ∀ (cdv : Value) (A : Around) (outer : List Env) (s : Shared) (H : Hp) (vs : List V) (Q : VK) (E : XK), Room k (A.deeper (envOfC qual (defScope st) s.heap.objs.size f cdv)) → sp vs H Q E →
      ∃ t, JB (cxOf CX0 P w K mg base N qual (defScope st) f cdv A outer s H E).nox (defBody st) t ∧ t { nx := fun _ H' => Q .non H', rt := Q } (start N vs) H) : FnOk P w K mg base CX0 (k + 1) f fd ps sp :=
  F.ok S len fun cdv A outer s H vs Q E hr h => let ⟨t, a, b⟩ := hbody cdv A outer s H vs Q E hr h; ⟨t, a.h, b⟩
end
end L2
set_option Elab.async false
set_option linter.all false
set_option maxRecDepth 100000
namespace L2
open PySem PySem.Spec PyProof.Rows
mutual
def Is (K : PySem.W.Frag) (H : Hp) : PyData → V → Prop
  | .none, v => v = .non
  | .bool b, v => v = .bl b
  | .int i, v => v = .int i
  | .str x, v => v = .str x
  | .list ds, v => ∃ a vs, v = .ref a ∧ SqL K H a vs ∧ IsAll K H ds vs
  | .tuple ds, v => ∃ a vs, v = .ref a ∧ SqT K H a vs ∧ IsAll K H ds vs
  | .dict _, _ => False
def IsAll (K : PySem.W.Frag) (H : Hp) : List PyData → List V → Prop
  | [], vs => vs = []
  | d :: ds, vs => ∃ v r, vs = v :: r ∧ Is K H d v ∧ IsAll K H ds r
end
section
variable {X : Cx} {pins : List (Addr × Obj)} {σ : St} {H : Hp} {s : Shared}
mutual
theorem Is.reads (I : Inv X pins σ H s) : ∀ {d : PyData} {v : V} {u : Value}, Is X.K H d v → RelV v u → ∃ as, Reads s.heap u d as
  | .none, v, u, h, r => by unfold Is at h; subst h; cases r; exact ⟨_, .none⟩
  | .bool b, v, u, h, r => by unfold Is at h; subst h; cases r; exact ⟨_, .bool b⟩
  | .int i, v, u, h, r => by unfold Is at h; subst h; obtain ⟨t, rfl⟩ := r; exact ⟨_, .int i t⟩
  | .str x, v, u, h, r => by unfold Is at h; subst h; obtain ⟨t, rfl⟩ := r; exact ⟨_, .str x t⟩
  | .list ds, v, u, h, r => by
    unfold Is at h
    obtain ⟨a, vs, rfl, hs, ha⟩ := h
    cases r
    obtain ⟨its, rv, ⟨o, n, e, hc, _, hd⟩, _⟩ := I.list hs
    obtain ⟨as, q⟩ := IsAll.reads I ha rv
    exact ⟨_, .list e hc hd (by simpa using q)⟩
  | .tuple ds, v, u, h, r => by
    unfold Is at h
    obtain ⟨a, vs, rfl, hs, ha⟩ := h
    cases r
    obtain ⟨its, rv, ⟨o, e, hc, n, hd⟩, _⟩ := I.tuple hs
    obtain ⟨as, q⟩ := IsAll.reads I ha rv
    exact ⟨_, .tuple e hc hd (by simpa using q)⟩
  | .dict _, v, u, h, r => by unfold Is at h; exact h.elim
theorem IsAll.reads (I : Inv X pins σ H s) : ∀ {ds : List PyData} {vs : List V} {us : List Value}, IsAll X.K H ds vs → Vals vs us → ∃ as, ReadsAll s.heap us ds as
  | [], vs, us, h, r => by unfold IsAll at h; subst h; cases r; exact ⟨_, .nil⟩
  | d :: ds, vs, us, h, r => by
    unfold IsAll at h
    obtain ⟨v, rs, rfl, h1, h2⟩ := h
    cases r with
    | cons r1 r2 =>
      obtain ⟨as, q1⟩ := Is.reads I h1 r1
      obtain ⟨bs, q2⟩ := IsAll.reads I h2 r2
      exact ⟨_, .cons q1 q2⟩
end
end
section
variable {X : Cx}
def rEqD (K : PySem.W.Frag) (neg : Bool) : R2 := fun x y H Q => ∃ d e, Is K H d x ∧ Is K H e y ∧ SeqAt.shaped d = true ∧ SeqAt.shaped e = true ∧ Q (.bl (if neg = true then !PyData.eqv d e else PyData.eqv d e)) H
end
mutual
def nob : PyData → Bool
  | .none => true
  | .bool _ => false
  | .int _ => true
  | .str _ => true
  | .list ds => nobAll ds
  | .tuple ds => nobAll ds
  | .dict _ => false
def nobAll : List PyData → Bool
  | [] => true
  | d :: ds => nob d && nobAll ds
end
mutual
theorem eqv_iff : ∀ {d e : PyData}, nob d = true → nob e = true → (PyData.eqv d e = true ↔ d = e)
  | .none, e, hd, he => by cases e <;> simp [PyData.eqv]
  | .bool _, e, hd, he => by simp [nob] at hd
  | .int i, e, hd, he => by cases e <;> simp [PyData.eqv, nob] at *
  | .str x, e, hd, he => by cases e <;> simp [PyData.eqv, nob] at *
  | .list ds, e, hd, he => by
    cases e with
    | list es =>
      simp only [nob] at hd he
      simp only [PyData.eqv, PyData.list.injEq]
      exact eqvAll_iff hd he
    | _ => simp [PyData.eqv]
  | .tuple ds, e, hd, he => by
    cases e with
    | tuple es =>
      simp only [nob] at hd he
      simp only [PyData.eqv, PyData.tuple.injEq]
      exact eqvAll_iff hd he
    | _ => simp [PyData.eqv]
  | .dict _, e, hd, he => by simp [nob] at hd
theorem eqvAll_iff : ∀ {ds es : List PyData}, nobAll ds = true → nobAll es = true → (PyData.eqvAll ds es = true ↔ ds = es)
  | [], es, _, _ => by cases es <;> simp [PyData.eqvAll]
  | d :: ds, es, hd, he => by
    cases es with
    | nil => simp [PyData.eqvAll]
    | cons e es =>
      simp only [nobAll, Bool.and_eq_true] at hd he
      simp only [PyData.eqvAll, Bool.and_eq_true, List.cons.injEq]
      rw [eqv_iff hd.1 he.1, eqvAll_iff hd.2 he.2]
end
mutual
theorem Is.same {K : PySem.W.Frag} {H H' : Hp} (h : Same H H') : ∀ {d : PyData} {v : V}, Is K H d v → Is K H' d v
  | .none, v, q => by unfold Is at q ⊢; exact q
  | .bool b, v, q => by unfold Is at q ⊢; exact q
  | .int i, v, q => by unfold Is at q ⊢; exact q
  | .str x, v, q => by unfold Is at q ⊢; exact q
  | .list ds, v, q => by
    unfold Is at q ⊢
    obtain ⟨a, vs, e, hs, ha⟩ := q
    exact ⟨a, vs, e, h.seq hs, IsAll.same h ha⟩
  | .tuple ds, v, q => by
    unfold Is at q ⊢
    obtain ⟨a, vs, e, hs, ha⟩ := q
    refine ⟨a, vs, e, ?_, IsAll.same h ha⟩
    rcases hs with (hs | ⟨o, hs⟩) | hs
    · exact .inl (.inl (h _ _ hs))
    · exact .inl (.inr ⟨o, h _ _ hs⟩)
    · exact .inr hs
  | .dict _, v, q => by unfold Is at q; exact q.elim
theorem IsAll.same {K : PySem.W.Frag} {H H' : Hp} (h : Same H H') : ∀ {ds : List PyData} {vs : List V}, IsAll K H ds vs → IsAll K H' ds vs
  | [], vs, q => by unfold IsAll at q ⊢; exact q
  | d :: ds, vs, q => by
    unfold IsAll at q ⊢
    obtain ⟨v, r, e, h1, h2⟩ := q
    exact ⟨v, r, e, Is.same h h1, IsAll.same h h2⟩
end
end L2
set_option Elab.async false
set_option linter.all false
set_option maxRecDepth 100000
namespace L2
open PySem PySem.Spec PyProof.Rows
theorem absV_rel : ∀ {u : Value} {x : V}, absV u = some x → RelV x u := by
  intro u x h
  cases u <;> simp only [absV, Option.some.injEq] at h <;> first | (subst h; first | rfl | exact ⟨_, rfl⟩) | cases h
theorem absV_all : ∀ {us : List Value} {xs : List V}, us.mapM absV = some xs → Vals xs us := by
  intro us
  induction us with
  | nil => intro xs h; simp at h; subst h; exact .nil
  | cons u us ih =>
    intro xs h
    rw [List.mapM_cons] at h
    cases e1 : absV u with
    | none => rw [e1] at h; simp at h
    | some x =>
      cases e2 : us.mapM absV with
      | none => rw [e1, e2] at h; simp at h
      | some ys =>
        rw [e1, e2] at h
        simp at h
        subst h
        exact .cons (absV_rel e1) (ih e2)
def kTup (K : PySem.W.Frag) (a : Addr) : Option (List V) := match K.lookup a with
  | some ⟨.type n, _, .seq its _, _⟩ => if n = "tuple" then (if its.size ≤ sizeLine then its.toList.mapM absV else none) else none
  | _ => none
theorem kTup_sq {K : PySem.W.Frag} {H : Hp} {a : Addr} {xs : List V} (h : kTup K a = some xs) : SqT K H a xs := by
  unfold kTup at h
  split at h
  · next n dd its k sl e =>
    by_cases h1 : n = "tuple"
    · rw [if_pos h1] at h
      by_cases h2 : its.size ≤ sizeLine
      · rw [if_pos h2] at h
        subst h1
        exact .inr ⟨_, its, k, e, rfl, rfl, h2, absV_all h⟩
      · rw [if_neg h2] at h; cases h
    · rw [if_neg h1] at h; cases h
  · cases h
def tupQ (K : PySem.W.Frag) (H : Hp) (a : Addr) : Option (List V) := match H a with
  | some (.tup xs) => some xs
  | some _ => none
  | none => kTup K a
def seqQ (K : PySem.W.Frag) (H : Hp) (a : Addr) : Option (List V) := match H a with
  | some (.lst xs) => some xs
  | some (.tup xs) => some xs
  | some (.frz _ (.lst xs)) => some xs
  | some _ => none
  | none => kTup K a
section
variable {K : PySem.W.Frag} {H H' : Hp} {a b : Addr} {xs : List V} {o : HO}
theorem tupQ_sq (h : tupQ K H a = some xs) : SqT K H a xs := by
  unfold tupQ at h
  split at h
  · next e => cases h; exact .inl (.inl e)
  · cases h
  · exact kTup_sq h
theorem seqQ_sq (h : seqQ K H a = some xs) : SqL K H a xs ∨ SqT K H a xs := by
  unfold seqQ at h
  split at h
  · next e => cases h; exact .inl (.inl (.inl e))
  · next e => cases h; exact .inr (.inl (.inl e))
  · next e => cases h; exact .inl (.inl (.inr ⟨_, e⟩))
  · cases h
  · exact .inr (kTup_sq h)
theorem seqQ_T (h : tupQ K H a = some xs) : seqQ K H a = some xs := by
  unfold tupQ at h
  unfold seqQ
  split at h
  · next e => rw [e]; exact h
  · cases h
  · next e => rw [e]; exact h
theorem seqQ_lst (h : H a = some (.lst xs)) : seqQ K H a = some xs := by unfold seqQ; rw [h]
theorem seqQ_tup (h : H a = some (.tup xs)) : seqQ K H a = some xs := by unfold seqQ; rw [h]
theorem tupQ_tup (h : H a = some (.tup xs)) : tupQ K H a = some xs := by unfold tupQ; rw [h]
theorem seqQ_updL : seqQ K (upd H a (.lst xs)) a = some xs := seqQ_lst upd_same
theorem seqQ_updT : seqQ K (upd H a (.tup xs)) a = some xs := seqQ_tup upd_same
theorem tupQ_updT : tupQ K (upd H a (.tup xs)) a = some xs := tupQ_tup upd_same
theorem tupQ_ne (h : b ≠ a) : tupQ K (upd H a o) b = tupQ K H b := by unfold tupQ; rw [upd_ne h]
structure Ext (K : PySem.W.Frag) (H H' : Hp) : Prop where
  same : Same H H'
  mod : ∀ a xs, H a = none → kTup K a = some xs → H' a = none
theorem Ext.refl : Ext K H H := ⟨Same.refl H, fun _ _ h _ => h⟩
theorem Ext.trans {H1 H2 : Hp} (x : Ext K H H1) (y : Ext K H1 H2) : Ext K H H2 := ⟨x.same.trans y.same, fun a xs h k => y.mod a xs (x.mod a xs h k) k⟩
theorem Ext.tup (x : Ext K H H') (h : tupQ K H a = some xs) : tupQ K H' a = some xs := by
  unfold tupQ at h ⊢
  split at h
  · next e => rw [x.same _ _ e]; exact h
  · cases h
  · next e => rw [x.mod a xs e h]; exact h
end
section
variable {X : Cx}
def rIxQ (K : PySem.W.Frag) : R2 := fun x y H Q => ∃ p i xs v, x = .ref p ∧ y = .int i ∧ seqQ K H p = some xs ∧ atI xs i = some v ∧ Q v H
theorem ix_Q : IxR X (rIxQ X.K) := by
  intro value slice pins s σ H x y v u Q I rx ry h hs
  obtain ⟨p, i, xs, z, rfl, rfl, hq, he, q⟩ := h
  rcases seqQ_sq (K := X.K) hq with h1 | h1
  · exact ix_list value slice pins s σ H _ _ v u Q I rx ry ⟨p, xs, i, z, rfl, rfl, h1, he, q⟩ hs
  · exact ix_tup value slice pins s σ H _ _ v u Q I rx ry ⟨p, xs, i, z, rfl, rfl, h1, he, q⟩ hs
theorem call_lenQ : CallR X (.builtin "len") (fun xs H Q => ∃ p ys, xs = [.ref p] ∧ seqQ X.K H p = some ys ∧ Q (.int ys.length) H) := by
  intro pins s σ H xs us Q I r h
  obtain ⟨p, ys, rfl, hq, q⟩ := h
  exact call_len_seq pins s σ H _ us Q I r ⟨p, ys, rfl, seqQ_sq hq, q⟩
end
end L2
namespace L2
open PySem PySem.Spec PyProof.Rows
def new (K : PySem.W.Frag) (H : Hp) (p : Addr) : Prop := H p = none ∧ kTup K p = none
theorem new_upd {K : PySem.W.Frag} {H : Hp} {a p : Addr} {o : HO} : new K (upd H a o) p ↔ p ≠ a ∧ new K H p := by
  unfold new
  rw [upd_none, and_assoc]
theorem kTup_none {K : PySem.W.Frag} {a : Addr} (h : K.lookup a = none) : kTup K a = none := by unfold kTup; rw [h]
section
variable {X : Cx} {es : List Expr} {t : TA} {pos : Pos} {pins : List (Addr × Obj)} {σ : St} {H : Hp} {s : Shared}
theorem Inv.new (I : Inv X pins σ H s) : L2.new X.K H s.heap.objs.size := by
  refine ⟨I.hok.fresh (Nat.le_refl _), kTup_none ?_⟩
  cases e : X.K.lookup s.heap.objs.size with
  | none => rfl
  | some o => exact absurd (Heap.lt_size (I.kIn _ o e)) (Nat.lt_irrefl _)
def tTupQ (K : PySem.W.Frag) (t : TA) : TE := fun σ H Q => t σ H fun xs H1 => xs.length ≤ sizeLine ∧ ∀ p, L2.new K H1 p → Q (.ref p) (upd H1 p (.tup xs))
def tLstQ (K : PySem.W.Frag) (t : TA) : TE := fun σ H Q => t σ H fun xs H1 => xs.length ≤ sizeLine ∧ ∀ p, L2.new K H1 p → Q (.ref p) (upd H1 p (.lst xs))
theorem etupQ {k} (h : JA X es t) : JE X (.Tuple es k pos) (tTupQ X.K t) := ⟨by
  intro pins s σ H Q I hq
  refine wpAny_Tuple_spliced (thn (h.h pos pins s σ H _ I hq) fun us s1 ⟨xs, H1, I1, r, z, q⟩ => ⟨by rw [← r.length]; exact z, ?_⟩)
  refine ⟨.ref s1.heap.objs.size, upd H1 s1.heap.objs.size (.tup xs), I1.laid (t' := s1.toks) (fun b u e => Heap.get?_push_of_some _ e) (Nat.le_refl _) ?_, rfl, q _ I1.new⟩
  exact ⟨z, us, r, ⟨_, Heap.get?_push_size _ rfl, rfl, _, rfl⟩⟩⟩
theorem elstQ (h : JA X es t) : JE X (.List es pos) (tLstQ X.K t) := ⟨by
  intro pins s σ H Q I hq
  refine wpAny_List_spliced (thn (h.h pos pins s σ H _ I hq) fun us s1 ⟨xs, H1, I1, r, z, q⟩ => ⟨by rw [← r.length]; exact z, ?_⟩)
  refine ⟨.ref s1.heap.objs.size, upd H1 s1.heap.objs.size (.lst xs), I1.laid (t' := s1.toks) (fun b u e => Heap.get?_push_of_some _ e) (Nat.le_refl _) ?_, rfl, q _ I1.new⟩
  exact ⟨z, us, 0, r, Heap.get?_push_size _ rfl⟩⟩
theorem snever {st : Stmt} : JS X st tNever := ⟨ps_never⟩
def rCatQ (K : PySem.W.Frag) : R2 := fun x y H Q => ∃ l b xs zs, x = .ref l ∧ y = .ref b ∧ H l = some (.lst xs) ∧ H b = some (.lst zs) ∧ xs.length + zs.length ≤ sizeLine ∧ ∀ p, L2.new K H p → Q (.ref p) (upd H p (.lst (xs ++ zs)))
theorem op_catQ : OpR X (binaryOp .Add) (rCatQ X.K) := by
  intro pins s σ H x y v u Q I rx ry h
  obtain ⟨l, b, xs, zs, rfl, rfl, hH, hB, hz, q⟩ := h
  cases rx
  cases ry
  obtain ⟨z, its, n, r, hl, e⟩ := I.lstM hH
  obtain ⟨z2, its2, n2, r2, hl2, e2⟩ := I.lstM hB
  refine PySem.P.add_list e e2 ?_ (by rw [List.size_toArray, List.size_toArray]; omega)
  have ea : its.toArray ++ its2.toArray = (its ++ its2).toArray := by simp
  rw [ea]
  exact ⟨.ref _, _, I.lnew (t' := s.toks) (r.append r2) (by rw [List.length_append]; omega), rfl, q _ I.new⟩
end
structure Kp (K : PySem.W.Frag) (p : Addr) (H H' : Hp) : Prop where
  keep : ∀ q o, H q = some o → q ≠ p → H' q = some o
  mod : ∀ a xs, H a = none → kTup K a = some xs → H' a = none
section
variable {K : PySem.W.Frag} {p a : Addr} {H H' H1 H2 : Hp} {xs ys : List V} {o : HO}
theorem Kp.refl : Kp K p H H := ⟨fun _ _ h _ => h, fun _ _ h _ => h⟩
theorem Kp.trans (x : Kp K p H H1) (y : Kp K p H1 H2) : Kp K p H H2 := ⟨fun q o h n => y.keep q o (x.keep q o h n) n, fun a xs h k => y.mod a xs (x.mod a xs h k) k⟩
theorem Kp.upd (h : H p = some (.lst xs)) : Kp K p H (upd H p o) := ⟨fun q u e n => by rw [upd_ne n]; exact e, fun b ys e _ => by rw [upd_ne (fun z => by rw [z, h] at e; cases e)]; exact e⟩
theorem Kp.new {q : Addr} (h : L2.new K H q) : Kp K p H (L2.upd H q o) := ⟨fun r u e _ => by rw [upd_ne (ne_of_none e h.1)]; exact e, fun b ys e k => by rw [upd_ne (fun z => by rw [z, h.2] at k; cases k)]; exact e⟩
theorem Kp.tup (x : Kp K p H H') (hp : H p = some (.lst ys)) (h : tupQ K H a = some xs) : tupQ K H' a = some xs := by
  unfold tupQ at h ⊢
  split at h
  · next e => rw [x.keep _ _ e (ne_of e hp (by intro z; cases z))]; exact h
  · cases h
  · next e => rw [x.mod a xs e h]; exact h
theorem Ext.new {q : Addr} (h : L2.new K H q) : Ext K H (L2.upd H q o) := ⟨fun b u e => by rw [upd_ne (ne_of_none e h.1)]; exact e, fun b ys e k => by rw [upd_ne (fun z => by rw [z, h.2] at k; cases k)]; exact e⟩
theorem Kp.ext (x : Kp K p (L2.upd H p o) H') (h : L2.new K H p) : Ext K H H' := by
  refine ⟨fun b u e => ?_, fun b ys e k => ?_⟩
  · have n : b ≠ p := ne_of_none e h.1
    exact x.keep b u (by rw [upd_ne n]; exact e) n
  · exact x.mod b ys (by rw [upd_ne (fun z => by rw [z, h.2] at k; cases k)]; exact e) k
theorem Ext.kp (x : Ext K H H') : Kp K p H H' := ⟨fun q o e _ => x.same q o e, x.mod⟩
end
end L2
namespace L2
open PySem PySem.Spec PyProof.Rows
section
variable {K : PySem.W.Frag} {p a : Addr} {H H' : Hp} {xs : List V}
end
end L2
namespace L2
open PySem PySem.Spec PyProof.Rows
def TyQ (K : PySem.W.Frag) (H : Hp) (x : V) (t : Value) : Prop := TyOf K H x t ∨ ∃ a xs, x = .ref a ∧ tupQ K H a = some xs ∧ t = .type "tuple"
theorem TyQ.tup {K : PySem.W.Frag} {H : Hp} {a : Addr} {xs : List V} (h : tupQ K H a = some xs) : TyQ K H (.ref a) (.type "tuple") := .inr ⟨a, xs, rfl, h, rfl⟩
section
variable {X : Cx}
theorem call_isinstQ : CallR X (.builtin "isinstance") (fun xs H Q => ∃ x n t b, xs = [x, .ty n] ∧ TyQ X.K H x t ∧ PySem.W.kitOne X.K t (.type n) = some b ∧ Q (.bl b) H) := by
  intro pins s σ H xs us Q I r h
  obtain ⟨x, n, t, b, rfl, ty, e, q⟩ := h
  obtain ⟨u, w', rfl, ru, rw'⟩ := vals2 r
  cases rw'
  rcases ty with ty | ⟨a, ys, rfl, hq, rfl⟩
  · exact isinst_ok I ru ty e fun tk => ⟨.bl b, H, I.tok tk, rfl, q⟩
  · cases (show u = Value.ref a from ru)
    obtain ⟨its, _, ⟨o, h1, h2, _⟩, _⟩ := I.tuple (tupQ_sq hq)
    exact PySem.W.kia_one PySem.W.kitx_tuple I.kIn ⟨o, h1, h2⟩ e (fun z => nomatch z) fun tk => ⟨.bl b, H, I.tok tk, rfl, q⟩
end
end L2
namespace L2
open PySem PySem.Spec PyProof.Rows
section
variable {X : Cx}
def rInQ (K : PySem.W.Frag) (neg : Bool) : R2 := fun x y H Q => ∃ p xs, y = .ref p ∧ seqQ K H p = some xs ∧ flatV x = true ∧ xs.all flatV = true ∧ Q (.bl (if neg = true then !inV x xs else inV x xs)) H
end
end L2
namespace L2
open PySem PySem.Spec PyProof.Rows
def ModFree (K : PySem.W.Frag) (H : Hp) : Prop := ∀ b xs, kTup K b = some xs → H b = none
theorem kTup_look {K : PySem.W.Frag} {a : Addr} {xs : List V} (h : kTup K a = some xs) : ∃ o, K.lookup a = some o := by
  cases e : K.lookup a with
  | none => rw [kTup_none e] at h; cases h
  | some o => exact ⟨o, rfl⟩
theorem FnOk.mod {P : Program} {w : World} {K : PySem.W.Frag} {mg : Str → Option Value} {base : Heap} {CX : CXT} {k : Nat} {f : Addr} {fd : FuncData} {ps : List Str} {sp : Sp} (len : ∀ vs H Q E, sp vs H Q E → vs.length = ps.length)
    (F : FnOk P w K mg base CX k f fd ps (fun vs H Q E => sp vs H Q E ∧ ModFree K H)) : FnOk P w K mg base CX k f fd ps sp :=
  ⟨len, fun A outer s H args us vs Q E hr e0 hb r h => F.run A outer s H args us vs Q E hr e0 hb r ⟨h, fun b xs hk => by
    obtain ⟨o, e⟩ := kTup_look hk
    exact (e0.bs b o (e0.mod.kin b o e)).2⟩⟩
section
variable {P : Program} {w : World} {K : PySem.W.Frag} {mg : Str → Option Value} {base : Heap}
end
theorem ModFree.tup {K : PySem.W.Frag} {H : Hp} {a : Addr} {xs : List V} (m : ModFree K H) (h : kTup K a = some xs) : tupQ K H a = some xs := by
  unfold tupQ
  rw [m a xs h]
  exact h
theorem ModFree.ext {K : PySem.W.Frag} {H H' : Hp} (m : ModFree K H) (x : Ext K H H') : ModFree K H' := fun b xs h => x.mod b xs (m b xs h) h
end L2
namespace L2
open PySem PySem.Spec PyProof.Rows
section
variable {X : Cx} {tg : Expr}
end
section
variable {K : PySem.W.Frag} {ta : TA} {g : TG} {tb : TS} {D : Ends} {σ : St} {H : Hp} {lo stp : Int} {n : Nat}
end
end L2
namespace L2
open PySem PySem.Spec PyProof.Rows
section
variable {X : Cx}
def rSlQ (K : PySem.W.Frag) : V → Option Int → Option Int → Hp → VK → Prop := fun x lo hi H Q => ∃ a xs, x = .ref a ∧ SqL K H a xs ∧ ∀ p, L2.new K H p → Q (.ref p) (upd H p (.lst (cutV xs lo hi)))
theorem sl_listQ : SlR X (rSlQ X.K) := by
  intro pins s σ H x v vl vu lo hi sl Q I rx hs pl pu h
  obtain ⟨a, xs, rfl, hx, q⟩ := h
  cases rx
  obtain ⟨its, r, ht, hz⟩ := I.list hx
  have hlen := r.length
  refine ⟨"list", _, slot_list_getitem.lookup, ht.isList.typeIs, ?_⟩
  refine wpAny_getItem_list_slice ht.isList hs pl pu .none (by simp) ?_ (by rw [List.size_toArray] <;> omega)
  rw [slicePick_cut, ← hlen]
  refine ⟨.ref s.heap.objs.size, _, I.laid (t' := s.toks) (o := .lst (cutV xs lo hi)) (fun b ob q => Heap.get?_push_of_some _ q) (Nat.le_refl _) ?_, rfl, q _ I.new⟩
  exact ⟨Nat.le_trans (cutV_length xs lo hi) hz, _, 0, (r.drop (HT.sIx xs.length 0 lo)).take (HT.sIx xs.length xs.length hi - HT.sIx xs.length 0 lo), Heap.get?_push_size _ rfl⟩
end
end L2
set_option Elab.async false
set_option linter.all false
set_option maxRecDepth 100000
namespace L2
open PySem PySem.Spec PyProof.Rows
section
variable {X : Cx} {es : List Expr} {pos : Pos}
def gTupQ (K : PySem.W.Frag) (n : Nat) (t : TGs) : TG := fun v σ H Q => ∃ a xs, v = .ref a ∧ tupQ K H a = some xs ∧ xs.length = n ∧ t xs σ H Q
theorem gtupQ {k : Nat} {t : TGs} {n : Nat} (hc : X.calm = true) (h : JGs X es t) (hn : (assignEach es X.env).length = n := by rfl) (hst : (assignEach es X.env).findIdx? (·.1) = none := by rfl) : JG X (.Tuple es k pos) (gTupQ X.K n t) :=
  ⟨fun pins s σ H v u Q I r ⟨a, xs, e, h1, h2, h3⟩ => pg_tup hc h.h hn hst pins s σ H v u Q I r ⟨a, xs, e, tupQ_sq h1, h2, h3⟩⟩
end
end L2
namespace L2
open PySem PySem.Spec PyProof.Rows
theorem cutV_to (xs : List V) (k : Nat) : cutV xs none (some (k : Int)) = xs.take k := by
  unfold cutV
  rw [HT.sIx_none, HT.sIx_nat, List.drop_zero, Nat.sub_zero]
  by_cases h : k ≤ xs.length
  · rw [Nat.min_eq_left h]
  · rw [Nat.min_eq_right (by omega), List.take_of_length_le (Nat.le_refl _), List.take_of_length_le (by omega)]
theorem cutV_from (xs : List V) (k : Nat) : cutV xs (some (k : Int)) none = xs.drop k := by
  unfold cutV
  rw [HT.sIx_none, HT.sIx_nat]
  by_cases h : k ≤ xs.length
  · rw [Nat.min_eq_left h, List.take_of_length_le (by rw [List.length_drop]; exact Nat.le_refl _)]
  · rw [Nat.min_eq_right (by omega), List.drop_of_length_le (Nat.le_refl _), List.drop_of_length_le (by omega)]; simp
end L2
namespace L2
open PySem PySem.Spec PyProof.Rows
theorem Ext.at {K : PySem.W.Frag} {H H' : Hp} {a : Addr} {o : HO} (x : Ext K H H') (h : H a = some o) : H' a = some o := x.same _ _ h
theorem Ext.seqQ {K : PySem.W.Frag} {H H' : Hp} {a : Addr} {xs : List V} (x : Ext K H H') (h : seqQ K H a = some xs) : seqQ K H' a = some xs := by
  unfold L2.seqQ at h ⊢
  split at h
  · next e => rw [x.same _ _ e]; exact h
  · next e => rw [x.same _ _ e]; exact h
  · next e => rw [x.same _ _ e]; exact h
  · cases h
  · next e => rw [x.mod a xs e h]; exact h
end L2
namespace L2
open PySem PySem.Spec PyProof.Rows
structure Kp2 (K : PySem.W.Frag) (p q : Addr) (H H' : Hp) : Prop where
  keep : ∀ r o, H r = some o → r ≠ p → r ≠ q → H' r = some o
  mod : ∀ a xs, H a = none → kTup K a = some xs → H' a = none
section
variable {K : PySem.W.Frag} {p q : Addr} {H H' H1 H2 : Hp} {o o' : HO}
theorem Kp.l (x : Kp K p H H') : Kp2 K p q H H' := ⟨fun r o h n _ => x.keep r o h n, x.mod⟩
theorem Kp.r (x : Kp K q H H') : Kp2 K p q H H' := ⟨fun r o h _ n => x.keep r o h n, x.mod⟩
theorem Ext.kp2 (x : Ext K H H') : Kp2 K p q H H' := ⟨fun r o h _ _ => x.same r o h, x.mod⟩
theorem Kp2.trans (x : Kp2 K p q H H1) (y : Kp2 K p q H1 H2) : Kp2 K p q H H2 := ⟨fun r o h n m => y.keep r o (x.keep r o h n m) n m, fun a xs h k => y.mod a xs (x.mod a xs h k) k⟩
theorem Kp2.ext (x : Kp2 K p q (L2.upd (L2.upd H p o) q o') H') (hp : L2.new K H p) (hq : L2.new K (L2.upd H p o) q) : Ext K H H' := by
  have y : Ext K H (L2.upd (L2.upd H p o) q o') := (Ext.new hp).trans (Ext.new hq)
  refine ⟨fun b u e => ?_, fun b ys e k => x.mod b ys (y.mod b ys e k) k⟩
  have n : b ≠ p := ne_of_none e hp.1
  have m : b ≠ q := ne_of_none ((Ext.new hp).at e) hq.1
  exact x.keep b u (y.at e) n m
end
end L2
set_option Elab.async false
set_option linter.all false
set_option maxRecDepth 100000
namespace L2
open PySem PySem.Spec PyProof.Rows
def closL (env : Env) : List (Str × NameKind) → List (Str × Addr) → List (Str × Addr)
  | [], cs => cs
  | (n, k) :: r, cs => closL env r (if (k == NameKind.free) = true then (match env.cells.lookup n with | some a => (n, a) :: cs | none => cs) else cs)
theorem closureFor_eq {scope : Scope} {env : Env} (h : ∀ x ∈ scope.names, x.2 = .free → ∃ c, env.cells.lookup x.1 = some c) : closureFor scope env = pure (closL env scope.names []) := by
  unfold closureFor
  generalize scope.names = names at h ⊢
  generalize ([] : List (Str × Addr)) = cs
  induction names generalizing cs with
  | nil => rfl
  | cons x r ih =>
    obtain ⟨n, k⟩ := x
    have ih' := fun cs => ih (cs := cs) fun x hx => h x (List.mem_cons_of_mem _ hx)
    simp only [List.forIn_cons]
    cases hk : (k == NameKind.free) with
    | false =>
      simp only [closL, hk]
      exact ih' cs
    | true =>
      obtain ⟨c, hc⟩ := h (n, k) (List.mem_cons_self) (by simpa using hk)
      simp only [closL, hk, hc, cellOf]
      exact ih' _
theorem closL_mem {env : Env} : ∀ {names : List (Str × NameKind)} {cs : List (Str × Addr)} {n : Str} {c : Addr}, (n, c) ∈ closL env names cs → (n, c) ∈ cs ∨ env.cells.lookup n = some c
  | [], cs, n, c, h => .inl h
  | (m, k) :: r, cs, n, c, h => by
    rw [closL] at h
    rcases closL_mem h with h | h
    · split at h
      · split at h
        · next a e =>
          rcases List.mem_cons.mp h with z | z
          · cases z; exact .inr e
          · exact .inl z
        · exact .inl h
      · exact .inl h
    · exact .inr h
theorem closL_sub {env : Env} : ∀ {names : List (Str × NameKind)} {cs : List (Str × Addr)} {p : Str × Addr}, p ∈ cs → p ∈ closL env names cs
  | [], cs, p, h => h
  | (m, k) :: r, cs, p, h => by
    rw [closL]
    refine closL_sub ?_
    split
    · split
      · exact List.mem_cons_of_mem _ h
      · exact h
    · exact h
theorem closL_has {env : Env} : ∀ {names : List (Str × NameKind)} {cs : List (Str × Addr)} {n : Str} {c : Addr}, (n, NameKind.free) ∈ names → env.cells.lookup n = some c → (n, c) ∈ closL env names cs
  | (m, k) :: r, cs, n, c, h, e => by
    rw [closL]
    rcases List.mem_cons.mp h with z | z
    · cases z
      rw [if_pos (by decide), e]
      exact closL_sub List.mem_cons_self
    · exact closL_has z e
theorem lookup_mem {α : Type} : ∀ {l : List (Str × α)} {n : Str} {c : α}, l.lookup n = some c → (n, c) ∈ l
  | (m, d) :: r, n, c, h => by
    rw [List.lookup_cons] at h
    cases e : n == m with
    | true =>
      rw [e] at h
      cases h
      rw [eq_of_beq e]
      exact List.mem_cons_self
    | false =>
      rw [e] at h
      exact List.mem_cons_of_mem _ (lookup_mem h)
theorem mem_lookup {α : Type} : ∀ {l : List (Str × α)} {n : Str} {c : α}, (n, c) ∈ l → ∃ d, l.lookup n = some d
  | (m, d) :: r, n, c, h => by
    rw [List.lookup_cons]
    cases e : n == m with
    | true => exact ⟨d, rfl⟩
    | false =>
      rcases List.mem_cons.mp h with z | z
      · cases z
        rw [beq_self_eq_true] at e; cases e
      · exact mem_lookup z
theorem clos_look {env : Env} {names : List (Str × NameKind)} {n : Str} {c : Addr} (h : (closL env names []).lookup n = some c) : env.cells.lookup n = some c := by
  rcases closL_mem (lookup_mem h) with z | z
  · cases z
  · exact z
theorem clos_has {env : Env} {names : List (Str × NameKind)} {n : Str} {c : Addr} (h : (n, NameKind.free) ∈ names) (e : env.cells.lookup n = some c) : (closL env names []).lookup n = some c := by
  obtain ⟨d, hd⟩ := mem_lookup (closL_has (cs := []) h e)
  rw [hd]
  exact (clos_look hd).symm.trans e ▸ rfl
theorem relabel_free {env : Env} : ∀ {names : List (Str × NameKind)} {x : Str}, names.lookup x = some .free →
    (names.map fun (n, k) => if (k == NameKind.free && env.scope.kind == .function && env.kindOf n == some .cell) then (n, NameKind.cell) else (n, k)).lookup x = some .cell ∨
    (names.map fun (n, k) => if (k == NameKind.free && env.scope.kind == .function && env.kindOf n == some .cell) then (n, NameKind.cell) else (n, k)).lookup x = some .free
  | [], _, h => by simp at h
  | (n, k) :: r, x, h => by
    have ih := @relabel_free env r x
    show List.lookup x ((if (k == NameKind.free && env.scope.kind == .function && env.kindOf n == some .cell) = true then (n, NameKind.cell) else (n, k)) :: _) = _ ∨ List.lookup x ((if (k == NameKind.free && env.scope.kind == .function && env.kindOf n == some .cell) = true then (n, NameKind.cell) else (n, k)) :: _) = _
    cases hx : x == n with
    | true =>
      simp only [List.lookup_cons, hx] at h
      cases h
      split
      · simp [List.lookup_cons, hx]
      · simp [List.lookup_cons, hx]
    | false =>
      simp only [List.lookup_cons, hx] at h
      split
      · simp only [List.lookup_cons, hx]; exact ih h
      · simp only [List.lookup_cons, hx]; exact ih h
theorem relabel_mem {env : Env} : ∀ {names : List (Str × NameKind)} {x : Str} {kk : NameKind}, (∀ y ∈ names, y.2 ≠ .cell) →
    (names.map fun (n, k) => if (k == NameKind.free && env.scope.kind == .function && env.kindOf n == some .cell) then (n, NameKind.cell) else (n, k)).lookup x = some kk → kk = .cell ∨ kk = .free → (x, NameKind.free) ∈ names
  | [], _, _, _, h, _ => by simp at h
  | (n, k) :: r, x, kk, hc, h, hk => by
    have ih := @relabel_mem env r x kk fun y hy => hc y (List.mem_cons_of_mem _ hy)
    change List.lookup x ((if (k == NameKind.free && env.scope.kind == .function && env.kindOf n == some .cell) = true then (n, NameKind.cell) else (n, k)) :: _) = _ at h
    cases hx : x == n with
    | true =>
      have e := eq_of_beq hx
      subst e
      split at h
      · next q =>
        simp only [Bool.and_eq_true, beq_iff_eq] at q
        rw [q.1.1]
        exact List.mem_cons_self
      · simp only [List.lookup_cons, hx] at h
        cases h
        rcases hk with z | z
        · exact absurd z (hc _ List.mem_cons_self)
        · rw [z]; exact List.mem_cons_self
    | false =>
      refine List.mem_cons_of_mem _ (ih ?_ hk)
      split at h
      · simp only [List.lookup_cons, hx] at h; exact h
      · simp only [List.lookup_cons, hx] at h; exact h
def Cx.comp (X : Cx) (N : List Str) (scope : Scope) (C : Addr) (s : Shared) (H : Hp) (fp : List Addr) : Cx :=
  { X with N := N, s₀ := s, H₀ := H, env := compEnvC scope (closL X.env scope.names []) C X.env, outer := X.stack, ex := fp, fn := fun _ => false, pn := [], xe := fun _ _ => False }
def pick (σ : St) (src : List (Option Nat)) : St := src.map fun o => match o with | none => none | some j => (σ[j]?).join
def capOk (NX : List Str) (scX sc : Scope) (N : List Str) (src : List (Option Nat)) : Bool :=
  sc.names.all (fun x => x.2 != .cell) && sc.names.all (fun x => x.2 != .local || sc.names.lookup x.1 == some .local) &&
  sc.names.all (fun x => x.2 != .free || (scX.names.lookup x.1 == some .cell || scX.names.lookup x.1 == some .free)) && N.length == src.length &&
  (N.zip src).all (fun p => match p.2 with | none => true | some j => NX[j]? == some p.1 && (scX.names.lookup p.1 == some .cell || scX.names.lookup p.1 == some .free) && sc.names.lookup p.1 == some .free)
structure Cap (X : Cx) (sc : Scope) (N : List Str) (src : List (Option Nat)) : Prop where
  kind : sc.kind = .function
  ok : capOk X.N X.env.scope sc N src = true
section
variable {X : Cx} {sc : Scope} {N : List Str} {src : List (Option Nat)}
theorem Cap.cell (c : Cap X sc N src) : ∀ y ∈ sc.names, y.2 ≠ .cell := fun y hy => by
  have h := c.ok
  simp only [capOk, Bool.and_eq_true, List.all_eq_true] at h
  simpa using h.1.1.1.1 y hy
theorem Cap.names (c : Cap X sc N src) : ∀ y ∈ sc.names, y.2 = .local → sc.names.lookup y.1 = some .local := fun y hy e => by
  have h := c.ok
  simp only [capOk, Bool.and_eq_true, List.all_eq_true] at h
  have q := h.1.1.1.2 y hy
  rw [e] at q
  simpa using q
theorem Cap.free (c : Cap X sc N src) {x : Str} (hx : (x, NameKind.free) ∈ sc.names) : X.env.kindOf x = some .cell ∨ X.env.kindOf x = some .free := by
  have h := c.ok
  simp only [capOk, Bool.and_eq_true, List.all_eq_true] at h
  have q := h.1.1.2 _ hx
  simpa [Env.kindOf] using q
theorem Cap.len (c : Cap X sc N src) : N.length = src.length := by
  have h := c.ok
  simp only [capOk, Bool.and_eq_true, List.all_eq_true] at h
  simpa using h.1.2
theorem Cap.at_ (c : Cap X sc N src) {i j : Nat} {x : Str} (h1 : N[i]? = some x) (h2 : src[i]? = some (some j)) : X.N[j]? = some x ∧ (X.env.kindOf x = some .cell ∨ X.env.kindOf x = some .free) ∧ sc.names.lookup x = some .free := by
  have h := c.ok
  simp only [capOk, Bool.and_eq_true, List.all_eq_true] at h
  have m : (x, some j) ∈ N.zip src := by
    refine List.mem_of_getElem? (i := i) ?_
    rw [List.getElem?_zip_eq_some]
    exact ⟨h1, h2⟩
  have q := h.2 _ m
  simp only [Bool.and_eq_true, Bool.or_eq_true, beq_iff_eq] at q
  exact ⟨q.1.1, q.1.2, q.2⟩
theorem pick_some {σ : St} {i : Nat} {v : V} (h : (pick σ src)[i]? = some (some v)) : ∃ j, src[i]? = some (some j) ∧ σ[j]? = some (some v) := by
  unfold pick at h
  rw [List.getElem?_map] at h
  cases e : src[i]? with
  | none => rw [e] at h; cases h
  | some o =>
    rw [e] at h
    cases o with
    | none => simp at h
    | some j =>
      refine ⟨j, rfl, ?_⟩
      simp only [Option.map_some, Option.some.injEq] at h
      cases e2 : σ[j]? with
      | none => rw [e2] at h; cases h
      | some w =>
        rw [e2] at h
        simp only [Option.join] at h
        exact congrArg some h
theorem Cx.Ok.comp {pins : List (Addr × Obj)} {σ : St} {H : Hp} {s : Shared} {fp : List Addr} {C : Addr} (I : Inv X pins σ H s) (c : Cap X sc N src) (hf : ∀ b ∈ fp, FpOk X pins H b) (ho : ∀ b ∈ fp, ∃ o, s.heap.get? b = some o) (hC : s.heap.objs.size ≤ C) : (X.comp N sc C s H fp).Ok where
  mod := I.ok.mod
  kind := c.kind
  glob := I.ok.glob
  blt := I.ok.blt
  above := hC
  inj := fun x y a h h' => I.ok.inj x y a (clos_look h) (clos_look h')
  has := fun x h => by
    have m : (x, NameKind.free) ∈ sc.names := by
      rcases h with h | h
      · exact relabel_mem c.cell h (.inl rfl)
      · exact relabel_mem c.cell h (.inr rfl)
    obtain ⟨a, ha⟩ := I.ok.has x (c.free m)
    exact ⟨a, clos_has m ha⟩
  cab := fun _ _ h => nomatch h
  hd := I.ok.hd
  frames := I.ok.frames
  stk := .inl rfl
  exf := fun b hb => by
    obtain ⟨o, e⟩ := ho b hb
    exact ⟨Nat.ne_of_lt (Nat.lt_of_lt_of_le (Heap.lt_size e) hC), fun x a h => (hf b hb).2.2.2.2.1 x a (clos_look h)⟩
  bs := I.bs
  bsz := Nat.le_trans I.ok.bsz I.sz
  noex := fun b o e hb => by
    rcases (hf b hb).2.2.2.1 with z | z
    · exact I.ok.noex b o e z
    · exact absurd (Nat.lt_of_lt_of_le (Heap.lt_size e) (Nat.le_trans I.ok.bsz z)) (Nat.lt_irrefl _)
  exfs := fun b hb z => by
    rcases List.mem_cons.mp (I.stkSub b z) with q | q
    · exact (hf b hb).2.1 q
    · exact (hf b hb).2.2.1 q
  funs := I.stack
  frf := I.stkFree
theorem Inv.block {pins : List (Addr × Obj)} {σ : St} {H : Hp} {s : Shared} {fp : List Addr} {C D : Addr} {h1 : Heap} {t' : Nat} (I : Inv X pins σ H s) (c : Cap X sc N src) (hf : ∀ b ∈ fp, FpOk X pins H b) (ho : ∀ b ∈ fp, ∃ o, s.heap.get? b = some o)
    (hD : s.heap.objs.size ≤ D) (hC : s.heap.objs.size ≤ C) (hDC : D ≠ C) (k : ∀ b u, s.heap.get? b = some u → h1.get? b = some u) (hn : h1.Ns C fun _ => none) (new : ObjOk X.prog X.w (upd H D (.lst [])) h1 D (.lst [])) :
    Inv (X.comp N sc C s H fp) [] (pick σ src) (upd H D (.lst [])) { s with heap := h1, toks := t' } where
  ok := Cx.Ok.comp I c hf ho hC
  os := rfl
  bare := I.bare
  base := Un.laid k hD (I.hok.fresh hD)
  loc := by
    refine ⟨_, hn, fun i x v e1 e2 e3 => ?_⟩
    obtain ⟨j, ej, es⟩ := pick_some e2
    obtain ⟨n1, n2, n3⟩ := c.at_ e1 ej
    obtain ⟨m, _, hl⟩ := I.loc
    have vis : Vis X.env.scope x := n2.elim (fun z => .inr (.inl z)) fun z => .inr (.inr z)
    obtain ⟨u, r, q⟩ := hl j x v n1 es vis
    refine ⟨u, r, .inr ⟨relabel_free n3, ?_⟩⟩
    rcases q with ⟨z, _⟩ | ⟨_, a, ha, z⟩
    · rcases n2 with n2 | n2 <;> rw [n2] at z <;> cases z
    · obtain ⟨o, e, d⟩ := z
      exact ⟨a, clos_has (lookup_mem n3) ha, o, k _ _ e, d⟩
  cell := fun x a e => by
    obtain ⟨v, o, e, d⟩ := I.cell x a (clos_look e)
    exact ⟨v, o, k _ _ e, d⟩
  free := by
    show upd H D (.lst []) C = none
    rw [upd_ne hDC.symm]
    exact I.hok.fresh hC
  freeC := fun x a e => by
    obtain ⟨v, o, e', d⟩ := I.cell x a (clos_look e)
    rw [upd_ne (Nat.ne_of_lt (Nat.lt_of_lt_of_le (Heap.lt_size e') hD))]
    exact I.freeC x a (clos_look e)
  pin := fun p hp => nomatch hp
  hok := I.hok.laid k hD new
  len := by
    show (pick σ src).length = N.length
    rw [c.len, pick, List.length_map]
theorem Inv.unblock {pins : List (Addr × Obj)} {σ σ' : St} {H H' : Hp} {s s' : Shared} {fp : List Addr} {C : Addr} {h' : Heap} (I : Inv X pins σ H s) (hf : ∀ b ∈ fp, FpOk X pins H b) (hC : s.heap.objs.size ≤ C)
    (J : Inv (X.comp N sc C s H fp) [] σ' H' s') (hs : ∀ b, b ≠ C → h'.get? b = s'.heap.get? b) : Inv X pins σ H' { s' with heap := h' } := by
  have ne : ∀ b o, s.heap.get? b = some o → b ≠ C := fun b o e => Nat.ne_of_lt (Nat.lt_of_lt_of_le (Heap.lt_size e) hC)
  have u : Un (frs X.stack) fp H H' s.heap s'.heap := J.base
  have u' : Un (frs X.stack) fp H H' s.heap h' := ⟨fun b o e n a x => (hs b (ne b o e)).trans (u.keep b o e n a x), fun b o e n a x => by
      obtain ⟨sl, q⟩ := u.slot b o e n a x
      exact ⟨sl, (hs b (ne b o e)).trans q⟩, u.free, fun b o e x => by
      obtain ⟨o', q⟩ := u.there b o e x
      exact ⟨o', (hs b (ne b o e)).trans q⟩, u.tups, u.frzs, u.tbls⟩
  refine I.call' (s' := { s' with heap := h' }) J.os u' (fun b ob e => ?_) J.bare fun b hb => ⟨(hf b hb).2.2.2.1, (hf b hb).2.1, (hf b hb).2.2.2.2.1, (hf b hb).2.2.2.2.2⟩
  have fr : H' C = none := J.free
  refine (J.hok b ob e).stay (fun a w' ha q => (hs a ?_).trans q) (fun _ q => q) fun _ _ q => q
  rintro rfl
  rcases ha with rfl | ha
  · rw [fr] at e; cases e
  · rw [fr] at ha; cases ha
end
abbrev F0 : Value → Shared → Prop := fun _ _ => False
section
variable {prog : Program} {w : World} {A : Around} {R : Result → Shared → Prop} {s : Shared}
theorem compLoop_any {elt target iter : Expr} {ifs : List Expr} {scope : Scope} {pos : Pos} {it acc : Value} {env : Env} (I : Nat → Shared → Prop)
    (turn : ∀ n s, I n s → wpAny (model prog w) A (pyNext it) (fun r s₁ => match r with
      | none => R (.ok .next) s₁
      | some v => wpAny (model prog w) A (letOwnedTupleGo target it v) (fun _ s₁' => wpAny (model prog w) A (assign target env v) (fun _ s₂ =>
          wpAny (model prog w) A (forIn ifs true fun c r => if r = true then do let ok ← isTrue c env (eval c env); pure (ForInStep.yield ok) else pure (ForInStep.yield r)) (fun ok s₃ =>
            if ok = true then wpAny (model prog w) A (eval elt env) (fun x s₄ =>
              wpAny (model prog w) A (call (.builtin "list.append") [acc, x]) (fun _ s₅ => ∃ m, m < n ∧ I m s₅) F0 s₄) F0 s₃
            else ∃ m, m < n ∧ I m s₃) F0 s₂) F0 s₁') F0 s₁) F0 s)
    (n : Nat) (h : I n s) :
    codeAny (model prog w) A (.compLoop (.ListComp elt [⟨target, iter, ifs, 0⟩] scope pos) 0 it acc env) R s := by
  refine codeAny_loop rfl I (fun n s hI => ?_) n h
  show wpAny _ A ((compTurn (.ListComp elt [⟨target, iter, ifs, 0⟩] scope pos) 0 it acc env).onRaise (fun x => do noteFrame x env; theTreesLotGoes x)) _ _ s
  refine wpAny_noted ?_
  rw [compTurn_list]
  refine wpAny_bind (wpAny_standAt (wpAny_bind (wpAny_mono (turn n s hI) (fun r s₁ h₁ => ?_) fun _ _ h' => h'.elim)))
  cases r with
  | none => exact wpAny_pure h₁
  | some v =>
    refine wpAny_bind (wpAny_mono h₁ (fun _ s₁' h₁' => ?_) fun _ _ h' => h'.elim)
    refine wpAny_bind (wpAny_mono h₁' (fun _ s₂ h₂ => wpAny_bind (wpAny_mono h₂ (fun ok s₃ h₃ => ?_) fun _ _ h' => h'.elim)) fun _ _ h' => h'.elim)
    cases ok with
    | false => exact wpAny_pure ⟨rfl, h₃⟩
    | true =>
      exact wpAny_bind (wpAny_bind (wpAny_mono h₃ (fun x s₄ h₄ => wpAny_bind (wpAny_mono h₄ (fun _ s₅ h₅ => wpAny_pure (wpAny_pure ⟨rfl, h₅⟩)) fun _ _ h' => h'.elim)) fun _ _ h' => h'.elim))
end
def PF (X : Cx) (ifs : List Expr) (t : TT) : Prop :=
  ∀ (pins : List (Addr × Obj)) (s : Shared) (σ : St) (H : Hp) (Q : Bool → Hp → Prop), Inv X pins σ H s → t σ H Q →
    wpAny (model X.prog X.w) X.A (forIn ifs true fun c r => if r = true then do let ok ← isTrue c X.env (eval c X.env); pure (ForInStep.yield ok) else pure (ForInStep.yield r)) (TP X pins σ Q) X.xe s
structure JF (X : Cx) (ifs : List Expr) (t : TT) : Prop where h : PF X ifs t
def tYes : TT := fun _ H Q => Q true H
theorem fnone {X : Cx} : JF X [] tYes := ⟨fun _ _ _ H _ I h => wpAny_tests_nil ⟨H, I, h⟩⟩
def LcLoop (J : It) (g : TG) (tt : TT) (te : TE) (D : Addr) (Q : Hp → Prop) (σ : St) (H : Hp) : Prop := ∃ W : Nat → Nat → List V → St → Hp → Prop, (∃ m, W 0 m [] σ H) ∧ ∀ i m acc σ H, W i m acc σ H →
  (J.stop i H ∧ Q H) ∨ (J.go i H ∧ ∃ N : List V → St → Hp → Prop, (∀ acc' σ' H', N acc' σ' H' → ∃ m', m' < m ∧ W (i + 1) m' acc' σ' H') ∧ ∀ x H', J.yld i H x H' → g x σ H' fun σ2 H2 => tt σ2 H2 fun b H3 =>
    if b = true then te σ2 H3 fun v H4 => H4 D = some (.lst acc) ∧ acc.length < sizeLine ∧ N (acc ++ [v]) σ2 (upd H4 D (.lst (acc ++ [v])))
    else N acc σ2 H3)
def tLc (K : PySem.W.Frag) (wi : TI) (src : List (Option Nat)) (g : TG) (tt : TT) (te : TE) : TE := fun σ H Q => wi σ H fun J H1 => ∀ D, L2.new K H1 D → LcLoop J g tt te D (fun H' => Q (.ref D) H') (pick σ src) (upd H1 D (.lst []))
section
variable {X : Cx} {sc : Scope} {N : List Str} {src : List (Option Nat)} {tg iter elt : Expr} {ifs : List Expr} {wi : TI} {g : TG} {tt : TT} {te : TE} {pos : Pos}
theorem comp_run {R : Value → Addr → Result → Shared → Prop} {E : Value → Shared → Prop} (c : Cap X sc N src) (hc : X.calm = true)
    (hg : ∀ C s H fp, JG (X.comp N sc C s H fp) tg g) (ht : ∀ C s H fp, JF (X.comp N sc C s H fp) ifs tt) (he : ∀ C s H fp, JE (X.comp N sc C s H fp) elt te)
    {pins : List (Addr × Obj)} {σ : St} {H : Hp} {s : Shared} {it : Addr} {fp : List Addr} {tn : Nat → Heap → Prop} {J : It} {Q : V → Hp → Prop} (I : Inv X pins σ H s) (T : Turn X.prog X.w X.K tg J fp it tn) (st : tn 0 s.heap) (hf : ∀ b ∈ fp, FpOk X pins H b)
    (h : ∀ D, L2.new X.K H D → LcLoop J g tt te D (fun H' => Q (.ref D) H') (pick σ src) (upd H D (.lst [])))
    (hR : ∀ D C s' σ' H', s.heap.objs.size ≤ C → Inv (X.comp N sc C s H fp) [] σ' H' s' → Q (.ref D) H' → R (.ref D) C (.ok .next) s') :
    wpAny (model X.prog X.w) X.A (newList []) (fun acc s₃ => wpAny (model X.prog X.w) X.A (newFunctionEnv sc X.env.globals (closL X.env sc.names []) [] X.env.qual none .none (some X.env)) (fun cenv s₄ =>
      codeAny (model X.prog X.w) X.A (.compStart (.ListComp elt [⟨tg, iter, ifs, 0⟩] sc pos) 0 (.ref it) acc { cenv with scope := relabel sc X.env }) (R acc cenv.locals) s₄) E s₃) E s := by
  refine wpAny_newObj_type (wpAny_newFunctionEnv c.cell (by intro y hy; simp at hy) (fun h₁ hns₁ hsb₁ => ?_) c.kind)
  dsimp only at hns₁ hsb₁ ⊢
  generalize hH2 : s.heap.push { cls := .type "list", dict := none, data := .seq ([] : List Value).toArray } = H2 at hns₁ hsb₁ ⊢
  have hC : H2.objs.size = s.heap.objs.size + 1 := by rw [← hH2, Heap.size_push]
  have hDC : s.heap.objs.size ≠ H2.objs.size := by rw [hC]; exact Nat.ne_of_lt (Nat.lt_succ_self _)
  have hCle : s.heap.objs.size ≤ H2.objs.size := by rw [hC]; exact Nat.le_succ _
  have below : ∀ b, b < s.heap.objs.size → b ≠ H2.objs.size := fun b hb => by rw [hC]; exact Nat.ne_of_lt (Nat.lt_succ_of_lt hb)
  have old : ∀ b o, s.heap.get? b = some o → h₁.get? b = some o := fun b o e => hsb₁.extBut b o (below b (Heap.lt_size e)) (Heap.get?_push_of_some _ (hH2 ▸ Heap.get?_push_of_some _ e))
  have hacc : h₁.get? s.heap.objs.size = some { cls := .type "list", dict := none, data := .seq ([] : List Value).toArray } := hsb₁.extBut _ _ hDC (Heap.get?_push_of_some _ (hH2 ▸ Heap.get?_push_size _ rfl))
  have ho : ∀ b ∈ fp, ∃ o, s.heap.get? b = some o := fun b hb => let ⟨o, e, _⟩ := T.obj _ _ st b hb; ⟨o, e⟩
  have I0 := I.block (t' := s.toks + ([] : List (Str × Value)).length) c hf ho (Nat.le_refl _) hCle hDC old hns₁ ⟨Nat.zero_le _, [], 0, .nil, hacc⟩
  have st0 : tn 0 h₁ := T.keep _ _ _ st fun b hb o e => old b o e
  obtain ⟨W, ⟨m0, w0⟩, turn⟩ := h _ I.new
  have stat : ∀ {H' : Hp}, (∀ b ∈ fp, H' b = none) → ∀ b ∈ fp, FpOk (X.comp N sc H2.objs.size s H fp) [] H' b := fun hn b hb => by
    obtain ⟨f0, f1, f2, f3, f4, f5⟩ := hf b hb
    obtain ⟨o, e⟩ := ho b hb
    refine ⟨hn b hb, below b (Heap.lt_size e), fun z => ?_, .inl hb, fun x a q => f4 x a (clos_look q), fun p hp => nomatch hp⟩
    rcases List.mem_cons.mp (I.stkSub b z) with q | q
    · exact f1 q
    · exact f2 q
  have fr0 : ∀ b ∈ fp, (upd H s.heap.objs.size (.lst [])) b = none := fun b hb => by
    obtain ⟨o, e⟩ := ho b hb
    rw [upd_ne (Nat.ne_of_lt (Heap.lt_size e))]
    exact (hf b hb).1
  have loop : ∀ s₃ : Shared, s₃ = { s with heap := h₁, toks := s.toks + ([] : List (Str × Value)).length } →
      codeAny (model X.prog X.w) X.A (.compLoop (.ListComp elt [⟨tg, iter, ifs, 0⟩] sc pos) 0 (.ref it) (.ref s.heap.objs.size) (compEnvC sc (closL X.env sc.names []) H2.objs.size X.env)) (R (.ref s.heap.objs.size) H2.objs.size) s₃ := by
    rintro s₃ rfl
    refine compLoop_any (fun n s' => ∃ i acc σ' H', Inv (X.comp N sc H2.objs.size s H fp) [] σ' H' s' ∧ tn i s'.heap ∧ (∀ b ∈ fp, H' b = none) ∧ W i n acc σ' H') ?_ m0 ⟨0, _, _, _, I0, st0, fr0, w0⟩
    rintro n s3 ⟨i, acc, σ3, H3, I3, st3, fr3, w3⟩
    rcases turn i n acc σ3 H3 w3 with ⟨stop, qn⟩ | ⟨go, NN, hNN, step⟩
    · refine thn (T.done (X.comp N sc H2.objs.size s H fp) rfl rfl rfl hc i [] s3 σ3 H3 F0 I3 (stat fr3) st3 stop) fun r s4 ⟨hr, I4⟩ => ?_
      subst hr
      exact hR _ _ _ _ _ hCle I4 qn
    · refine thn (T.item (X.comp N sc H2.objs.size s H fp) rfl rfl rfl hc i [] s3 σ3 H3 F0 I3 (stat fr3) st3 go) fun r s4 ⟨u, hr, h4⟩ => ?_
      subst hr
      refine thn h4 fun _ s5 ⟨x, H5, I5, r5, y5, st5, fr5⟩ => ?_
      have I5' := I5.pinned (stat fr5) (T.obj _ _ st5)
      refine thn ((hg _ _ _ _).h _ s5 σ3 H5 x u _ I5' r5 (step x H5 y5)) fun _ s6 ⟨σ6, H6, I6, q6⟩ => ?_
      refine thn ((ht _ _ _ _).h _ s6 σ6 H6 _ I6 q6) fun b s7 ⟨H7, I7, q7⟩ => ?_
      have again : ∀ {acc8 : List V} {s8 : Shared} {H8 : Hp}, Inv (X.comp N sc H2.objs.size s H fp) ([] ++ pinsAt fp s5.heap) σ6 H8 s8 → NN acc8 σ6 H8 → ∃ m, m < n ∧ ∃ i acc σ' H', Inv (X.comp N sc H2.objs.size s H fp) [] σ' H' s8 ∧ tn i s8.heap ∧ (∀ b ∈ fp, H' b = none) ∧ W i m acc σ' H' := fun {acc8 s8 H8} I8 w => by
        obtain ⟨m', hm, w8⟩ := hNN _ _ _ w
        refine ⟨m', hm, i + 1, acc8, σ6, H8, I8.unpinned, T.keep _ _ _ st5 fun b hb o e => (I8.pin (b, o) (List.mem_append_right _ (List.mem_append_right _ (mem_pinsAt hb e)))).1, fun b hb => ?_, w8⟩
        obtain ⟨o, e, d⟩ := T.obj _ _ st5 b hb
        exact (I8.pin (b, o) (List.mem_append_right _ (List.mem_append_right _ (mem_pinsAt hb e)))).2.1
      cases b with
      | false => exact again I7 q7
      | true =>
        refine thn ((he _ _ _ _).h _ s7 σ6 H7 _ I7 q7) fun y s8 ⟨v, H8, I8, r8, q8⟩ => ?_
        obtain ⟨hx, hz, w8⟩ := q8
        refine thn (mt_append (X := X.comp N sc H2.objs.size s H fp) _ s8 σ6 H8 (.ref s.heap.objs.size) [v] (.ref s.heap.objs.size) [y] (fun _ H9 => H9 = upd H8 s.heap.objs.size (.lst (acc ++ [v]))) I8 rfl (.cons r8 .nil) ⟨_, acc, v, rfl, rfl, hx, hz, rfl⟩) fun _ s9 ⟨_, H9, I9, _, q9⟩ => ?_
        subst q9
        exact again I9 w8
  exact codeAny_compStart_list (loop _ rfl) (T.self _ 0 _ _ _ st0 (loop _ rfl))
theorem elc (c : Cap X sc N src) (hc : X.calm = true) (hi : JI X tg iter wi)
    (hg : ∀ C s H fp, JG (X.comp N sc C s H fp) tg g) (ht : ∀ C s H fp, JF (X.comp N sc C s H fp) ifs tt) (he : ∀ C s H fp, JE (X.comp N sc C s H fp) elt te)
    (hs : ∀ x, foldedSetIterable iter X.env x = pure x := by intro _; rfl) : JE X (.ListComp elt [⟨tg, iter, ifs, 0⟩] sc pos) (tLc X.K wi src g tt te) := ⟨by
  intro pins s σ H Q I h
  rw [eval_ListComp]
  refine wpAny_comprehension_free (use := none) rfl hs (closureFor_eq fun x hx hk => ?_) c.kind c.names ?_
  · obtain ⟨n, k⟩ := x
    cases hk
    exact I.ok.has _ (c.free hx)
  refine thn (hi.h pins s σ H _ I h) fun v s1 h1 => thn h1 fun itv s2 h2 => ?_
  obtain ⟨it, fp, tn, J, H2, e, I2, T, st2, f2, h2⟩ := h2
  subst e
  refine comp_run (R := fun acc C => compPost (model X.prog X.w) X.A X.xe none (EP X pins σ Q) acc C) (Q := Q) c hc hg ht he I2 T st2 f2 h2 fun D C s' σ' H' hC I' q => ?_
  obtain ⟨m, hn, _⟩ := id I'.loc
  refine ⟨m, hn, fun h' sb => ?_⟩
  exact ⟨.ref D, H', I2.unblock f2 hC I' fun b hb => sb.2 b hb, rfl, q⟩⟩
end
end L2
namespace L2
open PySem PySem.Spec PyProof.Rows
theorem pick_nil {σ : St} : pick σ [] = [] := rfl
theorem pick_own {σ : St} {r : List (Option Nat)} : pick σ (none :: r) = none :: pick σ r := rfl
theorem pick_cap {σ : St} {j : Nat} {r : List (Option Nat)} : pick σ (some j :: r) = (σ[j]?).join :: pick σ r := rfl
theorem join_some {α : Type} {o : Option α} : (some o).join = o := rfl
section
variable {K : PySem.W.Frag} {g : TG} {tt : TT} {te : TE} {D a : Addr} {Q : Hp → Prop} {σ : St} {H : Hp} {xs : List V} {lo : Int} {n : Nat}
theorem lc_run {J : It} (Pv : Nat → List V → St → Hp → Prop) (h0 : Pv 0 [] σ H) (hgo : ∀ i acc σ H, i < n → Pv i acc σ H → J.go i H) (hst : ∀ acc σ H, Pv n acc σ H → J.stop n H)
    (hs : ∀ i acc σ H x H', i < n → Pv i acc σ H → J.yld i H x H' → g x σ H' fun σ2 H2 => tt σ2 H2 fun b H3 => if b = true then te σ2 H3 fun v H4 => H4 D = some (.lst acc) ∧ acc.length < sizeLine ∧ Pv (i + 1) (acc ++ [v]) σ2 (upd H4 D (.lst (acc ++ [v]))) else Pv (i + 1) acc σ2 H3)
    (hd : ∀ acc σ H, Pv n acc σ H → Q H) : LcLoop J g tt te D Q σ H := by
  refine ⟨fun i m acc σ H => Pv i acc σ H ∧ i ≤ n ∧ m = n - i, ⟨n, h0, Nat.zero_le _, by omega⟩, fun i m acc σ H ⟨h, hi, hm⟩ => ?_⟩
  by_cases c : i < n
  · right
    exact ⟨hgo i acc σ H c h, Pv (i + 1), fun acc' σ' H' q => ⟨n - (i + 1), by omega, q, by omega, rfl⟩, fun x H' hy => hs i acc σ H x H' c h hy⟩
  · left
    have e : i = n := by omega
    subst e
    exact ⟨hst acc σ H h, hd acc σ H h⟩
theorem lc_range (Pv : Nat → List V → St → Hp → Prop) (h0 : Pv 0 [] σ H)
    (hs : ∀ i acc σ H, i < n → Pv i acc σ H → g (.int (lo + i)) σ H fun σ2 H2 => tt σ2 H2 fun b H3 => if b = true then te σ2 H3 fun v H4 => H4 D = some (.lst acc) ∧ acc.length < sizeLine ∧ Pv (i + 1) (acc ++ [v]) σ2 (upd H4 D (.lst (acc ++ [v]))) else Pv (i + 1) acc σ2 H3)
    (hd : ∀ acc σ H, Pv n acc σ H → Q H) : LcLoop (Itr lo n) g tt te D Q σ H := by
  refine lc_run (n := n) Pv h0 (fun i _ _ _ h _ => h) (fun _ _ _ _ => Nat.le_refl _) (fun i acc σ H x H' hi h hy => ?_) hd
  obtain ⟨rfl, rfl⟩ := hy
  exact hs i acc σ _ hi h
theorem tLc_rng1 {ta : TA} {src : List (Option Nat)} {Q : VK} : tLc K (iRng1 ta) src g tt te σ H Q = ta σ H (fun vs H1 => ∃ j : Int, vs = [.int j] ∧ -(2 ^ 62) ≤ j ∧ j < 2 ^ 62 ∧ ∀ D, L2.new K H1 D → LcLoop (Itr 0 j.toNat) g tt te D (fun H' => Q (.ref D) H') (pick σ src) (upd H1 D (.lst []))) := rfl
theorem tLc_list {tl : TE} {src : List (Option Nat)} {Q : VK} : tLc K (iList K tl) src g tt te σ H Q = tl σ H (fun x H1 => ∃ a, x = .ref a ∧ (∃ xs, SqL K H1 a xs) ∧ ∀ D, L2.new K H1 D → LcLoop (Itl K a) g tt te D (fun H' => Q (.ref D) H') (pick σ src) (upd H1 D (.lst []))) := rfl
theorem tLc_tup {tl : TE} {src : List (Option Nat)} {Q : VK} : tLc K (iTup K tl) src g tt te σ H Q = tl σ H (fun x H1 => ∃ a, x = .ref a ∧ (∃ xs, SqT K H1 a xs) ∧ ∀ D, L2.new K H1 D → LcLoop (Itt K a) g tt te D (fun H' => Q (.ref D) H') (pick σ src) (upd H1 D (.lst []))) := rfl
end
end L2
namespace L2
open PySem PySem.Spec PyProof.Rows
section
variable {X : Cx} {es : List Expr} {t : TA} {pos : Pos} (K : PySem.W.Frag)
theorem gtupQK {k : Nat} {t : TGs} {n : Nat} (hc : X.calm = true) (h : JGs X es t) (hn : (assignEach es X.env).length = n := by rfl) (hst : (assignEach es X.env).findIdx? (·.1) = none := by rfl) (hk : X.K = K := by rfl) : JG X (.Tuple es k pos) (gTupQ K n t) := by subst hk; exact gtupQ hc h hn hst
end
end L2
namespace L2
open PySem PySem.Spec PyProof.Rows
section
variable {X : Cx} {pins : List (Addr × Obj)} {σ : St} {H : Hp} {s : Shared}
theorem Inv.notMod (I : Inv X pins σ H s) {a : Addr} {o : HO} (h : H a = some o) : kTup X.K a = none := by
  cases e : kTup X.K a with
  | none => rfl
  | some xs =>
    obtain ⟨ob, q⟩ := kTup_look e
    rw [(I.bs a ob (I.ok.mod.kin a ob q)).2] at h
    cases h
theorem call_list_ofQ : CallR X (.type "list") (fun xs H Q => ∃ p ys, xs = [.ref p] ∧ seqQ X.K H p = some ys ∧ ∀ l, L2.new X.K H l → Q (.ref l) (upd H l (.lst ys))) := by
  intro pins s σ H xs us Q I r h
  obtain ⟨p, ys, e, hq, q⟩ := h
  refine thn (call_list_of pins s σ H xs us (fun v H' => ∃ l, H l = none ∧ v = .ref l ∧ H' = upd H l (.lst ys)) I r ⟨p, ys, e, seqQ_sq hq, fun l hl => ⟨l, hl, rfl, rfl⟩⟩) fun u s' ⟨v, H', I', rv, l, hl, e1, e2⟩ => ?_
  subst e1 e2
  exact ⟨_, _, I', rv, q l ⟨hl, I'.notMod upd_same⟩⟩
theorem call_list_ofQK (K : PySem.W.Frag) (hk : X.K = K := by rfl) : CallR X (.type "list") (fun xs H Q => ∃ p ys, xs = [.ref p] ∧ seqQ K H p = some ys ∧ ∀ l, L2.new K H l → Q (.ref l) (upd H l (.lst ys))) := by subst hk; exact call_list_ofQ
end
theorem Kp2.kp {K : PySem.W.Frag} {p D : Addr} {H H' : Hp} {o : HO} (k : Kp2 K p D (upd H D o) H') (n : L2.new K H D) : Kp K p H H' := by
  refine ⟨fun q u e m => ?_, fun b ys e m => k.mod b ys ((Ext.new n).mod b ys e m) m⟩
  have d : q ≠ D := ne_of_none e n.1
  exact k.keep q u (by rw [upd_ne d]; exact e) m d
theorem Kp2.refl {K : PySem.W.Frag} {p D : Addr} {H : Hp} : Kp2 K p D H H := ⟨fun _ _ h _ _ => h, fun _ _ h _ => h⟩
end L2
set_option Elab.async false
set_option linter.all false
set_option maxRecDepth 100000
namespace L2
open PySem PySem.Spec PyProof.Rows
def gk {α : Type} (n m : Nat) (us ws : List α) : List α := if us.length = n ∧ ws.length = m then us ++ ws else []
structure JK (X : Cx) (kws : List Keyword) (t : TA) : Prop where h : PK X kws t
structure CalleeK (P : Program) (w : World) (K : PySem.W.Frag) (mg : Str → Option Value) (base : Heap) (x : Str) (k : Nat) (ps : List Str) (ks : List Str) (n m : Nat) (sp : Sp) : Prop where
  ex : ∃ (f : Addr) (fd : FuncData), FnOk P w K mg base CX0 k f fd ps sp ∧ KBinds K fd ps ks (gk n m) (gk n m) ∧ PySem.W.keepIn K (.ref f) = true ∧ mg x = some (.ref f)
structure CalleeD (P : Program) (w : World) (K : PySem.W.Frag) (mg : Str → Option Value) (base : Heap) (x : Str) (k : Nat) (ps : List Str) (dvs : List V) (sp : Sp) : Prop where
  ex : ∃ (f : Addr) (fd : FuncData) (ds : List Value), FnOk P w K mg base CX0 k f fd ps sp ∧ Binds K fd ps ds ∧ Vals dvs ds ∧ PySem.W.keepIn K (.ref f) = true ∧ mg x = some (.ref f)
section
variable {X : Cx} {x : Str} {k n m : Nat} {ps ks : List Str} {dvs : List V} {sp : Sp} {e : Expr} {es : List Expr} {kws : List Keyword} {t tk : TA} {te : TE} {p pos kpos : Pos} {nm : Option Str}
end
end L2
namespace L2
open PySem PySem.Spec PyProof.Rows
end L2
namespace L2
open PySem PySem.Spec PyProof.Rows
section
variable {K : PySem.W.Frag} {s : Shared} {fd : FuncData} {args : Args} {binds : List (Str × Value)} {d : Addr} {name : Str} {v cls : Value} {es : Array DictEntry} {ep : Nat} {od : Option Addr} {sl : Array (Option Value)} {α β : Type}
end
end L2
set_option Elab.async false
set_option linter.all false
set_option maxRecDepth 100000
namespace L2
open PySem PySem.Spec PyProof.Rows
section
variable {X : Cx} {o lo hi e : Expr} {to tl th te : TE} {p pos : Pos}
end
end L2
namespace L2
open PySem PySem.Spec PyProof.Rows
section
variable {X : Cx}
end
end L2
set_option Elab.async false
set_option linter.all false
set_option maxRecDepth 100000
namespace L2
open PySem PySem.Spec PyProof.Rows
abbrev TBd := List V → St → Hp → (List V → St → Hp → Prop) → Prop
section
variable {elt tg iter tg1 iter1 : Expr} {ifs ifs1 : List Expr} {scope : Scope} {pos : Pos} {it acc : Value} {env : Env}
variable {prog : Program} {w : World} {A : Around} {R : Result → Shared → Prop} {s : Shared}
end
section
variable {Y : Cx} {elt tg iter tg1 iter1 : Expr} {ifs ifs1 : List Expr} {scope : Scope} {pos : Pos} {g : TG} {tt : TT} {te : TE}
end
section
variable {X : Cx} {sc : Scope} {N : List Str} {src : List (Option Nat)} {tg iter tg1 iter1 elt : Expr} {ifs ifs1 : List Expr} {wi wi1 : TI} {g g1 : TG} {tt tt1 : TT} {te : TE} {pos : Pos}
end
section
variable {K : PySem.W.Frag} {g : TG} {tt : TT} {body : TBd} {a : Addr} {acc0 : List V} {F : List V → St → Hp → Prop} {σ : St} {H : Hp} {xs : List V} {n : Nat}
end
end L2
set_option Elab.async false
set_option linter.all false
set_option maxRecDepth 100000
namespace L2
open PySem PySem.Spec PyProof.Rows
theorem vals_intsA : ∀ {ns : List Int} {us : List Value}, Vals (ns.map V.int) us → IntsAre us ns
  | [], us, h => by cases h; exact .nil
  | n :: ns, us, h => by
    cases h with
    | cons r rr =>
      obtain ⟨t, rfl⟩ := r
      exact .cons n t (vals_intsA rr)
theorem ints_vals : ∀ {us : List Value} {ns : List Int}, IntsAre us ns → Vals (ns.map V.int) us
  | _, _, .nil => .nil
  | _, _, .cons n t h => .cons ⟨t, rfl⟩ (ints_vals h)
theorem vals_at {xs : List V} {us : List Value} (h : Vals xs us) : ∀ {i : Nat} {u : Value}, us[i]? = some u → ∃ x, xs[i]? = some x ∧ RelV x u := by
  induction h with
  | nil => intro i u e; simp at e
  | cons r rr ih =>
    intro i u e
    cases i with
    | zero => simp only [List.getElem?_cons_zero, Option.some.injEq] at e ⊢; exact ⟨_, rfl, e ▸ r⟩
    | succ i => simp only [List.getElem?_cons_succ] at e ⊢; exact ih e
section
variable {X : Cx}
theorem range_all {bs : List Bool} : (List.range bs.length).all (fun i => bs.getD i true) = bs.all id := by
  induction bs with
  | nil => rfl
  | cons b bs ih =>
    rw [List.length_cons, List.range_succ_eq_map, List.all_cons, List.all_map, List.all_cons]
    have e : ((fun i => (b :: bs).getD i true) ∘ Nat.succ) = fun i => bs.getD i true := by funext i; simp
    rw [e, ih]
    rfl
theorem bools_truth {P : Program} {w : World} {A : Around} {bs : List Bool} {us : List Value} (r : Vals (bs.map V.bl) us) : TruthOf P w A (fun i v => us.toArray[i]? = some v) (fun i => bs.getD i true) := by
  intro i v s Q E hv hQ
  rw [List.getElem?_toArray] at hv
  obtain ⟨x, hx, rx⟩ := vals_at r hv
  rw [List.getElem?_map] at hx
  obtain ⟨b, hb, rfl⟩ := Option.map_eq_some_iff.mp hx
  cases rx
  have e : bs.getD i true = b := by rw [List.getD_eq_getElem?_getD, hb]; rfl
  dsimp only at hQ
  rw [e] at hQ
  exact wpAny_truthy_bool hQ
theorem kept_iter {s : Shared} {l : Addr} {h' : Heap} (hk : ∀ b o, b ∉ [s.heap.objs.size] → (s.heap.push { cls := .type "list_iterator", data := .fields #[.ref l, .int 0 0] }).get? b = some o → h'.get? b = some o) : ∀ b o, s.heap.get? b = some o → h'.get? b = some o := fun b o e => by
  refine hk b o (fun m => ?_) (Heap.get?_push_of_some _ e)
  have q : b = s.heap.objs.size := by simpa using m
  exact Nat.lt_irrefl _ (q ▸ Heap.lt_size e)
theorem call_allL (hc : X.calm = true) : CallR X (.builtin "all") (fun xs H Q => ∃ (p : Addr) (bs : List Bool), xs = [.ref p] ∧ SqL X.K H p (bs.map V.bl) ∧ Q (.bl (bs.all id)) H) := by
  intro pins s σ H xs us Q I r h
  obtain ⟨p, bs, rfl, hx, q⟩ := h
  obtain ⟨u, rfl, ru⟩ := vals1 r
  cases ru
  obtain ⟨its, rv, ht, hz⟩ := I.list hx
  have hl : s.heap.IsList p its.toArray := ht.isList
  have hlt : p < s.heap.objs.size := by obtain ⟨_, e, _⟩ := hl; exact Heap.lt_size e
  refine call_all_walk (wpAny_pyIter_list hl ?_)
  refine ⟨_, _, _, _, _, _, fun i => bs.getD i true, rfl, Walks.list (A := X.A.in1) (I.ok.hd hc) _ p (Nat.ne_of_lt hlt) its.toArray, ⟨⟨_, Heap.get?_push_size _ rfl, rfl, rfl⟩, hl.push _⟩, bools_truth rv, fun h' tk hk => ?_⟩
  have el : its.toArray.size = bs.length := by rw [List.size_toArray, ← rv.length, List.length_map]
  rw [el, range_all]
  exact ⟨.bl _, H, I.kept (kept_iter hk), rfl, q⟩
end
section
variable {P : Program} {w : World} {A : Around} {E : Value → Shared → Prop} {s : Shared} {b0 : Array Keyed}
end
section
variable {X : Cx}
end
end L2
set_option Elab.async false
set_option linter.all false
set_option maxRecDepth 100000
namespace L2
open PySem PySem.Spec PyProof.Rows
def Rise (xs : Array Nat) : Prop := xs.toList.Pairwise (· < ·)
structure TabOk (t : SetTable) : Prop where
  bare : t.dummies = #[]
  rise : Rise t.place
section
variable {xs : Array Nat} {j : Nat}
theorem Rise.lt (h : Rise xs) {i k : Nat} (ik : i < k) (hk : k < xs.size) : xs.getD i j < xs.getD k j := by
  have hi : i < xs.size := Nat.lt_trans ik hk
  rw [Array.getD_eq_getD_getElem?, Array.getD_eq_getD_getElem?, Array.getElem?_eq_getElem hi, Array.getElem?_eq_getElem hk]
  have q := List.pairwise_iff_getElem.mp h i k (by simpa using hi) (by simpa using hk) ik
  simpa using q
theorem low_lt (h : Rise xs) {m : Nat} (hm : xs.getD m j < j) {i : Nat} (hi : i ≤ m) : xs.getD i j < j := by
  by_cases c : m < xs.size
  · by_cases e : i = m
    · rw [e]; exact hm
    · have := h.lt (j := j) (show i < m by omega) c
      omega
  · rw [Array.getD_eq_getD_getElem?, Array.getElem?_eq_none (by omega)] at hm
    exact absurd hm (Nat.lt_irrefl _)
theorem high_ge (h : Rise xs) {m : Nat} (hm : ¬ xs.getD m j < j) {i : Nat} (hi : m ≤ i) : ¬ xs.getD i j < j := fun c => hm (low_lt h c hi)
theorem below_go (h : Rise xs) : ∀ fuel lo hi, lo ≤ hi → hi ≤ xs.size → hi - lo ≤ fuel → (∀ i, i < lo → xs.getD i j < j) → (∀ i, hi ≤ i → ¬ xs.getD i j < j) →
    SetTable.below.go xs j fuel lo hi ≤ xs.size ∧ (∀ i, i < SetTable.below.go xs j fuel lo hi → xs.getD i j < j) ∧ ∀ i, SetTable.below.go xs j fuel lo hi ≤ i → ¬ xs.getD i j < j
  | 0, lo, hi, h1, h2, h3, h4, h5 => by
    have e : lo = hi := by omega
    unfold SetTable.below.go
    exact ⟨by omega, h4, fun i hi' => h5 i (by omega)⟩
  | fuel + 1, lo, hi, h1, h2, h3, h4, h5 => by
    unfold SetTable.below.go
    by_cases c : lo < hi
    · rw [if_pos c]
      dsimp only
      by_cases d : xs.getD ((lo + hi) / 2) j < j
      · rw [if_pos d]
        exact below_go h fuel _ _ (by omega) h2 (by omega) (fun i hi' => low_lt h d (by omega)) h5
      · rw [if_neg d]
        exact below_go h fuel _ _ (by omega) (by omega) (by omega) h4 (fun i hi' => high_ge h d hi')
    · rw [if_neg c]
      exact ⟨by omega, h4, fun i hi' => h5 i (by omega)⟩
theorem below_spec (h : Rise xs) (j : Nat) : SetTable.below xs j ≤ xs.size ∧ (∀ i, i < SetTable.below xs j → xs.getD i j < j) ∧ ∀ i, SetTable.below xs j ≤ i → ¬ xs.getD i j < j := by
  unfold SetTable.below
  refine below_go h _ _ _ (Nat.zero_le _) (Nat.le_refl _) (by omega) (fun i hi => absurd hi (Nat.not_lt_zero _)) (fun i hi => ?_)
  rw [Array.getD_eq_getD_getElem?, Array.getElem?_eq_none hi]
  exact Nat.lt_irrefl _
theorem Rise.insert (h : Rise xs) {j : Nat} (free : xs[SetTable.below xs j]? ≠ some j) : Rise (SetTable.insertAt xs (SetTable.below xs j) j) := by
  obtain ⟨b1, b2, b3⟩ := below_spec h j
  generalize SetTable.below xs j = p at *
  have at_ : ∀ i (hi : i < xs.size), xs.getD i j = xs.toList[i]'(by simpa using hi) := fun i hi => by
    rw [Array.getD_eq_getD_getElem?, Array.getElem?_eq_getElem hi]; simp
  unfold Rise SetTable.insertAt
  rw [Array.toList_append, Array.toList_push, Array.toList_extract, Array.toList_extract]
  simp only [List.extract_eq_drop_take, Nat.sub_zero, List.drop_zero]
  have e1 : List.take (xs.size - p) (List.drop p xs.toList) = xs.toList.drop p := List.take_of_length_le (by rw [List.length_drop]; simp)
  rw [e1, List.append_assoc]
  refine List.pairwise_append.mpr ⟨h.sublist (List.take_sublist _ _), ?_, ?_⟩
  · refine List.pairwise_append.mpr ⟨List.pairwise_singleton _ _, h.sublist (List.drop_sublist _ _), fun a ha c hc => ?_⟩
    have ea : a = j := by simpa using ha
    subst ea
    obtain ⟨i, hi, rfl⟩ := List.mem_iff_getElem.mp hc
    rw [List.length_drop] at hi
    rw [List.getElem_drop]
    have hlt : p + i < xs.size := by simp at hi; omega
    have q := b3 (p + i) (by omega)
    rw [at_ _ hlt] at q
    by_cases z : i = 0
    · subst z
      have ne : xs.toList[p + 0]'(by simpa using hlt) ≠ a := fun e => free (by
        rw [Array.getElem?_eq_getElem (by simpa using hlt)]
        simpa using e)
      omega
    · have hp : p < xs.size := by omega
      have q0 := b3 p (Nat.le_refl _)
      have q1 := h.lt (j := a) (show p < p + i by omega) hlt
      rw [at_ _ hlt] at q1
      omega
  · intro a ha c hc
    obtain ⟨i, hi, rfl⟩ := List.mem_iff_getElem.mp ha
    rw [List.length_take] at hi
    rw [List.getElem_take]
    have hlt : i < xs.size := by simp at hi; omega
    have qa := b2 i (by omega)
    rw [at_ _ hlt] at qa
    rcases List.mem_append.mp hc with z | z
    · have e : c = j := by simpa using z
      rw [e]; exact qa
    · obtain ⟨k, hk, rfl⟩ := List.mem_iff_getElem.mp z
      rw [List.length_drop] at hk
      rw [List.getElem_drop]
      exact List.pairwise_iff_getElem.mp h i (p + k) _ _ (by omega)
end
theorem has_none (j : Nat) : SetTable.has #[] j = false := by simp [SetTable.has]
theorem TabOk.slot {t : SetTable} (h : TabOk t) {j : Nat} (e : t.slot j = .empty) : t.place[SetTable.below t.place j]? ≠ some j := by
  intro c
  unfold SetTable.slot at e
  simp only [c, beq_self_eq_true, if_true] at e
  cases e
theorem probe_free {t : SetTable} (h : TabOk t) {f : Nat → Int} {x : Int} : ∀ (fuel : Nat) (p : SetTable.Probe) {j : Nat} {d : Option Nat}, p.dummy = none → SetTable.probe.go t f x fuel p = some (.empty j d) → d = none ∧ t.slot j = .empty
  | 0, p, j, d, hp, e => by unfold SetTable.probe.go at e; cases e
  | fuel + 1, p, j, d, hp, e => by
    unfold SetTable.probe.go at e
    have adv : (t.advance p).dummy = none := by unfold SetTable.advance; split <;> exact hp
    cases c : t.slot p.j with
    | empty =>
      rw [c] at e
      dsimp only at e
      cases e
      exact ⟨hp, c⟩
    | dummy =>
      exfalso
      unfold SetTable.slot at c
      dsimp only at c
      split at c
      · cases c
      · rw [h.bare, has_none] at c
        simp at c
    | live i =>
      rw [c] at e
      dsimp only at e
      split at e
      · cases e
      · exact probe_free h fuel _ adv e
theorem TabOk.standIn {t : SetTable} (n : Nat) : TabOk (t.standIn n) := ⟨rfl, by
  show (Array.range n).toList.Pairwise (· < ·)
  rw [Array.toList_range]
  exact List.pairwise_lt_range⟩
theorem TabOk.orStandIn {t : SetTable} (h : TabOk t) (n : Nat) : TabOk (t.orStandIn n) := by
  unfold SetTable.orStandIn
  split
  · exact h
  · exact .standIn n
theorem TabOk.put {t : SetTable} (h : TabOk t) {j : Nat} (e : t.slot j = .empty) : TabOk (t.put j).1 := ⟨by
  show (if SetTable.has t.dummies j then _ else t.dummies) = #[]
  rw [h.bare, has_none]
  rfl, h.rise.insert (h.slot e)⟩
theorem layNew_tab {t : SetTable} (h : TabOk t) (es : Array (Int × Value)) (hv : Int) (x : Value) : TabOk (layNew t es hv x).2.1 ∧ (layNew t es hv x).2.1.led = t.led := by
  unfold layNew
  cases c : t.freeSlot hv with
  | none => exact ⟨.standIn _, rfl⟩
  | some q =>
    obtain ⟨sl, wd⟩ := q
    have free : t.slot sl = .empty := by
      unfold SetTable.freeSlot at c
      split at c
      · next j d e =>
        unfold SetTable.probe at e
        obtain ⟨rfl, z⟩ := probe_free h _ _ rfl e
        simp only [Option.getD_none, Option.isSome_none, Option.some.injEq, Prod.mk.injEq] at c
        rw [← c.1]; exact z
      · cases c
    dsimp only
    refine ⟨(h.put free).orStandIn _, ?_⟩
    unfold SetTable.orStandIn
    split
    · rfl
    · rfl
theorem laid_rise (f : Nat → Option Nat) : ∀ l : List Nat, l.Pairwise (· < ·) → ((l.filterMap fun j => (f j).map (j, ·)).map (·.1)).Pairwise (· < ·) ∧ ∀ a ∈ (l.filterMap fun j => (f j).map (j, ·)).map (·.1), a ∈ l
  | [], _ => ⟨List.Pairwise.nil, fun a h => nomatch h⟩
  | j :: l, h => by
    obtain ⟨i1, i2⟩ := laid_rise f l (List.pairwise_cons.mp h).2
    cases c : f j with
    | none =>
      rw [List.filterMap_cons_none (by rw [c]; rfl)]
      exact ⟨i1, fun a ha => List.mem_cons_of_mem _ (i2 a ha)⟩
    | some k =>
      rw [List.filterMap_cons_some (b := (j, k)) (by rw [c]; rfl)]
      refine ⟨List.pairwise_cons.mpr ⟨fun a ha => (List.pairwise_cons.mp h).1 a (i2 a ha), i1⟩, fun a ha => ?_⟩
      rcases List.mem_cons.mp ha with z | z
      · exact z ▸ List.mem_cons_self
      · exact List.mem_cons_of_mem _ (i2 a z)
theorem relayAll_tab {t : SetTable} (es : Array (Int × Value)) (n : Nat) : TabOk (relayAll t es n).2.1 ∧ (relayAll t es n).2.1.led = t.led := by
  unfold relayAll
  cases c : t.relaid (es.map (·.1)) n with
  | none => exact ⟨.standIn _, rfl⟩
  | some q =>
    obtain ⟨t', order⟩ := q
    dsimp only
    split
    · unfold SetTable.relaid SetTable.laid at c
      cases d : SetTable.layClean (SetTable.sizeAbove n - 1) (es.map (·.1)) with
      | none => rw [d] at c; cases c
      | some owner =>
        rw [d] at c
        simp only [Option.bind_eq_bind, Option.bind_some, Option.pure_def, Option.some.injEq, Prod.mk.injEq] at c
        rw [← c.1]
        refine ⟨⟨rfl, ?_⟩, rfl⟩
        exact (laid_rise (fun j => owner.getD j none) _ List.pairwise_lt_range).1
    · exact ⟨.standIn _, rfl⟩
def ksOf (es : Array (Int × Value)) : List Int := es.toList.map fun e => numOf e.2
structure SetAt (P : Program) (w : World) (h : Heap) (a : Addr) (L : Bool) (M : Int → Prop) (n : Nat) (es : Array (Int × Value)) (ep : Nat) (t : SetTable) : Prop where
  at_ : ∃ o, h.get? a = some o ∧ o.ExactSet ∧ o.data = .set es ep t
  elems : ElemsOf (intKind P w) es.toList
  nd : (ksOf es).Nodup
  mem : ∀ k, k ∈ ksOf es ↔ M k
  len : es.size ≤ n
  fits : t.fits es.size = true
  tab : TabOk t
  led : t.led = L
def SetI (P : Program) (w : World) (h : Heap) (a : Addr) (L : Bool) (M : Int → Prop) (n : Nat) : Prop := ∃ es ep t, SetAt P w h a L M n es ep t
section
variable {P : Program} {w : World} {A : Around} {E : Value → Shared → Prop} {s : Shared}
theorem SetI.keep {h h' : Heap} {a : Addr} {L : Bool} {M : Int → Prop} {n : Nat} (q : SetI P w h a L M n) (k : ∀ o, h.get? a = some o → h'.get? a = some o) : SetI P w h' a L M n := by
  obtain ⟨es, ep, t, x⟩ := q
  obtain ⟨o, h1, h2⟩ := x.at_
  exact ⟨es, ep, t, ⟨⟨o, k o h1, h2⟩, x.elems, x.nd, x.mem, x.len, x.fits, x.tab, x.led⟩⟩
theorem is_num {k : Int} {v : Value} (h : (intKind P w).is k v = true) : numOf v = k ∧ ∃ t, v = .int k t := by
  obtain ⟨t, rfl⟩ := Value.isInt_shape h
  exact ⟨rfl, t, rfl⟩
theorem set_stored {h : Heap} {a : Addr} {o : Obj} {es0 es : Array (Int × Value)} {ep : Nat} {t0 t : SetTable} (ho : h.get? a = some o) (hx : o.ExactSet) (hd : o.data = .set es0 ep t0) :
    ∃ o', (h.update a (Obj.putSet es t)).get? a = some o' ∧ o'.ExactSet ∧ o'.data = .set es (ep + 1) t := by
  refine ⟨{ o with data := .set es (ep + 1) t }, ?_, hx, rfl⟩
  have g := Heap.get?_update_self (Obj.putSet es t) ho (by rw [putSet_of es t hd]; rfl)
  rwa [putSet_of es t hd] at g
theorem add_end {g : Bool → Sem Unit} (hg : ∀ (b : Bool) (s1 : Shared) (R : Unit → Shared → Prop), R () s1 → wpAny (model P w) A (g b) R E s1) {a : Addr} {o : Obj} {es0 es : Array (Int × Value)} {ep : Nat} {t0 t : SetTable} {L : Bool} {M : Int → Prop} {n : Nat} {wd : Bool} {R : Option Bool → Shared → Prop}
    (ho : s.heap.get? a = some o) (hx : o.ExactSet) (hd : o.data = .set es0 ep t0) (h1 : ElemsOf (intKind P w) es.toList) (h2 : (ksOf es).Nodup) (h3 : ∀ k, k ∈ ksOf es ↔ M k) (h4 : es.size ≤ n) (h5 : t.fits es.size = true) (h6 : TabOk t) (h7 : t.led = L) (hn : n < scanBound)
    (q : ∀ h', Heap.SameBut a s.heap h' → SetI P w h' a L M n → R (some true) { s with heap := h' }) :
    wpAny (model P w) A (do
      storeSet a es t
      if (!wd && t.tooFull) = true then do
        g (relayAll t es (SetTable.grown es.size)).2.2
        storeSet a (relayAll t es (SetTable.grown es.size)).1 (relayAll t es (SetTable.grown es.size)).2.1
        pure (some true)
      else pure (some true)) R E s := by
  refine wpAny_bind (wpAny_storeSet_of ho hd ?_ (fits_of_scanBound (Nat.lt_of_le_of_lt h4 hn)))
  obtain ⟨o1, g1, x1, d1⟩ := set_stored (es := es) (t := t) ho hx hd
  have sb := Heap.SameBut.update s.heap a (Obj.putSet es t)
  split
  · have pm := relayAll_perm t es (SetTable.grown es.size)
    have ft := relayAll_fits t es (SetTable.grown es.size)
    obtain ⟨tb, ld⟩ := relayAll_tab (t := t) es (SetTable.grown es.size)
    generalize relayAll t es (SetTable.grown es.size) = W at pm ft tb ld ⊢
    have kp : (ksOf W.1).Perm (ksOf es) := pm.map _
    have sz : W.1.size = es.size := by rw [← Array.length_toList, pm.length_eq, Array.length_toList]
    refine wpAny_bind (hg _ _ _ ?_)
    refine wpAny_bind (wpAny_storeSet_of g1 d1 ?_ (fits_of_scanBound (by omega)))
    obtain ⟨o2, g2, x2, d2⟩ := set_stored (es := W.1) (t := W.2.1) g1 x1 d1
    exact wpAny_pure (q _ (sb.trans (Heap.SameBut.update _ a _)) ⟨W.1, _, W.2.1, ⟨⟨o2, g2, x2, d2⟩, h1.perm pm, kp.nodup_iff.mpr h2, fun k => kp.mem_iff.trans (h3 k), by omega, ft, tb, ld.trans h7⟩⟩)
  · exact wpAny_pure (q _ sb ⟨es, _, t, ⟨⟨o1, g1, x1, d1⟩, h1, h2, h3, h4, h5, h6, h7⟩⟩)
theorem add_int {a : Addr} {L : Bool} {M : Int → Prop} {n : Nat} {k : Int} {tk : Tok} {R : Bool → Shared → Prop} (h : SetI P w s.heap a L M n) (hn : n + 1 < scanBound)
    (q : ∀ h' b, Heap.SameBut a s.heap h' → SetI P w h' a L (fun j => M j ∨ j = k) (n + 1) → R b { s with heap := h' }) : wpAny (model P w) A (setAddHashed a (.int k tk) (hashInt k)) R E s := by
  obtain ⟨es, ep, t, x⟩ := h
  obtain ⟨o, ho, hx, hd⟩ := x.at_
  have lt : es.size < scanBound := Nat.lt_of_le_of_lt x.len (by omega)
  unfold setAddHashed setAddHashedIn
  refine wpAny_holding (wpAny_bind (wpAny_setState_of ho hd x.fits ?_))
  dsimp only
  rw [byScan_of (knd := intKind P w) (x := .int k tk) rfl lt x.elems]
  simp only [↓reduceIte]
  unfold setAddByScan
  refine wpAny_bind (wpAny_bind (wpAny_rule (wpAny_bind (wpAny_setScan_of (intKind_is P w k tk) ho hd x.fits x.elems ?_))))
  cases c : es.toList.findIdx? (fun e => (intKind P w).is k e.2) with
  | some i =>
    obtain ⟨hi, p, _⟩ := List.findIdx?_eq_some_iff_getElem.mp c
    have there : M k := (x.mem k).mp (List.mem_map.mpr ⟨_, List.getElem_mem hi, (is_num p).1⟩)
    exact wpAny_pure (wpAny_pure (q s.heap false (Heap.SameBut.refl a s.heap) ⟨es, ep, t, ⟨⟨o, ho, hx, hd⟩, x.elems, x.nd, fun j => (x.mem j).trans ⟨.inl, fun z => z.elim id fun e => e ▸ there⟩, Nat.le_succ_of_le x.len, x.fits, x.tab, x.led⟩⟩))
  | none =>
    have fresh : k ∉ ksOf es := fun m => by
      obtain ⟨e, he, ek⟩ := List.mem_map.mp m
      have no := List.findIdx?_eq_none_iff.mp c e he
      obtain ⟨⟨k', hk', _⟩, _⟩ := x.elems e he
      rw [(is_num hk').1] at ek
      subst ek
      rw [hk'] at no
      cases no
    have giving : ∀ (b : Bool) {s1 : Shared} {R' : Unit → Shared → Prop}, R' () s1 → wpAny (model P w) A (match b with | true => rule "set.scan.the-table-gave-way" | false => pure ()) R' E s1 := fun b {s1 R'} z => by
      cases b with
      | true => exact wpAny_rule z
      | false => exact wpAny_pure z
    have pm := layNew_perm t es (hashInt k) (.int k tk)
    have ft := layNew_fits t es (hashInt k) (.int k tk)
    obtain ⟨tb, ld⟩ := layNew_tab x.tab es (hashInt k) (.int k tk)
    dsimp only
    generalize layNew t es (hashInt k) (.int k tk) = W at pm ft tb ld ⊢
    obtain ⟨es1, t1, wd, gv⟩ := W
    dsimp only at pm ft tb ld ⊢
    rw [Array.toList_push] at pm
    have e1 : ElemsOf (intKind P w) es1.toList := (x.elems.push (intKind_is P w k tk) rfl).perm pm
    have kp : (ksOf es1).Perm (ksOf es ++ [k]) := by
      have z := pm.map fun e => numOf e.2
      rwa [List.map_append] at z
    have n1 : (ksOf es1).Nodup := kp.nodup_iff.mpr (List.nodup_append.mpr ⟨x.nd, by simp, fun a ha b hb => by
      have e : b = k := by simpa using hb
      subst e
      exact fun z => fresh (z ▸ ha)⟩)
    have m1 : ∀ j, j ∈ ksOf es1 ↔ (M j ∨ j = k) := fun j => by
      rw [kp.mem_iff, List.mem_append, x.mem j]
      simp
    have s1 : es1.size ≤ n + 1 := by
      rw [← Array.length_toList, pm.length_eq, List.length_append, Array.length_toList]
      exact Nat.succ_le_succ x.len
    refine wpAny_bind (giving _ ?_)
    have led1 : t1.led = L := ld.trans x.led
    split
    · refine wpAny_bind ?_
      rw [hashByValue_scannable 8 (x := .int k tk) rfl]
      refine wpAny_pure ?_
      refine add_end ?_ ho hx hd e1 n1 m1 s1 ft tb led1 hn fun h' z1 z2 => ?_
      · intro b s2 R' z
        exact giving b z
      · exact wpAny_pure (q h' true z1 z2)
    · refine wpAny_bind (wpAny_pure ?_)
      refine add_end ?_ ho hx hd e1 n1 m1 s1 ft tb led1 hn fun h' z1 z2 => ?_
      · intro b s2 R' z
        exact giving b z
      · exact wpAny_pure (q h' true z1 z2)
end
theorem SetI.to {P : Program} {w : World} {h : Heap} {a : Addr} {L : Bool} {M M' : Int → Prop} {n n' : Nat} (q : SetI P w h a L M n) (e : ∀ k, M k ↔ M' k) (le : n ≤ n') : SetI P w h a L M' n' := by
  obtain ⟨es, ep, t, x⟩ := q
  exact ⟨es, ep, t, ⟨x.at_, x.elems, x.nd, fun k => (x.mem k).trans (e k), Nat.le_trans x.len le, x.fits, x.tab, x.led⟩⟩
section
variable {P : Program} {w : World} {A : Around} {R : Result → Shared → Prop} {I S : Addr} {fp wr : List Addr} {G : Array GenState → Array GenState → Prop} {n : Nat} {Pv : Nat → Value → Prop} {St : Nat → Shared → Prop} {L : Bool}
end
section
variable {P : Program} {w : World} {A : Around} {E : Value → Shared → Prop} {s : Shared}
end
end L2
set_option Elab.async false
set_option linter.all false
set_option maxRecDepth 100000
namespace L2
open PySem PySem.Spec PyProof.Rows
def SObj (h : Heap) (S : Addr) (es : Array (Int × Value)) (ep : Nat) (t : SetTable) : Prop := ∃ o, h.get? S = some o ∧ o.data = .set es ep t
section
variable {P : Program} {w : World} {A : Around} {E : Value → Shared → Prop} {s : Shared} {it S : Addr} {es : Array (Int × Value)} {ep i n : Nat} {t : SetTable} {R : Option Value → Shared → Prop}
end
section
variable {P : Program} {w : World} {A : Around} {it S T : Addr} {es : Array (Int × Value)} {ep : Nat} {t : SetTable}
theorem SObj.keep {h h' : Heap} (x : SObj h S es ep t) (k : ∀ o, h.get? S = some o → h'.get? S = some o) : SObj h' S es ep t := by
  obtain ⟨o, g, d⟩ := x
  exact ⟨o, k o g, d⟩
end
structure SetWalk (P : Program) (w : World) (A : Around) (s s' : Shared) (S it : Addr) (fp : List Addr) (vals : Array Value) (St : Nat → Heap → Prop) : Prop where
  walk : Walks P w A it fp [it] vals.size (fun i v => vals[i]? = some v) St
  st : St 0 s'.heap
  below : ∀ b ∈ fp, b < s'.heap.objs.size
  new : ∀ b ∈ fp, b = S ∨ s.heap.objs.size ≤ b
  old : s.heap.objs.size ≤ it
  gens : s'.gens = s.gens
  os : s'.os = s.os
  keep : ∀ b o, s.heap.get? b = some o → s'.heap.get? b = some o
section
variable {P : Program} {w : World} {A : Around} {E : Value → Shared → Prop} {s : Shared} {S : Addr} {L : Bool} {M : Int → Prop} {n : Nat} {es : Array (Int × Value)} {ep : Nat} {t : SetTable}
end
end L2
set_option Elab.async false
set_option linter.all false
set_option maxRecDepth 100000
namespace L2
open PySem PySem.Spec PyProof.Rows
section
variable {P : Program} {w : World} {A : Around} {E : Value → Shared → Prop} {s : Shared} {S : Addr} {M : Int → Prop} {n : Nat}
end
section
variable {X : Cx} {pins : List (Addr × Obj)} {σ : St} {H : Hp} {s : Shared}
theorem Inv.like (I : Inv X pins σ H s) {s' : Shared} (e1 : s'.gens = s.gens) (e2 : s'.os = s.os) (e3 : s'.heap = s.heap) : Inv X pins σ H s' := by
  obtain ⟨hp, g, d, tk, os⟩ := s
  obtain ⟨hp', g', d', tk', os'⟩ := s'
  dsimp only at e1 e2 e3
  subst e1 e2 e3
  exact ⟨I.ok, I.os, I.bare, I.base, I.loc, I.cell, I.free, I.freeC, I.pin, I.hok, I.len⟩
end
end L2
set_option Elab.async false
set_option linter.all false
set_option maxRecDepth 100000
namespace L2
open PySem PySem.Spec PyProof.Rows
theorem Inv.turnLay {X : Cx} {pins : List (Addr × Obj)} {σ : St} {H : Hp} {s : Shared} {h' : Heap} {ch : List Addr} {T : Addr} {o : HO} {t' : Nat} (I : Inv X pins σ H s) (k : ∀ b u, b ∉ ch → s.heap.get? b = some u → h'.get? b = some u) (hf : ∀ b ∈ ch, FpOk X pins H b)
    (hp : s.heap.objs.size ≤ T) (new : ObjOk X.prog X.w (upd H T o) h' T o) : Inv X pins σ (upd H T o) { s with heap := h', toks := t' } := by
  have fr := I.hok.fresh hp
  have out : ∀ b u, H b = some u → b ∉ ch := fun b u e z => by rw [(hf b z).1] at e; cases e
  refine I.step (g' := s.gens) (d' := s.drawn) (ch := ch) (fun b hb => ⟨(hf b hb).2.2.2.1, (hf b hb).2.1, (hf b hb).2.2.2.2.1, (hf b hb).2.2.2.2.2⟩) (fun b u _ _ hc e _ => k b u hc e) (fun b u _ _ hc e _ => ⟨u.slots, k b u hc e⟩)
    (fun b u _ e z => by rw [upd_ne (Nat.ne_of_lt (Nat.lt_of_lt_of_le (Heap.lt_size e) hp))]; exact z) (fun b u hc e => ⟨u, k b u hc e⟩) (fun b xs e => by rw [upd_ne (ne_of_none e fr)]; exact e) (fun b u v e => by rw [upd_ne (ne_of_none e fr)]; exact e)
    (fun b ps e => ⟨#[], by rw [upd_ne (ne_of_none e fr), e]; simp⟩) (fun m hm => ?_) (fun b u e => ?_) I.bare
  · obtain ⟨ob, es, ep, ho, r⟩ := hm
    exact ⟨ob, es, ep, k _ ob (fun z => (hf _ z).2.1 rfl) ho, r⟩
  · by_cases hb : b = T
    · subst hb
      rw [upd_same] at e
      cases e
      exact new
    · rw [upd_ne hb] at e
      refine (I.hok b u e).stay (fun c v hc q => k c v ?_ q) (fun c q => by rw [upd_ne (ne_of_none q fr)]; exact q) fun c xs q => by rw [upd_ne (ne_of_none q fr)]; exact q
      rcases hc with z | z
      · rw [z]; exact out b u e
      · exact out c _ z
section
variable {X : Cx}
end
section
variable {K : PySem.W.Frag} {g : TG} {tt : TT} {te : TE} {D a : Addr} {Q : Hp → Prop} {σ : St} {H : Hp} {xs : List V}
end
section
variable {X : Cx}
end
end L2
set_option Elab.async false
set_option linter.all false
set_option maxRecDepth 100000
namespace L2
open PySem PySem.Spec PyProof.Rows
theorem Inv.turnAll {X : Cx} {pins : List (Addr × Obj)} {σ : St} {H : Hp} {s : Shared} {h' : Heap} {ch : List Addr} {t' : Nat} (I : Inv X pins σ H s) (k : ∀ b u, b ∉ ch → s.heap.get? b = some u → h'.get? b = some u) (hf : ∀ b ∈ ch, FpOk X pins H b) :
    Inv X pins σ H { s with heap := h', toks := t' } := by
  have out : ∀ b u, H b = some u → b ∉ ch := fun b u e z => by rw [(hf b z).1] at e; cases e
  refine I.step (g' := s.gens) (d' := s.drawn) (ch := ch) (fun b hb => ⟨(hf b hb).2.2.2.1, (hf b hb).2.1, (hf b hb).2.2.2.2.1, (hf b hb).2.2.2.2.2⟩) (fun b u _ _ hc e _ => k b u hc e) (fun b u _ _ hc e _ => ⟨u.slots, k b u hc e⟩)
    (fun _ _ _ _ z => z) (fun b u hc e => ⟨u, k b u hc e⟩) (fun _ _ e => e) (fun _ _ _ e => e)
    (fun b ps e => ⟨#[], by rw [e]; simp⟩) (fun m hm => ?_) (fun b u e => ?_) I.bare
  · obtain ⟨ob, es, ep, ho, r⟩ := hm
    exact ⟨ob, es, ep, k _ ob (fun z => (hf _ z).2.1 rfl) ho, r⟩
  · refine (I.hok b u e).stay (fun c v hc q => k c v ?_ q) (fun _ q => q) fun _ _ q => q
    rcases hc with z | z
    · rw [z]; exact out b u e
    · exact out c _ z
def Itz (K : PySem.W.Frag) (a b : Addr) : It := ⟨fun i H => ∃ xs ys x y, SqL K H a xs ∧ SqL K H b ys ∧ xs[i]? = some x ∧ ys[i]? = some y, fun i H x H' => ∃ T v u, L2.new K H T ∧ (∀ xs, SqL K H a xs → xs[i]? = some v) ∧ (∀ ys, SqL K H b ys → ys[i]? = some u) ∧ x = .ref T ∧ H' = upd H T (.tup [v, u]), fun i H => ∃ xs ys, SqL K H a xs ∧ SqL K H b ys ∧ (xs.length ≤ i ∨ ys.length ≤ i)⟩
theorem turn_zip {P : Program} {w : World} {K : PySem.W.Frag} {es : List Expr} {k : Nat} {tp : Pos} (a b z TI TO i1 i2 : Addr) (D : ZipApart z TI TO i1 i2 a b) : Turn P w K (.Tuple es k tp) (Itz K a b) [z, TI, TO, i1, i2] z
    (fun i h => IsZip h z TI TO .none ∧ IsPair h TI (.ref i1) (.ref i2) ∧ (∃ p q, IsPair h TO p q) ∧ h.IsListIter i1 a i ∧ h.IsListIter i2 b i) where
  mem := by simp
  obj := fun i h st c hc => by
    obtain ⟨g1, g2, ⟨p, q, g3⟩, ⟨o4, g4, c4, d4⟩, ⟨o5, g5, c5, d5⟩⟩ := st
    simp only [List.mem_cons, List.not_mem_nil, or_false] at hc
    rcases hc with rfl | rfl | rfl | rfl | rfl
    · exact ⟨_, g1, fun v z => by cases z⟩
    · exact ⟨_, g2, fun v z => by cases z⟩
    · exact ⟨_, g3, fun v z => by cases z⟩
    · exact ⟨o4, g4, fun v z => by rw [d4] at z; cases z⟩
    · exact ⟨o5, g5, fun v z => by rw [d5] at z; cases z⟩
  keep := fun i h h' st kk => by
    obtain ⟨g1, g2, ⟨p, q, g3⟩, g4, g5⟩ := st
    exact ⟨kk z (by simp) _ g1, kk TI (by simp) _ g2, ⟨p, q, kk TO (by simp) _ g3⟩, g4.at fun o g => kk i1 (by simp) o g, g5.at fun o g => kk i2 (by simp) o g⟩
  item := by
    intro X hP hw hK hc i pins s σ H E I hf st hg
    subst hP hw hK
    obtain ⟨xs, ys, x, y, hq, hq', hx, hy⟩ := hg
    obtain ⟨its, rv, p, hz⟩ := I.list hq
    obtain ⟨its', rv', p', hz'⟩ := I.list hq'
    obtain ⟨u, hu, ru⟩ := rv.get hx
    obtain ⟨u', hu', ru'⟩ := rv'.get hy
    obtain ⟨g1, g2, ⟨a', b', g3⟩, g4, g5⟩ := st
    refine wpAny_pyNext_zip_item D g1 g2 g3 g4 g5 p.isList p'.isList (x := u) (y := u') (by simpa using hu) (by simpa using hu') fun h1 hz1 hTO1 hi1 hi2 gT sz kp => ?_
    refine ⟨_, rfl, wpAny_letOwnedTupleGo_zip hz1 fun h2 hz2 sb => ?_⟩
    have ltZ : z < s.heap.objs.size := Heap.lt_size g1
    have gT2 : h2.get? s.heap.objs.size = some { cls := .type "tuple", data := .seq #[u, u'] } := (sb.2 _ (Nat.ne_of_gt ltZ)).trans gT
    have I1 : Inv X pins σ (upd H s.heap.objs.size (.tup [x, y])) { s with heap := h2, toks := s.toks } := by
      refine I.turnLay (ch := [z, TI, TO, i1, i2]) (fun b o hb g => ?_) hf (Nat.le_refl _) ⟨(show 2 ≤ sizeLine by decide), [u, u'], .cons ru (.cons ru' .nil), _, gT2, rfl, _, rfl⟩
      simp only [List.mem_cons, List.not_mem_nil, or_false, not_or] at hb
      exact (sb.2 b hb.1).trans (kp b o hb.1 hb.2.2.1 hb.2.2.2.1 hb.2.2.2.2 g)
    have kT : ∀ c o, c ≠ z → h1.get? c = some o → h2.get? c = some o := fun c o n g => (sb.2 c n).trans g
    refine ⟨.ref s.heap.objs.size, _, I1, rfl, ⟨_, x, y, ⟨I.hok.fresh (Nat.le_refl _), I1.notMod upd_same⟩, fun ys hy => by rw [I.list_inj hy hq]; exact hx, fun zs hy' => by rw [I.list_inj hy' hq']; exact hy, rfl, rfl⟩,
      ⟨hz2, kT _ _ D.TIz (kp _ _ D.TIz D.TITO D.TIi1 D.TIi2 g2), ⟨_, _, kT _ _ D.TOz hTO1⟩, hi1.at fun o g => kT _ o D.i1z g, hi2.at fun o g => kT _ o D.i2z g⟩, fun c hc => ?_⟩
    have ltc : c < s.heap.objs.size := by
      obtain ⟨o4, e4, _⟩ := g4
      obtain ⟨o5, e5, _⟩ := g5
      simp only [List.mem_cons, List.not_mem_nil, or_false] at hc
      rcases hc with rfl | rfl | rfl | rfl | rfl
      · exact ltZ
      · exact Heap.lt_size g2
      · exact Heap.lt_size g3
      · exact Heap.lt_size e4
      · exact Heap.lt_size e5
    rw [upd_ne (Nat.ne_of_lt ltc)]
    exact (hf c hc).1
  done := by
    intro X hP hw hK hc i pins s σ H E I hf st hg
    subst hP hw hK
    obtain ⟨xs, ys, hq, hq', hx⟩ := hg
    obtain ⟨its, rv, p, hz⟩ := I.list hq
    obtain ⟨its', rv', p', hz'⟩ := I.list hq'
    obtain ⟨g1, g2, ⟨a', b', g3⟩, g4, g5⟩ := st
    have hl := rv.length
    have hl' := rv'.length
    refine wpAny_pyNext_zip_end (I.ok.hd hc) D g1 g2 g3 g4 g5 p.isList p'.isList ?_ fun h' kp => ⟨rfl, I.turnAll (t' := s.toks) (ch := [z, TI, TO, i1, i2]) (fun b o hb g => ?_) hf⟩
    · rcases hx with e | e
      · exact .inl (by simp; omega)
      · exact .inr (by simp; omega)
    · simp only [List.mem_cons, List.not_mem_nil, or_false, not_or] at hb
      exact kp b o hb.1 hb.2.2.1 hb.2.2.2.1 hb.2.2.2.2 g
  self := fun _ _ _ _ _ st h => wpAny_pyIter_zip st.1 h
section
variable {X : Cx}
end
section
variable {K : PySem.W.Frag} {ta : TA} {g : TG} {tb : TS} {D : Ends} {σ : St} {H : Hp} {a b : Addr} {xs ys : List V}
end
section
variable {X : Cx}
end
mutual
def wt : PyData → Nat
  | .none => 1
  | .bool _ => 1
  | .int _ => 1
  | .str _ => 1
  | .list ds => wtAll ds + 1
  | .tuple ds => wtAll ds + 1
  | .dict _ => 1
def wtAll : List PyData → Nat
  | [] => 0
  | d :: ds => wt d + wtAll ds
end
mutual
def bare : PyData → Bool
  | .none => true
  | .int i => decide (i.natAbs.log2 < 1920)
  | .list ds => bareAll ds
  | .tuple ds => bareAll ds
  | _ => false
def bareAll : List PyData → Bool
  | [] => true
  | d :: ds => bare d && bareAll ds
end
theorem listText_le (ts : List Str) : (listText ts).length ≤ piled ts + 2 := by
  cases ts with
  | nil => exact Nat.le_of_eq rfl
  | cons t r =>
    have h := textFrom_length_pos r 1 (("[" : Str) ++ (if (0 : Nat) > 0 then ", " else "" : String) ++ t) (Nat.succ_pos 0)
    have e : ((("[" : Str) ++ (if (0 : Nat) > 0 then ", " else "" : String) ++ t)).length = 1 + t.length := by
      rw [strLen_append, strLen_append]; rfl
    have hX : (listText (t :: r)).length = (textFrom 0 "[" (t :: r)).length + 1 := by
      show (textFrom 0 "[" (t :: r) ++ "]").length = _
      rw [strLen_append]; rfl
    have hY : (textFrom 0 "[" (t :: r)).length = (textFrom 1 (("[" : Str) ++ (if (0 : Nat) > 0 then ", " else "" : String) ++ t) r).length := rfl
    rw [hX, hY, h, e, piled_cons]; omega
theorem tupleText_le (ts : List Str) : (tupleText ts).length ≤ piled ts + 3 := by
  unfold tupleText
  rw [strLen_append, strLen_append]
  have e1 : ((("(" : String) : Str)).length = 1 := rfl
  have e3 : (((if ts.length == 1 then ",)" else ")" : String) : Str)).length ≤ 2 := by split <;> decide
  rw [e1]
  by_cases h : ts = []
  · subst h
    have : (Str.join ", " []).length = 0 := rfl
    omega
  · have := join_length_add ts h
    omega
mutual
theorem shown_le : ∀ {d : PyData}, bare d = true → d.shown.length + 4 ≤ 1930 * wt d
  | .none, _ => by simp only [PyData.shown, wt]; decide
  | .int i, h => by
    simp only [bare, decide_eq_true_eq] at h
    have := int_text_len_1921 h
    simp only [PyData.shown, wt]
    omega
  | .list ds, h => by
    simp only [bare] at h
    have := shownAll_le h
    have l := listText_le (PyData.shownAll ds)
    simp only [PyData.shown, wt]
    omega
  | .tuple ds, h => by
    simp only [bare] at h
    have := shownAll_le h
    have l := tupleText_le (PyData.shownAll ds)
    simp only [PyData.shown, wt]
    omega
  | .bool _, h => by simp [bare] at h
  | .str _, h => by simp [bare] at h
  | .dict _, h => by simp [bare] at h
theorem shownAll_le : ∀ {ds : List PyData}, bareAll ds = true → piled (PyData.shownAll ds) ≤ 1930 * wtAll ds
  | [], _ => by simp [PyData.shownAll, piled, wtAll]
  | d :: ds, h => by
    simp only [bareAll, Bool.and_eq_true] at h
    have h1 := shown_le h.1
    have h2 := shownAll_le h.2
    simp only [PyData.shownAll, piled_cons, wtAll]
    omega
end
mutual
theorem bare_show : ∀ {d : PyData}, bare d = true → d.showable = true ∧ d.hasDict = false
  | .none, _ => by simp only [PyData.showable, PyData.hasDict]; exact ⟨trivial, trivial⟩
  | .int i, h => by
    simp only [bare] at h
    simp only [PyData.showable, PyData.hasDict]
    exact ⟨h, trivial⟩
  | .list ds, h => by
    simp only [bare] at h
    simp only [PyData.showable, PyData.hasDict]
    exact bareAll_show h
  | .tuple ds, h => by
    simp only [bare] at h
    simp only [PyData.showable, PyData.hasDict]
    exact bareAll_show h
  | .bool _, h => by simp [bare] at h
  | .str _, h => by simp [bare] at h
  | .dict _, h => by simp [bare] at h
theorem bareAll_show : ∀ {ds : List PyData}, bareAll ds = true → PyData.showableAll ds = true ∧ PyData.hasDictAll ds = false
  | [], _ => by simp [PyData.showableAll, PyData.hasDictAll]
  | d :: ds, h => by
    simp only [bareAll, Bool.and_eq_true] at h
    have h1 := bare_show h.1
    have h2 := bareAll_show h.2
    simp only [PyData.showableAll, PyData.hasDictAll, h1.1, h1.2, h2.1, h2.2, Bool.and_self, Bool.or_self]
    exact ⟨trivial, trivial⟩
end
section
variable {X : Cx}
end
end L2
set_option Elab.async false
set_option linter.all false
set_option maxRecDepth 100000
namespace PySem
open Sem (wp)
end PySem
namespace PySem
namespace F
end F
section
variable {prog : Program} {w : World} {A : Around} {E : Value → Shared → Prop} {s : Shared}
end
section
variable {prog : Program} {w : World} {A : Around} {R : Result → Shared → Prop} {I : Addr} {fp wr : List Addr} {G : Array GenState → Array GenState → Prop} {n : Nat} {P : Nat → Value → Prop} {St : Nat → Shared → Prop} {K : Type} [DecidableEq K] {knd : KeyKind prog w K}
end
end PySem
namespace PySem
section
variable {prog : Program} {w : World} {K : Type} [DecidableEq K] {knd : KeyKind prog w K} {A : Around} {E : Value → Shared → Prop} {s : Shared}
end
end PySem
namespace L2
open PySem PySem.Spec PyProof.Rows
section
variable {X : Cx}
theorem op_inD (hu : X.A.units + 64 < cLine) : OpR X (compareOp .In) (fun x y H Q => ∃ (a : Addr) (kvs : List (Key × V)) (k : Int), y = .ref a ∧ x = .int k ∧ H a = some (.dK kvs) ∧ Q (.bl (valV kvs (.inl k)).isSome) H) := by
  intro pins s σ H x y v u Q I rx ry h
  obtain ⟨a, kvs, k, rfl, rfl, e, q⟩ := h
  cases ry
  exact d_in (by omega) I (DGet.k (k := .inl k) e) rx fun s' I' => ⟨.bl _, H, I', rfl, q⟩
theorem edget {o i : Expr} {td ty : TE} {pos : Pos} (hu : X.A.units + 64 < cLine) (ho : JE X o td) (hi : JE X i ty) (hs : NoSl i) : JE X (.Subscript o i pos) (tDGet td ty) := ⟨pe_dget (by omega) ho.h hi.h hs⟩
end
end L2
set_option Elab.async false
set_option linter.all false
set_option maxRecDepth 100000
namespace L2
open PySem PySem.Spec PyProof.Rows
theorem is_kV {P : Program} {w : World} {k : Key} {u : Value} (h : (mixKind P w).is k u = true) : RelV (kV k) u := by
  rcases keyIs_shape h with ⟨i, t, rfl, rfl⟩ | ⟨x, t, rfl, rfl⟩
  · exact ⟨t, rfl⟩
  · exact ⟨t, rfl⟩
section
variable {X : Cx} {pins : List (Addr × Obj)} {σ : St} {H : Hp} {s : Shared}
theorem Inv.swap {d : Addr} {u0 u1 : HO} (I : Inv X pins σ H s) (e : H d = some u0) (m0 : ∀ xs, u0 ≠ .tup xs) (m1 : ∀ o u, X.H₀ d ≠ some (.frz o u)) (m2 : ∀ ps, u0 ≠ .tbl ps) (m3 : ∀ x, u0 ≠ .own x) (new : ObjOk X.prog X.w (upd H d u1) s.heap d u1) : Inv X pins σ (upd H d u1) s where
  ok := I.ok
  os := I.os
  bare := I.bare
  base := ⟨I.base.keep, I.base.slot, fun b o g n x => by
      have z := I.base.free b o g n x
      rw [upd_ne (fun q => by rw [q, e] at z; cases z)]
      exact z, I.base.there, fun b xs g => by
      have z := I.base.tups b xs g
      rw [upd_ne (fun q => by rw [q, e] at z; exact m0 xs (Option.some.inj z))]
      exact z, fun b o u g => by
      have z := I.base.frzs b o u g
      rw [upd_ne (fun q => by rw [q] at g; exact m1 o u g)]
      exact z, fun b ps g => by
      obtain ⟨more, z⟩ := I.base.tbls b ps g
      refine ⟨more, ?_⟩
      rw [upd_ne (fun q => by rw [q, e] at z; exact m2 _ (Option.some.inj z))]
      exact z⟩
  loc := I.loc
  cell := I.cell
  free := by
    have z := I.free
    rw [upd_ne (fun q => by rw [q, e] at z; cases z)]
    exact z
  freeC := fun x c g => by
    have z := I.freeC x c g
    rw [upd_ne (fun q => by rw [q, e] at z; cases z)]
    exact z
  pin := fun p hp => by
    obtain ⟨a1, a2, a3⟩ := I.pin p hp
    refine ⟨a1, ?_, a3⟩
    rw [upd_ne (fun q => by rw [q, e] at a2; cases a2)]
    exact a2
  hok := fun a o g => by
    by_cases q : a = d
    · subst q
      rw [upd_same] at g
      cases g
      exact new
    · rw [upd_ne q] at g
      refine (I.hok a o g).stay (fun _ _ _ z => z) (fun b z => ?_) fun b xs z => ?_
      · rw [upd_ne (fun q => by rw [q, e] at z; exact m3 _ (Option.some.inj z))]
        exact z
      · rw [upd_ne (fun q => by rw [q, e] at z; exact m0 _ (Option.some.inj z))]
        exact z
  len := I.len
theorem Inv.notFrz {d : Addr} {kvs : List (Key × V)} (I : Inv X pins σ H s) (e : H d = some (.dK kvs)) : ∀ o u, X.H₀ d ≠ some (.frz o u) := fun o u z => by
  have q := I.base.frzs d o u z
  rw [e] at q
  cases q
theorem Inv.freeze {d : Addr} {kvs : List (Key × V)} {od : Obj} (I : Inv X pins σ H s) (e : H d = some (.dK kvs)) (g : s.heap.get? d = some od) : Inv X pins σ (upd H d (.frz od (.dK kvs))) s :=
  I.swap e (fun _ => nofun) (I.notFrz e) (fun _ => nofun) (fun _ => nofun) ⟨g, I.hok d _ e⟩
theorem Inv.thaw {d : Addr} {kvs : List (Key × V)} {od : Obj} (I : Inv X pins σ H s) (e : H d = some (.frz od (.dK kvs))) (m : ∀ o u, X.H₀ d ≠ some (.frz o u)) : Inv X pins σ (upd H d (.dK kvs)) s :=
  I.swap e (fun _ => nofun) m (fun _ => nofun) (fun _ => nofun) (I.hok d _ e).2
end
def Itd (d : Addr) (od : Obj) (kvs : List (Key × V)) : It :=
  ⟨fun i H => H d = some (.frz od (.dK kvs)) ∧ i < kvs.length, fun i H x H' => H' = H ∧ ∃ p, kvs[i]? = some p ∧ x = kV p.1, fun i H => H d = some (.frz od (.dK kvs)) ∧ kvs.length ≤ i⟩
theorem kv_at {kvs : List (Key × V)} {vs : List (Key × Value)} (r : KV kvs vs) : ∀ {i : Nat} {p : Key × V}, kvs[i]? = some p → ∃ v, vs[i]? = some (p.1, v) := by
  unfold KV at r
  induction r with
  | nil => intro i p h; simp at h
  | @cons a b as bs h t ih =>
    intro i p e
    cases i with
    | zero =>
      simp only [List.getElem?_cons_zero, Option.some.injEq] at e ⊢
      subst e
      exact ⟨b.2, by rw [h.1]⟩
    | succ i =>
      simp only [List.getElem?_cons_succ] at e ⊢
      exact ih e
theorem frz_at {P : Program} {w : World} {H : Hp} {h : Heap} {d : Addr} {od : Obj} {kvs : List (Key × V)} {es : Array DictEntry} {ep : Nat} (hdat : od.data = .dict es ep) (x : ObjOk P w H h d (.frz od (.dK kvs))) : ∃ vs, KV kvs vs ∧ h.DictAt (mixKind P w) d vs ep := by
  obtain ⟨g, z, hd, vs, rel, o, es', ep', g', r1, r2, r3⟩ := x
  rw [g] at g'
  cases g'
  rw [hdat] at r2
  cases r2
  exact ⟨vs, rel, od, es, g, r1, hdat, r3⟩
theorem turn_dict {P : Program} {w : World} {K : PySem.W.Frag} {tg : Expr} {d it : Addr} {od : Obj} {kvs : List (Key × V)} {es : Array DictEntry} {ep : Nat} (hdat : od.data = .dict es ep) : Turn P w K tg (Itd d od kvs) [it] it (fun i h => h.IsKeyIter it d i kvs.length ep) where
  mem := by simp
  obj := fun i h st b hb => by
    have e : b = it := by simpa using hb
    subst e
    obtain ⟨o, e, c, d⟩ := st
    exact ⟨o, e, fun v z => by rw [d] at z; cases z⟩
  keep := fun i h h' st k => st.at fun o e => k it (by simp) o e
  item := by
    intro X hP hw hK hc i pins s σ H E I hf st hg
    subst hP hw hK
    obtain ⟨e, lt⟩ := hg
    obtain ⟨vs, rel, da⟩ := frz_at hdat (I.hok d _ e)
    obtain ⟨p, ep⟩ : ∃ p, kvs[i]? = some p := ⟨_, List.getElem?_eq_getElem lt⟩
    obtain ⟨v, ev⟩ := kv_at rel ep
    obtain ⟨f0, f1, f2, f3, f4, f5⟩ := hf it (by simp)
    refine wpAny_pyNext_dict_item (kvs := vs) (by rw [← rel.length]; exact st) da ev fun key h' hk st' sb => ?_
    have I1 : Inv X pins σ H { s with heap := h' } := I.turned (t' := s.toks) (fun b o hb e => (sb.2 b hb).trans e) f0 f1 f3 f4 f5
    rw [← rel.length] at st'
    obtain ⟨o, e, c, d⟩ := id st'
    exact ⟨key, rfl, go_of (s := { s with heap := h' }) e c d (by decide) ⟨kV p.1, H, I1, is_kV hk, ⟨rfl, p, ep, rfl⟩, st', fun b hb => (hf b hb).1⟩⟩
  done := by
    intro X hP hw hK hc i pins s σ H E I hf st hg
    subst hP hw hK
    obtain ⟨e, le⟩ := hg
    obtain ⟨vs, rel, da⟩ := frz_at hdat (I.hok d _ e)
    obtain ⟨f0, f1, f2, f3, f4, f5⟩ := hf it (by simp)
    exact wpAny_pyNext_dict_end (kvs := vs) (I.ok.hd hc) (by rw [← rel.length]; exact st) da (List.getElem?_eq_none (by rw [← rel.length]; exact le)) fun h' eb => ⟨rfl, I.turned (t' := s.toks) (fun b o hb e => eb b o hb e) f0 f1 f3 f4 f5⟩
  self := fun _ _ _ _ _ st h => wpAny_pyIter_keyiter st h
def tLcD (K : PySem.W.Frag) (td : TE) (src : List (Option Nat)) (g : TG) (tt : TT) (te : TE) : TE := fun σ H Q => td σ H fun x H1 => ∃ a kvs, x = .ref a ∧ H1 a = some (.dK kvs) ∧ ∀ od D, L2.new K (upd H1 a (.frz od (.dK kvs))) D →
  LcLoop (Itd a od kvs) g tt te D (fun H' => H' a = some (.frz od (.dK kvs)) ∧ Q (.ref D) (upd H' a (.dK kvs))) (pick σ src) (upd (upd H1 a (.frz od (.dK kvs))) D (.lst []))
section
variable {X : Cx} {sc : Scope} {N : List Str} {src : List (Option Nat)} {tg iter elt : Expr} {ifs : List Expr} {td : TE} {g : TG} {tt : TT} {te : TE} {pos : Pos}
theorem elcD (c : Cap X sc N src) (hc : X.calm = true) (hi : JE X iter td)
    (hg : ∀ C s H fp, JG (X.comp N sc C s H fp) tg g) (ht : ∀ C s H fp, JF (X.comp N sc C s H fp) ifs tt) (he : ∀ C s H fp, JE (X.comp N sc C s H fp) elt te)
    (hs : ∀ x, foldedSetIterable iter X.env x = pure x := by intro _; rfl) : JE X (.ListComp elt [⟨tg, iter, ifs, 0⟩] sc pos) (tLcD X.K td src g tt te) := ⟨by
  intro pins s σ H Q I h
  rw [eval_ListComp]
  refine wpAny_comprehension_free (use := none) rfl hs (closureFor_eq fun x hx hk => ?_) c.kind c.names ?_
  · obtain ⟨n, k⟩ := x
    cases hk
    exact I.ok.has _ (c.free hx)
  refine thn (hi.h pins s σ H _ I h) fun v s1 ⟨x, H1, I1, r1, q1⟩ => ?_
  obtain ⟨a, kvs, rfl, e, q⟩ := q1
  cases r1
  obtain ⟨z, hsys, vs, rel, dd⟩ := dk_of I1.hok e
  obtain ⟨ep, da⟩ := dd.dictAt
  obtain ⟨od, es, god, r1, hdat, r⟩ := id da
  refine wpAny_pyIter_dict hsys da ?_
  have If := I1.freeze e god
  have lt : a < s1.heap.objs.size := Heap.lt_size god
  have I2 : Inv X pins σ (upd H1 a (.frz od (.dK kvs))) { s1 with heap := s1.heap.push { cls := .type "dict_keyiterator", data := .fields #[.ref a, .int 0 0, .int vs.length 0, .int ep 0] } } := If.kept (t' := s1.toks) fun b o e => Heap.get?_push_of_some _ e
  have f2 : ∀ b ∈ [s1.heap.objs.size], FpOk X pins (upd H1 a (.frz od (.dK kvs))) b := fun b hb => by
    have e : b = s1.heap.objs.size := by simpa using hb
    subst e
    exact If.fpOk (Nat.le_refl _) (If.hok.fresh (Nat.le_refl _))
  refine comp_run (R := fun acc C => compPost (model X.prog X.w) X.A X.xe none (EP X pins σ Q) acc C) (Q := fun v H' => H' a = some (.frz od (.dK kvs)) ∧ Q v (upd H' a (.dK kvs))) c hc hg ht he I2 (turn_dict hdat) ⟨_, Heap.get?_push_size _ rfl, rfl, by rw [rel.length]; rfl⟩ f2 (fun D nD => q od D nD) fun D C s' σ' H' hC I' q => ?_
  obtain ⟨m, hn, _⟩ := id I'.loc
  refine ⟨m, hn, fun h' sb => ?_⟩
  have I3 := I2.unblock f2 hC I' fun b hb => sb.2 b hb
  exact ⟨.ref D, _, I3.thaw q.1 (I1.notFrz e), rfl, q.2⟩⟩
end
section
variable {prog : Program} {w : World} {A : Around} {R : Result → Shared → Prop} {s : Shared}
end
section
variable {X : Cx} {sc : Scope} {N : List Str} {src : List (Option Nat)} {tg iter kx vx : Expr} {ifs : List Expr} {wi : TI} {g : TG} {tt : TT} {tk tv : TE} {pos : Pos}
end
end L2
set_option Elab.async false
set_option linter.all false
set_option maxRecDepth 100000
set_option maxHeartbeats 4000000
namespace L2
open PySem PySem.Spec PyProof.Rows
section
variable {P : Program} {w : World} {A : Around} {E : Value → Shared → Prop} {s : Shared} {S : Addr} {vs : List (Key × Value)} {ep : Nat}
theorem collect_dict (calm : A.handled = none) (hsys : (S == sysModules) = false) (da : s.heap.DictAt (mixKind P w) S vs ep) (few : vs.length ≤ 1000) {Q : List Value → Shared → Prop}
    (q : ∀ (us : List Value) (s' : Shared), us.length = vs.length → (∀ (i : Nat) (u : Value), us[i]? = some u → ∃ k v, vs[i]? = some (k, v) ∧ (mixKind P w).is k u = true) → s'.gens = s.gens → s'.os = s.os → (∀ b o, s.heap.get? b = some o → s'.heap.get? b = some o) → s.heap.objs.size ≤ s'.heap.objs.size → Q us s') :
    wpAny (model P w) A (collect (.ref S)) Q E s := by
  obtain ⟨o, es, g, ex, d⟩ := id da
  have ltS : S < s.heap.objs.size := Heap.lt_size g
  have line : vs.length ≤ sizeLine := Nat.le_trans few (by decide)
  unfold collect
  refine wpAny_bind (wpAny_runValue (codeAny_builtin PySem.F.entry_proto_collect ?_))
  rw [Around.under_plainId PySem.F.plain_proto_collect _]
  show wpAny _ A.in1 (newList [] >>= fun l => again (.builtin "list.__iadd__" ⟨[l, .ref S], []⟩)) _ _ s
  refine wpAny_bind (wpAny_newObj_type (wpAny_pure ⟨plainId_quiet PySem.F.plain_list_iadd _, codeAny_builtin PySem.F.entry_list_iadd ?_⟩))
  rw [Around.under_plainId PySem.F.plain_list_iadd _]
  have gD : (s.heap.push { cls := .type "list", data := .seq ([] : List Value).toArray }).get? s.heap.objs.size = some { cls := .type "list", data := .seq ([] : List Value).toArray } := Heap.get?_push_size _ rfl
  have da1 : (s.heap.push { cls := .type "list", data := .seq ([] : List Value).toArray }).DictAt (mixKind P w) S vs ep := da.push _
  have szD : (s.heap.push { cls := .type "list", data := .seq ([] : List Value).toArray }).objs.size = s.heap.objs.size + 1 := Heap.size_push ..
  show wpAny _ A.in1 (Builtin.List.listExtendWith (.ref s.heap.objs.size) (.ref S) (.ref s.heap.objs.size)) _ _ { s with heap := s.heap.push { cls := .type "list", data := .seq ([] : List Value).toArray } }
  have ty1 : Shared.TypeIs { s with heap := s.heap.push { cls := .type "list", data := .seq ([] : List Value).toArray } } (.ref S) "dict" := da1.dictOf.typeIs
  have apart : Builtin.List.listSameRef (.ref s.heap.objs.size) (.ref S) = false := by
    simp only [Builtin.List.listSameRef, beq_eq_false_iff_ne]
    exact Nat.ne_of_gt ltS
  unfold Builtin.List.listExtendWith
  refine wpAny_bind (wpAny_typeOf ty1 ?_)
  rw [if_neg (by rw [apart]; decide)]
  refine wpAny_bind (wpAny_pyIter_dict hsys da1 ?_)
  generalize hH : (s.heap.push { cls := .type "list", data := .seq ([] : List Value).toArray }) = h1 at gD da1 szD ty1 ⊢
  have da2 : (h1.push { cls := .type "dict_keyiterator", data := .fields #[.ref S, .int 0 0, .int vs.length 0, .int ep 0] }).DictAt (mixKind P w) S vs ep := da1.push _
  have gD2 : (h1.push { cls := .type "dict_keyiterator", data := .fields #[.ref S, .int 0 0, .int vs.length 0, .int ep 0] }).get? s.heap.objs.size = some { cls := .type "list", data := .seq ([] : List Value).toArray } := Heap.get?_push_of_some _ gD
  have gI : (h1.push { cls := .type "dict_keyiterator", data := .fields #[.ref S, .int 0 0, .int vs.length 0, .int ep 0] }).IsKeyIter h1.objs.size S 0 vs.length ep := ⟨_, Heap.get?_push_size _ rfl, rfl, rfl⟩
  have ty2 : Shared.TypeIs { s with heap := h1.push { cls := .type "dict_keyiterator", data := .fields #[.ref S, .int 0 0, .int vs.length 0, .int ep 0] } } (.ref S) "dict" := da2.dictOf.typeIs
  have kp2 : ∀ b o, s.heap.get? b = some o → (h1.push { cls := .type "dict_keyiterator", data := .fields #[.ref S, .int 0 0, .int vs.length 0, .int ep 0] }).get? b = some o := fun b o e => Heap.get?_push_of_some _ (hH ▸ Heap.get?_push_of_some _ e)
  show wpAny _ _ _ _ _ { s with heap := h1.push { cls := .type "dict_keyiterator", data := .fields #[.ref S, .int 0 0, .int vs.length 0, .int ep 0] } }
  generalize (h1.push { cls := .type "dict_keyiterator", data := .fields #[.ref S, .int 0 0, .int vs.length 0, .int ep 0] }) = h2 at da2 gD2 gI ty2 kp2 ⊢
  refine wpAny_bind (wpAny_holding ?_)
  unfold Builtin.List.listLengthHint
  refine wpAny_bind (wpAny_specialOf (name := Str.ofString "__len__") ty2 PySem.F.slot_dict_len.lookup ?_)
  wp_delta
  refine wpAny_bind (wpAny_isInstance (T := "dict") (b := true) ty2 (by rw [isSubtype_type]; kernel_rfl) ?_)
  show wpAny _ _ (typeOf (Value.ref S) >>= _) _ _ _
  refine wpAny_bind (wpAny_typeOf ty2 ?_)
  refine wpAny_pure ?_
  rw [if_pos (by decide)]
  refine wpAny_bind (wpAny_rule ?_)
  have nDS : s.heap.objs.size ≠ S := Nat.ne_of_gt ltS
  have nDI : s.heap.objs.size ≠ h1.objs.size := by rw [szD]; exact Nat.ne_of_lt (Nat.lt_succ_self _)
  refine wpAny_bind ?_
  show wpAny _ A.in1 (updateSeq s.heap.objs.size (·.push .none) >>= fun _ => updateSeq s.heap.objs.size (·.pop)) _ _ _
  refine wpAny_bind (wpAny_updateSeq gD2 rfl ?_)
  have gD3 := Heap.get?_update_self (Obj.mapSeq (·.push Value.none)) gD2 rfl
  refine wpAny_updateSeq gD3 rfl ?_
  have gD4 := Heap.get?_update_self (Obj.mapSeq (·.pop)) gD3 rfl
  have other : ∀ b o, b ≠ s.heap.objs.size → h2.get? b = some o → ((h2.update s.heap.objs.size (Obj.mapSeq (·.push Value.none))).update s.heap.objs.size (Obj.mapSeq (·.pop))).get? b = some o :=
    fun b o hb e => (Heap.get?_update_other _ _ (Ne.symm hb)).trans ((Heap.get?_update_other _ _ (Ne.symm hb)).trans e)
  have neI : S ≠ h1.objs.size := Nat.ne_of_lt (by rw [szD]; exact Nat.lt_succ_of_lt ltS)
  refine wpAny_pure ⟨plainId_quiet PySem.F.plain_extend_loop _, codeAny_extend_loopS ((Walks.dictKeys (knd := mixKind P w) (A := A.in1) (by simpa using calm) h1.objs.size S neI vs ep).toS) line _ (by simp only [List.mem_cons, List.not_mem_nil, or_false, not_or]; exact ⟨nDI, nDS⟩) _ vs.length 0 _ _ _ rfl (Nat.zero_le _) ⟨gI.at fun o e => other _ o (Ne.symm nDI) e, da2.at' fun o e => other _ o (Ne.symm nDS) e⟩ gD4 (ItemsOf.nil _) fun s3 acc c mv gD5 its => ?_⟩
  show wpAny _ A (load s.heap.objs.size >>= _) _ _ s3
  refine wpAny_bind (wpAny_load gD5 ?_)
  refine wpAny_pure (q _ _ (by rw [Array.length_toList]; exact its.1) (fun i u e => ?_) mv.gens mv.os (fun b ob e => ?_) (Nat.le_of_lt (Heap.lt_size gD5)))
  · rw [Array.getElem?_toList] at e
    exact its.2 i u e
  · have lt : b < s.heap.objs.size := Heap.lt_size e
    refine mv.heap b ob (fun z => ?_) (other b ob (Nat.ne_of_lt lt) (kp2 b ob e))
    rcases List.mem_cons.mp z with z | z
    · exact Nat.ne_of_lt lt z
    · have zi : b = h1.objs.size := by simpa using z
      subst zi
      rw [szD] at lt
      exact Nat.lt_irrefl _ (Nat.lt_of_succ_lt lt)
theorem ints_of : ∀ {us : List Value} {ns : List Int}, us.length = ns.length → (∀ (i : Nat) (u : Value), us[i]? = some u → ∃ n t, ns[i]? = some n ∧ u = .int n t) → IntsAre us ns
  | [], [], _, _ => .nil
  | [], _ :: _, h, _ => by simp at h
  | _ :: _, [], h, _ => by simp at h
  | u :: us, n :: ns, h, f => by
    obtain ⟨n', t, e, rfl⟩ := f 0 u rfl
    cases e
    exact .cons n t (ints_of (by simpa using h) fun i u e => f (i + 1) u (by simpa using e))
theorem sorted_dict (calm : A.handled = none) (hsys : (S == sysModules) = false) (da : s.heap.DictAt (mixKind P w) S vs ep) {ns : List Int} (hk : vs.map (·.1) = ns.map Sum.inl) (few : ns.length < 64) {R : Value → Shared → Prop}
    (q : ∀ (D : Addr) (out : List Value) (ks : List Int) (m : Nat) (s' : Shared), IntsAre out ks → ks.Pairwise (· < ·) → (∀ k, k ∈ ks ↔ k ∈ ns) → ks.length = ns.length → s'.gens = s.gens → s'.os = s.os → (∀ b o, s.heap.get? b = some o → s'.heap.get? b = some o) → s.heap.objs.size ≤ D → s'.heap.get? D = some (seqObj "list" out.toArray m) → R (.ref D) s') :
    wpAny (model P w) A (call (.builtin "sorted") [.ref S]) R E s := by
  have lv : vs.length = ns.length := by have := congrArg List.length hk; simpa using this
  have nd : ns.Nodup := by
    have := da.nodup
    rw [hk] at this
    exact (List.pairwise_map.mp this).imp fun z e => z (by rw [e])
  refine Calls.call_function_entry kind_sorted plain_sorted entry_sorted (args_sorted1 _) ?_
  unfold Builtin.«sorted»
  refine wpAny_bind (m := checkCount "sorted" 1 1 _) (wpAny_pure ?_)
  refine wpAny_bind (collect_dict (A := A.in1) (by simpa using calm) hsys da (by omega) fun us s2 lu hu e1 e2 kp big => ?_)
  have i1 : IntsAre us ns := ints_of (by omega) fun i u e => by
    obtain ⟨k, v, ev, hk'⟩ := hu i u e
    have z : (vs.map (·.1))[i]? = some k := by rw [List.getElem?_map, ev]; rfl
    rw [hk, List.getElem?_map] at z
    obtain ⟨n, en, rfl⟩ := Option.map_eq_some_iff.mp z
    obtain ⟨t, rfl⟩ := (show ∃ t, u = Value.int n t from is_kV hk')
    exact ⟨n, t, en, rfl⟩
  have fU : us.length ≤ sizeLine := by rw [lu, lv]; exact Nat.le_trans (Nat.le_of_lt few) (by decide)
  refine wpAny_bind (wpAny_newList ?_ fU)
  have g2 : (s2.heap.push (seqObj "list" us.toArray 0)).get? s2.heap.objs.size = some (seqObj "list" us.toArray 0) := Heap.get?_push_size _ rfl
  show wpAny _ _ _ _ _ { s2 with heap := s2.heap.push (seqObj "list" us.toArray 0) }
  refine wpAny_bind (wpAny_holding (wpAny_call_entry slot_list_sort ⟨_, g2, rfl⟩ entry_list_sort (list_sort_tree g2 i1 (by omega) fun out ks' a1 a2 a3 => ⟨_, rfl, ?_⟩) (args_list_sort _)))
  obtain ⟨m, g3⟩ := sortedHeap_at (out := out) g2
  refine wpAny_pure ⟨_, rfl, q s2.heap.objs.size out.toList ks' m _ a1 ?_ (fun k => a2.mem_iff) a2.length_eq e1 e2 (fun b o z => ?_) big (by simpa using g3)⟩
  · have nd' : ks'.Nodup := a2.nodup_iff.mpr nd
    have both := List.Pairwise.and a3 nd'
    exact both.imp fun z => by omega
  · have lt : b < s2.heap.objs.size := Heap.lt_size (kp b o z)
    have lt' : b < (s2.heap.push (seqObj "list" us.toArray 0)).objs.size := by rw [Heap.size_push]; exact Nat.lt_succ_of_lt lt
    exact (sortedHeap_old (Nat.ne_of_lt lt) lt').trans (Heap.get?_push_of_some _ (kp b o z))
end
section
variable {X : Cx}
def dI (L : List (Int × V)) : List (Key × V) := L.map fun q => (.inl q.1, q.2)
theorem call_sortedD (hc : X.calm = true) : CallR X (.builtin "sorted") (fun xs H Q => ∃ (a : Addr) (L : List (Int × V)), xs = [.ref a] ∧ H a = some (.dK (dI L)) ∧ L.length < 64 ∧
    ∀ (D : Addr) (ks : List Int), L2.new X.K H D → ks.Pairwise (· < ·) → (∀ k, k ∈ ks ↔ k ∈ L.map (·.1)) → ks.length = L.length → Q (.ref D) (upd H D (.lst (ks.map V.int)))) := by
  intro pins s σ H xs us Q I r h
  obtain ⟨a, L, rfl, e, few, q⟩ := h
  obtain ⟨u, rfl, ru⟩ := vals1 r
  cases ru
  obtain ⟨z, hsys, vs, rel, dd⟩ := dk_of I.hok e
  obtain ⟨ep, da⟩ := dd.dictAt
  have hk : vs.map (·.1) = (L.map (·.1)).map Sum.inl := by
    rw [← rel.keys, dI, List.map_map, List.map_map]
    rfl
  refine sorted_dict (I.ok.hd hc) hsys da hk (by simpa using few) fun D out ks m s3 i1 up mem len e1 e2 kp3 big g => ?_
  rw [List.length_map] at len
  have lk : ks.length ≤ sizeLine := by rw [len]; exact Nat.le_trans (Nat.le_of_lt few) (by decide)
  have I3 : Inv X pins σ (upd H D (.lst (ks.map V.int))) { s with heap := s3.heap, toks := s3.toks } := I.laid (t' := s3.toks) (o := .lst (ks.map V.int)) kp3 big ⟨by rw [List.length_map]; exact lk, out, m, ints_vals i1, by simpa [seqObj] using g⟩
  have I4 := I3.like (s' := s3) e1 e2 rfl
  exact ⟨.ref D, _, I4, rfl, q D ks ⟨I.hok.fresh big, I4.notMod upd_same⟩ up mem len⟩
theorem edget1 {o e : Expr} {td ty : TE} {apos cpos : Pos} (hu : X.A.units + 64 < cLine) (ho : JE X o td) (he : JE X e ty) (m : M1 X o "get" apos e cpos) : JE X (.Call (.Attribute o "get" apos) [e] [] cpos) (tDGet1 td ty) := ⟨pe_dget1 (by omega) ho.h he.h m⟩
theorem sdput {o i value : Expr} {td ty tv : TE} {pos pos' : Pos} (hu : X.A.units + 64 < cLine) (ho : JE X o td) (hi : JE X i ty) (hv : JE X value tv) (hs : swapsWith value (some (.Subscript o i pos')) pos.line X.env = pure false := by rfl) : JS X (.Assign [.Subscript o i pos'] value pos) (sDPut td ty tv) := ⟨ps_dput (by omega) ho.h hi.h hv.h hs⟩
end
end L2
set_option Elab.async false
set_option linter.all false
set_option maxRecDepth 100000
set_option maxHeartbeats 4000000
namespace L2
open PySem PySem.Spec PyProof.Rows
section
variable {X : Cx}
def rSlS : V → Option Int → Option Int → Hp → VK → Prop := fun x lo hi H Q => ∃ a, x = .str a ∧ a.length ≤ sizeLine ∧ Q (.str (Txt.slice a lo hi)) H
theorem sl_str : SlR X rSlS := by
  intro pins s σ H x v vl vu lo hi sl Q I rx hs pl pu h
  obtain ⟨a, rfl, ha, q⟩ := h
  obtain ⟨t, rfl⟩ := rx
  refine ⟨"str", _, PySem.F.slot_str_getitem.lookup, typeIs_str _ _ _, ?_⟩
  have fin : ∀ t' k, EP X pins σ Q (.str (Txt.slice a lo hi) t') { s with toks := k } := fun t' k => ⟨.str _, H, I.tok k, ⟨t', rfl⟩, q⟩
  have le := Nat.le_trans (Txt.slice_le a lo hi) ha
  cases pl with
  | none =>
    cases pu with
    | none => exact wpAny_getItem_str_slice (l := none) (u := none) (st := none) hs rfl (post_val_or_str ⟨le, fun t' k => fin t' k⟩)
    | int j uj => exact wpAny_getItem_str_slice (l := none) (u := some (j, uj)) (st := none) hs rfl (post_val_or_str ⟨le, fun t' k => fin t' k⟩)
  | int i ui =>
    cases pu with
    | none => exact wpAny_getItem_str_slice (l := some (i, ui)) (u := none) (st := none) hs rfl (post_val_or_str ⟨le, fun t' k => fin t' k⟩)
    | int j uj => exact wpAny_getItem_str_slice (l := some (i, ui)) (u := some (j, uj)) (st := none) hs rfl (post_val_or_str ⟨le, fun t' k => fin t' k⟩)
theorem strs_of : ∀ {ts : List Str} {its : List Value}, Vals (ts.map V.str) its → ∃ l : List (Str × Tok), its = strValues l ∧ l.map (·.1) = ts
  | [], _, r => by rw [List.map_nil] at r; cases r; exact ⟨[], rfl, rfl⟩
  | t :: ts, _, r => by
    rw [List.map_cons] at r
    cases r with
    | cons h hr =>
      obtain ⟨u, rfl⟩ := h
      obtain ⟨l, rfl, e⟩ := strs_of hr
      exact ⟨(t, u) :: l, rfl, by rw [List.map_cons, e]⟩
def lenAll (sep : Str) (ts : List Str) : Nat := ts.foldl (fun n x => n + x.length + sep.length) 0
def rJoin (K : PySem.W.Frag) : V → List V → Hp → VK → Prop := fun x vs H Q => ∃ (sep : Str) (p : Addr) (ts : List Str), x = .str sep ∧ vs = [.ref p] ∧ SqL K H p (ts.map V.str) ∧ lenAll sep ts ≤ sizeLine ∧ (Str.join sep ts).length ≤ sizeLine ∧ Q (.str (Str.join sep ts)) H
theorem mt_join : MtR X "str.join" (rJoin X.K) := by
  intro pins s σ H x vs v us Q I rx rv h
  obtain ⟨sep, p, ts, rfl, rfl, hx, hl, hj, q⟩ := h
  obtain ⟨t, rfl⟩ := rx
  obtain ⟨u, rfl, ru⟩ := vals1 rv
  cases ru
  obtain ⟨its, r, pl, hz⟩ := I.list hx
  obtain ⟨l, rfl, el⟩ := strs_of r
  refine call_meets PySem.F.slot_str_join (typeIs_str _ _ _) PySem.F.entry_str_join (PySem.F.args_str_join_2 _ _) (meets_str_join_list sep t p l ?_) ⟨pl.isList, ?_⟩
  · rw [el]
    unfold Builtin.Str.tooLong
    rw [List.foldl_toArray]
    simpa [lenAll] using hl
  · have fin : ∀ t' k, EP X pins σ Q (.str (Str.join sep ts) t') { s with toks := k } := fun t' k => ⟨.str _, H, I.tok k, ⟨t', rfl⟩, q⟩
    have eg : ∀ l' : List (Str × Tok), Builtin.Str.glued sep (l'.map (·.1)) = Str.join sep (l'.map (·.1)) := fun l' => StrLaws.glued_eq_join sep _
    match l, el with
    | [], el =>
      have e := eg []
      rw [el] at e
      show _ ∧ _
      rw [el, e]
      exact ⟨hj, fin _ _⟩
    | [pp], el =>
      have e : pp.1 = Str.join sep ts := by rw [← el]; rfl
      show wants (EP X pins σ Q) X.xe (Except.ok (Flow.ret (Value.str pp.1 pp.2))) s
      rw [e]
      exact fin _ _
    | a :: b :: r, el =>
      show _ ∧ _
      rw [show Builtin.Str.glued sep ((a :: b :: r).map (·.1)) = Str.join sep ts from by rw [← el]; exact eg _]
      exact ⟨hj, fin _ _⟩
end
end L2
set_option Elab.async false
set_option linter.all false
set_option maxRecDepth 100000
set_option maxHeartbeats 4000000
namespace L2
open PySem PySem.Spec PyProof.Rows
def numS (n : Nat) : Str := Str.ofString (toString ((n : Nat) : Int))
def blankS : Str := Str.ofString " "
def emptyS : Str := Str.ofString ""
theorem str_ext {a b : Str} (h : a.cps.toList = b.cps.toList) : a = b := Str.ext' (Array.toList_inj.1 h)
theorem str_len (a : Str) : a.length = a.cps.toList.length := by simp [Str.length]
theorem app_cps (a b : Str) : (a ++ b).cps.toList = a.cps.toList ++ b.cps.toList := by rw [Str.cps_append, Array.toList_append]
def page (b : Str) : Str := numS b.length ++ blankS ++ b
theorem slice_to {x : Str} {n : Nat} (h : n ≤ x.length) : (Txt.slice x none (some (n : Int))).cps.toList = x.cps.toList.take n := by
  have e : Txt.slice x none (some (n : Int)) = StrLaws.sliceText x none (some (n : Int)) := rfl
  rw [e, StrLaws.sliceText_to ⟨by omega, by rw [str_len] at h; omega⟩]
  simp
section
variable {X : Cx}
end
end L2
set_option Elab.async false
set_option linter.all false
set_option maxRecDepth 100000
set_option maxHeartbeats 4000000
namespace L2
open PySem PySem.Spec PyProof.Rows
section
variable {X : Cx}
theorem call_dictC : CallR X (.type "dict") (fun xs H Q => ∃ (a : Addr) (kvs : List (Key × V)), xs = [.ref a] ∧ Rd H a (.dK kvs) ∧ ∀ D, L2.new X.K H D → Q (.ref D) (upd H D (.dK kvs))) := by
  intro pins s σ H xs us Q I r h
  obtain ⟨a, kvs, rfl, hq, q⟩ := h
  obtain ⟨u, rfl, rx⟩ := vals1 r
  cases rx
  exact d_copyOf I hq fun p s' hp I' => ⟨.ref p, _, I', rfl, q p ⟨hp, I'.notMod upd_same⟩⟩
end
end L2
set_option Elab.async false
set_option linter.all false
set_option maxRecDepth 100000
set_option maxHeartbeats 4000000
namespace L2
open PySem PySem.Spec PyProof.Rows
def tDNewQ (K : PySem.W.Frag) : TE := fun _ H Q => ∀ p, L2.new K H p → Q (.ref p) (upd H p (.dK []))
theorem ednewQ {X : Cx} {pos : Pos} : JE X (.Dict [] [] pos) (tDNewQ X.K) := ⟨fun pins s σ H Q I h =>
  wpAny_Dict_empty ⟨.ref s.heap.objs.size, _, I.laid (a := s.heap.objs.size) (o := .dK []) (t' := s.toks) (fun _ _ q => Heap.get?_push_of_some _ q) (Nat.le_refl _) (dk_empty s.heap I.big), rfl, h _ I.new⟩⟩
end L2
namespace L2
open PySem PySem.Spec PyProof.Rows
section
variable {prog : Program} {w : World} {A : Around} {E : Value → Shared → Prop} {s : Shared}
theorem nextT {it t : Addr} {k : Nat} {xs : Array Value} {x : Value} {Q : Value → Shared → Prop} (hi : IsTupIter s.heap it t k) (ht : IsTup s.heap t xs) (hx : xs[k]? = some x)
    (q : ∀ g, IsTupIter g it t (k + 1) → Heap.SameBut it s.heap g → Q x { s with heap := g }) : wpAny (model prog w) A (Builtin.SmallTypes.nextOf (.ref it)) Q E s := by
  have ty := hi.typeIs
  obtain ⟨o1, g1, c1, d1⟩ := hi
  obtain ⟨o2, g2, _, n2, d2⟩ := ht
  unfold Builtin.SmallTypes.nextOf
  refine wpAny_bind (wpAny_callSpecial?_slot (name := Str.ofString "__next__") ty slot_tupleiter_next (wpAny_call_entry slot_tupleiter_next ty entry_tupleiter_next ?_ (args_tupleiter_next _)))
  show wpAny (model prog w) _ (field (.ref it) 0 >>= _) _ _ s
  refine wpAny_bind (wpAny_field g1 d1 (x := Value.ref t) rfl ?_)
  show wpAny (model prog w) _ (if (Value.ref t == Value.none) = true then _ else _) _ _ s
  rw [if_neg (fun h => by cases h)]
  show wpAny (model prog w) _ (field (.ref it) 1 >>= _) _ _ s
  refine wpAny_bind (wpAny_field g1 d1 (x := Value.int k 0) rfl ?_)
  show wpAny (model prog w) _ (seqItems? (.ref t) >>= _) _ _ s
  refine wpAny_bind (wpAny_seqItems g2 d2 ?_)
  simp only [hx, Int.toNat_natCast]
  refine wpAny_bind (wpAny_setField g1 d1 (by simp) (wpAny_pure ⟨x, rfl, wpAny_pure (q _ ⟨_, Heap.get?_update_self _ g1 (Obj.isFreed_of_fields (Obj.data_mapFields d1 _)), (Obj.cls_mapFields ..).trans c1, ?_⟩ (Heap.SameBut.update ..))⟩))
  rw [Obj.data_mapFields d1]
  simp [rawInt]
theorem nextT_end {it t : Addr} {k : Nat} {xs : Array Value} {Q : Value → Shared → Prop} (calm : A.handled = none) (hi : IsTupIter s.heap it t k) (ht : IsTup s.heap t xs) (hx : xs[k]? = none)
    (q : ∀ g e, Heap.ExtBut it s.heap g → (∃ o, g.get? e = some o ∧ o.cls = .type "StopIteration") → E (.ref e) { s with heap := g }) : wpAny (model prog w) A (Builtin.SmallTypes.nextOf (.ref it)) Q E s := by
  have ty := hi.typeIs
  obtain ⟨o1, g1, c1, d1⟩ := hi
  obtain ⟨o2, g2, _, n2, d2⟩ := ht
  unfold Builtin.SmallTypes.nextOf
  refine wpAny_bind (wpAny_callSpecial?_slot (name := Str.ofString "__next__") ty slot_tupleiter_next (wpAny_call_entry slot_tupleiter_next ty entry_tupleiter_next ?_ (args_tupleiter_next _)))
  show wpAny (model prog w) _ (field (.ref it) 0 >>= _) _ _ s
  refine wpAny_bind (wpAny_field g1 d1 (x := Value.ref t) rfl ?_)
  show wpAny (model prog w) _ (if (Value.ref t == Value.none) = true then _ else _) _ _ s
  rw [if_neg (fun h => by cases h)]
  show wpAny (model prog w) _ (field (.ref it) 1 >>= _) _ _ s
  refine wpAny_bind (wpAny_field g1 d1 (x := Value.int k 0) rfl ?_)
  show wpAny (model prog w) _ (seqItems? (.ref t) >>= _) _ _ s
  refine wpAny_bind (wpAny_seqItems g2 d2 ?_)
  simp only [hx, Int.toNat_natCast]
  refine wpAny_bind (wpAny_rule (wpAny_bind (wpAny_setField g1 d1 (by simp) ?_)))
  show wpAny (model prog w) _ (newExc (.type "StopIteration") [] >>= _) _ _ _
  refine wpAny_bind ?_
  simp only [newTuple, newExc]
  refine wpAny_bind (wpAny_newObj_type (wpAny_bind (m := firstArgMember _ _) (wpAny_of_eq (a := Value.none) (by first | rfl | (simp only [firstArgMember]; rfl)) (wpAny_newObj_type ?_ (by size_fits)))) (by size_fits))
  simp only [raiseNew]
  refine wpAny_bind (wpAny_handled ?_)
  rw [show A.in1.handled = none from calm]
  exact wpAny_bind (wpAny_pure (wpAny_throw (q _ _ (((Heap.SameBut.update ..).extBut.push _).push _) ⟨_, Heap.get?_push_size _ rfl, rfl⟩)))
structure ZT (g : Heap) (z ti to p1 p2 t1 t2 : Addr) (out : Value) (k1 k2 : Nat) : Prop where
  zip : IsZip g z ti to out
  its : IsPair g ti (.ref p1) (.ref p2)
  fst : IsTupIter g p1 t1 k1
  snd : IsTupIter g p2 t2 k2
theorem zipT_item {z ti to p1 p2 t1 t2 : Addr} {k1 k2 : Nat} {xs ys : Array Value} {x y u v : Value} {Q : Option Value → Shared → Prop} (D : ZipApart z ti to p1 p2 t1 t2) (Z : ZT s.heap z ti to p1 p2 t1 t2 .none k1 k2) (ho : IsPair s.heap to u v)
    (h1 : IsTup s.heap t1 xs) (h2 : IsTup s.heap t2 ys) (hx : xs[k1]? = some x) (hy : ys[k2]? = some y)
    (q : ∀ g, ZT g z ti to p1 p2 t1 t2 (rawInt s.heap.objs.size) (k1 + 1) (k2 + 1) → IsPair g to x y → IsPair g s.heap.objs.size x y → g.objs.size = s.heap.objs.size + 1 →
      (∀ c o, c ≠ z → c ≠ to → c ≠ p1 → c ≠ p2 → s.heap.get? c = some o → g.get? c = some o) → Q (some (.ref s.heap.objs.size)) { s with heap := g }) :
    wpAny (model prog w) A (pyNext (.ref z)) Q E s := by
  have ty : s.TypeIs (.ref z) "zip" := ⟨_, Z.zip, rfl⟩
  unfold pyNext
  refine wpAny_bind (wpAny_attempt (wpAny_callSpecial?_slot (name := Str.ofString "__next__") ty F.slot_zip_next (wpAny_call_entry F.slot_zip_next ty F.entry_zip_next ?_ (F.args_zip_next_1 _))))
  show wpAny (model prog w) _ (field (.ref z) 2 >>= _) _ _ _
  refine wpAny_bind (wpAny_field Z.zip rfl (x := Value.bool false) rfl ?_)
  show wpAny (model prog w) _ (field (.ref z) 3 >>= _) _ _ _
  refine wpAny_bind (wpAny_field Z.zip rfl (x := Value.ref ti) rfl (wpAny_bind (wpAny_seqItems Z.its rfl ?_)))
  show wpAny (model prog w) _ (Builtin.SmallTypes.ownedTupleIsFree (.ref z) >>= _) _ _ _
  refine wpAny_bind ?_
  unfold Builtin.SmallTypes.ownedTupleIsFree
  refine wpAny_bind (wpAny_field Z.zip rfl (x := Value.none) rfl (wpAny_pure ?_))
  rw [if_pos rfl]
  refine wpAny_bind (wpAny_rule (wpAny_bind (wpAny_field Z.zip rfl (x := Value.ref to) rfl (wpAny_bind (wpAny_setField_rec Z.zip (by simp) fun a1 az as => ?_)))))
  replace az : IsZip a1 z ti to .ellipsis := az
  refine wpAny_bind ?_
  simp only [List.forIn_nil, List.forIn_cons, List.zipIdx_nil, List.zipIdx_cons]
  refine wpAny_bind (wpAny_bind (wpAny_onRaise ?_))
  show wpAny (model prog w) _ (Builtin.SmallTypes.nextOf (.ref p1) >>= _) _ _ _
  refine wpAny_bind (nextT (Z.fst.extBut as.extBut D.i1z) (h1.extBut as.extBut D.l1z) hx fun a2 bi bs => wpAny_pure ?_)
  have bo : IsPair a2 to u v := bs.extBut _ _ D.TOi1 (as.extBut _ _ D.TOz ho)
  refine wpAny_bind (wpAny_seqItems bo rfl (wpAny_bind (wpAny_updateSeq_pair bo fun a3 co cs => ?_)))
  replace co : IsPair a3 to x v := co
  refine wpAny_bind (wpAny_letGo (wpAny_pure (wpAny_bind (wpAny_bind (wpAny_onRaise ?_)))))
  show wpAny (model prog w) _ (Builtin.SmallTypes.nextOf (.ref p2) >>= _) _ _ _
  refine wpAny_bind (nextT (((Z.snd.extBut as.extBut D.i2z).extBut bs.extBut D.i12.symm).extBut cs.extBut D.TOi2.symm) (((h2.extBut as.extBut D.l2z).extBut bs.extBut D.l2i1).extBut cs.extBut D.l2TO) hy fun a4 di ds => wpAny_pure ?_)
  have dO : IsPair a4 to x v := ds.extBut _ _ D.TOi2 co
  refine wpAny_bind (wpAny_seqItems dO rfl (wpAny_bind (wpAny_updateSeq_pair dO fun a5 eo es => ?_)))
  replace eo : IsPair a5 to x y := eo
  refine wpAny_bind (wpAny_letGo (wpAny_pure (wpAny_pure (wpAny_bind (wpAny_seqItems eo rfl (wpAny_bind (wpAny_newTuple ?_)))))))
  have n5 : a5.objs.size = s.heap.objs.size := by rw [es.1, ds.1, cs.1, bs.1, as.1]
  have ez : IsZip a5 z ti to .ellipsis := es.extBut _ _ D.TOz.symm (ds.extBut _ _ D.i2z.symm (cs.extBut _ _ D.TOz.symm (bs.extBut _ _ D.i1z.symm az)))
  have keep5 : ∀ c o, c ≠ z → c ≠ to → c ≠ p1 → c ≠ p2 → s.heap.get? c = some o → a5.get? c = some o := fun c o e1 e2 e3 e4 e =>
    es.extBut _ _ e2 (ds.extBut _ _ e4 (cs.extBut _ _ e2 (bs.extBut _ _ e3 (as.extBut _ _ e1 e))))
  have f5 : IsTupIter a5 p1 t1 (k1 + 1) := ((bi.extBut cs.extBut D.TOi1.symm).extBut ds.extBut D.i12).extBut es.extBut D.TOi1.symm
  have s5 : IsTupIter a5 p2 t2 (k2 + 1) := di.extBut es.extBut D.TOi2.symm
  have lz : z < a5.objs.size := Heap.lt_size ez
  show wpAny (model prog w) _ (Builtin.SmallTypes.ownedTupleHandOut (.ref z) (.ref a5.objs.size) >>= _) _ _ _
  refine wpAny_bind ?_
  unfold Builtin.SmallTypes.ownedTupleHandOut
  refine wpAny_bind (wpAny_setField_rec (show IsZip (a5.push { cls := .type "tuple", data := .seq #[x, y] }) z ti to .ellipsis from Heap.get?_push_of_some _ ez) (by simp) fun a7 gz gs => ?_)
  replace gz : IsZip a7 z ti to (rawInt a5.objs.size) := gz
  refine wpAny_setField_rec gz (by simp) fun a8 iz js => ?_
  replace iz : IsZip a8 z ti to (rawInt a5.objs.size) := iz
  have on : ∀ c o, c ≠ z → a5.get? c = some o → a8.get? c = some o := fun c o ne e => js.extBut _ _ ne (gs.extBut _ _ ne (Heap.get?_push_of_some _ e))
  have T8 : IsPair a8 a5.objs.size x y := js.extBut _ _ (Nat.ne_of_gt lz) (gs.extBut _ _ (Nat.ne_of_gt lz) (Heap.get?_push_size _ rfl))
  have n8 : a8.objs.size = a5.objs.size + 1 := by rw [js.1, gs.1, Heap.size_push]
  rw [n5] at iz T8 n8
  refine wpAny_pure ⟨_, rfl, wpAny_pure ?_⟩
  show Q (some (.ref a5.objs.size)) _
  rw [n5]
  have at_ : ∀ {p t : Addr} {k : Nat}, p ≠ z → IsTupIter a5 p t k → IsTupIter a8 p t k := fun ne h => let ⟨o, e, r⟩ := h; ⟨o, on _ o ne e, r⟩
  exact q a8 ⟨iz, on _ _ D.TIz (keep5 _ _ D.TIz D.TITO D.TIi1 D.TIi2 Z.its), at_ D.i1z f5, at_ D.i2z s5⟩ (on _ _ D.TOz eo) T8 n8 fun c o e1 e2 e3 e4 e => on c o e1 (keep5 c o e1 e2 e3 e4 e)
theorem zipT_end {z ti to p1 p2 t1 t2 : Addr} {k1 k2 : Nat} {xs : Array Value} {u v : Value} {Q : Option Value → Shared → Prop} (calm : A.handled = none) (D : ZipApart z ti to p1 p2 t1 t2) (Z : ZT s.heap z ti to p1 p2 t1 t2 .none k1 k2) (ho : IsPair s.heap to u v)
    (h1 : IsTup s.heap t1 xs) (hx : xs[k1]? = none) (q : ∀ g, (∀ c o, c ≠ z → c ≠ p1 → s.heap.get? c = some o → g.get? c = some o) → Q none { s with heap := g }) : wpAny (model prog w) A (pyNext (.ref z)) Q E s := by
  have ty : s.TypeIs (.ref z) "zip" := ⟨_, Z.zip, rfl⟩
  unfold pyNext
  refine wpAny_bind (wpAny_attempt (wpAny_callSpecial?_slot (name := Str.ofString "__next__") ty F.slot_zip_next (wpAny_call_entry F.slot_zip_next ty F.entry_zip_next ?_ (F.args_zip_next_1 _))))
  show wpAny (model prog w) _ (field (.ref z) 2 >>= _) _ _ _
  refine wpAny_bind (wpAny_field Z.zip rfl (x := Value.bool false) rfl ?_)
  show wpAny (model prog w) _ (field (.ref z) 3 >>= _) _ _ _
  refine wpAny_bind (wpAny_field Z.zip rfl (x := Value.ref ti) rfl (wpAny_bind (wpAny_seqItems Z.its rfl ?_)))
  show wpAny (model prog w) _ (Builtin.SmallTypes.ownedTupleIsFree (.ref z) >>= _) _ _ _
  refine wpAny_bind ?_
  unfold Builtin.SmallTypes.ownedTupleIsFree
  refine wpAny_bind (wpAny_field Z.zip rfl (x := Value.none) rfl (wpAny_pure ?_))
  rw [if_pos rfl]
  refine wpAny_bind (wpAny_rule (wpAny_bind (wpAny_field Z.zip rfl (x := Value.ref to) rfl (wpAny_bind (wpAny_setField_rec Z.zip (by simp) fun a1 az as => ?_)))))
  replace az : IsZip a1 z ti to .ellipsis := az
  refine wpAny_bind ?_
  simp only [List.forIn_nil, List.forIn_cons, List.zipIdx_nil, List.zipIdx_cons]
  refine wpAny_bind (wpAny_bind (wpAny_onRaise ?_))
  show wpAny (model prog w) _ (Builtin.SmallTypes.nextOf (.ref p1) >>= _) _ _ _
  refine wpAny_bind (nextT_end calm (Z.fst.extBut as.extBut D.i1z) (h1.extBut as.extBut D.l1z) hx fun a2 e bs he => ?_)
  obtain ⟨oe, ge, ce⟩ := he
  have bz : IsZip a2 z ti to .ellipsis := bs _ _ D.i1z.symm az
  have ez : e ≠ z := fun z' => by subst z'; rw [bz] at ge; cases ge; simp at ce
  refine wpAny_setField_rec bz (by simp) fun a3 _ cs => wpAny_bind (wpAny_isInstance (T := "StopIteration") (b := true) ⟨oe, cs.extBut _ _ ez ge, ce⟩ isSubtype_stop (wpAny_pure (q a3 fun c o e1 e2 e => cs.extBut _ _ e1 (bs _ _ e2 (as.extBut _ _ e1 e)))))
abbrev tpIt (t : Addr) : Obj := { cls := .type "tuple_iterator", data := .fields #[.ref t, .int 0 0] }
abbrev zt2 (h : Heap) (t1 t2 : Addr) : Heap := (h.push (tpIt t1)).push (tpIt t2)
abbrev zt3 (h : Heap) (t1 t2 : Addr) : Heap := (zt2 h t1 t2).push { cls := .type "tuple", data := .seq #[.ref h.objs.size, .ref (h.push (tpIt t1)).objs.size] }
abbrev zt4 (h : Heap) (t1 t2 : Addr) : Heap := (zt3 h t1 t2).push { cls := .type "tuple", data := .seq #[.none, .none] }
abbrev zt5 (h : Heap) (t1 t2 : Addr) : Heap := (zt4 h t1 t2).push { cls := .type "zip", data := .fields #[.none, .bool false, .bool false, .ref (zt2 h t1 t2).objs.size, .ref (zt3 h t1 t2).objs.size] }
theorem meets_zt (t1 t2 : Addr) (xs ys : Array Value) : Meets (Builtin.«zip.__new__» ⟨[.type "zip", .ref t1, .ref t2], []⟩) (fun _ R s => IsTup s.heap t1 xs ∧ IsTup s.heap t2 ys ∧ R (.ok (.ret (.ref (zt4 s.heap t1 t2).objs.size))) { s with heap := zt5 s.heap t1 t2 }) :=
  .of_wp fun prog w A R s h => by
    obtain ⟨h0, gn, dr, tk, os⟩ := s
    obtain ⟨e1, e2, h⟩ := h
    have sub := sub_zip
    have f1 : IsTup (Shared.heap ⟨h0, gn, dr, tk, os⟩) t1 xs := e1
    have f2 : IsTup (Shared.heap ⟨h0.push (tpIt t1), gn, dr, tk, os⟩) t2 ys := e2.push _
    wp_walk using iter_tuple f1, iter_tuple f2
    exact ⟨_, rfl, h⟩
theorem call_zipT {t1 t2 : Addr} {xs ys : Array Value} {Q : Value → Shared → Prop} (h1 : IsTup s.heap t1 xs) (h2 : IsTup s.heap t2 ys)
    (q : ∀ g, ZT g (s.heap.objs.size + 4) (s.heap.objs.size + 2) (s.heap.objs.size + 3) s.heap.objs.size (s.heap.objs.size + 1) t1 t2 .none 0 0 → IsPair g (s.heap.objs.size + 3) .none .none → (∀ c o, s.heap.get? c = some o → g.get? c = some o) → Q (.ref (s.heap.objs.size + 4)) { s with heap := g }) :
    wpAny (model prog w) A (call (.type "zip") [.ref t1, .ref t2]) Q E s := by
  refine callType_new F.called_zip (by decide) (F.typeCall_zip_2 _ _) (F.newCall_zip_2 _ _) (fun o => F.args_object_init_3 o _ _) F.entry_zip_new (meets_zt t1 t2 xs ys) ⟨h1, h2, ?_⟩
  have z1 : (s.heap.push (tpIt t1)).objs.size = s.heap.objs.size + 1 := Heap.size_push ..
  have z2 : (zt2 s.heap t1 t2).objs.size = s.heap.objs.size + 2 := by rw [Heap.size_push, Heap.size_push]
  have z3 : (zt3 s.heap t1 t2).objs.size = s.heap.objs.size + 3 := by rw [Heap.size_push, z2]
  have z4 : (zt4 s.heap t1 t2).objs.size = s.heap.objs.size + 4 := by rw [Heap.size_push, z3]
  have e5 : (zt5 s.heap t1 t2).get? (zt4 s.heap t1 t2).objs.size = some _ := Heap.get?_push_size _ rfl
  have e4 : (zt5 s.heap t1 t2).get? (zt3 s.heap t1 t2).objs.size = some _ := Heap.get?_push_of_some _ (Heap.get?_push_size _ rfl)
  have e3 : (zt5 s.heap t1 t2).get? (zt2 s.heap t1 t2).objs.size = some _ := Heap.get?_push_of_some _ (Heap.get?_push_of_some _ (Heap.get?_push_size _ rfl))
  have e2 : (zt5 s.heap t1 t2).get? (s.heap.push (tpIt t1)).objs.size = some (tpIt t2) := Heap.get?_push_of_some _ (Heap.get?_push_of_some _ (Heap.get?_push_of_some _ (Heap.get?_push_size _ rfl)))
  have e1 : (zt5 s.heap t1 t2).get? s.heap.objs.size = some (tpIt t1) := Heap.get?_push_of_some _ (Heap.get?_push_of_some _ (Heap.get?_push_of_some _ (Heap.get?_push_of_some _ (Heap.get?_push_size _ rfl))))
  rw [z2, z3, z4] at e5
  rw [z1, z2] at e3
  rw [z3] at e4
  rw [z1] at e2
  show _ ∧ _
  rw [z4]
  exact ⟨⟨_, e5, rfl⟩, q _ ⟨e5, e3, ⟨_, e1, rfl, rfl⟩, ⟨_, e2, rfl, rfl⟩⟩ e4 fun c o x => Heap.get?_push_of_some _ (Heap.get?_push_of_some _ (Heap.get?_push_of_some _ (Heap.get?_push_of_some _ (Heap.get?_push_of_some _ x))))⟩
end
def ItzT (K : PySem.W.Frag) (a b : Addr) : It := ⟨fun i H => ∃ xs ys x y, SqT K H a xs ∧ SqT K H b ys ∧ xs[i]? = some x ∧ ys[i]? = some y, fun i H x H' => ∃ T v u, L2.new K H T ∧ (∀ xs, SqT K H a xs → xs[i]? = some v) ∧ (∀ ys, SqT K H b ys → ys[i]? = some u) ∧ x = .ref T ∧ H' = upd H T (.tup [v, u]), fun i H => ∃ xs, SqT K H a xs ∧ xs.length ≤ i⟩
theorem turn_zipT {P : Program} {w : World} {K : PySem.W.Frag} {es : List Expr} {k : Nat} {tp : Pos} (a b z ti to p1 p2 : Addr) (D : ZipApart z ti to p1 p2 a b) : Turn P w K (.Tuple es k tp) (ItzT K a b) [z, ti, to, p1, p2] z
    (fun i h => ZT h z ti to p1 p2 a b .none i i ∧ ∃ p q, IsPair h to p q) where
  mem := by simp
  obj := fun i h st c hc => by
    obtain ⟨⟨g1, g2, ⟨o4, g4, c4, d4⟩, ⟨o5, g5, c5, d5⟩⟩, p, q, g3⟩ := st
    simp only [List.mem_cons, List.not_mem_nil, or_false] at hc
    rcases hc with rfl | rfl | rfl | rfl | rfl
    · exact ⟨_, g1, fun v z => by cases z⟩
    · exact ⟨_, g2, fun v z => by cases z⟩
    · exact ⟨_, g3, fun v z => by cases z⟩
    · exact ⟨o4, g4, fun v z => by rw [d4] at z; cases z⟩
    · exact ⟨o5, g5, fun v z => by rw [d5] at z; cases z⟩
  keep := fun i h h' st kk => by
    obtain ⟨⟨g1, g2, ⟨o4, g4, r4⟩, ⟨o5, g5, r5⟩⟩, p, q, g3⟩ := st
    exact ⟨⟨kk z (by simp) _ g1, kk ti (by simp) _ g2, ⟨o4, kk p1 (by simp) _ g4, r4⟩, ⟨o5, kk p2 (by simp) _ g5, r5⟩⟩, p, q, kk to (by simp) _ g3⟩
  item := by
    intro X hP hw hK hc i pins s σ H E I hf st hg
    subst hP hw hK
    obtain ⟨xs, ys, x, y, hq, hq', hx, hy⟩ := hg
    obtain ⟨its, rv, p, hz⟩ := I.tuple hq
    obtain ⟨its', rv', p', hz'⟩ := I.tuple hq'
    obtain ⟨u, hu, ru⟩ := rv.get hx
    obtain ⟨u', hu', ru'⟩ := rv'.get hy
    obtain ⟨Z, a', b', g3⟩ := st
    refine zipT_item D Z g3 p p' (x := u) (y := u') (by simpa using hu) (by simpa using hu') fun h1 Z1 hO gT sz kp => ?_
    refine ⟨_, rfl, wpAny_letOwnedTupleGo_zip Z1.zip fun h2 hz2 sb => ?_⟩
    have ltZ : z < s.heap.objs.size := Heap.lt_size Z.zip
    have gT2 : h2.get? s.heap.objs.size = some { cls := .type "tuple", data := .seq #[u, u'] } := (sb.2 _ (Nat.ne_of_gt ltZ)).trans gT
    have I1 : Inv X pins σ (upd H s.heap.objs.size (.tup [x, y])) { s with heap := h2, toks := s.toks } := by
      refine I.turnLay (ch := [z, ti, to, p1, p2]) (fun b o hb g => ?_) hf (Nat.le_refl _) ⟨(show 2 ≤ sizeLine by decide), [u, u'], .cons ru (.cons ru' .nil), _, gT2, rfl, _, rfl⟩
      simp only [List.mem_cons, List.not_mem_nil, or_false, not_or] at hb
      exact (sb.2 b hb.1).trans (kp b o hb.1 hb.2.2.1 hb.2.2.2.1 hb.2.2.2.2 g)
    have kT : ∀ c o, c ≠ z → h1.get? c = some o → h2.get? c = some o := fun c o n g => (sb.2 c n).trans g
    have itT : ∀ {p t : Addr} {k : Nat}, p ≠ z → IsTupIter h1 p t k → IsTupIter h2 p t k := fun ne h => let ⟨o, e, r⟩ := h; ⟨o, kT _ o ne e, r⟩
    refine ⟨.ref s.heap.objs.size, _, I1, rfl, ⟨_, x, y, ⟨I.hok.fresh (Nat.le_refl _), I1.notMod upd_same⟩, fun ys hy => by rw [I.tuple_inj hy hq]; exact hx, fun zs hy' => by rw [I.tuple_inj hy' hq']; exact hy, rfl, rfl⟩,
      ⟨⟨hz2, kT _ _ D.TIz Z1.its, itT D.i1z Z1.fst, itT D.i2z Z1.snd⟩, _, _, kT _ _ D.TOz hO⟩, fun c hc => ?_⟩
    have ltc : c < s.heap.objs.size := by
      obtain ⟨_, g2, ⟨o4, e4, _⟩, ⟨o5, e5, _⟩⟩ := Z
      simp only [List.mem_cons, List.not_mem_nil, or_false] at hc
      rcases hc with rfl | rfl | rfl | rfl | rfl
      · exact ltZ
      · exact Heap.lt_size g2
      · exact Heap.lt_size g3
      · exact Heap.lt_size e4
      · exact Heap.lt_size e5
    rw [upd_ne (Nat.ne_of_lt ltc)]
    exact (hf c hc).1
  done := by
    intro X hP hw hK hc i pins s σ H E I hf st hg
    subst hP hw hK
    obtain ⟨xs, hq, hx⟩ := hg
    obtain ⟨its, rv, p, hz⟩ := I.tuple hq
    obtain ⟨Z, a', b', g3⟩ := st
    have hl := rv.length
    refine zipT_end (I.ok.hd hc) D Z g3 p (by simp; omega) fun h' kp => ⟨rfl, I.turnAll (t' := s.toks) (ch := [z, ti, to, p1, p2]) (fun b o hb g => ?_) hf⟩
    simp only [List.mem_cons, List.not_mem_nil, or_false, not_or] at hb
    exact kp b o hb.1 hb.2.2.2.1 g
  self := fun _ _ _ _ _ st h => wpAny_pyIter_zip st.1.zip h
section
variable {X : Cx}
def iZipS (K : PySem.W.Frag) (tl : TA) : TI := fun σ H R => tl σ H fun vs H1 => ∃ a b, vs = [.ref a, .ref b] ∧ (((∃ xs, SqL K H1 a xs) ∧ (∃ ys, SqL K H1 b ys) ∧ R (Itz K a b) H1) ∨ ((∃ xs, SqT K H1 a xs) ∧ (∃ ys, SqT K H1 b ys) ∧ R (ItzT K a b) H1))
theorem izipS {K : PySem.W.Frag} {l l' : Expr} {t : TA} {es : List Expr} {k : Nat} {p pos tp : Pos} (hg : Gl X "zip") (hm : X.mg "zip" = none) (ha : JA X [l, l'] t) (hs : starEach [l, l'] X.env = (false, eval l X.env) :: starEach [l'] X.env := by rfl) (hs2 : (backTo pos (starEach [l'] X.env)).any (·.1) = false := by rfl) (hk : X.K = K := by rfl) :
    JI X (.Tuple es k tp) (.Call (.Name "zip" p) [l, l'] [] pos) (iZipS K t) := ⟨by
  subst hk
  intro pins s σ H R I h
  refine Call_ (ld_blt I hg hm bt_zip (PyProof.Rows.callWith_type1 (thn (ha.h pos pins s σ H _ I h) fun us s1 ⟨vs, H1, I1, r1, q1⟩ => ?_) hs hs2))
  have far : ∀ b, b ∈ [s1.heap.objs.size + 4, s1.heap.objs.size + 2, s1.heap.objs.size + 3, s1.heap.objs.size, s1.heap.objs.size + 1] → s1.heap.objs.size ≤ b := by
    intro b hb
    simp only [List.mem_cons, List.not_mem_nil, or_false] at hb
    omega
  obtain ⟨a, b, rfl, ⟨⟨xs, hx⟩, ⟨ys, hy⟩, q⟩ | ⟨⟨xs, hx⟩, ⟨ys, hy⟩, q⟩⟩ := q1
  · obtain ⟨u, u', rfl, ru, ru'⟩ := vals2 r1
    cases ru
    cases ru'
    obtain ⟨its, rv, ht, hz⟩ := I1.list hx
    obtain ⟨its', rv', ht', hz'⟩ := I1.list hy
    have la : a < s1.heap.objs.size := by obtain ⟨_, e, _⟩ := ht.isList; exact Heap.lt_size e
    have lb : b < s1.heap.objs.size := by obtain ⟨_, e, _⟩ := ht'.isList; exact Heap.lt_size e
    refine call_zip_2 ht.isList ht'.isList fun h2 g1 g2 g3 g4 g5 sz kp => ?_
    exact wpAny_pyIter_zip g1 ⟨_, [s1.heap.objs.size + 4, s1.heap.objs.size + 2, s1.heap.objs.size + 3, s1.heap.objs.size, s1.heap.objs.size + 1], _, Itz X.K a b, H1, rfl, I1.kept (t' := s1.toks) kp, turn_zip a b _ _ _ _ _ (zipApart_new la lb), ⟨g1, g2, ⟨_, _, g3⟩, g4, g5⟩, fun b hb => I1.fpOk (far b hb) (I1.hok.fresh (far b hb)), q⟩
  · obtain ⟨u, u', rfl, ru, ru'⟩ := vals2 r1
    cases ru
    cases ru'
    obtain ⟨its, rv, ht, hz⟩ := I1.tuple hx
    obtain ⟨its', rv', ht', hz'⟩ := I1.tuple hy
    refine call_zipT ht ht' fun h2 Z g3 kp => ?_
    exact wpAny_pyIter_zip Z.zip ⟨_, [s1.heap.objs.size + 4, s1.heap.objs.size + 2, s1.heap.objs.size + 3, s1.heap.objs.size, s1.heap.objs.size + 1], _, ItzT X.K a b, H1, rfl, I1.kept (t' := s1.toks) kp, turn_zipT a b _ _ _ _ _ (zipApart_new ht.lt ht'.lt), ⟨Z, _, _, g3⟩, fun b hb => I1.fpOk (far b hb) (I1.hok.fresh (far b hb)), q⟩⟩
end
section
variable {K : PySem.W.Frag} {g : TG} {tt : TT} {te : TE} {D : Addr} {σ : St} {H : Hp} {Q : Hp → Prop} {a b : Addr} {xs ys : List V}
theorem tLc_zipS {ta : TA} {src : List (Option Nat)} {Q : VK} : tLc K (iZipS K ta) src g tt te σ H Q = ta σ H (fun vs H1 => ∃ a b, vs = [.ref a, .ref b] ∧ (((∃ xs, SqL K H1 a xs) ∧ (∃ ys, SqL K H1 b ys) ∧ ∀ D, L2.new K H1 D → LcLoop (Itz K a b) g tt te D (fun H' => Q (.ref D) H') (pick σ src) (upd H1 D (.lst []))) ∨
    ((∃ xs, SqT K H1 a xs) ∧ (∃ ys, SqT K H1 b ys) ∧ ∀ D, L2.new K H1 D → LcLoop (ItzT K a b) g tt te D (fun H' => Q (.ref D) H') (pick σ src) (upd H1 D (.lst []))))) := rfl
theorem lc_zip (Pv : Nat → List V → St → Hp → Prop) (el : xs.length = ys.length) (h0 : Pv 0 [] σ H) (hl : ∀ i acc σ H, i ≤ xs.length → Pv i acc σ H → SqL K H a xs ∧ SqL K H b ys)
    (hs : ∀ i x y acc σ H T, xs[i]? = some x → ys[i]? = some y → Pv i acc σ H → L2.new K H T → g (.ref T) σ (upd H T (.tup [x, y])) fun σ2 H2 => tt σ2 H2 fun b H3 => if b = true then te σ2 H3 fun v H4 => H4 D = some (.lst acc) ∧ acc.length < sizeLine ∧ Pv (i + 1) (acc ++ [v]) σ2 (upd H4 D (.lst (acc ++ [v]))) else Pv (i + 1) acc σ2 H3)
    (hd : ∀ acc σ H, Pv xs.length acc σ H → Q H) : LcLoop (Itz K a b) g tt te D Q σ H := by
  refine lc_run (n := xs.length) Pv h0 (fun i acc σ H hi h => ?_) (fun acc σ H h => ?_) (fun i acc σ H x H' hi h hy => ?_) hd
  · obtain ⟨q1, q2⟩ := hl i acc σ H (Nat.le_of_lt hi) h
    exact ⟨xs, ys, xs[i], ys[i]'(by omega), q1, q2, by simp [hi], by simp [← el, hi]⟩
  · obtain ⟨q1, q2⟩ := hl _ acc σ H (Nat.le_refl _) h
    exact ⟨xs, ys, q1, q2, .inl (Nat.le_refl _)⟩
  · obtain ⟨q1, q2⟩ := hl i acc σ H (Nat.le_of_lt hi) h
    obtain ⟨T, v, u, nT, hv, hu, rfl, rfl⟩ := hy
    exact hs i v u acc σ H T (hv xs q1) (hu ys q2) h nT
theorem lc_zipT (Pv : Nat → List V → St → Hp → Prop) (el : xs.length = ys.length) (h0 : Pv 0 [] σ H) (hl : ∀ i acc σ H, i ≤ xs.length → Pv i acc σ H → SqT K H a xs ∧ SqT K H b ys)
    (hs : ∀ i x y acc σ H T, xs[i]? = some x → ys[i]? = some y → Pv i acc σ H → L2.new K H T → g (.ref T) σ (upd H T (.tup [x, y])) fun σ2 H2 => tt σ2 H2 fun b H3 => if b = true then te σ2 H3 fun v H4 => H4 D = some (.lst acc) ∧ acc.length < sizeLine ∧ Pv (i + 1) (acc ++ [v]) σ2 (upd H4 D (.lst (acc ++ [v]))) else Pv (i + 1) acc σ2 H3)
    (hd : ∀ acc σ H, Pv xs.length acc σ H → Q H) : LcLoop (ItzT K a b) g tt te D Q σ H := by
  refine lc_run (n := xs.length) Pv h0 (fun i acc σ H hi h => ?_) (fun acc σ H h => ?_) (fun i acc σ H x H' hi h hy => ?_) hd
  · obtain ⟨q1, q2⟩ := hl i acc σ H (Nat.le_of_lt hi) h
    exact ⟨xs, ys, xs[i], ys[i]'(by omega), q1, q2, by simp [hi], by simp [← el, hi]⟩
  · obtain ⟨q1, q2⟩ := hl _ acc σ H (Nat.le_refl _) h
    exact ⟨xs, q1, Nat.le_refl _⟩
  · obtain ⟨q1, q2⟩ := hl i acc σ H (Nat.le_of_lt hi) h
    obtain ⟨T, v, u, nT, hv, hu, rfl, rfl⟩ := hy
    exact hs i v u acc σ H T (hv xs q1) (hu ys q2) h nT
end
section
variable {X : Cx}
theorem call_lenA : CallR X (.builtin "len") (fun xs H Q => (∃ p ys, xs = [.ref p] ∧ seqQ X.K H p = some ys ∧ Q (.int ys.length) H) ∨ ∃ a kvs, xs = [V.ref a] ∧ H a = some (.dK kvs) ∧ Q (.int kvs.length) H) := by
  intro pins s σ H xs us Q I r h
  rcases h with h | h
  · exact call_lenQ pins s σ H xs us Q I r h
  · exact call_lenD pins s σ H xs us Q I r h
end
end L2
set_option Elab.async false
set_option linter.all false
set_option maxRecDepth 100000
set_option maxHeartbeats 4000000
namespace L2
open PySem PySem.Spec PyProof.Rows
def CXO (P : Program) (w : World) : CXT := fun outer H s E e s' => ∃ (a : Addr) (cls a0 : Value) (B : Heap) (H' : Hp), e = .ref a ∧ s'.os = s.os ∧ AllBare s'.gens ∧ Heap.FlyingW B outer a cls a0 s'.heap ∧ Un (frs outer) [] H H' s.heap s'.heap ∧
  (∀ b o, s.heap.get? b = some o → H b = none → b ∉ frs outer → B.get? b = some o) ∧ (∀ b o, s.heap.get? b = some o → b ∉ frs outer → ∃ o', B.get? b = some o') ∧ HOk P w H' B ∧ s.heap.get? a = none ∧ E cls none H'
theorem no_obj {P : Program} {w : World} {H : Hp} {h : Heap} {a : Addr} {o : HO} (x : ObjOk P w H h a o) : ∃ u, h.get? a = some u := by
  cases o with
  | lst xs => obtain ⟨_, _, _, _, e⟩ := x; exact ⟨_, e⟩
  | tup xs => obtain ⟨_, _, _, u, e, _⟩ := x; exact ⟨_, e⟩
  | dK kvs => obtain ⟨_, _, _, _, o, _, _, e, _⟩ := x; exact ⟨_, e⟩
  | dT kvs => obtain ⟨_, _, _, _, o, _, _, e, _⟩ := x; exact ⟨_, e⟩
  | set S n => obtain ⟨o, _, _, _, e, _⟩ := x; exact ⟨_, e⟩
  | ins C dx fs => obtain ⟨_, _, _, e, _⟩ := x; exact ⟨_, e⟩
  | own y => exact x
  | xd fs => obtain ⟨_, ⟨_, _, _, e, _⟩, _⟩ := x; exact ⟨_, e⟩
  | rng lo hi => obtain ⟨_, _, _, e⟩ := x; exact ⟨_, e⟩
  | frz ob u => obtain ⟨e, _⟩ := x; exact ⟨_, e⟩
  | tbl ps => exact ⟨_, (show h.get? a = some _ from x)⟩
  | met f y => exact ⟨_, (show h.get? a = some _ from x)⟩
  | ext φ => exact x.2.1
section
variable {X : Cx} {E : XK}
theorem cxo_out {pins : List (Addr × Obj)} {σ : St} {H H' : Hp} {s : Shared} {h1 h2 B : Heap} {a : Addr} {cls a0 : Value} {os : OsState} {g : Array GenState} {d : Drawn} {t : Nat} (hst : X.stack = X.env :: X.outer) (hex : X.ex = [])
    (I : Inv X pins σ H s) (ho : os = s.os) (hg : AllBare g) (fl : Heap.FlyingW B X.outer a cls a0 h2) (up : h1.UpToSlots h2)
    (un : Un (frs X.stack) [] H H' s.heap h1) (kb : ∀ b o, s.heap.get? b = some o → H b = none → b ∉ frs X.stack → B.get? b = some o)
    (tb : ∀ b o, s.heap.get? b = some o → b ∉ frs X.stack → ∃ o', B.get? b = some o') (hok : HOk X.prog X.w H' B) (na : s.heap.get? a = none) (hE : E cls none H') :
    CXO X.prog X.w X.outer X.H₀ X.s₀ E (.ref a) ⟨h2, g, d, t, os⟩ := by
  have nx : ∀ b : Addr, b ∉ X.ex := fun b => by rw [hex]; simp
  have ne : ∀ b o, X.s₀.heap.get? b = some o → b ∉ frs X.outer → b ∉ frs X.stack := fun b o e n z => by
    rcases List.mem_cons.mp (I.stkSub b z) with q | q
    · have h1 := I.ok.above
      rw [← q] at h1
      exact absurd (Nat.lt_of_lt_of_le (Heap.lt_size e) h1) (Nat.lt_irrefl _)
    · exact n q
  have inS : ∀ b, b ∈ frs X.outer → b ∈ frs X.stack := fun b hb => by
    rw [hst]
    unfold frs at hb ⊢
    rw [List.filterMap_cons]
    split
    · exact hb
    · exact List.mem_cons_of_mem _ hb
  refine ⟨a, cls, a0, B, H', rfl, ho.trans I.os, hg, fl, ⟨fun b o e n hb _ => ?_, fun b o e n hb _ => ?_, fun b o e n _ => ?_, fun b o e _ => ?_, fun b xs e => un.tups b xs (I.base.tups b xs e), fun b o xs e => un.frzs b o xs (I.base.frzs b o xs e), fun b ps e => ?_⟩,
    fun b o e n hb => kb b o (I.base.keep b o e n hb (nx b)) (I.base.free b o e n (nx b)) (ne b o e hb), fun b o e hb => ?_, hok, ?_, hE⟩
  · exact fl.1 b o (kb b o (I.base.keep b o e n hb (nx b)) (I.base.free b o e n (nx b)) (ne b o e hb))
  · obtain ⟨sl, e1⟩ := I.base.slot b o e n hb (nx b)
    obtain ⟨sl', e2⟩ := un.slot b _ e1 (I.base.free b o e n (nx b)) (inS b hb) (by simp)
    obtain ⟨_, o', e3, nf⟩ := I.funs.mem hb
    rw [e1] at e3
    cases e3
    obtain ⟨sl'', e4⟩ := up b _ e2 nf
    exact ⟨sl'', e4⟩
  · obtain ⟨o', e1⟩ := I.base.there b o e (nx b)
    exact un.free b o' e1 (I.base.free b o e n (nx b)) (by simp)
  · by_cases hb : b ∈ frs X.outer
    · have n : X.H₀ b = none := I.ok.frf b hb
      obtain ⟨sl, e1⟩ := I.base.slot b o e n hb (nx b)
      obtain ⟨sl', e2⟩ := un.slot b _ e1 (I.base.free b o e n (nx b)) (inS b hb) (by simp)
      obtain ⟨_, o', e3, nf⟩ := I.funs.mem hb
      rw [e1] at e3
      cases e3
      obtain ⟨sl'', e4⟩ := up b _ e2 nf
      exact ⟨_, e4⟩
    · obtain ⟨o1, e1⟩ := I.base.there b o e (nx b)
      obtain ⟨o2, e2⟩ := tb b o1 e1 (ne b o e hb)
      exact ⟨o2, fl.1 b o2 e2⟩
  · obtain ⟨m1, e1⟩ := I.base.tbls b ps e
    obtain ⟨m2, e2⟩ := un.tbls b _ e1
    exact ⟨m1 ++ m2, by rw [e2, Array.append_assoc]⟩
  · obtain ⟨o1, e1⟩ := I.base.there b o e (nx b)
    exact tb b o1 e1 (ne b o e hb)
  · cases q : X.s₀.heap.get? a with
    | none => rfl
    | some o =>
      obtain ⟨o1, e1⟩ := I.base.there a o q (nx a)
      rw [na] at e1
      cases e1
end
section
variable {P : Program} {w : World} {K : PySem.W.Frag} {mg : Str → Option Value} {base : Heap} {N : List Str} {qual : Str} {scope : Scope} {f : Addr} {cd : Value} {A : Around} {outer : List Env} {s0 : Shared} {H0 : Hp} {E : XK} {CX : CXT}
def tRaise (E : XK) (c : Value) : TS := fun _ _ H => E c none H
structure Exc (K : PySem.W.Frag) (C : Addr) : Prop where
  is : PySem.W.excIn K C [.type "ValueError", .type "Exception", .type "BaseException", .type "object"] "ValueError.__new__" = true
theorem Exc.obj {h : Heap} {C : Addr} (X : K.In h) (e : Exc K C) : ∃ bm Nn nm q bs hdct sn sub ab col dd k0 k1 k2 k3 k5 mN, h.get? C = some (excClassObj nm q C Nn bs bm hdct sn sub ab col dd k0 k1 k2 k3 k5 "ValueError.__new__") ∧ h.Ns Nn mN ∧ mN "__init__" = none ∧ OwnTail h [.type "ValueError", .type "Exception", .type "BaseException", .type "object"] bm := by
  have q := e.is
  unfold PySem.W.excIn at q
  split at q
  · rename_i dd cd sl ho
    split at q
    · rename_i C' bm k0 k1 k2 k3 n k5 hm hs
      simp only [Bool.and_eq_true, beq_iff_eq, Bool.not_eq_true'] at q
      obtain ⟨⟨⟨⟨⟨rfl, rfl⟩, hdel⟩, ht⟩, hok⟩, hni⟩ := q
      obtain ⟨nm, bs, mro, ns, qn, hd, sn, sub, ab, col, del⟩ := cd
      have e1 : mro = .ref C' :: bm := hm
      have e2 : del = false := hdel
      subst e1 e2
      obtain ⟨l⟩ := sl
      have e3 : l = [k0, k1, k2, k3, some (.builtin "ValueError.__new__"), k5] := hs
      subst e3
      exact ⟨bm, ns, nm, qn, bs, hd, sn, sub, ab, col, dd, k0, k1, k2, k3, k5, _, X _ _ ho, .of_isNs (PySem.W.isNs_of_in X hok), PySem.W.nsMap_none_of_in X hok hni, PySem.W.tail_of_in X ht⟩
    · cases q
  · cases q
theorem sraise {C : Addr} {x y : Str} {np cpos pos sp : Pos} {j : Nat} (hC : Exc K C) (hm : mg x = some (.ref C)) (hd : A.handled = none) (hg : Gl (cxOf (CXO P w) P w K mg base N qual scope f cd A outer s0 H0 E) x) (hdb : (x == ("__debug__" : Str)) = false := by decide) :
    JS (cxOf (CXO P w) P w K mg base N qual scope f cd A outer s0 H0 E) (.Raise (some (.Call (.Name x np) [.Constant (.str y) j sp] [] cpos)) none pos) (tRaise E (.ref C)) := ⟨by
  intro pins s σ H D I h
  obtain ⟨bm, Nn, nm, q, bs, hdct, sn, sub, ab, col, dd, k0, k1, k2, k3, k5, mN, hCo, hN, hni, T⟩ := hC.obj I.mod.kin
  refine wpAny_Raise_call_subT (C := C) (nm := nm) (q := q) (N := Nn) (bs := bs) (bm := bm) (hdct := hdct) (sn := sn) (sub := sub) (ab := ab) (col := col) (dd := dd) (k0 := k0) (k1 := k1) (k2 := k2) (k3 := k3) (k5 := k5) PySem.F.excBase_ValueError (mN := mN) (T.hasType PySem.F.excBase_ValueError.hasBase) hd rfl hni (ld_glob I hg hm ⟨rfl, ?_⟩ hdb)
  have pa := pa_cons (X := cxOf (CXO P w) P w K mg base N qual scope f cd A outer s0 H0 E) (pe_str (x := y) (j := j) (pos := sp)) pa_nil
  refine Calls.evalArgs_plain (wpAny_mono (pa cpos pins s σ H (fun vs H2 => vs.length = 1 ∧ H2 = H) I ⟨rfl, rfl⟩) (fun us s2 z => ?_) fun _ _ z => z)
  obtain ⟨vs, H2, I2, r2, l2, rfl⟩ := z
  refine ⟨rfl, ?_, I2.bk _ _ hCo, hN.keeps I2.bk, T.keeps I2.bk, fun h' e hx => ?_⟩
  · show us.length ≤ _
    rw [← r2.length, l2]
    decide
  have nf : ∀ b u, H2 b = some u → b ∉ frs (cxOf (CXO P w) P w K mg base N qual scope f cd A outer s0 H0 E).stack := fun b u e z => by
    rw [I2.stkFree b z] at e
    cases e
  refine wpAny_leaves_madeW (base := PySem.W.hideAll s2.heap (frs (cxOf (CXO P w) P w K mg base N qual scope f cd A outer s0 H0 E).stack)) (h := s2.heap) I2.ok.frames rfl (fun b o q => PySem.W.of_hideAll _ q) (PySem.W.funFrames_hide I2.stack fun env he b hb => List.mem_filterMap.mpr ⟨env, he, hb⟩) hx fun h2 t fl _ _ up => ?_
  refine cxo_out (X := cxOf (CXO P w) P w K mg base N qual scope f cd A outer s0 H0 E) (H' := H2) (h1 := h') (s := s2) rfl rfl I2 rfl I2.bare fl up (Un.kept hx.keeps) (fun b o e _ n => PySem.W.hideAll_get _ e n) (fun b o e n => ⟨o, PySem.W.hideAll_get _ e n⟩) (fun b o e => (I2.hok b o e).stay (fun c u hc q => PySem.W.hideAll_get _ q ?_) (fun _ q => q) fun _ _ q => q) hx.new h
  rcases hc with z | z
  · subst z
    exact nf _ _ e
  · exact nf _ _ z⟩
end
end L2
namespace L2
open PySem PySem.Spec PyProof.Rows PySem.W PySem.Calls PySem.Builtin PySem.Builtin.ObjectAttr PySem.Builtin.Getset_descriptor
structure ExcI (K : PySem.W.Frag) (C : Addr) : Prop where
  ga : findIn K (.ref C) "__getattribute__" = some (some (.builtin "BaseException.__getattribute__"))
  gh : findIn K (.ref C) "__getattr__" = some none
  cl : findIn K (.ref C) "__class__" = some (some (.builtin "object.__class__"))
  mo : mroIn K C (.type "object") = some true
  mb : mroIn K C (.type "BaseException") = some true
  gt : specialIn K (.builtin "object.__class__") "__get__" = some (some (.builtin "getset_descriptor.__get__"))
  tk : takesIn K (.builtin "object.__class__") = some true
  is : (clsIn K C).isSome = true
def XAt (a C : Addr) (h : Heap) : Prop := ∃ o, h.get? a = some o ∧ o.cls = .ref C
section
variable {K : PySem.W.Frag} {prog : Program} {w : World} {A : Around} {E : Value → Shared → Prop} {s : Shared} {a C : Addr}
theorem XAt.ty {M : Model} {h : Heap} (x : XAt a C h) : Looks M h (typeOf (.ref a)) (.ref C) := by
  obtain ⟨o, e, c⟩ := x
  exact c ▸ (Looks.ld e).andThen .now
theorem xcls_get {R : Result → Shared → Prop} {tp : Value} (X : K.In s.heap) (x : XAt a C s.heap) (F : ExcI K C) (h : R (.ok (.ret (.ref C))) s) : codeAny (model prog w) A (.call (.builtin "getset_descriptor.__get__") ⟨[.builtin "object.__class__", .ref a, tp], []⟩) R s := by
  obtain ⟨h0, gn, dr, tk, os⟩ := s
  have l0 := x.ty (M := model prog w)
  have l1 := looks_mroIn (M := model prog w) X F.mo
  refine codeAny_call_builtin KF.slot_gs.plain KF.entry_gs (KF.slot_gs.check _ _ _ _ _ _ _ _ KF.type_class (KF.args_gs _ _ _) ?_)
  unfold Builtin.«getset_descriptor.__get__»; unfold descrGet
  rw [dga_obj]
  refine wpAny_bind (wpAny_pure ?_)
  unfold descrGetter; unfold descrCheckInstance; unfold descrNameAndClass; unfold isInstance
  simp only [KF.owner_class]
  repeat lk
  refine ⟨Code.quiet_builtin _ (by decide +kernel), codeAny_builtin KF.entry_class ?_⟩
  unfold Builtin.«object.__class__»; unfold shownTypeOf
  repeat lk
  exact h
theorem xcls_find {M : Model} {h : Heap} (X : K.In h) (F : ExcI K C) : Looks M h (find (.ref a) (.ref C) "__class__") (.bind (.builtin "getset_descriptor.__get__") (.builtin "object.__class__")) := by
  have l1 := looks_findIn (M := M) X F.cl
  have l2 := looks_specialIn (M := M) X F.gt
  have l3 := looks_takesIn (M := M) X F.tk
  exact l1.andThen (Looks.andThen (a := some (Value.builtin "getset_descriptor.__get__")) l2 ((show Looks M h (dataDescriptor? (some (.builtin "object.__class__")) (some (.builtin "getset_descriptor.__get__"))) (some (.builtin "getset_descriptor.__get__", .builtin "object.__class__")) from l3.andThen .now).andThen (Looks.tag .now)))
theorem xcls_entry {tk : Tok} {Q : Fin → Shared → Prop} (X : K.In s.heap) (x : XAt a C s.heap) (F : ExcI K C) (h : Q (.done (.ret (.ref C))) s) : wpAny (model prog w) A (Builtin.«object.__getattribute__» ⟨[.ref a, .str "__class__" tk], []⟩) Q E s := by
  obtain ⟨h0, gn, dr, tk, os⟩ := s
  have l0 := x.ty (M := model prog w)
  have l1 := xcls_find (M := model prog w) (a := a) X F
  unfold Builtin.«object.__getattribute__»
  refine wpAny_bind (wpAny_pure ?_)
  refine wpAny_bind (wpAny_pure ?_)
  refine wpAny_bind (l0.at ?_)
  refine wpAny_bind (l1.at ?_)
  show wpAny (model prog w) A (bindTo (.builtin "getset_descriptor.__get__") (.builtin "object.__class__") (.ref a) (.ref C)) _ _ _
  unfold bindTo
  show wpAny (model prog w) A (holding [.builtin "object.__class__"] (call (.builtin "getset_descriptor.__get__") [.builtin "object.__class__", .ref a, .ref C]) >>= ret) _ _ _
  exact wpAny_bind (wpAny_holding (wpAny_call (xcls_get (s := ⟨h0, gn, dr, tk, os⟩) X x F (wpAny_pure h))))
theorem xcls_call {tk : Tok} {R : Result → Shared → Prop} (X : K.In s.heap) (x : XAt a C s.heap) (F : ExcI K C) (h : R (.ok (.ret (.ref C))) s) : codeAny (model prog w) A (.call (.builtin "BaseException.__getattribute__") ⟨[.ref a, .str "__class__" tk], []⟩) R s := by
  refine codeAny_call_builtin PySem.F.attr_ValueError.ga.plain PySem.F.entry_bexc_ga ?_
  have hk : builtinKind "BaseException.__getattribute__" = some .slot := by decide +kernel
  have hp : splitId "BaseException.__getattribute__" = some ("BaseException", "__getattribute__") := by decide +kernel
  have ha := PySem.F.args_bexc_ga (.ref a) (.str "__class__" tk)
  have l0 := x.ty (M := model prog w)
  have l1 := looks_mroIn (M := model prog w) X F.mb
  have l2 : Looks (model prog w) s.heap (isInstance (.ref a) (.type "BaseException")) true := l0.andThen l1
  simp only [checkBuiltinCall, hk, hp]
  refine wpAny_bind (l2.at ?_)
  rw [if_neg (by decide)]
  exact wpAny_of_eq ha (xcls_entry X x F h)
theorem xcls_by {tk : Tok} {Q : Value → Shared → Prop} (X : K.In s.heap) (x : XAt a C s.heap) (F : ExcI K C) (h : Q (.ref C) s) : wpAny (model prog w) A (getAttrBy (.ref a) (.str "__class__" tk) false) Q E s := by
  have l0 := x.ty (M := model prog w)
  have l1 := looks_findIn (M := model prog w) X F.ga
  have l2 := looks_findIn (M := model prog w) X F.gh
  have f3 := PySem.F.attr_ValueError.ga.bind (.ref a)
  unfold getAttrBy
  refine wpAny_holding (wpAny_bind (l0.at (wpAny_bind (l1.at ?_))))
  dsimp only
  have nb : (onTheHeap (Value.ref C) && Value.builtin "BaseException.__getattribute__" == Value.builtin "object.__getattribute__") = false := by
    rw [show (Value.builtin "BaseException.__getattribute__" == Value.builtin "object.__getattribute__") = false by decide +kernel, Bool.and_false]
  rw [nb, if_neg (by decide)]
  unfold getAttrByItsOwn
  refine wpAny_bind ?_
  show wpAny (model prog w) A (typeLookup (.ref C) "__getattr__") _ _ _
  refine l2.at (wpAny_bind (wpAny_attempt (wpAny_holding ?_)))
  show wpAny (model prog w) A (boundAndCalled (.builtin "BaseException.__getattribute__") (.ref a) (.str "__class__" tk)) _ _ _
  unfold boundAndCalled
  refine wpAny_bind (wpAny_of_eq f3 ?_)
  refine wpAny_call (xcls_call (s := s) X x F ?_)
  exact wpAny_pure h
theorem xcls_attr {Q : Option Value → Shared → Prop} (X : K.In s.heap) (x : XAt a C s.heap) (F : ExcI K C) (h : Q (some (.ref C)) { s with toks := s.toks + 1 }) : wpAny (model prog w) A (getAttr? (.ref a) "__class__") Q E s := by
  unfold getAttr?; unfold getAttrBy?
  exact wpAny_bind (wpAny_mkText (wpAny_bind (wpAny_attempt (xcls_by (s := { s with toks := s.toks + 1 }) X x F (wpAny_pure h)))))
theorem kitx_exc (F : ExcI K C) : KitX K (.ref a) (.ref C) (XAt a C) where
  ty := fun _ _ _ x => x.ty
  it := fun _ _ X _ => by
    have q := F.is
    unfold clsIn at q
    split at q
    · rename_i ho
      intro A' Q' E' s' k z
      unfold isType loadHead
      exact wpAny_bind (wpAny_loadPart (k _ _ (X _ _ ho)) (wpAny_pure z))
    · cases q
  ne := fun h tp dd its n sl X e => by
    have q := F.is
    refine Bool.eq_false_iff.mpr fun z => ?_
    cases beq_iff_eq.mp z
    unfold clsIn at q
    split at q
    · rename_i ho
      have z := (X _ _ ho).symm.trans e
      cases z
    · cases q
  ca := fun X x k => xcls_attr X x F k
end
end L2
set_option Elab.async false
set_option linter.all false
set_option maxRecDepth 100000
set_option maxHeartbeats 4000000
namespace L2
open PySem PySem.Spec PyProof.Rows
def Cx.tried (X : Cx) (xe : Value → Shared → Prop) (pn : List (Addr × Obj)) : Cx := { X with xe := xe, pn := pn }
def Cx.caught (X : Cx) (a : Addr) (xe : Value → Shared → Prop) (pn : List (Addr × Obj)) : Cx := { X with A := X.A.mark (some (.ref a)), calm := false, xe := xe, pn := pn }
section
variable {X : Cx} {pins pins1 : List (Addr × Obj)} {σ : St} {H H' : Hp} {s : Shared} {xe : Value → Shared → Prop}
theorem Inv.tried (I : Inv X pins σ H s) : Inv (X.tried xe (X.pn ++ pins)) [] σ H s :=
  ⟨⟨I.ok.mod, I.ok.kind, I.ok.glob, I.ok.blt, I.ok.above, I.ok.inj, I.ok.has, I.ok.cab, I.ok.hd, I.ok.frames, I.ok.stk, I.ok.exf, I.ok.bs, I.ok.bsz, I.ok.noex, I.ok.exfs, I.ok.funs, I.ok.frf⟩, I.os, I.bare, I.base, I.loc, I.cell, I.free, I.freeC, fun p hp => I.pin p (by rw [List.append_nil] at hp; exact hp), I.hok, I.len⟩
theorem Inv.untried (I : Inv (X.tried xe (X.pn ++ pins)) pins1 σ H s) : Inv X pins σ H s :=
  ⟨⟨I.ok.mod, I.ok.kind, I.ok.glob, I.ok.blt, I.ok.above, I.ok.inj, I.ok.has, I.ok.cab, I.ok.hd, I.ok.frames, I.ok.stk, I.ok.exf, I.ok.bs, I.ok.bsz, I.ok.noex, I.ok.exfs, I.ok.funs, I.ok.frf⟩, I.os, I.bare, I.base, I.loc, I.cell, I.free, I.freeC, fun p hp => I.pin p (List.mem_append_left _ hp), I.hok, I.len⟩
theorem Inv.caught {a : Addr} (I : Inv X pins σ H s) : Inv (X.caught a xe (X.pn ++ pins)) [] σ H s :=
  ⟨⟨I.ok.mod, I.ok.kind, I.ok.glob, I.ok.blt, I.ok.above, I.ok.inj, I.ok.has, I.ok.cab, (fun z => nomatch z), I.ok.frames, I.ok.stk, I.ok.exf, I.ok.bs, I.ok.bsz, I.ok.noex, I.ok.exfs, I.ok.funs, I.ok.frf⟩, I.os, I.bare, I.base, I.loc, I.cell, I.free, I.freeC, fun p hp => I.pin p (by rw [List.append_nil] at hp; exact hp), I.hok, I.len⟩
theorem Inv.uncaught {a : Addr} (ok : X.Ok) (I : Inv (X.caught a xe (X.pn ++ pins)) pins1 σ H s) : Inv X pins σ H s :=
  ⟨ok, I.os, I.bare, I.base, I.loc, I.cell, I.free, I.freeC, fun p hp => I.pin p (List.mem_append_left _ hp), I.hok, I.len⟩
theorem Inv.track {a : Addr} {o : HO} (I : Inv X pins σ H s) (hn : H a = none) (ha : X.s₀.heap.get? a = none) (hl : a ≠ X.env.locals) (hc : ∀ x c, X.env.cells.lookup x = some c → c ≠ a) (hp : ∀ p ∈ X.pn ++ pins, p.1 ≠ a) (ok : ObjOk X.prog X.w (upd H a o) s.heap a o) : Inv X pins σ (upd H a o) s := by
  have ne : ∀ b u, H b = some u → b ≠ a := fun b u e => ne_of_none e hn
  refine ⟨I.ok, I.os, I.bare, ⟨I.base.keep, I.base.slot, fun b u e n hx => ?_, I.base.there, fun b xs e => ?_, fun b u xs e => ?_, fun b ps e => ?_⟩, I.loc, I.cell, ?_, fun x c e => ?_, fun p q => ?_, fun b u e => ?_, I.len⟩
  · rw [upd_ne (fun z => by rw [z, ha] at e; cases e)]
    exact I.base.free b u e n hx
  · have := I.base.tups b xs e
    rw [upd_ne (ne _ _ this)]
    exact this
  · have := I.base.frzs b u xs e
    rw [upd_ne (ne _ _ this)]
    exact this
  · obtain ⟨m, this⟩ := I.base.tbls b ps e
    exact ⟨m, by rw [upd_ne (ne _ _ this)]; exact this⟩
  · rw [upd_ne hl.symm]
    exact I.free
  · rw [upd_ne (hc x c e)]
    exact I.freeC x c e
  · obtain ⟨e, n, r⟩ := I.pin p q
    exact ⟨e, by rw [upd_ne (hp p q)]; exact n, r⟩
  · by_cases z : b = a
    · subst z
      rw [upd_same] at e
      cases e
      exact ok
    · rw [upd_ne z] at e
      exact (I.hok b u e).stay (fun _ _ _ q => q) (fun c q => by rw [upd_ne (ne _ _ q)]; exact q) fun c xs q => by rw [upd_ne (ne _ _ q)]; exact q
end
theorem un_up {st : List Env} {base h h1 h2 B : Heap} {H H' : Hp} (ff : h.FunFrames base st) (fr : ∀ b ∈ frs st, H b = none) (un : Un (frs st) [] H H' h h1) (kb : ∀ b o, h.get? b = some o → H b = none → b ∉ frs st → B.get? b = some o)
    (tb : ∀ b o, h.get? b = some o → b ∉ frs st → ∃ o', B.get? b = some o') (ks : B.StaysIn h2) (up : h1.UpToSlots h2) : Un (frs st) [] H H' h h2 := by
  have sl : ∀ b o, h.get? b = some o → H b = none → b ∈ frs st → ∃ sl, h2.get? b = some { o with slots := sl } := fun b o e n hb => by
    obtain ⟨s1, e1⟩ := un.slot b o e n hb (by simp)
    obtain ⟨_, o', e3, nf⟩ := ff.mem hb
    rw [e] at e3
    cases e3
    obtain ⟨s2, e2⟩ := up b _ e1 nf
    exact ⟨s2, e2⟩
  refine ⟨fun b o e n hb _ => ks b o (kb b o e n hb), fun b o e n hb _ => sl b o e n hb, un.free, fun b o e _ => ?_, un.tups, un.frzs, un.tbls⟩
  by_cases hb : b ∈ frs st
  · obtain ⟨_, e1⟩ := sl b o e (fr b hb) hb
    exact ⟨_, e1⟩
  · obtain ⟨o', e1⟩ := tb b o e hb
    exact ⟨o', ks b o' e1⟩
def Ends.gone (D : Ends) (i : Nat) : Ends := { nx := fun σ H => D.nx (σ.set i none) H, rt := D.rt, bk := fun σ H => D.bk (σ.set i none) H, ct := fun σ H => D.ct (σ.set i none) H }
theorem name_goes {X : Cx} {pins : List (Addr × Obj)} {σ : St} {H : Hp} {s : Shared} {M : Model} {A : Around} {E : Value → Shared → Prop} {Q : Unit → Shared → Prop} {n : Str} {i : Nat} {pos : Pos} (I : Inv X pins σ H s) (hN : X.N.Nodup) (hi : X.N[i]? = some n) (hl : X.env.kindOf n = some .local)
    (h : ∀ s', Inv X pins (σ.set i none) H s' → Q () s') : wpAny M A (do bindName X.env n .none; unbindBehindTheSuite X.env n pos) Q E s := by
  obtain ⟨m, hn, hv⟩ := id I.loc
  obtain ⟨oL, _, _, hoL, _⟩ := id hn
  have ne : ∀ b o, X.s₀.heap.get? b = some o → b ≠ X.env.locals := fun b o e => Nat.ne_of_lt (Nat.lt_of_lt_of_le (Heap.lt_size e) I.ok.above)
  refine wpAny_nameGoes_keeps hl hn (by rw [I.ok.kind]; rfl) fun h' v hn' hs => ?_
  refine h _ ⟨I.ok, I.os, I.bare, ⟨fun b o e n hb hx => (hs.2 b (ne b o e)).trans (I.base.keep b o e n hb hx), fun b o e n hb hx => ?_, I.base.free, fun b o e hx => ?_, I.base.tups, I.base.frzs, I.base.tbls⟩, ⟨_, hn', fun j y u e1 e2 e3 => ?_⟩, fun y c e => ?_, I.free, I.freeC, fun p hp => ?_, fun b u e => ?_, by simpa using I.len⟩
  · obtain ⟨sl, e1⟩ := I.base.slot b o e n hb hx
    exact ⟨sl, (hs.2 b (ne b o e)).trans e1⟩
  · obtain ⟨o', e1⟩ := I.base.there b o e hx
    exact ⟨o', (hs.2 b (ne b o e)).trans e1⟩
  · by_cases hj : j = i
    · subst hj
      have : j < σ.length := by rw [I.len]; exact (List.getElem?_eq_some_iff.mp hi).1
      rw [List.getElem?_set_self this] at e2
      cases e2
    · rw [List.getElem?_set_ne (Ne.symm hj)] at e2
      obtain ⟨u', r', q⟩ := hv j y u e1 e2 e3
      refine ⟨u', r', ?_⟩
      rcases q with ⟨k, e⟩ | ⟨k, c, e, z⟩
      · refine .inl ⟨k, ?_⟩
        have : y ≠ n := fun e => hj (nodup_ix hN e1 (e ▸ hi))
        show (if y = n then v else m y) = _
        rw [if_neg this]
        exact e
      · exact .inr ⟨k, c, e, z.sameBut hs (I.cne y c e)⟩
  · obtain ⟨w', z⟩ := I.cell y c e
    exact ⟨w', z.sameBut hs (I.cne y c e)⟩
  · obtain ⟨e, n, ne, r⟩ := I.pin p hp
    exact ⟨(hs.2 p.1 ne).trans e, n, ne, r⟩
  · refine (I.hok b u e).stay (fun c w' hc q => (hs.2 c ?_).trans q) (fun _ q => q) fun _ _ q => q
    rintro rfl
    rcases hc with z | z
    · rw [← z, I.free] at e
      cases e
    · rw [I.free] at z
      cases z
section
variable {X : Cx}
def tTry (K : PySem.W.Frag) (CF : Addr) (len i : Nat) (tb : XK → TS) (ts : TS) : TS := fun D σ H =>
  tb (fun cls _ H' => ∃ C, cls = .ref C ∧ ExcI K C ∧ PySem.W.exmOne K (.ref C) (.ref CF) = some true ∧ ∀ a, L2.new K H' a → ts (D.gone i) ((List.replicate len none).set i (some (.ref a))) (upd H' a (.ext (XAt a C)))) D σ H
theorem stry {x n : Str} {CF : Addr} {i : Nat} {np hp pos : Pos} {body suite : List Stmt} {b0 : Stmt} {tb : XK → TS} {ts : TS} (hN : X.N.Nodup) (hi : X.N[i]? = some n) (hl : X.env.kindOf n = some .local) (hg : Gl X x) (hm : X.mg x = some (.ref CF)) (hst : X.stack = X.env :: X.outer ∧ X.env.frame = some X.env.locals) (hex : X.ex = [])
    (hb : ∀ (E1 : XK) (xe : Value → Shared → Prop) (pn : List (Addr × Obj)), Passes (CXO X.prog X.w) (X.tried xe pn) E1 → JB (X.tried xe pn) body (tb E1)) (hs : ∀ (a : Addr) (xe : Value → Shared → Prop) (pn : List (Addr × Obj)), JB (X.caught a xe pn) (b0 :: suite) ts) (hdb : (x == ("__debug__" : Str)) = false := by decide) :
    JS X (.Try body [.ExceptHandler (some (.Name x np)) (some n) (b0 :: suite) hp] [] [] pos) (tTry X.K CF X.N.length i tb ts) := ⟨by
  intro pins s σ H D I h
  refine wpAny_Try_except (wpAny_mono ((hb _ (fun e s₁ => wpAny (model X.prog X.w) X.A (noteFrame e X.env) (fun _ s₂ => wpAny (model X.prog X.w) X.A (setFlight e none) (fun _ s₃ => wpAny (model X.prog X.w) X.A (handleBy e X.env [.ExceptHandler (some (.Name x np)) (some n) (b0 :: suite) hp]) (SP X pins D) X.xe s₃) X.xe s₂) X.xe s₁) (X.pn ++ pins) ?_).h [] s σ H D (I.tried (pins := pins)) h) (fun f s1 q => ?_) fun _ _ z => z)
  · rintro pins1 σ1 H1 s1 e ⟨h', g', d', t', os'⟩ J ⟨a, cls, a0, B, H', rfl, os, bare, fl, un, kb, tb, hok, na, C, rfl, F, hx, k⟩
    have J := J.untried
    have fr : X.A.frames = some (X.env :: X.outer) := by rw [← hst.1]; exact J.ok.frames
    have fl : Heap.FlyingW B (X.env :: X.outer) a (.ref C) a0 h' := by rw [← hst.1]; exact fl
    refine wpAny_looks_onW fr hst.2 fl fun h4 held4 up4 => wpAny_landsW held4 fun h5 fl5 up5 => ?_
    have up45 := up4.trans up5
    have mk : ∀ {h6 : Heap}, Heap.FlyingW B (X.env :: X.outer) a (.ref C) a0 h6 → h'.UpToSlots h6 → Inv X pins σ1 H' ⟨h6, g', d', t', os'⟩ := fun {h6} fl6 up6 =>
      J.call' (s' := ⟨h6, g', d', t', os'⟩) (ch := []) os (un_up J.stack J.stkFree un kb tb fl6.1 up6) (hok.kept fl6.1) bare (fun b z => absurd z (by simp))
    have J5 := mk fl5 up45
    have xa : ∀ {h6 : Heap}, Heap.FlyingW B (X.env :: X.outer) a (.ref C) a0 h6 → XAt a C h6 := fun fl6 => fl6.there
    refine wpAny_handleBy_cons (codeAny_handlers_test (Calls.Name_function_global J5.ok.kind hg (Calls.loadGlobal_global (by rw [J5.ok.glob]; exact J5.mod.glob.keeps J5.bk) hm ?_) hdb)) (by intro q; cases q)
    refine (PySem.W.exm_one J5.kIn (xa fl5).ty hx).at ?_
    show codeAny _ _ _ _ _
    refine codeAny_handlers_suite_as ?_
    refine lands_againW fl5 fun h6 fl6 up6 => ?_
    have J6 := mk fl6 (up45.trans up6)
    have ex : ∀ b o, s1.heap.get? b = some o → b ≠ a := fun b o e z => by rw [z, na] at e; cases e
    have aL : X.env.locals ≠ a := by
      obtain ⟨m, ⟨o, _, _, e, _⟩, _⟩ := J.loc
      exact ex _ o e
    have aC : ∀ y c, X.env.cells.lookup y = some c → c ≠ a := fun y c e => by
      obtain ⟨v, o, q, _⟩ := J.cell y c e
      exact ex c o q
    have hH : H' a = none := by
      cases q : H' a with
      | none => rfl
      | some u =>
        obtain ⟨o, e⟩ := no_obj (hok a u q)
        have := fl.2.1
        rw [this] at e
        cases e
    refine store_ok2 J6 hN hi (.inl hl) (v := .ref a) rfl (fun s7 J7 sm => ?_) (.inr hl)
    have x7 : XAt a C s7.heap := by
      obtain ⟨b, sb, hb⟩ := sm
      obtain ⟨o, e, c⟩ := xa fl6
      refine ⟨o, (sb.2 a ?_).trans e, c⟩
      rcases hb with rfl | hb
      · exact aL.symm
      · exact (aC _ _ hb).symm
    have J8 : Inv X pins ((List.replicate X.N.length none).set i (some (.ref a))) H' s7 := by
      refine J7.weak (by simp [J7.len]) fun j v e => ?_
      by_cases z : j = i
      · subst z
        have lt : j < X.N.length := (List.getElem?_eq_some_iff.mp hi).1
        rw [List.getElem?_set_self (by rw [List.length_replicate]; exact lt)] at e
        rw [List.getElem?_set_self (by rw [J.len]; exact lt)]
        exact e
      · rw [List.getElem?_set_ne (Ne.symm z), List.getElem?_replicate] at e
        split at e <;> cases e
    have J9 := J8.track (a := a) (o := .ext (XAt a C)) hH (by
      cases q : X.s₀.heap.get? a with
      | none => rfl
      | some o =>
        obtain ⟨o', e⟩ := J.base.there a o q (by rw [hex]; simp)
        exact absurd rfl (ex a o' e)) aL.symm aC (fun p hp => ex p.1 p.2 (J.pin p hp).1) ⟨x7, (let ⟨o, e, _⟩ := x7; ⟨o, e⟩), fun h1 h2 ⟨o, e, c⟩ k => ⟨o, k o e, c⟩⟩
    have nw := k a ⟨hH, J9.notMod upd_same⟩
    refine wpAny_mono ((hs a _ (X.pn ++ pins)).h [] s7 _ _ (D.gone i) (J9.caught (a := a)) nw) (fun f s8 q => ?_) fun _ _ z => z
    cases f with
    | next =>
      obtain ⟨σ', H2, JA, q⟩ := q
      exact name_goes (JA.uncaught J.ok) hN hi hl fun s' JB => ⟨_, _, JB, q⟩
    | brk =>
      obtain ⟨σ', H2, JA, q⟩ := q
      exact name_goes (JA.uncaught J.ok) hN hi hl fun s' JB => ⟨_, _, JB, q⟩
    | cont =>
      obtain ⟨σ', H2, JA, q⟩ := q
      exact name_goes (JA.uncaught J.ok) hN hi hl fun s' JB => ⟨_, _, JB, q⟩
    | ret u =>
      obtain ⟨v, σ', H2, JA, r, q⟩ := q
      exact name_goes (JA.uncaught J.ok) hN hi hl fun s' JB => ⟨_, _, _, JB, r, q⟩
  · cases f with
    | next =>
      obtain ⟨σ', H', J, q⟩ := q
      exact wpAny_execs_nil ⟨σ', H', J.untried, q⟩
    | brk =>
      obtain ⟨σ', H', J, q⟩ := q
      exact ⟨σ', H', J.untried, q⟩
    | cont =>
      obtain ⟨σ', H', J, q⟩ := q
      exact ⟨σ', H', J.untried, q⟩
    | ret u =>
      obtain ⟨v, σ', H', J, r, q⟩ := q
      exact ⟨v, σ', H', J.untried, r, q⟩⟩
end
end L2
set_option Elab.async false
set_option linter.all false
set_option maxRecDepth 100000
set_option maxHeartbeats 4000000
namespace L2
open PySem PySem.Spec PyProof.Rows
def lamCx (P : Program) (w : World) (K : PySem.W.Frag) (mg : Str → Option Value) (base : Heap) (N : List Str) (qual : Str) (scope : Scope) (f : Addr) (cd : Value) (A : Around) (outer : List Env) (s : Shared) (H : Hp) (E : XK) (cl : List (Str × Addr)) : Cx where
  prog := P
  w := w
  K := K
  mg := mg
  base := base
  A := A.deeper (PySem.W.envX qual scope s.heap.objs.size f cd cl)
  N := N
  s₀ := s
  H₀ := H
  env := PySem.W.envX qual scope s.heap.objs.size f cd cl
  outer := outer
  stack := PySem.W.envX qual scope s.heap.objs.size f cd cl :: outer
  ex := []
  calm := true
  fn := fun _ => false
  pn := []
  xe := fun e s' => wpAny (model P w) (A.deeper (PySem.W.envX qual scope s.heap.objs.size f cd cl)) (leaving (PySem.W.envX qual scope s.heap.objs.size f cd cl) e) (fun _ s'' => CXO P w outer H s E e s'') (fun e' s'' => CXO P w outer H s E e' s'') s'
structure Lam (K : PySem.W.Frag) (H : Hp) (h : Heap) (f : Addr) (name qual : Str) (params : Arguments) (body : Expr) (scope : Scope) (cl : List (Str × Addr)) (pm ctv : Value) (c' : Addr) (N : List Str) (σ : St) : Prop where
  obj : h.get? f = some (PySem.W.kla_obj name qual params body scope cl pm c' ctv)
  code : h.CodeRec (.ref c') qual
  free : ∀ x c, cl.lookup x = some c → H c = none ∧ ∃ v, h.IsCell c v
  inj : ∀ x y c, cl.lookup x = some c → cl.lookup y = some c → x = y
  has : ∀ x, (scope.names.lookup x = some .cell ∨ scope.names.lookup x = some .free) → ∃ c, cl.lookup x = some c
  vals : ∀ (i : Nat) (x : Str) (v : V), N[i]? = some x → σ[i]? = some (some v) → ∃ u c, RelV v u ∧ cl.lookup x = some c ∧ h.IsCell c (some u) ∧ scope.names.lookup x = some .free
  len : σ.length = N.length
section
variable {P : Program} {w : World} {K : PySem.W.Frag} {mg : Str → Option Value} {base : Heap} {N : List Str} {name qual : Str} {scope : Scope} {f c' : Addr} {A : Around} {outer : List Env} {s : Shared} {H : Hp} {E : XK} {cl : List (Str × Addr)} {params : Arguments} {body : Expr} {pm ctv : Value} {σ : St} {Q : VK} {k : Nat} {te : TE}
end
section
variable {X : Cx} {N : List Str} {name qual : Str} {scope : Scope} {f c' : Addr} {E : XK} {cl : List (Str × Addr)} {params : Arguments} {body : Expr} {pm ctv : Value} {σl : St} {k i : Nat} {te : TE} {x : Str} {p pos : Pos}
theorem Lam.on {pins : List (Addr × Obj)} {σ : St} {s : Shared} (L : Lam X.K X.H₀ X.s₀.heap f name qual params body scope cl pm ctv c' N σl) (hf : X.H₀ f = none ∧ f ∉ X.fs) (hc : X.H₀ c' = some (.ext fun h => h.CodeRec (.ref c') qual)) (hcl : ∀ x c, cl.lookup x = some c → c ∉ X.fs) (hex : X.ex = [])
    (I : Inv X pins σ X.H₀ s) : Lam X.K X.H₀ s.heap f name qual params body scope cl pm ctv c' N σl := by
  have nx : ∀ b : Addr, b ∉ X.ex := fun b => by rw [hex]; simp
  have ck : ∀ y c v, cl.lookup y = some c → X.s₀.heap.IsCell c v → s.heap.IsCell c v := fun y c v e ⟨o, q, d⟩ => ⟨o, I.base.keep c o q (L.free y c e).1 (hcl y c e) (nx c), d⟩
  refine ⟨I.base.keep f _ L.obj hf.1 hf.2 (nx f), (I.hok c' _ hc).1, fun y c e => ?_, L.inj, L.has, fun j y v e1 e2 => ?_, L.len⟩
  · obtain ⟨n, v, z⟩ := L.free y c e
    exact ⟨n, v, ck y c v e z⟩
  · obtain ⟨u, c, r, e, z, q⟩ := L.vals j y v e1 e2
    exact ⟨u, c, r, e, ck y c _ e z, q⟩
end
end L2
set_option Elab.async false
set_option linter.all false
set_option maxRecDepth 100000
set_option maxHeartbeats 4000000
namespace L2
open PySem PySem.Spec PyProof.Rows
def CTab (H : Hp) (ps : Array Value) (qual : Str) : Prop := TriplesOk ps.toList ∧ ∀ q v, codeAmong q ps.toList = some v → ∃ c', v = .ref c' ∧ H c' = some (.ext fun h => h.CodeRec (.ref c') qual)
structure LawTab (X : Cx) (c P : Addr) : Prop where
  code : X.env.code = .ref c
  hd : PySem.W.CodeHd X.base c P
  bt : ∃ bm ob, X.mg "__builtins__" = some (.ref bm) ∧ bm ≠ builtinsNs ∧ X.base.get? bm = some ob ∧ ob.cls = .type "module" ∧ ob.dict = some builtinsNs ∧ ob.data = .plain
section
variable {X : Cx} {pins : List (Addr × Obj)} {σ : St} {H : Hp} {s : Shared} {c P : Addr} {ps : Array Value} {params : Arguments} {body : Expr} {scope : Scope} {pos : Pos} {A : Around} {E : Value → Shared → Prop} {Q : Value → Shared → Prop}
structure Made (X : Cx) (pins : List (Addr × Obj)) (σ : St) (H : Hp) (P : Addr) (qual : Str) (params : Arguments) (body : Expr) (scope : Scope) (H' : Hp) (s' : Shared) (f c' : Addr) (pm ctv : Value) : Prop where
  inv : Inv X pins σ H' s'
  tab : ∃ ps', H' P = some (.tbl ps') ∧ CTab H' ps' qual
  code : H' c' = some (.ext fun h => h.CodeRec (.ref c') qual)
  keep : ∀ b o, H b = some o → b ≠ P → H' b = some o
  mod : ∀ b xs, H b = none → kTup X.K b = some xs → H' b = none
  obj : s'.heap.get? f = some (PySem.W.kla_obj "<lambda>" qual params body scope (closL X.env scope.names []) pm c' ctv)
  free : H' f = none
  above : X.s₀.heap.objs.size ≤ f
end
section
variable {X : Cx} {pins : List (Addr × Obj)} {σ : St} {H H' : Hp} {s' : Shared} {P f c' : Addr} {qual : Str} {params : Arguments} {body : Expr} {scope : Scope} {pm ctv : Value} {N : List Str} {src : List (Option Nat)}
theorem Made.lam (M : Made X pins σ H P qual params body scope H' s' f c' pm ctv) (c : Cap X scope N src) : Lam X.K H' s'.heap f "<lambda>" qual params body scope (closL X.env scope.names []) pm ctv c' N (pick σ src) := by
  have I := M.inv
  refine ⟨M.obj, (I.hok c' _ M.code).1, fun x d e => ⟨I.freeC x d (clos_look e), I.cell x d (clos_look e)⟩, fun x y d e1 e2 => I.ok.inj x y d (clos_look e1) (clos_look e2), fun x h => ?_, fun i x v e1 e2 => ?_, by unfold pick; rw [List.length_map]; exact c.len.symm⟩
  · have m : (x, NameKind.free) ∈ scope.names := by
      rcases h with h | h
      · exact absurd rfl (c.cell _ (lookup_mem h))
      · exact lookup_mem h
    obtain ⟨d, hd⟩ := I.ok.has x (c.free m)
    exact ⟨d, clos_has m hd⟩
  · obtain ⟨j, e3, e4⟩ := pick_some e2
    obtain ⟨a1, a2, a3⟩ := c.at_ e1 e3
    obtain ⟨m, _, hl⟩ := I.loc
    have vis : Vis X.env.scope x := by
      rcases a2 with z | z
      · exact .inr (.inl z)
      · exact .inr (.inr z)
    obtain ⟨u, r, q⟩ := hl j x v a1 e4 vis
    rcases q with ⟨z, _⟩ | ⟨_, d, e, z⟩
    · rw [z] at a2
      rcases a2 with z | z <;> cases z
    · exact ⟨u, d, r, clos_has (lookup_mem a3) e, z, a3⟩
theorem Made.apart (M : Made X pins σ H P qual params body scope H' s' f c' pm ctv) (hfn : ∀ x, X.fn x = true) : f ∉ frs X.stack ∧ ∀ x d, (closL X.env scope.names []).lookup x = some d → d ∉ frs X.stack := by
  have I := M.inv
  have old : ∀ b, X.s₀.heap.objs.size ≤ b → b ∉ X.fs := fun b hb z => by
    obtain ⟨_, o, e, _⟩ := I.ok.funs.mem z
    exact absurd (Nat.lt_of_lt_of_le (Heap.lt_size e) hb) (Nat.lt_irrefl _)
  refine ⟨fun z => ?_, fun x d e z => ?_⟩
  · rcases List.mem_cons.mp (I.stkSub f z) with q | q
    · obtain ⟨m, ⟨o, es, ep, e, k, _⟩, _⟩ := I.loc
      rw [← q, M.obj] at e
      cases e
      cases k
    · exact old f M.above q
  · rcases List.mem_cons.mp (I.stkSub d z) with q | q
    · exact I.cne x d (clos_look e) q
    · exact old d (I.ok.cab x d (hfn x) (clos_look e)) q
end
section
variable {P : Program} {w : World} {K : PySem.W.Frag} {mg : Str → Option Value} {base : Heap} {x qual : Str} {st : Stmt} {f : Addr} {fd : FuncData} {N ps : List Str} {k : Nat}
theorem Fun.okX {sp : Sp} (F : Fun K x qual st f fd) (S : FnScope N ps (defScope st)) (len : ∀ vs H Q E, sp vs H Q E → vs.length = ps.length)
    (hbody : ∀ (cdv : Value) (A : Around) (outer : List Env) (s : Shared) (H : Hp) (vs : List V) (Q : VK) (E : XK), Room k (A.deeper (envOfC qual (defScope st) s.heap.objs.size f cdv)) → sp vs H Q E →
      ∃ t, JB (cxOf (CXO P w) P w K mg base N qual (defScope st) f cdv A outer s H E) (defBody st) t ∧ t { nx := fun _ H' => Q .non H', rt := Q } (start N vs) H) : FnOk P w K mg base (CXO P w) (k + 1) f fd ps sp := by
  obtain ⟨oc, od, kV, doc, pm, an, cdv, ct, osl, rfl, lk, hcd⟩ := F.ex
  refine fn_of lk hcd S len fun A outer s H vs Q E hr hsp => ?_
  obtain ⟨t, h, q⟩ := hbody cdv A outer s H vs Q E hr hsp
  exact ⟨t, h.h, q⟩
structure CalleeX (P : Program) (w : World) (K : PySem.W.Frag) (mg : Str → Option Value) (base : Heap) (x : Str) (k : Nat) (ps : List Str) (sp : Sp) : Prop where
  ex : ∃ (f : Addr) (fd : FuncData), FnOk P w K mg base (CXO P w) k f fd ps sp ∧ Binds K fd ps [] ∧ PySem.W.keepIn K (.ref f) = true ∧ mg x = some (.ref f)
end
end L2
set_option Elab.async false
set_option linter.all false
set_option maxRecDepth 100000
set_option maxHeartbeats 4000000
namespace L2
open PySem PySem.Spec PyProof.Rows
section
variable {X : Cx}
theorem call_isexc : CallR X (.builtin "isinstance") (fun xs H Q => ∃ a C D b, xs = [.ref a, .ref D] ∧ H a = some (.ext (XAt a C)) ∧ ExcI X.K C ∧ PySem.W.kitOne X.K (.ref C) (.ref D) = some b ∧ Q (.bl b) H) := by
  rintro pins s σ H xs us Q I r ⟨a, C, D, b, rfl, hx, F, e, q⟩
  obtain ⟨u, w', rfl, ru, rw'⟩ := vals2 r
  cases (show w' = Value.ref D from rw')
  cases (show u = Value.ref a from ru)
  exact PySem.W.kia_one (kitx_exc F) I.kIn (I.hok a _ hx).1 e (fun z => nomatch z) fun tk => ⟨.bl b, H, I.tok tk, rfl, q⟩
end
end L2
set_option Elab.async false
set_option linter.all false
set_option maxRecDepth 100000
set_option maxHeartbeats 4000000
namespace L2
open PySem PySem.Spec PyProof.Rows
structure LamSc (params : Arguments) (body : Expr) (scope : Scope) : Prop where
  kind : scope.kind = .function
  co : scope.isCoroutine = false
  gen : scope.isGenerator = false
  cell : ∀ x ∈ scope.names, x.2 ≠ .cell
  bind : ∀ (name qual : Str) (cl : List (Str × Addr)) (pm ctv : Value) (c' : Addr), bindArgs (PySem.W.kla_fn name qual params body scope cl pm (.ref c') ctv) ⟨[], []⟩ = pure []
structure LamAt (K : PySem.W.Frag) (outer : List Env) (s : Shared) (H : Hp) (f c' : Addr) (name qual : Str) (params : Arguments) (body : Expr) (scope : Scope) (cl : List (Str × Addr)) (pm ctv : Value) (N : List Str) (σl : St) : Prop where
  lam : Lam K H s.heap f name qual params body scope cl pm ctv c' N σl
  free : H f = none ∧ f ∉ frs outer
  code : H c' = some (.ext fun h => h.CodeRec (.ref c') qual)
  cls : ∀ x d, cl.lookup x = some d → d ∉ frs outer
  sc : LamSc params body scope
structure Asker (P : Program) (w : World) (K : PySem.W.Frag) (mg : Str → Option Value) (base : Heap) (y : Str) (k : Nat) (tw : (XK → TE) → St → Hp → VK → Prop) : Prop where
  up : ∀ te te' : XK → TE, (∀ E σ H Q, te E σ H Q → te' E σ H Q) → ∀ σ H Q, tw te σ H Q → tw te' σ H Q
  ex : ∃ fW, PySem.W.keepIn K (.ref fW) = true ∧ mg y = some (.ref fW) ∧ ∀ (A : Around) (outer : List Env) (s : Shared) (H : Hp) (f c' : Addr) (name qual : Str) (params : Arguments) (body : Expr) (scope : Scope) (cl : List (Str × Addr)) (pm ctv : Value) (N : List Str) (σl : St) (te : XK → TE) (Q : VK),
    (∀ E E' σ H Q Q', te E σ H Q → (∀ c x H', E c x H' → E' c x H') → (∀ v H', Q v H' → Q' v H') → te E' σ H Q') → Room (k + 2) A → Env0 P w K mg base A outer s H → LamAt K outer s H f c' name qual params body scope cl pm ctv N σl →
    (∀ (E : XK) (A' : Around) (outer' : List Env) (s1 : Shared), Room k (A'.deeper (PySem.W.envX qual scope s1.heap.objs.size f (.ref c') cl)) → JE (lamCx P w K mg base N qual scope f (.ref c') A' outer' s1 H E cl) body (te E)) → tw te σl H Q →
    codeAny (model P w) A (.call (.ref fW) ⟨[.ref f], []⟩) (CR CX0 outer P w H s Q fun _ _ _ => False) s
structure Tabd (K : PySem.W.Frag) (T : Addr) (qual : Str) (H H' : Hp) : Prop where
  tab : ∃ ps, H' T = some (.tbl ps) ∧ CTab H' ps qual
  keep : ∀ b o, H b = some o → b ≠ T → H' b = some o
  mod : ∀ b xs, H b = none → kTup K b = some xs → H' b = none
end L2
set_option Elab.async false
set_option linter.all false
set_option maxRecDepth 100000
set_option maxHeartbeats 4000000
namespace L2
open PySem PySem.Spec PyProof.Rows HT
section
variable {prog : Program} {w : World} {A : Around} {E : Value → Shared → Prop} {s : Shared}
end
theorem cxN {CX : CXT} {P : Program} {w : World} {K : PySem.W.Frag} {mg : Str → Option Value} {base : Heap} {N : List Str} {qual : Str} {scope : Scope} {f : Addr} {cd : Value} {A : Around} {outer : List Env} {s : Shared} {H : Hp} {E : XK} : (cxOf CX P w K mg base N qual scope f cd A outer s H E).N = N := rfl
section
variable {X : Cx}
def rSlTX (K : PySem.W.Frag) : V → Option Int → Option Int → Hp → VK → Prop := fun x lo hi H Q => ∃ a xs, x = .ref a ∧ tupQ K H a = some xs ∧ ∀ q H', tupQ K H' q = some (cutV xs lo hi) → Ext K H H' → Q (.ref q) H'
theorem call_isexcK (K : PySem.W.Frag) (hk : X.K = K := by rfl) : CallR X (.builtin "isinstance") (fun xs H Q => ∃ a C D b, xs = [.ref a, .ref D] ∧ H a = some (.ext (XAt a C)) ∧ ExcI K C ∧ PySem.W.kitOne K (.ref C) (.ref D) = some b ∧ Q (.bl b) H) := by subst hk; exact call_isexc
end
structure XT (K : PySem.W.Frag) (T : Addr) (q : Str) (H H' : Hp) : Prop where
  was : ∃ ps, H T = some (.tbl ps)
  tab : ∃ ps, H' T = some (.tbl ps) ∧ CTab H' ps q
  keep : ∀ b o, H b = some o → b ≠ T → H' b = some o
  mod : ∀ b xs, H b = none → kTup K b = some xs → H' b = none
section
variable {K : PySem.W.Frag} {T : Addr} {q : Str} {H H1 H2 : Hp}
theorem CTab.ext {ps : Array Value} (h : CTab H ps q) (x : ∀ b o, H b = some o → (∀ ps, o ≠ .tbl ps) → H1 b = some o) : CTab H1 ps q := ⟨h.1, fun p v e => by
  obtain ⟨c, rfl, hc⟩ := h.2 p v e
  exact ⟨c, rfl, x _ _ hc nofun⟩⟩
theorem XT.refl (h : ∃ ps, H T = some (.tbl ps) ∧ CTab H ps q) : XT K T q H H := ⟨let ⟨ps, e, _⟩ := h; ⟨ps, e⟩, h, fun _ _ e _ => e, fun _ _ e _ => e⟩
theorem XT.trans (x : XT K T q H H1) (y : XT K T q H1 H2) : XT K T q H H2 := ⟨x.was, y.tab, fun b o e n => y.keep b o (x.keep b o e n) n, fun b xs e k => y.mod b xs (x.mod b xs e k) k⟩
theorem XT.ext (x : XT K T q H H1) (y : Ext K H1 H2) : XT K T q H H2 := by
  obtain ⟨ps, e, c⟩ := x.tab
  exact ⟨x.was, ⟨ps, y.same _ _ e, c.ext fun b o h _ => y.same b o h⟩, fun b o e n => y.same _ _ (x.keep b o e n), fun b xs e k => y.mod b xs (x.mod b xs e k) k⟩
theorem XT.at (x : XT K T q H H1) {b : Addr} {o : HO} (h : H b = some o) (n : ∀ ps, o ≠ .tbl ps) : H1 b = some o := x.keep b o h fun z => by
  obtain ⟨ps, e⟩ := x.was
  rw [z, e] at h
  cases h
  exact n _ rfl
theorem XT.tup (x : XT K T q H H1) {a : Addr} {vs : List V} (h : tupQ K H a = some vs) : tupQ K H1 a = some vs := by
  unfold tupQ at h ⊢
  split at h
  · next e => rw [x.at e nofun]; exact h
  · cases h
  · next e => rw [x.mod a vs e h]; exact h
end
end L2
set_option Elab.async false
set_option linter.all false
set_option maxRecDepth 100000
set_option maxHeartbeats 4000000
namespace L2
open PySem PySem.Spec PyProof.Rows
section
variable {X : Cx}
end
section
variable {X : Cx}
end
mutual
theorem eqv_refl : ∀ (d : PyData), d.canLay0 = true → PyData.eqv d d = true
  | .none, _ => by simp [PyData.eqv]
  | .bool b, _ => by simp [PyData.eqv]
  | .int i, _ => by simp [PyData.eqv]
  | .str x, _ => by simp [PyData.eqv]
  | .list ds, h => by
    simp only [PyData.canLay0] at h
    simp only [PyData.eqv]
    exact eqvAll_refl ds h
  | .tuple ds, h => by
    simp only [PyData.canLay0] at h
    simp only [PyData.eqv]
    exact eqvAll_refl ds h
  | .dict _, h => by simp [PyData.canLay0] at h
theorem eqvAll_refl : ∀ (ds : List PyData), PyData.canLayAll0 ds = true → PyData.eqvAll ds ds = true
  | [], _ => by simp [PyData.eqvAll]
  | d :: ds, h => by
    simp only [PyData.canLayAll0, Bool.and_eq_true] at h
    simp only [PyData.eqvAll, Bool.and_eq_true]
    exact ⟨eqv_refl d h.1, eqvAll_refl ds h.2⟩
end
end L2
set_option Elab.async false
set_option linter.all false
set_option maxRecDepth 100000
set_option maxHeartbeats 4000000
namespace L2
open PySem PySem.Spec PyProof.Rows
section
variable {X : Cx} {o e value : Expr} {f : Str} {pos pos' tpos p : Pos} {ta tv te : TE}
theorem efld (he : JE X e ta) (hb : attributeBase e f X.env (eval e X.env) = eval e X.env := by rfl) : JE X (.Attribute e f pos) (tFld X.K ta f) := ⟨pe_fld he.h hb⟩
theorem sfld (ha : JE X o ta) (hv : JE X value tv) (hs : swapsWith value (some (.Attribute o f pos')) pos.line X.env = pure false := by rfl) : JS X (.Assign [.Attribute o f pos'] value pos) (sFld X.K ta tv f) := ⟨ps_fld ha.h hv.h hs⟩
end
structure FunD (K : PySem.W.Frag) (x qual : Str) (st : Stmt) (f : Addr) (fd : FuncData) : Prop where
  ex : ∃ (oc : Value) (od : Option Addr) (dV kV doc pm : Value) (an : Option Addr) (cdv ct : Value) (osl : Array (Option Value)),
    fd = PySem.W.fnOf x qual (defArgs st) (defBody st) (defScope st) dV kV doc pm an cdv ct ∧ K.lookup f = some ⟨oc, od, .func fd, osl⟩ ∧ PySem.W.codeIn K cdv qual = true
section
variable {P : Program} {w : World} {K : PySem.W.Frag} {mg : Str → Option Value} {base : Heap} {x qual : Str} {st : Stmt} {f : Addr} {fd : FuncData} {N ps : List Str} {k : Nat} {sp : Sp}
theorem FunD.okX (F : FunD K x qual st f fd) (S : FnScope N ps (defScope st)) (len : ∀ vs H Q E, sp vs H Q E → vs.length = ps.length)
    (hbody : ∀ (cdv : Value) (A : Around) (outer : List Env) (s : Shared) (H : Hp) (vs : List V) (Q : VK) (E : XK), Room k (A.deeper (envOfC qual (defScope st) s.heap.objs.size f cdv)) → sp vs H Q E →
      ∃ t, JB (cxOf (CXO P w) P w K mg base N qual (defScope st) f cdv A outer s H E) (defBody st) t ∧ t { nx := fun _ H' => Q .non H', rt := Q } (start N vs) H) : FnOk P w K mg base (CXO P w) (k + 1) f fd ps sp := by
  obtain ⟨oc, od, dV, kV, doc, pm, an, cdv, ct, osl, rfl, lk, hcd⟩ := F.ex
  refine fn_of lk hcd S len fun A outer s H vs Q E hr hsp => ?_
  obtain ⟨t, h, q⟩ := hbody cdv A outer s H vs Q E hr hsp
  exact ⟨t, h.h, q⟩
end
def tMakeQ (K : PySem.W.Frag) (C : Addr) (sp : Sp) (dvs : List V) (E : XK) (t : TA) : TE := fun σ H Q => t σ H fun vs H1 => ∀ x dx, new K H1 x → new K H1 dx → dx ≠ x →
  sp (.ref x :: (vs ++ dvs)) (upd (upd H1 dx (.own x)) x (.ins C dx [])) (fun v H2 => v = .non ∧ Q (.ref x) H2) E
structure MakerX (P : Program) (w : World) (K : PySem.W.Frag) (mg : Str → Option Value) (base : Heap) (x : Str) (k : Nat) (ps : List Str) (dvs : List V) (C : Addr) (sp : Sp) : Prop where
  ex : ∃ (f : Addr) (fd : FuncData) (ds : List Value), Mk K C f ∧ FnOk P w K mg base (CXO P w) k f fd ps sp ∧ Binds K fd ps ds ∧ Vals dvs ds ∧ mg x = some (.ref C)
section
variable {X : Cx} {CX : CXT} {k : Nat} {f C : Addr} {fd : FuncData} {ps : List Str} {sp : Sp} {dvs : List V} {ds : List Value} {E : XK} {y : Str} {p pos : Pos} {e : Expr} {es : List Expr} {t : TA}
theorem run_makeQ {pins : List (Addr × Obj)} {σ : St} {H : Hp} {s : Shared} {Q : VK} {us : List Value} {vs : List V} (M : Mk X.K C f) (F : FnOk X.prog X.w X.K X.mg X.base CX k f fd ps sp) (hr : Room (k + 1) X.A) (hb : Binds X.K fd ps ds) (hd : Vals dvs ds)
    (hx : Passes CX X E) (I : Inv X pins σ H s) (r : Vals vs us)
    (h : ∀ x dx, new X.K H x → new X.K H dx → dx ≠ x → sp (.ref x :: (vs ++ dvs)) (upd (upd H dx (.own x)) x (.ins C dx [])) (fun v H2 => v = .non ∧ Q (.ref x) H2) E) :
    wpAny (model X.prog X.w) X.A (call (.ref C) us) (EP X pins σ Q) X.xe s := by
  have I2 := Inv.made (C := C) I
  have hq := h (s.heap.objs.size + 1) s.heap.objs.size ⟨I.hok.fresh (Nat.le_succ _), I2.notMod upd_same⟩ I.new (Nat.ne_of_lt (Nat.lt_succ_self _))
  have r2 : Vals (V.ref (s.heap.objs.size + 1) :: (vs ++ dvs)) (Value.ref (s.heap.objs.size + 1) :: (us ++ ds)) := .cons rfl (r.append hd)
  have hl : (Value.ref (s.heap.objs.size + 1) :: us ++ ds).length = ps.length := by
    have e := r2.length
    rw [F.len _ _ _ _ hq] at e
    exact e.symm
  refine wpAny_call (make_map (f := f) I.kIn M.makes M.init (beq_iff_eq.mp M.fn) (codeAny_mono (F.run _ X.stack _ _ ⟨Value.ref (s.heap.objs.size + 1) :: us, []⟩ (Value.ref (s.heap.objs.size + 1) :: (us ++ ds)) _ _ E (hr.make C us [])
    (I2.env0.make C us []) (hb _ (Value.ref (s.heap.objs.size + 1) :: us) I2.kIn hl) r2 hq) fun r s' hq' => ?_))
  cases r with
  | error e => exact hx pins σ _ _ e s' I2 hq'
  | ok fl =>
    cases fl with
    | ret u =>
      obtain ⟨v, H', I3, rv, ev, q3⟩ := I2.after hq'
      subst ev
      exact ⟨rv, ⟨V.ref (s.heap.objs.size + 1), H', I3, rfl, q3⟩⟩
    | next => exact False.elim hq'
    | brk => exact False.elim hq'
    | cont => exact False.elim hq'
end
theorem Ext.made {K : PySem.W.Frag} {H : Hp} {x dx : Addr} {o o' : HO} (n : L2.new K H x) (m : L2.new K H dx) (ne : dx ≠ x) : Ext K H (upd (upd H dx o') x o) :=
  (Ext.new m).trans (Ext.new (new_upd.mpr ⟨ne.symm, n⟩))
structure KDict (P : Program) (w : World) (K : PySem.W.Frag) (a : Addr) (vs : List (Key × Value)) : Prop where
  of : ∀ h : Heap, K.In h → h.DictOf (mixKind P w) a vs
  ne : (a == sysModules) = false
section
variable {X : Cx} {a : Addr} {vs : List (Key × Value)} {o i : Expr} {to ti : TE} {pos : Pos}
end
section
variable {X : Cx}
end
section
variable {X : Cx}
end
end L2
set_option Elab.async false
set_option linter.all false
set_option maxRecDepth 100000
set_option maxHeartbeats 4000000
namespace HT
open PySem PySem.Spec PyProof.Rows
section
variable {prog : Program} {w : World} {A : Around} {E : Value → Shared → Prop} {s : Shared}
end
end HT
namespace L2
open PySem PySem.Spec PyProof.Rows
section
variable {X : Cx} {e : Expr} {te : TE} {pos : Pos}
end
end L2
set_option Elab.async false
set_option linter.all false
set_option maxRecDepth 100000
set_option maxHeartbeats 4000000
namespace L2
open PySem PySem.Spec PyProof.Rows
structure MethC (P : Program) (w : World) (K : PySem.W.Frag) (mg : Str → Option Value) (base : Heap) (C : Addr) (m : Str) (k : Nat) (ps : List Str) (dvs : List V) (sp : Sp) : Prop where
  ex : ∃ (f : Addr) (fd : FuncData) (ds : List Value), Meth K C m f ∧ FnOk P w K mg base CX0 k f fd ps sp ∧ Binds K fd ps ds ∧ Vals dvs ds
structure MethX (P : Program) (w : World) (K : PySem.W.Frag) (mg : Str → Option Value) (base : Heap) (C : Addr) (m : Str) (k : Nat) (ps : List Str) (dvs : List V) (sp : Sp) : Prop where
  ex : ∃ (f : Addr) (fd : FuncData) (ds : List Value), Meth K C m f ∧ FnOk P w K mg base (CXO P w) k f fd ps sp ∧ Binds K fd ps ds ∧ Vals dvs ds
structure Maker (P : Program) (w : World) (K : PySem.W.Frag) (mg : Str → Option Value) (base : Heap) (x : Str) (k : Nat) (ps : List Str) (dvs : List V) (C : Addr) (sp : Sp) : Prop where
  ex : ∃ (f : Addr) (fd : FuncData) (ds : List Value), Mk K C f ∧ FnOk P w K mg base CX0 k f fd ps sp ∧ Binds K fd ps ds ∧ Vals dvs ds ∧ mg x = some (.ref C)
section
variable {X : Cx} {k : Nat} {C : Addr} {ps : List Str} {sp : Sp} {dvs : List V} {E : XK} {m y : Str} {apos pos p : Pos} {o e value : Expr} {es : List Expr} {t : TA} {ta tv : TE} {pl : Sem Bool}
theorem emeth (M : MethC X.prog X.w X.K X.mg X.base C m k ps dvs sp) (c : Cls X.K C) (hr : Room k X.A) (ho : JE X o ta) (ha : JA X (e :: es) t)
    (hst : starEach (e :: es) X.env = (false, eval e X.env) :: starEach es X.env := by rfl) (hpl : (backTo pos (starEach es X.env)).any (·.1) = false := by rfl)
    (ht : eval (.Call (.Attribute o m apos) (e :: es) [] pos) X.env = (do
      let ov ← eval o X.env
      standAt apos.atName
      let (f, first) ← holding [ov] (getMethod ov m pl)
      callWith pos f first (backTo pos (starEach (e :: es) X.env)) (backToKw pos (keywordEach [] X.env))) := by rfl) :
    JE X (.Call (.Attribute o m apos) (e :: es) [] pos) (tMeth C m sp dvs E0 ta t) := ⟨by
  obtain ⟨f, fd, ds, hm, F, b, vd⟩ := M.ex
  exact pe_meth ho.h c hm F hr b vd pass0 ha.h hst hpl ht⟩
theorem emeth0 (M : MethC X.prog X.w X.K X.mg X.base C m k ps dvs sp) (c : Cls X.K C) (hr : Room k X.A) (ho : JE X o ta)
    (ht : eval (.Call (.Attribute o m apos) [] [] pos) X.env = (do
      let ov ← eval o X.env
      standAt apos.atName
      let (f, first) ← holding [ov] (getMethod ov m pl)
      callWith pos f first (backTo pos (starEach [] X.env)) (backToKw pos (keywordEach [] X.env))) := by rfl) :
    JE X (.Call (.Attribute o m apos) [] [] pos) (tMeth C m sp dvs E0 ta tNil) := ⟨by
  obtain ⟨f, fd, ds, hm, F, b, vd⟩ := M.ex
  exact pe_meth0 ho.h c hm F hr b vd pass0 ht⟩
theorem emethX (M : MethX X.prog X.w X.K X.mg X.base C m k ps dvs sp) (c : Cls X.K C) (hx : Passes (CXO X.prog X.w) X E) (hr : Room k X.A) (ho : JE X o ta) (ha : JA X (e :: es) t)
    (hst : starEach (e :: es) X.env = (false, eval e X.env) :: starEach es X.env := by rfl) (hpl : (backTo pos (starEach es X.env)).any (·.1) = false := by rfl)
    (ht : eval (.Call (.Attribute o m apos) (e :: es) [] pos) X.env = (do
      let ov ← eval o X.env
      standAt apos.atName
      let (f, first) ← holding [ov] (getMethod ov m pl)
      callWith pos f first (backTo pos (starEach (e :: es) X.env)) (backToKw pos (keywordEach [] X.env))) := by rfl) :
    JE X (.Call (.Attribute o m apos) (e :: es) [] pos) (tMeth C m sp dvs E ta t) := ⟨by
  obtain ⟨f, fd, ds, hm, F, b, vd⟩ := M.ex
  exact pe_meth ho.h c hm F hr b vd hx ha.h hst hpl ht⟩
theorem emake0 (M : Maker X.prog X.w X.K X.mg X.base y k ps dvs C sp) (hr : Room (k + 1) X.A) (hg : Gl X y)
    (hdb : (y == ("__debug__" : Str)) = false := by decide) : JE X (.Call (.Name y p) [] [] pos) (tMakeQ X.K C sp dvs E0 tNil) := ⟨by
  intro pins s σ H Q I h
  obtain ⟨f, fd, ds, M, F, b, vd, mm⟩ := M.ex
  refine wpAny_Call_Name_kw (ld_glob I hg mm ?_ hdb)
  exact PySem.W.callWith_K0 I.kIn M.kp (run_makeQ (us := []) M F hr b vd pass0 I .nil h)⟩
theorem sfldaug {op : Operator} {rd : V → V → Hp → VK → Prop} {f : Str} {tpos : Pos} (hop : InOp X op rd) (ha : JE X o ta) (hv : JE X value tv) : JS X (.AugAssign (.Attribute o f tpos) op value pos) (sFldAug X.K ta tv rd f) := ⟨ps_fldaug ha.h hv.h hop⟩
end
section
variable {P : Program} {w : World} {K : PySem.W.Frag} {mg : Str → Option Value} {base : Heap} {x qual : Str} {st : Stmt} {f : Addr} {fd : FuncData} {N ps : List Str} {k : Nat} {sp : Sp}
theorem FunD.okJ (F : FunD K x qual st f fd) (S : FnScope N ps (defScope st)) (len : ∀ vs H Q E, sp vs H Q E → vs.length = ps.length)
    (hbody : ∀ (cdv : Value) (A : Around) (outer : List Env) (s : Shared) (H : Hp) (vs : List V) (Q : VK) (E : XK), Room k (A.deeper (envOfC qual (defScope st) s.heap.objs.size f cdv)) → sp vs H Q E →
      ∃ t, JB (cxOf CX0 P w K mg base N qual (defScope st) f cdv A outer s H E).nox (defBody st) t ∧ t { nx := fun _ H' => Q .non H', rt := Q } (start N vs) H) : FnOk P w K mg base CX0 (k + 1) f fd ps sp := by
  obtain ⟨oc, od, dV, kV, doc, pm, an, cdv, ct, osl, rfl, lk, hcd⟩ := F.ex
  refine fn_of lk hcd S len fun A outer s H vs Q E hr hsp => ?_
  obtain ⟨t, h, q⟩ := hbody cdv A outer s H vs Q E hr hsp
  exact ⟨t, h.h.nox, q⟩
end
section
variable {X : Cx}
end
end L2
set_option Elab.async false
set_option linter.all false
set_option maxRecDepth 100000
set_option maxHeartbeats 4000000
namespace L2
open PySem PySem.Spec PyProof.Rows
section
variable {X : Cx}
theorem call_sortedL : CallR X (.builtin "sorted") (fun xs H Q => ∃ (a : Addr) (ns : List Int), xs = [.ref a] ∧ SqL X.K H a (ns.map V.int) ∧ ns.length < 64 ∧
    ∀ (D : Addr) (ks : List Int), L2.new X.K H D → ks.Pairwise (· ≤ ·) → ks.Perm ns → Q (.ref D) (upd H D (.lst (ks.map V.int)))) := by
  intro pins s σ H xs us Q I r h
  obtain ⟨a, ns, rfl, hx, few, q⟩ := h
  obtain ⟨u, rfl, ru⟩ := vals1 r
  cases ru
  obtain ⟨its, rv, ht, hz⟩ := I.list hx
  have lz : its.length = ns.length := by rw [← rv.length, List.length_map]
  refine sorted_ints ht.isList (vals_intsA rv) (by omega) fun out ks io pm up => ?_
  obtain ⟨m, g⟩ := sortedAll_at s.heap its out
  have lk : ks.length = ns.length := pm.length_eq
  have I3 : Inv X pins σ (upd H (s.heap.objs.size + 1) (.lst (ks.map V.int))) { s with heap := sortedAll s.heap its out } := I.laid (t' := s.toks) (o := .lst (ks.map V.int)) (fun b o z => sortedAll_old z) (Nat.le_succ _) ⟨by rw [List.length_map, lk]; exact Nat.le_trans (Nat.le_of_lt few) (by decide), out.toList, m, ints_vals io, by simpa [seqObj] using g⟩
  exact ⟨.ref _, _, I3, rfl, q _ ks ⟨I.hok.fresh (Nat.le_succ _), I3.notMod upd_same⟩ up pm⟩
def rNeE (K : PySem.W.Frag) : R2 := fun x y H Q => ∃ l b xs, x = .ref l ∧ y = .ref b ∧ SqL K H l xs ∧ SqL K H b [] ∧ Q (.bl (!xs.isEmpty)) H
end
section
variable {P : Program} {w : World} {A : Around} {E : Value → Shared → Prop} {s : Shared} {S : Addr} {vs : List (Key × Value)} {ep : Nat}
theorem extend_dict {R : Result → Shared → Prop} (calm : A.handled = none) (hsys : (S == sysModules) = false) (da : s.heap.DictAt (mixKind P w) S vs ep) (few : vs.length ≤ 1000) (D : Addr) (res : Value) (c₀ : Nat)
    (gD : s.heap.get? D = some { cls := .type "list", data := .seq #[] c₀ })
    (hR : ∀ h' tk acc' c', (∀ b o, b ≠ D → s.heap.get? b = some o → h'.get? b = some o) → h'.get? D = some { cls := .type "list", dict := none, data := .seq acc' c', slots := #[] } →
      ItemsOf (fun i v => ∃ k x, vs[i]? = some (k, x) ∧ (mixKind P w).is k v = true) acc' vs.length → R (.ok (.ret res)) { s with heap := h', toks := tk }) :
    wpAny (model P w) A.in1 (Builtin.List.listExtendWith (.ref D) (.ref S) res)
      (fun fin s' => match fin with | .done f => R (.ok f) s' | .again c' => c'.quiet = true ∧ codeAny (model P w) A c' R s') (fun e s' => R (.error e) s') s := by
  obtain ⟨o, es, g, ex, d⟩ := id da
  have nDS : D ≠ S := fun e => by
    rw [e, g] at gD
    have := Option.some.inj gD
    rw [this] at d
    cases d.1
  have ltD : D < s.heap.objs.size := Heap.lt_size gD
  have ltS : S < s.heap.objs.size := Heap.lt_size g
  have line : vs.length ≤ sizeLine := Nat.le_trans few (by decide)
  have ty1 : Shared.TypeIs s (.ref S) "dict" := da.dictOf.typeIs
  have apart : Builtin.List.listSameRef (.ref D) (.ref S) = false := by
    simp only [Builtin.List.listSameRef, beq_eq_false_iff_ne]
    exact nDS
  unfold Builtin.List.listExtendWith
  refine wpAny_bind (wpAny_typeOf ty1 ?_)
  rw [if_neg (by rw [apart]; decide)]
  refine wpAny_bind (wpAny_pyIter_dict hsys da ?_)
  have da2 : (s.heap.push { cls := .type "dict_keyiterator", data := .fields #[.ref S, .int 0 0, .int vs.length 0, .int ep 0] }).DictAt (mixKind P w) S vs ep := da.push _
  have gD2 : (s.heap.push { cls := .type "dict_keyiterator", data := .fields #[.ref S, .int 0 0, .int vs.length 0, .int ep 0] }).get? D = some { cls := .type "list", data := .seq #[] c₀ } := Heap.get?_push_of_some _ gD
  have gI : (s.heap.push { cls := .type "dict_keyiterator", data := .fields #[.ref S, .int 0 0, .int vs.length 0, .int ep 0] }).IsKeyIter s.heap.objs.size S 0 vs.length ep := ⟨_, Heap.get?_push_size _ rfl, rfl, rfl⟩
  have ty2 : Shared.TypeIs { s with heap := s.heap.push { cls := .type "dict_keyiterator", data := .fields #[.ref S, .int 0 0, .int vs.length 0, .int ep 0] } } (.ref S) "dict" := da2.dictOf.typeIs
  have kp2 : ∀ b o, s.heap.get? b = some o → (s.heap.push { cls := .type "dict_keyiterator", data := .fields #[.ref S, .int 0 0, .int vs.length 0, .int ep 0] }).get? b = some o := fun b o e => Heap.get?_push_of_some _ e
  show wpAny _ _ _ _ _ { s with heap := s.heap.push { cls := .type "dict_keyiterator", data := .fields #[.ref S, .int 0 0, .int vs.length 0, .int ep 0] } }
  generalize (s.heap.push { cls := .type "dict_keyiterator", data := .fields #[.ref S, .int 0 0, .int vs.length 0, .int ep 0] }) = h2 at da2 gD2 gI ty2 kp2 ⊢
  refine wpAny_bind (wpAny_holding ?_)
  unfold Builtin.List.listLengthHint
  refine wpAny_bind (wpAny_specialOf (name := Str.ofString "__len__") ty2 PySem.F.slot_dict_len.lookup ?_)
  wp_delta
  refine wpAny_bind (wpAny_isInstance (T := "dict") (b := true) ty2 (by rw [isSubtype_type]; kernel_rfl) ?_)
  show wpAny _ _ (typeOf (Value.ref S) >>= _) _ _ _
  refine wpAny_bind (wpAny_typeOf ty2 ?_)
  refine wpAny_pure ?_
  rw [if_pos (by decide)]
  refine wpAny_bind (wpAny_rule ?_)
  have nDI : D ≠ s.heap.objs.size := Nat.ne_of_lt ltD
  refine wpAny_bind ?_
  show wpAny _ _ (updateSeq D (·.push .none) >>= fun _ => updateSeq D (·.pop)) _ _ _
  refine wpAny_bind (wpAny_updateSeq gD2 rfl ?_)
  have gD3 := Heap.get?_update_self (Obj.mapSeq (·.push Value.none)) gD2 rfl
  refine wpAny_updateSeq gD3 rfl ?_
  have gD4 := Heap.get?_update_self (Obj.mapSeq (·.pop)) gD3 rfl
  have other : ∀ b o, b ≠ D → h2.get? b = some o → ((h2.update D (Obj.mapSeq (·.push Value.none))).update D (Obj.mapSeq (·.pop))).get? b = some o :=
    fun b o hb e => (Heap.get?_update_other _ _ (Ne.symm hb)).trans ((Heap.get?_update_other _ _ (Ne.symm hb)).trans e)
  have neI : S ≠ s.heap.objs.size := Nat.ne_of_lt ltS
  refine wpAny_pure ⟨plainId_quiet PySem.F.plain_extend_loop _, codeAny_extend_loopS ((Walks.dictKeys (knd := mixKind P w) (A := A.in1) (by simpa using calm) s.heap.objs.size S neI vs ep).toS) line _ (by simp only [List.mem_cons, List.not_mem_nil, or_false, not_or]; exact ⟨nDI, nDS⟩) _ vs.length 0 _ _ _ rfl (Nat.zero_le _) ⟨gI.at fun o e => other _ o (Ne.symm nDI) e, da2.at' fun o e => other _ o (Ne.symm nDS) e⟩ gD4 (ItemsOf.nil _) fun s3 acc c mv gD5 its => ?_⟩
  rw [Moved.eq_with mv]
  refine hR s3.heap s3.toks acc c (fun b ob hb e => ?_) gD5 its
  refine mv.heap b ob (fun z => ?_) (other b ob hb (kp2 b ob e))
  rcases List.mem_cons.mp z with z | z
  · exact hb z
  · have zi : b = s.heap.objs.size := by simpa using z
    subst zi
    exact Nat.lt_irrefl _ (Heap.lt_size e)
theorem list_of_dict {Q : Value → Shared → Prop} (calm : A.handled = none) (hsys : (S == sysModules) = false) (da : s.heap.DictAt (mixKind P w) S vs ep) (few : vs.length ≤ 1000)
    (hQ : ∀ h' tk acc' c', (∀ b o, s.heap.get? b = some o → h'.get? b = some o) → h'.get? s.heap.objs.size = some { cls := .type "list", dict := none, data := .seq acc' c', slots := #[] } →
      ItemsOf (fun i v => ∃ k x, vs[i]? = some (k, x) ∧ (mixKind P w).is k v = true) acc' vs.length → Q (.ref s.heap.objs.size) { s with heap := h', toks := tk }) :
    wpAny (model P w) A (call (.type "list") [.ref S]) Q E s := by
  refine callType_codes (Q₁ := fun obj s₁ => obj = .ref s.heap.objs.size ∧ s₁ = { s with heap := s.heap.push { cls := .type "list", data := .seq #[] } }) F.called_list (F.typeCall_list_1 _) F.entry_list_init
    (code_list_new _ ⟨rfl, rfl⟩) fun obj s₁ h₁ => ?_
  obtain ⟨rfl, rfl⟩ := h₁
  have hS : (s.heap.push { cls := .type "list", data := .seq #[] }).get? s.heap.objs.size = some { cls := .type "list", data := .seq #[] } := Heap.get?_push_size _ rfl
  have ltS : S < s.heap.objs.size := let ⟨_, _, g, _⟩ := da; Heap.lt_size g
  refine ⟨⟨_, hS, rfl⟩, F.args_list_init_2 _ _, ?_⟩
  show wpAny _ _ (do let old ← Builtin.List.listItems (.ref s.heap.objs.size); Builtin.List.listUpdate (.ref s.heap.objs.size) (fun _ => #[]); letGo old.toList.reverse; Builtin.List.listExtendWith (.ref s.heap.objs.size) (.ref S) .none) _ _ _
  refine wpAny_bind ?_
  unfold Builtin.List.listItems
  refine wpAny_bind (wpAny_seqItems hS rfl (wpAny_pure ?_))
  show wpAny _ _ (updateSeq s.heap.objs.size (fun _ => #[]) >>= fun _ => letGo (#[] : Array Value).toList.reverse >>= fun _ => Builtin.List.listExtendWith (.ref s.heap.objs.size) (.ref S) .none) _ _ _
  refine wpAny_bind (wpAny_updateSeq hS rfl ?_)
  have hS₂ := Heap.get?_update_self (Obj.mapSeq (fun _ => (#[] : Array Value))) hS rfl
  have oth : ∀ b o, b ≠ s.heap.objs.size → (s.heap.push { cls := .type "list", data := .seq #[] }).get? b = some o → ((s.heap.push { cls := .type "list", data := .seq #[] }).update s.heap.objs.size (Obj.mapSeq (fun _ => (#[] : Array Value)))).get? b = some o :=
    fun b o hb e => (Heap.get?_update_other _ _ (Ne.symm hb)).trans e
  refine wpAny_bind (wpAny_letGo ?_)
  refine extend_dict (A := A.in1) (by simpa using calm) hsys ((da.push _).at' fun o e => oth S o (Nat.ne_of_lt ltS) e) few _ .none _ hS₂ fun h' tk acc' c' hk hS' hacc => ?_
  exact ⟨rfl, hQ h' tk acc' c' (fun b o e => hk b o (Nat.ne_of_lt (Heap.lt_size e)) (oth b o (Nat.ne_of_lt (Heap.lt_size e)) (Heap.get?_push_of_some _ e))) hS' hacc⟩
end
section
variable {X : Cx}
theorem call_listD (hc : X.calm = true) : CallR X (.type "list") (fun xs H Q => ∃ (a : Addr) (kvs : List (Key × V)), xs = [.ref a] ∧ H a = some (.dK kvs) ∧ kvs.length ≤ 1000 ∧ ∀ D, L2.new X.K H D → Q (.ref D) (upd H D (.lst (kvs.map fun q => kV q.1)))) := by
  intro pins s σ H xs us Q I r h
  obtain ⟨a, kvs, rfl, e, few, q⟩ := h
  obtain ⟨u, rfl, ru⟩ := vals1 r
  cases ru
  obtain ⟨z, hsys, vs, rel, dd⟩ := dk_of I.hok e
  obtain ⟨ep, da⟩ := dd.dictAt
  have lv : kvs.length = vs.length := rel.length
  refine list_of_dict (I.ok.hd hc) hsys da (by omega) fun h' tk acc c hk hS hacc => ?_
  have vals : ∀ (l : List Value) (ks : List (Key × V)), l.length = ks.length → (∀ (i : Nat) (v : Value), l[i]? = some v → ∃ p, ks[i]? = some p ∧ RelV (kV p.1) v) → Vals (ks.map fun q => kV q.1) l := by
    intro l
    induction l with
    | nil =>
      intro ks hl _
      cases ks with
      | nil => exact .nil
      | cons _ _ => simp at hl
    | cons x r ih =>
      intro ks hl hh
      cases ks with
      | nil => simp at hl
      | cons p ks =>
        obtain ⟨p', e', rp⟩ := hh 0 x rfl
        cases e'
        exact .cons rp (ih ks (by simpa using hl) fun i v hi => hh (i + 1) v hi)
  have vv : Vals (kvs.map fun q => kV q.1) acc.toList := vals _ _ (by rw [Array.length_toList, hacc.1]; exact lv.symm) fun i v hi => by
    rw [Array.getElem?_toList] at hi
    obtain ⟨k, x, e1, e2⟩ := hacc.2 i v hi
    have lt : i < kvs.length := by rw [lv]; exact (List.getElem?_eq_some_iff.1 e1).1
    obtain ⟨v', e3⟩ := kv_at rel (List.getElem?_eq_getElem lt)
    rw [e3] at e1
    cases e1
    exact ⟨_, List.getElem?_eq_getElem lt, is_kV e2⟩
  have I3 : Inv X pins σ (upd H s.heap.objs.size (.lst (kvs.map fun q => kV q.1))) { s with heap := h', toks := tk } := I.laid (t' := tk) hk (Nat.le_refl _) ⟨by rw [List.length_map]; exact Nat.le_trans few (by decide), acc.toList, c, vv, by simpa using hS⟩
  exact ⟨.ref _, _, I3, rfl, q _ ⟨I.hok.fresh (Nat.le_refl _), I3.notMod upd_same⟩⟩
def Thaw (N : Addr → Prop) (R : Hp → Prop) (H : Hp) : Prop := ∃ a od kvs, N a ∧ H a = some (.frz od (.dK kvs)) ∧ R (upd H a (.dK kvs))
def thawE (N : Addr → Prop) (D : Ends) : Ends := { nx := fun σ H => Thaw N (D.nx σ) H, rt := fun v H => Thaw N (D.rt v) H, bk := fun σ H => Thaw N (D.bk σ) H, ct := fun σ H => Thaw N (D.ct σ) H }
def iDict (N : Addr → Prop) (td : TE) : TI := fun σ H R => td σ H fun x H1 => ∃ a kvs, x = .ref a ∧ H1 a = some (.dK kvs) ∧ (N a → ∀ od, R (Itd a od kvs) (upd H1 a (.frz od (.dK kvs))))
def tForD (td : TE) (g : TG) (tb : TS) : TS := fun D σ H => ∀ N : Addr → Prop, td σ H fun x H1 => ∃ a kvs, x = .ref a ∧ H1 a = some (.dK kvs) ∧ (N a → ∀ od, Loop (Itd a od kvs) g tb (thawE N D) σ (upd H1 a (.frz od (.dK kvs))))
theorem idict {tg l : Expr} {td : TE} (hl : JE X l td) : JI X tg l (iDict (fun a => ∀ o u, X.H₀ a ≠ some (.frz o u)) td) := ⟨by
  intro pins s σ H R I h
  refine thn (hl.h pins s σ H _ I h) fun v s1 ⟨x, H1, I1, r1, q1⟩ => ?_
  obtain ⟨a, kvs, rfl, e, q⟩ := q1
  cases r1
  obtain ⟨z, hsys, vs, rel, dd⟩ := dk_of I1.hok e
  obtain ⟨ep, da⟩ := dd.dictAt
  obtain ⟨od, es, god, r1, hdat, r⟩ := id da
  refine wpAny_pyIter_dict hsys da ?_
  have If := I1.freeze e god
  have I2 : Inv X pins σ (upd H1 a (.frz od (.dK kvs))) { s1 with heap := s1.heap.push { cls := .type "dict_keyiterator", data := .fields #[.ref a, .int 0 0, .int vs.length 0, .int ep 0] } } := If.kept (t' := s1.toks) fun b o e => Heap.get?_push_of_some _ e
  refine ⟨s1.heap.objs.size, [s1.heap.objs.size], _, _, _, rfl, I2, turn_dict hdat, ⟨_, Heap.get?_push_size _ rfl, rfl, by rw [rel.length]; rfl⟩, fun b hb => ?_, q (I1.notFrz e) od⟩
  have e : b = s1.heap.objs.size := by simpa using hb
  subst e
  exact If.fpOk (Nat.le_refl _) (If.hok.fresh (Nat.le_refl _))⟩
theorem sforD {tg l : Expr} {td : TE} {g : TG} {u : TS} {sts : List Stmt} {pos : Pos} (hp : PassesOwn (model X.prog X.w) X.A X.env X.xe) (hc : X.calm = true) (hl : JE X l td) (hg : JG X tg g) (hb : JB X sts u)
    (hs : ∀ x, foldedSetIterable l X.env x = pure x := by intro _; rfl) : JS X (.For tg l sts [] pos) (tForD td g u) := ⟨by
  intro pins s σ H D I h
  refine thn ((sfor (pos := pos) hp hc (idict hl) hg hb hs).h pins s σ H (thawE (fun a => ∀ o u, X.H₀ a ≠ some (.frz o u)) D) I (h _)) fun f s' q => ?_
  cases f with
  | next =>
    obtain ⟨σ', H', I', a, od, kvs, n, e, q⟩ := q
    exact ⟨σ', _, I'.thaw e n, q⟩
  | ret v =>
    obtain ⟨σ', v', H', I', r, a, od, kvs, n, e, q⟩ := q
    exact ⟨σ', v', _, I'.thaw e n, r, q⟩
  | brk =>
    obtain ⟨σ', H', I', a, od, kvs, n, e, q⟩ := q
    exact ⟨σ', _, I'.thaw e n, q⟩
  | cont =>
    obtain ⟨σ', H', I', a, od, kvs, n, e, q⟩ := q
    exact ⟨σ', _, I'.thaw e n, q⟩⟩
theorem loop_dict {a : Addr} {od : Obj} {kvs : List (Key × V)} {g : TG} {tb : TS} {D : Ends} {σ : St} {H : Hp} (Pv : Nat → St → Hp → Prop) (h0 : Pv 0 σ H) (hl : ∀ i σ H, i ≤ kvs.length → Pv i σ H → H a = some (.frz od (.dK kvs)))
    (turn : ∀ i p σ H, kvs[i]? = some p → Pv i σ H → g (kV p.1) σ H fun σ2 H2 => tb { D with nx := Pv (i + 1), ct := Pv (i + 1), bk := D.nx } σ2 H2) (fin : ∀ σ H, Pv kvs.length σ H → D.nx σ H) : Loop (Itd a od kvs) g tb D σ H := by
  refine ⟨fun i m σ H => i + m = kvs.length ∧ Pv i σ H, ⟨kvs.length, by omega, h0⟩, fun i m σ H ⟨e, p⟩ => ?_⟩
  have hf := hl i σ H (by omega) p
  by_cases z : i < kvs.length
  · refine .inr ⟨⟨hf, z⟩, Pv (i + 1), fun σ' H' p' => ⟨m - 1, by omega, by omega, p'⟩, ?_⟩
    rintro x H' ⟨rfl, p', ep, rfl⟩
    exact turn i p' σ H' ep p
  · have : i = kvs.length := by omega
    subst this
    exact .inl ⟨⟨hf, Nat.le_refl _⟩, fin σ H p⟩
end
end L2
set_option Elab.async false
set_option linter.all false
set_option maxRecDepth 100000
set_option maxHeartbeats 4000000
namespace L2
open PySem PySem.Spec PyProof.Rows
section
variable {X : Cx}
theorem call_isexcT (K : PySem.W.Frag) (hk : X.K = K := by rfl) : CallR X (.builtin "isinstance") (fun xs H Q => ∃ a C n b, xs = [.ref a, .ty n] ∧ H a = some (.ext (XAt a C)) ∧ ExcI K C ∧ PySem.W.kitOne K (.ref C) (.type n) = some b ∧ Q (.bl b) H) := by
  subst hk
  rintro pins s σ H xs us Q I r ⟨a, C, D, b, rfl, hx, F, e, q⟩
  obtain ⟨u, w', rfl, ru, rw'⟩ := vals2 r
  cases (show w' = Value.type D from rw')
  cases (show u = Value.ref a from ru)
  exact PySem.W.kia_one (kitx_exc F) I.kIn (I.hok a _ hx).1 e (fun z => nomatch z) fun tk => ⟨.bl b, H, I.tok tk, rfl, q⟩
theorem bt_ValueError : bootBuiltins "ValueError" = some (.type "ValueError") := by decide +kernel
end
end L2
set_option Elab.async false
set_option linter.all false
set_option maxRecDepth 100000
set_option maxHeartbeats 4000000
namespace K82
open PySem L2
local macro_rules | `(tactic| walk_at "rd") => `(tactic| simp only [tSeq, tNext, tIfS, tAsg, gName, gSub, tRet, tRetN, tDrop, tVar, tC, tOp, tUn, rI0, rI, rU, tTest, tB, tAndV, tOrV, tNotV, tAnd, tOr, tNot, tIf, tChain, tCB, tCons, tNil, tLst, tTup, tCallC, List.getElem?_cons_zero, List.getElem?_cons_succ, List.set_cons_zero, List.set_cons_succ, Option.some.injEq, V.int.injEq, V.bl.injEq, V.ref.injEq, V.ty.injEq, V.str.injEq, List.cons.injEq, exists_eq_left', exists_eq_left, exists_and_left, and_true, true_and, and_assoc, cxK, rIxF, rSetL, rEq, rNe, scal, HO.lst.injEq, HO.tup.injEq, upd_none, ixN_10, ixN_20, ixN_21, ixN_30, ixN_31, ixN_32, upd_same, seqAt_updL, seqAt_updT, atI_0, atI_1, atI_2, atI_3, decide_eq_true_eq, L2.start, List.map_cons, List.map_nil, List.length_cons, List.length_nil, Nat.reduceAdd, Nat.reduceSub, List.replicate_succ, List.replicate_zero, List.cons_append, List.nil_append, List.append_nil, tFor_rng1, tFor_rng2, tFor_list, tFor_tup, CDv, CMul, CPow, sizeLine_eq, Int.reduceLE, Int.reduceLT, Int.reducePow, Int.reduceToNat, Int.reduceAdd, Int.reduceSub, Int.reduceMul, Int.reduceNeg, Nat.reduceLeDiff, Nat.reducePow, Nat.reduceLT, Int.reduceEq, true_or, or_true, ite_true, ite_false, if_true, if_false, Bool.not_true, Bool.not_false, Bool.false_eq_true, decide_true, decide_false, rIxQ, seqQ_updL, seqQ_updT, tupQ_updT, tSl, tNoPart, tPart, rSlQ, rSlTX, rCatQ, tTupQ, tLstQ, new_upd, tNever, rEqD, rInQ, gTupQ, gCons, gNil, tBM, rAppend, tMakeQ, sFld, tFld, sFldAug, tMeth, tDNewQ, tFor_list, rSlS, tLc_zipS, tLcD, tBM0, rExtend, tLc_rng1, tLc_list, tLc_tup, pick_nil, pick_own, pick_cap, join_some, tYes, tyV, tDGet, rIxS, rJoin, sDPut, rNeE, tTry, Ends.gone, tRaise, cxN, tCall])
local macro_rules | `(tactic| walk_at "rn") => `(tactic| simp only [tSeq, tNext, tIfS, tAsg, gName, gSub, tRet, tRetN, tDrop, tVar, tC, tOp, tUn, rI0, rI, rU, tTest, tB, tAndV, tOrV, tNotV, tAnd, tOr, tNot, tIf, tChain, tCB, tCons, tNil, tLst, tTup, tCallC, List.getElem?_cons_zero, List.getElem?_cons_succ, List.set_cons_zero, List.set_cons_succ, Option.some.injEq, V.int.injEq, V.bl.injEq, V.ref.injEq, V.ty.injEq, V.str.injEq, List.cons.injEq, exists_eq_left', exists_eq_left, exists_and_left, and_true, true_and, and_assoc, cxK, rIxF, rSetL, rEq, rNe, scal, HO.lst.injEq, HO.tup.injEq, upd_none, ixN_10, ixN_20, ixN_21, ixN_30, ixN_31, ixN_32, upd_same, seqAt_updL, seqAt_updT, atI_0, atI_1, atI_2, atI_3, decide_eq_true_eq, L2.start, List.map_cons, List.map_nil, List.length_cons, List.length_nil, Nat.reduceAdd, Nat.reduceSub, List.replicate_succ, List.replicate_zero, List.cons_append, List.nil_append, List.append_nil, tFor_rng1, tFor_rng2, tFor_list, tFor_tup, CDv, CMul, CPow, sizeLine_eq, Int.reduceLE, Int.reduceLT, Int.reducePow, Int.reduceToNat, Int.reduceAdd, Int.reduceSub, Int.reduceMul, Int.reduceNeg, Nat.reduceLeDiff, Nat.reducePow, Nat.reduceLT, Int.reduceEq, true_or, or_true, ite_true, ite_false, if_true, if_false, Bool.not_true, Bool.not_false, Bool.false_eq_true, decide_true, decide_false, rIxQ, seqQ_updL, seqQ_updT, tupQ_updT, tSl, tNoPart, tPart, rSlQ, rSlTX, rCatQ, tTupQ, tLstQ, tNever, rEqD, rInQ, gTupQ, gCons, gNil, tBM, rAppend, tMakeQ, sFld, tFld, sFldAug, tMeth, tDNewQ, tFor_list, rSlS, tLc_zipS, tLcD, tBM0, rExtend, tLc_rng1, tLc_list, tLc_tup, pick_nil, pick_own, pick_cap, join_some, tYes, tyV, tDGet, rIxS, rJoin, sDPut, rNeE, tTry, Ends.gone, tRaise, cxN, tCall])
def top (i : Nat) : Stmt := PySem.Challenge.pw_notefall_k82_shelves_cut.main.body.getD i (.Pass ⟨0, 0, 0, 0⟩)
abbrev s_is_number : Stmt := top 5
abbrev s_is_whole : Stmt := top 6
abbrev s_signs_of : Stmt := top 9
abbrev s_Shelf___init__ : Stmt := inClass (top 10) 0
abbrev s_Shelf_write : Stmt := inClass (top 10) 1
abbrev s_Shelf_line : Stmt := inClass (top 10) 2
abbrev s_Shelf_blot : Stmt := inClass (top 10) 3
abbrev s_Shelf_put_down : Stmt := inClass (top 10) 4
abbrev s_Shelf_carry_out : Stmt := inClass (top 10) 5
abbrev s_Shelf_page : Stmt := inClass (top 10) 6
abbrev s_Shelf_places : Stmt := inClass (top 10) 7
abbrev s_Shelf_journal : Stmt := inClass (top 10) 8
abbrev s_Shelf_log : Stmt := inClass (top 10) 9
abbrev s_Shelf_after : Stmt := inClass (top 10) 10
abbrev s__law_cell_at : Stmt := top 12
abbrev s__law_digit : Stmt := top 13
abbrev s__law_alike : Stmt := top 14
abbrev s__law_text : Stmt := top 15
abbrev s__law_write : Stmt := top 16
abbrev s__law_put : Stmt := top 17
abbrev s__law_put_down : Stmt := top 18
abbrev s__law_same : Stmt := top 19
abbrev s__law_most : Stmt := top 20
abbrev s__law_cut : Stmt := top 21
abbrev s__law_where : Stmt := top 22
abbrev s__law_refused : Stmt := top 23
abbrev s__law_no_cuts : Stmt := top 24
abbrev s__law_holds : Stmt := top 25
abbrev s_law : Stmt := top 26
structure XP (K : PySem.W.Frag) (C cF cC : Addr) : Prop where
  x : Exc K C
  i : ExcI K C
  m : PySem.W.exmOne K (.ref C) (.ref cF) = some true
  k0 : PySem.W.kitOne K (.ref C) (.ref C) = some true
  k1 : PySem.W.kitOne K (.ref C) (.type "ValueError") = some true
  k2 : PySem.W.kitOne K (.ref C) (.ref cC) = some false
structure B (K : PySem.W.Frag) (mg : Str → Option Value) (cF cN cC : Addr) (tP : Tok) : Prop where
  len : mg "len" = none
  isinstance : mg "isinstance" = none
  int : mg "int" = none
  bool : mg "bool" = none
  max : mg "max" = none
  dict : mg "dict" = none
  list : mg "list" = none
  sorted : mg "sorted" = none
  str : mg "str" = none
  tuple : mg "tuple" = none
  range : mg "range" = none
  min : mg "min" = none
  all : mg "all" = none
  zip : mg "zip" = none
  ValueError : mg "ValueError" = none
  MOST_PLACE : mg "MOST_PLACE" = some (.int 1000000 tP)
  FallError : mg "FallError" = some (.ref cF)
  NoPlace : mg "NoPlace" = some (.ref cN)
  NoCut : mg "NoCut" = some (.ref cC)
  xp : XP K cC cF cN
section
variable {K : PySem.W.Frag} {mg : Str → Option Value} {cF cN cC : Addr} {tP : Tok}
theorem B.MOST_PLACE_is (_ : B K mg cF cN cC tP) : RelV (.int 1000000) (.int 1000000 tP) := ⟨tP, rfl⟩
theorem B.NoPlace_is (_ : B K mg cF cN cC tP) : RelV (.ref cN) (.ref cN) := rfl
theorem B.NoCut_is (_ : B K mg cF cN cC tP) : RelV (.ref cC) (.ref cC) := rfl
theorem B.x_NoCut (b : B K mg cF cN cC tP) : Exc K cC := b.xp.x
end
inductive Ent where
  | page (p : Int) (t : Str) | line (t : Str) | blot
def Ent.v : Ent → List V
  | .page p t => [.str "page", .int p, .str t]
  | .line t => [.str "line", .str t]
  | .blot => [.str "blot"]
def Ent.signs : Ent → Str
  | .page _ t => t
  | .line t => t ++ "\n"
  | .blot => ""
def Ent.small : Ent → Prop
  | .page _ t => t.length ≤ 100
  | .line t => t.length ≤ 100
  | .blot => True
theorem w1 : ¬ (("line" : Str) = "page") := by decide +kernel
theorem w2 : ¬ (("blot" : Str) = "page") := by decide +kernel
theorem w3 : ¬ (("blot" : Str) = "line") := by decide +kernel
theorem w4 : ¬ (("page" : Str) = "blot") := by decide +kernel
theorem w5 : ¬ (("line" : Str) = "blot") := by decide +kernel
theorem w6 : ¬ (("page" : Str) = "line") := by decide +kernel
section
variable {P : Program} {w : World} {K : PySem.W.Frag} {mg : Str → Option Value} {base : Heap}
def NumQ (K : PySem.W.Frag) (H : Hp) (v : V) (b : Bool) : Prop := ∃ ty b1 b2, TyQ K H v ty ∧ PySem.W.kitOne K ty (.type "int") = some b1 ∧ PySem.W.kitOne K ty (.type "bool") = some b2 ∧ b = (b1 && !b2)
theorem NumQ.int {H : Hp} {i : Int} : NumQ K H (.int i) true := ⟨_, true, false, .inl (.int i), rfl, rfl, rfl⟩
theorem NumQ.bl {H : Hp} {b : Bool} : NumQ K H (.bl b) false := ⟨_, true, true, .inl (.bl b), rfl, rfl, rfl⟩
theorem NumQ.non {H : Hp} : NumQ K H .non false := ⟨_, false, false, .inl .non, rfl, rfl, rfl⟩
theorem NumQ.str {H : Hp} {s : Str} : NumQ K H (.str s) false := ⟨_, false, false, .inl (.str s), rfl, rfl, rfl⟩
theorem NumQ.lst {H : Hp} {a : Addr} {xs : List V} (h : H a = some (.lst xs)) : NumQ K H (.ref a) false := ⟨_, false, false, .inl (.lst h), rfl, rfl, rfl⟩
def spNumI (K : PySem.W.Frag) : Sp := fun vs H Q _ => ∃ v b, vs = [v] ∧ NumQ K H v b ∧ Q (.bl b) H
def spWholeI (K : PySem.W.Frag) : Sp := fun vs H Q _ => ∃ v lo hi, vs = [v, .int lo, .int hi] ∧ ((∃ i, v = .int i ∧ Q (.bl (decide (lo ≤ i ∧ i ≤ hi))) H) ∨ (NumQ K H v false ∧ Q (.bl false) H))
def spSigns (K : PySem.W.Frag) : Sp := fun vs H Q _ => ∃ a e, vs = [.ref a] ∧ tupQ K H a = some (Ent.v e) ∧ e.small ∧ Q (.str e.signs) H
theorem sc_is_number : FnScope ["thing"] ["thing"] (defScope s_is_number) := ⟨rfl, rfl, rfl, by decide +kernel, rfl, by decide +kernel, by decide +kernel⟩
theorem ok_is_number {f : Addr} {fd : FuncData} (F : Fun K "is_number" "is_number" s_is_number f fd) {cF cN cC : Addr} {tP : Tok} (B : B K mg cF cN cC tP) : FnOk P w K mg base CX0 1 f fd ["thing"] (spNumI K) := by
  refine F.okJ sc_is_number (fun vs H Q E h => ?_) (fun cdv A outer s H vs Q E hr h => ?_)
  · obtain ⟨v, b, rfl, _⟩ := h
    rfl
  obtain ⟨v, b, rfl, ⟨ty, b1, b2, ht, k1, k2, rfl⟩, q⟩ := h
  refine ⟨_, (bone (sret (eand (ecallB call_isinstQ rfl B.isinstance bt_isinstance (acons (ev 0) (acons (etyp rfl B.int bt_int) anil))) (eone (enot (ecallB call_isinstQ rfl B.isinstance bt_isinstance (acons (ev 0) (acons (etyp rfl B.bool bt_bool) anil)))))))), ?_⟩
  try walk_at "rn"
  refine ⟨_, ht, _, k1, ?_⟩
  cases b1 with
  | false => exact q
  | true => exact ⟨_, ht, _, k2, q⟩
theorem sc_is_whole : FnScope ["thing", "low", "high"] ["thing", "low", "high"] (defScope s_is_whole) := ⟨rfl, rfl, rfl, by decide +kernel, rfl, by decide +kernel, by decide +kernel⟩
theorem ok_is_whole {f : Addr} {fd : FuncData} (F : Fun K "is_whole" "is_whole" s_is_whole f fd) {cF cN cC : Addr} {tP : Tok} (B : B K mg cF cN cC tP) (C_is_number : Callee P w K mg base "is_number" 1 ["thing"] (spNumI K)) : FnOk P w K mg base CX0 2 f fd ["thing", "low", "high"] (spWholeI K) := by
  refine F.okJ sc_is_whole (fun vs H Q E h => ?_) (fun cdv A outer s H vs Q E hr h => ?_)
  · obtain ⟨v, lo, hi, rfl, _⟩ := h
    rfl
  obtain ⟨v, lo, hi, rfl, h⟩ := h
  refine ⟨_, (bone (sret (eand (ecall C_is_number (hr.mono (by decide)) rfl (acons (ev 0) anil)) (eone (echain op_le op_le (ev 1) (ev 0) (ev 2)))))), ?_⟩
  try walk_at "rn"
  rcases h with ⟨i, rfl, q⟩ | ⟨hn, q⟩
  · refine ⟨_, true, rfl, .int, true, rfl, ?_⟩
    rw [if_pos rfl]
    refine ⟨i, rfl, ?_⟩
    split
    · rename_i c
      simp only [c, true_and] at q
      exact ⟨i, rfl, q⟩
    · rename_i c
      simp only [c, false_and, decide_false] at q
      exact q
  · refine ⟨_, false, rfl, hn, false, rfl, ?_⟩
    rw [if_neg (by decide)]
    exact q
theorem sc_signs_of : FnScope ["entry"] ["entry"] (defScope s_signs_of) := ⟨rfl, rfl, rfl, by decide +kernel, rfl, by decide +kernel, by decide +kernel⟩
theorem ok_signs_of {f : Addr} {fd : FuncData} (F : Fun K "signs_of" "signs_of" s_signs_of f fd) {cF cN cC : Addr} {tP : Tok} (B : B K mg cF cN cC tP) : FnOk P w K mg base CX0 1 f fd ["entry"] (spSigns K) := by
  refine F.okJ sc_signs_of (fun vs H Q E h => ?_) (fun cdv A outer s H vs Q E hr h => ?_)
  · obtain ⟨a, e, rfl, _⟩ := h
    rfl
  obtain ⟨a, e, rfl, ha, sm, q⟩ := h
  refine ⟨_, (bcons (sif (tcmp op_eq (eix ix_Q (ev 0) ei (fun _ _ => rfl)) estr (nomark _)) (bone (sret (eix ix_Q (ev 0) ei (fun _ _ => rfl)))) bnil)
      (bone (sret (eif (tcmp op_eq (eix ix_Q (ev 0) ei (fun _ _ => rfl)) estr (nomark _)) (eop op_add_str (eix ix_Q (ev 0) ei (fun _ _ => rfl)) estr) estr)))), ?_⟩
  simp only [tSeq, tNext, tIfS, tAsg, gName, gSub, tRet, tRetN, tDrop, tVar, tC, tOp, tUn, rI0, rI, rU, tTest, tB, tAndV, tOrV, tNotV, tAnd, tOr, tNot, tIf, tChain, tCB, tCons, tNil, tLst, tTup, tCallC, List.getElem?_cons_zero, List.getElem?_cons_succ, List.set_cons_zero, List.set_cons_succ, Option.some.injEq, V.int.injEq, V.bl.injEq, V.ref.injEq, V.ty.injEq, V.str.injEq, List.cons.injEq, exists_eq_left', exists_eq_left, exists_and_left, and_true, true_and, and_assoc, cxK, rIxF, rSetL, rEq, rNe, scal, HO.lst.injEq, HO.tup.injEq, upd_none, ixN_10, ixN_20, ixN_21, ixN_30, ixN_31, ixN_32, upd_same, seqAt_updL, seqAt_updT, atI_0, atI_1, atI_2, atI_3, decide_eq_true_eq, L2.start, List.map_cons, List.map_nil, List.length_cons, List.length_nil, Nat.reduceAdd, Nat.reduceSub, List.replicate_succ, List.replicate_zero, List.cons_append, List.nil_append, List.append_nil, tFor_rng1, tFor_rng2, tFor_list, tFor_tup, CDv, CMul, CPow, sizeLine_eq, Int.reduceLE, Int.reduceLT, Int.reducePow, Int.reduceToNat, Int.reduceAdd, Int.reduceSub, Int.reduceMul, Int.reduceNeg, Nat.reduceLeDiff, Nat.reducePow, Nat.reduceLT, Int.reduceEq, true_or, or_true, ite_true, ite_false, if_true, if_false, Bool.not_true, Bool.not_false, Bool.false_eq_true, decide_true, decide_false, rIxQ, seqQ_updL, seqQ_updT, tupQ_updT, tSl, tNoPart, tPart, rSlQ, rSlTX, rCatQ, tTupQ, tLstQ, tNever, rEqD, rInQ, gTupQ, gCons, gNil, tBM, rAppend, tMakeQ, sFld, tFld, sFldAug, tMeth, tDNewQ, tFor_list, rSlS, tLc_zipS, tLcD, tBM0, rExtend, tLc_rng1, tLc_list, tLc_tup, pick_nil, pick_own, pick_cap, join_some, tYes, tyV, tDGet, rIxS, rJoin, sDPut, rNeE, tTry, Ends.gone, tRaise, cxN, tCall, seqQ_T ha]
  cases e with
  | page pl t => exact ⟨_, rfl, rfl, by rw [if_pos rfl]; exact ⟨_, rfl, q⟩⟩
  | line t =>
    refine ⟨_, rfl, rfl, ?_⟩
    rw [if_neg (fun z => w1 (V.str.inj z))]
    refine ⟨_, rfl, rfl, ?_⟩
    rw [if_pos rfl]
    refine ⟨_, rfl, t, rfl, ?_, q⟩
    have h1 : t.length ≤ 100 := sm
    have h2 : (Str.ofString "\n").length = 1 := by decide +kernel
    omega
  | blot =>
    refine ⟨_, rfl, rfl, ?_⟩
    rw [if_neg (fun z => w2 (V.str.inj z))]
    refine ⟨_, rfl, rfl, ?_⟩
    rw [if_neg (fun z => w3 (V.str.inj z))]
    exact q
structure Sh where
  D : List (Int × Str)
  J : Str
  W : List Ent
  D0 : List (Int × Str)
  J0 : Str
def dkv (D : List (Int × Str)) : List (Key × V) := D.map fun e => (.inl e.1, .str e.2)
def spInitS (cShelf : Addr) (K : PySem.W.Frag) : Sp := fun vs H Q _ => ∃ x dx, vs = [.ref x] ∧ H x = some (.ins cShelf dx []) ∧
  ∀ a1 a2 a3 H', new K H a1 → new K H a2 → new K H a3 → a1 ≠ a2 → a1 ≠ a3 → a2 ≠ a3 → H' x = some (.ins cShelf dx [(("sheets" : Str), .ref a1), (("diary" : Str), .str ""), (("writes" : Str), .ref a2), (("first_sheets" : Str), .ref a3), (("first_diary" : Str), .str "")]) →
    H' a1 = some (.dK []) → H' a2 = some (.lst []) → H' a3 = some (.dK []) → Kp K x H H' → Q .non H'
theorem five {a d b c e : V} : putF "first_diary" e (putF "first_sheets" c (putF "writes" b (putF "diary" d (putF "sheets" a [])))) = [(("sheets" : Str), a), (("diary" : Str), d), (("writes" : Str), b), (("first_sheets" : Str), c), (("first_diary" : Str), e)] := by
  have k1 : (("sheets" : Str) == "diary") = false := by decide +kernel
  have k2 : (("sheets" : Str) == "writes") = false := by decide +kernel
  have k3 : (("diary" : Str) == "writes") = false := by decide +kernel
  have k4 : (("sheets" : Str) == "first_sheets") = false := by decide +kernel
  have k5 : (("diary" : Str) == "first_sheets") = false := by decide +kernel
  have k6 : (("writes" : Str) == "first_sheets") = false := by decide +kernel
  have k7 : (("sheets" : Str) == "first_diary") = false := by decide +kernel
  have k8 : (("diary" : Str) == "first_diary") = false := by decide +kernel
  have k9 : (("writes" : Str) == "first_diary") = false := by decide +kernel
  have k0 : (("first_sheets" : Str) == "first_diary") = false := by decide +kernel
  simp only [beq_eq_false_iff_ne, ne_eq] at k1 k2 k3 k4 k5 k6 k7 k8 k9 k0
  simp only [putF, k1, k2, k3, k4, k5, k6, k7, k8, k9, k0, if_false]
theorem sc_Shelf___init__ : FnScope ["self"] ["self"] (defScope s_Shelf___init__) := ⟨rfl, rfl, rfl, by decide +kernel, rfl, by decide +kernel, by decide +kernel⟩
theorem ok_Shelf___init__ {f cShelf : Addr} {fd : FuncData} (F : Fun K "__init__" "Shelf.__init__" s_Shelf___init__ f fd) {cF cN cC : Addr} {tP : Tok} (B : B K mg cF cN cC tP) (c : Cls K cShelf) (n_sheets : NoAttr K cShelf "sheets") (n_diary : NoAttr K cShelf "diary") (n_writes : NoAttr K cShelf "writes") (n_first_sheets : NoAttr K cShelf "first_sheets") (n_first_diary : NoAttr K cShelf "first_diary") : FnOk P w K mg base CX0 1 f fd ["self"] (spInitS cShelf K) := by
  refine F.okJ sc_Shelf___init__ (fun vs H Q E h => ?_) (fun cdv A outer s H vs Q E hr h => ?_)
  · obtain ⟨x, dx, rfl, _⟩ := h
    rfl
  obtain ⟨x, dx, rfl, hx, q⟩ := h
  refine ⟨_, (bcons (sfld (ev 0) ednewQ)
      (bcons (sfld (ev 0) estr)
      (bcons (sfld (ev 0) (elstQ anil))
      (bcons (sfld (ev 0) ednewQ)
      (bone (sfld (ev 0) estr)))))), ?_⟩
  try walk_at "rn"
  intro a1 n1
  have m1 : x ≠ a1 := ne_of_none hx n1.1
  have lp : ∀ (f : Str) (y : V) (fs : List (Str × V)) (n : Nat), fs.length ≤ n → (putF f y fs).length ≤ n + 1 := fun f y fs n h => by
    have := length_putF f y fs
    omega
  refine ⟨cShelf, dx, [], by rw [upd_ne m1]; exact hx, c, n_sheets, by decide, cShelf, dx, _, rfl, c, n_diary, Nat.lt_of_le_of_lt (lp _ _ [] 0 (Nat.le_of_eq rfl)) (by decide), fun a2 n2 => ?_⟩
  rw [upd_upd] at n2 ⊢
  have m2 : x ≠ a2 := fun z => by have := n2.1; rw [← z, upd_same] at this; cases this
  refine ⟨cShelf, dx, _, by rw [upd_ne m2, upd_same], c, n_writes, Nat.lt_of_le_of_lt (lp _ _ _ 1 (lp _ _ [] 0 (Nat.le_of_eq rfl))) (by decide), fun a3 n3 => ?_⟩
  have m3 : x ≠ a3 := fun z => by have := n3.1; rw [← z, upd_same] at this; cases this
  refine ⟨cShelf, dx, _, by rw [upd_ne m3, upd_same], c, n_first_sheets, Nat.lt_of_le_of_lt (lp _ _ _ 2 (lp _ _ _ 1 (lp _ _ [] 0 (Nat.le_of_eq rfl)))) (by decide), cShelf, dx, _, rfl, c, n_first_diary, Nat.lt_of_le_of_lt (lp _ _ _ 3 (lp _ _ _ 2 (lp _ _ _ 1 (lp _ _ [] 0 (Nat.le_of_eq rfl))))) (by decide), ?_⟩
  rw [upd_upd, five]
  obtain ⟨_, n2⟩ := new_upd.mp n2
  obtain ⟨m21, n2⟩ := new_upd.mp n2
  obtain ⟨_, n3⟩ := new_upd.mp n3
  obtain ⟨m32, n3⟩ := new_upd.mp n3
  obtain ⟨_, n3⟩ := new_upd.mp n3
  obtain ⟨m31, n3⟩ := new_upd.mp n3
  refine q a1 a2 a3 _ n1 n2 n3 (Ne.symm m21) (Ne.symm m31) (Ne.symm m32) upd_same ?_ ?_ ?_ ⟨fun b o hb nb => ?_, fun b ys hb hk => ?_⟩
  · rw [upd_ne (Ne.symm m1), upd_ne (Ne.symm m31), upd_ne (Ne.symm m1), upd_ne (Ne.symm m21), upd_ne (Ne.symm m1), upd_same]
  · rw [upd_ne (Ne.symm m2), upd_ne (Ne.symm m32), upd_ne (Ne.symm m2), upd_same]
  · rw [upd_ne (Ne.symm m3), upd_same]
  · rw [upd_ne nb, upd_ne (ne_of_none hb n3.1), upd_ne nb, upd_ne (ne_of_none hb n2.1), upd_ne nb, upd_ne (ne_of_none hb n1.1)]
    exact hb
  · have z : ∀ {p : Addr}, new K H p → b ≠ p := fun n z => by rw [z, n.2] at hk; cases hk
    have zx : b ≠ x := fun z => by rw [z, hx] at hb; cases hb
    rw [upd_ne zx, upd_ne (z n3), upd_ne zx, upd_ne (z n2), upd_ne zx, upd_ne (z n1)]
    exact hb
end
section
variable {X : Cx}
def rAddS : V → V → Hp → VK → Prop := fun x y H Q => ∃ a b, x = .str a ∧ y = .str b ∧ a.length + b.length ≤ sizeLine ∧ Q (.str (a ++ b)) H
theorem in_addS : InOp X .Add rAddS := by
  rintro pins s σ H x y u v Q I rx ry ⟨a, b, rfl, rfl, hz, q⟩
  obtain ⟨t, rfl⟩ := (show ∃ t, u = Value.str a t from rx)
  obtain ⟨t', rfl⟩ := (show ∃ t', v = Value.str b t' from ry)
  exact PyProof.Rows.iadd_str (fun t' tk => ⟨.str (a ++ b), H, I.tok tk, ⟨_, rfl⟩, q⟩) hz
end
section
variable {P : Program} {w : World} {K : PySem.W.Frag} {mg : Str → Option Value} {base : Heap}
structure KpL (K : PySem.W.Frag) (ps : List Addr) (H H' : Hp) : Prop where
  keep : ∀ q o, H q = some o → q ∉ ps → H' q = some o
  mod : ∀ a xs, H a = none → kTup K a = some xs → H' a = none
structure ShAt (K : PySem.W.Frag) (H : Hp) (C p dx a1 a2 a3 : Addr) (s : Sh) (ws : List Addr) : Prop where
  ins : H p = some (.ins C dx [(("sheets" : Str), .ref a1), (("diary" : Str), .str s.J), (("writes" : Str), .ref a2), (("first_sheets" : Str), .ref a3), (("first_diary" : Str), .str s.J0)])
  d : H a1 = some (.dK (dkv s.D))
  w : H a2 = some (.lst (ws.map V.ref))
  d0 : H a3 = some (.dK (dkv s.D0))
  n13 : a1 ≠ a3
def putD (D : List (Int × Str)) (k : Int) (t : Str) : List (Int × Str) := if D.any (fun e => e.1 = k) then D.map (fun e => if e.1 = k then (e.1, t) else e) else D ++ [(k, t)]
def Sh.carry (s : Sh) (e : Ent) (sg : Str) : Sh := match e with
  | .blot => { s with J := "" }
  | .line _ => { s with J := s.J ++ sg }
  | .page p _ => if sg = "" then s else { s with D := putD s.D p sg }
def spCarry (K : PySem.W.Frag) (cShelf : Addr) : Sp := fun vs H Q _ => ∃ p dx a1 a2 a3 s ws a e sg, vs = [.ref p, .ref a, .str sg] ∧ ShAt K H cShelf p dx a1 a2 a3 s ws ∧ tupQ K H a = some (Ent.v e) ∧ s.J.length + sg.length ≤ sizeLine ∧ s.D.length < 1000 ∧
  ∀ H', ShAt K H' cShelf p dx a1 a2 a3 (s.carry e sg) ws → KpL K [p, a1] H H' → Q .non H'
theorem sd_ne : ¬ (("sheets" : Str) = "diary") := by decide +kernel
theorem sd_nb : (("diary" : Str) == "sheets") = false := by decide +kernel
theorem fs_sheets {a d b c e : V} : List.lookup ("sheets" : Str) [(("sheets" : Str), a), (("diary" : Str), d), (("writes" : Str), b), (("first_sheets" : Str), c), (("first_diary" : Str), e)] = some a := by
  simp only [List.lookup, beq_self_eq_true]
theorem fs_diary {a d b c e : V} : List.lookup ("diary" : Str) [(("sheets" : Str), a), (("diary" : Str), d), (("writes" : Str), b), (("first_sheets" : Str), c), (("first_diary" : Str), e)] = some d := by
  simp only [List.lookup, beq_self_eq_true, sd_nb]
theorem fs_pdiary {a d b c e v : V} : putF "diary" v [(("sheets" : Str), a), (("diary" : Str), d), (("writes" : Str), b), (("first_sheets" : Str), c), (("first_diary" : Str), e)] = [(("sheets" : Str), a), (("diary" : Str), v), (("writes" : Str), b), (("first_sheets" : Str), c), (("first_diary" : Str), e)] := by
  simp only [putF, if_neg sd_ne, if_true]
theorem putK_dkv (D : List (Int × Str)) (k : Int) (t : Str) : putK (dkv D) (.inl k) (.str t) = dkv (putD D k t) := by
  have e : (dkv D).any (fun kv => decide (kv.1 = (.inl k : Key))) = D.any (fun e => decide (e.1 = k)) := by
    simp only [dkv, List.any_map, Function.comp_def, Sum.inl.injEq]
  unfold putK putD
  rw [e]
  by_cases h : D.any (fun e => decide (e.1 = k)) = true
  · rw [if_pos h, if_pos h]
    simp only [dkv, List.map_map]
    refine List.map_congr_left fun x _ => ?_
    simp only [Function.comp_def, Sum.inl.injEq]
    by_cases g : x.1 = k
    · rw [if_pos g, if_pos g]
    · rw [if_neg g, if_neg g]
  · rw [if_neg h, if_neg h]
    simp only [dkv, List.map_append, List.map_cons, List.map_nil]
theorem ShAt.diary {H : Hp} {C p dx a1 a2 a3 : Addr} {s : Sh} {ws : List Addr} (sh : ShAt K H C p dx a1 a2 a3 s ws) (j : Str) : ShAt K (upd H p (.ins C dx (putF "diary" (.str j) [(("sheets" : Str), .ref a1), (("diary" : Str), .str s.J), (("writes" : Str), .ref a2), (("first_sheets" : Str), .ref a3), (("first_diary" : Str), .str s.J0)]))) C p dx a1 a2 a3 { s with J := j } ws := by
  have n1 : a1 ≠ p := by rintro rfl; have := sh.d; rw [sh.ins] at this; cases this
  have n2 : a2 ≠ p := by rintro rfl; have := sh.w; rw [sh.ins] at this; cases this
  have n3 : a3 ≠ p := by rintro rfl; have := sh.d0; rw [sh.ins] at this; cases this
  rw [fs_pdiary]
  exact ⟨upd_same, (upd_ne n1).trans sh.d, (upd_ne n2).trans sh.w, (upd_ne n3).trans sh.d0, sh.n13⟩
theorem ShAt.put {H : Hp} {C p dx a1 a2 a3 : Addr} {s : Sh} {ws : List Addr} (sh : ShAt K H C p dx a1 a2 a3 s ws) (k : Int) (t : Str) : ShAt K (upd H a1 (.dK (putK (dkv s.D) (.inl k) (.str t)))) C p dx a1 a2 a3 { s with D := putD s.D k t } ws := by
  have n1 : p ≠ a1 := by rintro rfl; have := sh.d; rw [sh.ins] at this; cases this
  have n2 : a2 ≠ a1 := by rintro rfl; have := sh.w; rw [sh.d] at this; cases this
  rw [putK_dkv]
  exact ⟨(upd_ne n1).trans sh.ins, upd_same, (upd_ne n2).trans sh.w, (upd_ne (Ne.symm sh.n13)).trans sh.d0, sh.n13⟩
theorem KpL.upd {H : Hp} {ps : List Addr} {p : Addr} {o o' : HO} (e : H p = some o) (m : p ∈ ps) : KpL K ps H (L2.upd H p o') :=
  ⟨fun q x h n => (upd_ne (fun z => by rw [z] at n; exact n m)).trans h, fun a xs h _ => (upd_ne (fun z => by rw [z, e] at h; cases h)).trans h⟩
theorem KpL.refl {H : Hp} {ps : List Addr} : KpL K ps H H := ⟨fun _ _ h _ => h, fun _ _ h _ => h⟩
theorem sc_Shelf_carry_out : FnScope ["self", "entry", "signs"] ["self", "entry", "signs"] (defScope s_Shelf_carry_out) := ⟨rfl, rfl, rfl, by decide +kernel, rfl, by decide +kernel, by decide +kernel⟩
theorem ok_Shelf_carry_out {f cShelf : Addr} {fd : FuncData} (F : Fun K "carry_out" "Shelf.carry_out" s_Shelf_carry_out f fd) {cF cN cC : Addr} {tP : Tok} (B : B K mg cF cN cC tP) (c : Cls K cShelf) (n_sheets : NoAttr K cShelf "sheets") (n_diary : NoAttr K cShelf "diary") : FnOk P w K mg base CX0 1 f fd ["self", "entry", "signs"] (spCarry K cShelf) := by
  refine F.okJ sc_Shelf_carry_out (fun vs H Q E h => ?_) (fun cdv A outer s H vs Q E hr h => ?_)
  · obtain ⟨p, dx, a1, a2, a3, s, ws, a, e, sg, rfl, _⟩ := h
    rfl
  obtain ⟨p, dx, a1, a2, a3, s, ws, a, e, sg, rfl, sh, ha, hz, hd, q⟩ := h
  refine ⟨_, (bone (sif (tcmp op_eq (eix ix_Q (ev 1) ei (fun _ _ => rfl)) estr (nomark _)) (bone (sfld (ev 0) estr)) (bone (sif (tcmp op_eq (eix ix_Q (ev 1) ei (fun _ _ => rfl)) estr (nomark _)) (bone (sfldaug in_addS (ev 0) (ev 2))) (bone (sif (tcmp op_ne (ev 2) estr (nomark _)) (bone (sdput hr.units (efld (ev 0)) (eix ix_Q (ev 1) ei (fun _ _ => rfl)) (ev 2))) bnil)))))), ?_⟩
  simp only [tSeq, tNext, tIfS, tAsg, gName, gSub, tRet, tRetN, tDrop, tVar, tC, tOp, tUn, rI0, rI, rU, tTest, tB, tAndV, tOrV, tNotV, tAnd, tOr, tNot, tIf, tChain, tCB, tCons, tNil, tLst, tTup, tCallC, List.getElem?_cons_zero, List.getElem?_cons_succ, List.set_cons_zero, List.set_cons_succ, Option.some.injEq, V.int.injEq, V.bl.injEq, V.ref.injEq, V.ty.injEq, V.str.injEq, List.cons.injEq, exists_eq_left', exists_eq_left, exists_and_left, and_true, true_and, and_assoc, cxK, rIxF, rSetL, rEq, rNe, scal, HO.lst.injEq, HO.tup.injEq, upd_none, ixN_10, ixN_20, ixN_21, ixN_30, ixN_31, ixN_32, upd_same, seqAt_updL, seqAt_updT, atI_0, atI_1, atI_2, atI_3, decide_eq_true_eq, L2.start, List.map_cons, List.map_nil, List.length_cons, List.length_nil, Nat.reduceAdd, Nat.reduceSub, List.replicate_succ, List.replicate_zero, List.cons_append, List.nil_append, List.append_nil, tFor_rng1, tFor_rng2, tFor_list, tFor_tup, CDv, CMul, CPow, sizeLine_eq, Int.reduceLE, Int.reduceLT, Int.reducePow, Int.reduceToNat, Int.reduceAdd, Int.reduceSub, Int.reduceMul, Int.reduceNeg, Nat.reduceLeDiff, Nat.reducePow, Nat.reduceLT, Int.reduceEq, true_or, or_true, ite_true, ite_false, if_true, if_false, Bool.not_true, Bool.not_false, Bool.false_eq_true, decide_true, decide_false, rIxQ, seqQ_updL, seqQ_updT, tupQ_updT, tSl, tNoPart, tPart, rSlQ, rSlTX, rCatQ, tTupQ, tLstQ, tNever, rEqD, rInQ, gTupQ, gCons, gNil, tBM, rAppend, tMakeQ, sFld, tFld, sFldAug, tMeth, tDNewQ, tFor_list, rSlS, tLc_zipS, tLcD, tBM0, rExtend, tLc_rng1, tLc_list, tLc_tup, pick_nil, pick_own, pick_cap, join_some, tYes, tyV, tDGet, rIxS, rJoin, sDPut, rNeE, tTry, Ends.gone, tRaise, cxN, tCall, seqQ_T ha,  sFldAug,  rAddS]
  have len5 : ∀ a d b c e : V, [(("sheets" : Str), a), (("diary" : Str), d), (("writes" : Str), b), (("first_sheets" : Str), c), (("first_diary" : Str), e)].length < 1000 := fun _ _ _ _ _ => by simp only [List.length_cons, List.length_nil]; omega
  cases e with
  | blot =>
    refine ⟨_, rfl, rfl, ?_⟩
    rw [if_pos rfl]
    exact ⟨_, _, _, sh.ins, c, n_diary, len5 _ _ _ _ _, q _ (sh.diary _) (.upd sh.ins (by simp))⟩
  | line t =>
    refine ⟨_, rfl, rfl, ?_⟩
    rw [if_neg (fun z => w5 (V.str.inj z))]
    refine ⟨_, rfl, rfl, ?_⟩
    rw [if_pos rfl]
    exact ⟨_, _, _, sh.ins, c, n_diary, _, fs_diary, _, rfl, hz, _, _, sh.ins, len5 _ _ _ _ _, q _ (sh.diary _) (.upd sh.ins (by simp))⟩
  | page k t =>
    refine ⟨_, rfl, rfl, ?_⟩
    rw [if_neg (fun z => w4 (V.str.inj z))]
    refine ⟨_, rfl, rfl, ?_⟩
    rw [if_neg (fun z => w6 (V.str.inj z))]
    by_cases z : sg = ""
    · rw [if_neg (by simp [z])]
      refine q _ ?_ .refl
      simp only [Sh.carry, if_pos z]
      exact sh
    · rw [if_pos (by simp [z])]
      refine ⟨_, _, _, sh.ins, c, n_sheets, _, fs_sheets, _, rfl, _, rfl, _, .k (k := .inl k) sh.d (by simp only [dkv, List.length_map]; have := sizeLine_eq; omega), q _ ?_ (.upd sh.d (by simp))⟩
      simp only [Sh.carry, if_neg z]
      exact sh.put k sg
theorem fs_writes {a d b c e : V} : List.lookup ("writes" : Str) [(("sheets" : Str), a), (("diary" : Str), d), (("writes" : Str), b), (("first_sheets" : Str), c), (("first_diary" : Str), e)] = some b := by
  have k1 : (("writes" : Str) == "sheets") = false := by decide +kernel
  have k2 : (("writes" : Str) == "diary") = false := by decide +kernel
  simp only [List.lookup, beq_self_eq_true, k1, k2]
theorem fs_no {a d b c e : V} {m : Str} (k1 : (m == "sheets") = false) (k2 : (m == "diary") = false) (k3 : (m == "writes") = false) (k4 : (m == "first_sheets") = false) (k5 : (m == "first_diary") = false) : List.lookup m [(("sheets" : Str), a), (("diary" : Str), d), (("writes" : Str), b), (("first_sheets" : Str), c), (("first_diary" : Str), e)] = none := by
  simp only [List.lookup, k1, k2, k3, k4, k5]
theorem ShAt.wr {H : Hp} {C p dx a1 a2 a3 : Addr} {s : Sh} {ws ws' : List Addr} (sh : ShAt K H C p dx a1 a2 a3 s ws) : ShAt K (upd H a2 (.lst (ws'.map V.ref))) C p dx a1 a2 a3 s ws' := by
  have n1 : p ≠ a2 := by rintro rfl; have := sh.w; rw [sh.ins] at this; cases this
  have n2 : a1 ≠ a2 := by rintro rfl; have := sh.w; rw [sh.d] at this; cases this
  have n3 : a3 ≠ a2 := by rintro rfl; have := sh.w; rw [sh.d0] at this; cases this
  exact ⟨(upd_ne n1).trans sh.ins, (upd_ne n2).trans sh.d, upd_same, (upd_ne n3).trans sh.d0, sh.n13⟩
theorem KpL.trans {H H' H'' : Hp} {ps qs : List Addr} (k : KpL K ps H H') (l : KpL K qs H' H'') (h : ∀ q, q ∈ qs → q ∈ ps) : KpL K ps H H'' :=
  ⟨fun q o e n => l.keep q o (k.keep q o e n) (fun m => n (h q m)), fun a xs e m => l.mod a xs (k.mod a xs e m) m⟩
def spPutDown (K : PySem.W.Frag) (cShelf : Addr) : Sp := fun vs H Q _ => ∃ p dx a1 a2 a3 s ws a e, vs = [.ref p, .ref a] ∧ ShAt K H cShelf p dx a1 a2 a3 s ws ∧ tupQ K H a = some (Ent.v e) ∧ e.small ∧ s.J.length + 101 ≤ sizeLine ∧ s.D.length < 1000 ∧ ws.length < 1000 ∧
  ∀ H', ShAt K H' cShelf p dx a1 a2 a3 (s.carry e e.signs) (ws ++ [a]) → KpL K [p, a1, a2] H H' → Q .non H'
theorem slen {a b : Str} : (a ++ b).length = a.length + b.length := by show (a.cps ++ b.cps).size = _; rw [Array.size_append]; rfl
theorem Ent.signs_small {e : Ent} (h : e.small) : e.signs.length ≤ 101 := by
  cases e with
  | page p t => exact Nat.le_succ_of_le h
  | line t =>
    have h : t.length ≤ 100 := h
    have z : ("\n" : Str).length = 1 := by decide +kernel
    have : (t ++ ("\n" : Str)).length = t.length + ("\n" : Str).length := slen
    show (t ++ ("\n" : Str)).length ≤ 101
    omega
  | blot => exact Nat.zero_le _
theorem sc_Shelf_put_down : FnScope ["self", "entry"] ["self", "entry"] (defScope s_Shelf_put_down) := ⟨rfl, rfl, rfl, by decide +kernel, rfl, by decide +kernel, by decide +kernel⟩
theorem ok_Shelf_put_down {f cShelf : Addr} {fd : FuncData} (F : Fun K "put_down" "Shelf.put_down" s_Shelf_put_down f fd) {cF cN cC : Addr} {tP : Tok} (B : B K mg cF cN cC tP) (C_signs_of : Callee P w K mg base "signs_of" 1 ["entry"] (spSigns K)) (MC_Shelf_carry_out : MethC P w K mg base cShelf "carry_out" 1 ["self", "entry", "signs"] [] (spCarry K cShelf)) (c_Shelf : Cls K cShelf) (n_writes : NoAttr K cShelf "writes") : FnOk P w K mg base CX0 2 f fd ["self", "entry"] (spPutDown K cShelf) := by
  refine F.okJ sc_Shelf_put_down (fun vs H Q E h => ?_) (fun cdv A outer s H vs Q E hr h => ?_)
  · obtain ⟨p, dx, a1, a2, a3, s, ws, a, e, rfl, _⟩ := h
    rfl
  obtain ⟨p, dx, a1, a2, a3, s, ws, a, e, rfl, sh, ha, hm, hz, hd, hw, q⟩ := h
  refine ⟨_, (bcons (sexpr (ebm PySem.F.plainAttrs_list PySem.F.slot_list_append PySem.F.type_list_append mt_append (efld (ev 0)) (acons (ev 1) anil)))
      (bone (sexpr (emeth MC_Shelf_carry_out c_Shelf (hr.mono (by decide)) (ev 0) (acons (ev 1) (acons (ecall C_signs_of (hr.mono (by decide)) rfl (acons (ev 1) anil)) anil)))))), ?_⟩
  simp only [tSeq, tNext, tIfS, tAsg, gName, gSub, tRet, tRetN, tDrop, tVar, tC, tOp, tUn, rI0, rI, rU, tTest, tB, tAndV, tOrV, tNotV, tAnd, tOr, tNot, tIf, tChain, tCB, tCons, tNil, tLst, tTup, tCallC, List.getElem?_cons_zero, List.getElem?_cons_succ, List.set_cons_zero, List.set_cons_succ, Option.some.injEq, V.int.injEq, V.bl.injEq, V.ref.injEq, V.ty.injEq, V.str.injEq, List.cons.injEq, exists_eq_left', exists_eq_left, exists_and_left, and_true, true_and, and_assoc, cxK, rIxF, rSetL, rEq, rNe, scal, HO.lst.injEq, HO.tup.injEq, upd_none, ixN_10, ixN_20, ixN_21, ixN_30, ixN_31, ixN_32, upd_same, seqAt_updL, seqAt_updT, atI_0, atI_1, atI_2, atI_3, decide_eq_true_eq, L2.start, List.map_cons, List.map_nil, List.length_cons, List.length_nil, Nat.reduceAdd, Nat.reduceSub, List.replicate_succ, List.replicate_zero, List.cons_append, List.nil_append, List.append_nil, tFor_rng1, tFor_rng2, tFor_list, tFor_tup, CDv, CMul, CPow, sizeLine_eq, Int.reduceLE, Int.reduceLT, Int.reducePow, Int.reduceToNat, Int.reduceAdd, Int.reduceSub, Int.reduceMul, Int.reduceNeg, Nat.reduceLeDiff, Nat.reducePow, Nat.reduceLT, Int.reduceEq, true_or, or_true, ite_true, ite_false, if_true, if_false, Bool.not_true, Bool.not_false, Bool.false_eq_true, decide_true, decide_false, rIxQ, seqQ_updL, seqQ_updT, tupQ_updT, tSl, tNoPart, tPart, rSlQ, rSlTX, rCatQ, tTupQ, tLstQ, tNever, rEqD, rInQ, gTupQ, gCons, gNil, tBM, rAppend, tMakeQ, sFld, tFld, sFldAug, tMeth, tDNewQ, tFor_list, rSlS, tLc_zipS, tLcD, tBM0, rExtend, tLc_rng1, tLc_list, tLc_tup, pick_nil, pick_own, pick_cap, join_some, tYes, tyV, tDGet, rIxS, rJoin, sDPut, rNeE, tTry, Ends.gone, tRaise, cxN, tCall, seqQ_T ha]
  have na : a ≠ a2 := by
    rintro rfl
    unfold tupQ at ha
    rw [sh.w] at ha
    cases ha
  refine ⟨_, _, _, sh.ins, c_Shelf, n_writes, _, fs_writes, .inl ⟨_, .inl (.inl sh.w)⟩, _, rfl, _, sh.w, by simp only [List.length_map]; omega, ?_⟩
  have e1 : (ws.map V.ref ++ [V.ref a]) = (ws ++ [a]).map V.ref := by simp only [List.map_append, List.map_cons, List.map_nil]
  rw [e1]
  have s1 := sh.wr (ws' := ws ++ [a])
  refine ⟨_, _, s1.ins, fs_no (by decide +kernel) (by decide +kernel) (by decide +kernel) (by decide +kernel) (by decide +kernel), ?_⟩
  have t1 : tupQ K (upd H a2 (.lst ((ws ++ [a]).map V.ref))) a = some (Ent.v e) := (tupQ_ne na).trans ha
  refine ⟨a, e, rfl, t1, hm, ?_⟩
  have := Ent.signs_small hm
  exact ⟨p, dx, a1, a2, a3, s, ws ++ [a], a, e, _, rfl, s1, t1, by omega, hd, fun H' g1 g2 => q H' g1 (KpL.trans (.upd sh.w (by simp)) g2 (by simp))⟩
def spWr (K : PySem.W.Frag) (cShelf : Addr) (R : List V → Ent → Prop) : Sp := fun vs H Q _ => ∃ p dx a1 a2 a3 s ws us e, vs = .ref p :: us ∧ R us e ∧ ShAt K H cShelf p dx a1 a2 a3 s ws ∧ e.small ∧ s.J.length + 101 ≤ sizeLine ∧ s.D.length < 1000 ∧ ws.length < 1000 ∧
  ∀ b H', new K H b → tupQ K H' b = some (Ent.v e) → ShAt K H' cShelf p dx a1 a2 a3 (s.carry e e.signs) (ws ++ [b]) → KpL K [p, a1, a2] H H' → Q .non H'
theorem ShAt.no {H : Hp} {C p dx a1 a2 a3 b : Addr} {s : Sh} {ws : List Addr} (sh : ShAt K H C p dx a1 a2 a3 s ws) (nb : new K H b) : b ≠ p ∧ b ≠ a1 ∧ b ≠ a2 ∧ b ≠ a3 := by
  have e := nb.1
  refine ⟨?_, ?_, ?_, ?_⟩ <;> rintro rfl
  · rw [sh.ins] at e; cases e
  · rw [sh.d] at e; cases e
  · rw [sh.w] at e; cases e
  · rw [sh.d0] at e; cases e
theorem ShAt.fresh {H : Hp} {C p dx a1 a2 a3 b : Addr} {s : Sh} {ws : List Addr} {o : HO} (sh : ShAt K H C p dx a1 a2 a3 s ws) (nb : new K H b) : ShAt K (upd H b o) C p dx a1 a2 a3 s ws := by
  obtain ⟨n, n1, n2, n3⟩ := sh.no nb
  exact ⟨(upd_ne n.symm).trans sh.ins, (upd_ne n1.symm).trans sh.d, (upd_ne n2.symm).trans sh.w, (upd_ne n3.symm).trans sh.d0, sh.n13⟩
theorem ShAt.fresh_no {H : Hp} {C p dx a1 a2 a3 b : Addr} {s : Sh} {ws : List Addr} (sh : ShAt K H C p dx a1 a2 a3 s ws) (nb : new K H b) : b ∉ [p, a1, a2] := by
  obtain ⟨n, n1, n2, n3⟩ := sh.no nb
  simp [n, n1, n2]
theorem KpL.fresh {H : Hp} {ps : List Addr} {b : Addr} {o : HO} (nb : new K H b) : KpL K ps H (L2.upd H b o) :=
  ⟨fun q x h _ => (upd_ne (fun z => by rw [z, nb.1] at h; cases h)).trans h, fun a xs h k => (upd_ne (fun z => by rw [z, nb.2] at k; cases k)).trans h⟩
theorem sc_Shelf_line : FnScope ["self", "text"] ["self", "text"] (defScope s_Shelf_line) := ⟨rfl, rfl, rfl, by decide +kernel, rfl, by decide +kernel, by decide +kernel⟩
theorem ok_Shelf_line {f cShelf : Addr} {fd : FuncData} (F : Fun K "line" "Shelf.line" s_Shelf_line f fd) {cF cN cC : Addr} {tP : Tok} (B : B K mg cF cN cC tP) (MC_Shelf_put_down : MethC P w K mg base cShelf "put_down" 2 ["self", "entry"] [] (spPutDown K cShelf)) (c_Shelf : Cls K cShelf) : FnOk P w K mg base CX0 3 f fd ["self", "text"] (spWr K cShelf fun vs e => ∃ t, vs = [.str t] ∧ e = .line t) := by
  refine F.okJ sc_Shelf_line (fun vs H Q E h => ?_) (fun cdv A outer s H vs Q E hr h => ?_)
  · obtain ⟨p, dx, a1, a2, a3, s, ws, vs, e, rfl, ⟨t, rfl, rfl⟩, _⟩ := h
    rfl
  obtain ⟨p, dx, a1, a2, a3, s, ws, vs, e, rfl, ⟨t, rfl, rfl⟩, sh, hm, hz, hd, hw, q⟩ := h
  refine ⟨_, (bone (sexpr (emeth MC_Shelf_put_down c_Shelf (hr.mono (by decide)) (ev 0) (acons (etupQ (acons estr (acons (ev 1) anil))) anil)))), ?_⟩
  try walk_at "rn"
  refine ⟨_, _, sh.ins, fs_no (by decide +kernel) (by decide +kernel) (by decide +kernel) (by decide +kernel) (by decide +kernel), fun b nb => ?_⟩
  exact ⟨p, dx, a1, a2, a3, s, ws, b, .line t, rfl, sh.fresh nb, tupQ_updT, hm, hz, hd, hw, fun H' g1 g2 => q b H' nb (tupQ_tup (g2.keep b _ upd_same (sh.fresh_no nb))) g1 (KpL.trans (.fresh nb) g2 (fun _ m => m))⟩
theorem sc_Shelf_blot : FnScope ["self"] ["self"] (defScope s_Shelf_blot) := ⟨rfl, rfl, rfl, by decide +kernel, rfl, by decide +kernel, by decide +kernel⟩
theorem ok_Shelf_blot {f cShelf : Addr} {fd : FuncData} (F : Fun K "blot" "Shelf.blot" s_Shelf_blot f fd) {cF cN cC : Addr} {tP : Tok} (B : B K mg cF cN cC tP) (MC_Shelf_put_down : MethC P w K mg base cShelf "put_down" 2 ["self", "entry"] [] (spPutDown K cShelf)) (c_Shelf : Cls K cShelf) : FnOk P w K mg base CX0 3 f fd ["self"] (spWr K cShelf fun vs e => vs = [] ∧ e = .blot) := by
  refine F.okJ sc_Shelf_blot (fun vs H Q E h => ?_) (fun cdv A outer s H vs Q E hr h => ?_)
  · obtain ⟨p, dx, a1, a2, a3, s, ws, vs, e, rfl, ⟨rfl, rfl⟩, _⟩ := h
    rfl
  obtain ⟨p, dx, a1, a2, a3, s, ws, vs, e, rfl, ⟨rfl, rfl⟩, sh, hm, hz, hd, hw, q⟩ := h
  refine ⟨_, (bone (sexpr (emeth MC_Shelf_put_down c_Shelf (hr.mono (by decide)) (ev 0) (acons (etupQ (acons estr anil)) anil)))), ?_⟩
  try walk_at "rn"
  refine ⟨_, _, sh.ins, fs_no (by decide +kernel) (by decide +kernel) (by decide +kernel) (by decide +kernel) (by decide +kernel), fun b nb => ?_⟩
  exact ⟨p, dx, a1, a2, a3, s, ws, b, .blot, rfl, sh.fresh nb, tupQ_updT, hm, hz, hd, hw, fun H' g1 g2 => q b H' nb (tupQ_tup (g2.keep b _ upd_same (sh.fresh_no nb))) g1 (KpL.trans (.fresh nb) g2 (fun _ m => m))⟩
theorem sc_Shelf_write : FnScope ["self", "place", "text"] ["self", "place", "text"] (defScope s_Shelf_write) := ⟨rfl, rfl, rfl, by decide +kernel, rfl, by decide +kernel, by decide +kernel⟩
theorem ok_Shelf_write {f cShelf : Addr} {fd : FuncData} (F : Fun K "write" "Shelf.write" s_Shelf_write f fd) {cF cN cC : Addr} {tP : Tok} (B : B K mg cF cN cC tP) (C_is_whole : Callee P w K mg base "is_whole" 2 ["thing", "low", "high"] (spWholeI K)) (MC_Shelf_put_down : MethC P w K mg base cShelf "put_down" 2 ["self", "entry"] [] (spPutDown K cShelf)) (c_Shelf : Cls K cShelf) : FnOk P w K mg base CX0 3 f fd ["self", "place", "text"] (spWr K cShelf fun vs e => ∃ k t, vs = [.int k, .str t] ∧ e = .page k t ∧ 0 ≤ k ∧ k ≤ 1000000) := by
  refine F.okJ sc_Shelf_write (fun vs H Q E h => ?_) (fun cdv A outer s H vs Q E hr h => ?_)
  · obtain ⟨p, dx, a1, a2, a3, s, ws, vs, e, rfl, ⟨k, t, rfl, rfl, k0, k1⟩, _⟩ := h
    rfl
  obtain ⟨p, dx, a1, a2, a3, s, ws, vs, e, rfl, ⟨k, t, rfl, rfl, k0, k1⟩, sh, hm, hz, hd, hw, q⟩ := h
  refine ⟨_, (bcons (sif (tnot (tval (ecall C_is_whole (hr.mono (by decide)) rfl (acons (ev 1) (acons ei (acons (eglob rfl B.MOST_PLACE B.MOST_PLACE_is) anil)))))) (bone snever) bnil)
      (bone (sexpr (emeth MC_Shelf_put_down c_Shelf (hr.mono (by decide)) (ev 0) (acons (etupQ (acons estr (acons (ev 1) (acons (ev 2) anil)))) anil))))), ?_⟩
  try walk_at "rn"
  refine ⟨_, _, _, rfl, .inl ⟨_, rfl, _, rfl, ?_⟩⟩
  rw [if_neg (by simp [k0, k1])]
  refine ⟨_, _, sh.ins, fs_no (by decide +kernel) (by decide +kernel) (by decide +kernel) (by decide +kernel) (by decide +kernel), fun b nb => ?_⟩
  exact ⟨p, dx, a1, a2, a3, s, ws, b, .page k t, rfl, sh.fresh nb, tupQ_updT, hm, hz, hd, hw, fun H' g1 g2 => q b H' nb (tupQ_tup (g2.keep b _ upd_same (sh.fresh_no nb))) g1 (KpL.trans (.fresh nb) g2 (fun _ m => m))⟩
theorem sc_Shelf_journal : FnScope ["self"] ["self"] (defScope s_Shelf_journal) := ⟨rfl, rfl, rfl, by decide +kernel, rfl, by decide +kernel, by decide +kernel⟩
def spJournal (K : PySem.W.Frag) (cShelf : Addr) : Sp := fun vs H Q _ => ∃ p dx a1 a2 a3 s ws, vs = [.ref p] ∧ ShAt K H cShelf p dx a1 a2 a3 s ws ∧ Q (.str s.J) H
theorem ok_Shelf_journal {f cShelf : Addr} {fd : FuncData} (F : Fun K "journal" "Shelf.journal" s_Shelf_journal f fd) {cF cN cC : Addr} {tP : Tok} (B : B K mg cF cN cC tP) (c_Shelf : Cls K cShelf) (n_diary : NoAttr K cShelf "diary") : FnOk P w K mg base CX0 1 f fd ["self"] (spJournal K cShelf) := by
  refine F.okJ sc_Shelf_journal (fun vs H Q E h => ?_) (fun cdv A outer s H vs Q E hr h => ?_)
  · obtain ⟨p, dx, a1, a2, a3, s, ws, rfl, _⟩ := h
    rfl
  obtain ⟨p, dx, a1, a2, a3, s, ws, rfl, sh, q⟩ := h
  refine ⟨_, (bone (sret (efld (ev 0)))), ?_⟩
  try walk_at "rn"
  exact ⟨_, _, _, sh.ins, c_Shelf, n_diary, _, fs_diary, q⟩
end
section
variable {P : Program} {w : World} {K : PySem.W.Frag} {mg : Str → Option Value} {base : Heap}
theorem sc_Shelf_log : FnScope ["self"] ["self"] (defScope s_Shelf_log) := ⟨rfl, rfl, rfl, by decide +kernel, rfl, by decide +kernel, by decide +kernel⟩
def spLog (K : PySem.W.Frag) (cShelf : Addr) : Sp := fun vs H Q _ => ∃ p dx a1 a2 a3 s ws, vs = [.ref p] ∧ ShAt K H cShelf p dx a1 a2 a3 s ws ∧ ws.length < 1000 ∧ ∀ b, new K H b → Q (.ref b) (upd H b (.lst (ws.map V.ref)))
theorem ok_Shelf_log {f cShelf : Addr} {fd : FuncData} (F : Fun K "log" "Shelf.log" s_Shelf_log f fd) {cF cN cC : Addr} {tP : Tok} (B : B K mg cF cN cC tP) (c_Shelf : Cls K cShelf) (n_writes : NoAttr K cShelf "writes") : FnOk P w K mg base CX0 1 f fd ["self"] (spLog K cShelf) := by
  refine F.okJ sc_Shelf_log (fun vs H Q E h => ?_) (fun cdv A outer s H vs Q E hr h => ?_)
  · obtain ⟨p, dx, a1, a2, a3, s, ws, rfl, _⟩ := h
    rfl
  obtain ⟨p, dx, a1, a2, a3, s, ws, rfl, sh, hw, q⟩ := h
  refine ⟨_, (bone (sret (ecallTy (call_list_ofQK K) rfl B.list bt_list (acons (efld (ev 0)) anil)))), ?_⟩
  try walk_at "rn"
  exact ⟨_, _, _, sh.ins, c_Shelf, n_writes, _, fs_writes, _, rfl, _, seqQ_lst sh.w, q⟩
theorem valV_dkv (k : Int) : ∀ D : List (Int × Str), valV (dkv D) (.inl k) = (D.lookup k).map V.str
  | [] => rfl
  | (i, t) :: D => by
    by_cases h : i = k
    · subst h
      rw [show dkv ((i, t) :: D) = ((.inl i : Key), V.str t) :: dkv D from rfl, valV_pos rfl]
      simp only [List.lookup, beq_self_eq_true, Option.map_some]
    · rw [show dkv ((i, t) :: D) = ((.inl i : Key), V.str t) :: dkv D from rfl, valV_neg (fun z => h (Sum.inl.inj z)), valV_dkv k D]
      have : (k == i) = false := by simp [Ne.symm h]
      simp only [List.lookup, this]
theorem sc_Shelf_page : FnScope ["self", "place"] ["self", "place"] (defScope s_Shelf_page) := ⟨rfl, rfl, rfl, by decide +kernel, rfl, by decide +kernel, by decide +kernel⟩
def spPage (K : PySem.W.Frag) (cShelf : Addr) : Sp := fun vs H Q _ => ∃ p dx a1 a2 a3 s ws v, vs = [.ref p, v] ∧ ShAt K H cShelf p dx a1 a2 a3 s ws ∧ ((∃ k, v = .int k ∧ Q (((s.D.lookup k).map V.str).getD .non) H) ∨ (NumQ K H v false ∧ Q .non H))
theorem ok_Shelf_page {f cShelf : Addr} {fd : FuncData} (F : Fun K "page" "Shelf.page" s_Shelf_page f fd) {cF cN cC : Addr} {tP : Tok} (B : B K mg cF cN cC tP) (C_is_number : Callee P w K mg base "is_number" 1 ["thing"] (spNumI K)) (c_Shelf : Cls K cShelf) (n_sheets : NoAttr K cShelf "sheets") : FnOk P w K mg base CX0 2 f fd ["self", "place"] (spPage K cShelf) := by
  refine F.okJ sc_Shelf_page (fun vs H Q E h => ?_) (fun cdv A outer s H vs Q E hr h => ?_)
  · obtain ⟨p, dx, a1, a2, a3, s, ws, v, rfl, _⟩ := h
    rfl
  obtain ⟨p, dx, a1, a2, a3, s, ws, v, rfl, sh, h⟩ := h
  refine ⟨_, (bone (sret (eif (tval (ecall C_is_number (hr.mono (by decide)) rfl (acons (ev 1) anil))) (edget1 hr.units (efld (ev 0)) (ev 1) ⟨rfl, rfl, rfl, rfl⟩) enon))), ?_⟩
  try walk_at "rn"
  rcases h with ⟨k, rfl, q⟩ | ⟨hn, q⟩
  · refine ⟨_, true, rfl, .int, true, rfl, ?_⟩
    rw [if_pos rfl]
    simp only [tSeq, tNext, tIfS, tAsg, gName, gSub, tRet, tRetN, tDrop, tVar, tC, tOp, tUn, rI0, rI, rU, tTest, tB, tAndV, tOrV, tNotV, tAnd, tOr, tNot, tIf, tChain, tCB, tCons, tNil, tLst, tTup, tCallC, List.getElem?_cons_zero, List.getElem?_cons_succ, List.set_cons_zero, List.set_cons_succ, Option.some.injEq, V.int.injEq, V.bl.injEq, V.ref.injEq, V.ty.injEq, V.str.injEq, List.cons.injEq, exists_eq_left', exists_eq_left, exists_and_left, and_true, true_and, and_assoc, cxK, rIxF, rSetL, rEq, rNe, scal, HO.lst.injEq, HO.tup.injEq, upd_none, ixN_10, ixN_20, ixN_21, ixN_30, ixN_31, ixN_32, upd_same, seqAt_updL, seqAt_updT, atI_0, atI_1, atI_2, atI_3, decide_eq_true_eq, L2.start, List.map_cons, List.map_nil, List.length_cons, List.length_nil, Nat.reduceAdd, Nat.reduceSub, List.replicate_succ, List.replicate_zero, List.cons_append, List.nil_append, List.append_nil, tFor_rng1, tFor_rng2, tFor_list, tFor_tup, CDv, CMul, CPow, sizeLine_eq, Int.reduceLE, Int.reduceLT, Int.reducePow, Int.reduceToNat, Int.reduceAdd, Int.reduceSub, Int.reduceMul, Int.reduceNeg, Nat.reduceLeDiff, Nat.reducePow, Nat.reduceLT, Int.reduceEq, true_or, or_true, ite_true, ite_false, if_true, if_false, Bool.not_true, Bool.not_false, Bool.false_eq_true, decide_true, decide_false, rIxQ, seqQ_updL, seqQ_updT, tupQ_updT, tSl, tNoPart, tPart, rSlQ, rSlTX, rCatQ, tTupQ, tLstQ, tNever, rEqD, rInQ, gTupQ, gCons, gNil, tBM, rAppend, tMakeQ, sFld, tFld, sFldAug, tMeth, tDNewQ, tFor_list, rSlS, tLc_zipS, tLcD, tBM0, rExtend, tLc_rng1, tLc_list, tLc_tup, pick_nil, pick_own, pick_cap, join_some, tYes, tyV, tDGet, rIxS, rJoin, sDPut, rNeE, tTry, Ends.gone, tRaise, cxN, tCall, tDGet1,  tFld]
    refine ⟨_, _, _, sh.ins, c_Shelf, n_sheets, _, fs_sheets, _, rfl, .inl ⟨_, .inl sh.d⟩, _, .inl ⟨_, .inl k, .inl sh.d, rfl, rfl⟩, ?_⟩
    rw [valV_dkv]
    exact q
  · refine ⟨_, false, rfl, hn, false, rfl, ?_⟩
    rw [if_neg (by decide)]
    exact q
end
section
variable {P : Program} {w : World} {K : PySem.W.Frag} {mg : Str → Option Value} {base : Heap}
theorem dkv_dI (D : List (Int × Str)) : dkv D = dI (D.map fun e => (e.1, V.str e.2)) := by
  unfold dkv dI
  rw [List.map_map]
  rfl
theorem sc_Shelf_places : FnScope ["self"] ["self"] (defScope s_Shelf_places) := ⟨rfl, rfl, rfl, by decide +kernel, rfl, by decide +kernel, by decide +kernel⟩
def spPlaces (K : PySem.W.Frag) (cShelf : Addr) : Sp := fun vs H Q _ => ∃ p dx a1 a2 a3 s ws, vs = [.ref p] ∧ ShAt K H cShelf p dx a1 a2 a3 s ws ∧ s.D.length < 64 ∧
  ∀ b (ks : List Int), new K H b → ks.Pairwise (· < ·) → (∀ k, k ∈ ks ↔ k ∈ s.D.map (·.1)) → ks.length = s.D.length → Q (.ref b) (upd H b (.lst (ks.map V.int)))
theorem ok_Shelf_places {f cShelf : Addr} {fd : FuncData} (F : Fun K "places" "Shelf.places" s_Shelf_places f fd) {cF cN cC : Addr} {tP : Tok} (B : B K mg cF cN cC tP) (c_Shelf : Cls K cShelf) (n_sheets : NoAttr K cShelf "sheets") : FnOk P w K mg base CX0 1 f fd ["self"] (spPlaces K cShelf) := by
  refine F.okJ sc_Shelf_places (fun vs H Q E h => ?_) (fun cdv A outer s H vs Q E hr h => ?_)
  · obtain ⟨p, dx, a1, a2, a3, s, ws, rfl, _⟩ := h
    rfl
  obtain ⟨p, dx, a1, a2, a3, s, ws, rfl, sh, hz, q⟩ := h
  refine ⟨_, (bone (sret (ecallB (call_sortedD rfl) rfl B.sorted bt_sorted (acons (efld (ev 0)) anil)))), ?_⟩
  try walk_at "rn"
  refine ⟨_, _, _, sh.ins, c_Shelf, n_sheets, _, fs_sheets, _, rfl, _, (dkv_dI s.D) ▸ sh.d, by simpa using hz, fun b ks nb up mem len => ?_⟩
  refine q b ks nb up (fun k => ?_) (by simpa using len)
  rw [mem, List.map_map]
  rfl
def Sh.bare (s : Sh) : Sh := ⟨s.D0, s.J0, [], [], ""⟩
def Sh.run (t : Sh) (es : List Ent) : Sh := es.foldl (fun t e => t.carry e e.signs) t
def cutT (t : Str) (g : Nat) : Str := Txt.slice t none (some (g : Int))
def Sh.tail (t : Sh) (W : List Ent) (m g : Nat) : Sh := if g = 0 then t else match W[m]? with
  | some e => t.carry e (cutT e.signs g)
  | none => t
def Sh.done (u : Sh) : Sh := ⟨u.D, u.J, [], u.D, u.J⟩
def Sh.after (s : Sh) (W : List Ent) (m g : Nat) : Sh := ((s.bare.run (W.take m)).tail W m g).done
def EntsAt (K : PySem.W.Frag) (H : Hp) (ws : List Addr) (W : List Ent) : Prop := ws.length = W.length ∧ ∀ (i : Nat) a e, ws[i]? = some a → W[i]? = some e → tupQ K H a = some (Ent.v e) ∧ e.small
def mostOf (W : List Ent) (m : Nat) : Nat := match W[m]? with
  | some e => e.signs.length - 1
  | none => 0
def spAfter (K : PySem.W.Frag) (cShelf : Addr) : Sp := fun vs H Q _ => ∃ p dx a1 a2 a3 s ws W m g, vs = [.ref p, .int ((m : Nat) : Int), .int ((g : Nat) : Int)] ∧ ShAt K H cShelf p dx a1 a2 a3 s ws ∧ EntsAt K H ws W ∧ m ≤ W.length ∧ g ≤ mostOf W m ∧ s.D0.length + W.length < 500 ∧ s.J0.length + 101 * W.length + 101 ≤ sizeLine ∧
  ∀ p' dx' a1' a2' a3' H', new K H p' → new K H a1' → new K H a2' → new K H a3' → ShAt K H' cShelf p' dx' a1' a2' a3' (s.after W m g) [] → Ext K H H' → Q (.ref p') H'
theorem tru_seq {K : PySem.W.Frag} {H : Hp} {p : Addr} {xs : List V} {b : Bool} (h : SqL K H p xs) (e : xs.isEmpty = b) : TruV K (.ref p) H (!b) := by
  rw [← e]
  exact .inl ⟨xs, h, rfl⟩
theorem fs_first_sheets {a d b c e : V} : List.lookup ("first_sheets" : Str) [(("sheets" : Str), a), (("diary" : Str), d), (("writes" : Str), b), (("first_sheets" : Str), c), (("first_diary" : Str), e)] = some c := by
  have k1 : (("first_sheets" : Str) == "sheets") = false := by decide +kernel
  have k2 : (("first_sheets" : Str) == "diary") = false := by decide +kernel
  have k3 : (("first_sheets" : Str) == "writes") = false := by decide +kernel
  simp only [List.lookup, beq_self_eq_true, k1, k2, k3]
theorem fs_first_diary {a d b c e : V} : List.lookup ("first_diary" : Str) [(("sheets" : Str), a), (("diary" : Str), d), (("writes" : Str), b), (("first_sheets" : Str), c), (("first_diary" : Str), e)] = some e := by
  have k1 : (("first_diary" : Str) == "sheets") = false := by decide +kernel
  have k2 : (("first_diary" : Str) == "diary") = false := by decide +kernel
  have k3 : (("first_diary" : Str) == "writes") = false := by decide +kernel
  have k4 : (("first_diary" : Str) == "first_sheets") = false := by decide +kernel
  simp only [List.lookup, beq_self_eq_true, k1, k2, k3, k4]
theorem fs_psheets {a d b c e v : V} : putF "sheets" v [(("sheets" : Str), a), (("diary" : Str), d), (("writes" : Str), b), (("first_sheets" : Str), c), (("first_diary" : Str), e)] = [(("sheets" : Str), v), (("diary" : Str), d), (("writes" : Str), b), (("first_sheets" : Str), c), (("first_diary" : Str), e)] := by
  simp only [putF, if_true]
theorem fs_pfs {a d b c e v : V} : putF "first_sheets" v [(("sheets" : Str), a), (("diary" : Str), d), (("writes" : Str), b), (("first_sheets" : Str), c), (("first_diary" : Str), e)] = [(("sheets" : Str), a), (("diary" : Str), d), (("writes" : Str), b), (("first_sheets" : Str), v), (("first_diary" : Str), e)] := by
  have k1 : ¬ (("sheets" : Str) = "first_sheets") := by decide +kernel
  have k2 : ¬ (("diary" : Str) = "first_sheets") := by decide +kernel
  have k3 : ¬ (("writes" : Str) = "first_sheets") := by decide +kernel
  simp only [putF, if_true, k1, k2, k3, if_false]
theorem fs_pfd {a d b c e v : V} : putF "first_diary" v [(("sheets" : Str), a), (("diary" : Str), d), (("writes" : Str), b), (("first_sheets" : Str), c), (("first_diary" : Str), e)] = [(("sheets" : Str), a), (("diary" : Str), d), (("writes" : Str), b), (("first_sheets" : Str), c), (("first_diary" : Str), v)] := by
  have k1 : ¬ (("sheets" : Str) = "first_diary") := by decide +kernel
  have k2 : ¬ (("diary" : Str) = "first_diary") := by decide +kernel
  have k3 : ¬ (("writes" : Str) = "first_diary") := by decide +kernel
  have k4 : ¬ (("first_sheets" : Str) = "first_diary") := by decide +kernel
  simp only [putF, if_true, k1, k2, k3, k4, if_false]
theorem len5 {a d b c e : V} : [(("sheets" : Str), a), (("diary" : Str), d), (("writes" : Str), b), (("first_sheets" : Str), c), (("first_diary" : Str), e)].length < 1000 := by simp only [List.length_cons, List.length_nil]; omega
theorem KpL.ext {H H1 H2 : Hp} {ps : List Addr} (k : KpL K ps H1 H2) (x : Ext K H H1) (n : ∀ p ∈ ps, new K H p) : Ext K H H2 :=
  ⟨fun q o e => k.keep q o (x.same q o e) (fun m => by rw [(n q m).1] at e; exact nomatch e), fun a xs e m => k.mod a xs (x.mod a xs e m) m⟩
theorem KpL.of {H H1 : Hp} {p : Addr} (k : Kp K p H H1) : KpL K [p] H H1 := ⟨fun q o e n => k.keep q o e (fun z => n (by simp [z])), k.mod⟩
theorem new_back {H H1 : Hp} {v : Addr} (x : Ext K H H1) (n : new K H1 v) : new K H v := by
  refine ⟨?_, n.2⟩
  have h1 := n.1
  cases e : H v with
  | none => rfl
  | some o =>
    rw [x.same v o e] at h1
    cases h1
theorem atI0 {x : V} {xs : List V} : atI (x :: xs) 0 = some x := by simp [atI, ixN]
theorem ShAt.ext {H H' : Hp} {C p dx a1 a2 a3 : Addr} {s : Sh} {ws : List Addr} (sh : ShAt K H C p dx a1 a2 a3 s ws) (x : Ext K H H') : ShAt K H' C p dx a1 a2 a3 s ws :=
  ⟨x.same _ _ sh.ins, x.same _ _ sh.d, x.same _ _ sh.w, x.same _ _ sh.d0, sh.n13⟩
theorem EntsAt.ext {H H' : Hp} {ws : List Addr} {W : List Ent} (en : EntsAt K H ws W) (x : Ext K H H') : EntsAt K H' ws W :=
  ⟨en.1, fun i a e h1 h2 => ⟨x.tup (en.2 i a e h1 h2).1, (en.2 i a e h1 h2).2⟩⟩
theorem putD_len (D : List (Int × Str)) (k : Int) (t : Str) : (putD D k t).length ≤ D.length + 1 := by
  unfold putD
  split
  · rw [List.length_map]; omega
  · rw [List.length_append]; exact Nat.le_refl _
theorem Sh.carry_D (s : Sh) (e : Ent) (sg : Str) : (s.carry e sg).D.length ≤ s.D.length + 1 := by
  cases e with
  | page k t =>
    show (if sg = "" then s else { s with D := putD s.D k sg }).D.length ≤ _
    split
    · omega
    · exact putD_len _ _ _
  | line t => exact Nat.le_succ _
  | blot => exact Nat.le_succ _
theorem Sh.carry_J (s : Sh) (e : Ent) (sg : Str) : (s.carry e sg).J.length ≤ s.J.length + sg.length := by
  cases e with
  | page k t =>
    show (if sg = "" then s else { s with D := putD s.D k sg }).J.length ≤ _
    split <;> exact Nat.le_add_right _ _
  | line t => exact Nat.le_of_eq slen
  | blot => exact Nat.zero_le _
theorem Sh.run_D (es : List Ent) : ∀ t : Sh, (t.run es).D.length ≤ t.D.length + es.length := by
  induction es with
  | nil => intro t; exact Nat.le_refl _
  | cons e es ih =>
    intro t
    have h1 := ih (t.carry e e.signs)
    have h2 := t.carry_D e e.signs
    show ((t.carry e e.signs).run es).D.length ≤ _
    rw [List.length_cons]
    omega
theorem Sh.run_J (es : List Ent) (h : ∀ e ∈ es, e.small) : ∀ t : Sh, (t.run es).J.length ≤ t.J.length + 101 * es.length := by
  induction es with
  | nil => intro t; exact Nat.le_refl _
  | cons e es ih =>
    intro t
    have h1 := ih (fun e m => h e (List.mem_cons_of_mem _ m)) (t.carry e e.signs)
    have h2 := t.carry_J e e.signs
    have h3 := Ent.signs_small (h e List.mem_cons_self)
    show ((t.carry e e.signs).run es).J.length ≤ _
    rw [List.length_cons]
    omega
theorem Sh.run_succ {t : Sh} {W : List Ent} {i : Nat} {e : Ent} (h : W[i]? = some e) : t.run (W.take (i + 1)) = (t.run (W.take i)).carry e e.signs := by
  unfold Sh.run
  rw [List.take_add_one, h, List.foldl_append]
  rfl
theorem EntsAt.smalls {H : Hp} {ws : List Addr} {W : List Ent} (en : EntsAt K H ws W) : ∀ e ∈ W, e.small := by
  intro e he
  obtain ⟨i, hi, rfl⟩ := List.mem_iff_getElem.1 he
  exact (en.2 i (ws[i]'(by have := en.1; omega)) _ (List.getElem?_eq_getElem (by have := en.1; omega)) (List.getElem?_eq_getElem hi)).2
theorem slice_len (x : Str) (n : Nat) (h : n ≤ x.length) : (cutT x n).length ≤ x.length := by
  unfold cutT
  rw [str_len, slice_to h, List.length_take, str_len]
  omega
theorem sc_Shelf_after : FnScope ["self", "many", "signs", "rest", "most", "other", "entry"] ["self", "many", "signs"] (defScope s_Shelf_after) := ⟨rfl, rfl, rfl, by decide +kernel, rfl, by decide +kernel, by decide +kernel⟩
theorem ok_Shelf_after {f cShelf : Addr} {fd : FuncData} (F : Fun K "after" "Shelf.after" s_Shelf_after f fd) {cF cN cC : Addr} {tP : Tok} (B : B K mg cF cN cC tP) (C_is_whole : Callee P w K mg base "is_whole" 2 ["thing", "low", "high"] (spWholeI K)) (C_signs_of : Callee P w K mg base "signs_of" 1 ["entry"] (spSigns K)) (MC_Shelf_carry_out : MethC P w K mg base cShelf "carry_out" 1 ["self", "entry", "signs"] [] (spCarry K cShelf))
    (M_Shelf : Maker P w K mg base "Shelf" 1 ["self"] [] cShelf (spInitS cShelf K)) (c_Shelf : Cls K cShelf) (n_sheets : NoAttr K cShelf "sheets") (n_diary : NoAttr K cShelf "diary") (n_writes : NoAttr K cShelf "writes") (n_first_sheets : NoAttr K cShelf "first_sheets") (n_first_diary : NoAttr K cShelf "first_diary") : FnOk P w K mg base CX0 3 f fd ["self", "many", "signs"] (spAfter K cShelf) := by
  refine F.okJ sc_Shelf_after (fun vs H Q E h => ?_) (fun cdv A outer s H vs Q E hr h => ?_)
  · obtain ⟨p, dx, a1, a2, a3, s, ws, W, m, g, rfl, _⟩ := h
    rfl
  obtain ⟨p, dx, a1, a2, a3, s, ws, W, m, g, rfl, sh, en, hm, hg, hd, hj, q⟩ := h
  refine ⟨_, (bcons (sif (tnot (tval (ecall C_is_whole (hr.mono (by decide)) rfl (acons (ev 1) (acons ei (acons (ecallB call_lenQ rfl B.len bt_len (acons (efld (ev 0)) anil)) anil)))))) (bone snever) bnil)
      (bcons (sset (i := 3) sc_Shelf_after.nd rfl (Or.inl rfl) (eslice sl_listQ (efld (ev 0)) (osome (ev 1)) onone))
      (bcut (sset (i := 4) sc_Shelf_after.nd rfl (Or.inl rfl) (eif (ttruth (ev 3) (fun _ => rfl)) (ecallB (call_max2 rfl) rfl B.max bt_max (acons (eop op_sub (ecallB call_len_str rfl B.len bt_len (acons (ecall C_signs_of (hr.mono (by decide)) rfl (acons (eix ix_Q (ev 3) ei (fun _ _ => rfl)) anil)) anil)) ei) (acons ei anil))) ei))
      (bcons (sif (tnot (tval (ecall C_is_whole (hr.mono (by decide)) rfl (acons (ev 2) (acons ei (acons (ev 4) anil)))))) (bone snever) bnil)
      (bcons (sset (i := 5) sc_Shelf_after.nd rfl (Or.inl rfl) (emake0 M_Shelf (hr.mono (by decide)) rfl))
      (bcons (sfld (ev 5) (ecallTy call_dictC rfl B.dict bt_dict (acons (efld (ev 0)) anil)))
      (bcons (sfld (ev 5) (efld (ev 0)))
      (bcons (sfor PassesOwn.never rfl (ilist (eslice sl_listQ (efld (ev 0)) onone (osome (ev 1)))) (gname (i := 6) sc_Shelf_after.nd rfl (Or.inl rfl))
        (bone (sexpr (emeth MC_Shelf_carry_out c_Shelf (hr.mono (by decide)) (ev 5) (acons (ev 6) (acons (ecall C_signs_of (hr.mono (by decide)) rfl (acons (ev 6) anil)) anil))))))
      (bcut (sif (tcmp op_gt (ev 2) ei (nomark _)) (bone (sexpr (emeth MC_Shelf_carry_out c_Shelf (hr.mono (by decide)) (ev 5) (acons (eix ix_Q (ev 3) ei (fun _ _ => rfl)) (acons (eslice sl_str (ecall C_signs_of (hr.mono (by decide)) rfl (acons (eix ix_Q (ev 3) ei (fun _ _ => rfl)) anil)) onone (osome (ev 2))) anil))))) bnil)
      (bcons (sfld (ev 5) (ecallTy call_dictC rfl B.dict bt_dict (acons (efld (ev 5)) anil)))
      (bcons (sfld (ev 5) (efld (ev 5)))
      (bone (sret (ev 5)))))))))))))), ?_⟩
  try walk_at "rn"
  refine ⟨_, _, _, sh.ins, c_Shelf, n_writes, _, fs_writes, _, rfl, _, seqQ_lst sh.w, ?_⟩
  have lw : ws.length = W.length := en.1
  refine ⟨_, _, _, rfl, .inl ⟨_, rfl, _, rfl, ?_⟩⟩
  rw [if_neg (by simp only [List.length_map, Bool.not_eq_true', decide_eq_false_iff_not, Decidable.not_not]; omega)]
  refine ⟨_, _, _, sh.ins, c_Shelf, n_writes, _, fs_writes, _, rfl, _, SqL.of sh.w, fun r nr => ?_⟩
  rw [cutV_from]
  have xr : Ext K H (upd H r (.lst ((ws.map V.ref).drop m))) := .new nr
  refine ⟨fun σ' H' => σ' = [some (.ref p), some (.int (m : Int)), some (.int (g : Int)), some (.ref r), some (.int ((mostOf W m : Nat) : Int)), none, none] ∧ H' = upd H r (.lst ((ws.map V.ref).drop m)), ?_, ?_⟩
  · try walk_at "rn"
    by_cases z : m < W.length
    · have ea : ws[m]? = some (ws[m]'(by omega)) := List.getElem?_eq_getElem (by omega)
      have ee : W[m]? = some (W[m]'z) := List.getElem?_eq_getElem z
      obtain ⟨tu, sm⟩ := en.2 m _ _ ea ee
      have ed : (ws.map V.ref).drop m = V.ref (ws[m]'(by omega)) :: (ws.map V.ref).drop (m + 1) := by
        rw [List.drop_eq_getElem_cons (by simpa using by omega)]
        simp
      have em : mostOf W m = (W[m]'z).signs.length - 1 := by unfold mostOf; rw [ee]
      have ss := Ent.signs_small sm
      refine ⟨true, tru_seq (b := false) (SqL.of upd_same) (by rw [ed]; rfl), ?_⟩
      rw [if_pos rfl]
      refine ⟨_, by rw [ed]; exact atI0, _, _, rfl, xr.tup tu, sm, _, rfl, by omega, ?_, rfl⟩
      rw [em]
      split <;> omega
    · have ed : (ws.map V.ref).drop m = [] := List.drop_of_length_le (by simp; omega)
      have em : mostOf W m = 0 := by unfold mostOf; rw [List.getElem?_eq_none (by omega)]
      refine ⟨false, tru_seq (b := true) (SqL.of upd_same) (by rw [ed]; rfl), ?_⟩
      rw [if_neg (by decide), em]
      rfl
  rintro _ _ ⟨rfl, rfl⟩
  try walk_at "rn"
  have hrl : (upd H r (.lst ((ws.map V.ref).drop m))) r = some (.lst ((ws.map V.ref).drop m)) := upd_same
  have sh := sh.ext xr
  have en := en.ext xr
  have q : ∀ p' dx' a1' a2' a3' H', new K (upd H r (.lst ((ws.map V.ref).drop m))) p' → new K (upd H r (.lst ((ws.map V.ref).drop m))) a1' → new K (upd H r (.lst ((ws.map V.ref).drop m))) a2' → new K (upd H r (.lst ((ws.map V.ref).drop m))) a3' → ShAt K H' cShelf p' dx' a1' a2' a3' (s.after W m g) [] → Ext K (upd H r (.lst ((ws.map V.ref).drop m))) H' → Q (.ref p') H' :=
    fun p' dx' a1' a2' a3' H' n n1 n2 n3 o x => q p' dx' a1' a2' a3' H' (new_back xr n) (new_back xr n1) (new_back xr n2) (new_back xr n3) o (xr.trans x)
  generalize (upd H r (.lst ((ws.map V.ref).drop m))) = H at hrl sh en q
  refine ⟨_, _, _, rfl, .inl ⟨_, rfl, _, rfl, ?_⟩⟩
  rw [if_neg (by simp only [Bool.not_eq_true', decide_eq_false_iff_not, Decidable.not_not]; omega)]
  intro x dx' nx ndx ne
  refine ⟨x, dx', rfl, upd_same, fun b1 b2 b3 H' n1 n2 n3 m12 m13 m23 hx h1 h2 h3 kp => ⟨rfl, ?_⟩⟩
  have xm := Ext.made (o := .ins cShelf dx' []) (o' := .own x) nx ndx ne
  have nxH := nx
  have x0 : Ext K H H' := (KpL.of kp).ext xm (by simpa using nxH)
  have sh' := sh.ext x0
  refine ⟨_, _, _, sh'.ins, c_Shelf, n_first_sheets, _, fs_first_sheets, _, rfl, _, .inl sh'.d0, fun D nD => ?_⟩
  have xD : x ≠ D := ne_of_none hx nD.1
  refine ⟨_, _, _, by rw [upd_ne xD]; exact hx, c_Shelf, n_sheets, len5, ?_⟩
  rw [fs_psheets]
  have nDH := new_back x0 nD
  have x1 : Ext K H (upd (upd H' D (.dK (dkv s.D0))) x (.ins cShelf dx' [(("sheets" : Str), .ref D), (("diary" : Str), .str ""), (("writes" : Str), .ref b2), (("first_sheets" : Str), .ref b3), (("first_diary" : Str), .str "")])) :=
    (KpL.upd (ps := [x]) (by rw [upd_ne xD]; exact hx) (by simp)).ext (x0.trans (.new nD)) (by simpa using nxH)
  have k2 : b2 ≠ x := fun z => by rw [z, hx] at h2; cases h2
  have k3 : b3 ≠ x := fun z => by rw [z, hx] at h3; cases h3
  have o1 : ShAt K (upd (upd H' D (.dK (dkv s.D0))) x (.ins cShelf dx' [(("sheets" : Str), .ref D), (("diary" : Str), .str ""), (("writes" : Str), .ref b2), (("first_sheets" : Str), .ref b3), (("first_diary" : Str), .str "")])) cShelf x dx' D b2 b3 ⟨s.D0, "", [], [], ""⟩ [] :=
    ⟨upd_same, by rw [upd_ne xD.symm, upd_same], by rw [upd_ne k2, upd_ne (ne_of_none h2 nD.1)]; exact h2, by rw [upd_ne k3, upd_ne (ne_of_none h3 nD.1)]; exact h3, (ne_of_none h3 nD.1).symm⟩
  have nb2 : new K H b2 := new_back xm n2
  have nb3 : new K H b3 := new_back xm n3
  generalize (upd (upd H' D (.dK (dkv s.D0))) x (.ins cShelf dx' [(("sheets" : Str), .ref D), (("diary" : Str), .str ""), (("writes" : Str), .ref b2), (("first_sheets" : Str), .ref b3), (("first_diary" : Str), .str "")])) = H1 at x1 o1
  have sh1 := sh.ext x1
  refine ⟨_, _, _, sh1.ins, c_Shelf, n_first_diary, _, fs_first_diary, _, _, _, rfl, c_Shelf, n_diary, len5, ?_⟩
  have o2 := o1.diary s.J0
  have x2 := (KpL.upd (ps := [x]) (o' := .ins cShelf dx' (putF "diary" (.str s.J0) [(("sheets" : Str), .ref D), (("diary" : Str), .str ""), (("writes" : Str), .ref b2), (("first_sheets" : Str), .ref b3), (("first_diary" : Str), .str "")])) o1.ins (by simp)).ext x1 (by simpa using nxH)
  dsimp only at o2
  generalize (upd H1 x (.ins cShelf dx' (putF "diary" (.str s.J0) [(("sheets" : Str), .ref D), (("diary" : Str), .str ""), (("writes" : Str), .ref b2), (("first_sheets" : Str), .ref b3), (("first_diary" : Str), .str "")]))) = H2 at x2 o2
  have sh2 := sh.ext x2
  refine ⟨_, _, _, sh2.ins, c_Shelf, n_writes, _, fs_writes, _, rfl, _, SqL.of sh2.w, fun t nt => ⟨⟨_, SqL.of upd_same⟩, ?_⟩⟩
  rw [cutV_to]
  have x3 : Ext K H (upd H2 t (.lst ((ws.map V.ref).take m))) := x2.trans (.new nt)
  have o3 := o2.fresh (o := .lst ((ws.map V.ref).take m)) nt
  have nt2 := o2.no nt
  have ht : (upd H2 t (.lst ((ws.map V.ref).take m))) t = some (.lst ((ws.map V.ref).take m)) := upd_same
  generalize (upd H2 t (.lst ((ws.map V.ref).take m))) = H3 at x3 o3 ht
  have news : ∀ q ∈ [x, D], new K H q := by
    intro q hq
    simp only [List.mem_cons, List.not_mem_nil, or_false] at hq
    rcases hq with rfl | rfl <;> assumption
  have tno : t ∉ [x, D] := by
    simp only [List.mem_cons, List.not_mem_nil, or_false, not_or]
    exact ⟨nt2.1, nt2.2.1⟩
  refine loop_list (xs := (ws.map V.ref).take m) (fun i σ' H' => ∃ v6 : Option V, σ' = [some (.ref p), some (.int (m : Int)), some (.int (g : Int)), some (.ref r), some (.int ((mostOf W m : Nat) : Int)), some (.ref x), v6] ∧ ShAt K H' cShelf x dx' D b2 b3 (s.bare.run (W.take i)) [] ∧ KpL K [x, D] H3 H') ⟨_, rfl, o3, .refl⟩ ?_ ?_ ?_
  · rintro i σ' H' _ ⟨v6, rfl, o4, k4⟩
    exact SqL.of (k4.keep t _ ht tno)
  · rintro i v σ' H' hv ⟨v6, rfl, o4, k4⟩
    have hi : i < m := by
      have := (List.getElem?_eq_some_iff.1 hv).1
      rw [List.length_take] at this
      omega
    have ea : ws[i]? = some (ws[i]'(by omega)) := List.getElem?_eq_getElem (by omega)
    have ee : W[i]? = some (W[i]'(by omega)) := List.getElem?_eq_getElem (by omega)
    rw [List.getElem?_take_of_lt hi, List.getElem?_map, ea] at hv
    cases hv
    have x4 := k4.ext x3 news
    obtain ⟨tu, sm⟩ := en.2 i _ _ ea ee
    have tu' := x4.tup tu
    try walk_at "rn"
    refine ⟨_, _, o4.ins, fs_no (by decide +kernel) (by decide +kernel) (by decide +kernel) (by decide +kernel) (by decide +kernel), ?_⟩
    refine ⟨_, _, rfl, tu', sm, ?_⟩
    have b1 := Sh.run_D (W.take i) s.bare
    have b2 := Sh.run_J (W.take i) (fun e h => en.smalls e (List.mem_of_mem_take h)) s.bare
    have b3 := Ent.signs_small sm
    have b4 : s.bare.D.length = s.D0.length := rfl
    have b5 : s.bare.J.length = s.J0.length := rfl
    rw [List.length_take] at b1 b2
    refine ⟨x, dx', D, _, _, _, _, _, _, _, rfl, o4, tu', by omega, by omega, fun H5 o5 k5 => ⟨?_, k4.trans k5 (fun _ z => z)⟩⟩
    rw [Sh.run_succ ee]
    exact o5
  rintro σ' H4 ⟨v6, rfl, o4, k4⟩
  rw [List.length_take, List.length_map, Nat.min_eq_left (by omega)] at o4
  have c1 := Sh.run_D (W.take m) s.bare
  have c2 := Sh.run_J (W.take m) (fun e h => en.smalls e (List.mem_of_mem_take h)) s.bare
  have c4 : s.bare.D.length = s.D0.length := rfl
  have c5 : s.bare.J.length = s.J0.length := rfl
  rw [List.length_take] at c1 c2
  refine ⟨fun σ' H' => σ' = [some (.ref p), some (.int (m : Int)), some (.int (g : Int)), some (.ref r), some (.int ((mostOf W m : Nat) : Int)), some (.ref x), v6] ∧ ShAt K H' cShelf x dx' D b2 b3 ((s.bare.run (W.take m)).tail W m g) [] ∧ KpL K [x, D] H3 H', ?_, ?_⟩
  · try walk_at "rn"
    by_cases z : g = 0
    · rw [if_neg (by omega)]
      unfold Sh.tail
      rw [if_pos z]
      exact ⟨o4, k4⟩
    · rw [if_pos (by omega)]
      have zm : m < W.length := by
        by_cases zz : m < W.length
        · exact zz
        · have em : mostOf W m = 0 := by unfold mostOf; rw [List.getElem?_eq_none (by omega)]
          omega
      have ea : ws[m]? = some (ws[m]'(by omega)) := List.getElem?_eq_getElem (by omega)
      have ee : W[m]? = some (W[m]'zm) := List.getElem?_eq_getElem zm
      have ed : (ws.map V.ref).drop m = V.ref (ws[m]'(by omega)) :: (ws.map V.ref).drop (m + 1) := by
        rw [List.drop_eq_getElem_cons (by simpa using by omega)]
        simp
      have em : mostOf W m = (W[m]'zm).signs.length - 1 := by unfold mostOf; rw [ee]
      have x4 := k4.ext x3 news
      obtain ⟨tu, sm⟩ := en.2 m _ _ ea ee
      have tu' := x4.tup tu
      have ss := Ent.signs_small sm
      have rl := seqQ_lst (K := K) (x4.same _ _ hrl)
      rw [ed] at rl
      refine ⟨_, _, o4.ins, fs_no (by decide +kernel) (by decide +kernel) (by decide +kernel) (by decide +kernel) (by decide +kernel), _, rl, _, atI0, _, rl, _, atI0, ?_⟩
      have sl := slice_len (W[m]'zm).signs g (by omega)
      unfold cutT at sl
      refine ⟨_, _, rfl, tu', sm, _, rfl, by omega, ?_⟩
      refine ⟨x, dx', D, _, _, _, _, _, _, _, rfl, o4, tu', by omega, by omega, fun H5 o5 k5 => ⟨?_, k4.trans k5 (fun _ z => z)⟩⟩
      unfold Sh.tail
      rw [if_neg z, ee]
      exact o5
  rintro _ H5 ⟨rfl, o5, k5⟩
  have x5 := k5.ext x3 news
  try walk_at "rn"
  refine ⟨_, _, _, o5.ins, c_Shelf, n_sheets, _, fs_sheets, _, rfl, _, .inl o5.d, fun D0 nD0 => ?_⟩
  have nn := o5.no nD0
  refine ⟨_, _, _, by rw [upd_ne nn.1.symm]; exact o5.ins, c_Shelf, n_first_sheets, len5, ?_⟩
  rw [fs_pfs]
  refine ⟨_, _, _, rfl, c_Shelf, n_diary, _, fs_diary, _, _, _, rfl, c_Shelf, n_first_diary, len5, ?_⟩
  rw [fs_pfd, upd_upd]
  have kx : D ≠ x := fun z => by have := o5.d; rw [z, o5.ins] at this; cases this
  have kb : b2 ≠ x := fun z => by have := o5.w; rw [z, o5.ins] at this; cases this
  refine q x dx' D b2 D0 _ nxH nDH nb2 (new_back x5 nD0) ⟨upd_same, ?_, ?_, ?_, nn.2.1.symm⟩ ((KpL.upd (ps := [x]) (by rw [upd_ne nn.1.symm]; exact o5.ins) (by simp)).ext (x5.trans (.new nD0)) (by simpa using nxH))
  · rw [upd_ne kx, upd_ne nn.2.1.symm]
    exact o5.d
  · rw [upd_ne kb, upd_ne nn.2.2.1.symm]
    exact o5.w
  · rw [upd_ne nn.1, upd_same]
    rfl
def BadN (v : V) (n : Nat) : Prop := (∃ i, v = .int i ∧ ¬ (0 ≤ i ∧ i ≤ (n : Int))) ∨ (∃ b, v = .bl b) ∨ v = .non ∨ ∃ s, v = .str s
theorem BadN.num {H : Hp} {v : V} {n : Nat} (h : BadN v n) : (∃ i, v = .int i ∧ ¬ (0 ≤ i ∧ i ≤ (n : Int))) ∨ NumQ K H v false := by
  rcases h with h | ⟨b, rfl⟩ | rfl | ⟨s, rfl⟩
  · exact .inl h
  · exact .inr .bl
  · exact .inr .non
  · exact .inr .str
def BadCut (W : List Ent) (v u : V) : Prop := BadN v W.length ∨ ∃ m : Nat, v = .int (m : Int) ∧ m ≤ W.length ∧ BadN u (mostOf W m)
def spAfterX (K : PySem.W.Frag) (cShelf cC : Addr) : Sp := fun vs H _ E => ∃ p dx a1 a2 a3 s ws W v u, vs = [.ref p, v, u] ∧ ShAt K H cShelf p dx a1 a2 a3 s ws ∧ EntsAt K H ws W ∧ BadCut W v u ∧ ∀ H', Ext K H H' → E (.ref cC) none H'
theorem okx_Shelf_after {f cShelf : Addr} {fd : FuncData} (F : Fun K "after" "Shelf.after" s_Shelf_after f fd) {cF cN cC : Addr} {tP : Tok} (B : B K mg cF cN cC tP) (C_is_whole : Callee P w K mg base "is_whole" 2 ["thing", "low", "high"] (spWholeI K)) (C_signs_of : Callee P w K mg base "signs_of" 1 ["entry"] (spSigns K)) (MC_Shelf_carry_out : MethC P w K mg base cShelf "carry_out" 1 ["self", "entry", "signs"] [] (spCarry K cShelf))
    (M_Shelf : Maker P w K mg base "Shelf" 1 ["self"] [] cShelf (spInitS cShelf K)) (c_Shelf : Cls K cShelf) (n_sheets : NoAttr K cShelf "sheets") (n_diary : NoAttr K cShelf "diary") (n_writes : NoAttr K cShelf "writes") (n_first_sheets : NoAttr K cShelf "first_sheets") (n_first_diary : NoAttr K cShelf "first_diary") : FnOk P w K mg base (CXO P w) 3 f fd ["self", "many", "signs"] (spAfterX K cShelf cC) := by
  refine F.okX sc_Shelf_after (fun vs H Q E h => ?_) (fun cdv A outer s H vs Q E hr h => ?_)
  · obtain ⟨p, dx, a1, a2, a3, s, ws, W, v, u, rfl, _⟩ := h
    rfl
  obtain ⟨p, dx, a1, a2, a3, s, ws, W, v, u, rfl, sh, en, bad, q⟩ := h
  refine ⟨_, (bcons (sif (tnot (tval (ecall C_is_whole (hr.mono (by decide)) rfl (acons (ev 1) (acons ei (acons (ecallB call_lenQ rfl B.len bt_len (acons (efld (ev 0)) anil)) anil)))))) (bone (sraise B.x_NoCut B.NoCut hr.hd rfl)) bnil)
      (bcons (sset (i := 3) sc_Shelf_after.nd rfl (Or.inl rfl) (eslice sl_listQ (efld (ev 0)) (osome (ev 1)) onone))
      (bcut (sset (i := 4) sc_Shelf_after.nd rfl (Or.inl rfl) (eif (ttruth (ev 3) (fun _ => rfl)) (ecallB (call_max2 rfl) rfl B.max bt_max (acons (eop op_sub (ecallB call_len_str rfl B.len bt_len (acons (ecall C_signs_of (hr.mono (by decide)) rfl (acons (eix ix_Q (ev 3) ei (fun _ _ => rfl)) anil)) anil)) ei) (acons ei anil))) ei))
      (bcons (sif (tnot (tval (ecall C_is_whole (hr.mono (by decide)) rfl (acons (ev 2) (acons ei (acons (ev 4) anil)))))) (bone (sraise B.x_NoCut B.NoCut hr.hd rfl)) bnil)
      (bcons (sset (i := 5) sc_Shelf_after.nd rfl (Or.inl rfl) (emake0 M_Shelf (hr.mono (by decide)) rfl))
      (bcons (sfld (ev 5) (ecallTy call_dictC rfl B.dict bt_dict (acons (efld (ev 0)) anil)))
      (bcons (sfld (ev 5) (efld (ev 0)))
      (bcons snever
      (bcut (sif (tcmp op_gt (ev 2) ei (nomark _)) (bone (sexpr (emeth MC_Shelf_carry_out c_Shelf (hr.mono (by decide)) (ev 5) (acons (eix ix_Q (ev 3) ei (fun _ _ => rfl)) (acons (eslice sl_str (ecall C_signs_of (hr.mono (by decide)) rfl (acons (eix ix_Q (ev 3) ei (fun _ _ => rfl)) anil)) onone (osome (ev 2))) anil))))) bnil)
      (bcons (sfld (ev 5) (ecallTy call_dictC rfl B.dict bt_dict (acons (efld (ev 5)) anil)))
      (bcons (sfld (ev 5) (efld (ev 5)))
      (bone (sret (ev 5)))))))))))))), ?_⟩
  try walk_at "rn"
  refine ⟨_, _, _, sh.ins, c_Shelf, n_writes, _, fs_writes, _, rfl, _, seqQ_lst sh.w, ?_⟩
  have lw : ws.length = W.length := en.1
  rcases bad with bad | ⟨m, rfl, hm, bad⟩
  · rcases bad.num (K := K) (H := H) with ⟨i, rfl, hi⟩ | hn
    · refine ⟨_, _, _, rfl, .inl ⟨_, rfl, _, rfl, ?_⟩⟩
      rw [if_pos (by simp only [List.length_map, Bool.not_eq_true', decide_eq_false_iff_not, lw]; exact hi)]
      exact q _ .refl
    · refine ⟨_, _, _, rfl, .inr ⟨hn, _, rfl, ?_⟩⟩
      rw [if_pos (by decide)]
      exact q _ .refl
  refine ⟨_, _, _, rfl, .inl ⟨_, rfl, _, rfl, ?_⟩⟩
  rw [if_neg (by simp only [List.length_map, Bool.not_eq_true', decide_eq_false_iff_not, Decidable.not_not]; omega)]
  refine ⟨_, _, _, sh.ins, c_Shelf, n_writes, _, fs_writes, _, rfl, _, rfl, _, SqL.of sh.w, fun r nr => ?_⟩
  rw [cutV_from]
  have xr : Ext K H (upd H r (.lst ((ws.map V.ref).drop m))) := .new nr
  refine ⟨fun σ' H' => σ' = [some (.ref p), some (.int (m : Int)), some u, some (.ref r), some (.int ((mostOf W m : Nat) : Int)), none, none] ∧ H' = upd H r (.lst ((ws.map V.ref).drop m)), ?_, ?_⟩
  · try walk_at "rn"
    by_cases z : m < W.length
    · have ea : ws[m]? = some (ws[m]'(by omega)) := List.getElem?_eq_getElem (by omega)
      have ee : W[m]? = some (W[m]'z) := List.getElem?_eq_getElem z
      obtain ⟨tu, sm⟩ := en.2 m _ _ ea ee
      have ed : (ws.map V.ref).drop m = V.ref (ws[m]'(by omega)) :: (ws.map V.ref).drop (m + 1) := by
        rw [List.drop_eq_getElem_cons (by simpa using by omega)]
        simp
      have em : mostOf W m = (W[m]'z).signs.length - 1 := by unfold mostOf; rw [ee]
      have ss := Ent.signs_small sm
      refine ⟨true, tru_seq (b := false) (SqL.of upd_same) (by rw [ed]; rfl), ?_⟩
      rw [if_pos rfl]
      refine ⟨_, by rw [ed]; exact atI0, _, _, rfl, xr.tup tu, sm, _, rfl, by omega, ?_, rfl⟩
      rw [em]
      split <;> omega
    · have ed : (ws.map V.ref).drop m = [] := List.drop_of_length_le (by simp; omega)
      have em : mostOf W m = 0 := by unfold mostOf; rw [List.getElem?_eq_none (by omega)]
      refine ⟨false, tru_seq (b := true) (SqL.of upd_same) (by rw [ed]; rfl), ?_⟩
      rw [if_neg (by decide), em]
      rfl
  rintro _ _ ⟨rfl, rfl⟩
  try walk_at "rn"
  rcases bad.num (K := K) (H := upd H r (.lst ((ws.map V.ref).drop m))) with ⟨i, rfl, hi⟩ | hn
  · refine ⟨_, _, _, rfl, .inl ⟨_, rfl, _, rfl, ?_⟩⟩
    rw [if_pos (by simp only [Bool.not_eq_true', decide_eq_false_iff_not]; exact hi)]
    exact q _ xr
  · refine ⟨_, _, _, rfl, .inr ⟨hn, _, rfl, ?_⟩⟩
    rw [if_pos (by decide)]
    exact q _ xr
end
section
variable {P : Program} {w : World} {K : PySem.W.Frag} {mg : Str → Option Value} {base : Heap}
def Alk (K : PySem.W.Frag) (H : Hp) : Nat → V → V → Prop
  | 0, _, _ => False
  | n + 1, u, v => (u = v ∧ ((∃ i, v = .int i) ∨ v = .non ∨ ∃ s, v = .str s)) ∨
    (∃ a b xs ys, u = .ref a ∧ v = .ref b ∧ H a = some (.lst xs) ∧ H b = some (.lst ys) ∧ xs.length = ys.length ∧ xs.length ≤ 1000 ∧ ∀ (i : Nat) x y, xs[i]? = some x → ys[i]? = some y → Alk K H n x y) ∨
    (∃ a b xs ys, u = .ref a ∧ v = .ref b ∧ tupQ K H a = some xs ∧ tupQ K H b = some ys ∧ xs.length = ys.length ∧ xs.length ≤ 1000 ∧ ∀ (i : Nat) x y, xs[i]? = some x → ys[i]? = some y → Alk K H n x y)
theorem Alk.ext {H H' : Hp} (x : Ext K H H') : ∀ {n : Nat} {u v : V}, Alk K H n u v → Alk K H' n u v
  | 0, _, _, h => h
  | n + 1, u, v, h => by
    rcases h with h | ⟨a, b, xs, ys, rfl, rfl, h1, h2, l1, l2, h⟩ | ⟨a, b, xs, ys, rfl, rfl, h1, h2, l1, l2, h⟩
    · exact .inl h
    · exact .inr (.inl ⟨a, b, xs, ys, rfl, rfl, x.at h1, x.at h2, l1, l2, fun i p q e f => (h i p q e f).ext x⟩)
    · exact .inr (.inr ⟨a, b, xs, ys, rfl, rfl, x.tup h1, x.tup h2, l1, l2, fun i p q e f => (h i p q e f).ext x⟩)
theorem Alk.int {H : Hp} {n : Nat} {i : Int} : Alk K H (n + 1) (.int i) (.int i) := .inl ⟨rfl, .inl ⟨_, rfl⟩⟩
theorem Alk.str {H : Hp} {n : Nat} {s : Str} : Alk K H (n + 1) (.str s) (.str s) := .inl ⟨rfl, .inr (.inr ⟨_, rfl⟩)⟩
def spAlk (K : PySem.W.Frag) (n : Nat) : Sp := fun vs H Q _ => ∃ u v, vs = [u, v] ∧ Alk K H n u v ∧ ∀ H', Ext K H H' → Q (.bl true) H'
theorem isI {H : Hp} {v : V} {t : Value} {n : String} {b : Bool} {R : Bool → Prop} (h : TyQ K H v t) (e : PySem.W.kitOne K t (.type n) = some b) (r : R b) : ∃ x, TyQ K H v x ∧ ∃ y, PySem.W.kitOne K x (.type n) = some y ∧ R y := ⟨t, h, b, e, r⟩
theorem no_if {a b : Prop} (h : b) : if false = true then a else b := by rw [if_neg (by decide)]; exact h
theorem yes_if {a b : Prop} (h : a) : if true = true then a else b := by rw [if_pos rfl]; exact h
theorem not_if {a b : Prop} (h : a) : if (!false) = true then a else b := by rw [Bool.not_false, if_pos rfl]; exact h
theorem same_if {x : Bool} {a b : Prop} (h : b) : if (!decide (x = x)) = true then a else b := by rw [decide_eq_true rfl]; exact no_if h
theorem trues (n : Nat) : (List.replicate n true).map V.bl = List.replicate n (.bl true) := by rw [List.map_replicate]
theorem all_trues (n : Nat) : (List.replicate n true).all id = true := by
  rw [List.all_eq_true]
  intro b hb
  rw [(List.mem_replicate.1 hb).2]
  rfl
theorem alk_turn {n : Nat} {H H' : Hp} {D T : Addr} {i : Nat} {x y : V} {R : List V → St → Hp → Prop} {Z : St → Hp → Prop} {v0 v1 : Option V} (hn : Alk K H n x y) (xH : Ext K H H') (hD : H' D = some (.lst (List.replicate i (.bl true)))) (hi : i < 1000) (nT : new K H' T)
    (r : ∀ H2, Kp K D H' H2 → H2 D = some (.lst (List.replicate (i + 1) (.bl true))) → R (List.replicate i (.bl true) ++ [.bl true]) [some x, some y] H2) :
    gTupQ K 2 (gCons (gName 0) (gCons (gName 1) gNil)) (.ref T) [v0, v1] (upd H' T (.tup [x, y])) fun σ2 H2 => tYes σ2 H2 fun b H3 => if b = true then tCall (spAlk K n) [] E0 (tCons (tVar 0) (tCons (tVar 1) tNil)) σ2 H3 fun v H4 => H4 D = some (.lst (List.replicate i (.bl true))) ∧ (List.replicate i (V.bl true)).length < sizeLine ∧ R (List.replicate i (.bl true) ++ [v]) σ2 (upd H4 D (.lst (List.replicate i (.bl true) ++ [v]))) else Z σ2 H3 := by
  simp only [tSeq, tNext, tIfS, tAsg, gName, gSub, tRet, tRetN, tDrop, tVar, tC, tOp, tUn, rI0, rI, rU, tTest, tB, tAndV, tOrV, tNotV, tAnd, tOr, tNot, tIf, tChain, tCB, tCons, tNil, tLst, tTup, tCallC, List.getElem?_cons_zero, List.getElem?_cons_succ, List.set_cons_zero, List.set_cons_succ, Option.some.injEq, V.int.injEq, V.bl.injEq, V.ref.injEq, V.ty.injEq, V.str.injEq, List.cons.injEq, exists_eq_left', exists_eq_left, exists_and_left, and_true, true_and, and_assoc, cxK, rIxF, rSetL, rEq, rNe, scal, HO.lst.injEq, HO.tup.injEq, upd_none, ixN_10, ixN_20, ixN_21, ixN_30, ixN_31, ixN_32, upd_same, seqAt_updL, seqAt_updT, atI_0, atI_1, atI_2, atI_3, decide_eq_true_eq, L2.start, List.map_cons, List.map_nil, List.length_cons, List.length_nil, Nat.reduceAdd, Nat.reduceSub, List.replicate_succ, List.replicate_zero, List.cons_append, List.nil_append, List.append_nil, tFor_rng1, tFor_rng2, tFor_list, tFor_tup, CDv, CMul, CPow, sizeLine_eq, Int.reduceLE, Int.reduceLT, Int.reducePow, Int.reduceToNat, Int.reduceAdd, Int.reduceSub, Int.reduceMul, Int.reduceNeg, Nat.reduceLeDiff, Nat.reducePow, Nat.reduceLT, Int.reduceEq, true_or, or_true, ite_true, ite_false, if_true, if_false, Bool.not_true, Bool.not_false, Bool.false_eq_true, decide_true, decide_false, rIxQ, seqQ_updL, seqQ_updT, tupQ_updT, tSl, tNoPart, tPart, rSlQ, rSlTX, rCatQ, tTupQ, tLstQ, tNever, rEqD, rInQ, gTupQ, gCons, gNil, tBM, rAppend, tMakeQ, sFld, tFld, sFldAug, tMeth, tDNewQ, tFor_list, rSlS, tLc_zipS, tLcD, tBM0, rExtend, tLc_rng1, tLc_list, tLc_tup, pick_nil, pick_own, pick_cap, join_some, tYes, tyV, tDGet, rIxS, rJoin, sDPut, rNeE, tTry, Ends.gone, tRaise, cxN, tCall, tYes]
  have xT := Ext.new (K := K) (o := .tup [x, y]) nT
  refine ⟨x, y, rfl, hn.ext (xH.trans xT), fun H2 x2 => ?_⟩
  have hD2 := (xT.trans x2).at hD
  have er : List.replicate i (V.bl true) ++ [.bl true] = List.replicate (i + 1) (.bl true) := (List.replicate_succ' ..).symm
  refine ⟨hD2, by rw [List.length_replicate]; omega, r _ ((xT.trans x2).kp.trans (Kp.upd hD2)) (by rw [upd_same, er])⟩
theorem alk_lists {n : Nat} {H : Hp} {a b D : Addr} {xs ys : List V} {R : Hp → Prop} (h1 : H a = some (.lst xs)) (h2 : H b = some (.lst ys)) (l1 : xs.length = ys.length) (l2 : xs.length ≤ 1000) (h : ∀ (i : Nat) x y, xs[i]? = some x → ys[i]? = some y → Alk K H n x y) (nD : new K H D)
    (fin : ∀ H', H' D = some (.lst ((List.replicate xs.length true).map V.bl)) → Ext K H H' → R H') : LcLoop (Itz K a b) (gTupQ K 2 (gCons (gName 0) (gCons (gName 1) gNil))) tYes (tCall (spAlk K n) [] E0 (tCons (tVar 0) (tCons (tVar 1) tNil))) D R [none, none] (upd H D (.lst [])) := by
  refine lc_zip (xs := xs) (ys := ys) (fun i acc σ' H' => ∃ v0 v1 : Option V, σ' = [v0, v1] ∧ acc = List.replicate i (.bl true) ∧ H' D = some (.lst acc) ∧ Kp K D (upd H D (.lst [])) H') l1 ⟨_, _, rfl, rfl, upd_same, Kp.refl⟩ ?_ ?_ ?_
  · rintro i acc σ' H' _ ⟨_, _, rfl, rfl, hD, k⟩
    exact ⟨SqL.of ((k.ext nD).at h1), SqL.of ((k.ext nD).at h2)⟩
  · rintro i x y acc σ' H' T hx hy ⟨_, _, rfl, rfl, hD, k⟩ nT
    have hi := (List.getElem?_eq_some_iff.1 hx).1
    exact alk_turn (R := fun acc σ H2 => ∃ v0 v1 : Option V, σ = [v0, v1] ∧ acc = List.replicate (i + 1) (.bl true) ∧ H2 D = some (.lst acc) ∧ Kp K D (upd H D (.lst [])) H2) (h i x y hx hy) (k.ext nD) hD (by omega) nT fun H2 k2 e2 => ⟨_, _, rfl, (List.replicate_succ' ..).symm, by rw [e2, List.replicate_succ'], k.trans k2⟩
  · rintro acc σ' H' ⟨_, _, rfl, rfl, hD, k⟩
    rw [← trues] at hD
    exact fin H' hD (k.ext nD)
theorem alk_tuples {n : Nat} {H : Hp} {a b D : Addr} {xs ys : List V} {R : Hp → Prop} (h1 : tupQ K H a = some xs) (h2 : tupQ K H b = some ys) (l1 : xs.length = ys.length) (l2 : xs.length ≤ 1000) (h : ∀ (i : Nat) x y, xs[i]? = some x → ys[i]? = some y → Alk K H n x y) (nD : new K H D)
    (fin : ∀ H', H' D = some (.lst ((List.replicate xs.length true).map V.bl)) → Ext K H H' → R H') : LcLoop (ItzT K a b) (gTupQ K 2 (gCons (gName 0) (gCons (gName 1) gNil))) tYes (tCall (spAlk K n) [] E0 (tCons (tVar 0) (tCons (tVar 1) tNil))) D R [none, none] (upd H D (.lst [])) := by
  refine lc_zipT (xs := xs) (ys := ys) (fun i acc σ' H' => ∃ v0 v1 : Option V, σ' = [v0, v1] ∧ acc = List.replicate i (.bl true) ∧ H' D = some (.lst acc) ∧ Kp K D (upd H D (.lst [])) H') l1 ⟨_, _, rfl, rfl, upd_same, Kp.refl⟩ ?_ ?_ ?_
  · rintro i acc σ' H' _ ⟨_, _, rfl, rfl, hD, k⟩
    exact ⟨tupQ_sq ((k.ext nD).tup h1), tupQ_sq ((k.ext nD).tup h2)⟩
  · rintro i x y acc σ' H' T hx hy ⟨_, _, rfl, rfl, hD, k⟩ nT
    have hi := (List.getElem?_eq_some_iff.1 hx).1
    exact alk_turn (R := fun acc σ H2 => ∃ v0 v1 : Option V, σ = [v0, v1] ∧ acc = List.replicate (i + 1) (.bl true) ∧ H2 D = some (.lst acc) ∧ Kp K D (upd H D (.lst [])) H2) (h i x y hx hy) (k.ext nD) hD (by omega) nT fun H2 k2 e2 => ⟨_, _, rfl, (List.replicate_succ' ..).symm, by rw [e2, List.replicate_succ'], k.trans k2⟩
  · rintro acc σ' H' ⟨_, _, rfl, rfl, hD, k⟩
    rw [← trues] at hD
    exact fin H' hD (k.ext nD)
theorem sc__law_alike : FnScope ["_law_found", "_law_due"] ["_law_found", "_law_due"] (defScope s__law_alike) := ⟨rfl, rfl, rfl, by decide +kernel, rfl, by decide +kernel, by decide +kernel⟩
theorem step__law_alike {n : Nat} {f : Addr} {fd : FuncData} (F : Fun K "_law_alike" "_law_alike" s__law_alike f fd) {cF cN cC : Addr} {tP : Tok} (B : B K mg cF cN cC tP) (C__law_alike : Callee P w K mg base "_law_alike" n ["_law_found", "_law_due"] (spAlk K n)) : FnOk P w K mg base CX0 (n + 1) f fd ["_law_found", "_law_due"] (spAlk K (n + 1)) := by
  refine F.okJ sc__law_alike (fun vs H Q E h => ?_) (fun cdv A outer s H vs Q E hr h => ?_)
  · obtain ⟨u, v, rfl, _⟩ := h
    rfl
  obtain ⟨u, v, rfl, h, q⟩ := h
  refine ⟨_, (bcons (sif (tw (wor (tval (ecallB call_isinstQ rfl B.isinstance bt_isinstance (acons (ev 1) (acons (etyp rfl B.list bt_list) anil)))) (wor1 (tval (ecallB call_isinstQ rfl B.isinstance bt_isinstance (acons (ev 1) (acons (etyp rfl B.tuple bt_tuple) anil))))))) (bcons (sif (tw (wor (tcmp op_ne (ecallB call_isinstQ rfl B.isinstance bt_isinstance (acons (ev 0) (acons (etyp rfl B.list bt_list) anil))) (ecallB call_isinstQ rfl B.isinstance bt_isinstance (acons (ev 1) (acons (etyp rfl B.list bt_list) anil))) (nomark _)) (wor1 (tcmp op_ne (ecallB call_isinstQ rfl B.isinstance bt_isinstance (acons (ev 0) (acons (etyp rfl B.tuple bt_tuple) anil))) (ecallB call_isinstQ rfl B.isinstance bt_isinstance (acons (ev 1) (acons (etyp rfl B.tuple bt_tuple) anil))) (nomark _))))) (bone (sret ebl)) bnil)
      (bone (sret (eand (ecmp op_eq (ecallB call_lenA rfl B.len bt_len (acons (ev 0) anil)) (ecallB call_lenA rfl B.len bt_len (acons (ev 1) anil)) (nomark _)) (eone (ecallB (call_allL rfl) rfl B.all bt_all (acons (elc (Cap.mk (N := ["_law_one", "_law_other"]) (src := [none, none]) rfl rfl) rfl (izipS rfl B.zip (acons (ev 0) (acons (ev 1) anil))) (fun _ _ _ _ => (gtupQK K (n := 2) rfl (gcons (gname (i := 0) (show (["_law_one", "_law_other"] : List Str).Nodup from by decide +kernel) rfl (Or.inl rfl)) (gcons (gname (i := 1) (show (["_law_one", "_law_other"] : List Str).Nodup from by decide +kernel) rfl (Or.inl rfl)) gnil)))) (fun _ _ _ _ => fnone) (fun _ _ _ _ => (ecall C__law_alike (hr.mono (by omega)) rfl (acons (ev 0) (acons (ev 1) anil))))) anil))))))) bnil)
      (bcons (sif (tval (ecallB call_isinstQ rfl B.isinstance bt_isinstance (acons (ev 1) (acons (etyp rfl B.dict bt_dict) anil)))) (bcons (sif (tw (wor (tnot (tval (ecallB call_isinstQ rfl B.isinstance bt_isinstance (acons (ev 0) (acons (etyp rfl B.dict bt_dict) anil))))) (wor1 (tcmp op_ne (ecallB call_lenA rfl B.len bt_len (acons (ev 0) anil)) (ecallB call_lenA rfl B.len bt_len (acons (ev 1) anil)) (nomark _))))) (bone (sret ebl)) bnil)
      (bone (sret (ecallB (call_allL rfl) rfl B.all bt_all (acons (elcD (Cap.mk (N := ["_law_key", "_law_found", "_law_due"]) (src := [none, some 0, some 1]) rfl rfl) rfl (ev 1) (fun _ _ _ _ => (gname (i := 0) (show (["_law_key", "_law_found", "_law_due"] : List Str).Nodup from by decide +kernel) rfl (Or.inl rfl))) (fun _ _ _ _ => fnone) (fun _ _ _ _ => (eand (ecmp (op_inD hr.units) (ev 0) (ev 1) (by with_unfolding_all rfl)) (eone (ecall C__law_alike (hr.mono (by omega)) rfl (acons (edget hr.units (ev 1) (ev 0) (fun _ _ => rfl)) (acons (edget hr.units (ev 2) (ev 0) (fun _ _ => rfl)) anil))))))) anil))))) bnil)
      (bcons (sif (tw (wor (tcmp op_isN (ev 1) enon (nomark _)) (wor1 (tval (ecallB call_isinstQ rfl B.isinstance bt_isinstance (acons (ev 1) (acons (etyp rfl B.str bt_str) anil))))))) (bone (sret (eand (ecmp op_eq (ev 0) (ev 1) (nomark _)) (eone (ecmp op_eq (ecallB call_isinstQ rfl B.isinstance bt_isinstance (acons (ev 0) (acons (etyp rfl B.str bt_str) anil))) (ecallB call_isinstQ rfl B.isinstance bt_isinstance (acons (ev 1) (acons (etyp rfl B.str bt_str) anil))) (nomark _)))))) bnil)
      (bone (sret (eand (ecallB call_isinstQ rfl B.isinstance bt_isinstance (acons (ev 0) (acons (etyp rfl B.int bt_int) anil))) (eand (enot (ecallB call_isinstQ rfl B.isinstance bt_isinstance (acons (ev 0) (acons (etyp rfl B.bool bt_bool) anil)))) (eone (ecmp op_eq (ev 0) (ev 1) (nomark _)))))))))), ?_⟩
  try walk_at "rn"
  rcases h with ⟨rfl, ⟨i, rfl⟩ | rfl | ⟨s', rfl⟩⟩ | ⟨a, b, xs, ys, rfl, rfl, h1, h2, l1, l2, h⟩ | ⟨a, b, xs, ys, rfl, rfl, h1, h2, l1, l2, h⟩
  · have ty : TyQ K H (.int i) (.type "int") := .inl (.int i)
    refine isI ty rfl (no_if (isI ty rfl (no_if (isI ty rfl (no_if ?_)))))
    rw [if_neg (fun e => by cases e)]
    refine isI ty rfl (no_if (isI ty rfl (yes_if (isI (b := false) ty rfl (not_if ⟨rfl, ?_⟩)))))
    rw [decide_eq_true rfl]
    exact q _ Ext.refl
  · have ty : TyQ K H .non (.type "NoneType") := .inl .non
    refine isI ty rfl (no_if (isI ty rfl (no_if (isI ty rfl (no_if ?_)))))
    rw [if_pos rfl]
    refine ⟨rfl, ?_⟩
    rw [if_pos rfl]
    refine isI ty rfl (isI ty rfl ?_)
    exact q _ Ext.refl
  · have ty : TyQ K H (.str s') (.type "str") := .inl (.str s')
    refine isI ty rfl (no_if (isI ty rfl (no_if (isI ty rfl (no_if ?_)))))
    rw [if_neg (fun e => by cases e)]
    refine isI ty rfl (yes_if ⟨rfl, ?_⟩)
    rw [if_pos rfl]
    refine isI ty rfl (isI ty rfl ?_)
    exact q _ Ext.refl
  · have ta : TyQ K H (.ref a) (.type "list") := .inl (.lst h1)
    have tb : TyQ K H (.ref b) (.type "list") := .inl (.lst h2)
    refine isI tb rfl (yes_if (isI ta rfl (isI tb rfl (same_if (isI ta rfl (isI tb rfl (same_if (.inl ⟨a, rfl, xs, seqQ_lst h1, .inl ⟨b, rfl, ys, seqQ_lst h2, ?_⟩⟩))))))))
    rw [if_pos (by rw [l1])]
    refine ⟨a, rfl, b, rfl, .inl ⟨⟨_, SqL.of h1⟩, ⟨_, SqL.of h2⟩, fun D nD => alk_lists h1 h2 l1 l2 h nD fun H' hD x => ⟨_, SqL.of hD, ?_⟩⟩⟩
    rw [all_trues]
    exact q _ x
  · have ta : TyQ K H (.ref a) (.type "tuple") := .tup h1
    have tb : TyQ K H (.ref b) (.type "tuple") := .tup h2
    refine isI tb rfl (no_if (isI tb rfl (yes_if (isI ta rfl (isI tb rfl (same_if (isI ta rfl (isI tb rfl (same_if (.inl ⟨a, rfl, xs, seqQ_T h1, .inl ⟨b, rfl, ys, seqQ_T h2, ?_⟩⟩))))))))))
    rw [if_pos (by rw [l1])]
    refine ⟨a, rfl, b, rfl, .inr ⟨⟨_, tupQ_sq h1⟩, ⟨_, tupQ_sq h2⟩, fun D nD => alk_tuples h1 h2 l1 l2 h nD fun H' hD x => ⟨_, SqL.of hD, ?_⟩⟩⟩
    rw [all_trues]
    exact q _ x
theorem base__law_alike {f : Addr} {fd : FuncData} : FnOk P w K mg base CX0 0 f fd ["_law_found", "_law_due"] (spAlk K 0) :=
  ⟨fun _ _ _ _ h => let ⟨_, _, _, h, _⟩ := h; h.elim, fun _ _ _ _ _ _ _ _ _ _ _ _ _ h => let ⟨_, _, _, h, _⟩ := h; h.elim⟩
theorem rec__law_alike {f : Addr} {fd : FuncData} (F : Fun K "_law_alike" "_law_alike" s__law_alike f fd) {cF cN cC : Addr} {tP : Tok} (B : B K mg cF cN cC tP) (b : Binds K fd ["_law_found", "_law_due"] []) (kp : PySem.W.keepIn K (.ref f) = true) (m : mg "_law_alike" = some (.ref f)) : ∀ n : Nat, FnOk P w K mg base CX0 n f fd ["_law_found", "_law_due"] (spAlk K n)
  | 0 => base__law_alike
  | n + 1 => step__law_alike F B ⟨f, fd, rec__law_alike F B b kp m n, b, kp, m⟩
theorem ok__law_alike {f : Addr} {fd : FuncData} (F : Fun K "_law_alike" "_law_alike" s__law_alike f fd) {cF cN cC : Addr} {tP : Tok} (B : B K mg cF cN cC tP) (b : Binds K fd ["_law_found", "_law_due"] []) (kp : PySem.W.keepIn K (.ref f) = true) (m : mg "_law_alike" = some (.ref f)) : FnOk P w K mg base CX0 3 f fd ["_law_found", "_law_due"] (spAlk K 3) := rec__law_alike F B b kp m 3
end
section
variable {P : Program} {w : World} {K : PySem.W.Frag} {mg : Str → Option Value} {base : Heap}
def L3 (x y z : Int) : HO := .lst [.int x, .int y, .int z]
def Wl (H : Hp) (p : Addr) : Prop := (∃ x, H p = some (.lst [.int x])) ∨ ∃ x y z, H p = some (L3 x y z)
theorem Wl.ext {K : PySem.W.Frag} {H H' : Hp} {p : Addr} (h : Wl H p) (x : Ext K H H') : Wl H' p := by
  rcases h with ⟨u, h⟩ | ⟨u, v, z, h⟩
  · exact .inl ⟨u, x.at h⟩
  · exact .inr ⟨u, v, z, x.at h⟩
theorem Wl.ne {K : PySem.W.Frag} {H : Hp} {p b : Addr} (h : Wl H p) (n : new K H b) : b ≠ p := by
  rcases h with ⟨u, h⟩ | ⟨u, v, z, h⟩
  · exact (ne_of_none h n.1).symm
  · exact (ne_of_none h n.1).symm
theorem Wl.upd {H : Hp} {p b : Addr} {o : HO} (h : Wl H p) (n : p ≠ b) : Wl (upd H b o) p := by
  rcases h with ⟨u, h⟩ | ⟨u, v, z, h⟩
  · exact .inl ⟨u, by rw [upd_ne n]; exact h⟩
  · exact .inr ⟨u, v, z, by rw [upd_ne n]; exact h⟩
def spCell (K : PySem.W.Frag) : Sp := fun vs H Q _ => ∃ (a : Addr) (ns : List Int) (k : Int), vs = [.ref a, .int k] ∧ SqL K H a (ns.map V.int) ∧ 0 ≤ k ∧ ∀ n, Q (.int n) H
theorem sc__law_cell_at : FnScope ["_law_script", "_law_k"] ["_law_script", "_law_k"] (defScope s__law_cell_at) := ⟨rfl, rfl, rfl, by decide +kernel, rfl, by decide +kernel, by decide +kernel⟩
theorem ok__law_cell_at {f : Addr} {fd : FuncData} (F : Fun K "_law_cell_at" "_law_cell_at" s__law_cell_at f fd) {cF cN cC : Addr} {tP : Tok} (B : B K mg cF cN cC tP) : FnOk P w K mg base CX0 1 f fd ["_law_script", "_law_k"] (spCell K) := by
  refine F.okJ sc__law_cell_at (fun vs H Q E h => ?_) (fun cdv A outer s H vs Q E hr h => ?_)
  · obtain ⟨a, ns, k, rfl, _⟩ := h
    rfl
  obtain ⟨a, ns, k, rfl, hs, h0, q⟩ := h
  refine ⟨_, (bcons (sif (tcmp op_lt (ev 1) (ecallB call_len_seq rfl B.len bt_len (acons (ev 0) anil)) (nomark _)) (bone (sret (eix ix_list (ev 0) (ev 1) (fun _ _ => rfl)))) bnil)
      (bone (sret ei))), ?_⟩
  simp only [tSeq, tNext, tIfS, tAsg, gName, gSub, tRet, tRetN, tDrop, tVar, tC, tOp, tUn, rI0, rI, rU, tTest, tB, tAndV, tOrV, tNotV, tAnd, tOr, tNot, tIf, tChain, tCB, tCons, tNil, tLst, tTup, tCallC, List.getElem?_cons_zero, List.getElem?_cons_succ, List.set_cons_zero, List.set_cons_succ, Option.some.injEq, V.int.injEq, V.bl.injEq, V.ref.injEq, V.ty.injEq, V.str.injEq, List.cons.injEq, exists_eq_left', exists_eq_left, exists_and_left, and_true, true_and, and_assoc, cxK, rIxF, rSetL, rEq, rNe, scal, HO.lst.injEq, HO.tup.injEq, upd_none, ixN_10, ixN_20, ixN_21, ixN_30, ixN_31, ixN_32, upd_same, seqAt_updL, seqAt_updT, atI_0, atI_1, atI_2, atI_3, decide_eq_true_eq, L2.start, List.map_cons, List.map_nil, List.length_cons, List.length_nil, Nat.reduceAdd, Nat.reduceSub, List.replicate_succ, List.replicate_zero, List.cons_append, List.nil_append, List.append_nil, tFor_rng1, tFor_rng2, tFor_list, tFor_tup, CDv, CMul, CPow, sizeLine_eq, Int.reduceLE, Int.reduceLT, Int.reducePow, Int.reduceToNat, Int.reduceAdd, Int.reduceSub, Int.reduceMul, Int.reduceNeg, Nat.reduceLeDiff, Nat.reducePow, Nat.reduceLT, Int.reduceEq, true_or, or_true, ite_true, ite_false, if_true, if_false, Bool.not_true, Bool.not_false, Bool.false_eq_true, decide_true, decide_false, rIxQ, seqQ_updL, seqQ_updT, tupQ_updT, tSl, tNoPart, tPart, rSlQ, rSlTX, rCatQ, tTupQ, tLstQ, tNever, rEqD, rInQ, gTupQ, gCons, gNil, tBM, rAppend, tMakeQ, sFld, tFld, sFldAug, tMeth, tDNewQ, tFor_list, rSlS, tLc_zipS, tLcD, tBM0, rExtend, tLc_rng1, tLc_list, tLc_tup, pick_nil, pick_own, pick_cap, join_some, tYes, tyV, tDGet, rIxS, rJoin, sDPut, rNeE, tTry, Ends.gone, tRaise, cxN, tCall, rIxL]
  refine ⟨_, .inl hs, ?_⟩
  refine ite2 (fun c => ?_) (fun c => q 0)
  obtain ⟨v, e, m⟩ := atI_in h0 c
  obtain ⟨n, _, rfl⟩ := List.mem_map.mp m
  exact ⟨_, hs, _, e, q n⟩
def spDigit (K : PySem.W.Frag) : Sp := fun vs H Q _ => ∃ p m, vs = [.ref p, .int m] ∧ Wl H p ∧ 0 < m ∧ m < 10 ^ 100 ∧
  ∀ (r : Int) (H' : Hp), 0 ≤ r → r < m → Wl H' p → Kp K p H H' → Q (.int r) H'
theorem sc__law_digit : FnScope ["_law_state", "_law_base", "_law_cell", "_law_found", "_law_number"] ["_law_state", "_law_base"] (defScope s__law_digit) := ⟨rfl, rfl, rfl, by decide +kernel, rfl, by decide +kernel, by decide +kernel⟩
theorem ok__law_digit {f : Addr} {fd : FuncData} (F : Fun K "_law_digit" "_law_digit" s__law_digit f fd) {cF cN cC : Addr} {tP : Tok} (B : B K mg cF cN cC tP) : FnOk P w K mg base CX0 1 f fd ["_law_state", "_law_base"] (spDigit K) := by
  refine F.okJ sc__law_digit (fun vs H Q E h => ?_) (fun cdv A outer s H vs Q E hr h => ?_)
  · obtain ⟨p, m, rfl, _⟩ := h
    rfl
  obtain ⟨p, m, rfl, hp, h0, h1, q⟩ := h
  refine ⟨_, (bcut (sif (tcmp op_eq (ecallB call_lenQ rfl B.len bt_len (acons (ev 0) anil)) ei (nomark _)) (bcons (sset (i := 2) sc__law_digit.nd rfl (Or.inl rfl) (eix ix_Q (ev 0) ei (fun _ _ => rfl)))
      (bcons (sasg (eix ix_Q (elstQ (acons ei (acons (ev 2) anil))) (ecallTy call_intB rfl B.int bt_int (acons (ecmp op_ge (ev 2) (epowc 1000000000000000000) (nomark _)) anil)) (fun _ _ => rfl)) (gsub (ev 0) ei set_list))
      (bone (sexpr (ebm PySem.F.plainAttrs_list PySem.F.slot_list_extend PySem.F.type_list_extend mt_extend (ev 0) (acons (elstQ (acons (eop op_mod (ev 2) ei) (acons ei anil))) anil)))))) bnil)
      (bcons (sif (tcmp op_gt (eix ix_Q (ev 0) ei (fun _ _ => rfl)) ei (nomark _)) (bcons (sset (i := 3) sc__law_digit.nd rfl (Or.inl rfl) (eop op_mod (eix ix_Q (ev 0) ei (fun _ _ => rfl)) (ev 1)))
      (bcons (sasg (eop op_fdivP (eix ix_Q (ev 0) ei (fun _ _ => rfl)) (ev 1)) (gsub (ev 0) ei set_list))
      (bone (sret (ev 3))))) bnil)
      (bcons (sasg (eop op_add (eix ix_Q (ev 0) ei (fun _ _ => rfl)) ei) (gsub (ev 0) ei set_list))
      (bcons (sset (i := 4) sc__law_digit.nd rfl (Or.inl rfl) (eop op_mod (eop op_mul (eop op_add (eop op_add (eix ix_Q (ev 0) ei (fun _ _ => rfl)) (eop op_mul ei (eix ix_Q (ev 0) ei (fun _ _ => rfl)))) ei) ei) ei))
      (bcons (sset (i := 4) sc__law_digit.nd rfl (Or.inl rfl) (eop op_mod (eop op_mul (ev 4) (eop op_add (eop op_fdivP (ev 4) ei) ei)) ei))
      (bone (sret (eop op_mod (eop op_mod (eop op_mul (ev 4) (eop op_add (eop op_fdivP (ev 4) ei) ei)) ei) (ev 1))))))))), ?_⟩
  obtain ⟨J, eJ⟩ : ∃ J : St → Hp → Prop, J = fun σ1 G1 => ∃ (v2 : Option V) (x y z : Int), σ1 = [some (.ref p), some (.int m), v2, none, none] ∧ G1 p = some (L3 x y z) ∧ Kp K p H G1 := ⟨_, rfl⟩
  refine ⟨J, ?_, ?_⟩
  · rcases hp with ⟨x, hp⟩ | ⟨x, y, z, hp⟩
    · simp only [tSeq, tNext, tIfS, tAsg, gName, gSub, tRet, tRetN, tDrop, tVar, tC, tOp, tUn, rI0, rI, rU, tTest, tB, tAndV, tOrV, tNotV, tAnd, tOr, tNot, tIf, tChain, tCB, tCons, tNil, tLst, tTup, tCallC, List.getElem?_cons_zero, List.getElem?_cons_succ, List.set_cons_zero, List.set_cons_succ, Option.some.injEq, V.int.injEq, V.bl.injEq, V.ref.injEq, V.ty.injEq, V.str.injEq, List.cons.injEq, exists_eq_left', exists_eq_left, exists_and_left, and_true, true_and, and_assoc, cxK, rIxF, rSetL, rEq, rNe, scal, HO.lst.injEq, HO.tup.injEq, upd_none, ixN_10, ixN_20, ixN_21, ixN_30, ixN_31, ixN_32, upd_same, seqAt_updL, seqAt_updT, atI_0, atI_1, atI_2, atI_3, decide_eq_true_eq, L2.start, List.map_cons, List.map_nil, List.length_cons, List.length_nil, Nat.reduceAdd, Nat.reduceSub, List.replicate_succ, List.replicate_zero, List.cons_append, List.nil_append, List.append_nil, tFor_rng1, tFor_rng2, tFor_list, tFor_tup, CDv, CMul, CPow, sizeLine_eq, Int.reduceLE, Int.reduceLT, Int.reducePow, Int.reduceToNat, Int.reduceAdd, Int.reduceSub, Int.reduceMul, Int.reduceNeg, Nat.reduceLeDiff, Nat.reducePow, Nat.reduceLT, Int.reduceEq, true_or, or_true, ite_true, ite_false, if_true, if_false, Bool.not_true, Bool.not_false, Bool.false_eq_true, decide_true, decide_false, rIxQ, seqQ_updL, seqQ_updT, tupQ_updT, tSl, tNoPart, tPart, rSlQ, rSlTX, rCatQ, tTupQ, tLstQ, new_upd, tNever, rEqD, rInQ, gTupQ, gCons, gNil, tBM, rAppend, tMakeQ, sFld, tFld, sFldAug, tMeth, tDNewQ, tFor_list, rSlS, tLc_zipS, tLcD, tBM0, rExtend, tLc_rng1, tLc_list, tLc_tup, pick_nil, pick_own, pick_cap, join_some, tYes, tyV, tDGet, rIxS, rJoin, sDPut, rNeE, tTry, Ends.gone, tRaise, cxN, tCall, hp,  seqQ_lst hp]
      refine ite2 (fun _ => ?_) (fun c => absurd rfl c)
      intro b nb
      have ne : b ≠ p := (ne_of_none hp nb.1).symm
      obtain ⟨v, ev⟩ : ∃ v : Int, atI [V.int 0, V.int x] (if 1000000000000000000 ≤ x then 1 else 0) = some (.int v) := by split <;> exact ⟨_, rfl⟩
      have x1 := Ext.new (K := K) (o := .lst [.int 0, .int x]) nb
      have hp1 := x1.at hp
      refine ⟨_, ev, _, hp1, 0, rfl, .inl ⟨_, SqL.of upd_same⟩, fun b2 nb2 => ⟨_, by rw [upd_ne nb2.1.symm]; exact upd_same, by show 1 ≤ 16777214; decide, ?_⟩⟩
      rw [eJ]
      have k2 : Kp K p _ (upd (upd H b (.lst [.int 0, .int x])) p (.lst [.int v])) := Kp.upd hp1
      have n2 : new K (upd (upd H b (.lst [.int 0, .int x])) p (.lst [.int v])) b2 := ⟨by rw [upd_ne nb2.1, upd_ne nb2.2.1]; exact nb2.2.2.1, nb2.2.2.2⟩
      have x3 := Ext.new (K := K) (o := .lst [.int (x % 2147483647), .int 0]) n2
      exact ⟨_, v, _, _, rfl, upd_same, x1.kp.trans (k2.trans (x3.kp.trans (Kp.upd (x3.at upd_same))))⟩
    · unfold L3 at hp
      simp only [tSeq, tNext, tIfS, tAsg, gName, gSub, tRet, tRetN, tDrop, tVar, tC, tOp, tUn, rI0, rI, rU, tTest, tB, tAndV, tOrV, tNotV, tAnd, tOr, tNot, tIf, tChain, tCB, tCons, tNil, tLst, tTup, tCallC, List.getElem?_cons_zero, List.getElem?_cons_succ, List.set_cons_zero, List.set_cons_succ, Option.some.injEq, V.int.injEq, V.bl.injEq, V.ref.injEq, V.ty.injEq, V.str.injEq, List.cons.injEq, exists_eq_left', exists_eq_left, exists_and_left, and_true, true_and, and_assoc, cxK, rIxF, rSetL, rEq, rNe, scal, HO.lst.injEq, HO.tup.injEq, upd_none, ixN_10, ixN_20, ixN_21, ixN_30, ixN_31, ixN_32, upd_same, seqAt_updL, seqAt_updT, atI_0, atI_1, atI_2, atI_3, decide_eq_true_eq, L2.start, List.map_cons, List.map_nil, List.length_cons, List.length_nil, Nat.reduceAdd, Nat.reduceSub, List.replicate_succ, List.replicate_zero, List.cons_append, List.nil_append, List.append_nil, tFor_rng1, tFor_rng2, tFor_list, tFor_tup, CDv, CMul, CPow, sizeLine_eq, Int.reduceLE, Int.reduceLT, Int.reducePow, Int.reduceToNat, Int.reduceAdd, Int.reduceSub, Int.reduceMul, Int.reduceNeg, Nat.reduceLeDiff, Nat.reducePow, Nat.reduceLT, Int.reduceEq, true_or, or_true, ite_true, ite_false, if_true, if_false, Bool.not_true, Bool.not_false, Bool.false_eq_true, decide_true, decide_false, rIxQ, seqQ_updL, seqQ_updT, tupQ_updT, tSl, tNoPart, tPart, rSlQ, rSlTX, rCatQ, tTupQ, tLstQ, new_upd, tNever, rEqD, rInQ, gTupQ, gCons, gNil, tBM, rAppend, tMakeQ, sFld, tFld, sFldAug, tMeth, tDNewQ, tFor_list, rSlS, tLc_zipS, tLcD, tBM0, rExtend, tLc_rng1, tLc_list, tLc_tup, pick_nil, pick_own, pick_cap, join_some, tYes, tyV, tDGet, rIxS, rJoin, sDPut, rNeE, tTry, Ends.gone, tRaise, cxN, tCall, hp,  seqQ_lst hp]
      refine ite2 (fun c => absurd c (by decide)) (fun _ => ?_)
      rw [eJ]
      exact ⟨_, _, _, _, rfl, hp, Kp.refl⟩
  intro σ1 G1 h
  rw [eJ] at h
  clear eJ
  obtain ⟨v2, x, y, z, rfl, hp, k⟩ := h
  unfold L3 at hp
  simp only [tSeq, tNext, tIfS, tAsg, gName, gSub, tRet, tRetN, tDrop, tVar, tC, tOp, tUn, rI0, rI, rU, tTest, tB, tAndV, tOrV, tNotV, tAnd, tOr, tNot, tIf, tChain, tCB, tCons, tNil, tLst, tTup, tCallC, List.getElem?_cons_zero, List.getElem?_cons_succ, List.set_cons_zero, List.set_cons_succ, Option.some.injEq, V.int.injEq, V.bl.injEq, V.ref.injEq, V.ty.injEq, V.str.injEq, List.cons.injEq, exists_eq_left', exists_eq_left, exists_and_left, and_true, true_and, and_assoc, cxK, rIxF, rSetL, rEq, rNe, scal, HO.lst.injEq, HO.tup.injEq, upd_none, ixN_10, ixN_20, ixN_21, ixN_30, ixN_31, ixN_32, upd_same, seqAt_updL, seqAt_updT, atI_0, atI_1, atI_2, atI_3, decide_eq_true_eq, L2.start, List.map_cons, List.map_nil, List.length_cons, List.length_nil, Nat.reduceAdd, Nat.reduceSub, List.replicate_succ, List.replicate_zero, List.cons_append, List.nil_append, List.append_nil, tFor_rng1, tFor_rng2, tFor_list, tFor_tup, CDv, CMul, CPow, sizeLine_eq, Int.reduceLE, Int.reduceLT, Int.reducePow, Int.reduceToNat, Int.reduceAdd, Int.reduceSub, Int.reduceMul, Int.reduceNeg, Nat.reduceLeDiff, Nat.reducePow, Nat.reduceLT, Int.reduceEq, true_or, or_true, ite_true, ite_false, if_true, if_false, Bool.not_true, Bool.not_false, Bool.false_eq_true, decide_true, decide_false, rIxQ, seqQ_updL, seqQ_updT, tupQ_updT, tSl, tNoPart, tPart, rSlQ, rSlTX, rCatQ, tTupQ, tLstQ, new_upd, tNever, rEqD, rInQ, gTupQ, gCons, gNil, tBM, rAppend, tMakeQ, sFld, tFld, sFldAug, tMeth, tDNewQ, tFor_list, rSlS, tLc_zipS, tLcD, tBM0, rExtend, tLc_rng1, tLc_list, tLc_tup, pick_nil, pick_own, pick_cap, join_some, tYes, tyV, tDGet, rIxS, rJoin, sDPut, rNeE, tTry, Ends.gone, tRaise, cxN, tCall, hp,  seqQ_lst hp]
  have g : ∀ (u v z : Int), Kp K p H (upd G1 p (L3 u v z)) := fun u v z => k.trans (Kp.upd hp)
  refine ite2 (fun c => ⟨h0, h0, by omega, ?_⟩) (fun c => ?_)
  · exact q _ _ (Int.emod_nonneg _ (by omega)) (Int.emod_lt_of_pos _ h0) (.inr ⟨_, _, _, upd_same⟩) (g _ _ _)
  · refine ⟨?_, ?_, h0, q _ _ (Int.emod_nonneg _ (by omega)) (Int.emod_lt_of_pos _ h0) (.inr ⟨_, _, _, upd_same⟩) (g _ _ _)⟩
    all_goals omega
end
theorem join_ones : ∀ (ts : List Str), (∀ t ∈ ts, t.length = 1) → (Str.join emptyS ts).length = ts.length
  | [], _ => rfl
  | [x], h => h x List.mem_cons_self
  | x :: y :: r, h => by
    have e := join_ones (y :: r) fun t m => h t (List.mem_cons_of_mem _ m)
    show (x ++ emptyS ++ Str.join emptyS (y :: r)).length = _
    rw [Str.length_append, Str.length_append, e, h x List.mem_cons_self]
    show 1 + 0 + (y :: r).length = (y :: r).length + 1
    omega
theorem lenAll_ones (ts : List Str) (h : ∀ t ∈ ts, t.length = 1) : lenAll emptyS ts = ts.length := by
  have e : ∀ (ts : List Str) (k : Nat), (∀ t ∈ ts, t.length = 1) → ts.foldl (fun n x => n + x.length + emptyS.length) k = k + ts.length := by
    intro ts
    induction ts with
    | nil => intro k _; rfl
    | cons x r ih =>
      intro k h
      rw [List.foldl_cons, ih _ (fun t m => h t (List.mem_cons_of_mem _ m)), h x List.mem_cons_self, List.length_cons]
      have : emptyS.length = 0 := rfl
      omega
  unfold lenAll
  rw [e ts 0 h]
  omega
section
variable {P : Program} {w : World} {K : PySem.W.Frag} {mg : Str → Option Value} {base : Heap}
def Ent.ok : Ent → Prop
  | .page k t => 0 ≤ k ∧ k ≤ 1000000 ∧ 0 < t.length ∧ t.length ≤ 100
  | .line t => t.length ≤ 100
  | .blot => True
theorem Ent.ok.sm {e : Ent} (h : e.ok) : e.small := by
  cases e with
  | page k t => exact h.2.2.2
  | line t => exact h
  | blot => trivial
def spText (K : PySem.W.Frag) : Sp := fun vs H Q _ => ∃ p f, vs = [.ref p, .int f] ∧ Wl H p ∧ 0 ≤ f ∧ f ≤ 1 ∧ ∀ (b : Str) (H' : Hp), b.length ≤ 40 → Wl H' p → Kp K p H H' → Q (.str b) H'
theorem sc__law_text : FnScope ["_law_state", "_law_feeds", "_law_signs", "_law_many"] ["_law_state", "_law_feeds"] (defScope s__law_text) := ⟨rfl, rfl, rfl, by decide +kernel, rfl, by decide +kernel, by decide +kernel⟩
theorem ok__law_text {f : Addr} {fd : FuncData} (F : Fun K "_law_text" "_law_text" s__law_text f fd) {cF cN cC : Addr} {tP : Tok} (B : B K mg cF cN cC tP) (C__law_digit : Callee P w K mg base "_law_digit" 1 ["_law_state", "_law_base"] (spDigit K)) : FnOk P w K mg base CX0 2 f fd ["_law_state", "_law_feeds"] (spText K) := by
  refine F.okJ sc__law_text (fun vs H Q E h => ?_) (fun cdv A outer s H vs Q E hr h => ?_)
  · obtain ⟨p, f, rfl, _⟩ := h
    rfl
  obtain ⟨p, f, rfl, hp, f0, f1, q⟩ := h
  refine ⟨_, (bcons (sset (i := 2) sc__law_text.nd rfl (Or.inr rfl) estr)
      (bcons (sset (i := 2) sc__law_text.nd rfl (Or.inr rfl) (eop op_add_str (ev 2) estr))
      (bcons (sset (i := 3) sc__law_text.nd rfl (Or.inl rfl) (ecall C__law_digit (hr.mono (by decide)) rfl (acons (ev 0) (acons (eix ix_Q (elstQ (acons ei (acons ei (acons ei (acons ei anil))))) (ecall C__law_digit (hr.mono (by decide)) rfl (acons (ev 0) (acons ei anil))) (fun _ _ => rfl)) anil))))
      (bone (sret (ebm PySem.F.plainAttrs_str PySem.F.slot_str_join PySem.F.type_str_join mt_join estr (acons (elc (Cap.mk (N := ["_law_k", "_law_signs", "_law_state", "_law_feeds"]) (src := [none, some 2, some 0, some 1]) rfl rfl) rfl (irange1 rfl B.range (acons (ev 3) anil)) (fun _ _ _ _ => (gname (i := 0) (show (["_law_k", "_law_signs", "_law_state", "_law_feeds"] : List Str).Nodup from by decide +kernel) rfl (Or.inl rfl))) (fun _ _ _ _ => fnone) (fun _ _ _ _ => (eix ix_str (ev 1) (ecall C__law_digit (hr.mono (by decide)) rfl (acons (ev 2) (acons (eop op_add (eop op_sub (ecallB call_len_str rfl B.len bt_len (acons (ev 1) anil)) ei) (ev 3)) anil))) (fun _ _ => rfl)))) anil))))))), ?_⟩
  try walk_at "rn"
  refine ⟨by decide +kernel, ?_⟩
  obtain ⟨t, et⟩ : ∃ t : Str, t = Str.ofString " !\"#$&'()*+,-./0123456789:;<=>?@ABCDEFGHIJKLMNOPQRSTUVWXYZ[\\]^_`" ++ Str.ofString "abcdefghijklmnopqrstuvwxyz{|}~\n" := ⟨_, rfl⟩
  have t0 : 2 < t.length := by rw [et]; decide +kernel
  have t1 : t.length ≤ 200 := by rw [et]; decide +kernel
  rw [← et]
  clear et
  intro b nb
  have x1 := Ext.new (K := K) (o := .lst [.int 2, .int 4, .int 9, .int 40]) nb
  refine ⟨p, 4, rfl, hp.ext x1, by decide, by decide, fun d H2 d0 d1 hp2 k2 => ?_⟩
  simp only [tSeq, tNext, tIfS, tAsg, gName, gSub, tRet, tRetN, tDrop, tVar, tC, tOp, tUn, rI0, rI, rU, tTest, tB, tAndV, tOrV, tNotV, tAnd, tOr, tNot, tIf, tChain, tCB, tCons, tNil, tLst, tTup, tCallC, List.getElem?_cons_zero, List.getElem?_cons_succ, List.set_cons_zero, List.set_cons_succ, Option.some.injEq, V.int.injEq, V.bl.injEq, V.ref.injEq, V.ty.injEq, V.str.injEq, List.cons.injEq, exists_eq_left', exists_eq_left, exists_and_left, and_true, true_and, and_assoc, cxK, rIxF, rSetL, rEq, rNe, scal, HO.lst.injEq, HO.tup.injEq, upd_none, ixN_10, ixN_20, ixN_21, ixN_30, ixN_31, ixN_32, upd_same, seqAt_updL, seqAt_updT, atI_0, atI_1, atI_2, atI_3, decide_eq_true_eq, L2.start, List.map_cons, List.map_nil, List.length_cons, List.length_nil, Nat.reduceAdd, Nat.reduceSub, List.replicate_succ, List.replicate_zero, List.cons_append, List.nil_append, List.append_nil, tFor_rng1, tFor_rng2, tFor_list, tFor_tup, CDv, CMul, CPow, sizeLine_eq, Int.reduceLE, Int.reduceLT, Int.reducePow, Int.reduceToNat, Int.reduceAdd, Int.reduceSub, Int.reduceMul, Int.reduceNeg, Nat.reduceLeDiff, Nat.reducePow, Nat.reduceLT, Int.reduceEq, true_or, or_true, ite_true, ite_false, if_true, if_false, Bool.not_true, Bool.not_false, Bool.false_eq_true, decide_true, decide_false, rIxQ, seqQ_updL, seqQ_updT, tupQ_updT, tSl, tNoPart, tPart, rSlQ, rSlTX, rCatQ, tTupQ, tLstQ, tNever, rEqD, rInQ, gTupQ, gCons, gNil, tBM, rAppend, tMakeQ, sFld, tFld, sFldAug, tMeth, tDNewQ, tFor_list, rSlS, tLc_zipS, tLcD, tBM0, rExtend, tLc_rng1, tLc_list, tLc_tup, pick_nil, pick_own, pick_cap, join_some, tYes, tyV, tDGet, rIxS, rJoin, sDPut, rNeE, tTry, Ends.gone, tRaise, cxN, tCall, seqQ_lst (k2.keep b _ upd_same (hp.ne nb))]
  obtain ⟨v, ev, mv⟩ := atI_in (xs := [V.int 2, V.int 4, V.int 9, V.int 40]) d0 d1
  obtain ⟨n, rfl, n0, n1⟩ : ∃ n : Int, v = .int n ∧ 0 < n ∧ n ≤ 40 := by
    simp only [List.mem_cons, List.not_mem_nil, or_false] at mv
    rcases mv with rfl | rfl | rfl | rfl <;> exact ⟨_, rfl, by decide, by decide⟩
  refine ⟨_, ev, p, n, rfl, hp2, n0, by omega, fun j H3 j0 j1 hp3 k3 => ?_⟩
  try walk_at "rn"
  refine ⟨by omega, by omega, fun D nD => ?_⟩
  have k03 := x1.kp.trans (k2.trans k3)
  have neD : D ≠ p := hp3.ne nD
  obtain ⟨Pv, eP⟩ : ∃ Pv : Nat → List V → St → Hp → Prop, Pv = fun i acc σ' H' => ∃ (v0 : Option V) (ts : List Str), σ' = [v0, some (.str t), some (.ref p), some (.int f)] ∧ H' D = some (.lst acc) ∧ acc = ts.map V.str ∧ ts.length = i ∧ (∀ t ∈ ts, t.length = 1) ∧ Wl H' p ∧ Kp2 K p D (upd H3 D (.lst [])) H' := ⟨_, rfl⟩
  refine lc_range Pv ?_ ?_ ?_
  · rw [eP]
    exact ⟨_, [], rfl, upd_same, rfl, rfl, (fun _ h => by cases h), hp3.upd neD.symm, Kp2.refl⟩
  · intro i acc σ' H' hi h
    rw [eP] at h
    obtain ⟨v0, ts, rfl, hD, rfl, hl, h1, gp, k⟩ := h
    try walk_at "rn"
    refine ⟨by omega, p, _, rfl, gp, by omega, by omega, fun c H4 c0 c1 hp4 k4 => ?_⟩
    have hD4 := k4.keep D _ hD neD
    obtain ⟨ch, ec, _⟩ := atI_in (xs := t.cps.toList) c0 (by rw [← str_len]; omega)
    try walk_at "rn"
    rw [eP]
    refine ⟨by omega, ch, ec, hD4, by rw [List.length_map]; omega, _, ts ++ [⟨#[ch]⟩], rfl, upd_same, by rw [List.map_append]; rfl, by rw [List.length_append, hl]; rfl, ?_, hp4.upd neD.symm, (k.trans k4.l).trans (Kp.r (Kp.upd hD4))⟩
    intro t ht
    rcases List.mem_append.1 ht with h | h
    · exact h1 t h
    · rw [List.mem_singleton] at h
      rw [h]; rfl
  intro acc σ' H7 h
  rw [eP] at h
  clear eP
  obtain ⟨v0, ts, rfl, hD, rfl, hl, h1, gp, k⟩ := h
  have e1 : (Str.join (Str.ofString "") ts).length = ts.length := join_ones ts h1
  have e2 : lenAll (Str.ofString "") ts = ts.length := lenAll_ones ts h1
  exact ⟨ts, SqL.of hD, by omega, by omega, q _ _ (by omega) gp (k03.trans (k.kp nD))⟩
def spWriteL (K : PySem.W.Frag) : Sp := fun vs H Q _ => ∃ p, vs = [.ref p] ∧ Wl H p ∧ ∀ (a : Addr) (e : Ent) (H' : Hp), e.ok → tupQ K H' a = some (Ent.v e) → Wl H' p → Kp K p H H' → Q (.ref a) H'
theorem sc__law_write : FnScope ["_law_state", "_law_way", "_law_place"] ["_law_state"] (defScope s__law_write) := ⟨rfl, rfl, rfl, by decide +kernel, rfl, by decide +kernel, by decide +kernel⟩
theorem ok__law_write {f : Addr} {fd : FuncData} (F : Fun K "_law_write" "_law_write" s__law_write f fd) {cF cN cC : Addr} {tP : Tok} (B : B K mg cF cN cC tP) (C__law_digit : Callee P w K mg base "_law_digit" 1 ["_law_state", "_law_base"] (spDigit K)) (C__law_text : Callee P w K mg base "_law_text" 2 ["_law_state", "_law_feeds"] (spText K)) : FnOk P w K mg base CX0 3 f fd ["_law_state"] (spWriteL K) := by
  refine F.okJ sc__law_write (fun vs H Q E h => ?_) (fun cdv A outer s H vs Q E hr h => ?_)
  · obtain ⟨p, rfl, _⟩ := h
    rfl
  obtain ⟨p, rfl, hp, q⟩ := h
  refine ⟨_, (bcons (sset (i := 1) sc__law_write.nd rfl (Or.inl rfl) (ecall C__law_digit (hr.mono (by decide)) rfl (acons (ev 0) (acons ei anil))))
      (bcons (sif (tcmp op_lt (ev 1) ei (nomark _)) (bcons (sset (i := 2) sc__law_write.nd rfl (Or.inl rfl) (ecall C__law_digit (hr.mono (by decide)) rfl (acons (ev 0) (acons (eix ix_Q (elstQ (acons ei (acons ei (acons ei (acons (eop op_add (epowc 1000000) ei) anil))))) (ecall C__law_digit (hr.mono (by decide)) rfl (acons (ev 0) (acons ei anil))) (fun _ _ => rfl)) anil))))
      (bcut (sif (tcmp op_eq (ecall C__law_digit (hr.mono (by decide)) rfl (acons (ev 0) (acons ei anil))) ei (nomark _)) (bone (sset (i := 2) sc__law_write.nd rfl (Or.inl rfl) (eop op_sub (epowc 1000000) (ev 2)))) bnil)
      (bone (sret (etupQ (acons estr (acons (ev 2) (acons (eop op_add_str (eix ix_str estr (ecall C__law_digit (hr.mono (by decide)) rfl (acons (ev 0) (acons ei anil))) (fun _ _ => rfl)) (ecall C__law_text (hr.mono (by decide)) rfl (acons (ev 0) (acons ei anil)))) anil)))))))) bnil)
      (bcons (sif (tcmp op_lt (ev 1) ei (nomark _)) (bone (sret (etupQ (acons estr (acons (ecall C__law_text (hr.mono (by decide)) rfl (acons (ev 0) (acons ei anil))) anil))))) bnil)
      (bone (sret (etupQ (acons estr anil))))))), ?_⟩
  try walk_at "rn"
  refine ⟨p, 8, rfl, hp, by decide, by decide, fun d H1 d0 d1 hp1 k1 => ?_⟩
  try walk_at "rn"
  refine ite2 (fun c => ?_) (fun c => ite2 (fun c2 => ?_) (fun c2 => ?_))
  · intro b nb
    have x1 := Ext.new (K := K) (o := .lst [.int 3, .int 3, .int 20, .int 1000001]) nb
    refine ⟨p, 4, rfl, hp1.ext x1, by decide, by decide, fun d H2 d0 d1 hp2 k2 => ?_⟩
    simp only [tSeq, tNext, tIfS, tAsg, gName, gSub, tRet, tRetN, tDrop, tVar, tC, tOp, tUn, rI0, rI, rU, tTest, tB, tAndV, tOrV, tNotV, tAnd, tOr, tNot, tIf, tChain, tCB, tCons, tNil, tLst, tTup, tCallC, List.getElem?_cons_zero, List.getElem?_cons_succ, List.set_cons_zero, List.set_cons_succ, Option.some.injEq, V.int.injEq, V.bl.injEq, V.ref.injEq, V.ty.injEq, V.str.injEq, List.cons.injEq, exists_eq_left', exists_eq_left, exists_and_left, and_true, true_and, and_assoc, cxK, rIxF, rSetL, rEq, rNe, scal, HO.lst.injEq, HO.tup.injEq, upd_none, ixN_10, ixN_20, ixN_21, ixN_30, ixN_31, ixN_32, upd_same, seqAt_updL, seqAt_updT, atI_0, atI_1, atI_2, atI_3, decide_eq_true_eq, L2.start, List.map_cons, List.map_nil, List.length_cons, List.length_nil, Nat.reduceAdd, Nat.reduceSub, List.replicate_succ, List.replicate_zero, List.cons_append, List.nil_append, List.append_nil, tFor_rng1, tFor_rng2, tFor_list, tFor_tup, CDv, CMul, CPow, sizeLine_eq, Int.reduceLE, Int.reduceLT, Int.reducePow, Int.reduceToNat, Int.reduceAdd, Int.reduceSub, Int.reduceMul, Int.reduceNeg, Nat.reduceLeDiff, Nat.reducePow, Nat.reduceLT, Int.reduceEq, true_or, or_true, ite_true, ite_false, if_true, if_false, Bool.not_true, Bool.not_false, Bool.false_eq_true, decide_true, decide_false, rIxQ, seqQ_updL, seqQ_updT, tupQ_updT, tSl, tNoPart, tPart, rSlQ, rSlTX, rCatQ, tTupQ, tLstQ, tNever, rEqD, rInQ, gTupQ, gCons, gNil, tBM, rAppend, tMakeQ, sFld, tFld, sFldAug, tMeth, tDNewQ, tFor_list, rSlS, tLc_zipS, tLcD, tBM0, rExtend, tLc_rng1, tLc_list, tLc_tup, pick_nil, pick_own, pick_cap, join_some, tYes, tyV, tDGet, rIxS, rJoin, sDPut, rNeE, tTry, Ends.gone, tRaise, cxN, tCall, seqQ_lst (k2.keep b _ upd_same (hp1.ne nb))]
    obtain ⟨v, ev, mv⟩ := atI_in (xs := [V.int 3, V.int 3, V.int 20, V.int 1000001]) d0 d1
    obtain ⟨n, rfl, n0, n1⟩ : ∃ n : Int, v = .int n ∧ 0 < n ∧ n ≤ 1000001 := by
      simp only [List.mem_cons, List.not_mem_nil, or_false] at mv
      rcases mv with rfl | rfl | rfl | rfl <;> exact ⟨_, rfl, by decide, by decide⟩
    refine ⟨_, ev, p, n, rfl, hp2, n0, by omega, fun j H3 j0 j1 hp3 k3 => ?_⟩
    try walk_at "rn"
    refine ⟨fun σ' H' => ∃ (way k : Int), σ' = [some (.ref p), some (.int way), some (.int k)] ∧ 0 ≤ k ∧ k ≤ 1000000 ∧ Wl H' p ∧ Kp K p H H', ?_, ?_⟩
    · try walk_at "rn"
      refine ⟨p, 8, rfl, hp3, by decide, by decide, fun d H4 d0 d1 hp4 k4 => ?_⟩
      have k5 := k1.trans (x1.kp.trans (k2.trans (k3.trans k4)))
      try walk_at "rn"
      refine ite2 (fun _ => ⟨by omega, by omega, hp4, k5⟩) (fun _ => ⟨by omega, by omega, hp4, k5⟩)
    rintro _ H4 ⟨way, k, rfl, kl, kh, hp4, k4⟩
    try walk_at "rn"
    refine ⟨p, 4, rfl, hp4, by decide, by decide, fun d H5 d0 d1 hp5 k5 => ?_⟩
    try walk_at "rn"
    have t4 : (Str.ofString "0x 7").length = 4 := by decide +kernel
    obtain ⟨ch, ec, _⟩ := atI_in (xs := (Str.ofString "0x 7").cps.toList) d0 (by rw [← str_len]; omega)
    refine ⟨by decide +kernel, ch, ec, p, 1, rfl, hp5, by decide, by decide, fun t H6 ht hp6 k6 => ?_⟩
    try walk_at "rn"
    have l1 : (⟨#[ch]⟩ : Str).length = 1 := rfl
    refine ⟨by omega, fun T nT => q T (.page k (⟨#[ch]⟩ ++ t)) _ ⟨kl, kh, by rw [slen]; omega, by rw [slen]; omega⟩ tupQ_updT (hp6.upd (hp6.ne nT).symm) (k4.trans (k5.trans (k6.trans (.new nT))))⟩
  · refine ⟨p, 0, rfl, hp1, by decide, by decide, fun t H6 ht hp6 k6 => ?_⟩
    try walk_at "rn"
    exact fun T nT => q T (.line t) _ (Nat.le_trans ht (by decide)) tupQ_updT (hp6.upd (hp6.ne nT).symm) (k1.trans (k6.trans (.new nT)))
  · exact fun T nT => q T .blot _ trivial tupQ_updT (hp1.upd (hp1.ne nT).symm) (k1.trans (.new nT))
def mostE : Ent → Nat
  | .page _ t => t.length - 1
  | .line t => t.length
  | .blot => 0
def spMost (K : PySem.W.Frag) : Sp := fun vs H Q _ => ∃ a e, vs = [.ref a] ∧ tupQ K H a = some (Ent.v e) ∧ e.ok ∧ Q (.int ((mostE e : Nat) : Int)) H
theorem sc__law_most : FnScope ["_law_write_here"] ["_law_write_here"] (defScope s__law_most) := ⟨rfl, rfl, rfl, by decide +kernel, rfl, by decide +kernel, by decide +kernel⟩
theorem ok__law_most {f : Addr} {fd : FuncData} (F : Fun K "_law_most" "_law_most" s__law_most f fd) {cF cN cC : Addr} {tP : Tok} (B : B K mg cF cN cC tP) : FnOk P w K mg base CX0 1 f fd ["_law_write_here"] (spMost K) := by
  refine F.okJ sc__law_most (fun vs H Q E h => ?_) (fun cdv A outer s H vs Q E hr h => ?_)
  · obtain ⟨a, e, rfl, _⟩ := h
    rfl
  obtain ⟨a, e, rfl, ha, ok, q⟩ := h
  refine ⟨_, (bcons (sif (tcmp op_eq (eix ix_Q (ev 0) ei (fun _ _ => rfl)) estr (nomark _)) (bone (sret (eop op_sub (ecallB call_len_str rfl B.len bt_len (acons (eix ix_Q (ev 0) ei (fun _ _ => rfl)) anil)) ei))) bnil)
      (bcons (sif (tcmp op_eq (eix ix_Q (ev 0) ei (fun _ _ => rfl)) estr (nomark _)) (bone (sret (ecallB call_len_str rfl B.len bt_len (acons (eix ix_Q (ev 0) ei (fun _ _ => rfl)) anil)))) bnil)
      (bone (sret ei)))), ?_⟩
  simp only [tSeq, tNext, tIfS, tAsg, gName, gSub, tRet, tRetN, tDrop, tVar, tC, tOp, tUn, rI0, rI, rU, tTest, tB, tAndV, tOrV, tNotV, tAnd, tOr, tNot, tIf, tChain, tCB, tCons, tNil, tLst, tTup, tCallC, List.getElem?_cons_zero, List.getElem?_cons_succ, List.set_cons_zero, List.set_cons_succ, Option.some.injEq, V.int.injEq, V.bl.injEq, V.ref.injEq, V.ty.injEq, V.str.injEq, List.cons.injEq, exists_eq_left', exists_eq_left, exists_and_left, and_true, true_and, and_assoc, cxK, rIxF, rSetL, rEq, rNe, scal, HO.lst.injEq, HO.tup.injEq, upd_none, ixN_10, ixN_20, ixN_21, ixN_30, ixN_31, ixN_32, upd_same, seqAt_updL, seqAt_updT, atI_0, atI_1, atI_2, atI_3, decide_eq_true_eq, L2.start, List.map_cons, List.map_nil, List.length_cons, List.length_nil, Nat.reduceAdd, Nat.reduceSub, List.replicate_succ, List.replicate_zero, List.cons_append, List.nil_append, List.append_nil, tFor_rng1, tFor_rng2, tFor_list, tFor_tup, CDv, CMul, CPow, sizeLine_eq, Int.reduceLE, Int.reduceLT, Int.reducePow, Int.reduceToNat, Int.reduceAdd, Int.reduceSub, Int.reduceMul, Int.reduceNeg, Nat.reduceLeDiff, Nat.reducePow, Nat.reduceLT, Int.reduceEq, true_or, or_true, ite_true, ite_false, if_true, if_false, Bool.not_true, Bool.not_false, Bool.false_eq_true, decide_true, decide_false, rIxQ, seqQ_updL, seqQ_updT, tupQ_updT, tSl, tNoPart, tPart, rSlQ, rSlTX, rCatQ, tTupQ, tLstQ, tNever, rEqD, rInQ, gTupQ, gCons, gNil, tBM, rAppend, tMakeQ, sFld, tFld, sFldAug, tMeth, tDNewQ, tFor_list, rSlS, tLc_zipS, tLcD, tBM0, rExtend, tLc_rng1, tLc_list, tLc_tup, pick_nil, pick_own, pick_cap, join_some, tYes, tyV, tDGet, rIxS, rJoin, sDPut, rNeE, tTry, Ends.gone, tRaise, cxN, tCall, seqQ_T ha]
  cases e with
  | page k t =>
    refine ⟨_, rfl, rfl, ?_⟩
    rw [if_pos rfl]
    have h1 : 0 < t.length ∧ t.length ≤ 100 := ⟨ok.2.2.1, ok.2.2.2⟩
    refine ⟨_, rfl, _, rfl, by omega, ?_⟩
    have e : ((t.length : Int) - 1) = ((mostE (.page k t) : Nat) : Int) := by
      show _ = (((t.length - 1 : Nat)) : Int)
      omega
    rw [e]
    exact q
  | line t =>
    refine ⟨_, rfl, rfl, ?_⟩
    rw [if_neg (fun z => w1 (V.str.inj z))]
    refine ⟨_, rfl, rfl, ?_⟩
    rw [if_pos rfl]
    have h1 : t.length ≤ 100 := ok
    exact ⟨_, rfl, _, rfl, by omega, q⟩
  | blot =>
    refine ⟨_, rfl, rfl, ?_⟩
    rw [if_neg (fun z => w2 (V.str.inj z))]
    refine ⟨_, rfl, rfl, ?_⟩
    rw [if_neg (fun z => w3 (V.str.inj z))]
    exact q
end
section
variable {P : Program} {w : World} {K : PySem.W.Frag} {mg : Str → Option Value} {base : Heap}
structure MdAt (H : Hp) (m d l : Addr) (s : Sh) (us : List Addr) : Prop where
  hm : H m = some (.lst [.ref d, .str s.J, .ref l])
  hd : H d = some (.dK (dkv s.D))
  hl : H l = some (.lst (us.map V.ref))
  ne : m ≠ l
theorem MdAt.ext {H H' : Hp} {m d l : Addr} {s : Sh} {us : List Addr} (md : MdAt H m d l s us) (x : Ext K H H') : MdAt H' m d l s us :=
  ⟨x.same _ _ md.hm, x.same _ _ md.hd, x.same _ _ md.hl, md.ne⟩
theorem mostE_of {W : List Ent} {m : Nat} {e : Ent} (h : W[m]? = some e) : mostOf W m = mostE e := by
  unfold mostOf
  rw [h]
  cases e with
  | page k t => rfl
  | line t =>
    show (t ++ ("\n" : Str)).length - 1 = t.length
    have z : ("\n" : Str).length = 1 := by decide +kernel
    rw [slen, z]
    omega
  | blot => rfl
theorem mostOf_none {W : List Ent} {m : Nat} (h : W.length ≤ m) : mostOf W m = 0 := by
  unfold mostOf
  rw [List.getElem?_eq_none h]
def OkAll (W : List Ent) : Prop := ∀ e ∈ W, Ent.ok e
theorem OkAll.at {W : List Ent} (h : OkAll W) {i : Nat} {e : Ent} (x : W[i]? = some e) : e.ok := h e (List.mem_of_getElem? x)
theorem atI_nat {xs : List V} {n : Nat} (h : n < xs.length) : atI xs (n : Int) = xs[n]? := by simp [atI, ixN, h]
def spWhere (K : PySem.W.Frag) : Sp := fun vs H Q _ => ∃ p m d l s us W, vs = [.ref p, .ref m] ∧ Wl H p ∧ MdAt H m d l s us ∧ EntsAt K H us W ∧ OkAll W ∧ W.length ≤ 1000 ∧ m ≠ p ∧ l ≠ p ∧
  ∀ (n g : Nat) (T : Addr) (H' : Hp), n ≤ W.length → g ≤ mostOf W n → tupQ K H' T = some [.int (n : Int), .int (g : Int)] → Wl H' p → Kp K p H H' → Q (.ref T) H'
theorem EntsAt.kp {H H' : Hp} {us : List Addr} {W : List Ent} {p : Addr} (en : EntsAt K H us W) (k : Kp K p H H') (hp : Wl H p) : EntsAt K H' us W :=
  ⟨en.1, fun i a e h1 h2 => ⟨by
    rcases hp with ⟨x, hp⟩ | ⟨x, y, z, hp⟩
    · exact k.tup hp (en.2 i a e h1 h2).1
    · exact k.tup hp (en.2 i a e h1 h2).1, (en.2 i a e h1 h2).2⟩⟩
theorem MdAt.kp {H H' : Hp} {m d l p : Addr} {s : Sh} {us : List Addr} (md : MdAt H m d l s us) (k : Kp K p H H') (hp : Wl H p) (n1 : m ≠ p) (n2 : l ≠ p) : MdAt H' m d l s us :=
  ⟨k.keep _ _ md.hm n1, k.keep _ _ md.hd (by
    rintro rfl
    rcases hp with ⟨x, hp⟩ | ⟨x, y, z, hp⟩ <;> (rw [md.hd] at hp; cases hp)), k.keep _ _ md.hl n2, md.ne⟩
theorem sc__law_where : FnScope ["_law_state", "_law_model", "_law_many", "_law_most_here", "_law_way"] ["_law_state", "_law_model"] (defScope s__law_where) := ⟨rfl, rfl, rfl, by decide +kernel, rfl, by decide +kernel, by decide +kernel⟩
theorem ok__law_where {f : Addr} {fd : FuncData} (F : Fun K "_law_where" "_law_where" s__law_where f fd) {cF cN cC : Addr} {tP : Tok} (B : B K mg cF cN cC tP) (C__law_digit : Callee P w K mg base "_law_digit" 1 ["_law_state", "_law_base"] (spDigit K)) (C__law_most : Callee P w K mg base "_law_most" 1 ["_law_write_here"] (spMost K)) : FnOk P w K mg base CX0 2 f fd ["_law_state", "_law_model"] (spWhere K) := by
  refine F.okJ sc__law_where (fun vs H Q E h => ?_) (fun cdv A outer s H vs Q E hr h => ?_)
  · obtain ⟨p, m, d, l, s, us, W, rfl, _⟩ := h
    rfl
  obtain ⟨p, m, d, l, s, us, W, rfl, hp, md, en, ok, hW, n1, n2, q⟩ := h
  refine ⟨_, (bcons (sset (i := 2) sc__law_where.nd rfl (Or.inl rfl) (ecall C__law_digit (hr.mono (by decide)) rfl (acons (ev 0) (acons (eop op_add (ecallB call_lenQ rfl B.len bt_len (acons (eix ix_Q (ev 1) ei (fun _ _ => rfl)) anil)) ei) anil))))
      (bcons (sset (i := 3) sc__law_where.nd rfl (Or.inl rfl) ei)
      (bcut (sif (tcmp op_lt (ev 2) (ecallB call_lenQ rfl B.len bt_len (acons (eix ix_Q (ev 1) ei (fun _ _ => rfl)) anil)) (nomark _)) (bone (sset (i := 3) sc__law_where.nd rfl (Or.inl rfl) (ecall C__law_most (hr.mono (by decide)) rfl (acons (eix ix_Q (eix ix_Q (ev 1) ei (fun _ _ => rfl)) (ev 2) (fun _ _ => rfl)) anil)))) bnil)
      (bcons (sset (i := 4) sc__law_where.nd rfl (Or.inl rfl) (ecall C__law_digit (hr.mono (by decide)) rfl (acons (ev 0) (acons ei anil))))
      (bcons (sif (tcmp op_eq (ev 4) ei (nomark _)) (bone (sret (etupQ (acons (ev 2) (acons ei anil))))) bnil)
      (bcons (sif (tcmp op_eq (ev 4) ei (nomark _)) (bone (sret (etupQ (acons (ev 2) (acons (ev 3) anil))))) bnil)
      (bone (sret (etupQ (acons (ev 2) (acons (ecall C__law_digit (hr.mono (by decide)) rfl (acons (ev 0) (acons (eop op_add (ev 3) ei) anil))) anil))))))))))), ?_⟩
  simp only [tSeq, tNext, tIfS, tAsg, gName, gSub, tRet, tRetN, tDrop, tVar, tC, tOp, tUn, rI0, rI, rU, tTest, tB, tAndV, tOrV, tNotV, tAnd, tOr, tNot, tIf, tChain, tCB, tCons, tNil, tLst, tTup, tCallC, List.getElem?_cons_zero, List.getElem?_cons_succ, List.set_cons_zero, List.set_cons_succ, Option.some.injEq, V.int.injEq, V.bl.injEq, V.ref.injEq, V.ty.injEq, V.str.injEq, List.cons.injEq, exists_eq_left', exists_eq_left, exists_and_left, and_true, true_and, and_assoc, cxK, rIxF, rSetL, rEq, rNe, scal, HO.lst.injEq, HO.tup.injEq, upd_none, ixN_10, ixN_20, ixN_21, ixN_30, ixN_31, ixN_32, upd_same, seqAt_updL, seqAt_updT, atI_0, atI_1, atI_2, atI_3, decide_eq_true_eq, L2.start, List.map_cons, List.map_nil, List.length_cons, List.length_nil, Nat.reduceAdd, Nat.reduceSub, List.replicate_succ, List.replicate_zero, List.cons_append, List.nil_append, List.append_nil, tFor_rng1, tFor_rng2, tFor_list, tFor_tup, CDv, CMul, CPow, sizeLine_eq, Int.reduceLE, Int.reduceLT, Int.reducePow, Int.reduceToNat, Int.reduceAdd, Int.reduceSub, Int.reduceMul, Int.reduceNeg, Nat.reduceLeDiff, Nat.reducePow, Nat.reduceLT, Int.reduceEq, true_or, or_true, ite_true, ite_false, if_true, if_false, Bool.not_true, Bool.not_false, Bool.false_eq_true, decide_true, decide_false, rIxQ, seqQ_updL, seqQ_updT, tupQ_updT, tSl, tNoPart, tPart, rSlQ, rSlTX, rCatQ, tTupQ, tLstQ, tNever, rEqD, rInQ, gTupQ, gCons, gNil, tBM, rAppend, tMakeQ, sFld, tFld, sFldAug, tMeth, tDNewQ, tFor_list, rSlS, tLc_zipS, tLcD, tBM0, rExtend, tLc_rng1, tLc_list, tLc_tup, pick_nil, pick_own, pick_cap, join_some, tYes, tyV, tDGet, rIxS, rJoin, sDPut, rNeE, tTry, Ends.gone, tRaise, cxN, tCall, seqQ_lst md.hm,  seqQ_lst md.hl]
  have lu : us.length = W.length := en.1
  have e3 : atI [V.ref d, V.str s.J, V.ref l] 2 = some (.ref l) := rfl
  refine ⟨p, _, rfl, hp, by omega, by rw [List.length_map]; omega, fun n H1 n0' n1' hp1 k1 => ?_⟩
  rw [List.length_map] at n1'
  obtain ⟨n, rfl⟩ : ∃ k : Nat, n = k := ⟨n.toNat, by omega⟩
  have md1 := md.kp k1 hp n1 n2
  have en1 := en.kp k1 hp
  refine ⟨fun σ' H' => σ' = [some (.ref p), some (.ref m), some (.int (n : Int)), some (.int ((mostOf W n : Nat) : Int)), none] ∧ H' = H1, ?_, ?_⟩
  · simp only [tSeq, tNext, tIfS, tAsg, gName, gSub, tRet, tRetN, tDrop, tVar, tC, tOp, tUn, rI0, rI, rU, tTest, tB, tAndV, tOrV, tNotV, tAnd, tOr, tNot, tIf, tChain, tCB, tCons, tNil, tLst, tTup, tCallC, List.getElem?_cons_zero, List.getElem?_cons_succ, List.set_cons_zero, List.set_cons_succ, Option.some.injEq, V.int.injEq, V.bl.injEq, V.ref.injEq, V.ty.injEq, V.str.injEq, List.cons.injEq, exists_eq_left', exists_eq_left, exists_and_left, and_true, true_and, and_assoc, cxK, rIxF, rSetL, rEq, rNe, scal, HO.lst.injEq, HO.tup.injEq, upd_none, ixN_10, ixN_20, ixN_21, ixN_30, ixN_31, ixN_32, upd_same, seqAt_updL, seqAt_updT, atI_0, atI_1, atI_2, atI_3, decide_eq_true_eq, L2.start, List.map_cons, List.map_nil, List.length_cons, List.length_nil, Nat.reduceAdd, Nat.reduceSub, List.replicate_succ, List.replicate_zero, List.cons_append, List.nil_append, List.append_nil, tFor_rng1, tFor_rng2, tFor_list, tFor_tup, CDv, CMul, CPow, sizeLine_eq, Int.reduceLE, Int.reduceLT, Int.reducePow, Int.reduceToNat, Int.reduceAdd, Int.reduceSub, Int.reduceMul, Int.reduceNeg, Nat.reduceLeDiff, Nat.reducePow, Nat.reduceLT, Int.reduceEq, true_or, or_true, ite_true, ite_false, if_true, if_false, Bool.not_true, Bool.not_false, Bool.false_eq_true, decide_true, decide_false, rIxQ, seqQ_updL, seqQ_updT, tupQ_updT, tSl, tNoPart, tPart, rSlQ, rSlTX, rCatQ, tTupQ, tLstQ, tNever, rEqD, rInQ, gTupQ, gCons, gNil, tBM, rAppend, tMakeQ, sFld, tFld, sFldAug, tMeth, tDNewQ, tFor_list, rSlS, tLc_zipS, tLcD, tBM0, rExtend, tLc_rng1, tLc_list, tLc_tup, pick_nil, pick_own, pick_cap, join_some, tYes, tyV, tDGet, rIxS, rJoin, sDPut, rNeE, tTry, Ends.gone, tRaise, cxN, tCall, seqQ_lst md1.hm,  seqQ_lst md1.hl]
    refine ite2 (fun c => ?_) (fun c => ?_)
    · have c : n < us.length := by rw [List.length_map] at c; omega
      have ea : us[n]? = some (us[n]'c) := List.getElem?_eq_getElem c
      have ee : W[n]? = some (W[n]'(by omega)) := List.getElem?_eq_getElem (by omega)
      refine ⟨_, by rw [atI_nat (by simpa using c), List.getElem?_map, ea]; rfl, _, _, rfl, (en1.2 n _ _ ea ee).1, ok.at ee, ?_⟩
      rw [mostE_of ee]
      exact ⟨rfl, rfl⟩
    · rw [mostOf_none (by rw [List.length_map] at c; omega)]
      rfl
  rintro _ _ ⟨rfl, rfl⟩
  try walk_at "rn"
  refine ⟨p, 4, rfl, hp1, by decide, by decide, fun v H2 v0 v1 hp2 k2 => ?_⟩
  try walk_at "rn"
  refine ite2 (fun c => ?_) (fun c => ite2 (fun c2 => ?_) (fun c2 => ?_))
  · exact fun T nT => q n 0 T _ (by omega) (Nat.zero_le _) tupQ_updT (hp2.upd (hp2.ne nT).symm) (k1.trans (k2.trans (.new nT)))
  · exact fun T nT => q n _ T _ (by omega) (Nat.le_refl _) tupQ_updT (hp2.upd (hp2.ne nT).symm) (k1.trans (k2.trans (.new nT)))
  · have big : mostOf W n ≤ 101 := by
      by_cases z : n < W.length
      · have ee : W[n]? = some (W[n]'z) := List.getElem?_eq_getElem z
        have := Ent.signs_small (ok.at ee).sm
        unfold mostOf
        rw [ee]
        show (W[n]'z).signs.length - 1 ≤ 101
        omega
      · rw [mostOf_none (by omega)]; omega
    refine ⟨p, _, rfl, hp2, by omega, by omega, fun g H3 g0 g1 hp3 k3 => ?_⟩
    obtain ⟨g, rfl⟩ : ∃ k : Nat, g = k := ⟨g.toNat, by omega⟩
    try walk_at "rn"
    exact fun T nT => q n g T _ (by omega) (by omega) tupQ_updT (hp3.upd (hp3.ne nT).symm) (k1.trans (k2.trans (k3.trans (.new nT))))
theorem MdAt.jr {H : Hp} {m d l : Addr} {s : Sh} {us : List Addr} (md : MdAt H m d l s us) (j : Str) : MdAt (upd H m (.lst [.ref d, .str j, .ref l])) m d l { s with J := j } us := by
  have n1 : d ≠ m := by rintro rfl; have := md.hd; rw [md.hm] at this; cases this
  exact ⟨upd_same, (upd_ne n1).trans md.hd, (upd_ne md.ne.symm).trans md.hl, md.ne⟩
theorem MdAt.put {H : Hp} {m d l : Addr} {s : Sh} {us : List Addr} (md : MdAt H m d l s us) (k : Int) (t : Str) : MdAt (upd H d (.dK (putK (dkv s.D) (.inl k) (.str t)))) m d l { s with D := putD s.D k t } us := by
  have n1 : m ≠ d := by rintro rfl; have := md.hd; rw [md.hm] at this; cases this
  have n2 : l ≠ d := by rintro rfl; have := md.hd; rw [md.hl] at this; cases this
  rw [putK_dkv]
  exact ⟨(upd_ne n1).trans md.hm, upd_same, (upd_ne n2).trans md.hl, md.ne⟩
theorem MdAt.app {H : Hp} {m d l : Addr} {s : Sh} {us us' : List Addr} (md : MdAt H m d l s us) : MdAt (upd H l (.lst (us'.map V.ref))) m d l s us' := by
  have n2 : d ≠ l := by rintro rfl; have := md.hd; rw [md.hl] at this; cases this
  exact ⟨(upd_ne md.ne).trans md.hm, (upd_ne n2).trans md.hd, upd_same, md.ne⟩
theorem str_assoc (a b c : Str) : a ++ b ++ c = a ++ (b ++ c) := str_ext (by rw [app_cps, app_cps, app_cps, app_cps, List.append_assoc])
theorem page_signs {k : Int} {t : Str} (h : 0 < t.length) : ¬ (t = "") := by
  rintro rfl
  have z : ("" : Str).length = 0 := by decide +kernel
  omega
def spPutM (K : PySem.W.Frag) : Sp := fun vs H Q _ => ∃ m d l s us a e, vs = [.ref m, .ref a] ∧ MdAt H m d l s us ∧ tupQ K H a = some (Ent.v e) ∧ e.ok ∧ s.J.length + 101 ≤ sizeLine ∧ s.D.length < 1000 ∧ us.length < 1000 ∧
  ∀ H', MdAt H' m d l (s.carry e e.signs) (us ++ [a]) → KpL K [m, d, l] H H' → Q .non H'
theorem sc__law_put : FnScope ["_law_model", "_law_write_here"] ["_law_model", "_law_write_here"] (defScope s__law_put) := ⟨rfl, rfl, rfl, by decide +kernel, rfl, by decide +kernel, by decide +kernel⟩
theorem ok__law_put {f : Addr} {fd : FuncData} (F : Fun K "_law_put" "_law_put" s__law_put f fd) {cF cN cC : Addr} {tP : Tok} (B : B K mg cF cN cC tP) : FnOk P w K mg base CX0 1 f fd ["_law_model", "_law_write_here"] (spPutM K) := by
  refine F.okJ sc__law_put (fun vs H Q E h => ?_) (fun cdv A outer s H vs Q E hr h => ?_)
  · obtain ⟨m, d, l, s, us, a, e, rfl, _⟩ := h
    rfl
  obtain ⟨m, d, l, s, us, a, e, rfl, md, ha, ok, hj, hd, hl, q⟩ := h
  refine ⟨_, (bcut (sif (tcmp op_eq (eix ix_Q (ev 1) ei (fun _ _ => rfl)) estr (nomark _)) (bone (sdput hr.units (eix ix_Q (ev 0) ei (fun _ _ => rfl)) (eix ix_Q (ev 1) ei (fun _ _ => rfl)) (eix ix_Q (ev 1) ei (fun _ _ => rfl)))) (bone (sif (tcmp op_eq (eix ix_Q (ev 1) ei (fun _ _ => rfl)) estr (nomark _)) (bone (sasg (eop op_add_str (eop op_add_str (eix ix_Q (ev 0) ei (fun _ _ => rfl)) (eix ix_Q (ev 1) ei (fun _ _ => rfl))) estr) (gsub (ev 0) ei set_list))) (bone (sasg estr (gsub (ev 0) ei set_list))))))
      (bone (sexpr (ebm PySem.F.plainAttrs_list PySem.F.slot_list_append PySem.F.type_list_append mt_append (eix ix_Q (ev 0) ei (fun _ _ => rfl)) (acons (ev 1) anil))))), ?_⟩
  refine ⟨fun σ' H' => σ' = [some (.ref m), some (.ref a)] ∧ MdAt H' m d l (s.carry e e.signs) us ∧ KpL K [m, d, l] H H', ?_, ?_⟩
  · simp only [tSeq, tNext, tIfS, tAsg, gName, gSub, tRet, tRetN, tDrop, tVar, tC, tOp, tUn, rI0, rI, rU, tTest, tB, tAndV, tOrV, tNotV, tAnd, tOr, tNot, tIf, tChain, tCB, tCons, tNil, tLst, tTup, tCallC, List.getElem?_cons_zero, List.getElem?_cons_succ, List.set_cons_zero, List.set_cons_succ, Option.some.injEq, V.int.injEq, V.bl.injEq, V.ref.injEq, V.ty.injEq, V.str.injEq, List.cons.injEq, exists_eq_left', exists_eq_left, exists_and_left, and_true, true_and, and_assoc, cxK, rIxF, rSetL, rEq, rNe, scal, HO.lst.injEq, HO.tup.injEq, upd_none, ixN_10, ixN_20, ixN_21, ixN_30, ixN_31, ixN_32, upd_same, seqAt_updL, seqAt_updT, atI_0, atI_1, atI_2, atI_3, decide_eq_true_eq, L2.start, List.map_cons, List.map_nil, List.length_cons, List.length_nil, Nat.reduceAdd, Nat.reduceSub, List.replicate_succ, List.replicate_zero, List.cons_append, List.nil_append, List.append_nil, tFor_rng1, tFor_rng2, tFor_list, tFor_tup, CDv, CMul, CPow, sizeLine_eq, Int.reduceLE, Int.reduceLT, Int.reducePow, Int.reduceToNat, Int.reduceAdd, Int.reduceSub, Int.reduceMul, Int.reduceNeg, Nat.reduceLeDiff, Nat.reducePow, Nat.reduceLT, Int.reduceEq, true_or, or_true, ite_true, ite_false, if_true, if_false, Bool.not_true, Bool.not_false, Bool.false_eq_true, decide_true, decide_false, rIxQ, seqQ_updL, seqQ_updT, tupQ_updT, tSl, tNoPart, tPart, rSlQ, rSlTX, rCatQ, tTupQ, tLstQ, tNever, rEqD, rInQ, gTupQ, gCons, gNil, tBM, rAppend, tMakeQ, sFld, tFld, sFldAug, tMeth, tDNewQ, tFor_list, rSlS, tLc_zipS, tLcD, tBM0, rExtend, tLc_rng1, tLc_list, tLc_tup, pick_nil, pick_own, pick_cap, join_some, tYes, tyV, tDGet, rIxS, rJoin, sDPut, rNeE, tTry, Ends.gone, tRaise, cxN, tCall, seqQ_T ha,  seqQ_lst md.hm]
    cases e with
    | page k t =>
      refine ⟨_, rfl, rfl, ?_⟩
      rw [if_pos rfl]
      refine ⟨_, rfl, _, rfl, _, .k (k := .inl k) md.hd (by simp only [dkv, List.length_map]; have := sizeLine_eq; omega), ?_, .upd md.hd (by simp)⟩
      have c : s.carry (.page k t) (Ent.page k t).signs = { s with D := putD s.D k t } := by
        show (if t = "" then s else _) = _
        rw [if_neg (page_signs (k := k) ok.2.2.1)]
        rfl
      rw [c]
      exact md.put k t
    | line t =>
      refine ⟨_, rfl, rfl, ?_⟩
      rw [if_neg (fun z => w1 (V.str.inj z))]
      refine ⟨_, rfl, rfl, ?_⟩
      rw [if_pos rfl]
      have ht : t.length ≤ 100 := ok
      have sz := sizeLine_eq
      have z : (Str.ofString "\n").length = 1 := by decide +kernel
      refine ⟨_, rfl, _, rfl, by omega, by rw [slen]; omega, _, md.hm, _, rfl, ?_, .upd md.hm (by simp)⟩
      have c : s.carry (.line t) (Ent.line t).signs = { s with J := s.J ++ t ++ Str.ofString "\n" } := by
        show { s with J := s.J ++ (t ++ _) } = _
        rw [str_assoc]
      rw [c]
      exact md.jr _
    | blot =>
      refine ⟨_, rfl, rfl, ?_⟩
      rw [if_neg (fun z => w2 (V.str.inj z))]
      refine ⟨_, rfl, rfl, ?_⟩
      rw [if_neg (fun z => w3 (V.str.inj z))]
      exact ⟨_, md.hm, _, rfl, md.jr "", .upd md.hm (by simp)⟩
  rintro _ H1 ⟨rfl, md1, k1⟩
  simp only [tSeq, tNext, tIfS, tAsg, gName, gSub, tRet, tRetN, tDrop, tVar, tC, tOp, tUn, rI0, rI, rU, tTest, tB, tAndV, tOrV, tNotV, tAnd, tOr, tNot, tIf, tChain, tCB, tCons, tNil, tLst, tTup, tCallC, List.getElem?_cons_zero, List.getElem?_cons_succ, List.set_cons_zero, List.set_cons_succ, Option.some.injEq, V.int.injEq, V.bl.injEq, V.ref.injEq, V.ty.injEq, V.str.injEq, List.cons.injEq, exists_eq_left', exists_eq_left, exists_and_left, and_true, true_and, and_assoc, cxK, rIxF, rSetL, rEq, rNe, scal, HO.lst.injEq, HO.tup.injEq, upd_none, ixN_10, ixN_20, ixN_21, ixN_30, ixN_31, ixN_32, upd_same, seqAt_updL, seqAt_updT, atI_0, atI_1, atI_2, atI_3, decide_eq_true_eq, L2.start, List.map_cons, List.map_nil, List.length_cons, List.length_nil, Nat.reduceAdd, Nat.reduceSub, List.replicate_succ, List.replicate_zero, List.cons_append, List.nil_append, List.append_nil, tFor_rng1, tFor_rng2, tFor_list, tFor_tup, CDv, CMul, CPow, sizeLine_eq, Int.reduceLE, Int.reduceLT, Int.reducePow, Int.reduceToNat, Int.reduceAdd, Int.reduceSub, Int.reduceMul, Int.reduceNeg, Nat.reduceLeDiff, Nat.reducePow, Nat.reduceLT, Int.reduceEq, true_or, or_true, ite_true, ite_false, if_true, if_false, Bool.not_true, Bool.not_false, Bool.false_eq_true, decide_true, decide_false, rIxQ, seqQ_updL, seqQ_updT, tupQ_updT, tSl, tNoPart, tPart, rSlQ, rSlTX, rCatQ, tTupQ, tLstQ, tNever, rEqD, rInQ, gTupQ, gCons, gNil, tBM, rAppend, tMakeQ, sFld, tFld, sFldAug, tMeth, tDNewQ, tFor_list, rSlS, tLc_zipS, tLcD, tBM0, rExtend, tLc_rng1, tLc_list, tLc_tup, pick_nil, pick_own, pick_cap, join_some, tYes, tyV, tDGet, rIxS, rJoin, sDPut, rNeE, tTry, Ends.gone, tRaise, cxN, tCall, seqQ_lst md1.hm]
  refine ⟨.inl ⟨_, SqL.of md1.hl⟩, _, md1.hl, by rw [List.length_map]; omega, ?_⟩
  have e1 : (us.map V.ref ++ [V.ref a]) = (us ++ [a]).map V.ref := by simp only [List.map_append, List.map_cons, List.map_nil]
  rw [e1]
  exact q _ md1.app (k1.trans (.upd md1.hl (by simp)) (fun _ z => z))
def spPD (K : PySem.W.Frag) (cShelf : Addr) : Sp := fun vs H Q _ => ∃ p dx a1 a2 a3 s ws a e, vs = [.ref p, .ref a] ∧ ShAt K H cShelf p dx a1 a2 a3 s ws ∧ tupQ K H a = some (Ent.v e) ∧ e.ok ∧ s.J.length + 101 ≤ sizeLine ∧ s.D.length < 1000 ∧ ws.length < 1000 ∧
  ∀ b H', new K H b → tupQ K H' b = some (Ent.v e) → ShAt K H' cShelf p dx a1 a2 a3 (s.carry e e.signs) (ws ++ [b]) → KpL K [p, a1, a2] H H' → Q (.bl true) H'
theorem sc__law_put_down : FnScope ["_law_shelf", "_law_write_here"] ["_law_shelf", "_law_write_here"] (defScope s__law_put_down) := ⟨rfl, rfl, rfl, by decide +kernel, rfl, by decide +kernel, by decide +kernel⟩
theorem ok__law_put_down {f cShelf : Addr} {fd : FuncData} (F : Fun K "_law_put_down" "_law_put_down" s__law_put_down f fd) {cF cN cC : Addr} {tP : Tok} (B : B K mg cF cN cC tP) (MC_Shelf_write : MethC P w K mg base cShelf "write" 3 ["self", "place", "text"] [] (spWr K cShelf fun vs e => ∃ k t, vs = [.int k, .str t] ∧ e = .page k t ∧ 0 ≤ k ∧ k ≤ 1000000)) (MC_Shelf_line : MethC P w K mg base cShelf "line" 3 ["self", "text"] [] (spWr K cShelf fun vs e => ∃ t, vs = [.str t] ∧ e = .line t)) (MC_Shelf_blot : MethC P w K mg base cShelf "blot" 3 ["self"] [] (spWr K cShelf fun vs e => vs = [] ∧ e = .blot)) (c_Shelf : Cls K cShelf) : FnOk P w K mg base CX0 4 f fd ["_law_shelf", "_law_write_here"] (spPD K cShelf) := by
  refine F.okJ sc__law_put_down (fun vs H Q E h => ?_) (fun cdv A outer s H vs Q E hr h => ?_)
  · obtain ⟨p, dx, a1, a2, a3, s, ws, a, e, rfl, _⟩ := h
    rfl
  obtain ⟨p, dx, a1, a2, a3, s, ws, a, e, rfl, sh, ha, ok, hj, hd, hw, q⟩ := h
  refine ⟨_, (bcons (sif (tcmp op_eq (eix ix_Q (ev 1) ei (fun _ _ => rfl)) estr (nomark _)) (bone (sret (ecmp op_isN (emeth MC_Shelf_write c_Shelf (hr.mono (by decide)) (ev 0) (acons (eix ix_Q (ev 1) ei (fun _ _ => rfl)) (acons (eix ix_Q (ev 1) ei (fun _ _ => rfl)) anil))) enon (nomark _)))) bnil)
      (bcons (sif (tcmp op_eq (eix ix_Q (ev 1) ei (fun _ _ => rfl)) estr (nomark _)) (bone (sret (ecmp op_isN (emeth MC_Shelf_line c_Shelf (hr.mono (by decide)) (ev 0) (acons (eix ix_Q (ev 1) ei (fun _ _ => rfl)) anil)) enon (nomark _)))) bnil)
      (bone (sret (ecmp op_isN (emeth0 MC_Shelf_blot c_Shelf (hr.mono (by decide)) (ev 0)) enon (nomark _)))))), ?_⟩
  simp only [tSeq, tNext, tIfS, tAsg, gName, gSub, tRet, tRetN, tDrop, tVar, tC, tOp, tUn, rI0, rI, rU, tTest, tB, tAndV, tOrV, tNotV, tAnd, tOr, tNot, tIf, tChain, tCB, tCons, tNil, tLst, tTup, tCallC, List.getElem?_cons_zero, List.getElem?_cons_succ, List.set_cons_zero, List.set_cons_succ, Option.some.injEq, V.int.injEq, V.bl.injEq, V.ref.injEq, V.ty.injEq, V.str.injEq, List.cons.injEq, exists_eq_left', exists_eq_left, exists_and_left, and_true, true_and, and_assoc, cxK, rIxF, rSetL, rEq, rNe, scal, HO.lst.injEq, HO.tup.injEq, upd_none, ixN_10, ixN_20, ixN_21, ixN_30, ixN_31, ixN_32, upd_same, seqAt_updL, seqAt_updT, atI_0, atI_1, atI_2, atI_3, decide_eq_true_eq, L2.start, List.map_cons, List.map_nil, List.length_cons, List.length_nil, Nat.reduceAdd, Nat.reduceSub, List.replicate_succ, List.replicate_zero, List.cons_append, List.nil_append, List.append_nil, tFor_rng1, tFor_rng2, tFor_list, tFor_tup, CDv, CMul, CPow, sizeLine_eq, Int.reduceLE, Int.reduceLT, Int.reducePow, Int.reduceToNat, Int.reduceAdd, Int.reduceSub, Int.reduceMul, Int.reduceNeg, Nat.reduceLeDiff, Nat.reducePow, Nat.reduceLT, Int.reduceEq, true_or, or_true, ite_true, ite_false, if_true, if_false, Bool.not_true, Bool.not_false, Bool.false_eq_true, decide_true, decide_false, rIxQ, seqQ_updL, seqQ_updT, tupQ_updT, tSl, tNoPart, tPart, rSlQ, rSlTX, rCatQ, tTupQ, tLstQ, tNever, rEqD, rInQ, gTupQ, gCons, gNil, tBM, rAppend, tMakeQ, sFld, tFld, sFldAug, tMeth, tDNewQ, tFor_list, rSlS, tLc_zipS, tLcD, tBM0, rExtend, tLc_rng1, tLc_list, tLc_tup, pick_nil, pick_own, pick_cap, join_some, tYes, tyV, tDGet, rIxS, rJoin, sDPut, rNeE, tTry, Ends.gone, tRaise, cxN, tCall, seqQ_T ha]
  have fin : ∀ b H', new K H b → tupQ K H' b = some (Ent.v e) → ShAt K H' cShelf p dx a1 a2 a3 (s.carry e e.signs) (ws ++ [b]) → KpL K [p, a1, a2] H H' → Q (.bl (decide (V.non = V.non))) H' := fun b H' n t o k => by
    rw [decide_eq_true rfl]
    exact q b H' n t o k
  cases e with
  | page k t =>
    refine ⟨_, rfl, rfl, ?_⟩
    rw [if_pos rfl]
    exact ⟨_, _, sh.ins, fs_no (by decide +kernel) (by decide +kernel) (by decide +kernel) (by decide +kernel) (by decide +kernel), _, rfl, _, rfl, p, dx, a1, a2, a3, s, ws, _, _, rfl, ⟨k, t, rfl, rfl, ok.1, ok.2.1⟩, sh, ok.sm, hj, hd, hw, fin⟩
  | line t =>
    refine ⟨_, rfl, rfl, ?_⟩
    rw [if_neg (fun z => w1 (V.str.inj z))]
    refine ⟨_, rfl, rfl, ?_⟩
    rw [if_pos rfl]
    exact ⟨_, _, sh.ins, fs_no (by decide +kernel) (by decide +kernel) (by decide +kernel) (by decide +kernel) (by decide +kernel), _, rfl, p, dx, a1, a2, a3, s, ws, _, _, rfl, ⟨t, rfl, rfl⟩, sh, ok.sm, hj, hd, hw, fin⟩
  | blot =>
    refine ⟨_, rfl, rfl, ?_⟩
    rw [if_neg (fun z => w2 (V.str.inj z))]
    refine ⟨_, rfl, rfl, ?_⟩
    rw [if_neg (fun z => w3 (V.str.inj z))]
    exact ⟨_, _, sh.ins, fs_no (by decide +kernel) (by decide +kernel) (by decide +kernel) (by decide +kernel) (by decide +kernel), p, dx, a1, a2, a3, s, ws, _, _, rfl, ⟨rfl, rfl⟩, sh, ok.sm, hj, hd, hw, fin⟩
end
section
variable {P : Program} {w : World} {K : PySem.W.Frag} {mg : Str → Option Value} {base : Heap}
def spSame (K : PySem.W.Frag) (cShelf : Addr) : Sp := fun vs H Q _ => ∃ p dx a1 a2 a3 s ws m d l us W, vs = [.ref p, .ref m] ∧ ShAt K H cShelf p dx a1 a2 a3 s ws ∧ MdAt H m d l s us ∧ EntsAt K H ws W ∧ EntsAt K H us W ∧ s.D.length < 64 ∧ W.length < 1000 ∧ a1 ≠ d ∧ a3 ≠ d ∧
  ∀ H', Ext K H H' → Q (.bl true) H'
theorem keysV (D : List (Int × Str)) : (dkv D).map (fun q => kV q.1) = (D.map (·.1)).map V.int := by
  simp only [dkv, List.map_map]
  rfl
theorem perm_sub : ∀ {ks ns : List Int}, ks.Nodup → (∀ k ∈ ks, k ∈ ns) → ns.length ≤ ks.length → ks.Perm ns
  | [], ns, _, _, l => by
    have : ns = [] := List.eq_nil_of_length_eq_zero (by simpa using l)
    rw [this]
  | k :: ks, ns, nd, h, l => by
    have mk := h k List.mem_cons_self
    obtain ⟨n1, n2⟩ := List.nodup_cons.1 nd
    refine (List.Perm.cons k (perm_sub n2 (fun x hx => ?_) ?_)).trans (List.perm_cons_erase mk).symm
    · exact (List.mem_erase_of_ne (fun e => n1 (by rw [← e]; exact hx))).2 (h x (List.mem_cons_of_mem _ hx))
    · rw [List.length_erase_of_mem mk]
      rw [List.length_cons] at l
      omega
theorem sorts_one {ks ks2 ns : List Int} (up : ks.Pairwise (· < ·)) (mem : ∀ k, k ∈ ks ↔ k ∈ ns) (len : ks.length = ns.length) (up2 : ks2.Pairwise (· ≤ ·)) (pm : ks2.Perm ns) : ks2 = ks := by
  have nd : ks.Nodup := up.imp fun h => by omega
  have p1 : ks.Perm ns := perm_sub nd (fun k h => (mem k).1 h) (by omega)
  exact (pm.trans p1.symm).eq_of_pairwise (fun a b _ _ h1 h2 => by omega) up2 (up.imp fun h => by omega)
theorem Alk.ints {H : Hp} {n : Nat} {a b : Addr} {ks : List Int} (h1 : H a = some (.lst (ks.map V.int))) (h2 : H b = some (.lst (ks.map V.int))) (l : ks.length ≤ 1000) : Alk K H (n + 2) (.ref a) (.ref b) :=
  .inr (.inl ⟨a, b, _, _, rfl, rfl, h1, h2, rfl, by rw [List.length_map]; exact l, fun i x y e f => by
    rw [e] at f
    cases f
    rw [List.getElem?_map] at e
    obtain ⟨k, _, rfl⟩ := Option.map_eq_some_iff.1 e
    exact .int⟩)
theorem Alk.ent {H : Hp} {n : Nat} {a b : Addr} {e : Ent} (h1 : tupQ K H a = some (Ent.v e)) (h2 : tupQ K H b = some (Ent.v e)) : Alk K H (n + 2) (.ref a) (.ref b) := by
  refine .inr (.inr ⟨a, b, _, _, rfl, rfl, h1, h2, rfl, ?_, fun i x y f g => ?_⟩)
  · cases e <;> (simp only [Ent.v, List.length_cons, List.length_nil]; omega)
  · rw [f] at g
    cases g
    have m := List.mem_of_getElem? f
    cases e with
    | page k t =>
      simp only [Ent.v, List.mem_cons, List.not_mem_nil, or_false] at m
      rcases m with rfl | rfl | rfl
      · exact .str
      · exact .int
      · exact .str
    | line t =>
      simp only [Ent.v, List.mem_cons, List.not_mem_nil, or_false] at m
      rcases m with rfl | rfl <;> exact .str
    | blot =>
      simp only [Ent.v, List.mem_cons, List.not_mem_nil, or_false] at m
      subst m
      exact .str
theorem Alk.ents {H : Hp} {n : Nat} {a b : Addr} {ws us : List Addr} {W : List Ent} (h1 : H a = some (.lst (ws.map V.ref))) (h2 : H b = some (.lst (us.map V.ref))) (en : EntsAt K H ws W) (em : EntsAt K H us W) (l : W.length ≤ 1000) : Alk K H (n + 3) (.ref a) (.ref b) := by
  refine .inr (.inl ⟨a, b, _, _, rfl, rfl, h1, h2, by rw [List.length_map, List.length_map, en.1, em.1], by rw [List.length_map, en.1]; exact l, fun i x y e f => ?_⟩)
  rw [List.getElem?_map] at e f
  obtain ⟨c, ec, rfl⟩ := Option.map_eq_some_iff.1 e
  obtain ⟨c', ec', rfl⟩ := Option.map_eq_some_iff.1 f
  have hi : i < W.length := by rw [← en.1]; exact (List.getElem?_eq_some_iff.1 ec).1
  have ee : W[i]? = some (W[i]'hi) := List.getElem?_eq_getElem hi
  exact .ent (en.2 i c _ ec ee).1 (em.2 i c' _ ec' ee).1
theorem ShAt.off {H : Hp} {C p dx a1 a2 a3 b : Addr} {s : Sh} {ws : List Addr} {o : HO} (sh : ShAt K H C p dx a1 a2 a3 s ws) (n : p ≠ b) (n1 : a1 ≠ b) (n2 : a2 ≠ b) (n3 : a3 ≠ b) : ShAt K (upd H b o) C p dx a1 a2 a3 s ws :=
  ⟨(upd_ne n).trans sh.ins, (upd_ne n1).trans sh.d, (upd_ne n2).trans sh.w, (upd_ne n3).trans sh.d0, sh.n13⟩
theorem thaw_ext {H H' : Hp} {d : Addr} {kvs : List (Key × V)} {od : Obj} (h : H d = some (.dK kvs)) (x : Ext K (upd H d (.frz od (.dK kvs))) H') : Ext K H (upd H' d (.dK kvs)) := by
  refine ⟨fun r o e => ?_, fun r xs e kk => ?_⟩
  · by_cases z : r = d
    · subst z
      rw [upd_same, ← h]
      exact e
    · rw [upd_ne z]
      exact x.same r o (by rw [upd_ne z]; exact e)
  · have z : r ≠ d := fun z => by rw [z, h] at e; cases e
    rw [upd_ne z]
    exact x.mod r xs (by rw [upd_ne z]; exact e) kk
theorem lookup_in {k : Int} {t : Str} : ∀ {D : List (Int × Str)}, (k, t) ∈ D → ∃ t', D.lookup k = some t'
  | [], h => by cases h
  | (j, u) :: D, h => by
    by_cases e : k = j
    · subst e
      exact ⟨u, by simp only [List.lookup, beq_self_eq_true]⟩
    · have b : (k == j) = false := by simp [e]
      simp only [List.lookup, b]
      rcases List.mem_cons.1 h with z | z
      · cases z
        exact absurd rfl e
      · exact lookup_in z
theorem sc__law_same : FnScope ["_law_shelf", "_law_model", "_law_place"] ["_law_shelf", "_law_model"] (defScope s__law_same) := ⟨rfl, rfl, rfl, by decide +kernel, rfl, by decide +kernel, by decide +kernel⟩
theorem ok__law_same {f cShelf : Addr} {fd : FuncData} (F : Fun K "_law_same" "_law_same" s__law_same f fd) {cF cN cC : Addr} {tP : Tok} (B : B K mg cF cN cC tP) (C__law_alike : Callee P w K mg base "_law_alike" 3 ["_law_found", "_law_due"] (spAlk K 3)) (MC_Shelf_places : MethC P w K mg base cShelf "places" 1 ["self"] [] (spPlaces K cShelf)) (MC_Shelf_journal : MethC P w K mg base cShelf "journal" 1 ["self"] [] (spJournal K cShelf)) (MC_Shelf_page : MethC P w K mg base cShelf "page" 2 ["self", "place"] [] (spPage K cShelf)) (MC_Shelf_log : MethC P w K mg base cShelf "log" 1 ["self"] [] (spLog K cShelf)) (c_Shelf : Cls K cShelf) : FnOk P w K mg base CX0 4 f fd ["_law_shelf", "_law_model"] (spSame K cShelf) := by
  refine F.okJ sc__law_same (fun vs H Q E h => ?_) (fun cdv A outer s H vs Q E hr h => ?_)
  · obtain ⟨p, dx, a1, a2, a3, s, ws, m, d, l, us, W, rfl, _⟩ := h
    rfl
  obtain ⟨p, dx, a1, a2, a3, s, ws, m, d, l, us, W, rfl, sh, md, en, em, hd, hw, nd, nd3, q⟩ := h
  refine ⟨_, (bcons (sif (tw (wor (tnot (tval (ecall C__law_alike (hr.mono (by decide)) rfl (acons (emeth0 MC_Shelf_places c_Shelf (hr.mono (by decide)) (ev 0)) (acons (ecallB call_sortedL rfl B.sorted bt_sorted (acons (ecallTy (call_listD rfl) rfl B.list bt_list (acons (eix ix_Q (ev 1) ei (fun _ _ => rfl)) anil)) anil)) anil))))) (wor1 (tnot (tval (ecall C__law_alike (hr.mono (by decide)) rfl (acons (emeth0 MC_Shelf_journal c_Shelf (hr.mono (by decide)) (ev 0)) (acons (eix ix_Q (ev 1) ei (fun _ _ => rfl)) anil)))))))) (bone (sret ebl)) bnil)
      (bcons (sforD PassesOwn.never rfl (eix ix_Q (ev 1) ei (fun _ _ => rfl)) (gname (i := 2) sc__law_same.nd rfl (Or.inl rfl))
        (bone (sif (tnot (tval (ecall C__law_alike (hr.mono (by decide)) rfl (acons (emeth MC_Shelf_page c_Shelf (hr.mono (by decide)) (ev 0) (acons (ev 2) anil)) (acons (edget hr.units (eix ix_Q (ev 1) ei (fun _ _ => rfl)) (ev 2) (fun _ _ => rfl)) anil))))) (bone (sret ebl)) bnil)))
      (bone (sret (ecall C__law_alike (hr.mono (by decide)) rfl (acons (emeth0 MC_Shelf_log c_Shelf (hr.mono (by decide)) (ev 0)) (acons (eix ix_Q (ev 1) ei (fun _ _ => rfl)) anil))))))), ?_⟩
  try walk_at "rn"
  refine ⟨_, _, sh.ins, fs_no (by decide +kernel) (by decide +kernel) (by decide +kernel) (by decide +kernel) (by decide +kernel), p, dx, a1, a2, a3, s, ws, rfl, sh, hd, fun b ks nb up mem len => ?_⟩
  have x1 : Ext K H (upd H b (.lst (ks.map V.int))) := .new nb
  have md1 := md.ext x1
  have hb1 : (upd H b (.lst (ks.map V.int))) b = some (.lst (ks.map V.int)) := upd_same
  generalize upd H b (.lst (ks.map V.int)) = H1 at x1 md1 hb1
  refine ⟨_, seqQ_lst md1.hm, _, atI_0, _, rfl, _, md1.hd, by simp only [dkv, List.length_map]; omega, fun D nD => ?_⟩
  rw [keysV]
  refine ⟨s.D.map (·.1), SqL.of upd_same, by rw [List.length_map]; exact hd, fun D2 ks2 nD2 up2 pm => ?_⟩
  have ek : ks2 = ks := sorts_one up mem (by rw [List.length_map]; exact len) up2 pm
  subst ek
  have x2 := x1.trans ((Ext.new (K := K) (o := .lst ((s.D.map (·.1)).map V.int)) nD).trans (.new (o := .lst (ks2.map V.int)) nD2))
  have hb2 := ((Ext.new (K := K) (o := .lst ((s.D.map (·.1)).map V.int)) nD).trans (.new (o := .lst (ks2.map V.int)) nD2)).same _ _ hb1
  have hd2 : (upd (upd H1 D (.lst ((s.D.map (·.1)).map V.int))) D2 (.lst (ks2.map V.int))) D2 = some (.lst (ks2.map V.int)) := upd_same
  generalize (upd (upd H1 D (.lst ((s.D.map (·.1)).map V.int))) D2 (.lst (ks2.map V.int))) = H2 at x2 hb2 hd2
  refine ⟨_, _, rfl, Alk.ints hb2 hd2 (by omega), fun H3 y3 => ?_⟩
  have x3 := x2.trans y3
  clear hb2 hd2 hb1 md1 x1 y3 x2
  refine ⟨_, rfl, ?_⟩
  rw [if_neg (by decide)]
  have sh3 := sh.ext x3
  have md3 := md.ext x3
  refine ⟨_, _, sh3.ins, fs_no (by decide +kernel) (by decide +kernel) (by decide +kernel) (by decide +kernel) (by decide +kernel), p, dx, a1, a2, a3, s, ws, rfl, sh3, _, seqQ_lst md3.hm, _, atI_1, _, _, rfl, .str, fun H4 y4 => ?_⟩
  have x4 := x3.trans y4
  clear sh3 md3 x3 y4
  refine ⟨_, rfl, ?_⟩
  rw [if_neg (by decide)]
  have sh4 := sh.ext x4
  have md4 := md.ext x4
  intro N
  simp only [tSeq, tNext, tIfS, tAsg, gName, gSub, tRet, tRetN, tDrop, tVar, tC, tOp, tUn, rI0, rI, rU, tTest, tB, tAndV, tOrV, tNotV, tAnd, tOr, tNot, tIf, tChain, tCB, tCons, tNil, tLst, tTup, tCallC, List.getElem?_cons_zero, List.getElem?_cons_succ, List.set_cons_zero, List.set_cons_succ, Option.some.injEq, V.int.injEq, V.bl.injEq, V.ref.injEq, V.ty.injEq, V.str.injEq, List.cons.injEq, exists_eq_left', exists_eq_left, exists_and_left, and_true, true_and, and_assoc, cxK, rIxF, rSetL, rEq, rNe, scal, HO.lst.injEq, HO.tup.injEq, upd_none, ixN_10, ixN_20, ixN_21, ixN_30, ixN_31, ixN_32, upd_same, seqAt_updL, seqAt_updT, atI_0, atI_1, atI_2, atI_3, decide_eq_true_eq, L2.start, List.map_cons, List.map_nil, List.length_cons, List.length_nil, Nat.reduceAdd, Nat.reduceSub, List.replicate_succ, List.replicate_zero, List.cons_append, List.nil_append, List.append_nil, tFor_rng1, tFor_rng2, tFor_list, tFor_tup, CDv, CMul, CPow, sizeLine_eq, Int.reduceLE, Int.reduceLT, Int.reducePow, Int.reduceToNat, Int.reduceAdd, Int.reduceSub, Int.reduceMul, Int.reduceNeg, Nat.reduceLeDiff, Nat.reducePow, Nat.reduceLT, Int.reduceEq, true_or, or_true, ite_true, ite_false, if_true, if_false, Bool.not_true, Bool.not_false, Bool.false_eq_true, decide_true, decide_false, rIxQ, seqQ_updL, seqQ_updT, tupQ_updT, tSl, tNoPart, tPart, rSlQ, rSlTX, rCatQ, tTupQ, tLstQ, tNever, rEqD, rInQ, gTupQ, gCons, gNil, tBM, rAppend, tMakeQ, sFld, tFld, sFldAug, tMeth, tDNewQ, tFor_list, rSlS, tLc_zipS, tLcD, tBM0, rExtend, tLc_rng1, tLc_list, tLc_tup, pick_nil, pick_own, pick_cap, join_some, tYes, tyV, tDGet, rIxS, rJoin, sDPut, rNeE, tTry, Ends.gone, tRaise, cxN, tCall, seqQ_lst md4.hm]
  refine ⟨_, md4.hd, fun Nd od => ?_⟩
  have np : p ≠ d := fun z => by have := sh4.ins; rw [z, md4.hd] at this; cases this
  have n2 : a2 ≠ d := fun z => by have := sh4.w; rw [z, md4.hd] at this; cases this
  have nm : m ≠ d := fun z => by have := md4.hm; rw [z, md4.hd] at this; cases this
  have shf := sh4.off (o := .frz od (.dK (dkv s.D))) np nd n2 nd3
  have hmf : (upd H4 d (.frz od (.dK (dkv s.D)))) m = some (.lst [.ref d, .str s.J, .ref l]) := by rw [upd_ne nm]; exact md4.hm
  have hdf : (upd H4 d (.frz od (.dK (dkv s.D)))) d = some (.frz od (.dK (dkv s.D))) := upd_same
  refine loop_dict (fun i σ' H' => ∃ v2 : Option V, σ' = [some (.ref p), some (.ref m), v2] ∧ Ext K (upd H4 d (.frz od (.dK (dkv s.D)))) H') ⟨_, rfl, .refl⟩ ?_ ?_ ?_
  · rintro i σ' H' _ ⟨v2, rfl, x⟩
    exact x.same _ _ hdf
  · rintro i kv σ' H' hk ⟨v2, rfl, x⟩
    obtain ⟨⟨k, t⟩, ek, rfl⟩ : ∃ q : Int × Str, s.D[i]? = some q ∧ kv = (.inl q.1, .str q.2) := by
      unfold dkv at hk
      rw [List.getElem?_map] at hk
      obtain ⟨q, e1, e2⟩ := Option.map_eq_some_iff.1 hk
      exact ⟨q, e1, e2.symm⟩
    obtain ⟨t', el⟩ := lookup_in (List.mem_of_getElem? ek)
    have ev : valV (dkv s.D) (.inl k) = some (.str t') := by rw [valV_dkv, el]; rfl
    have gb : DGet H' d (V.int k) (some (.str t')) := by
      rw [← ev]
      exact .inl ⟨_, .inl k, .inr ⟨od, x.same _ _ hdf⟩, rfl, rfl⟩
    simp only [tSeq, tNext, tIfS, tAsg, gName, gSub, tRet, tRetN, tDrop, tVar, tC, tOp, tUn, rI0, rI, rU, tTest, tB, tAndV, tOrV, tNotV, tAnd, tOr, tNot, tIf, tChain, tCB, tCons, tNil, tLst, tTup, tCallC, List.getElem?_cons_zero, List.getElem?_cons_succ, List.set_cons_zero, List.set_cons_succ, Option.some.injEq, V.int.injEq, V.bl.injEq, V.ref.injEq, V.ty.injEq, V.str.injEq, List.cons.injEq, exists_eq_left', exists_eq_left, exists_and_left, and_true, true_and, and_assoc, cxK, rIxF, rSetL, rEq, rNe, scal, HO.lst.injEq, HO.tup.injEq, upd_none, ixN_10, ixN_20, ixN_21, ixN_30, ixN_31, ixN_32, upd_same, seqAt_updL, seqAt_updT, atI_0, atI_1, atI_2, atI_3, decide_eq_true_eq, L2.start, List.map_cons, List.map_nil, List.length_cons, List.length_nil, Nat.reduceAdd, Nat.reduceSub, List.replicate_succ, List.replicate_zero, List.cons_append, List.nil_append, List.append_nil, tFor_rng1, tFor_rng2, tFor_list, tFor_tup, CDv, CMul, CPow, sizeLine_eq, Int.reduceLE, Int.reduceLT, Int.reducePow, Int.reduceToNat, Int.reduceAdd, Int.reduceSub, Int.reduceMul, Int.reduceNeg, Nat.reduceLeDiff, Nat.reducePow, Nat.reduceLT, Int.reduceEq, true_or, or_true, ite_true, ite_false, if_true, if_false, Bool.not_true, Bool.not_false, Bool.false_eq_true, decide_true, decide_false, rIxQ, seqQ_updL, seqQ_updT, tupQ_updT, tSl, tNoPart, tPart, rSlQ, rSlTX, rCatQ, tTupQ, tLstQ, tNever, rEqD, rInQ, gTupQ, gCons, gNil, tBM, rAppend, tMakeQ, sFld, tFld, sFldAug, tMeth, tDNewQ, tFor_list, rSlS, tLc_zipS, tLcD, tBM0, rExtend, tLc_rng1, tLc_list, tLc_tup, pick_nil, pick_own, pick_cap, join_some, tYes, tyV, tDGet, rIxS, rJoin, sDPut, rNeE, tTry, Ends.gone, tRaise, cxN, tCall, kV,  seqQ_lst (x.same _ _ hmf)]
    have shx := shf.ext x
    refine ⟨_, _, shx.ins, fs_no (by decide +kernel) (by decide +kernel) (by decide +kernel) (by decide +kernel) (by decide +kernel), p, dx, a1, a2, a3, s, ws, _, rfl, shx, .inl ⟨k, rfl, ?_⟩⟩
    simp only [tSeq, tNext, tIfS, tAsg, gName, gSub, tRet, tRetN, tDrop, tVar, tC, tOp, tUn, rI0, rI, rU, tTest, tB, tAndV, tOrV, tNotV, tAnd, tOr, tNot, tIf, tChain, tCB, tCons, tNil, tLst, tTup, tCallC, List.getElem?_cons_zero, List.getElem?_cons_succ, List.set_cons_zero, List.set_cons_succ, Option.some.injEq, V.int.injEq, V.bl.injEq, V.ref.injEq, V.ty.injEq, V.str.injEq, List.cons.injEq, exists_eq_left', exists_eq_left, exists_and_left, and_true, true_and, and_assoc, cxK, rIxF, rSetL, rEq, rNe, scal, HO.lst.injEq, HO.tup.injEq, upd_none, ixN_10, ixN_20, ixN_21, ixN_30, ixN_31, ixN_32, upd_same, seqAt_updL, seqAt_updT, atI_0, atI_1, atI_2, atI_3, decide_eq_true_eq, L2.start, List.map_cons, List.map_nil, List.length_cons, List.length_nil, Nat.reduceAdd, Nat.reduceSub, List.replicate_succ, List.replicate_zero, List.cons_append, List.nil_append, List.append_nil, tFor_rng1, tFor_rng2, tFor_list, tFor_tup, CDv, CMul, CPow, sizeLine_eq, Int.reduceLE, Int.reduceLT, Int.reducePow, Int.reduceToNat, Int.reduceAdd, Int.reduceSub, Int.reduceMul, Int.reduceNeg, Nat.reduceLeDiff, Nat.reducePow, Nat.reduceLT, Int.reduceEq, true_or, or_true, ite_true, ite_false, if_true, if_false, Bool.not_true, Bool.not_false, Bool.false_eq_true, decide_true, decide_false, rIxQ, seqQ_updL, seqQ_updT, tupQ_updT, tSl, tNoPart, tPart, rSlQ, rSlTX, rCatQ, tTupQ, tLstQ, tNever, rEqD, rInQ, gTupQ, gCons, gNil, tBM, rAppend, tMakeQ, sFld, tFld, sFldAug, tMeth, tDNewQ, tFor_list, rSlS, tLc_zipS, tLcD, tBM0, rExtend, tLc_rng1, tLc_list, tLc_tup, pick_nil, pick_own, pick_cap, join_some, tYes, tyV, tDGet, rIxS, rJoin, sDPut, rNeE, tTry, Ends.gone, tRaise, cxN, tCall, kV,  seqQ_lst (x.same _ _ hmf)]
    rw [el]
    refine ⟨_, gb, _, _, rfl, .str, fun H5 x5 => ⟨_, rfl, ?_⟩⟩
    rw [if_neg (by decide)]
    exact x.trans x5
  rintro σ' H' ⟨v2, rfl, x⟩
  have x5 := x4.trans (thaw_ext md4.hd x)
  refine ⟨d, od, _, Nd, x.same _ _ hdf, ?_⟩
  generalize upd H' d (.dK (dkv s.D)) = H5 at x5
  have sh5 := sh.ext x5
  have md5 := md.ext x5
  simp only [tSeq, tNext, tIfS, tAsg, gName, gSub, tRet, tRetN, tDrop, tVar, tC, tOp, tUn, rI0, rI, rU, tTest, tB, tAndV, tOrV, tNotV, tAnd, tOr, tNot, tIf, tChain, tCB, tCons, tNil, tLst, tTup, tCallC, List.getElem?_cons_zero, List.getElem?_cons_succ, List.set_cons_zero, List.set_cons_succ, Option.some.injEq, V.int.injEq, V.bl.injEq, V.ref.injEq, V.ty.injEq, V.str.injEq, List.cons.injEq, exists_eq_left', exists_eq_left, exists_and_left, and_true, true_and, and_assoc, cxK, rIxF, rSetL, rEq, rNe, scal, HO.lst.injEq, HO.tup.injEq, upd_none, ixN_10, ixN_20, ixN_21, ixN_30, ixN_31, ixN_32, upd_same, seqAt_updL, seqAt_updT, atI_0, atI_1, atI_2, atI_3, decide_eq_true_eq, L2.start, List.map_cons, List.map_nil, List.length_cons, List.length_nil, Nat.reduceAdd, Nat.reduceSub, List.replicate_succ, List.replicate_zero, List.cons_append, List.nil_append, List.append_nil, tFor_rng1, tFor_rng2, tFor_list, tFor_tup, CDv, CMul, CPow, sizeLine_eq, Int.reduceLE, Int.reduceLT, Int.reducePow, Int.reduceToNat, Int.reduceAdd, Int.reduceSub, Int.reduceMul, Int.reduceNeg, Nat.reduceLeDiff, Nat.reducePow, Nat.reduceLT, Int.reduceEq, true_or, or_true, ite_true, ite_false, if_true, if_false, Bool.not_true, Bool.not_false, Bool.false_eq_true, decide_true, decide_false, rIxQ, seqQ_updL, seqQ_updT, tupQ_updT, tSl, tNoPart, tPart, rSlQ, rSlTX, rCatQ, tTupQ, tLstQ, tNever, rEqD, rInQ, gTupQ, gCons, gNil, tBM, rAppend, tMakeQ, sFld, tFld, sFldAug, tMeth, tDNewQ, tFor_list, rSlS, tLc_zipS, tLcD, tBM0, rExtend, tLc_rng1, tLc_list, tLc_tup, pick_nil, pick_own, pick_cap, join_some, tYes, tyV, tDGet, rIxS, rJoin, sDPut, rNeE, tTry, Ends.gone, tRaise, cxN, tCall, seqQ_lst md5.hm]
  refine ⟨_, _, sh5.ins, fs_no (by decide +kernel) (by decide +kernel) (by decide +kernel) (by decide +kernel) (by decide +kernel), p, dx, a1, a2, a3, s, ws, rfl, sh5, by rw [en.1]; exact hw, fun b nb => ?_⟩
  have x6 := x5.trans (.new (o := .lst (ws.map V.ref)) nb)
  have hb : (upd H5 b (.lst (ws.map V.ref))) b = some (.lst (ws.map V.ref)) := upd_same
  generalize (upd H5 b (.lst (ws.map V.ref))) = H6 at x6 hb
  have md6 := md.ext x6
  exact ⟨_, seqQ_lst md6.hm, _, atI_2, _, _, rfl, Alk.ents hb md6.hl (en.ext x6) (em.ext x6) (by omega), fun H7 x7 => q _ (x6.trans x7)⟩
structure FsAt (H : Hp) (f fd : Addr) (s : Sh) : Prop where
  hf : H f = some (.lst [.ref fd, .str s.J0])
  hd : H fd = some (.dK (dkv s.D0))
theorem cutT_len {x : Str} {n : Nat} (h : n ≤ x.length) : (cutT x n).length = n := by
  unfold cutT
  rw [str_len, slice_to h, List.length_take, ← str_len]
  omega
theorem cutT_app {x y : Str} {n : Nat} (h : n ≤ x.length) : cutT (x ++ y) n = cutT x n := by
  refine str_ext ?_
  unfold cutT
  rw [slice_to h, slice_to (by rw [slen]; omega), app_cps, List.take_append_of_le_length (by rw [← str_len]; exact h)]
def spCut (K : PySem.W.Frag) : Sp := fun vs H Q _ => ∃ m d l s us W f fd n g, vs = [.ref m, .ref f, .int ((n : Nat) : Int), .int ((g : Nat) : Int)] ∧ MdAt H m d l s us ∧ EntsAt K H us W ∧ OkAll W ∧ FsAt H f fd s ∧ n ≤ W.length ∧ g ≤ mostOf W n ∧ s.D0.length + W.length < 500 ∧ s.J0.length + 101 * W.length + 101 ≤ sizeLine ∧
  ∀ m' d' l' H', new K H m' → new K H d' → new K H l' → MdAt H' m' d' l' (s.after W n g) [] → Ext K H H' → Q (.ref m') H'
theorem sc__law_cut : FnScope ["_law_model", "_law_first", "_law_many", "_law_signs", "_law_torn", "_law_write_here"] ["_law_model", "_law_first", "_law_many", "_law_signs"] (defScope s__law_cut) := ⟨rfl, rfl, rfl, by decide +kernel, rfl, by decide +kernel, by decide +kernel⟩
theorem ok__law_cut {f : Addr} {fd : FuncData} (F : Fun K "_law_cut" "_law_cut" s__law_cut f fd) {cF cN cC : Addr} {tP : Tok} (B : B K mg cF cN cC tP) (C__law_put : Callee P w K mg base "_law_put" 1 ["_law_model", "_law_write_here"] (spPutM K)) : FnOk P w K mg base CX0 2 f fd ["_law_model", "_law_first", "_law_many", "_law_signs"] (spCut K) := by
  refine F.okJ sc__law_cut (fun vs H Q E h => ?_) (fun cdv A outer s H vs Q E hr h => ?_)
  · obtain ⟨m, d, l, s, us, W, f, fd, n, g, rfl, _⟩ := h
    rfl
  obtain ⟨m, d, l, s, us, W, f, fd, n, g, rfl, md, en, ok, fs, hn, hg, hd, hj, q⟩ := h
  refine ⟨_, (bcons (sset (i := 4) sc__law_cut.nd rfl (Or.inl rfl) (elstQ (acons (ecallTy call_dictC rfl B.dict bt_dict (acons (eix ix_Q (ev 1) ei (fun _ _ => rfl)) anil)) (acons (eix ix_Q (ev 1) ei (fun _ _ => rfl)) (acons (elstQ anil) anil)))))
      (bcons (sfor PassesOwn.never rfl (ilist (eslice sl_listQ (eix ix_Q (ev 0) ei (fun _ _ => rfl)) onone (osome (ev 2)))) (gname (i := 5) sc__law_cut.nd rfl (Or.inl rfl))
        (bone (sexpr (ecall C__law_put (hr.mono (by decide)) rfl (acons (ev 4) (acons (ev 5) anil))))))
      (bcut (sif (tcmp op_gt (ev 3) ei (nomark _)) (bcons (sset (i := 5) sc__law_cut.nd rfl (Or.inl rfl) (eix ix_Q (eix ix_Q (ev 0) ei (fun _ _ => rfl)) (ev 2) (fun _ _ => rfl)))
      (bone (sif (tcmp op_eq (eix ix_Q (ev 5) ei (fun _ _ => rfl)) estr (nomark _)) (bone (sdput hr.units (eix ix_Q (ev 4) ei (fun _ _ => rfl)) (eix ix_Q (ev 5) ei (fun _ _ => rfl)) (eslice sl_str (eix ix_Q (ev 5) ei (fun _ _ => rfl)) onone (osome (ev 3))))) (bone (sasg (eop op_add_str (eix ix_Q (ev 4) ei (fun _ _ => rfl)) (eslice sl_str (eix ix_Q (ev 5) ei (fun _ _ => rfl)) onone (osome (ev 3)))) (gsub (ev 4) ei set_list)))))) bnil)
      (bone (sret (elstQ (acons (eix ix_Q (ev 4) ei (fun _ _ => rfl)) (acons (eix ix_Q (ev 4) ei (fun _ _ => rfl)) (acons (elstQ anil) anil))))))))), ?_⟩
  simp only [tSeq, tNext, tIfS, tAsg, gName, gSub, tRet, tRetN, tDrop, tVar, tC, tOp, tUn, rI0, rI, rU, tTest, tB, tAndV, tOrV, tNotV, tAnd, tOr, tNot, tIf, tChain, tCB, tCons, tNil, tLst, tTup, tCallC, List.getElem?_cons_zero, List.getElem?_cons_succ, List.set_cons_zero, List.set_cons_succ, Option.some.injEq, V.int.injEq, V.bl.injEq, V.ref.injEq, V.ty.injEq, V.str.injEq, List.cons.injEq, exists_eq_left', exists_eq_left, exists_and_left, and_true, true_and, and_assoc, cxK, rIxF, rSetL, rEq, rNe, scal, HO.lst.injEq, HO.tup.injEq, upd_none, ixN_10, ixN_20, ixN_21, ixN_30, ixN_31, ixN_32, upd_same, seqAt_updL, seqAt_updT, atI_0, atI_1, atI_2, atI_3, decide_eq_true_eq, L2.start, List.map_cons, List.map_nil, List.length_cons, List.length_nil, Nat.reduceAdd, Nat.reduceSub, List.replicate_succ, List.replicate_zero, List.cons_append, List.nil_append, List.append_nil, tFor_rng1, tFor_rng2, tFor_list, tFor_tup, CDv, CMul, CPow, sizeLine_eq, Int.reduceLE, Int.reduceLT, Int.reducePow, Int.reduceToNat, Int.reduceAdd, Int.reduceSub, Int.reduceMul, Int.reduceNeg, Nat.reduceLeDiff, Nat.reducePow, Nat.reduceLT, Int.reduceEq, true_or, or_true, ite_true, ite_false, if_true, if_false, Bool.not_true, Bool.not_false, Bool.false_eq_true, decide_true, decide_false, rIxQ, seqQ_updL, seqQ_updT, tupQ_updT, tSl, tNoPart, tPart, rSlQ, rSlTX, rCatQ, tTupQ, tLstQ, tNever, rEqD, rInQ, gTupQ, gCons, gNil, tBM, rAppend, tMakeQ, sFld, tFld, sFldAug, tMeth, tDNewQ, tFor_list, rSlS, tLc_zipS, tLcD, tBM0, rExtend, tLc_rng1, tLc_list, tLc_tup, pick_nil, pick_own, pick_cap, join_some, tYes, tyV, tDGet, rIxS, rJoin, sDPut, rNeE, tTry, Ends.gone, tRaise, cxN, tCall, seqQ_lst fs.hf]
  refine ⟨_, .inl fs.hd, fun D nD => ?_⟩
  have x1 : Ext K H (upd H D (.dK (dkv s.D0))) := .new nD
  refine ⟨_, seqQ_lst (x1.same _ _ fs.hf), _, atI_1, fun L nL T nT => ?_⟩
  have x1' := x1.trans (.new (o := .lst []) nL)
  have x2 := x1'.trans (.new (o := .lst [.ref D, .str s.J0, .ref L]) nT)
  have nLH := new_back x1 nL
  have nTH := new_back x1' nT
  have tD : D ≠ T := (new_upd.1 (new_upd.1 nT).2).1.symm
  have tL : L ≠ T := (new_upd.1 nT).1.symm
  have lD : D ≠ L := (new_upd.1 nL).1.symm
  have tm : MdAt (upd (upd (upd H D (.dK (dkv s.D0))) L (.lst [])) T (.lst [.ref D, .str s.J0, .ref L])) T D L s.bare [] :=
    ⟨upd_same, by rw [upd_ne tD, upd_ne lD, upd_same]; rfl, by rw [upd_ne tL, upd_same]; rfl, tL.symm⟩
  generalize (upd (upd (upd H D (.dK (dkv s.D0))) L (.lst [])) T (.lst [.ref D, .str s.J0, .ref L])) = H2 at x2 tm
  have md2 := md.ext x2
  refine ⟨_, seqQ_lst md2.hm, _, atI_2, _, rfl, _, SqL.of md2.hl, fun t nt => ⟨⟨_, SqL.of upd_same⟩, ?_⟩⟩
  rw [cutV_to]
  have x3 : Ext K H (upd H2 t (.lst ((us.map V.ref).take n))) := x2.trans (.new nt)
  have tm3 := tm.ext (Ext.new (K := K) (o := .lst ((us.map V.ref).take n)) nt)
  have tno : t ∉ [T, D, L] := by
    have h1 : t ≠ T := fun z => by have := tm.hm; rw [← z, nt.1] at this; cases this
    have h2 : t ≠ D := fun z => by have := tm.hd; rw [← z, nt.1] at this; cases this
    have h3 : t ≠ L := fun z => by have := tm.hl; rw [← z, nt.1] at this; cases this
    simp [h1, h2, h3]
  have ht : (upd H2 t (.lst ((us.map V.ref).take n))) t = some (.lst ((us.map V.ref).take n)) := upd_same
  generalize (upd H2 t (.lst ((us.map V.ref).take n))) = H3 at x3 tm3 ht
  have news : ∀ q ∈ [T, D, L], new K H q := by
    intro q hq
    simp only [List.mem_cons, List.not_mem_nil, or_false] at hq
    rcases hq with rfl | rfl | rfl <;> assumption
  have lu : us.length = W.length := en.1
  refine loop_list (xs := (us.map V.ref).take n) (fun i σ' H' => ∃ (v5 : Option V) (us' : List Addr), σ' = [some (.ref m), some (.ref f), some (.int (n : Int)), some (.int (g : Int)), some (.ref T), v5] ∧ us'.length ≤ i ∧ MdAt H' T D L (s.bare.run (W.take i)) us' ∧ KpL K [T, D, L] H3 H') ⟨_, [], rfl, Nat.le_refl _, tm3, .refl⟩ ?_ ?_ ?_
  · rintro i σ' H' _ ⟨v5, us', rfl, _, o4, k4⟩
    exact SqL.of (k4.keep t _ ht tno)
  · rintro i v σ' H' hv ⟨v5, us', rfl, hu, o4, k4⟩
    have hi : i < n := by
      have := (List.getElem?_eq_some_iff.1 hv).1
      rw [List.length_take] at this
      omega
    have ea : us[i]? = some (us[i]'(by omega)) := List.getElem?_eq_getElem (by omega)
    have ee : W[i]? = some (W[i]'(by omega)) := List.getElem?_eq_getElem (by omega)
    rw [List.getElem?_take_of_lt hi, List.getElem?_map, ea] at hv
    cases hv
    have x4 := k4.ext x3 news
    obtain ⟨tu, sm⟩ := en.2 i _ _ ea ee
    have tu' := x4.tup tu
    try walk_at "rn"
    have b1 := Sh.run_D (W.take i) s.bare
    have b2 := Sh.run_J (W.take i) (fun e h => en.smalls e (List.mem_of_mem_take h)) s.bare
    have b4 : s.bare.D.length = s.D0.length := rfl
    have b5 : s.bare.J.length = s.J0.length := rfl
    rw [List.length_take] at b1 b2
    refine ⟨T, D, L, _, _, _, _, rfl, o4, tu', ok.at ee, by omega, by omega, by omega, fun H5 o5 k5 => ⟨us' ++ [us[i]'(by omega)], by rw [List.length_append]; exact Nat.succ_le_succ hu, ?_, k4.trans k5 (fun _ z => z)⟩⟩
    rw [Sh.run_succ ee]
    exact o5
  rintro σ' H4 ⟨v5, us', rfl, hu, o4, k4⟩
  rw [List.length_take, List.length_map, Nat.min_eq_left (by omega)] at o4
  have c1 := Sh.run_D (W.take n) s.bare
  have c2 := Sh.run_J (W.take n) (fun e h => en.smalls e (List.mem_of_mem_take h)) s.bare
  have c4 : s.bare.D.length = s.D0.length := rfl
  have c5 : s.bare.J.length = s.J0.length := rfl
  rw [List.length_take] at c1 c2
  refine ⟨fun σ' H' => ∃ v5 : Option V, σ' = [some (.ref m), some (.ref f), some (.int (n : Int)), some (.int (g : Int)), some (.ref T), v5] ∧ MdAt H' T D L ((s.bare.run (W.take n)).tail W n g) us' ∧ KpL K [T, D, L] H3 H', ?_, ?_⟩
  · have x4 := k4.ext x3 news
    have md4 := md.ext x4
    simp only [tSeq, tNext, tIfS, tAsg, gName, gSub, tRet, tRetN, tDrop, tVar, tC, tOp, tUn, rI0, rI, rU, tTest, tB, tAndV, tOrV, tNotV, tAnd, tOr, tNot, tIf, tChain, tCB, tCons, tNil, tLst, tTup, tCallC, List.getElem?_cons_zero, List.getElem?_cons_succ, List.set_cons_zero, List.set_cons_succ, Option.some.injEq, V.int.injEq, V.bl.injEq, V.ref.injEq, V.ty.injEq, V.str.injEq, List.cons.injEq, exists_eq_left', exists_eq_left, exists_and_left, and_true, true_and, and_assoc, cxK, rIxF, rSetL, rEq, rNe, scal, HO.lst.injEq, HO.tup.injEq, upd_none, ixN_10, ixN_20, ixN_21, ixN_30, ixN_31, ixN_32, upd_same, seqAt_updL, seqAt_updT, atI_0, atI_1, atI_2, atI_3, decide_eq_true_eq, L2.start, List.map_cons, List.map_nil, List.length_cons, List.length_nil, Nat.reduceAdd, Nat.reduceSub, List.replicate_succ, List.replicate_zero, List.cons_append, List.nil_append, List.append_nil, tFor_rng1, tFor_rng2, tFor_list, tFor_tup, CDv, CMul, CPow, sizeLine_eq, Int.reduceLE, Int.reduceLT, Int.reducePow, Int.reduceToNat, Int.reduceAdd, Int.reduceSub, Int.reduceMul, Int.reduceNeg, Nat.reduceLeDiff, Nat.reducePow, Nat.reduceLT, Int.reduceEq, true_or, or_true, ite_true, ite_false, if_true, if_false, Bool.not_true, Bool.not_false, Bool.false_eq_true, decide_true, decide_false, rIxQ, seqQ_updL, seqQ_updT, tupQ_updT, tSl, tNoPart, tPart, rSlQ, rSlTX, rCatQ, tTupQ, tLstQ, tNever, rEqD, rInQ, gTupQ, gCons, gNil, tBM, rAppend, tMakeQ, sFld, tFld, sFldAug, tMeth, tDNewQ, tFor_list, rSlS, tLc_zipS, tLcD, tBM0, rExtend, tLc_rng1, tLc_list, tLc_tup, pick_nil, pick_own, pick_cap, join_some, tYes, tyV, tDGet, rIxS, rJoin, sDPut, rNeE, tTry, Ends.gone, tRaise, cxN, tCall, seqQ_lst md4.hm,  seqQ_lst md4.hl]
    by_cases z : g = 0
    · rw [if_neg (by omega)]
      unfold Sh.tail
      rw [if_pos z]
      exact ⟨o4, k4⟩
    · rw [if_pos (by omega)]
      have zm : n < W.length := by
        by_cases zz : n < W.length
        · exact zz
        · have em : mostOf W n = 0 := mostOf_none (by omega)
          omega
      have ea : us[n]? = some (us[n]'(by omega)) := List.getElem?_eq_getElem (by omega)
      have ee : W[n]? = some (W[n]'zm) := List.getElem?_eq_getElem zm
      obtain ⟨tu, sm⟩ := en.2 n _ _ ea ee
      have tu' := x4.tup tu
      have em := mostE_of ee
      have okn := ok.at ee
      refine ⟨_, by rw [atI_nat (by simpa using by omega), List.getElem?_map, ea]; rfl, ?_⟩
      unfold Sh.tail
      rw [if_neg z, ee]
      generalize W[n]'zm = e at ee tu tu' em okn sm
      generalize us[n]'(by omega) = a at ea tu tu'
      simp only [tSeq, tNext, tIfS, tAsg, gName, gSub, tRet, tRetN, tDrop, tVar, tC, tOp, tUn, rI0, rI, rU, tTest, tB, tAndV, tOrV, tNotV, tAnd, tOr, tNot, tIf, tChain, tCB, tCons, tNil, tLst, tTup, tCallC, List.getElem?_cons_zero, List.getElem?_cons_succ, List.set_cons_zero, List.set_cons_succ, Option.some.injEq, V.int.injEq, V.bl.injEq, V.ref.injEq, V.ty.injEq, V.str.injEq, List.cons.injEq, exists_eq_left', exists_eq_left, exists_and_left, and_true, true_and, and_assoc, cxK, rIxF, rSetL, rEq, rNe, scal, HO.lst.injEq, HO.tup.injEq, upd_none, ixN_10, ixN_20, ixN_21, ixN_30, ixN_31, ixN_32, upd_same, seqAt_updL, seqAt_updT, atI_0, atI_1, atI_2, atI_3, decide_eq_true_eq, L2.start, List.map_cons, List.map_nil, List.length_cons, List.length_nil, Nat.reduceAdd, Nat.reduceSub, List.replicate_succ, List.replicate_zero, List.cons_append, List.nil_append, List.append_nil, tFor_rng1, tFor_rng2, tFor_list, tFor_tup, CDv, CMul, CPow, sizeLine_eq, Int.reduceLE, Int.reduceLT, Int.reducePow, Int.reduceToNat, Int.reduceAdd, Int.reduceSub, Int.reduceMul, Int.reduceNeg, Nat.reduceLeDiff, Nat.reducePow, Nat.reduceLT, Int.reduceEq, true_or, or_true, ite_true, ite_false, if_true, if_false, Bool.not_true, Bool.not_false, Bool.false_eq_true, decide_true, decide_false, rIxQ, seqQ_updL, seqQ_updT, tupQ_updT, tSl, tNoPart, tPart, rSlQ, rSlTX, rCatQ, tTupQ, tLstQ, tNever, rEqD, rInQ, gTupQ, gCons, gNil, tBM, rAppend, tMakeQ, sFld, tFld, sFldAug, tMeth, tDNewQ, tFor_list, rSlS, tLc_zipS, tLcD, tBM0, rExtend, tLc_rng1, tLc_list, tLc_tup, pick_nil, pick_own, pick_cap, join_some, tYes, tyV, tDGet, rIxS, rJoin, sDPut, rNeE, tTry, Ends.gone, tRaise, cxN, tCall, seqQ_T tu',  seqQ_lst o4.hm]
      have sz := sizeLine_eq
      cases e with
      | page k t =>
        have em : mostOf W n = t.length - 1 := em
        have h1 : 0 < t.length ∧ t.length ≤ 100 := ⟨okn.2.2.1, okn.2.2.2⟩
        refine ⟨_, rfl, rfl, ?_⟩
        rw [if_pos rfl]
        refine ⟨_, rfl, _, rfl, by omega, _, rfl, _, .k (k := .inl k) o4.hd (by simp only [dkv, List.length_map]; omega), ?_, k4.trans (.upd o4.hd (by simp)) (fun _ z => z)⟩
        have c : (s.bare.run (W.take n)).carry (.page k t) (cutT (Ent.page k t).signs g) = { (s.bare.run (W.take n)) with D := putD (s.bare.run (W.take n)).D k (cutT t g) } := by
          show (if cutT t g = "" then _ else _) = _
          rw [if_neg (page_signs (k := k) (by rw [cutT_len (by omega)]; omega))]
          rfl
        rw [c]
        exact o4.put k (cutT t g)
      | line t =>
        have em : mostOf W n = t.length := em
        have h1 : t.length ≤ 100 := okn
        refine ⟨_, rfl, rfl, ?_⟩
        rw [if_neg (fun z => w1 (V.str.inj z))]
        have cl : (cutT t g).length = g := cutT_len (by omega)
        refine ⟨_, rfl, _, rfl, by omega, by unfold cutT at cl; omega, _, o4.hm, _, rfl, ?_, k4.trans (.upd o4.hm (by simp)) (fun _ z => z)⟩
        have c0 : cutT (Ent.line t).signs g = cutT t g := cutT_app (by omega)
        rw [c0]
        exact o4.jr _
      | blot =>
        have em : mostOf W n = 0 := em
        omega
  rintro _ H5 ⟨v5, rfl, o5, k5⟩
  have x5 := k5.ext x3 news
  simp only [tSeq, tNext, tIfS, tAsg, gName, gSub, tRet, tRetN, tDrop, tVar, tC, tOp, tUn, rI0, rI, rU, tTest, tB, tAndV, tOrV, tNotV, tAnd, tOr, tNot, tIf, tChain, tCB, tCons, tNil, tLst, tTup, tCallC, List.getElem?_cons_zero, List.getElem?_cons_succ, List.set_cons_zero, List.set_cons_succ, Option.some.injEq, V.int.injEq, V.bl.injEq, V.ref.injEq, V.ty.injEq, V.str.injEq, List.cons.injEq, exists_eq_left', exists_eq_left, exists_and_left, and_true, true_and, and_assoc, cxK, rIxF, rSetL, rEq, rNe, scal, HO.lst.injEq, HO.tup.injEq, upd_none, ixN_10, ixN_20, ixN_21, ixN_30, ixN_31, ixN_32, upd_same, seqAt_updL, seqAt_updT, atI_0, atI_1, atI_2, atI_3, decide_eq_true_eq, L2.start, List.map_cons, List.map_nil, List.length_cons, List.length_nil, Nat.reduceAdd, Nat.reduceSub, List.replicate_succ, List.replicate_zero, List.cons_append, List.nil_append, List.append_nil, tFor_rng1, tFor_rng2, tFor_list, tFor_tup, CDv, CMul, CPow, sizeLine_eq, Int.reduceLE, Int.reduceLT, Int.reducePow, Int.reduceToNat, Int.reduceAdd, Int.reduceSub, Int.reduceMul, Int.reduceNeg, Nat.reduceLeDiff, Nat.reducePow, Nat.reduceLT, Int.reduceEq, true_or, or_true, ite_true, ite_false, if_true, if_false, Bool.not_true, Bool.not_false, Bool.false_eq_true, decide_true, decide_false, rIxQ, seqQ_updL, seqQ_updT, tupQ_updT, tSl, tNoPart, tPart, rSlQ, rSlTX, rCatQ, tTupQ, tLstQ, tNever, rEqD, rInQ, gTupQ, gCons, gNil, tBM, rAppend, tMakeQ, sFld, tFld, sFldAug, tMeth, tDNewQ, tFor_list, rSlS, tLc_zipS, tLcD, tBM0, rExtend, tLc_rng1, tLc_list, tLc_tup, pick_nil, pick_own, pick_cap, join_some, tYes, tyV, tDGet, rIxS, rJoin, sDPut, rNeE, tTry, Ends.gone, tRaise, cxN, tCall, seqQ_lst o5.hm]
  intro p np M nM
  have x6 := x5.trans (.new (o := .lst []) np)
  have nDp : D ≠ p := fun z => by have := o5.hd; rw [z, np.1] at this; cases this
  obtain ⟨nMp, nM5⟩ := new_upd.1 nM
  have nDM : D ≠ M := fun z => by have := o5.hd; rw [z, nM5.1] at this; cases this
  exact q M D p _ (new_back x6 nM) nD (new_back x5 np) ⟨upd_same, by rw [upd_ne nDM, upd_ne nDp]; exact o5.hd, by rw [upd_ne nMp.symm, upd_same]; rfl, nMp⟩ (x6.trans (.new nM))
end
section
variable {K : PySem.W.Frag}
structure Un where
  p : Addr
  dx : Addr
  a1 : Addr
  a2 : Addr
  a3 : Addr
  m : Addr
  d : Addr
  l : Addr
  ws : List Addr
  us : List Addr
  s : Sh
  W : List Ent
def Un.fp (u : Un) : List Addr := [u.p, u.a1, u.a2, u.a3, u.m, u.d, u.l]
structure UnAt (K : PySem.W.Frag) (H : Hp) (C : Addr) (n : Nat) (u : Un) : Prop where
  sh : ShAt K H C u.p u.dx u.a1 u.a2 u.a3 u.s u.ws
  md : MdAt H u.m u.d u.l u.s u.us
  en : EntsAt K H u.ws u.W
  em : EntsAt K H u.us u.W
  ok : OkAll u.W
  nd : u.fp.Nodup
  bD : u.s.D.length ≤ n
  bD0 : u.s.D0.length + u.W.length ≤ n
  bJ : u.s.J.length ≤ 101 * n
  bJ0 : u.s.J0.length + 101 * u.W.length ≤ 101 * n
def NoTup (H : Hp) (ps : List Addr) : Prop := ∀ q ∈ ps, ∃ o, H q = some o ∧ (∀ xs, o ≠ .tup xs) ∧ ∀ o' u, o ≠ .frz o' u
def Dj (xs ys : List Addr) : Prop := ∀ x ∈ xs, x ∉ ys
theorem Dj.symm {xs ys : List Addr} (h : Dj xs ys) : Dj ys xs := fun y hy hx => h y hx hy
theorem KpL.tup {H H' : Hp} {ps : List Addr} {a : Addr} {xs : List V} (k : KpL K ps H H') (nt : NoTup H ps) (h : tupQ K H a = some xs) : tupQ K H' a = some xs := by
  unfold tupQ at h ⊢
  cases e : H a with
  | none =>
    rw [e] at h
    rw [k.mod a xs e h]
    exact h
  | some o =>
    rw [e] at h
    cases o with
    | tup ys =>
      rw [k.keep a _ e (fun m => by
        obtain ⟨o, e', n, _⟩ := nt a m
        rw [e] at e'
        exact n ys (Option.some.inj e').symm)]
      exact h
    | _ => cases h
def Scr (K : PySem.W.Frag) (H : Hp) (a : Addr) (ns : List Int) : Prop := (∃ o, H a = some (.frz o (.lst (ns.map V.int)))) ∨ ∀ G : Hp, SqL K G a (ns.map V.int)
theorem Scr.of {H : Hp} {a : Addr} {ns : List Int} (h : SqL K H a (ns.map V.int)) (on : Only H) : Scr K H a ns := by
  rcases h with (h | ⟨o, h⟩) | h
  · rcases on a with e | ⟨o, xs, e⟩ <;> (rw [e] at h; cases h)
  · exact .inl ⟨o, h⟩
  · exact .inr fun G => .inr h
theorem Scr.sq {H : Hp} {a : Addr} {ns : List Int} (h : Scr K H a ns) : SqL K H a (ns.map V.int) := by
  rcases h with ⟨o, h⟩ | h
  · exact .inl (.inr ⟨o, h⟩)
  · exact h H
theorem Scr.keep {H H' : Hp} {a : Addr} {ns : List Int} {ps : List Addr} (h : Scr K H a ns) (k : KpL K ps H H') (nt : NoTup H ps) : Scr K H' a ns := by
  rcases h with ⟨o, h⟩ | h
  · refine .inl ⟨o, k.keep _ _ h fun m => ?_⟩
    obtain ⟨o', e, _, n⟩ := nt a m
    rw [h] at e
    exact n _ _ (Option.some.inj e).symm
  · exact .inr h
theorem EntsAt.keep {H H' : Hp} {ps ws : List Addr} {W : List Ent} (en : EntsAt K H ws W) (k : KpL K ps H H') (nt : NoTup H ps) : EntsAt K H' ws W :=
  ⟨en.1, fun i a e h1 h2 => ⟨k.tup nt (en.2 i a e h1 h2).1, (en.2 i a e h1 h2).2⟩⟩
theorem EntsAt.more {H : Hp} {ws : List Addr} {W : List Ent} {a : Addr} {e : Ent} (en : EntsAt K H ws W) (h : tupQ K H a = some (Ent.v e)) (sm : e.small) : EntsAt K H (ws ++ [a]) (W ++ [e]) := by
  refine ⟨by rw [List.length_append, List.length_append, en.1]; rfl, fun i b e' h1 h2 => ?_⟩
  by_cases z : i < ws.length
  · rw [List.getElem?_append_left z] at h1
    rw [List.getElem?_append_left (by rw [← en.1]; exact z)] at h2
    exact en.2 i b e' h1 h2
  · rw [List.getElem?_append_right (by omega)] at h1
    rw [List.getElem?_append_right (by rw [← en.1]; omega)] at h2
    rw [← en.1] at h2
    cases ei : i - ws.length with
    | zero =>
      rw [ei] at h1 h2
      cases h1
      cases h2
      exact ⟨h, sm⟩
    | succ j =>
      rw [ei] at h1
      cases h1
theorem ShAt.keep {H H' : Hp} {C p dx a1 a2 a3 : Addr} {s : Sh} {ws ps : List Addr} (sh : ShAt K H C p dx a1 a2 a3 s ws) (k : KpL K ps H H') (h : ∀ x ∈ [p, a1, a2, a3], x ∉ ps) : ShAt K H' C p dx a1 a2 a3 s ws :=
  ⟨k.keep _ _ sh.ins (h _ (by simp)), k.keep _ _ sh.d (h _ (by simp)), k.keep _ _ sh.w (h _ (by simp)), k.keep _ _ sh.d0 (h _ (by simp)), sh.n13⟩
theorem MdAt.keep {H H' : Hp} {m d l : Addr} {s : Sh} {us ps : List Addr} (md : MdAt H m d l s us) (k : KpL K ps H H') (h : ∀ x ∈ [m, d, l], x ∉ ps) : MdAt H' m d l s us :=
  ⟨k.keep _ _ md.hm (h _ (by simp)), k.keep _ _ md.hd (h _ (by simp)), k.keep _ _ md.hl (h _ (by simp)), md.ne⟩
theorem UnAt.keep {H H' : Hp} {C : Addr} {n n' : Nat} {u : Un} {ps : List Addr} (A : UnAt K H C n u) (k : KpL K ps H H') (nt : NoTup H ps) (dj : Dj u.fp ps) (hn : n ≤ n') : UnAt K H' C n' u where
  sh := A.sh.keep k fun x hx => dj x (by simp only [Un.fp, List.mem_cons, List.not_mem_nil, or_false] at hx ⊢; rcases hx with h | h | h | h <;> simp [h])
  md := A.md.keep k fun x hx => dj x (by simp only [Un.fp, List.mem_cons, List.not_mem_nil, or_false] at hx ⊢; rcases hx with h | h | h <;> simp [h])
  en := A.en.keep k nt
  em := A.em.keep k nt
  ok := A.ok
  nd := A.nd
  bD := Nat.le_trans A.bD hn
  bD0 := Nat.le_trans A.bD0 hn
  bJ := Nat.le_trans A.bJ (Nat.mul_le_mul_left _ hn)
  bJ0 := Nat.le_trans A.bJ0 (Nat.mul_le_mul_left _ hn)
theorem UnAt.noTup {H : Hp} {C : Addr} {n : Nat} {u : Un} (A : UnAt K H C n u) : NoTup H u.fp := by
  intro q hq
  simp only [Un.fp, List.mem_cons, List.not_mem_nil, or_false] at hq
  rcases hq with rfl | rfl | rfl | rfl | rfl | rfl | rfl
  · exact ⟨_, A.sh.ins, fun _ => nofun, fun _ _ => nofun⟩
  · exact ⟨_, A.sh.d, fun _ => nofun, fun _ _ => nofun⟩
  · exact ⟨_, A.sh.w, fun _ => nofun, fun _ _ => nofun⟩
  · exact ⟨_, A.sh.d0, fun _ => nofun, fun _ _ => nofun⟩
  · exact ⟨_, A.md.hm, fun _ => nofun, fun _ _ => nofun⟩
  · exact ⟨_, A.md.hd, fun _ => nofun, fun _ _ => nofun⟩
  · exact ⟨_, A.md.hl, fun _ => nofun, fun _ _ => nofun⟩
theorem Ext.kpl {H H' : Hp} (x : Ext K H H') : KpL K [] H H' := ⟨fun q o e _ => x.same q o e, x.mod⟩
theorem UnAt.ext {H H' : Hp} {C : Addr} {n : Nat} {u : Un} (A : UnAt K H C n u) (x : Ext K H H') : UnAt K H' C n u := A.keep (Ext.kpl x) (fun _ h => by cases h) (fun _ _ h => by cases h) (Nat.le_refl _)
theorem KpL.mono {H H' : Hp} {ps qs : List Addr} (k : KpL K ps H H') (h : ∀ x ∈ ps, x ∈ qs) : KpL K qs H H' := ⟨fun q o e n => k.keep q o e (fun m => n (h q m)), k.mod⟩
theorem carry_D0 (s : Sh) (e : Ent) (sg : Str) : (s.carry e sg).D0 = s.D0 := by
  cases e with
  | page k t =>
    show (if sg = "" then s else { s with D := putD s.D k sg }).D0 = _
    split <;> rfl
  | line t => rfl
  | blot => rfl
theorem carry_J0 (s : Sh) (e : Ent) (sg : Str) : (s.carry e sg).J0 = s.J0 := by
  cases e with
  | page k t =>
    show (if sg = "" then s else { s with D := putD s.D k sg }).J0 = _
    split <;> rfl
  | line t => rfl
  | blot => rfl
theorem UnAt.md_sh {H H3 : Hp} {C : Addr} {n : Nat} {u : Un} (un : UnAt K H C n u) (k3 : KpL K [u.m, u.d, u.l] H H3) : ShAt K H3 C u.p u.dx u.a1 u.a2 u.a3 u.s u.ws := by
  have nd := un.nd
  simp only [Un.fp, List.nodup_cons, List.mem_cons, List.not_mem_nil, or_false, not_or, not_false_eq_true, and_true, List.nodup_nil] at nd
  exact un.sh.keep k3 (by
    intro x hx
    simp only [List.mem_cons, List.not_mem_nil, or_false, not_or] at hx ⊢
    rcases hx with rfl | rfl | rfl | rfl <;> simp only [nd, not_false_eq_true, and_self])
theorem UnAt.md_noTup {H : Hp} {C : Addr} {n : Nat} {u : Un} (un : UnAt K H C n u) : NoTup H [u.m, u.d, u.l] := fun q hq => un.noTup q (by simp only [Un.fp, List.mem_cons, List.not_mem_nil, or_false] at hq ⊢; rcases hq with h | h | h <;> simp [h])
theorem UnAt.ne1 {H : Hp} {C : Addr} {n : Nat} {u : Un} (un : UnAt K H C n u) : u.a1 ≠ u.d ∧ u.a3 ≠ u.d := by
  have nd := un.nd
  simp only [Un.fp, List.nodup_cons, List.mem_cons, List.not_mem_nil, or_false, not_or, not_false_eq_true, and_true, List.nodup_nil] at nd
  exact ⟨nd.2.1.2.2.2.1, nd.2.2.2.1.2.1⟩
theorem UnAt.wrote {C : Addr} {H H3 H4 : Hp} {u : Un} {n : Nat} (un : UnAt K H C n u) {a b : Addr} {e : Ent} (ok : e.ok) (ta : tupQ K H a = some (Ent.v e))
    (md3 : MdAt H3 u.m u.d u.l (u.s.carry e e.signs) (u.us ++ [a])) (k3 : KpL K [u.m, u.d, u.l] H H3) (tb : tupQ K H4 b = some (Ent.v e))
    (sh4 : ShAt K H4 C u.p u.dx u.a1 u.a2 u.a3 (u.s.carry e e.signs) (u.ws ++ [b])) (k4 : KpL K [u.p, u.a1, u.a2] H3 H4) : ∃ u', UnAt K H4 C (n + 1) u' ∧ u'.fp = u.fp ∧ u'.p = u.p ∧ u'.m = u.m ∧ u'.s.D0 = u.s.D0 ∧ u'.s.J0 = u.s.J0 ∧ KpL K u.fp H H4 := by
  have nt := un.noTup
  have nt3 := un.md_noTup
  have nd := un.nd
  simp only [Un.fp, List.nodup_cons, List.mem_cons, List.not_mem_nil, or_false, not_or, not_false_eq_true, and_true, List.nodup_nil] at nd
  have sh3 := un.md_sh k3
  have nt4 : NoTup H3 [u.p, u.a1, u.a2] := by
    intro q hq
    simp only [List.mem_cons, List.not_mem_nil, or_false] at hq
    rcases hq with rfl | rfl | rfl
    · exact ⟨_, sh3.ins, fun _ => nofun, fun _ _ => nofun⟩
    · exact ⟨_, sh3.d, fun _ => nofun, fun _ _ => nofun⟩
    · exact ⟨_, sh3.w, fun _ => nofun, fun _ _ => nofun⟩
  have md4 := md3.keep k4 (by
    intro x hx
    simp only [List.mem_cons, List.not_mem_nil, or_false, not_or] at hx ⊢
    rcases hx with rfl | rfl | rfl <;> refine ⟨Ne.symm ?_, Ne.symm ?_, Ne.symm ?_⟩ <;> simp only [ne_eq, nd, not_false_eq_true])
  have k : KpL K u.fp H H4 := (k3.mono (by
    intro x hx
    simp only [Un.fp, List.mem_cons, List.not_mem_nil, or_false] at hx ⊢
    rcases hx with h | h | h <;> simp [h])).trans k4 (by
    intro x hx
    simp only [Un.fp, List.mem_cons, List.not_mem_nil, or_false] at hx ⊢
    rcases hx with h | h | h <;> simp [h])
  have c1 := u.s.carry_D e e.signs
  have c2 := u.s.carry_J e e.signs
  have c3 := Ent.signs_small ok.sm
  have c4 := carry_D0 u.s e e.signs
  have c5 := carry_J0 u.s e e.signs
  have g1 := un.bD
  have g2 := un.bD0
  have g3 := un.bJ
  have g4 := un.bJ0
  refine ⟨{ u with s := u.s.carry e e.signs, ws := u.ws ++ [b], us := u.us ++ [a], W := u.W ++ [e] }, ⟨sh4, md4, ?_, ?_, ?_, un.nd, ?_, ?_, ?_, ?_⟩, rfl, rfl, rfl, c4, c5, k⟩
  · exact (un.en.keep k nt).more tb ok.sm
  · exact (un.em.keep k nt).more (k4.tup nt4 (k3.tup nt3 ta)) ok.sm
  · intro x hx
    rcases List.mem_append.1 hx with h | h
    · exact un.ok x h
    · rw [List.mem_singleton] at h
      rw [h]
      exact ok
  · show (u.s.carry e e.signs).D.length ≤ n + 1
    omega
  · show (u.s.carry e e.signs).D0.length + (u.W ++ [e]).length ≤ n + 1
    rw [c4, List.length_append]
    show _ + (_ + 1) ≤ _
    omega
  · show (u.s.carry e e.signs).J.length ≤ 101 * (n + 1)
    omega
  · show (u.s.carry e e.signs).J0.length + 101 * (u.W ++ [e]).length ≤ 101 * (n + 1)
    rw [c5, List.length_append]
    show _ + 101 * (_ + 1) ≤ _
    omega
structure Live (K : PySem.W.Frag) (G : List Addr) (H0 : Hp) (A : List Addr) (H : Hp) : Prop where
  nd : A.Nodup
  nw : ∀ x ∈ A, new K H0 x
  kp : KpL K G H0 H
  gl : ∀ g ∈ G, ∃ o, H g = some o
  lv : ∀ x ∈ A, ∃ o, H x = some o
theorem Live.back {G A : List Addr} {H0 H : Hp} {x : Addr} (v : Live K G H0 A H) (n : new K H x) : new K H0 x ∧ x ∉ A := by
  refine ⟨⟨?_, n.2⟩, fun h => ?_⟩
  · cases e : H0 x with
    | none => rfl
    | some o =>
      have h1 := n.1
      by_cases g : x ∈ G
      · obtain ⟨o', h⟩ := v.gl x g
        rw [h] at h1
        cases h1
      · rw [v.kp.keep x o e g] at h1
        cases h1
  · obtain ⟨o, e⟩ := v.lv x h
    rw [n.1] at e
    cases e
theorem Live.nil {G : List Addr} {H : Hp} (h : ∀ g ∈ G, ∃ o, H g = some o) : Live K G H [] H := ⟨.nil, (fun _ h => by cases h), .refl, h, (fun _ h => by cases h)⟩
theorem Live.more {G A B : List Addr} {H0 H H' : Hp} (v : Live K G H0 A H) (x : Ext K H H') (nb : ∀ b ∈ B, new K H b) (nd : B.Nodup) (lv : ∀ b ∈ B, ∃ o, H' b = some o) : Live K G H0 (A ++ B) H' where
  nd := List.nodup_append.2 ⟨v.nd, nd, fun a ha b hb e => (v.back (nb b hb)).2 (e ▸ ha)⟩
  nw := fun y hy => (List.mem_append.1 hy).elim (v.nw y) fun h => (v.back (nb y h)).1
  kp := v.kp.trans (Ext.kpl x) (fun _ h => by cases h)
  gl := fun g hg => let ⟨o, h⟩ := v.gl g hg; ⟨o, x.same _ _ h⟩
  lv := fun y hy => (List.mem_append.1 hy).elim (fun h => let ⟨o, h⟩ := v.lv y h; ⟨o, x.same _ _ h⟩) (lv y)
theorem Live.add {G A : List Addr} {H0 H : Hp} {p : Addr} {o : HO} (v : Live K G H0 A H) (n : new K H p) : Live K G H0 (A ++ [p]) (upd H p o) :=
  v.more (.new n) (by simpa using n) (by simp) (by simp only [List.mem_singleton, forall_eq]; exact ⟨o, upd_same⟩)
theorem Live.ext {G A : List Addr} {H0 H H' : Hp} (v : Live K G H0 A H) (x : Ext K H H') : Live K G H0 A H' := by
  have := v.more (B := []) x (by simp) .nil (by simp)
  rwa [List.append_nil] at this
theorem Live.set {G A : List Addr} {H0 H : Hp} {g : Addr} {o : HO} (v : Live K G H0 A H) (hg : g ∈ G) : Live K G H0 A (upd H g o) := by
  obtain ⟨o', e⟩ := v.gl g hg
  refine ⟨v.nd, v.nw, v.kp.trans (.upd e hg) (fun _ h => h), fun q hq => ?_, fun x hx => ?_⟩
  · by_cases z : q = g
    · exact ⟨o, by rw [z, upd_same]⟩
    · obtain ⟨o', e'⟩ := v.gl q hq
      exact ⟨o', by rw [upd_ne z]; exact e'⟩
  · by_cases z : x = g
    · exact ⟨o, by rw [z, upd_same]⟩
    · obtain ⟨o', e'⟩ := v.lv x hx
      exact ⟨o', by rw [upd_ne z]; exact e'⟩
theorem tag_at : ∀ {L : List Addr}, L.Nodup → ∀ {i : Nat} {x : Addr}, L[i]? = some x → L.idxOf x = i
  | [], _, i, x, h => by simp at h
  | y :: L, nd, 0, x, h => by
    simp only [List.getElem?_cons_zero, Option.some.injEq] at h
    subst h
    simp [List.idxOf_cons]
  | y :: L, nd, i + 1, x, h => by
    obtain ⟨h1, h2⟩ := List.nodup_cons.1 nd
    simp only [List.getElem?_cons_succ] at h
    have ne : y ≠ x := fun e => h1 (e ▸ List.mem_of_getElem? h)
    have nb : (y == x) = false := by simpa using ne
    rw [List.idxOf_cons, nb]
    show L.idxOf x + 1 = i + 1
    rw [tag_at h2 h]
theorem nd_tag {t : Addr → Nat} : ∀ {xs : List Addr} {as : List Nat}, xs.map t = as → as.Nodup → xs.Nodup
  | [], _, _, _ => .nil
  | x :: xs, _, h, n => by
    subst h
    obtain ⟨n1, n2⟩ := List.nodup_cons.1 n
    exact List.nodup_cons.2 ⟨fun m => n1 (List.mem_map_of_mem m), nd_tag rfl n2⟩
theorem made_ext {H H' : Hp} {C x dx : Addr} (nx : new K H x) (ndx : new K H dx) (ne : dx ≠ x) (kp : Kp K x (upd (upd H dx (.own x)) x (.ins C dx [])) H') : Ext K H H' :=
  (KpL.of kp).ext (Ext.made nx ndx ne) (by simpa using nx)
theorem made_live {H0 H H' : Hp} {G A : List Addr} {C x dx b1 b2 b3 : Addr} {o1 o2 o3 ox : HO} (v : Live K G H0 A H) (nx : new K H x) (ndx : new K H dx) (ne : dx ≠ x) (kp : Kp K x (upd (upd H dx (.own x)) x (.ins C dx [])) H')
    (n1 : new K (upd (upd H dx (.own x)) x (.ins C dx [])) b1) (n2 : new K (upd (upd H dx (.own x)) x (.ins C dx [])) b2) (n3 : new K (upd (upd H dx (.own x)) x (.ins C dx [])) b3) (m12 : b1 ≠ b2) (m13 : b1 ≠ b3) (m23 : b2 ≠ b3)
    (hx : H' x = some ox) (h1 : H' b1 = some o1) (h2 : H' b2 = some o2) (h3 : H' b3 = some o3) : Live K G H0 (A ++ [x, b1, b2, b3]) H' := by
  refine v.more (made_ext nx ndx ne kp) ?_ ?_ ?_
  · intro b hb
    simp only [List.mem_cons, List.not_mem_nil, or_false] at hb
    rcases hb with rfl | rfl | rfl | rfl
    · exact nx
    · exact new_back (Ext.made nx ndx ne) n1
    · exact new_back (Ext.made nx ndx ne) n2
    · exact new_back (Ext.made nx ndx ne) n3
  · have y1 := (new_upd.1 n1).1.symm
    have y2 := (new_upd.1 n2).1.symm
    have y3 := (new_upd.1 n3).1.symm
    simp [y1, y2, y3, m12, m13, m23]
  · intro b hb
    simp only [List.mem_cons, List.not_mem_nil, or_false] at hb
    rcases hb with rfl | rfl | rfl | rfl
    · exact ⟨_, hx⟩
    · exact ⟨_, h1⟩
    · exact ⟨_, h2⟩
    · exact ⟨_, h3⟩
def sh0 : Sh := ⟨[], "", [], [], ""⟩
theorem ents0 {H : Hp} : EntsAt K H [] [] := ⟨rfl, fun i a e h _ => by simp at h⟩
theorem Live.touch {G A ps : List Addr} {H0 H H' : Hp} (v : Live K G H0 A H) (k : KpL K ps H H') (h : ∀ x ∈ ps, x ∈ A ∨ x ∈ G) (lv : ∀ x ∈ ps, ∃ o, H' x = some o) : Live K G H0 A H' := by
  refine ⟨v.nd, v.nw, ⟨fun q o e n => ?_, fun a xs e m => k.mod a xs (v.kp.mod a xs e m) m⟩, fun g hg => ?_, fun x hx => ?_⟩
  · refine k.keep q o (v.kp.keep q o e n) fun m => ?_
    rcases h q m with z | z
    · rw [(v.nw q z).1] at e; cases e
    · exact n z
  · by_cases m : g ∈ ps
    · exact lv g m
    · obtain ⟨o, e⟩ := v.gl g hg
      exact ⟨o, k.keep g o e m⟩
  · by_cases m : x ∈ ps
    · exact lv x m
    · obtain ⟨o, e⟩ := v.lv x hx
      exact ⟨o, k.keep x o e m⟩
theorem UnAt.live {H : Hp} {C : Addr} {n : Nat} {u : Un} (un : UnAt K H C n u) : ∀ x ∈ u.fp, ∃ o, H x = some o := fun x hx => let ⟨o, e, _⟩ := un.noTup x hx; ⟨o, e⟩
theorem ShAt.four {H : Hp} {C p dx a1 a2 a3 : Addr} {s : Sh} {ws : List Addr} (sh : ShAt K H C p dx a1 a2 a3 s ws) : [p, a1, a2, a3].Nodup ∧ ∀ x ∈ [p, a1, a2, a3], ∃ o, H x = some o := by
  have e1 : p ≠ a1 := fun z => by have := sh.d; rw [← z, sh.ins] at this; cases this
  have e2 : p ≠ a2 := fun z => by have := sh.w; rw [← z, sh.ins] at this; cases this
  have e3 : p ≠ a3 := fun z => by have := sh.d0; rw [← z, sh.ins] at this; cases this
  have e4 : a1 ≠ a2 := fun z => by have := sh.w; rw [← z, sh.d] at this; cases this
  have e5 : a2 ≠ a3 := fun z => by have := sh.d0; rw [← z, sh.w] at this; cases this
  refine ⟨by simp [e1, e2, e3, e4, e5, sh.n13], fun x hx => ?_⟩
  simp only [List.mem_cons, List.not_mem_nil, or_false] at hx
  rcases hx with rfl | rfl | rfl | rfl
  · exact ⟨_, sh.ins⟩
  · exact ⟨_, sh.d⟩
  · exact ⟨_, sh.w⟩
  · exact ⟨_, sh.d0⟩
theorem MdAt.three {H : Hp} {m d l : Addr} {s : Sh} {us : List Addr} (md : MdAt H m d l s us) : [m, d, l].Nodup ∧ ∀ x ∈ [m, d, l], ∃ o, H x = some o := by
  have e1 : m ≠ d := fun z => by have := md.hd; rw [← z, md.hm] at this; cases this
  have e2 : d ≠ l := fun z => by have := md.hl; rw [← z, md.hd] at this; cases this
  refine ⟨by simp [e1, e2, md.ne], fun x hx => ?_⟩
  simp only [List.mem_cons, List.not_mem_nil, or_false] at hx
  rcases hx with rfl | rfl | rfl
  · exact ⟨_, md.hm⟩
  · exact ⟨_, md.hd⟩
  · exact ⟨_, md.hl⟩
theorem all4 {P : Addr → Prop} {a b c d : Addr} (h1 : P a) (h2 : P b) (h3 : P c) (h4 : P d) : ∀ x ∈ [a, b, c, d], P x := by
  intro x hx
  simp only [List.mem_cons, List.not_mem_nil, or_false] at hx
  rcases hx with rfl | rfl | rfl | rfl <;> assumption
theorem all3 {P : Addr → Prop} {a b c : Addr} (h1 : P a) (h2 : P b) (h3 : P c) : ∀ x ∈ [a, b, c], P x := by
  intro x hx
  simp only [List.mem_cons, List.not_mem_nil, or_false] at hx
  rcases hx with rfl | rfl | rfl <;> assumption
theorem Sh.after_le (s : Sh) {W : List Ent} {n g : Nat} (sm : ∀ e ∈ W, e.small) (hn : n ≤ W.length) (hg : g ≤ mostOf W n) : (s.after W n g).D.length ≤ s.D0.length + W.length ∧ (s.after W n g).J.length ≤ s.J0.length + 101 * W.length := by
  have b1 := Sh.run_D (W.take n) s.bare
  have b2 := Sh.run_J (W.take n) (fun e h => sm e (List.mem_of_mem_take h)) s.bare
  have b4 : s.bare.D.length = s.D0.length := rfl
  have b5 : s.bare.J.length = s.J0.length := rfl
  rw [List.length_take] at b1 b2
  show ((s.bare.run (W.take n)).tail W n g).D.length ≤ _ ∧ ((s.bare.run (W.take n)).tail W n g).J.length ≤ _
  unfold Sh.tail
  split
  · omega
  · by_cases z : n < W.length
    · have ee : W[n]? = some (W[n]'z) := List.getElem?_eq_getElem z
      have em : mostOf W n = (W[n]'z).signs.length - 1 := by unfold mostOf; rw [ee]
      rw [ee]
      have c1 := (s.bare.run (W.take n)).carry_D (W[n]'z) (cutT (W[n]'z).signs g)
      have c2 := (s.bare.run (W.take n)).carry_J (W[n]'z) (cutT (W[n]'z).signs g)
      have c3 := Ent.signs_small (sm (W[n]'z) (List.getElem_mem z))
      have c4 := slice_len (W[n]'z).signs g (by omega)
      show ((s.bare.run (W.take n)).carry (W[n]'z) (cutT (W[n]'z).signs g)).D.length ≤ _ ∧ ((s.bare.run (W.take n)).carry (W[n]'z) (cutT (W[n]'z).signs g)).J.length ≤ _
      omega
    · rw [List.getElem?_eq_none (by omega)]
      show (s.bare.run (W.take n)).D.length ≤ _ ∧ (s.bare.run (W.take n)).J.length ≤ _
      omega
theorem Wl.noTup {H : Hp} {p : Addr} (h : Wl H p) : NoTup H [p] := by
  intro q hq
  rw [List.mem_singleton] at hq
  subst hq
  rcases h with ⟨x, h⟩ | ⟨x, y, z, h⟩
  · exact ⟨_, h, fun _ => nofun, fun _ _ => nofun⟩
  · exact ⟨_, h, fun _ => nofun, fun _ _ => nofun⟩
theorem Wl.keep {H H' : Hp} {p : Addr} {ps : List Addr} (h : Wl H p) (k : KpL K ps H H') (n : p ∉ ps) : Wl H' p := by
  rcases h with ⟨x, h⟩ | ⟨x, y, z, h⟩
  · exact .inl ⟨x, k.keep _ _ h n⟩
  · exact .inr ⟨x, y, z, k.keep _ _ h n⟩
theorem UnAt.kp {H H' : Hp} {C st : Addr} {n : Nat} {u : Un} (A : UnAt K H C n u) (k : Kp K st H H') (hp : Wl H st) (ap : st ∉ u.fp) : UnAt K H' C n u :=
  A.keep (KpL.of k) hp.noTup (fun x hx h => ap (by rw [List.mem_singleton] at h; rw [← h]; exact hx)) (Nat.le_refl _)
theorem Wl.live {H : Hp} {p : Addr} (h : Wl H p) : ∃ o, H p = some o := by
  rcases h with ⟨x, h⟩ | ⟨x, y, z, h⟩
  · exact ⟨_, h⟩
  · exact ⟨_, h⟩
theorem Live.apart {G A : List Addr} {H0 H : Hp} (v : Live K G H0 A H) (gl : ∀ g ∈ G, ∃ o, H0 g = some o) : Dj A G := fun x hx hg => by
  obtain ⟨o, e⟩ := gl x hg
  rw [(v.nw x hx).1] at e
  cases e
theorem cut_unit {C D Fl m' d' l' p' dx' a1' a2' a3' : Addr} {H0 H : Hp} {G : List Addr} {u : Un} {n m g : Nat} (un : UnAt K H C n u) (v : Live K G H0 [D, Fl, m', d', l', p', a1', a2', a3'] H) (hm : m ≤ u.W.length) (hg : g ≤ mostOf u.W m)
    (sh : ShAt K H C p' dx' a1' a2' a3' (u.s.after u.W m g) []) (md : MdAt H m' d' l' (u.s.after u.W m g) []) : ∃ o : Un, UnAt K H C n o ∧ o.p = p' ∧ o.m = m' ∧ ∀ x ∈ o.fp, x ∈ [D, Fl, m', d', l', p', a1', a2', a3'] := by
  have af := u.s.after_le (W := u.W) un.en.smalls hm hg
  have g2 := un.bD0
  have g4 := un.bJ0
  obtain ⟨tg, t2, t3, t4, t5, t6, t7, t8⟩ : ∃ tg : Addr → Nat, tg m' = 2 ∧ tg d' = 3 ∧ tg l' = 4 ∧ tg p' = 5 ∧ tg a1' = 6 ∧ tg a2' = 7 ∧ tg a3' = 8 := ⟨fun x => List.idxOf x [D, Fl, m', d', l', p', a1', a2', a3'], tag_at v.nd (i := 2) rfl, tag_at v.nd (i := 3) rfl, tag_at v.nd (i := 4) rfl, tag_at v.nd (i := 5) rfl, tag_at v.nd (i := 6) rfl, tag_at v.nd (i := 7) rfl, tag_at v.nd (i := 8) rfl⟩
  have k0 : [p', a1', a2', a3', m', d', l'].map tg = [5, 6, 7, 8, 2, 3, 4] := by simp only [List.map, t2, t3, t4, t5, t6, t7, t8]
  refine ⟨⟨p', dx', a1', a2', a3', m', d', l', [], [], u.s.after u.W m g, []⟩, ⟨sh, md, ents0, ents0, (fun _ h => by cases h), nd_tag k0 (by decide), ?_, ?_, ?_, ?_⟩, rfl, rfl, fun x hx => ?_⟩
  · show (u.s.after u.W m g).D.length ≤ n
    omega
  · show (u.s.after u.W m g).D.length + 0 ≤ n
    omega
  · show (u.s.after u.W m g).J.length ≤ 101 * n
    omega
  · show (u.s.after u.W m g).J.length + 101 * 0 ≤ 101 * n
    omega
  · simp only [Un.fp, List.mem_cons, List.not_mem_nil, or_false] at hx ⊢
    rcases hx with h | h | h | h | h | h | h <;> simp [h]
end
section
variable {P : Program} {w : World} {K : PySem.W.Frag} {mg : Str → Option Value} {base : Heap}
def spRefused (K : PySem.W.Frag) (cShelf : Addr) : Sp := fun vs H Q _ => ∃ p dx a1 a2 a3 s ws W v u, vs = [.ref p, v, u] ∧ ShAt K H cShelf p dx a1 a2 a3 s ws ∧ EntsAt K H ws W ∧ BadCut W v u ∧ ∀ H', Ext K H H' → Q (.bl true) H'
theorem sc__law_refused : FnScope ["_law_shelf", "_law_many", "_law_signs", "e"] ["_law_shelf", "_law_many", "_law_signs"] (defScope s__law_refused) := ⟨rfl, rfl, rfl, by decide +kernel, rfl, by decide +kernel, by decide +kernel⟩
theorem ok__law_refused {f cShelf : Addr} {fd : FuncData} (F : Fun K "_law_refused" "_law_refused" s__law_refused f fd) {cF cN cC : Addr} {tP : Tok} (B : B K mg cF cN cC tP) (MX_Shelf_after : MethX P w K mg base cShelf "after" 3 ["self", "many", "signs"] [] (spAfterX K cShelf cC)) (c_Shelf : Cls K cShelf) : FnOk P w K mg base CX0 4 f fd ["_law_shelf", "_law_many", "_law_signs"] (spRefused K cShelf) := by
  refine F.okJ sc__law_refused (fun vs H Q E h => ?_) (fun cdv A outer s H vs Q E hr h => ?_)
  · obtain ⟨p, dx, a1, a2, a3, s, ws, W, v, u, rfl, _⟩ := h
    rfl
  obtain ⟨p, dx, a1, a2, a3, s, ws, W, v, u, rfl, sh, en, bad, q⟩ := h
  refine ⟨_, (bcons (stry (i := 3) sc__law_refused.nd rfl rfl rfl B.FallError ⟨rfl, rfl⟩ rfl (fun E1 xe pn hp => (bone (sexpr (emethX MX_Shelf_after c_Shelf hp (hr.mono (by decide)) (ev 0) (acons (ev 1) (acons (ev 2) anil))))))
        (fun a xe pn => (bone (sret (eand (ecallB (call_isexcK K) rfl B.isinstance bt_isinstance (acons (ev 3) (acons (eglob rfl B.NoCut B.NoCut_is) anil))) (eand (ecallB (call_isexcT K) rfl B.isinstance bt_isinstance (acons (ev 3) (acons (etyp rfl B.ValueError bt_ValueError) anil))) (eone (enot (ecallB (call_isexcK K) rfl B.isinstance bt_isinstance (acons (ev 3) (acons (eglob rfl B.NoPlace B.NoPlace_is) anil)))))))))))
      (bone (sret ebl))), ?_⟩
  try walk_at "rn"
  refine ⟨_, _, sh.ins, fs_no (by decide +kernel) (by decide +kernel) (by decide +kernel) (by decide +kernel) (by decide +kernel), p, dx, a1, a2, a3, s, ws, W, v, u, rfl, sh, en, bad, fun H1 x1 => ⟨cC, rfl, B.xp.i, B.xp.m, fun a na => ⟨cC, rfl, B.xp.i, _, B.xp.k0, ?_⟩⟩⟩
  rw [if_pos rfl]
  refine ⟨cC, rfl, B.xp.i, _, B.xp.k1, ?_⟩
  rw [if_pos rfl]
  exact ⟨cC, rfl, B.xp.i, _, B.xp.k2, q _ (x1.trans (.new na))⟩
def Cuts (K : PySem.W.Frag) (H : Hp) (W : List Ent) (ts : List Addr) : Prop := ∀ t ∈ ts, ∃ v u, tupQ K H t = some [v, u] ∧ BadCut W v u
theorem Cuts.ext {H H' : Hp} {W : List Ent} {ts : List Addr} (c : Cuts K H W ts) (x : Ext K H H') : Cuts K H' W ts := fun t ht =>
  let ⟨v, u, e, b⟩ := c t ht; ⟨v, u, x.tup e, b⟩
theorem Cuts.keep {H H' : Hp} {W : List Ent} {ts ps : List Addr} (c : Cuts K H W ts) (k : KpL K ps H H') (nt : NoTup H ps) : Cuts K H' W ts := fun t ht =>
  let ⟨v, u, e, b⟩ := c t ht; ⟨v, u, k.tup nt e, b⟩
theorem Cuts.more {H : Hp} {W : List Ent} {ts : List Addr} {t : Addr} {v u : V} (c : Cuts K H W ts) (e : tupQ K H t = some [v, u]) (b : BadCut W v u) : Cuts K H W (ts ++ [t]) := fun x hx => by
  rcases List.mem_append.1 hx with h | h
  · exact c x h
  · rw [List.mem_singleton] at h
    rw [h]
    exact ⟨v, u, e, b⟩
theorem app_cut {H0 H : Hp} {L p m d l T : Addr} {s : Sh} {us ts : List Addr} {W : List Ent} {x y : V} (zL : H L = some (.lst (ts.map V.ref))) (c : Cuts K H W ts) (hp : Wl H p) (md : MdAt H m d l s us) (en : EntsAt K H us W) (v : Live K [p] H0 [L] H) (nLp : L ≠ p) (nLm : m ≠ L) (nLl : l ≠ L) (nT : new K H T) (b : BadCut W x y) :
    (upd H T (.tup [x, y])) L = some (.lst (ts.map V.ref)) ∧ (upd (upd H T (.tup [x, y])) L (.lst (ts.map V.ref ++ [V.ref T]))) L = some (.lst ((ts ++ [T]).map V.ref)) ∧ Cuts K (upd (upd H T (.tup [x, y])) L (.lst (ts.map V.ref ++ [V.ref T]))) W (ts ++ [T]) ∧ Wl (upd (upd H T (.tup [x, y])) L (.lst (ts.map V.ref ++ [V.ref T]))) p ∧ MdAt (upd (upd H T (.tup [x, y])) L (.lst (ts.map V.ref ++ [V.ref T]))) m d l s us ∧ EntsAt K (upd (upd H T (.tup [x, y])) L (.lst (ts.map V.ref ++ [V.ref T]))) us W ∧ Live K [p] H0 [L] (upd (upd H T (.tup [x, y])) L (.lst (ts.map V.ref ++ [V.ref T]))) := by
  have x1 : Ext K H (upd H T (.tup [x, y])) := .new nT
  have zT : tupQ K (upd H T (.tup [x, y])) T = some [x, y] := tupQ_updT
  have zL := x1.same _ _ zL
  have c := c.ext x1
  have hp := hp.ext x1
  have md := md.ext x1
  have en := en.ext x1
  have v := v.ext x1
  generalize upd H T (.tup [x, y]) = H1 at zT zL c hp md en v
  have nd : d ≠ L := fun z => by have := md.hd; rw [z, zL] at this; cases this
  have k : KpL K [L] H1 (upd H1 L (.lst (ts.map V.ref ++ [V.ref T]))) := .upd zL (by simp)
  have nt : NoTup H1 [L] := by
    intro q hq
    rw [List.mem_singleton] at hq
    subst hq
    exact ⟨_, zL, fun _ => nofun, fun _ _ => nofun⟩
  have no : ∀ {z : Addr}, z ≠ L → z ∉ [L] := fun h => by rw [List.mem_singleton]; exact h
  refine ⟨zL, by rw [upd_same, List.map_append]; rfl, (c.more zT b).keep k nt, hp.keep k (no (Ne.symm nLp)), md.keep k (all3 (no nLm) (no nd) (no nLl)), en.keep k nt, v.touch k (by simp) (by simp only [List.mem_singleton, forall_eq]; exact ⟨_, upd_same⟩)⟩
def spNoCuts (K : PySem.W.Frag) : Sp := fun vs H Q _ => ∃ p m d l s us W, vs = [.ref p, .ref m] ∧ Wl H p ∧ MdAt H m d l s us ∧ EntsAt K H us W ∧ OkAll W ∧ W.length ≤ 100 ∧ m ≠ p ∧ l ≠ p ∧
  ∀ (L : Addr) (ts : List Addr) (H' : Hp), H' L = some (.lst (ts.map V.ref)) → Cuts K H' W ts → Wl H' p → Kp K p H H' → Q (.ref L) H'
theorem sc__law_no_cuts : FnScope ["_law_state", "_law_model", "_law_many", "_law_far", "_law_found", "_law_at"] ["_law_state", "_law_model"] (defScope s__law_no_cuts) := ⟨rfl, rfl, rfl, by decide +kernel, rfl, by decide +kernel, by decide +kernel⟩
theorem ok__law_no_cuts {f : Addr} {fd : FuncData} (F : Fun K "_law_no_cuts" "_law_no_cuts" s__law_no_cuts f fd) {cF cN cC : Addr} {tP : Tok} (B : B K mg cF cN cC tP) (C__law_digit : Callee P w K mg base "_law_digit" 1 ["_law_state", "_law_base"] (spDigit K)) (C__law_most : Callee P w K mg base "_law_most" 1 ["_law_write_here"] (spMost K)) : FnOk P w K mg base CX0 2 f fd ["_law_state", "_law_model"] (spNoCuts K) := by
  refine F.okJ sc__law_no_cuts (fun vs H Q E h => ?_) (fun cdv A outer s H vs Q E hr h => ?_)
  · obtain ⟨p, m, d, l, s, us, W, rfl, _⟩ := h
    rfl
  obtain ⟨p, m, d, l, s, us, W, rfl, hp, md, en, ok, hW, n1, n2, q⟩ := h
  refine ⟨_, (bcons (sset (i := 2) sc__law_no_cuts.nd rfl (Or.inl rfl) (ecallB call_lenQ rfl B.len bt_len (acons (eix ix_Q (ev 1) ei (fun _ _ => rfl)) anil)))
      (bcons (sset (i := 3) sc__law_no_cuts.nd rfl (Or.inl rfl) (ecall C__law_digit (hr.mono (by decide)) rfl (acons (ev 0) (acons (epowc 1000000) anil))))
      (bcons (sset (i := 4) sc__law_no_cuts.nd rfl (Or.inl rfl) (elstQ (acons (etupQ (acons (eop op_add (eop op_add (ev 2) ei) (ev 3)) (acons ei anil))) (acons (etupQ (acons (eop op_sub (eop op_sub ei ei) (ev 3)) (acons ei anil))) (acons (etupQ (acons (ev 2) (acons (eop op_add ei (ev 3)) anil))) (acons (etupQ (acons (ev 2) (acons (eop op_sub ei ei) anil))) (acons (etupQ (acons enon (acons ei anil))) (acons (etupQ (acons ei (acons enon anil))) (acons (etupQ (acons estr (acons ei anil))) anil)))))))))
      (bcons (sset (i := 4) sc__law_no_cuts.nd rfl (Or.inl rfl) (eop op_catQ (ev 4) (elstQ (acons (etupQ (acons ebl (acons ei anil))) (acons (etupQ (acons ei (acons ebl anil))) (acons (etupQ (acons (eop op_add (ev 2) ei) (acons ei anil))) anil))))))
      (bcut (sif (tcmp op_gt (ev 2) ei (nomark _)) (bcons (sset (i := 5) sc__law_no_cuts.nd rfl (Or.inl rfl) (ecall C__law_digit (hr.mono (by decide)) rfl (acons (ev 0) (acons (ev 2) anil))))
      (bcons (sexpr (ebm PySem.F.plainAttrs_list PySem.F.slot_list_append PySem.F.type_list_append mt_append (ev 4) (acons (etupQ (acons (ev 5) (acons (eop op_add (ecall C__law_most (hr.mono (by decide)) rfl (acons (eix ix_Q (eix ix_Q (ev 1) ei (fun _ _ => rfl)) (ev 5) (fun _ _ => rfl)) anil)) ei) anil))) anil)))
      (bcons (sexpr (ebm PySem.F.plainAttrs_list PySem.F.slot_list_append PySem.F.type_list_append mt_append (ev 4) (acons (etupQ (acons (ev 5) (acons (eop op_add (eop op_add (ecall C__law_most (hr.mono (by decide)) rfl (acons (eix ix_Q (eix ix_Q (ev 1) ei (fun _ _ => rfl)) (ev 5) (fun _ _ => rfl)) anil)) ei) (ev 3)) anil))) anil)))
      (bone (sexpr (ebm PySem.F.plainAttrs_list PySem.F.slot_list_append PySem.F.type_list_append mt_append (ev 4) (acons (etupQ (acons (ev 5) (acons (eop op_sub (eop op_sub ei ei) (ev 3)) anil))) anil))))))) bnil)
      (bone (sret (ev 4)))))))), ?_⟩
  simp only [tSeq, tNext, tIfS, tAsg, gName, gSub, tRet, tRetN, tDrop, tVar, tC, tOp, tUn, rI0, rI, rU, tTest, tB, tAndV, tOrV, tNotV, tAnd, tOr, tNot, tIf, tChain, tCB, tCons, tNil, tLst, tTup, tCallC, List.getElem?_cons_zero, List.getElem?_cons_succ, List.set_cons_zero, List.set_cons_succ, Option.some.injEq, V.int.injEq, V.bl.injEq, V.ref.injEq, V.ty.injEq, V.str.injEq, List.cons.injEq, exists_eq_left', exists_eq_left, exists_and_left, and_true, true_and, and_assoc, cxK, rIxF, rSetL, rEq, rNe, scal, HO.lst.injEq, HO.tup.injEq, upd_none, ixN_10, ixN_20, ixN_21, ixN_30, ixN_31, ixN_32, upd_same, seqAt_updL, seqAt_updT, atI_0, atI_1, atI_2, atI_3, decide_eq_true_eq, L2.start, List.map_cons, List.map_nil, List.length_cons, List.length_nil, Nat.reduceAdd, Nat.reduceSub, List.replicate_succ, List.replicate_zero, List.cons_append, List.nil_append, List.append_nil, tFor_rng1, tFor_rng2, tFor_list, tFor_tup, CDv, CMul, CPow, sizeLine_eq, Int.reduceLE, Int.reduceLT, Int.reducePow, Int.reduceToNat, Int.reduceAdd, Int.reduceSub, Int.reduceMul, Int.reduceNeg, Nat.reduceLeDiff, Nat.reducePow, Nat.reduceLT, Int.reduceEq, true_or, or_true, ite_true, ite_false, if_true, if_false, Bool.not_true, Bool.not_false, Bool.false_eq_true, decide_true, decide_false, rIxQ, seqQ_updL, seqQ_updT, tupQ_updT, tSl, tNoPart, tPart, rSlQ, rSlTX, rCatQ, tTupQ, tLstQ, tNever, rEqD, rInQ, gTupQ, gCons, gNil, tBM, rAppend, tMakeQ, sFld, tFld, sFldAug, tMeth, tDNewQ, tFor_list, rSlS, tLc_zipS, tLcD, tBM0, rExtend, tLc_rng1, tLc_list, tLc_tup, pick_nil, pick_own, pick_cap, join_some, tYes, tyV, tDGet, rIxS, rJoin, sDPut, rNeE, tTry, Ends.gone, tRaise, cxN, tCall, seqQ_lst md.hm,  seqQ_lst md.hl]
  refine ⟨p, _, rfl, hp, by decide, by decide, fun far H1 f0 f1 hp1 k1 => ?_⟩
  have md1 := md.kp k1 hp n1 n2
  have en1 := en.kp k1 hp
  try walk_at "rn"
  have eN : ((us.map V.ref).length : Int) = (W.length : Int) := by rw [List.length_map, en.1]
  simp only [eN]
  intro p1 q1 p2 q2 p3 q3 p4 q4 p5 q5 p6 q6 p7 q7 p8 q8 p9 q9 p10 q10 p11 q11 p12 q12
  have y12 := Ext.new (K := K) (o := .lst [.ref p9, .ref p10, .ref p11]) q12
  have z11 := y12.same _ _ (upd_same (a := p11))
  have y11 := (Ext.new q11).trans y12
  have z10 := y11.same _ _ (upd_same (a := p10))
  have y10 := (Ext.new q10).trans y11
  have z9 := y10.same _ _ (upd_same (a := p9))
  have y9 := (Ext.new q9).trans y10
  have z8 := y9.same _ _ (upd_same (a := p8))
  have y8 := (Ext.new q8).trans y9
  have z7 := y8.same _ _ (upd_same (a := p7))
  have y7 := (Ext.new q7).trans y8
  have z6 := y7.same _ _ (upd_same (a := p6))
  have y6 := (Ext.new q6).trans y7
  have z5 := y6.same _ _ (upd_same (a := p5))
  have y5 := (Ext.new q5).trans y6
  have z4 := y5.same _ _ (upd_same (a := p4))
  have y4 := (Ext.new q4).trans y5
  have z3 := y4.same _ _ (upd_same (a := p3))
  have y3 := (Ext.new q3).trans y4
  have z2 := y3.same _ _ (upd_same (a := p2))
  have y2 := (Ext.new q2).trans y3
  have z1 := y2.same _ _ (upd_same (a := p1))
  have y1 := (Ext.new q1).trans y2
  have z12 : (upd (upd (upd (upd (upd (upd (upd (upd (upd (upd (upd (upd H1 p1 (.tup [.int ((W.length : Int) + 1 + far), .int 0])) p2 (.tup [.int (-1 - far), .int 0])) p3 (.tup [.int (W.length : Int), .int (1 + far)])) p4 (.tup [.int (W.length : Int), .int (-1)])) p5 (.tup [.non, .int 0])) p6 (.tup [.int 0, .non])) p7 (.tup [.str (Str.ofString "0"), .int 0])) p8 (.lst [.ref p1, .ref p2, .ref p3, .ref p4, .ref p5, .ref p6, .ref p7])) p9 (.tup [.bl false, .int 0])) p10 (.tup [.int 0, .bl false])) p11 (.tup [.int ((W.length : Int) + 1), .int 1])) p12 (.lst [.ref p9, .ref p10, .ref p11])) p12 = some (.lst [.ref p9, .ref p10, .ref p11]) := upd_same
  generalize (upd (upd (upd (upd (upd (upd (upd (upd (upd (upd (upd (upd H1 p1 (.tup [.int ((W.length : Int) + 1 + far), .int 0])) p2 (.tup [.int (-1 - far), .int 0])) p3 (.tup [.int (W.length : Int), .int (1 + far)])) p4 (.tup [.int (W.length : Int), .int (-1)])) p5 (.tup [.non, .int 0])) p6 (.tup [.int 0, .non])) p7 (.tup [.str (Str.ofString "0"), .int 0])) p8 (.lst [.ref p1, .ref p2, .ref p3, .ref p4, .ref p5, .ref p6, .ref p7])) p9 (.tup [.bl false, .int 0])) p10 (.tup [.int 0, .bl false])) p11 (.tup [.int ((W.length : Int) + 1), .int 1])) p12 (.lst [.ref p9, .ref p10, .ref p11])) = H2 at y1 z1 z2 z3 z4 z5 z6 z7 z8 z9 z10 z11 z12
  clear y2 y3 y4 y5 y6 y7 y8 y9 y10 y11 y12
  refine ⟨_, z8, by simp only [List.length_cons, List.length_nil]; decide, fun L nL => ?_⟩
  have v0 : Live K [p] H [] H := .nil (by simpa using hp.live)
  have v2 := ((v0.touch (KpL.of k1) (by simp) (by simpa using hp1.live)).ext y1).add (o := .lst ([p1, p2, p3, p4, p5, p6, p7, p9, p10, p11].map V.ref)) nL
  have c2 : Cuts K H2 W [p1, p2, p3, p4, p5, p6, p7, p9, p10, p11] := by
    intro t ht
    simp only [List.mem_cons, List.not_mem_nil, or_false] at ht
    rcases ht with rfl | rfl | rfl | rfl | rfl | rfl | rfl | rfl | rfl | rfl
    · exact ⟨_, _, tupQ_tup z1, .inl (.inl ⟨_, rfl, by omega⟩)⟩
    · exact ⟨_, _, tupQ_tup z2, .inl (.inl ⟨_, rfl, by omega⟩)⟩
    · exact ⟨_, _, tupQ_tup z3, .inr ⟨_, rfl, Nat.le_refl _, .inl ⟨_, rfl, by rw [mostOf_none (Nat.le_refl _)]; omega⟩⟩⟩
    · exact ⟨_, _, tupQ_tup z4, .inr ⟨_, rfl, Nat.le_refl _, .inl ⟨_, rfl, by omega⟩⟩⟩
    · exact ⟨_, _, tupQ_tup z5, .inl (.inr (.inr (.inl rfl)))⟩
    · exact ⟨_, _, tupQ_tup z6, .inr ⟨0, rfl, Nat.zero_le _, .inr (.inr (.inl rfl))⟩⟩
    · exact ⟨_, _, tupQ_tup z7, .inl (.inr (.inr (.inr ⟨_, rfl⟩)))⟩
    · exact ⟨_, _, tupQ_tup z9, .inl (.inr (.inl ⟨_, rfl⟩))⟩
    · exact ⟨_, _, tupQ_tup z10, .inr ⟨0, rfl, Nat.zero_le _, .inr (.inl ⟨_, rfl⟩)⟩⟩
    · exact ⟨_, _, tupQ_tup z11, .inl (.inl ⟨_, rfl, by omega⟩)⟩
  have hp2 := hp1.ext y1
  have md2 := md1.ext y1
  have en2 := en1.ext y1
  have x3 : Ext K H2 (upd H2 L (.lst ([p1, p2, p3, p4, p5, p6, p7, p9, p10, p11].map V.ref))) := .new nL
  have c3 := c2.ext x3
  have hp3 := hp2.ext x3
  have md3 := md2.ext x3
  have en3 := en2.ext x3
  have nLp : L ≠ p := hp2.ne nL
  have nLm : m ≠ L := fun z => by have := md2.hm; rw [z, nL.1] at this; cases this
  have nLl : l ≠ L := fun z => by have := md2.hl; rw [z, nL.1] at this; cases this
  have zL : (upd H2 L (.lst ([p1, p2, p3, p4, p5, p6, p7, p9, p10, p11].map V.ref))) L = some (.lst ([p1, p2, p3, p4, p5, p6, p7, p9, p10, p11].map V.ref)) := upd_same
  show tCut _ _ _ _ (upd H2 L (.lst ([p1, p2, p3, p4, p5, p6, p7, p9, p10, p11].map V.ref)))
  generalize upd H2 L (.lst ([p1, p2, p3, p4, p5, p6, p7, p9, p10, p11].map V.ref)) = H3 at v2 x3 c3 hp3 md3 en3 zL
  have lts : ([p1, p2, p3, p4, p5, p6, p7, p9, p10, p11] : List Addr).length ≤ 10 := Nat.le_refl _
  generalize [p1, p2, p3, p4, p5, p6, p7, p9, p10, p11] = ts at v2 c3 zL lts
  simp only [List.nil_append] at v2
  clear x3 c2 hp2 md2 en2 z1 z2 z3 z4 z5 z6 z7 z8 z9 z10 z11 z12 y1
  refine ⟨fun σ' H' => ∃ (v5 : Option V) (ts : List Addr), σ' = [some (.ref p), some (.ref m), some (.int (W.length : Int)), some (.int far), some (.ref L), v5] ∧ H' L = some (.lst (ts.map V.ref)) ∧ Cuts K H' W ts ∧ Wl H' p ∧ Live K [p] H [L] H', ?_, ?_⟩
  · try walk_at "rn"
    refine ite2 (fun c => ?_) (fun _ => ⟨ts, zL, c3, hp3, v2⟩)
    refine ⟨p, _, rfl, hp3, by omega, by omega, fun at_ H4 at0 at1 hp4 k4 => ?_⟩
    obtain ⟨at_, rfl⟩ : ∃ k : Nat, at_ = k := ⟨at_.toNat, by omega⟩
    have zL4 := k4.keep _ _ zL nLp
    have c4 := c3.keep (KpL.of k4) hp3.noTup
    have md4 := md3.kp k4 hp3 n1 n2
    have en4 := en3.kp k4 hp3
    have v4 := v2.touch (KpL.of k4) (by simp) (by simpa using hp4.live)
    clear zL c3 md3 en3 v2 hp3 k4
    have lu : us.length = W.length := en.1
    have ia : at_ < us.length := by omega
    have ea : us[at_]? = some (us[at_]'ia) := List.getElem?_eq_getElem ia
    have ee : W[at_]? = some (W[at_]'(by omega)) := List.getElem?_eq_getElem (by omega)
    have am : atI (us.map V.ref) (at_ : Int) = some (.ref (us[at_]'ia)) := by rw [atI_nat (by simpa using ia), List.getElem?_map, ea]; rfl
    have ok1 := ok.at ee
    have mo := mostE_of ee
    generalize W[at_]'(by omega) = e at ee ok1 mo
    generalize us[at_]'ia = ua at ea am
    have b1 : BadCut W (.int (at_ : Int)) (.int (((mostE e : Nat) : Int) + 1)) := .inr ⟨at_, rfl, by omega, .inl ⟨_, rfl, by rw [mo]; omega⟩⟩
    have b2 : BadCut W (.int (at_ : Int)) (.int (((mostE e : Nat) : Int) + 2 + far)) := .inr ⟨at_, rfl, by omega, .inl ⟨_, rfl, by rw [mo]; omega⟩⟩
    have b3 : BadCut W (.int (at_ : Int)) (.int (-1 - far)) := .inr ⟨at_, rfl, by omega, .inl ⟨_, rfl, by omega⟩⟩
    refine ⟨.inl ⟨_, SqL.of zL4⟩, _, seqQ_lst md4.hm, _, atI_2, _, rfl, _, rfl, _, seqQ_lst md4.hl, _, am, ua, e, rfl, (en4.2 _ _ _ ea ee).1, ok1, _, rfl, fun T nT => ?_⟩
    obtain ⟨zL5', zL5, c5, hp5, md5, en5, v5⟩ := app_cut zL4 c4 hp4 md4 en4 v4 nLp nLm nLl nT b1
    refine ⟨_, zL5', by rw [List.length_map]; omega, .inl ⟨_, SqL.of zL5⟩, ?_⟩
    generalize (upd (upd H4 T (.tup [.int (at_ : Int), .int (((mostE e : Nat) : Int) + 1)])) L (.lst (ts.map V.ref ++ [V.ref T]))) = H5 at zL5 c5 hp5 md5 en5 v5
    clear zL5' zL4 c4 hp4 md4 en4 v4
    refine ⟨_, seqQ_lst md5.hm, _, atI_2, _, rfl, _, rfl, _, seqQ_lst md5.hl, _, am, ua, e, rfl, (en5.2 _ _ _ ea ee).1, ok1, _, rfl, fun T2 nT2 => ?_⟩
    obtain ⟨zL6', zL6, c6, hp6, md6, en6, v6⟩ := app_cut zL5 c5 hp5 md5 en5 v5 nLp nLm nLl nT2 b2
    refine ⟨_, zL6', by rw [List.length_map, List.length_append, List.length_singleton]; omega, .inl ⟨_, SqL.of zL6⟩, fun T3 nT3 => ?_⟩
    generalize (upd (upd H5 T2 (.tup [.int (at_ : Int), .int (((mostE e : Nat) : Int) + 2 + far)])) L (.lst ((ts ++ [T]).map V.ref ++ [V.ref T2]))) = H6 at zL6 c6 hp6 md6 en6 v6 nT3
    clear zL6' zL5 c5 hp5 md5 en5 v5
    obtain ⟨zL7', zL7, c7, hp7, md7, en7, v7⟩ := app_cut zL6 c6 hp6 md6 en6 v6 nLp nLm nLl nT3 b3
    refine ⟨_, zL7', by rw [List.length_map, List.length_append, List.length_append, List.length_singleton, List.length_singleton]; omega, ts ++ [T] ++ [T2] ++ [T3], ?_, c7, hp7, v7⟩
    rw [List.map_append (l₂ := [T3])]
    rfl
  rintro _ H4 ⟨v5, ts, rfl, zL, c4, hp4, v4⟩
  try walk_at "rn"
  exact q L ts H4 zL c4 hp4 ⟨fun r o e n => v4.kp.keep r o e (by rw [List.mem_singleton]; exact n), v4.kp.mod⟩
end
section
variable {P : Program} {w : World} {K : PySem.W.Frag} {mg : Str → Option Value} {base : Heap}
def spHolds (K : PySem.W.Frag) (cShelf : Addr) : Sp := fun vs H Q _ => ∃ st u n, vs = [.ref st, .ref u.p, .ref u.m] ∧ Wl H st ∧ UnAt K H cShelf n u ∧ n ≤ 61 ∧ u.s.D0 = [] ∧ u.s.J0 = "" ∧ st ∉ u.fp ∧
  ∀ (u' : Un) (H' : Hp), UnAt K H' cShelf (n + 1) u' → u'.fp = u.fp → u'.p = u.p → u'.m = u.m → u'.s.D0 = [] → u'.s.J0 = "" → Wl H' st → KpL K (st :: u.fp) H H' → Q (.bl true) H'
theorem UnAt.same {H : Hp} {C : Addr} {n : Nat} {u : Un} (un : UnAt K H C n u) (hn : n < 64) {Q' : VK} (qq : ∀ H', Ext K H H' → Q' (.bl true) H') : spSame K C [.ref u.p, .ref u.m] H Q' E0 :=
  ⟨u.p, u.dx, u.a1, u.a2, u.a3, u.s, u.ws, u.m, u.d, u.l, u.us, u.W, rfl, un.sh, un.md, un.en, un.em, by have := un.bD; omega, by have := un.bD0; omega, un.ne1.1, un.ne1.2, qq⟩
theorem UnAt.m_mem (u : Un) : u.m ∈ u.fp := by simp [Un.fp]
theorem UnAt.l_mem (u : Un) : u.l ∈ u.fp := by simp [Un.fp]
theorem sc__law_holds : FnScope ["_law_state", "_law_shelf", "_law_model", "_law_many", "_law_signs", "_law_due", "_law_other", "_law_write_here"] ["_law_state", "_law_shelf", "_law_model"] (defScope s__law_holds) := ⟨rfl, rfl, rfl, by decide +kernel, rfl, by decide +kernel, by decide +kernel⟩
theorem ok__law_holds {f cShelf : Addr} {fd : FuncData} (F : Fun K "_law_holds" "_law_holds" s__law_holds f fd) {cF cN cC : Addr} {tP : Tok} (B : B K mg cF cN cC tP) (C__law_where : Callee P w K mg base "_law_where" 2 ["_law_state", "_law_model"] (spWhere K)) (C__law_cut : Callee P w K mg base "_law_cut" 2 ["_law_model", "_law_first", "_law_many", "_law_signs"] (spCut K)) (C__law_write : Callee P w K mg base "_law_write" 3 ["_law_state"] (spWriteL K)) (C__law_put : Callee P w K mg base "_law_put" 1 ["_law_model", "_law_write_here"] (spPutM K)) (C__law_put_down : Callee P w K mg base "_law_put_down" 4 ["_law_shelf", "_law_write_here"] (spPD K cShelf)) (C__law_same : Callee P w K mg base "_law_same" 4 ["_law_shelf", "_law_model"] (spSame K cShelf)) (MC_Shelf_after : MethC P w K mg base cShelf "after" 3 ["self", "many", "signs"] [] (spAfter K cShelf)) (c_Shelf : Cls K cShelf) : FnOk P w K mg base CX0 5 f fd ["_law_state", "_law_shelf", "_law_model"] (spHolds K cShelf) := by
  refine F.okJ sc__law_holds (fun vs H Q E h => ?_) (fun cdv A outer s H vs Q E hr h => ?_)
  · obtain ⟨st, u, n, rfl, _⟩ := h
    rfl
  obtain ⟨st, u, n, rfl, hp, un, hn, hD0, hJ0, ap, q⟩ := h
  have sz := sizeLine_eq
  have v0 : Live K (st :: u.fp) H [] H := .nil (fun g hg => by
    rcases List.mem_cons.1 hg with h | h
    · rw [h]; exact hp.live
    · exact un.live g h)
  have gl0 := v0.gl
  refine ⟨_, (bcons (sasg (ecall C__law_where (hr.mono (by decide)) rfl (acons (ev 0) (acons (ev 2) anil))) (gtupQ (n := 2) rfl (gcons (gname (i := 3) sc__law_holds.nd rfl (Or.inl rfl)) (gcons (gname (i := 4) sc__law_holds.nd rfl (Or.inl rfl)) gnil))))
      (bcons (sset (i := 5) sc__law_holds.nd rfl (Or.inl rfl) (ecall C__law_cut (hr.mono (by decide)) rfl (acons (ev 2) (acons (elstQ (acons ednewQ (acons estr anil))) (acons (ev 3) (acons (ev 4) anil))))))
      (bcons (sset (i := 6) sc__law_holds.nd rfl (Or.inl rfl) (emeth MC_Shelf_after c_Shelf (hr.mono (by decide)) (ev 1) (acons (ev 3) (acons (ev 4) anil))))
      (bcons (sif (tw (wor (tnot (tval (ecall C__law_same (hr.mono (by decide)) rfl (acons (ev 6) (acons (ev 5) anil))))) (wor1 (tnot (tval (ecall C__law_same (hr.mono (by decide)) rfl (acons (ev 1) (acons (ev 2) anil)))))))) (bone (sret ebl)) bnil)
      (bcons (sset (i := 7) sc__law_holds.nd rfl (Or.inl rfl) (ecall C__law_write (hr.mono (by decide)) rfl (acons (ev 0) anil)))
      (bcons (sexpr (ecall C__law_put (hr.mono (by decide)) rfl (acons (ev 5) (acons (ev 7) anil))))
      (bcons (sif (tw (wor (tnot (tval (ecall C__law_put_down (hr.mono (by decide)) rfl (acons (ev 6) (acons (ev 7) anil))))) (wor (tnot (tval (ecall C__law_same (hr.mono (by decide)) rfl (acons (ev 6) (acons (ev 5) anil))))) (wor1 (tnot (tval (ecall C__law_same (hr.mono (by decide)) rfl (acons (ev 1) (acons (ev 2) anil))))))))) (bone (sret ebl)) bnil)
      (bcons (sset (i := 7) sc__law_holds.nd rfl (Or.inl rfl) (ecall C__law_write (hr.mono (by decide)) rfl (acons (ev 0) anil)))
      (bcons (sexpr (ecall C__law_put (hr.mono (by decide)) rfl (acons (ev 2) (acons (ev 7) anil))))
      (bone (sret (eand (ecall C__law_put_down (hr.mono (by decide)) rfl (acons (ev 1) (acons (ev 7) anil))) (eand (ecall C__law_same (hr.mono (by decide)) rfl (acons (ev 6) (acons (ev 5) anil))) (eone (ecall C__law_same (hr.mono (by decide)) rfl (acons (ev 1) (acons (ev 2) anil))))))))))))))))), ?_⟩
  try walk_at "rn"
  refine ⟨st, u.m, u.d, u.l, u.s, u.us, u.W, rfl, hp, un.md, un.em, un.ok, by have := un.bD0; omega, (fun z => ap (z ▸ UnAt.m_mem u)), (fun z => ap (z ▸ UnAt.l_mem u)), fun m g T H1 hm hg hT hp1 k1 => ?_⟩
  have un1 := un.kp k1 hp ap
  have v1 := v0.touch (KpL.of k1) (by simp) (by simpa using hp1.live)
  clear un hp v0 k1
  try walk_at "rn"
  refine ⟨_, hT, rfl, _, _, rfl, _, _, rfl, rfl, fun D nD Fl nF => ?_⟩
  have v2 := (v1.add nD).add (o := .lst [.ref D, .str ""]) nF
  have w2 := Ext.new (K := K) (o := .lst [.ref D, .str ""]) nF
  have zD := w2.same _ _ (upd_same (a := D))
  have x2 := (Ext.new nD).trans w2
  have zF : (upd (upd H1 D (.dK [])) Fl (.lst [.ref D, .str ""])) Fl = some (.lst [.ref D, .str ""]) := upd_same
  generalize upd (upd H1 D (.dK [])) Fl (.lst [.ref D, .str ""]) = H2 at v2 zD x2 zF
  have un2 := un1.ext x2
  have hp2 := hp1.ext x2
  clear un1 hp1 v1 w2
  have g2 := un2.bD0
  have g4 := un2.bJ0
  refine ⟨u.m, u.d, u.l, u.s, u.us, u.W, Fl, D, m, g, rfl, un2.md, un2.em, un2.ok, ⟨by rw [hJ0]; exact zF, by rw [hD0]; exact zD⟩, hm, hg, by omega, by omega, fun m' d' l' H3 nm nd nl md3 x3 => ?_⟩
  have v3 := v2.more x3 (all3 nm nd nl) md3.three.1 md3.three.2
  have un3 := un2.ext x3
  have hp3 := hp2.ext x3
  clear un2 hp2 v2 nm nd nl x2
  try walk_at "rn"
  refine ⟨_, _, un3.sh.ins, fs_no (by decide +kernel) (by decide +kernel) (by decide +kernel) (by decide +kernel) (by decide +kernel), u.p, u.dx, u.a1, u.a2, u.a3, u.s, u.ws, u.W, m, g, rfl, un3.sh, un3.en, hm, hg, by omega, by omega, fun p' dx' a1' a2' a3' H4 np n1 n2 n3 sh4 x4 => ?_⟩
  have v4 := v3.more x4 (all4 np n1 n2 n3) sh4.four.1 sh4.four.2
  have un4 := un3.ext x4
  have hp4 := hp3.ext x4
  have md4 := md3.ext x4
  clear un3 hp3 v3 np n1 n2 n3 x3 x4 md3
  simp only [List.nil_append, List.cons_append] at v4
  obtain ⟨o, uo4, rfl, rfl, fo⟩ := cut_unit un4 v4 hm hg sh4 md4
  have dj : Dj o.fp (st :: u.fp) := fun x hx => v4.apart gl0 x (fo x hx)
  generalize [D, Fl, o.m, d', l', o.p, a1', a2', a3'] = A4 at v4 fo
  have apo : st ∉ o.fp := fun h => dj st h List.mem_cons_self
  have djo : Dj o.fp u.fp := fun x hx h => dj x hx (List.mem_cons_of_mem _ h)
  clear sh4 md4 gl0 dj
  refine uo4.same (by omega) fun H5 x5 => ⟨_, rfl, ?_⟩
  rw [if_neg (by decide)]
  refine (un4.ext x5).same (by omega) fun H6 x6 => ⟨_, rfl, ?_⟩
  rw [if_neg (by decide)]
  have x46 := x5.trans x6
  have un6 := un4.ext x46
  have uo6 := uo4.ext x46
  have hp6 := hp4.ext x46
  have v6 := v4.ext x46
  clear un4 uo4 hp4 v4 x46 x5 x6
  refine ⟨st, rfl, hp6, fun w e H7 ok te hp7 k7 => ?_⟩
  have un7 := un6.kp k7 hp6 ap
  have uo7 := uo6.kp k7 hp6 apo
  have v7 := v6.touch (KpL.of k7) (by simp) (by simpa using hp7.live)
  clear un6 uo6 hp6 v6 k7
  have g5 := uo7.bD
  have g6 := uo7.bD0
  have g7 := uo7.bJ
  refine ⟨o.m, o.d, o.l, o.s, o.us, w, e, rfl, uo7.md, te, ok, by omega, by omega, by rw [uo7.em.1]; omega, fun H8 md8 k8 => ?_⟩
  refine ⟨o.p, o.dx, o.a1, o.a2, o.a3, o.s, o.ws, w, e, rfl, uo7.md_sh k8, k8.tup uo7.md_noTup te, ok, by omega, by omega, by rw [uo7.en.1]; omega, fun b' H9 nb tb sh9 k9 => ⟨_, rfl, ?_⟩⟩
  rw [if_neg (by decide)]
  obtain ⟨o', uo9, efp, ep, em, _, _, kk⟩ := uo7.wrote ok te md8 k8 tb sh9 k9
  have un9 := un7.keep kk uo7.noTup djo.symm (Nat.le_refl _)
  have hp9 := hp7.keep kk apo
  have v9 := v7.touch kk (fun x hx => .inl (fo x hx)) (by rw [← efp]; exact uo9.live)
  rw [← efp] at apo djo
  clear un7 uo7 hp7 v7 kk md8 k8 sh9 k9 tb te nb g5 g6 g7
  rw [← ep, ← em]
  refine uo9.same (by omega) fun H10 x10 => ⟨_, rfl, ?_⟩
  rw [if_neg (by decide)]
  refine (un9.ext x10).same (by omega) fun H11 x11 => ⟨_, rfl, ?_⟩
  rw [if_neg (by decide)]
  have x911 := x10.trans x11
  have un11 := un9.ext x911
  have uo11 := uo9.ext x911
  have hp11 := hp9.ext x911
  have v11 := v9.ext x911
  clear un9 uo9 hp9 v9 x911 x10 x11
  refine ⟨st, rfl, hp11, fun w2 e2 H12 ok2 te2 hp12 k12 => ?_⟩
  have un12 := un11.kp k12 hp11 ap
  have uo12 := uo11.kp k12 hp11 apo
  have v12 := v11.touch (KpL.of k12) (by simp) (by simpa using hp12.live)
  clear un11 uo11 hp11 v11 k12
  have g5 := un12.bD
  have g6 := un12.bD0
  have g7 := un12.bJ
  refine ⟨u.m, u.d, u.l, u.s, u.us, w2, e2, rfl, un12.md, te2, ok2, by omega, by omega, by rw [un12.em.1]; omega, fun H13 md13 k13 => ?_⟩
  refine ⟨u.p, u.dx, u.a1, u.a2, u.a3, u.s, u.ws, w2, e2, rfl, un12.md_sh k13, k13.tup un12.md_noTup te2, ok2, by omega, by omega, by rw [un12.en.1]; omega, fun b2 H14 nb2 tb2 sh14 k14 => ⟨_, rfl, ?_⟩⟩
  rw [if_pos rfl]
  obtain ⟨u', un14, efu, epu, emu, e0, j0, kk⟩ := un12.wrote ok2 te2 md13 k13 tb2 sh14 k14
  have uo14 := uo12.keep kk un12.noTup djo (Nat.le_refl _)
  have hp14 := hp12.keep kk ap
  have v14 := v12.touch kk (fun x hx => .inr (List.mem_cons_of_mem _ hx)) (by rw [← efu]; exact un14.live)
  clear un12 uo12 hp12 v12 kk md13 k13 sh14 k14 tb2 te2 nb2 g5 g6 g7
  refine uo14.same (by omega) fun H15 x15 => ⟨_, rfl, ?_⟩
  rw [if_pos rfl]
  rw [← epu, ← emu]
  refine (un14.ext x15).same (by omega) fun H16 x16 => ?_
  have x17 := x15.trans x16
  exact q u' H16 (un14.ext x17) efu epu emu (e0.trans hD0) (j0.trans hJ0) (hp14.ext x17) (v14.ext x17).kp
end
section
variable {P : Program} {w : World} {K : PySem.W.Frag} {mg : Str → Option Value} {base : Heap}
theorem sc_law : FnScope ["_law_script", "_law_shelf", "_law_model", "_law_k", "_law_write_here", "_law_state", "_law_many", "_law_signs"] ["_law_script"] (defScope s_law) := ⟨rfl, rfl, rfl, by decide +kernel, rfl, by decide +kernel, by decide +kernel⟩
def spLaw (K : PySem.W.Frag) : Sp := fun vs H Q _ => ∃ (a : Addr) (ns : List Int), vs = [.ref a] ∧ SqL K H a (ns.map V.int) ∧ ns.length ≤ 63 ∧ Only H ∧ ∀ H', Q (.bl true) H'
structure One (K : PySem.W.Frag) (a : Addr) (ns : List Int) (C p m : Addr) (H : Hp) (n : Nat) (u : Un) : Prop where
  un : UnAt K H C n u
  ep : u.p = p
  em : u.m = m
  d0 : u.s.D0 = []
  j0 : u.s.J0 = ""
  sc : Scr K H a ns
theorem One.ext {a : Addr} {ns : List Int} {C p m : Addr} {H H' : Hp} {n : Nat} {u : Un} (A : One K a ns C p m H n u) (x : Ext K H H') : One K a ns C p m H' n u :=
  ⟨A.un.ext x, A.ep, A.em, A.d0, A.j0, A.sc.keep (Ext.kpl x) (fun _ h => by cases h)⟩
theorem One.kp {a : Addr} {ns : List Int} {C p m st : Addr} {H H' : Hp} {n : Nat} {u : Un} (A : One K a ns C p m H n u) (k : Kp K st H H') (hp : Wl H st) (ap : st ∉ u.fp) : One K a ns C p m H' n u :=
  ⟨A.un.kp k hp ap, A.ep, A.em, A.d0, A.j0, A.sc.keep (KpL.of k) hp.noTup⟩
theorem cut_unit0 {C m' d' l' p' dx' a1' a2' a3' : Addr} {H : Hp} {u : Un} {n m g : Nat} (sm : ∀ e ∈ u.W, e.small) (g2 : u.s.D0.length + u.W.length ≤ n) (g4 : u.s.J0.length + 101 * u.W.length ≤ 101 * n) (hm : m ≤ u.W.length) (hg : g ≤ mostOf u.W m)
    (sh : ShAt K H C p' dx' a1' a2' a3' (u.s.after u.W m g) []) (md : MdAt H m' d' l' (u.s.after u.W m g) []) (nd : [p', a1', a2', a3', m', d', l'].Nodup) : UnAt K H C n ⟨p', dx', a1', a2', a3', m', d', l', [], [], u.s.after u.W m g, []⟩ := by
  have af := u.s.after_le (W := u.W) sm hm hg
  refine ⟨sh, md, ents0, ents0, (fun _ h => by cases h), nd, ?_, ?_, ?_, ?_⟩
  · show (u.s.after u.W m g).D.length ≤ n
    omega
  · show (u.s.after u.W m g).D.length + 0 ≤ n
    omega
  · show (u.s.after u.W m g).J.length ≤ 101 * n
    omega
  · show (u.s.after u.W m g).J.length + 101 * 0 ≤ 101 * n
    omega
theorem ok_law {f cShelf : Addr} {fd : FuncData} (F : Fun K "law" "law" s_law f fd) {cF cN cC : Addr} {tP : Tok} (B : B K mg cF cN cC tP)
    (C__law_cell_at : Callee P w K mg base "_law_cell_at" 1 ["_law_script", "_law_k"] (spCell K)) (C__law_digit : Callee P w K mg base "_law_digit" 1 ["_law_state", "_law_base"] (spDigit K)) (C__law_write : Callee P w K mg base "_law_write" 3 ["_law_state"] (spWriteL K)) (C__law_put : Callee P w K mg base "_law_put" 1 ["_law_model", "_law_write_here"] (spPutM K)) (C__law_put_down : Callee P w K mg base "_law_put_down" 4 ["_law_shelf", "_law_write_here"] (spPD K cShelf)) (C__law_same : Callee P w K mg base "_law_same" 4 ["_law_shelf", "_law_model"] (spSame K cShelf))
    (C__law_no_cuts : Callee P w K mg base "_law_no_cuts" 2 ["_law_state", "_law_model"] (spNoCuts K)) (C__law_refused : Callee P w K mg base "_law_refused" 4 ["_law_shelf", "_law_many", "_law_signs"] (spRefused K cShelf)) (C__law_holds : Callee P w K mg base "_law_holds" 5 ["_law_state", "_law_shelf", "_law_model"] (spHolds K cShelf)) (C__law_where : Callee P w K mg base "_law_where" 2 ["_law_state", "_law_model"] (spWhere K)) (C__law_cut : Callee P w K mg base "_law_cut" 2 ["_law_model", "_law_first", "_law_many", "_law_signs"] (spCut K)) (MC_Shelf_after : MethC P w K mg base cShelf "after" 3 ["self", "many", "signs"] [] (spAfter K cShelf)) (M_Shelf : Maker P w K mg base "Shelf" 1 ["self"] [] cShelf (spInitS cShelf K)) (c_Shelf : Cls K cShelf) : FnOk P w K mg base CX0 6 f fd ["_law_script"] (spLaw K) := by
  refine F.okJ sc_law (fun vs H Q E h => ?_) (fun cdv A outer s H vs Q E hr h => ?_)
  · obtain ⟨a, ns, rfl, _⟩ := h
    rfl
  obtain ⟨a, ns, rfl, hs, hl, on, q⟩ := h
  refine ⟨_, (bcons (sset (i := 1) sc_law.nd rfl (Or.inl rfl) (emake0 M_Shelf (hr.mono (by decide)) rfl))
      (bcons (sset (i := 2) sc_law.nd rfl (Or.inl rfl) (elstQ (acons ednewQ (acons estr (acons (elstQ anil) anil)))))
      (bcons (sfor PassesOwn.never rfl (irange2 rfl B.range (acons ei (acons (ecallB (call_min2 rfl) rfl B.min bt_min (acons ei (acons (ecallB call_len_seq rfl B.len bt_len (acons (ev 0) anil)) anil))) anil))) (gname (i := 3) sc_law.nd rfl (Or.inl rfl))
        (bcons (sset (i := 4) sc_law.nd rfl (Or.inl rfl) (ecall C__law_write (hr.mono (by decide)) rfl (acons (elstQ (acons (eop op_add (ecall C__law_cell_at (hr.mono (by decide)) rfl (acons (ev 0) (acons (ev 3) anil))) (ev 3)) anil)) anil)))
      (bcons (sexpr (ecall C__law_put (hr.mono (by decide)) rfl (acons (ev 2) (acons (ev 4) anil))))
      (bone (sif (tnot (tval (ecall C__law_put_down (hr.mono (by decide)) rfl (acons (ev 1) (acons (ev 4) anil))))) (bone (sret ebl)) bnil)))))
      (bcons (sset (i := 5) sc_law.nd rfl (Or.inl rfl) (elstQ (acons (ecall C__law_cell_at (hr.mono (by decide)) rfl (acons (ev 0) (acons ei anil))) anil)))
      (bcons (sfor PassesOwn.never rfl (ilist (ecall C__law_no_cuts (hr.mono (by decide)) rfl (acons (ev 5) (acons (ev 2) anil)))) (gtupQ (n := 2) rfl (gcons (gname (i := 6) sc_law.nd rfl (Or.inl rfl)) (gcons (gname (i := 7) sc_law.nd rfl (Or.inl rfl)) gnil)))
        (bone (sif (tnot (tval (ecall C__law_refused (hr.mono (by decide)) rfl (acons (ev 1) (acons (ev 6) (acons (ev 7) anil)))))) (bone (sret ebl)) bnil)))
      (bcons (sfor PassesOwn.never rfl (irange1 rfl B.range (acons (eop op_add ei (ecall C__law_digit (hr.mono (by decide)) rfl (acons (ev 5) (acons ei anil)))) anil)) (gname (i := 3) sc_law.nd rfl (Or.inl rfl))
        (bone (sif (tnot (tval (ecall C__law_holds (hr.mono (by decide)) rfl (acons (ev 5) (acons (ev 1) (acons (ev 2) anil)))))) (bone (sret ebl)) bnil)))
      (bcons (sasg (ecall C__law_where (hr.mono (by decide)) rfl (acons (ev 5) (acons (ev 2) anil))) (gtupQ (n := 2) rfl (gcons (gname (i := 6) sc_law.nd rfl (Or.inl rfl)) (gcons (gname (i := 7) sc_law.nd rfl (Or.inl rfl)) gnil))))
      (bone (sret (ecall C__law_same (hr.mono (by decide)) rfl (acons (emeth MC_Shelf_after c_Shelf (hr.mono (by decide)) (ev 1) (acons (ev 6) (acons (ev 7) anil))) (acons (ecall C__law_cut (hr.mono (by decide)) rfl (acons (ev 2) (acons (elstQ (acons ednewQ (acons estr anil))) (acons (ev 6) (acons (ev 7) anil))))) anil)))))))))))), ?_⟩
  try walk_at "rn"
  intro x dx nx ndx ne
  refine ⟨x, dx, rfl, upd_same, fun b1 b2 b3 Ha n1 n2 n3 m12 m13 m23 hx h1 h2 h3 kp => ⟨rfl, ?_⟩⟩
  have va := made_live (.nil (K := K) (G := []) (by simp)) nx ndx ne kp n1 n2 n3 m12 m13 m23 hx h1 h2 h3
  have sa : ShAt K Ha cShelf x dx b1 b2 b3 sh0 [] := ⟨hx, h1, h2, h3, m13⟩
  have sc := (Scr.of hs on).keep (Ext.kpl (made_ext nx ndx ne kp)) (fun _ h => by cases h)
  intro D nD L nL M nM
  have vl := ((va.add nD).add nL).add (o := .lst [.ref D, .str "", .ref L]) nM
  have w3 := Ext.new (K := K) (o := .lst [.ref D, .str "", .ref L]) nM
  have zL := w3.same _ _ (upd_same (a := L))
  have w2 := (Ext.new nL).trans w3
  have zD := w2.same _ _ (upd_same (a := D))
  have w1 := (Ext.new nD).trans w2
  have sa := sa.ext w1
  have sc := sc.keep (Ext.kpl w1) (fun _ h => by cases h)
  have zM : (upd (upd (upd Ha D (.dK [])) L (.lst [])) M (.lst [.ref D, .str "", .ref L])) M = some (.lst [.ref D, .str "", .ref L]) := upd_same
  generalize (upd (upd (upd Ha D (.dK [])) L (.lst [])) M (.lst [.ref D, .str "", .ref L])) = Hb at vl zL zD zM sa sc
  simp only [List.nil_append, List.cons_append] at vl
  have A0 : One K a ns cShelf x M Hb 0 ⟨x, dx, b1, b2, b3, M, D, L, [], [], sh0, []⟩ := by
    obtain ⟨tg, t0, t1, t2, t3, t4, t5, t6⟩ : ∃ tg : Addr → Nat, tg x = 0 ∧ tg b1 = 1 ∧ tg b2 = 2 ∧ tg b3 = 3 ∧ tg D = 4 ∧ tg L = 5 ∧ tg M = 6 := ⟨fun y => List.idxOf y [x, b1, b2, b3, D, L, M], tag_at vl.nd (i := 0) rfl, tag_at vl.nd (i := 1) rfl, tag_at vl.nd (i := 2) rfl, tag_at vl.nd (i := 3) rfl, tag_at vl.nd (i := 4) rfl, tag_at vl.nd (i := 5) rfl, tag_at vl.nd (i := 6) rfl⟩
    have k0 : [x, b1, b2, b3, M, D, L].map tg = [0, 1, 2, 3, 6, 4, 5] := by simp only [List.map, t0, t1, t2, t3, t4, t5, t6]
    have ml : M ≠ L := fun z => by rw [z, t5] at t6; cases t6
    exact ⟨⟨sa, ⟨zM, zD, zL, ml⟩, ents0, ents0, (fun _ h => by cases h), nd_tag k0 (by decide), Nat.le_refl _, Nat.le_refl _, Nat.le_refl _, Nat.le_refl _⟩, rfl, rfl, rfl, rfl, sc⟩
  clear vl zL zD zM sa w1 w2 w3 va
  have sz := sizeLine_eq
  refine ⟨_, .inl sc.sq, by split <;> omega, by split <;> omega, ?_⟩
  have h60 : ((if ((ns.map V.int).length : Int) < 60 then ((ns.map V.int).length : Int) else 60) - 1).toNat ≤ 59 := by split <;> omega
  generalize ((if ((ns.map V.int).length : Int) < 60 then ((ns.map V.int).length : Int) else 60) - 1).toNat = turns at h60
  refine loop_range (fun i σ' H' => ∃ (u : Un) (v3 v4 : Option V), σ' = [some (.ref a), some (.ref x), some (.ref M), v3, v4, none, none, none] ∧ One K a ns cShelf x M H' i u) ⟨_, _, _, rfl, A0⟩ ?_ ?_
  · rintro i σ' H1 hi ⟨u, v3, v4, rfl, A1⟩
    try walk_at "rn"
    refine ⟨a, ns, _, rfl, A1.sc.sq, by omega, fun c => ?_⟩
    try walk_at "rn"
    intro st nst
    refine ⟨st, rfl, .inl ⟨_, upd_same⟩, fun w e H2 ok te hp2 k2 => ?_⟩
    have A2 := A1.ext (k2.ext nst)
    have un := A2.un
    have g5 := un.bD
    have g6 := un.bD0
    have g7 := un.bJ
    try walk_at "rn"
    refine ⟨u.m, u.d, u.l, u.s, u.us, w, e, by rw [A2.em], un.md, te, ok, by omega, by omega, by rw [un.em.1]; omega, fun H3 md3 k3 => ?_⟩
    refine ⟨u.p, u.dx, u.a1, u.a2, u.a3, u.s, u.ws, w, e, by rw [A2.ep], un.md_sh k3, k3.tup un.md_noTup te, ok, by omega, by omega, by rw [un.en.1]; omega, fun b' H4 nb tb sh4 k4 => ⟨_, rfl, ?_⟩⟩
    rw [if_neg (by decide)]
    obtain ⟨u', un4, efu, epu, emu, e0, j0, kk⟩ := un.wrote ok te md3 k3 tb sh4 k4
    exact ⟨u', un4, epu.trans A2.ep, emu.trans A2.em, e0.trans A2.d0, j0.trans A2.j0, A2.sc.keep kk un.noTup⟩
  rintro σ' H1 ⟨u, v3, v4, rfl, A1⟩
  clear A0 sc
  try walk_at "rn"
  refine ⟨a, ns, 0, rfl, A1.sc.sq, by decide, fun c => ?_⟩
  try walk_at "rn"
  intro st nst
  have ap : st ∉ u.fp := fun h => by
    obtain ⟨o, e⟩ := A1.un.live _ h
    rw [nst.1] at e
    cases e
  have A2 := A1.ext (.new (o := .lst [.int c]) nst)
  have hp2 : Wl (upd H1 st (.lst [.int c])) st := .inl ⟨_, upd_same⟩
  generalize upd H1 st (.lst [.int c]) = H2 at A2 hp2
  clear A1 nst
  have g6 := A2.un.bD0
  refine ⟨st, u.m, u.d, u.l, u.s, u.us, u.W, by rw [A2.em], hp2, A2.un.md, A2.un.em, A2.un.ok, by omega, (fun z => ap (z ▸ UnAt.m_mem u)), (fun z => ap (z ▸ UnAt.l_mem u)), fun Lc ts H3 zLc cu hp3 k3 => ?_⟩
  have A3 := A2.kp k3 hp2 ap
  clear A2 hp2 k3
  refine ⟨_, rfl, ⟨_, SqL.of zLc⟩, ?_⟩
  refine loop_list (xs := ts.map V.ref) (fun i σ' H' => ∃ (v6 v7 : Option V), σ' = [some (.ref a), some (.ref x), some (.ref M), v3, v4, some (.ref st), v6, v7] ∧ Ext K H3 H') ⟨_, _, rfl, .refl⟩ ?_ ?_ ?_
  · rintro i σ' H' _ ⟨v6, v7, rfl, x4⟩
    exact SqL.of (x4.same _ _ zLc)
  · rintro i y σ' H' hy ⟨v6, v7, rfl, x4⟩
    rw [List.getElem?_map] at hy
    obtain ⟨t, et, rfl⟩ := Option.map_eq_some_iff.1 hy
    obtain ⟨vv, uu, tu, bad⟩ := cu t (List.mem_of_getElem? et)
    have A4 := A3.ext x4
    try walk_at "rn"
    refine ⟨_, x4.tup tu, rfl, _, _, rfl, _, _, rfl, rfl, u.p, u.dx, u.a1, u.a2, u.a3, u.s, u.ws, u.W, vv, uu, by rw [A4.ep], A4.un.sh, A4.un.en, bad, fun H5 x5 => ⟨_, rfl, ?_⟩⟩
    rw [if_neg (by decide)]
    exact x4.trans x5
  rintro σ' H4 ⟨v6, v7, rfl, x4⟩
  have A4 := A3.ext x4
  have hp4 := hp3.ext x4
  clear A3 hp3 cu zLc x4
  try walk_at "rn"
  refine ⟨st, 3, rfl, hp4, by decide, by decide, fun d H5 d0 d1 hp5 k5 => ?_⟩
  have A5 := A4.kp k5 hp4 ap
  clear A4 hp4 k5
  try walk_at "rn"
  refine ⟨by omega, by omega, ?_⟩
  have h3 : (1 + d).toNat ≤ 3 := by omega
  generalize (1 + d).toNat = more at h3
  refine loop_range (fun i σ' H' => ∃ (u' : Un) (v3 : Option V), σ' = [some (.ref a), some (.ref x), some (.ref M), v3, v4, some (.ref st), v6, v7] ∧ One K a ns cShelf x M H' (turns + i) u' ∧ Wl H' st ∧ st ∉ u'.fp) ⟨u, _, rfl, A5, hp5, ap⟩ ?_ ?_
  · rintro i σ' H6 hi ⟨u', v3, rfl, A6, hp6, ap6⟩
    try walk_at "rn"
    refine ⟨st, u', turns + i, by rw [A6.ep, A6.em], hp6, A6.un, by omega, A6.d0, A6.j0, ap6, fun u2 H7 un7 ef ep em e0 j0 hp7 k7 => ⟨_, rfl, ?_⟩⟩
    rw [if_neg (by decide)]
    have nt : NoTup H6 (st :: u'.fp) := fun y hy => by
      rcases List.mem_cons.1 hy with h | h
      · rw [h]; exact hp6.noTup st (by simp)
      · exact A6.un.noTup y h
    exact ⟨u2, ⟨un7, ep.trans A6.ep, em.trans A6.em, e0, j0, A6.sc.keep k7 nt⟩, hp7, by rw [ef]; exact ap6⟩
  rintro σ' H6 ⟨u', v3, rfl, A6, hp6, ap6⟩
  clear A5 hp5 ap
  try walk_at "rn"
  have g6 := A6.un.bD0
  have g4 := A6.un.bJ0
  refine ⟨st, u'.m, u'.d, u'.l, u'.s, u'.us, u'.W, by rw [A6.em], hp6, A6.un.md, A6.un.em, A6.un.ok, by omega, (fun z => ap6 (z ▸ UnAt.m_mem u')), (fun z => ap6 (z ▸ UnAt.l_mem u')), fun m g T H7 hm hg hT hp7 k7 => ?_⟩
  have A7 := A6.kp k7 hp6 ap6
  clear A6 hp6 k7
  try walk_at "rn"
  have sh7 := A7.un.sh
  rw [A7.ep] at sh7
  refine ⟨_, hT, rfl, _, _, rfl, _, _, rfl, rfl, _, _, sh7.ins, fs_no (by decide +kernel) (by decide +kernel) (by decide +kernel) (by decide +kernel) (by decide +kernel), x, u'.dx, u'.a1, u'.a2, u'.a3, u'.s, u'.ws, u'.W, m, g, rfl, sh7, A7.un.en, hm, hg, by omega, by omega, fun p' dx' a1' a2' a3' H8 np n1 n2 n3 sh8 x8 D nD Fl nF => ?_⟩
  have v0 : Live K [] H7 [] H7 := .nil (by simp)
  have v8 := ((v0.more x8 (all4 np n1 n2 n3) sh8.four.1 sh8.four.2).add nD).add (o := .lst [.ref D, .str ""]) nF
  have w2 := Ext.new (K := K) (o := .lst [.ref D, .str ""]) nF
  have zD := w2.same _ _ (upd_same (a := D))
  have x9 := (Ext.new nD).trans w2
  have zF : (upd (upd H8 D (.dK [])) Fl (.lst [.ref D, .str ""])) Fl = some (.lst [.ref D, .str ""]) := upd_same
  generalize upd (upd H8 D (.dK [])) Fl (.lst [.ref D, .str ""]) = H9 at v8 zD x9 zF
  have A9 := A7.ext (x8.trans x9)
  have sh9 := sh8.ext x9
  clear A7 sh7 sh8 w2 np n1 n2 n3 v0
  refine ⟨u'.m, u'.d, u'.l, u'.s, u'.us, u'.W, Fl, D, m, g, by rw [A9.em], A9.un.md, A9.un.em, A9.un.ok, ⟨by rw [A9.j0]; exact zF, by rw [A9.d0]; exact zD⟩, hm, hg, by omega, by omega, fun m' d' l' H10 nm nd nl md10 x10 => ?_⟩
  have v10 := v8.more x10 (all3 nm nd nl) md10.three.1 md10.three.2
  simp only [List.nil_append, List.cons_append] at v10
  obtain ⟨tg, t0, t1, t2, t3, t6, t7, t8⟩ : ∃ tg : Addr → Nat, tg p' = 0 ∧ tg a1' = 1 ∧ tg a2' = 2 ∧ tg a3' = 3 ∧ tg m' = 6 ∧ tg d' = 7 ∧ tg l' = 8 := ⟨fun y => List.idxOf y [p', a1', a2', a3', D, Fl, m', d', l'], tag_at v10.nd (i := 0) rfl, tag_at v10.nd (i := 1) rfl, tag_at v10.nd (i := 2) rfl, tag_at v10.nd (i := 3) rfl, tag_at v10.nd (i := 6) rfl, tag_at v10.nd (i := 7) rfl, tag_at v10.nd (i := 8) rfl⟩
  have k0 : [p', a1', a2', a3', m', d', l'].map tg = [0, 1, 2, 3, 6, 7, 8] := by simp only [List.map, t0, t1, t2, t3, t6, t7, t8]
  have uo := cut_unit0 A9.un.en.smalls g6 g4 hm hg (sh9.ext x10) md10 (nd_tag k0 (by decide))
  exact uo.same (by omega) fun H11 x11 => q H11
end
theorem all_mk {l : PySem.W.OpenLaw} {w : World} {K : PySem.W.Frag} {h : Heap} {mg : Str → Option Value} {fa f1 f2 f3 f4 f5 f6 f7 f8 f9 f10 f11 f12 f13 f14 f15 f16 f17 f18 f19 f20 f21 f22 f23 f24 f25 f26 f27 f28 f29 : Addr} {od1 an1 od2 an2 od3 an3 od4 an4 od5 an5 od6 an6 od7 an7 od8 an8 od9 an9 od10 an10 od11 an11 od12 an12 od13 an13 od14 an14 od15 an15 od16 an16 od17 an17 od18 an18 od19 an19 od20 an20 od21 an21 od22 an22 od23 an23 od24 an24 od25 an25 od26 an26 od27 an27 od28 an28 od29 an29 : Option Addr} {sl1 sl2 sl3 sl4 sl5 sl6 sl7 sl8 sl9 sl10 sl11 sl12 sl13 sl14 sl15 sl16 sl17 sl18 sl19 sl20 sl21 sl22 sl23 sl24 sl25 sl26 sl27 sl28 sl29 : Array (Option Value)} {oc1 kV1 dc1 pm1 cd1 ct1 oc2 kV2 dc2 pm2 cd2 ct2 oc3 kV3 dc3 pm3 cd3 ct3 oc4 kV4 dc4 pm4 cd4 ct4 oc5 kV5 dc5 pm5 cd5 ct5 oc6 kV6 dc6 pm6 cd6 ct6 oc7 kV7 dc7 pm7 cd7 ct7 oc8 kV8 dc8 pm8 cd8 ct8 oc9 kV9 dc9 pm9 cd9 ct9 oc10 kV10 dc10 pm10 cd10 ct10 oc11 kV11 dc11 pm11 cd11 ct11 oc12 kV12 dc12 pm12 cd12 ct12 oc13 kV13 dc13 pm13 cd13 ct13 oc14 kV14 dc14 pm14 cd14 ct14 oc15 kV15 dc15 pm15 cd15 ct15 oc16 kV16 dc16 pm16 cd16 ct16 oc17 kV17 dc17 pm17 cd17 ct17 oc18 kV18 dc18 pm18 cd18 ct18 oc19 kV19 dc19 pm19 cd19 ct19 oc20 kV20 dc20 pm20 cd20 ct20 oc21 kV21 dc21 pm21 cd21 ct21 oc22 kV22 dc22 pm22 cd22 ct22 oc23 kV23 dc23 pm23 cd23 ct23 oc24 kV24 dc24 pm24 cd24 ct24 oc25 kV25 dc25 pm25 cd25 ct25 oc26 kV26 dc26 pm26 cd26 ct26 oc27 kV27 dc27 pm27 cd27 ct27 oc28 kV28 dc28 pm28 cd28 ct28 oc29 kV29 dc29 pm29 cd29 ct29 : Value} {tP : Tok} {cF : Addr} {cN : Addr} {cC : Addr} {cShelf : Addr} {coN : Value} {doN : Option Addr} {cdN : ClassData} {slN : Array (Option Value)} (X : K.In h) (G : h.Ns mainGlobals mg) (hfa : mg "law" = some (.ref fa))
    (na_Shelf_diary : PySem.W.findIn K (.ref cShelf) "diary" = some none)
    (na_Shelf_first_diary : PySem.W.findIn K (.ref cShelf) "first_diary" = some none)
    (na_Shelf_first_sheets : PySem.W.findIn K (.ref cShelf) "first_sheets" = some none)
    (na_Shelf_sheets : PySem.W.findIn K (.ref cShelf) "sheets" = some none)
    (na_Shelf_writes : PySem.W.findIn K (.ref cShelf) "writes" = some none)
    (qa_Shelf : PySem.W.plainGet K cShelf Str.empty = true) (qb_Shelf : PySem.W.hasDictIn K cShelf = true) (qc_Shelf : PySem.W.plainOver K cShelf = true) (qd_Shelf : PySem.W.findIn K (.ref cShelf) "__setattr__" = some (some (.builtin "object.__setattr__")))
    (qm_Shelf : PySem.W.makesIn K cShelf = true) (qk_Shelf : PySem.W.keepIn K (.ref cShelf) = true)
    (a1 : PySem.W.nsIn K mainGlobals "is_number" = some (some (.ref f1))) (l1 : K.lookup f1 = some ⟨oc1, od1, .func (PySem.W.fnOf "is_number" "is_number" (defArgs s_is_number) (defBody s_is_number) (defScope s_is_number) .none kV1 dc1 pm1 an1 cd1 ct1), sl1⟩) (c1 : PySem.W.codeIn K cd1 "is_number" = true) (k1 : PySem.W.keepIn K (.ref f1) = true)
    (a2 : PySem.W.nsIn K mainGlobals "is_whole" = some (some (.ref f2))) (l2 : K.lookup f2 = some ⟨oc2, od2, .func (PySem.W.fnOf "is_whole" "is_whole" (defArgs s_is_whole) (defBody s_is_whole) (defScope s_is_whole) .none kV2 dc2 pm2 an2 cd2 ct2), sl2⟩) (c2 : PySem.W.codeIn K cd2 "is_whole" = true) (k2 : PySem.W.keepIn K (.ref f2) = true)
    (a3 : PySem.W.nsIn K mainGlobals "signs_of" = some (some (.ref f3))) (l3 : K.lookup f3 = some ⟨oc3, od3, .func (PySem.W.fnOf "signs_of" "signs_of" (defArgs s_signs_of) (defBody s_signs_of) (defScope s_signs_of) .none kV3 dc3 pm3 an3 cd3 ct3), sl3⟩) (c3 : PySem.W.codeIn K cd3 "signs_of" = true) (k3 : PySem.W.keepIn K (.ref f3) = true)
    (i4 : PySem.W.findIn K (.ref cShelf) "__init__" = some (some (.ref f4))) (l4 : K.lookup f4 = some ⟨oc4, od4, .func (PySem.W.fnOf "__init__" "Shelf.__init__" (defArgs s_Shelf___init__) (defBody s_Shelf___init__) (defScope s_Shelf___init__) .none kV4 dc4 pm4 an4 cd4 ct4), sl4⟩) (c4 : PySem.W.codeIn K cd4 "Shelf.__init__" = true) (k4 : PySem.W.keepIn K (.ref f4) = true) (n4 : PySem.W.isFn K (.ref f4) = true)
    (i5 : PySem.W.findIn K (.ref cShelf) "carry_out" = some (some (.ref f5))) (l5 : K.lookup f5 = some ⟨oc5, od5, .func (PySem.W.fnOf "carry_out" "Shelf.carry_out" (defArgs s_Shelf_carry_out) (defBody s_Shelf_carry_out) (defScope s_Shelf_carry_out) .none kV5 dc5 pm5 an5 cd5 ct5), sl5⟩) (c5 : PySem.W.codeIn K cd5 "Shelf.carry_out" = true) (k5 : PySem.W.keepIn K (.ref f5) = true) (n5 : PySem.W.isFn K (.ref f5) = true)
    (i6 : PySem.W.findIn K (.ref cShelf) "put_down" = some (some (.ref f6))) (l6 : K.lookup f6 = some ⟨oc6, od6, .func (PySem.W.fnOf "put_down" "Shelf.put_down" (defArgs s_Shelf_put_down) (defBody s_Shelf_put_down) (defScope s_Shelf_put_down) .none kV6 dc6 pm6 an6 cd6 ct6), sl6⟩) (c6 : PySem.W.codeIn K cd6 "Shelf.put_down" = true) (k6 : PySem.W.keepIn K (.ref f6) = true) (n6 : PySem.W.isFn K (.ref f6) = true)
    (i7 : PySem.W.findIn K (.ref cShelf) "write" = some (some (.ref f7))) (l7 : K.lookup f7 = some ⟨oc7, od7, .func (PySem.W.fnOf "write" "Shelf.write" (defArgs s_Shelf_write) (defBody s_Shelf_write) (defScope s_Shelf_write) .none kV7 dc7 pm7 an7 cd7 ct7), sl7⟩) (c7 : PySem.W.codeIn K cd7 "Shelf.write" = true) (k7 : PySem.W.keepIn K (.ref f7) = true) (n7 : PySem.W.isFn K (.ref f7) = true)
    (i8 : PySem.W.findIn K (.ref cShelf) "line" = some (some (.ref f8))) (l8 : K.lookup f8 = some ⟨oc8, od8, .func (PySem.W.fnOf "line" "Shelf.line" (defArgs s_Shelf_line) (defBody s_Shelf_line) (defScope s_Shelf_line) .none kV8 dc8 pm8 an8 cd8 ct8), sl8⟩) (c8 : PySem.W.codeIn K cd8 "Shelf.line" = true) (k8 : PySem.W.keepIn K (.ref f8) = true) (n8 : PySem.W.isFn K (.ref f8) = true)
    (i9 : PySem.W.findIn K (.ref cShelf) "blot" = some (some (.ref f9))) (l9 : K.lookup f9 = some ⟨oc9, od9, .func (PySem.W.fnOf "blot" "Shelf.blot" (defArgs s_Shelf_blot) (defBody s_Shelf_blot) (defScope s_Shelf_blot) .none kV9 dc9 pm9 an9 cd9 ct9), sl9⟩) (c9 : PySem.W.codeIn K cd9 "Shelf.blot" = true) (k9 : PySem.W.keepIn K (.ref f9) = true) (n9 : PySem.W.isFn K (.ref f9) = true)
    (i10 : PySem.W.findIn K (.ref cShelf) "page" = some (some (.ref f10))) (l10 : K.lookup f10 = some ⟨oc10, od10, .func (PySem.W.fnOf "page" "Shelf.page" (defArgs s_Shelf_page) (defBody s_Shelf_page) (defScope s_Shelf_page) .none kV10 dc10 pm10 an10 cd10 ct10), sl10⟩) (c10 : PySem.W.codeIn K cd10 "Shelf.page" = true) (k10 : PySem.W.keepIn K (.ref f10) = true) (n10 : PySem.W.isFn K (.ref f10) = true)
    (i11 : PySem.W.findIn K (.ref cShelf) "places" = some (some (.ref f11))) (l11 : K.lookup f11 = some ⟨oc11, od11, .func (PySem.W.fnOf "places" "Shelf.places" (defArgs s_Shelf_places) (defBody s_Shelf_places) (defScope s_Shelf_places) .none kV11 dc11 pm11 an11 cd11 ct11), sl11⟩) (c11 : PySem.W.codeIn K cd11 "Shelf.places" = true) (k11 : PySem.W.keepIn K (.ref f11) = true) (n11 : PySem.W.isFn K (.ref f11) = true)
    (i12 : PySem.W.findIn K (.ref cShelf) "journal" = some (some (.ref f12))) (l12 : K.lookup f12 = some ⟨oc12, od12, .func (PySem.W.fnOf "journal" "Shelf.journal" (defArgs s_Shelf_journal) (defBody s_Shelf_journal) (defScope s_Shelf_journal) .none kV12 dc12 pm12 an12 cd12 ct12), sl12⟩) (c12 : PySem.W.codeIn K cd12 "Shelf.journal" = true) (k12 : PySem.W.keepIn K (.ref f12) = true) (n12 : PySem.W.isFn K (.ref f12) = true)
    (i13 : PySem.W.findIn K (.ref cShelf) "log" = some (some (.ref f13))) (l13 : K.lookup f13 = some ⟨oc13, od13, .func (PySem.W.fnOf "log" "Shelf.log" (defArgs s_Shelf_log) (defBody s_Shelf_log) (defScope s_Shelf_log) .none kV13 dc13 pm13 an13 cd13 ct13), sl13⟩) (c13 : PySem.W.codeIn K cd13 "Shelf.log" = true) (k13 : PySem.W.keepIn K (.ref f13) = true) (n13 : PySem.W.isFn K (.ref f13) = true)
    (i14 : PySem.W.findIn K (.ref cShelf) "after" = some (some (.ref f14))) (l14 : K.lookup f14 = some ⟨oc14, od14, .func (PySem.W.fnOf "after" "Shelf.after" (defArgs s_Shelf_after) (defBody s_Shelf_after) (defScope s_Shelf_after) .none kV14 dc14 pm14 an14 cd14 ct14), sl14⟩) (c14 : PySem.W.codeIn K cd14 "Shelf.after" = true) (k14 : PySem.W.keepIn K (.ref f14) = true) (n14 : PySem.W.isFn K (.ref f14) = true)
    (a15 : PySem.W.nsIn K mainGlobals "_law_cell_at" = some (some (.ref f15))) (l15 : K.lookup f15 = some ⟨oc15, od15, .func (PySem.W.fnOf "_law_cell_at" "_law_cell_at" (defArgs s__law_cell_at) (defBody s__law_cell_at) (defScope s__law_cell_at) .none kV15 dc15 pm15 an15 cd15 ct15), sl15⟩) (c15 : PySem.W.codeIn K cd15 "_law_cell_at" = true) (k15 : PySem.W.keepIn K (.ref f15) = true)
    (a16 : PySem.W.nsIn K mainGlobals "_law_digit" = some (some (.ref f16))) (l16 : K.lookup f16 = some ⟨oc16, od16, .func (PySem.W.fnOf "_law_digit" "_law_digit" (defArgs s__law_digit) (defBody s__law_digit) (defScope s__law_digit) .none kV16 dc16 pm16 an16 cd16 ct16), sl16⟩) (c16 : PySem.W.codeIn K cd16 "_law_digit" = true) (k16 : PySem.W.keepIn K (.ref f16) = true)
    (a17 : PySem.W.nsIn K mainGlobals "_law_alike" = some (some (.ref f17))) (l17 : K.lookup f17 = some ⟨oc17, od17, .func (PySem.W.fnOf "_law_alike" "_law_alike" (defArgs s__law_alike) (defBody s__law_alike) (defScope s__law_alike) .none kV17 dc17 pm17 an17 cd17 ct17), sl17⟩) (c17 : PySem.W.codeIn K cd17 "_law_alike" = true) (k17 : PySem.W.keepIn K (.ref f17) = true)
    (a18 : PySem.W.nsIn K mainGlobals "_law_text" = some (some (.ref f18))) (l18 : K.lookup f18 = some ⟨oc18, od18, .func (PySem.W.fnOf "_law_text" "_law_text" (defArgs s__law_text) (defBody s__law_text) (defScope s__law_text) .none kV18 dc18 pm18 an18 cd18 ct18), sl18⟩) (c18 : PySem.W.codeIn K cd18 "_law_text" = true) (k18 : PySem.W.keepIn K (.ref f18) = true)
    (a19 : PySem.W.nsIn K mainGlobals "_law_write" = some (some (.ref f19))) (l19 : K.lookup f19 = some ⟨oc19, od19, .func (PySem.W.fnOf "_law_write" "_law_write" (defArgs s__law_write) (defBody s__law_write) (defScope s__law_write) .none kV19 dc19 pm19 an19 cd19 ct19), sl19⟩) (c19 : PySem.W.codeIn K cd19 "_law_write" = true) (k19 : PySem.W.keepIn K (.ref f19) = true)
    (a20 : PySem.W.nsIn K mainGlobals "_law_most" = some (some (.ref f20))) (l20 : K.lookup f20 = some ⟨oc20, od20, .func (PySem.W.fnOf "_law_most" "_law_most" (defArgs s__law_most) (defBody s__law_most) (defScope s__law_most) .none kV20 dc20 pm20 an20 cd20 ct20), sl20⟩) (c20 : PySem.W.codeIn K cd20 "_law_most" = true) (k20 : PySem.W.keepIn K (.ref f20) = true)
    (a21 : PySem.W.nsIn K mainGlobals "_law_where" = some (some (.ref f21))) (l21 : K.lookup f21 = some ⟨oc21, od21, .func (PySem.W.fnOf "_law_where" "_law_where" (defArgs s__law_where) (defBody s__law_where) (defScope s__law_where) .none kV21 dc21 pm21 an21 cd21 ct21), sl21⟩) (c21 : PySem.W.codeIn K cd21 "_law_where" = true) (k21 : PySem.W.keepIn K (.ref f21) = true)
    (a22 : PySem.W.nsIn K mainGlobals "_law_put" = some (some (.ref f22))) (l22 : K.lookup f22 = some ⟨oc22, od22, .func (PySem.W.fnOf "_law_put" "_law_put" (defArgs s__law_put) (defBody s__law_put) (defScope s__law_put) .none kV22 dc22 pm22 an22 cd22 ct22), sl22⟩) (c22 : PySem.W.codeIn K cd22 "_law_put" = true) (k22 : PySem.W.keepIn K (.ref f22) = true)
    (a23 : PySem.W.nsIn K mainGlobals "_law_put_down" = some (some (.ref f23))) (l23 : K.lookup f23 = some ⟨oc23, od23, .func (PySem.W.fnOf "_law_put_down" "_law_put_down" (defArgs s__law_put_down) (defBody s__law_put_down) (defScope s__law_put_down) .none kV23 dc23 pm23 an23 cd23 ct23), sl23⟩) (c23 : PySem.W.codeIn K cd23 "_law_put_down" = true) (k23 : PySem.W.keepIn K (.ref f23) = true)
    (a24 : PySem.W.nsIn K mainGlobals "_law_same" = some (some (.ref f24))) (l24 : K.lookup f24 = some ⟨oc24, od24, .func (PySem.W.fnOf "_law_same" "_law_same" (defArgs s__law_same) (defBody s__law_same) (defScope s__law_same) .none kV24 dc24 pm24 an24 cd24 ct24), sl24⟩) (c24 : PySem.W.codeIn K cd24 "_law_same" = true) (k24 : PySem.W.keepIn K (.ref f24) = true)
    (a25 : PySem.W.nsIn K mainGlobals "_law_cut" = some (some (.ref f25))) (l25 : K.lookup f25 = some ⟨oc25, od25, .func (PySem.W.fnOf "_law_cut" "_law_cut" (defArgs s__law_cut) (defBody s__law_cut) (defScope s__law_cut) .none kV25 dc25 pm25 an25 cd25 ct25), sl25⟩) (c25 : PySem.W.codeIn K cd25 "_law_cut" = true) (k25 : PySem.W.keepIn K (.ref f25) = true)
    (a26 : PySem.W.nsIn K mainGlobals "_law_refused" = some (some (.ref f26))) (l26 : K.lookup f26 = some ⟨oc26, od26, .func (PySem.W.fnOf "_law_refused" "_law_refused" (defArgs s__law_refused) (defBody s__law_refused) (defScope s__law_refused) .none kV26 dc26 pm26 an26 cd26 ct26), sl26⟩) (c26 : PySem.W.codeIn K cd26 "_law_refused" = true) (k26 : PySem.W.keepIn K (.ref f26) = true)
    (a27 : PySem.W.nsIn K mainGlobals "_law_no_cuts" = some (some (.ref f27))) (l27 : K.lookup f27 = some ⟨oc27, od27, .func (PySem.W.fnOf "_law_no_cuts" "_law_no_cuts" (defArgs s__law_no_cuts) (defBody s__law_no_cuts) (defScope s__law_no_cuts) .none kV27 dc27 pm27 an27 cd27 ct27), sl27⟩) (c27 : PySem.W.codeIn K cd27 "_law_no_cuts" = true) (k27 : PySem.W.keepIn K (.ref f27) = true)
    (a28 : PySem.W.nsIn K mainGlobals "_law_holds" = some (some (.ref f28))) (l28 : K.lookup f28 = some ⟨oc28, od28, .func (PySem.W.fnOf "_law_holds" "_law_holds" (defArgs s__law_holds) (defBody s__law_holds) (defScope s__law_holds) .none kV28 dc28 pm28 an28 cd28 ct28), sl28⟩) (c28 : PySem.W.codeIn K cd28 "_law_holds" = true) (k28 : PySem.W.keepIn K (.ref f28) = true)
    (a29 : PySem.W.nsIn K mainGlobals "law" = some (some (.ref f29))) (l29 : K.lookup f29 = some ⟨oc29, od29, .func (PySem.W.fnOf "law" "law" (defArgs s_law) (defBody s_law) (defScope s_law) .none kV29 dc29 pm29 an29 cd29 ct29), sl29⟩) (c29 : PySem.W.codeIn K cd29 "law" = true) (k29 : PySem.W.keepIn K (.ref f29) = true)
    (z_len : PySem.W.nsIn K mainGlobals "len" = some none)
    (z_isinstance : PySem.W.nsIn K mainGlobals "isinstance" = some none)
    (z_int : PySem.W.nsIn K mainGlobals "int" = some none)
    (z_bool : PySem.W.nsIn K mainGlobals "bool" = some none)
    (z_max : PySem.W.nsIn K mainGlobals "max" = some none)
    (z_dict : PySem.W.nsIn K mainGlobals "dict" = some none)
    (z_list : PySem.W.nsIn K mainGlobals "list" = some none)
    (z_sorted : PySem.W.nsIn K mainGlobals "sorted" = some none)
    (z_str : PySem.W.nsIn K mainGlobals "str" = some none)
    (z_tuple : PySem.W.nsIn K mainGlobals "tuple" = some none)
    (z_range : PySem.W.nsIn K mainGlobals "range" = some none)
    (z_min : PySem.W.nsIn K mainGlobals "min" = some none)
    (z_all : PySem.W.nsIn K mainGlobals "all" = some none)
    (z_zip : PySem.W.nsIn K mainGlobals "zip" = some none)
    (z_ValueError : PySem.W.nsIn K mainGlobals "ValueError" = some none)
    (z_MOST_PLACE : PySem.W.nsIn K mainGlobals "MOST_PLACE" = some (some (.int 1000000 tP)))
    (z_FallError : PySem.W.nsIn K mainGlobals "FallError" = some (some (.ref cF)))
    (z_NoPlace : PySem.W.nsIn K mainGlobals "NoPlace" = some (some (.ref cN)))
    (z_NoCut : PySem.W.nsIn K mainGlobals "NoCut" = some (some (.ref cC)))
    (z_Shelf : PySem.W.nsIn K mainGlobals "Shelf" = some (some (.ref cShelf)))
    (z_gt : PySem.W.specialIn K (.builtin "object.__class__") "__get__" = some (some (.builtin "getset_descriptor.__get__")))
    (z_tk : PySem.W.takesIn K (.builtin "object.__class__") = some true)
    (z_xN : PySem.W.excIn K cC [.type "ValueError", .type "Exception", .type "BaseException", .type "object"] "ValueError.__new__" = true)
    (z_gaN : PySem.W.findIn K (.ref cC) "__getattribute__" = some (some (.builtin "BaseException.__getattribute__")))
    (z_ghN : PySem.W.findIn K (.ref cC) "__getattr__" = some none)
    (z_clN : PySem.W.findIn K (.ref cC) "__class__" = some (some (.builtin "object.__class__")))
    (z_moN : PySem.W.mroIn K cC (.type "object") = some true)
    (z_mbN : PySem.W.mroIn K cC (.type "BaseException") = some true)
    (z_isN : K.lookup cC = some ⟨coN, doN, .cls cdN, slN⟩)
    (z_mN : PySem.W.exmOne K (.ref cC) (.ref cF) = some true)
    (z_kN0 : PySem.W.kitOne K (.ref cC) (.ref cC) = some true)
    (z_kN1 : PySem.W.kitOne K (.ref cC) (.type "ValueError") = some true)
    (z_kN2 : PySem.W.kitOne K (.ref cC) (.ref cN) = some false) :
    ∃ fd : FuncData, (∀ (s : Shared) (v : Value), BindsTo s fd ⟨[v], []⟩ [("_law_script", v)]) ∧ ∀ base : Heap, K.In base → base.Ns mainGlobals mg → FnOk l.prog w K mg base CX0 6 fa fd ["_law_script"] (spLaw K) := by
  have e := hfa.symm.trans (PySem.W.mg_of X G a29)
  cases e
  have B := (B.mk (PySem.W.mg_none_of X G z_len) (PySem.W.mg_none_of X G z_isinstance) (PySem.W.mg_none_of X G z_int) (PySem.W.mg_none_of X G z_bool) (PySem.W.mg_none_of X G z_max) (PySem.W.mg_none_of X G z_dict) (PySem.W.mg_none_of X G z_list) (PySem.W.mg_none_of X G z_sorted) (PySem.W.mg_none_of X G z_str) (PySem.W.mg_none_of X G z_tuple) (PySem.W.mg_none_of X G z_range) (PySem.W.mg_none_of X G z_min) (PySem.W.mg_none_of X G z_all) (PySem.W.mg_none_of X G z_zip) (PySem.W.mg_none_of X G z_ValueError) (PySem.W.mg_of X G z_MOST_PLACE) (PySem.W.mg_of X G z_FallError) (PySem.W.mg_of X G z_NoPlace) (PySem.W.mg_of X G z_NoCut) ⟨⟨z_xN⟩, ⟨z_gaN, z_ghN, z_clN, z_moN, z_mbN, z_gt, z_tk, by unfold PySem.W.clsIn; rw [z_isN]; rfl⟩, z_mN, z_kN0, z_kN1, z_kN2⟩ : B K mg cF cN cC tP)
  have F1 := fun_mk (st := s_is_number) l1 c1 k1
  have b1 := F1.binds (ps := ["thing"]) fun _ _ _ _ _ _ us hl => match us, hl with | [_], _ => rfl
  have F2 := fun_mk (st := s_is_whole) l2 c2 k2
  have b2 := F2.binds (ps := ["thing", "low", "high"]) fun _ _ _ _ _ _ us hl => match us, hl with | [_, _, _], _ => rfl
  have F3 := fun_mk (st := s_signs_of) l3 c3 k3
  have b3 := F3.binds (ps := ["entry"]) fun _ _ _ _ _ _ us hl => match us, hl with | [_], _ => rfl
  have F4 := fun_mk (st := s_Shelf___init__) l4 c4 k4
  have b4 := F4.binds (ps := ["self"]) fun _ _ _ _ _ _ us hl => match us, hl with | [_], _ => rfl
  have F5 := fun_mk (st := s_Shelf_carry_out) l5 c5 k5
  have b5 := F5.binds (ps := ["self", "entry", "signs"]) fun _ _ _ _ _ _ us hl => match us, hl with | [_, _, _], _ => rfl
  have F6 := fun_mk (st := s_Shelf_put_down) l6 c6 k6
  have b6 := F6.binds (ps := ["self", "entry"]) fun _ _ _ _ _ _ us hl => match us, hl with | [_, _], _ => rfl
  have F7 := fun_mk (st := s_Shelf_write) l7 c7 k7
  have b7 := F7.binds (ps := ["self", "place", "text"]) fun _ _ _ _ _ _ us hl => match us, hl with | [_, _, _], _ => rfl
  have F8 := fun_mk (st := s_Shelf_line) l8 c8 k8
  have b8 := F8.binds (ps := ["self", "text"]) fun _ _ _ _ _ _ us hl => match us, hl with | [_, _], _ => rfl
  have F9 := fun_mk (st := s_Shelf_blot) l9 c9 k9
  have b9 := F9.binds (ps := ["self"]) fun _ _ _ _ _ _ us hl => match us, hl with | [_], _ => rfl
  have F10 := fun_mk (st := s_Shelf_page) l10 c10 k10
  have b10 := F10.binds (ps := ["self", "place"]) fun _ _ _ _ _ _ us hl => match us, hl with | [_, _], _ => rfl
  have F11 := fun_mk (st := s_Shelf_places) l11 c11 k11
  have b11 := F11.binds (ps := ["self"]) fun _ _ _ _ _ _ us hl => match us, hl with | [_], _ => rfl
  have F12 := fun_mk (st := s_Shelf_journal) l12 c12 k12
  have b12 := F12.binds (ps := ["self"]) fun _ _ _ _ _ _ us hl => match us, hl with | [_], _ => rfl
  have F13 := fun_mk (st := s_Shelf_log) l13 c13 k13
  have b13 := F13.binds (ps := ["self"]) fun _ _ _ _ _ _ us hl => match us, hl with | [_], _ => rfl
  have F14 := fun_mk (st := s_Shelf_after) l14 c14 k14
  have b14 := F14.binds (ps := ["self", "many", "signs"]) fun _ _ _ _ _ _ us hl => match us, hl with | [_, _, _], _ => rfl
  have F15 := fun_mk (st := s__law_cell_at) l15 c15 k15
  have b15 := F15.binds (ps := ["_law_script", "_law_k"]) fun _ _ _ _ _ _ us hl => match us, hl with | [_, _], _ => rfl
  have F16 := fun_mk (st := s__law_digit) l16 c16 k16
  have b16 := F16.binds (ps := ["_law_state", "_law_base"]) fun _ _ _ _ _ _ us hl => match us, hl with | [_, _], _ => rfl
  have F17 := fun_mk (st := s__law_alike) l17 c17 k17
  have b17 := F17.binds (ps := ["_law_found", "_law_due"]) fun _ _ _ _ _ _ us hl => match us, hl with | [_, _], _ => rfl
  have F18 := fun_mk (st := s__law_text) l18 c18 k18
  have b18 := F18.binds (ps := ["_law_state", "_law_feeds"]) fun _ _ _ _ _ _ us hl => match us, hl with | [_, _], _ => rfl
  have F19 := fun_mk (st := s__law_write) l19 c19 k19
  have b19 := F19.binds (ps := ["_law_state"]) fun _ _ _ _ _ _ us hl => match us, hl with | [_], _ => rfl
  have F20 := fun_mk (st := s__law_most) l20 c20 k20
  have b20 := F20.binds (ps := ["_law_write_here"]) fun _ _ _ _ _ _ us hl => match us, hl with | [_], _ => rfl
  have F21 := fun_mk (st := s__law_where) l21 c21 k21
  have b21 := F21.binds (ps := ["_law_state", "_law_model"]) fun _ _ _ _ _ _ us hl => match us, hl with | [_, _], _ => rfl
  have F22 := fun_mk (st := s__law_put) l22 c22 k22
  have b22 := F22.binds (ps := ["_law_model", "_law_write_here"]) fun _ _ _ _ _ _ us hl => match us, hl with | [_, _], _ => rfl
  have F23 := fun_mk (st := s__law_put_down) l23 c23 k23
  have b23 := F23.binds (ps := ["_law_shelf", "_law_write_here"]) fun _ _ _ _ _ _ us hl => match us, hl with | [_, _], _ => rfl
  have F24 := fun_mk (st := s__law_same) l24 c24 k24
  have b24 := F24.binds (ps := ["_law_shelf", "_law_model"]) fun _ _ _ _ _ _ us hl => match us, hl with | [_, _], _ => rfl
  have F25 := fun_mk (st := s__law_cut) l25 c25 k25
  have b25 := F25.binds (ps := ["_law_model", "_law_first", "_law_many", "_law_signs"]) fun _ _ _ _ _ _ us hl => match us, hl with | [_, _, _, _], _ => rfl
  have F26 := fun_mk (st := s__law_refused) l26 c26 k26
  have b26 := F26.binds (ps := ["_law_shelf", "_law_many", "_law_signs"]) fun _ _ _ _ _ _ us hl => match us, hl with | [_, _, _], _ => rfl
  have F27 := fun_mk (st := s__law_no_cuts) l27 c27 k27
  have b27 := F27.binds (ps := ["_law_state", "_law_model"]) fun _ _ _ _ _ _ us hl => match us, hl with | [_, _], _ => rfl
  have F28 := fun_mk (st := s__law_holds) l28 c28 k28
  have b28 := F28.binds (ps := ["_law_state", "_law_shelf", "_law_model"]) fun _ _ _ _ _ _ us hl => match us, hl with | [_, _, _], _ => rfl
  have F29 := fun_mk (st := s_law) l29 c29 k29
  refine ⟨PySem.W.fnOf "law" "law" (defArgs s_law) (defBody s_law) (defScope s_law) .none kV29 dc29 pm29 an29 cd29 ct29, fun s v => .of_eq rfl, fun base _ _ => ?_⟩
  have c_Shelf : Cls K cShelf := ⟨qa_Shelf, qb_Shelf, qc_Shelf, qd_Shelf⟩
  have C_is_number : Callee l.prog w K mg base "is_number" 1 ["thing"] (spNumI K) := ⟨f1, _, ok_is_number F1 B  , b1, k1, PySem.W.mg_of X G a1⟩
  have C_is_whole : Callee l.prog w K mg base "is_whole" 2 ["thing", "low", "high"] (spWholeI K) := ⟨f2, _, ok_is_whole F2 B (C_is_number := C_is_number) , b2, k2, PySem.W.mg_of X G a2⟩
  have C_signs_of : Callee l.prog w K mg base "signs_of" 1 ["entry"] (spSigns K) := ⟨f3, _, ok_signs_of F3 B  , b3, k3, PySem.W.mg_of X G a3⟩
  have M_Shelf : Maker l.prog w K mg base "Shelf" 1 ["self"] [] cShelf (spInitS cShelf K) := ⟨f4, _, [], ⟨qm_Shelf, i4, n4, qk_Shelf⟩, ok_Shelf___init__ F4 B  (n_sheets := na_Shelf_sheets) (n_diary := na_Shelf_diary) (n_writes := na_Shelf_writes) (n_first_sheets := na_Shelf_first_sheets) (n_first_diary := na_Shelf_first_diary) (c := ⟨qa_Shelf, qb_Shelf, qc_Shelf, qd_Shelf⟩), b4, .nil, PySem.W.mg_of X G z_Shelf⟩
  have MC_Shelf_carry_out : MethC l.prog w K mg base cShelf "carry_out" 1 ["self", "entry", "signs"] [] (spCarry K cShelf) := ⟨f5, _, [], ⟨i5, n5, k5⟩, ok_Shelf_carry_out F5 B  (n_sheets := na_Shelf_sheets) (n_diary := na_Shelf_diary) (c := ⟨qa_Shelf, qb_Shelf, qc_Shelf, qd_Shelf⟩), b5, .nil⟩
  have MC_Shelf_put_down : MethC l.prog w K mg base cShelf "put_down" 2 ["self", "entry"] [] (spPutDown K cShelf) := ⟨f6, _, [], ⟨i6, n6, k6⟩, ok_Shelf_put_down F6 B (C_signs_of := C_signs_of) (MC_Shelf_carry_out := MC_Shelf_carry_out) (n_writes := na_Shelf_writes) (c_Shelf := ⟨qa_Shelf, qb_Shelf, qc_Shelf, qd_Shelf⟩), b6, .nil⟩
  have MC_Shelf_write : MethC l.prog w K mg base cShelf "write" 3 ["self", "place", "text"] [] (spWr K cShelf fun vs e => ∃ k t, vs = [.int k, .str t] ∧ e = .page k t ∧ 0 ≤ k ∧ k ≤ 1000000) := ⟨f7, _, [], ⟨i7, n7, k7⟩, ok_Shelf_write F7 B (C_is_whole := C_is_whole) (MC_Shelf_put_down := MC_Shelf_put_down)  (c_Shelf := ⟨qa_Shelf, qb_Shelf, qc_Shelf, qd_Shelf⟩), b7, .nil⟩
  have MC_Shelf_line : MethC l.prog w K mg base cShelf "line" 3 ["self", "text"] [] (spWr K cShelf fun vs e => ∃ t, vs = [.str t] ∧ e = .line t) := ⟨f8, _, [], ⟨i8, n8, k8⟩, ok_Shelf_line F8 B (MC_Shelf_put_down := MC_Shelf_put_down)  (c_Shelf := ⟨qa_Shelf, qb_Shelf, qc_Shelf, qd_Shelf⟩), b8, .nil⟩
  have MC_Shelf_blot : MethC l.prog w K mg base cShelf "blot" 3 ["self"] [] (spWr K cShelf fun vs e => vs = [] ∧ e = .blot) := ⟨f9, _, [], ⟨i9, n9, k9⟩, ok_Shelf_blot F9 B (MC_Shelf_put_down := MC_Shelf_put_down)  (c_Shelf := ⟨qa_Shelf, qb_Shelf, qc_Shelf, qd_Shelf⟩), b9, .nil⟩
  have MC_Shelf_page : MethC l.prog w K mg base cShelf "page" 2 ["self", "place"] [] (spPage K cShelf) := ⟨f10, _, [], ⟨i10, n10, k10⟩, ok_Shelf_page F10 B (C_is_number := C_is_number) (n_sheets := na_Shelf_sheets) (c_Shelf := ⟨qa_Shelf, qb_Shelf, qc_Shelf, qd_Shelf⟩), b10, .nil⟩
  have MC_Shelf_places : MethC l.prog w K mg base cShelf "places" 1 ["self"] [] (spPlaces K cShelf) := ⟨f11, _, [], ⟨i11, n11, k11⟩, ok_Shelf_places F11 B  (n_sheets := na_Shelf_sheets) (c_Shelf := ⟨qa_Shelf, qb_Shelf, qc_Shelf, qd_Shelf⟩), b11, .nil⟩
  have MC_Shelf_journal : MethC l.prog w K mg base cShelf "journal" 1 ["self"] [] (spJournal K cShelf) := ⟨f12, _, [], ⟨i12, n12, k12⟩, ok_Shelf_journal F12 B  (n_diary := na_Shelf_diary) (c_Shelf := ⟨qa_Shelf, qb_Shelf, qc_Shelf, qd_Shelf⟩), b12, .nil⟩
  have MC_Shelf_log : MethC l.prog w K mg base cShelf "log" 1 ["self"] [] (spLog K cShelf) := ⟨f13, _, [], ⟨i13, n13, k13⟩, ok_Shelf_log F13 B  (n_writes := na_Shelf_writes) (c_Shelf := ⟨qa_Shelf, qb_Shelf, qc_Shelf, qd_Shelf⟩), b13, .nil⟩
  have MC_Shelf_after : MethC l.prog w K mg base cShelf "after" 3 ["self", "many", "signs"] [] (spAfter K cShelf) := ⟨f14, _, [], ⟨i14, n14, k14⟩, ok_Shelf_after F14 B (C_is_whole := C_is_whole) (C_signs_of := C_signs_of) (M_Shelf := M_Shelf) (MC_Shelf_carry_out := MC_Shelf_carry_out) (n_sheets := na_Shelf_sheets) (n_diary := na_Shelf_diary) (n_writes := na_Shelf_writes) (n_first_sheets := na_Shelf_first_sheets) (n_first_diary := na_Shelf_first_diary) (c_Shelf := ⟨qa_Shelf, qb_Shelf, qc_Shelf, qd_Shelf⟩), b14, .nil⟩
  have MX_Shelf_after : MethX l.prog w K mg base cShelf "after" 3 ["self", "many", "signs"] [] (spAfterX K cShelf cC) := ⟨f14, _, [], ⟨i14, n14, k14⟩, okx_Shelf_after F14 B (C_is_whole := C_is_whole) (C_signs_of := C_signs_of) (M_Shelf := M_Shelf) (MC_Shelf_carry_out := MC_Shelf_carry_out) (n_sheets := na_Shelf_sheets) (n_diary := na_Shelf_diary) (n_writes := na_Shelf_writes) (n_first_sheets := na_Shelf_first_sheets) (n_first_diary := na_Shelf_first_diary) (c_Shelf := ⟨qa_Shelf, qb_Shelf, qc_Shelf, qd_Shelf⟩), b14, .nil⟩
  have C__law_cell_at : Callee l.prog w K mg base "_law_cell_at" 1 ["_law_script", "_law_k"] (spCell K) := ⟨f15, _, ok__law_cell_at F15 B  , b15, k15, PySem.W.mg_of X G a15⟩
  have C__law_digit : Callee l.prog w K mg base "_law_digit" 1 ["_law_state", "_law_base"] (spDigit K) := ⟨f16, _, ok__law_digit F16 B  , b16, k16, PySem.W.mg_of X G a16⟩
  have C__law_alike : Callee l.prog w K mg base "_law_alike" 3 ["_law_found", "_law_due"] (spAlk K 3) := ⟨f17, _, ok__law_alike F17 B b17 k17 (PySem.W.mg_of X G a17)  , b17, k17, PySem.W.mg_of X G a17⟩
  have C__law_text : Callee l.prog w K mg base "_law_text" 2 ["_law_state", "_law_feeds"] (spText K) := ⟨f18, _, ok__law_text F18 B (C__law_digit := C__law_digit) , b18, k18, PySem.W.mg_of X G a18⟩
  have C__law_write : Callee l.prog w K mg base "_law_write" 3 ["_law_state"] (spWriteL K) := ⟨f19, _, ok__law_write F19 B (C__law_digit := C__law_digit) (C__law_text := C__law_text) , b19, k19, PySem.W.mg_of X G a19⟩
  have C__law_most : Callee l.prog w K mg base "_law_most" 1 ["_law_write_here"] (spMost K) := ⟨f20, _, ok__law_most F20 B  , b20, k20, PySem.W.mg_of X G a20⟩
  have C__law_where : Callee l.prog w K mg base "_law_where" 2 ["_law_state", "_law_model"] (spWhere K) := ⟨f21, _, ok__law_where F21 B (C__law_digit := C__law_digit) (C__law_most := C__law_most) , b21, k21, PySem.W.mg_of X G a21⟩
  have C__law_put : Callee l.prog w K mg base "_law_put" 1 ["_law_model", "_law_write_here"] (spPutM K) := ⟨f22, _, ok__law_put F22 B  , b22, k22, PySem.W.mg_of X G a22⟩
  have C__law_put_down : Callee l.prog w K mg base "_law_put_down" 4 ["_law_shelf", "_law_write_here"] (spPD K cShelf) := ⟨f23, _, ok__law_put_down F23 B (MC_Shelf_blot := MC_Shelf_blot) (MC_Shelf_write := MC_Shelf_write) (MC_Shelf_line := MC_Shelf_line) (c_Shelf := c_Shelf), b23, k23, PySem.W.mg_of X G a23⟩
  have C__law_same : Callee l.prog w K mg base "_law_same" 4 ["_law_shelf", "_law_model"] (spSame K cShelf) := ⟨f24, _, ok__law_same F24 B (C__law_alike := C__law_alike) (MC_Shelf_log := MC_Shelf_log) (MC_Shelf_places := MC_Shelf_places) (MC_Shelf_journal := MC_Shelf_journal) (MC_Shelf_page := MC_Shelf_page) (c_Shelf := c_Shelf), b24, k24, PySem.W.mg_of X G a24⟩
  have C__law_cut : Callee l.prog w K mg base "_law_cut" 2 ["_law_model", "_law_first", "_law_many", "_law_signs"] (spCut K) := ⟨f25, _, ok__law_cut F25 B (C__law_put := C__law_put) , b25, k25, PySem.W.mg_of X G a25⟩
  have C__law_refused : Callee l.prog w K mg base "_law_refused" 4 ["_law_shelf", "_law_many", "_law_signs"] (spRefused K cShelf) := ⟨f26, _, ok__law_refused F26 B (MX_Shelf_after := MX_Shelf_after) (c_Shelf := c_Shelf), b26, k26, PySem.W.mg_of X G a26⟩
  have C__law_no_cuts : Callee l.prog w K mg base "_law_no_cuts" 2 ["_law_state", "_law_model"] (spNoCuts K) := ⟨f27, _, ok__law_no_cuts F27 B (C__law_digit := C__law_digit) (C__law_most := C__law_most) , b27, k27, PySem.W.mg_of X G a27⟩
  have C__law_holds : Callee l.prog w K mg base "_law_holds" 5 ["_law_state", "_law_shelf", "_law_model"] (spHolds K cShelf) := ⟨f28, _, ok__law_holds F28 B (C__law_where := C__law_where) (C__law_cut := C__law_cut) (C__law_write := C__law_write) (C__law_put := C__law_put) (C__law_put_down := C__law_put_down) (C__law_same := C__law_same) (MC_Shelf_after := MC_Shelf_after) (c_Shelf := c_Shelf), b28, k28, PySem.W.mg_of X G a28⟩
  exact ok_law F29 B (C__law_no_cuts := C__law_no_cuts) (C__law_where := C__law_where) (C__law_same := C__law_same) (C__law_write := C__law_write) (C__law_put := C__law_put) (C__law_cell_at := C__law_cell_at) (C__law_cut := C__law_cut) (C__law_put_down := C__law_put_down) (C__law_refused := C__law_refused) (C__law_digit := C__law_digit) (C__law_holds := C__law_holds) (M_Shelf := M_Shelf) (MC_Shelf_after := MC_Shelf_after) (c_Shelf := c_Shelf)
theorem walk {l : PySem.W.OpenLaw} {q : Program} {loose : List Str} {XP : (Str → Option Value) → Heap → Prop} {YP : World → Heap → Prop} {d : DefRec} {K : Params → PySem.W.Frag} (hn : l.most = some 63) (hdf : d.params.defaults = [])
    (hY : ∀ (w : World) (h : Heap), YP w h → (K w.params).In h)
    (F : ∀ (w : World) (mg : Str → Option Value) (fa : Addr) (h : Heap), (K w.params).In h → h.Ns mainGlobals mg → mg d.name = some (.ref fa) →
      ∃ fd : FuncData, (∀ (s : Shared) (u : Value), BindsTo s fd ⟨[u], []⟩ [("_law_script", u)]) ∧ ∀ base : Heap, (K w.params).In base → base.Ns mainGlobals mg → FnOk l.prog w (K w.params) mg base CX0 6 fa fd ["_law_script"] (spLaw (K w.params))) :
    PySem.W.WalkO q loose XP YP l.row.toRowW d [] (fun f vs => PySem.call f vs) :=
  L2.walk_of (n := 63) (k := 6) (x := "_law_script") (CX := fun _ => CX0) (sp := fun w => spLaw (K w.params)) hn (by decide) hdf ⟨rfl, by decide, by decide, rfl⟩ hY F (fun _ _ a ns hl ho hS => ⟨a, ns, rfl, hS, hl, ho, fun _ => rfl⟩) fun _ _ _ _ _ z => z
abbrev kh (P : Params) (x : Str) : Int := PyData.keyHash P x
def hK (P : Params) : PySem.W.Frag :=
 (nat_lit 2, ⟨.none, none, (.dict (List.toArray ( [])) 0), #[]⟩) ::
 (nat_lit 3, ⟨(.type "dict"), none, (.dict (List.toArray (⟨kh P "__name__", (.str "__name__" 165), (.str "law_notefall_k82_shelves_cut" 385)⟩ :: ⟨kh P "__doc__", (.str "__doc__" 166), .none⟩ :: ⟨kh P "__package__", (.str "__package__" 167), .none⟩ :: ⟨kh P "__loader__", (.str "__loader__" 168), (.builtin "__main__.__loader__#opaque")⟩ :: ⟨kh P "__spec__", (.str "__spec__" 169), .none⟩ :: ⟨kh P "__annotations__", (.str "__annotations__" 170), (.ref 6)⟩ :: ⟨kh P "__builtins__", (.str "__builtins__" 171), (.ref 4)⟩ :: ⟨kh P "__file__", (.str "__file__" 173), (.str "/claim/cut.py" 172)⟩ :: ⟨kh P "__cached__", (.str "__cached__" 174), .none⟩ :: ⟨kh P "FallError", (.str "FallError" 206), (.ref 24)⟩ :: ⟨kh P "NoPlace", (.str "NoPlace" 222), (.ref 37)⟩ :: ⟨kh P "NoCut", (.str "NoCut" 238), (.ref 49)⟩ :: ⟨kh P "is_number", (.str "is_number" 247), (.ref 58)⟩ :: ⟨kh P "is_whole", (.str "is_whole" 256), (.ref 65)⟩ :: ⟨kh P "MOST_PLACE", (.str "MOST_PLACE" 262), (.int 1000000 261)⟩ :: ⟨kh P "signs_of", (.str "signs_of" 269), (.ref 72)⟩ :: ⟨kh P "Shelf", (.str "Shelf" 384), (.ref 159)⟩ :: ⟨kh P "_law_cell_at", (.str "_law_cell_at" 394), (.ref 170)⟩ :: ⟨kh P "_law_digit", (.str "_law_digit" 405), (.ref 177)⟩ :: ⟨kh P "_law_alike", (.str "_law_alike" 411), (.ref 182)⟩ :: ⟨kh P "_law_text", (.str "_law_text" 417), (.ref 187)⟩ :: ⟨kh P "_law_write", (.str "_law_write" 426), (.ref 194)⟩ :: ⟨kh P "_law_put", (.str "_law_put" 434), (.ref 201)⟩ :: ⟨kh P "_law_put_down", (.str "_law_put_down" 442), (.ref 208)⟩ :: ⟨kh P "_law_same", (.str "_law_same" 451), (.ref 215)⟩ :: ⟨kh P "_law_most", (.str "_law_most" 458), (.ref 222)⟩ :: ⟨kh P "_law_cut", (.str "_law_cut" 470), (.ref 229)⟩ :: ⟨kh P "_law_where", (.str "_law_where" 481), (.ref 236)⟩ :: ⟨kh P "_law_refused", (.str "_law_refused" 491), (.ref 243)⟩ :: ⟨kh P "_law_no_cuts", (.str "_law_no_cuts" 503), (.ref 250)⟩ :: ⟨kh P "_law_holds", (.str "_law_holds" 517), (.ref 257)⟩ :: ⟨kh P "law", (.str "law" 531), (.ref 264)⟩ :: [])) 32), #[]⟩) ::
 (nat_lit 15, ⟨(.type "tuple"), none, (.seq #[(.type "ValueError")] 0), #[]⟩) ::
 (nat_lit 22, ⟨(.type "tuple"), none, (.seq #[] 0), #[]⟩) ::
 (nat_lit 23, ⟨(.type "dict"), none, (.dict (List.toArray (⟨kh P "__module__", (.str "__module__" 196), (.str "notefall.errors" 187)⟩ :: ⟨kh P "__firstlineno__", (.str "__firstlineno__" 200), (.int 2 199)⟩ :: ⟨kh P "__static_attributes__", (.str "__static_attributes__" 201), (.ref 22)⟩ :: ⟨kh P "__weakref__", (.str "__weakref__" 203), (.ref 25)⟩ :: ⟨kh P "__doc__", (.str "__doc__" 204), .none⟩ :: [])) 3), #[]⟩) ::
 (nat_lit 24, ⟨(.type "type"), none, (.cls ⟨"FallError", [(.type "ValueError")], [(.ref 24), (.type "ValueError"), (.type "Exception"), (.type "BaseException"), (.type "object")], 23, "FallError", true, [], [(.ref 37), (.ref 49)], false, none, false⟩), #[(some (.ref 15)), none, (some (.str "FallError" 189)), (some (.str "FallError" 197)), (some (.builtin "ValueError.__new__")), (some (.bool true))]⟩) ::
 (nat_lit 25, ⟨(.type "getset_descriptor"), none, (.fields #[(.str "__weakref__" 202), (.ref 24), (.builtin "ExceptionGroup.__weakref__"), .none]), #[]⟩) ::
 (nat_lit 28, ⟨(.type "tuple"), none, (.seq #[(.ref 24)] 0), #[]⟩) ::
 (nat_lit 35, ⟨(.type "tuple"), none, (.seq #[] 0), #[]⟩) ::
 (nat_lit 36, ⟨(.type "dict"), none, (.dict (List.toArray (⟨kh P "__module__", (.str "__module__" 214), (.str "notefall.errors" 187)⟩ :: ⟨kh P "__firstlineno__", (.str "__firstlineno__" 218), (.int 4 217)⟩ :: ⟨kh P "__static_attributes__", (.str "__static_attributes__" 219), (.ref 35)⟩ :: ⟨kh P "__doc__", (.str "__doc__" 220), .none⟩ :: [])) 2), #[]⟩) ::
 (nat_lit 37, ⟨(.type "type"), none, (.cls ⟨"NoPlace", [(.ref 24)], [(.ref 37), (.ref 24), (.type "ValueError"), (.type "Exception"), (.type "BaseException"), (.type "object")], 36, "NoPlace", true, [], [], false, none, false⟩), #[(some (.ref 28)), none, (some (.str "NoPlace" 207)), (some (.str "NoPlace" 215)), (some (.builtin "ValueError.__new__")), (some (.bool true))]⟩) ::
 (nat_lit 40, ⟨(.type "tuple"), none, (.seq #[(.ref 24)] 0), #[]⟩) ::
 (nat_lit 47, ⟨(.type "tuple"), none, (.seq #[] 0), #[]⟩) ::
 (nat_lit 48, ⟨(.type "dict"), none, (.dict (List.toArray (⟨kh P "__module__", (.str "__module__" 230), (.str "notefall.errors" 187)⟩ :: ⟨kh P "__firstlineno__", (.str "__firstlineno__" 234), (.int 6 233)⟩ :: ⟨kh P "__static_attributes__", (.str "__static_attributes__" 235), (.ref 47)⟩ :: ⟨kh P "__doc__", (.str "__doc__" 236), .none⟩ :: [])) 2), #[]⟩) ::
 (nat_lit 49, ⟨(.type "type"), none, (.cls ⟨"NoCut", [(.ref 24)], [(.ref 49), (.ref 24), (.type "ValueError"), (.type "Exception"), (.type "BaseException"), (.type "object")], 48, "NoCut", true, [], [], false, none, false⟩), #[(some (.ref 40)), none, (some (.str "NoCut" 223)), (some (.str "NoCut" 231)), (some (.builtin "ValueError.__new__")), (some (.bool true))]⟩) ::
 (nat_lit 52, ⟨(.type "tuple"), none, (.seq #[] 0), #[]⟩) ::
 (nat_lit 54, ⟨(.type "tuple"), none, (.seq #[(.str "thing" 244)] 0), #[]⟩) ::
 (nat_lit 55, ⟨(.type "tuple"), none, (.seq #[] 0), #[]⟩) ::
 (nat_lit 57, ⟨(.type "code"), none, (.fields #[(.str "is_number" 241), (.str "is_number" 242), (.str "/claim/cut.py" 243), (.int 9 0), (.int 1 0), (.int 0 0), (.int 0 0), (.int 3 0), (.ref 52), (.bool true), (.int 181 0), (.ref 53), .none, (.ref 54), (.ref 55), (.ref 56), (.int 245 0), (.int 9 0), (.str "/claim/cut.py" 246)]), #[]⟩) ::
 (nat_lit 58, ⟨(.type "function"), none, (.func ⟨"is_number", "is_number", defArgs (top 5), .stmts (defBody (top 5)), defScope (top 5), 3, [], .none, .none, .none, (.str "notefall.wholes" 239), none, (.ref 57), .none, 0⟩), #[]⟩) ::
 (nat_lit 59, ⟨(.type "tuple"), none, (.seq #[] 0), #[]⟩) ::
 (nat_lit 61, ⟨(.type "tuple"), none, (.seq #[(.str "thing" 251), (.str "low" 252), (.str "high" 253)] 0), #[]⟩) ::
 (nat_lit 62, ⟨(.type "tuple"), none, (.seq #[] 0), #[]⟩) ::
 (nat_lit 64, ⟨(.type "code"), none, (.fields #[(.str "is_whole" 248), (.str "is_whole" 249), (.str "/claim/cut.py" 250), (.int 11 0), (.int 3 0), (.int 0 0), (.int 0 0), (.int 3 0), (.ref 59), (.bool true), (.int 181 0), (.ref 60), .none, (.ref 61), (.ref 62), (.ref 63), (.int 254 0), (.int 11 0), (.str "/claim/cut.py" 255)]), #[]⟩) ::
 (nat_lit 65, ⟨(.type "function"), none, (.func ⟨"is_whole", "is_whole", defArgs (top 6), .stmts (defBody (top 6)), defScope (top 6), 3, [], .none, .none, .none, (.str "notefall.wholes" 239), none, (.ref 64), .none, 0⟩), #[]⟩) ::
 (nat_lit 66, ⟨(.type "tuple"), none, (.seq #[] 0), #[]⟩) ::
 (nat_lit 68, ⟨(.type "tuple"), none, (.seq #[(.str "entry" 266)] 0), #[]⟩) ::
 (nat_lit 69, ⟨(.type "tuple"), none, (.seq #[] 0), #[]⟩) ::
 (nat_lit 71, ⟨(.type "code"), none, (.fields #[(.str "signs_of" 263), (.str "signs_of" 264), (.str "/claim/cut.py" 265), (.int 15 0), (.int 1 0), (.int 0 0), (.int 0 0), (.int 3 0), (.ref 66), (.bool true), (.int 181 0), (.ref 67), .none, (.ref 68), (.ref 69), (.ref 70), (.int 267 0), (.int 15 0), (.str "/claim/cut.py" 268)]), #[]⟩) ::
 (nat_lit 72, ⟨(.type "function"), none, (.func ⟨"signs_of", "signs_of", defArgs (top 9), .stmts (defBody (top 9)), defScope (top 9), 3, [], .none, .none, .none, (.str "notefall.shelf" 257), none, (.ref 71), .none, 0⟩), #[]⟩) ::
 (nat_lit 80, ⟨(.type "tuple"), none, (.seq #[] 0), #[]⟩) ::
 (nat_lit 82, ⟨(.type "tuple"), none, (.seq #[(.str "self" 285)] 0), #[]⟩) ::
 (nat_lit 83, ⟨(.type "tuple"), none, (.seq #[] 0), #[]⟩) ::
 (nat_lit 85, ⟨(.type "code"), none, (.fields #[(.str "__init__" 282), (.str "Shelf.__init__" 283), (.str "/claim/cut.py" 284), (.int 21 0), (.int 1 0), (.int 0 0), (.int 0 0), (.int 3 0), (.ref 80), (.bool true), (.int 181 0), (.ref 81), .none, (.ref 82), (.ref 83), (.ref 84), (.int 286 0), (.int 21 0), (.str "/claim/cut.py" 287)]), #[]⟩) ::
 (nat_lit 86, ⟨(.type "function"), none, (.func ⟨"__init__", "Shelf.__init__", defArgs (inClass (top 10) 0), .stmts (defBody (inClass (top 10) 0)), defScope (inClass (top 10) 0), 3, [], .none, .none, .none, (.str "notefall.shelf" 257), none, (.ref 85), .none, 0⟩), #[]⟩) ::
 (nat_lit 87, ⟨(.type "tuple"), none, (.seq #[] 0), #[]⟩) ::
 (nat_lit 89, ⟨(.type "tuple"), none, (.seq #[(.str "self" 292), (.str "place" 293), (.str "text" 294)] 0), #[]⟩) ::
 (nat_lit 90, ⟨(.type "tuple"), none, (.seq #[] 0), #[]⟩) ::
 (nat_lit 92, ⟨(.type "code"), none, (.fields #[(.str "write" 289), (.str "Shelf.write" 290), (.str "/claim/cut.py" 291), (.int 28 0), (.int 3 0), (.int 0 0), (.int 0 0), (.int 3 0), (.ref 87), (.bool true), (.int 181 0), (.ref 88), .none, (.ref 89), (.ref 90), (.ref 91), (.int 295 0), (.int 28 0), (.str "/claim/cut.py" 296)]), #[]⟩) ::
 (nat_lit 93, ⟨(.type "function"), none, (.func ⟨"write", "Shelf.write", defArgs (inClass (top 10) 1), .stmts (defBody (inClass (top 10) 1)), defScope (inClass (top 10) 1), 3, [], .none, .none, .none, (.str "notefall.shelf" 257), none, (.ref 92), .none, 0⟩), #[]⟩) ::
 (nat_lit 94, ⟨(.type "tuple"), none, (.seq #[] 0), #[]⟩) ::
 (nat_lit 96, ⟨(.type "tuple"), none, (.seq #[(.str "self" 301), (.str "text" 302)] 0), #[]⟩) ::
 (nat_lit 97, ⟨(.type "tuple"), none, (.seq #[] 0), #[]⟩) ::
 (nat_lit 99, ⟨(.type "code"), none, (.fields #[(.str "line" 298), (.str "Shelf.line" 299), (.str "/claim/cut.py" 300), (.int 33 0), (.int 2 0), (.int 0 0), (.int 0 0), (.int 3 0), (.ref 94), (.bool true), (.int 181 0), (.ref 95), .none, (.ref 96), (.ref 97), (.ref 98), (.int 303 0), (.int 33 0), (.str "/claim/cut.py" 304)]), #[]⟩) ::
 (nat_lit 100, ⟨(.type "function"), none, (.func ⟨"line", "Shelf.line", defArgs (inClass (top 10) 2), .stmts (defBody (inClass (top 10) 2)), defScope (inClass (top 10) 2), 3, [], .none, .none, .none, (.str "notefall.shelf" 257), none, (.ref 99), .none, 0⟩), #[]⟩) ::
 (nat_lit 101, ⟨(.type "tuple"), none, (.seq #[] 0), #[]⟩) ::
 (nat_lit 103, ⟨(.type "tuple"), none, (.seq #[(.str "self" 309)] 0), #[]⟩) ::
 (nat_lit 104, ⟨(.type "tuple"), none, (.seq #[] 0), #[]⟩) ::
 (nat_lit 106, ⟨(.type "code"), none, (.fields #[(.str "blot" 306), (.str "Shelf.blot" 307), (.str "/claim/cut.py" 308), (.int 36 0), (.int 1 0), (.int 0 0), (.int 0 0), (.int 3 0), (.ref 101), (.bool true), (.int 181 0), (.ref 102), .none, (.ref 103), (.ref 104), (.ref 105), (.int 310 0), (.int 36 0), (.str "/claim/cut.py" 311)]), #[]⟩) ::
 (nat_lit 107, ⟨(.type "function"), none, (.func ⟨"blot", "Shelf.blot", defArgs (inClass (top 10) 3), .stmts (defBody (inClass (top 10) 3)), defScope (inClass (top 10) 3), 3, [], .none, .none, .none, (.str "notefall.shelf" 257), none, (.ref 106), .none, 0⟩), #[]⟩) ::
 (nat_lit 108, ⟨(.type "tuple"), none, (.seq #[] 0), #[]⟩) ::
 (nat_lit 110, ⟨(.type "tuple"), none, (.seq #[(.str "self" 316), (.str "entry" 317)] 0), #[]⟩) ::
 (nat_lit 111, ⟨(.type "tuple"), none, (.seq #[] 0), #[]⟩) ::
 (nat_lit 113, ⟨(.type "code"), none, (.fields #[(.str "put_down" 313), (.str "Shelf.put_down" 314), (.str "/claim/cut.py" 315), (.int 39 0), (.int 2 0), (.int 0 0), (.int 0 0), (.int 3 0), (.ref 108), (.bool true), (.int 181 0), (.ref 109), .none, (.ref 110), (.ref 111), (.ref 112), (.int 318 0), (.int 39 0), (.str "/claim/cut.py" 319)]), #[]⟩) ::
 (nat_lit 114, ⟨(.type "function"), none, (.func ⟨"put_down", "Shelf.put_down", defArgs (inClass (top 10) 4), .stmts (defBody (inClass (top 10) 4)), defScope (inClass (top 10) 4), 3, [], .none, .none, .none, (.str "notefall.shelf" 257), none, (.ref 113), .none, 0⟩), #[]⟩) ::
 (nat_lit 115, ⟨(.type "tuple"), none, (.seq #[] 0), #[]⟩) ::
 (nat_lit 117, ⟨(.type "tuple"), none, (.seq #[(.str "self" 324), (.str "entry" 325), (.str "signs" 326)] 0), #[]⟩) ::
 (nat_lit 118, ⟨(.type "tuple"), none, (.seq #[] 0), #[]⟩) ::
 (nat_lit 120, ⟨(.type "code"), none, (.fields #[(.str "carry_out" 321), (.str "Shelf.carry_out" 322), (.str "/claim/cut.py" 323), (.int 43 0), (.int 3 0), (.int 0 0), (.int 0 0), (.int 3 0), (.ref 115), (.bool true), (.int 181 0), (.ref 116), .none, (.ref 117), (.ref 118), (.ref 119), (.int 327 0), (.int 43 0), (.str "/claim/cut.py" 328)]), #[]⟩) ::
 (nat_lit 121, ⟨(.type "function"), none, (.func ⟨"carry_out", "Shelf.carry_out", defArgs (inClass (top 10) 5), .stmts (defBody (inClass (top 10) 5)), defScope (inClass (top 10) 5), 3, [], .none, .none, .none, (.str "notefall.shelf" 257), none, (.ref 120), .none, 0⟩), #[]⟩) ::
 (nat_lit 122, ⟨(.type "tuple"), none, (.seq #[] 0), #[]⟩) ::
 (nat_lit 124, ⟨(.type "tuple"), none, (.seq #[(.str "self" 333), (.str "place" 334)] 0), #[]⟩) ::
 (nat_lit 125, ⟨(.type "tuple"), none, (.seq #[] 0), #[]⟩) ::
 (nat_lit 127, ⟨(.type "code"), none, (.fields #[(.str "page" 330), (.str "Shelf.page" 331), (.str "/claim/cut.py" 332), (.int 51 0), (.int 2 0), (.int 0 0), (.int 0 0), (.int 3 0), (.ref 122), (.bool true), (.int 181 0), (.ref 123), .none, (.ref 124), (.ref 125), (.ref 126), (.int 335 0), (.int 51 0), (.str "/claim/cut.py" 336)]), #[]⟩) ::
 (nat_lit 128, ⟨(.type "function"), none, (.func ⟨"page", "Shelf.page", defArgs (inClass (top 10) 6), .stmts (defBody (inClass (top 10) 6)), defScope (inClass (top 10) 6), 3, [], .none, .none, .none, (.str "notefall.shelf" 257), none, (.ref 127), .none, 0⟩), #[]⟩) ::
 (nat_lit 129, ⟨(.type "tuple"), none, (.seq #[] 0), #[]⟩) ::
 (nat_lit 131, ⟨(.type "tuple"), none, (.seq #[(.str "self" 341)] 0), #[]⟩) ::
 (nat_lit 132, ⟨(.type "tuple"), none, (.seq #[] 0), #[]⟩) ::
 (nat_lit 134, ⟨(.type "code"), none, (.fields #[(.str "places" 338), (.str "Shelf.places" 339), (.str "/claim/cut.py" 340), (.int 54 0), (.int 1 0), (.int 0 0), (.int 0 0), (.int 3 0), (.ref 129), (.bool true), (.int 181 0), (.ref 130), .none, (.ref 131), (.ref 132), (.ref 133), (.int 342 0), (.int 54 0), (.str "/claim/cut.py" 343)]), #[]⟩) ::
 (nat_lit 135, ⟨(.type "function"), none, (.func ⟨"places", "Shelf.places", defArgs (inClass (top 10) 7), .stmts (defBody (inClass (top 10) 7)), defScope (inClass (top 10) 7), 3, [], .none, .none, .none, (.str "notefall.shelf" 257), none, (.ref 134), .none, 0⟩), #[]⟩) ::
 (nat_lit 136, ⟨(.type "tuple"), none, (.seq #[] 0), #[]⟩) ::
 (nat_lit 138, ⟨(.type "tuple"), none, (.seq #[(.str "self" 348)] 0), #[]⟩) ::
 (nat_lit 139, ⟨(.type "tuple"), none, (.seq #[] 0), #[]⟩) ::
 (nat_lit 141, ⟨(.type "code"), none, (.fields #[(.str "journal" 345), (.str "Shelf.journal" 346), (.str "/claim/cut.py" 347), (.int 57 0), (.int 1 0), (.int 0 0), (.int 0 0), (.int 3 0), (.ref 136), (.bool true), (.int 181 0), (.ref 137), .none, (.ref 138), (.ref 139), (.ref 140), (.int 349 0), (.int 57 0), (.str "/claim/cut.py" 350)]), #[]⟩) ::
 (nat_lit 142, ⟨(.type "function"), none, (.func ⟨"journal", "Shelf.journal", defArgs (inClass (top 10) 8), .stmts (defBody (inClass (top 10) 8)), defScope (inClass (top 10) 8), 3, [], .none, .none, .none, (.str "notefall.shelf" 257), none, (.ref 141), .none, 0⟩), #[]⟩) ::
 (nat_lit 143, ⟨(.type "tuple"), none, (.seq #[] 0), #[]⟩) ::
 (nat_lit 145, ⟨(.type "tuple"), none, (.seq #[(.str "self" 355)] 0), #[]⟩) ::
 (nat_lit 146, ⟨(.type "tuple"), none, (.seq #[] 0), #[]⟩) ::
 (nat_lit 148, ⟨(.type "code"), none, (.fields #[(.str "log" 352), (.str "Shelf.log" 353), (.str "/claim/cut.py" 354), (.int 60 0), (.int 1 0), (.int 0 0), (.int 0 0), (.int 3 0), (.ref 143), (.bool true), (.int 181 0), (.ref 144), .none, (.ref 145), (.ref 146), (.ref 147), (.int 356 0), (.int 60 0), (.str "/claim/cut.py" 357)]), #[]⟩) ::
 (nat_lit 149, ⟨(.type "function"), none, (.func ⟨"log", "Shelf.log", defArgs (inClass (top 10) 9), .stmts (defBody (inClass (top 10) 9)), defScope (inClass (top 10) 9), 3, [], .none, .none, .none, (.str "notefall.shelf" 257), none, (.ref 148), .none, 0⟩), #[]⟩) ::
 (nat_lit 150, ⟨(.type "tuple"), none, (.seq #[] 0), #[]⟩) ::
 (nat_lit 152, ⟨(.type "tuple"), none, (.seq #[(.str "self" 362), (.str "many" 363), (.str "signs" 364), (.str "rest" 365), (.str "most" 366), (.str "other" 367), (.str "entry" 368)] 0), #[]⟩) ::
 (nat_lit 153, ⟨(.type "tuple"), none, (.seq #[] 0), #[]⟩) ::
 (nat_lit 155, ⟨(.type "code"), none, (.fields #[(.str "after" 359), (.str "Shelf.after" 360), (.str "/claim/cut.py" 361), (.int 63 0), (.int 3 0), (.int 0 0), (.int 0 0), (.int 3 0), (.ref 150), (.bool true), (.int 181 0), (.ref 151), .none, (.ref 152), (.ref 153), (.ref 154), (.int 369 0), (.int 63 0), (.str "/claim/cut.py" 370)]), #[]⟩) ::
 (nat_lit 156, ⟨(.type "function"), none, (.func ⟨"after", "Shelf.after", defArgs (inClass (top 10) 10), .stmts (defBody (inClass (top 10) 10)), defScope (inClass (top 10) 10), 3, [], .none, .none, .none, (.str "notefall.shelf" 257), none, (.ref 155), .none, 0⟩), #[]⟩) ::
 (nat_lit 157, ⟨(.type "tuple"), none, (.seq #[(.str "diary" 372), (.str "first_diary" 373), (.str "first_sheets" 374), (.str "sheets" 375), (.str "writes" 376)] 0), #[]⟩) ::
 (nat_lit 158, ⟨(.type "dict"), none, (.dict (List.toArray (⟨kh P "__module__", (.str "__module__" 277), (.str "notefall.shelf" 257)⟩ :: ⟨kh P "__firstlineno__", (.str "__firstlineno__" 281), (.int 19 280)⟩ :: ⟨kh P "__init__", (.str "__init__" 288), (.ref 86)⟩ :: ⟨kh P "write", (.str "write" 297), (.ref 93)⟩ :: ⟨kh P "line", (.str "line" 305), (.ref 100)⟩ :: ⟨kh P "blot", (.str "blot" 312), (.ref 107)⟩ :: ⟨kh P "put_down", (.str "put_down" 320), (.ref 114)⟩ :: ⟨kh P "carry_out", (.str "carry_out" 329), (.ref 121)⟩ :: ⟨kh P "page", (.str "page" 337), (.ref 128)⟩ :: ⟨kh P "places", (.str "places" 344), (.ref 135)⟩ :: ⟨kh P "journal", (.str "journal" 351), (.ref 142)⟩ :: ⟨kh P "log", (.str "log" 358), (.ref 149)⟩ :: ⟨kh P "after", (.str "after" 371), (.ref 156)⟩ :: ⟨kh P "__static_attributes__", (.str "__static_attributes__" 377), (.ref 157)⟩ :: ⟨kh P "__dict__", (.str "__dict__" 379), (.ref 160)⟩ :: ⟨kh P "__weakref__", (.str "__weakref__" 381), (.ref 161)⟩ :: ⟨kh P "__doc__", (.str "__doc__" 382), .none⟩ :: [])) 4), #[]⟩) ::
 (nat_lit 159, ⟨(.type "type"), none, (.cls ⟨"Shelf", [(.type "object")], [(.ref 159), (.type "object")], 158, "Shelf", true, [], [], false, none, false⟩), #[none, none, (some (.str "Shelf" 270)), (some (.str "Shelf" 278)), (some (.builtin "object.__new__")), (some (.bool true))]⟩) ::
 (nat_lit 160, ⟨(.type "getset_descriptor"), none, (.fields #[(.str "__dict__" 378), (.ref 159), (.builtin "function.__dict__"), (.builtin "function.__dict__#set")]), #[]⟩) ::
 (nat_lit 161, ⟨(.type "getset_descriptor"), none, (.fields #[(.str "__weakref__" 380), (.ref 159), (.builtin "ExceptionGroup.__weakref__"), .none]), #[]⟩) ::
 (nat_lit 164, ⟨(.type "tuple"), none, (.seq #[] 0), #[]⟩) ::
 (nat_lit 166, ⟨(.type "tuple"), none, (.seq #[(.str "_law_script" 390), (.str "_law_k" 391)] 0), #[]⟩) ::
 (nat_lit 167, ⟨(.type "tuple"), none, (.seq #[] 0), #[]⟩) ::
 (nat_lit 169, ⟨(.type "code"), none, (.fields #[(.str "_law_cell_at" 387), (.str "_law_cell_at" 388), (.str "/claim/cut.py" 389), (.int 81 0), (.int 2 0), (.int 0 0), (.int 0 0), (.int 3 0), (.ref 164), (.bool true), (.int 181 0), (.ref 165), .none, (.ref 166), (.ref 167), (.ref 168), (.int 392 0), (.int 81 0), (.str "/claim/cut.py" 393)]), #[]⟩) ::
 (nat_lit 170, ⟨(.type "function"), none, (.func ⟨"_law_cell_at", "_law_cell_at", defArgs (top 12), .stmts (defBody (top 12)), defScope (top 12), 3, [], .none, .none, .none, (.str "law_notefall_k82_shelves_cut" 385), none, (.ref 169), .none, 0⟩), #[]⟩) ::
 (nat_lit 171, ⟨(.type "tuple"), none, (.seq #[] 0), #[]⟩) ::
 (nat_lit 173, ⟨(.type "tuple"), none, (.seq #[(.str "_law_state" 398), (.str "_law_base" 399), (.str "_law_cell" 400), (.str "_law_found" 401), (.str "_law_number" 402)] 0), #[]⟩) ::
 (nat_lit 174, ⟨(.type "tuple"), none, (.seq #[] 0), #[]⟩) ::
 (nat_lit 176, ⟨(.type "code"), none, (.fields #[(.str "_law_digit" 395), (.str "_law_digit" 396), (.str "/claim/cut.py" 397), (.int 85 0), (.int 2 0), (.int 0 0), (.int 0 0), (.int 3 0), (.ref 171), (.bool true), (.int 181 0), (.ref 172), .none, (.ref 173), (.ref 174), (.ref 175), (.int 403 0), (.int 85 0), (.str "/claim/cut.py" 404)]), #[]⟩) ::
 (nat_lit 177, ⟨(.type "function"), none, (.func ⟨"_law_digit", "_law_digit", defArgs (top 13), .stmts (defBody (top 13)), defScope (top 13), 3, [], .none, .none, .none, (.str "law_notefall_k82_shelves_cut" 385), none, (.ref 176), .none, 0⟩), #[]⟩) ::
 (nat_lit 178, ⟨(.type "tuple"), none, (.seq #[] 0), #[]⟩) ::
 (nat_lit 181, ⟨(.type "code"), none, (.fields #[(.str "_law_alike" 406), (.str "_law_alike" 407), (.str "/claim/cut.py" 408), (.int 98 0), (.int 2 0), (.int 0 0), (.int 0 0), (.int 3 0), (.ref 178), (.bool true), (.int 181 0), (.ref 179), .none, .none, .none, (.ref 180), (.int 409 0), (.int 98 0), (.str "/claim/cut.py" 410)]), #[]⟩) ::
 (nat_lit 182, ⟨(.type "function"), none, (.func ⟨"_law_alike", "_law_alike", defArgs (top 14), .stmts (defBody (top 14)), defScope (top 14), 3, [], .none, .none, .none, (.str "law_notefall_k82_shelves_cut" 385), none, (.ref 181), .none, 0⟩), #[]⟩) ::
 (nat_lit 183, ⟨(.type "tuple"), none, (.seq #[] 0), #[]⟩) ::
 (nat_lit 186, ⟨(.type "code"), none, (.fields #[(.str "_law_text" 412), (.str "_law_text" 413), (.str "/claim/cut.py" 414), (.int 110 0), (.int 2 0), (.int 0 0), (.int 0 0), (.int 3 0), (.ref 183), (.bool true), (.int 181 0), (.ref 184), .none, .none, .none, (.ref 185), (.int 415 0), (.int 110 0), (.str "/claim/cut.py" 416)]), #[]⟩) ::
 (nat_lit 187, ⟨(.type "function"), none, (.func ⟨"_law_text", "_law_text", defArgs (top 15), .stmts (defBody (top 15)), defScope (top 15), 3, [], .none, .none, .none, (.str "law_notefall_k82_shelves_cut" 385), none, (.ref 186), .none, 0⟩), #[]⟩) ::
 (nat_lit 188, ⟨(.type "tuple"), none, (.seq #[] 0), #[]⟩) ::
 (nat_lit 190, ⟨(.type "tuple"), none, (.seq #[(.str "_law_state" 421), (.str "_law_way" 422), (.str "_law_place" 423)] 0), #[]⟩) ::
 (nat_lit 191, ⟨(.type "tuple"), none, (.seq #[] 0), #[]⟩) ::
 (nat_lit 193, ⟨(.type "code"), none, (.fields #[(.str "_law_write" 418), (.str "_law_write" 419), (.str "/claim/cut.py" 420), (.int 115 0), (.int 1 0), (.int 0 0), (.int 0 0), (.int 3 0), (.ref 188), (.bool true), (.int 181 0), (.ref 189), .none, (.ref 190), (.ref 191), (.ref 192), (.int 424 0), (.int 115 0), (.str "/claim/cut.py" 425)]), #[]⟩) ::
 (nat_lit 194, ⟨(.type "function"), none, (.func ⟨"_law_write", "_law_write", defArgs (top 16), .stmts (defBody (top 16)), defScope (top 16), 3, [], .none, .none, .none, (.str "law_notefall_k82_shelves_cut" 385), none, (.ref 193), .none, 0⟩), #[]⟩) ::
 (nat_lit 195, ⟨(.type "tuple"), none, (.seq #[] 0), #[]⟩) ::
 (nat_lit 197, ⟨(.type "tuple"), none, (.seq #[(.str "_law_model" 430), (.str "_law_write_here" 431)] 0), #[]⟩) ::
 (nat_lit 198, ⟨(.type "tuple"), none, (.seq #[] 0), #[]⟩) ::
 (nat_lit 200, ⟨(.type "code"), none, (.fields #[(.str "_law_put" 427), (.str "_law_put" 428), (.str "/claim/cut.py" 429), (.int 125 0), (.int 2 0), (.int 0 0), (.int 0 0), (.int 3 0), (.ref 195), (.bool true), (.int 181 0), (.ref 196), .none, (.ref 197), (.ref 198), (.ref 199), (.int 432 0), (.int 125 0), (.str "/claim/cut.py" 433)]), #[]⟩) ::
 (nat_lit 201, ⟨(.type "function"), none, (.func ⟨"_law_put", "_law_put", defArgs (top 17), .stmts (defBody (top 17)), defScope (top 17), 3, [], .none, .none, .none, (.str "law_notefall_k82_shelves_cut" 385), none, (.ref 200), .none, 0⟩), #[]⟩) ::
 (nat_lit 202, ⟨(.type "tuple"), none, (.seq #[] 0), #[]⟩) ::
 (nat_lit 204, ⟨(.type "tuple"), none, (.seq #[(.str "_law_shelf" 438), (.str "_law_write_here" 439)] 0), #[]⟩) ::
 (nat_lit 205, ⟨(.type "tuple"), none, (.seq #[] 0), #[]⟩) ::
 (nat_lit 207, ⟨(.type "code"), none, (.fields #[(.str "_law_put_down" 435), (.str "_law_put_down" 436), (.str "/claim/cut.py" 437), (.int 133 0), (.int 2 0), (.int 0 0), (.int 0 0), (.int 3 0), (.ref 202), (.bool true), (.int 181 0), (.ref 203), .none, (.ref 204), (.ref 205), (.ref 206), (.int 440 0), (.int 133 0), (.str "/claim/cut.py" 441)]), #[]⟩) ::
 (nat_lit 208, ⟨(.type "function"), none, (.func ⟨"_law_put_down", "_law_put_down", defArgs (top 18), .stmts (defBody (top 18)), defScope (top 18), 3, [], .none, .none, .none, (.str "law_notefall_k82_shelves_cut" 385), none, (.ref 207), .none, 0⟩), #[]⟩) ::
 (nat_lit 209, ⟨(.type "tuple"), none, (.seq #[] 0), #[]⟩) ::
 (nat_lit 211, ⟨(.type "tuple"), none, (.seq #[(.str "_law_shelf" 446), (.str "_law_model" 447), (.str "_law_place" 448)] 0), #[]⟩) ::
 (nat_lit 212, ⟨(.type "tuple"), none, (.seq #[] 0), #[]⟩) ::
 (nat_lit 214, ⟨(.type "code"), none, (.fields #[(.str "_law_same" 443), (.str "_law_same" 444), (.str "/claim/cut.py" 445), (.int 139 0), (.int 2 0), (.int 0 0), (.int 0 0), (.int 3 0), (.ref 209), (.bool true), (.int 181 0), (.ref 210), .none, (.ref 211), (.ref 212), (.ref 213), (.int 449 0), (.int 139 0), (.str "/claim/cut.py" 450)]), #[]⟩) ::
 (nat_lit 215, ⟨(.type "function"), none, (.func ⟨"_law_same", "_law_same", defArgs (top 19), .stmts (defBody (top 19)), defScope (top 19), 3, [], .none, .none, .none, (.str "law_notefall_k82_shelves_cut" 385), none, (.ref 214), .none, 0⟩), #[]⟩) ::
 (nat_lit 216, ⟨(.type "tuple"), none, (.seq #[] 0), #[]⟩) ::
 (nat_lit 218, ⟨(.type "tuple"), none, (.seq #[(.str "_law_write_here" 455)] 0), #[]⟩) ::
 (nat_lit 219, ⟨(.type "tuple"), none, (.seq #[] 0), #[]⟩) ::
 (nat_lit 221, ⟨(.type "code"), none, (.fields #[(.str "_law_most" 452), (.str "_law_most" 453), (.str "/claim/cut.py" 454), (.int 146 0), (.int 1 0), (.int 0 0), (.int 0 0), (.int 3 0), (.ref 216), (.bool true), (.int 181 0), (.ref 217), .none, (.ref 218), (.ref 219), (.ref 220), (.int 456 0), (.int 146 0), (.str "/claim/cut.py" 457)]), #[]⟩) ::
 (nat_lit 222, ⟨(.type "function"), none, (.func ⟨"_law_most", "_law_most", defArgs (top 20), .stmts (defBody (top 20)), defScope (top 20), 3, [], .none, .none, .none, (.str "law_notefall_k82_shelves_cut" 385), none, (.ref 221), .none, 0⟩), #[]⟩) ::
 (nat_lit 223, ⟨(.type "tuple"), none, (.seq #[] 0), #[]⟩) ::
 (nat_lit 225, ⟨(.type "tuple"), none, (.seq #[(.str "_law_model" 462), (.str "_law_first" 463), (.str "_law_many" 464), (.str "_law_signs" 465), (.str "_law_torn" 466), (.str "_law_write_here" 467)] 0), #[]⟩) ::
 (nat_lit 226, ⟨(.type "tuple"), none, (.seq #[] 0), #[]⟩) ::
 (nat_lit 228, ⟨(.type "code"), none, (.fields #[(.str "_law_cut" 459), (.str "_law_cut" 460), (.str "/claim/cut.py" 461), (.int 152 0), (.int 4 0), (.int 0 0), (.int 0 0), (.int 3 0), (.ref 223), (.bool true), (.int 181 0), (.ref 224), .none, (.ref 225), (.ref 226), (.ref 227), (.int 468 0), (.int 152 0), (.str "/claim/cut.py" 469)]), #[]⟩) ::
 (nat_lit 229, ⟨(.type "function"), none, (.func ⟨"_law_cut", "_law_cut", defArgs (top 21), .stmts (defBody (top 21)), defScope (top 21), 3, [], .none, .none, .none, (.str "law_notefall_k82_shelves_cut" 385), none, (.ref 228), .none, 0⟩), #[]⟩) ::
 (nat_lit 230, ⟨(.type "tuple"), none, (.seq #[] 0), #[]⟩) ::
 (nat_lit 232, ⟨(.type "tuple"), none, (.seq #[(.str "_law_state" 474), (.str "_law_model" 475), (.str "_law_many" 476), (.str "_law_most_here" 477), (.str "_law_way" 478)] 0), #[]⟩) ::
 (nat_lit 233, ⟨(.type "tuple"), none, (.seq #[] 0), #[]⟩) ::
 (nat_lit 235, ⟨(.type "code"), none, (.fields #[(.str "_law_where" 471), (.str "_law_where" 472), (.str "/claim/cut.py" 473), (.int 163 0), (.int 2 0), (.int 0 0), (.int 0 0), (.int 3 0), (.ref 230), (.bool true), (.int 181 0), (.ref 231), .none, (.ref 232), (.ref 233), (.ref 234), (.int 479 0), (.int 163 0), (.str "/claim/cut.py" 480)]), #[]⟩) ::
 (nat_lit 236, ⟨(.type "function"), none, (.func ⟨"_law_where", "_law_where", defArgs (top 22), .stmts (defBody (top 22)), defScope (top 22), 3, [], .none, .none, .none, (.str "law_notefall_k82_shelves_cut" 385), none, (.ref 235), .none, 0⟩), #[]⟩) ::
 (nat_lit 237, ⟨(.type "tuple"), none, (.seq #[] 0), #[]⟩) ::
 (nat_lit 239, ⟨(.type "tuple"), none, (.seq #[(.str "_law_shelf" 485), (.str "_law_many" 486), (.str "_law_signs" 487), (.str "e" 488)] 0), #[]⟩) ::
 (nat_lit 240, ⟨(.type "tuple"), none, (.seq #[] 0), #[]⟩) ::
 (nat_lit 242, ⟨(.type "code"), none, (.fields #[(.str "_law_refused" 482), (.str "_law_refused" 483), (.str "/claim/cut.py" 484), (.int 174 0), (.int 3 0), (.int 0 0), (.int 0 0), (.int 3 0), (.ref 237), (.bool true), (.int 181 0), (.ref 238), .none, (.ref 239), (.ref 240), (.ref 241), (.int 489 0), (.int 174 0), (.str "/claim/cut.py" 490)]), #[]⟩) ::
 (nat_lit 243, ⟨(.type "function"), none, (.func ⟨"_law_refused", "_law_refused", defArgs (top 23), .stmts (defBody (top 23)), defScope (top 23), 3, [], .none, .none, .none, (.str "law_notefall_k82_shelves_cut" 385), none, (.ref 242), .none, 0⟩), #[]⟩) ::
 (nat_lit 244, ⟨(.type "tuple"), none, (.seq #[] 0), #[]⟩) ::
 (nat_lit 246, ⟨(.type "tuple"), none, (.seq #[(.str "_law_state" 495), (.str "_law_model" 496), (.str "_law_many" 497), (.str "_law_far" 498), (.str "_law_found" 499), (.str "_law_at" 500)] 0), #[]⟩) ::
 (nat_lit 247, ⟨(.type "tuple"), none, (.seq #[] 0), #[]⟩) ::
 (nat_lit 249, ⟨(.type "code"), none, (.fields #[(.str "_law_no_cuts" 492), (.str "_law_no_cuts" 493), (.str "/claim/cut.py" 494), (.int 180 0), (.int 2 0), (.int 0 0), (.int 0 0), (.int 3 0), (.ref 244), (.bool true), (.int 181 0), (.ref 245), .none, (.ref 246), (.ref 247), (.ref 248), (.int 501 0), (.int 180 0), (.str "/claim/cut.py" 502)]), #[]⟩) ::
 (nat_lit 250, ⟨(.type "function"), none, (.func ⟨"_law_no_cuts", "_law_no_cuts", defArgs (top 24), .stmts (defBody (top 24)), defScope (top 24), 3, [], .none, .none, .none, (.str "law_notefall_k82_shelves_cut" 385), none, (.ref 249), .none, 0⟩), #[]⟩) ::
 (nat_lit 251, ⟨(.type "tuple"), none, (.seq #[] 0), #[]⟩) ::
 (nat_lit 253, ⟨(.type "tuple"), none, (.seq #[(.str "_law_state" 507), (.str "_law_shelf" 508), (.str "_law_model" 509), (.str "_law_many" 510), (.str "_law_signs" 511), (.str "_law_due" 512), (.str "_law_other" 513), (.str "_law_write_here" 514)] 0), #[]⟩) ::
 (nat_lit 254, ⟨(.type "tuple"), none, (.seq #[] 0), #[]⟩) ::
 (nat_lit 256, ⟨(.type "code"), none, (.fields #[(.str "_law_holds" 504), (.str "_law_holds" 505), (.str "/claim/cut.py" 506), (.int 191 0), (.int 3 0), (.int 0 0), (.int 0 0), (.int 3 0), (.ref 251), (.bool true), (.int 181 0), (.ref 252), .none, (.ref 253), (.ref 254), (.ref 255), (.int 515 0), (.int 191 0), (.str "/claim/cut.py" 516)]), #[]⟩) ::
 (nat_lit 257, ⟨(.type "function"), none, (.func ⟨"_law_holds", "_law_holds", defArgs (top 25), .stmts (defBody (top 25)), defScope (top 25), 3, [], .none, .none, .none, (.str "law_notefall_k82_shelves_cut" 385), none, (.ref 256), .none, 0⟩), #[]⟩) ::
 (nat_lit 258, ⟨(.type "tuple"), none, (.seq #[] 0), #[]⟩) ::
 (nat_lit 260, ⟨(.type "tuple"), none, (.seq #[(.str "_law_script" 521), (.str "_law_shelf" 522), (.str "_law_model" 523), (.str "_law_k" 524), (.str "_law_write_here" 525), (.str "_law_state" 526), (.str "_law_many" 527), (.str "_law_signs" 528)] 0), #[]⟩) ::
 (nat_lit 261, ⟨(.type "tuple"), none, (.seq #[] 0), #[]⟩) ::
 (nat_lit 263, ⟨(.type "code"), none, (.fields #[(.str "law" 518), (.str "law" 519), (.str "/claim/cut.py" 520), (.int 204 0), (.int 1 0), (.int 0 0), (.int 0 0), (.int 3 0), (.ref 258), (.bool true), (.int 181 0), (.ref 259), .none, (.ref 260), (.ref 261), (.ref 262), (.int 529 0), (.int 204 0), (.str "/claim/cut.py" 530)]), #[]⟩) ::
 (nat_lit 264, ⟨(.type "function"), none, (.func ⟨"law", "law", defArgs (top 26), .stmts (defBody (top 26)), defScope (top 26), 3, [], .none, .none, .none, (.str "law_notefall_k82_shelves_cut" 385), none, (.ref 263), .none, 0⟩), #[]⟩) :: []
def hAs : List Addr := nat_lit 2 :: nat_lit 3 :: nat_lit 15 :: nat_lit 22 :: nat_lit 23 :: nat_lit 24 :: nat_lit 25 :: nat_lit 28 :: nat_lit 35 :: nat_lit 36 :: nat_lit 37 :: nat_lit 40 :: nat_lit 47 :: nat_lit 48 :: nat_lit 49 :: nat_lit 52 :: nat_lit 54 :: nat_lit 55 :: nat_lit 57 :: nat_lit 58 :: nat_lit 59 :: nat_lit 61 :: nat_lit 62 :: nat_lit 64 :: nat_lit 65 :: nat_lit 66 :: nat_lit 68 :: nat_lit 69 :: nat_lit 71 :: nat_lit 72 :: nat_lit 80 :: nat_lit 82 :: nat_lit 83 :: nat_lit 85 :: nat_lit 86 :: nat_lit 87 :: nat_lit 89 :: nat_lit 90 :: nat_lit 92 :: nat_lit 93 :: nat_lit 94 :: nat_lit 96 :: nat_lit 97 :: nat_lit 99 :: nat_lit 100 :: nat_lit 101 :: nat_lit 103 :: nat_lit 104 :: nat_lit 106 :: nat_lit 107 :: nat_lit 108 :: nat_lit 110 :: nat_lit 111 :: nat_lit 113 :: nat_lit 114 :: nat_lit 115 :: nat_lit 117 :: nat_lit 118 :: nat_lit 120 :: nat_lit 121 :: nat_lit 122 :: nat_lit 124 :: nat_lit 125 :: nat_lit 127 :: nat_lit 128 :: nat_lit 129 :: nat_lit 131 :: nat_lit 132 :: nat_lit 134 :: nat_lit 135 :: nat_lit 136 :: nat_lit 138 :: nat_lit 139 :: nat_lit 141 :: nat_lit 142 :: nat_lit 143 :: nat_lit 145 :: nat_lit 146 :: nat_lit 148 :: nat_lit 149 :: nat_lit 150 :: nat_lit 152 :: nat_lit 153 :: nat_lit 155 :: nat_lit 156 :: nat_lit 157 :: nat_lit 158 :: nat_lit 159 :: nat_lit 160 :: nat_lit 161 :: nat_lit 164 :: nat_lit 166 :: nat_lit 167 :: nat_lit 169 :: nat_lit 170 :: nat_lit 171 :: nat_lit 173 :: nat_lit 174 :: nat_lit 176 :: nat_lit 177 :: nat_lit 178 :: nat_lit 181 :: nat_lit 182 :: nat_lit 183 :: nat_lit 186 :: nat_lit 187 :: nat_lit 188 :: nat_lit 190 :: nat_lit 191 :: nat_lit 193 :: nat_lit 194 :: nat_lit 195 :: nat_lit 197 :: nat_lit 198 :: nat_lit 200 :: nat_lit 201 :: nat_lit 202 :: nat_lit 204 :: nat_lit 205 :: nat_lit 207 :: nat_lit 208 :: nat_lit 209 :: nat_lit 211 :: nat_lit 212 :: nat_lit 214 :: nat_lit 215 :: nat_lit 216 :: nat_lit 218 :: nat_lit 219 :: nat_lit 221 :: nat_lit 222 :: nat_lit 223 :: nat_lit 225 :: nat_lit 226 :: nat_lit 228 :: nat_lit 229 :: nat_lit 230 :: nat_lit 232 :: nat_lit 233 :: nat_lit 235 :: nat_lit 236 :: nat_lit 237 :: nat_lit 239 :: nat_lit 240 :: nat_lit 242 :: nat_lit 243 :: nat_lit 244 :: nat_lit 246 :: nat_lit 247 :: nat_lit 249 :: nat_lit 250 :: nat_lit 251 :: nat_lit 253 :: nat_lit 254 :: nat_lit 256 :: nat_lit 257 :: nat_lit 258 :: nat_lit 260 :: nat_lit 261 :: nat_lit 263 :: nat_lit 264 :: []
def hQ : Program := { PySem.Challenge.pw_notefall_k82_shelves_cut with main := { PySem.Challenge.pw_notefall_k82_shelves_cut.main with body := top 1 :: top 2 :: top 3 :: top 5 :: top 6 :: top 8 :: top 9 :: top 10 :: top 12 :: top 13 :: top 14 :: top 15 :: top 16 :: top 17 :: top 18 :: top 19 :: top 20 :: top 21 :: top 22 :: top 23 :: top 24 :: top 25 :: top 26 :: [] } }
def hLv : List (Str × PySem.W.WData) := [((Str.ofString "MOST_PLACE"), PySem.W.WData.int 1000000)]
def hLo : List Str := [(Str.ofString "MOST_PLACE")]
theorem z_hK : K82.hK = K82.hK := rfl
name_quick K82_hK for K82.hK by K82.z_hK
theorem z_hQ : K82.hQ = K82.hQ := rfl
name_quick K82_hQ for K82.hQ by K82.z_hQ
theorem z_pw : PySem.Challenge.pw_notefall_k82_shelves_cut = PySem.Challenge.pw_notefall_k82_shelves_cut := rfl
name_quick K82_pw for PySem.Challenge.pw_notefall_k82_shelves_cut by K82.z_pw
theorem z_hLv : K82.hLv = K82.hLv := rfl
name_quick K82_hLv for K82.hLv by K82.z_hLv
theorem z_hLo : K82.hLo = K82.hLo := rfl
name_quick K82_hLo for K82.hLo by K82.z_hLo
def hYf (s : Shared) : List (Option Obj) := hAs.map s.heap.get?
def hYa (K : Params → PySem.W.Frag) (w : World) : List (Option Obj) := (K w.params).map fun p => some p.2
theorem hE (P : Params) : hAs = (hK P).map (·.1) := by kernel_rfl
abbrev hXt (q : Program) (lv : List (Str × PySem.W.WData)) (s : Shared) : Bool := PySem.W.xlAt q lv s && PySem.W.recOk (PySem.W.RowW.records (PySem.W.OpenRow.toRowW PySem.Challenge.rw_notefall_k82_shelves_cut.row)) s
abbrev hF {t : Type} (tb : String → Option Builtin) (p q : Program) (lo : List Str) (lv : List (Str × PySem.W.WData)) (K : Params → PySem.W.Frag) (sn : Program → List Str → List Str → (Shared → Bool) → Bool → Shared → t) (gd : Program → List Str → t) (im : List Stmt → List Str) (w : World) : Prop :=
  (PySem.W.openEnds tb p w 3668).map (fun s => (sn q lo (im p.main.body) (hXt q lv) true s, hYf s)) = some (gd q lo, hYa K w)
noncomputable def hOth (P : Params) : PySem.W.Frag :=
 (nat_lit 0, PySem.W.boot_o_0 P) ::
 (nat_lit 1, PySem.W.boot_o_1 P) ::
 (nat_lit 4, PySem.W.boot_o_4 P) ::
 (nat_lit 5, PySem.W.boot_o_5 P) ::
 (nat_lit 6, PySem.W.boot_o_6 P) ::
 (nat_lit 7, PySem.W.boot_o_7 P) ::
 (nat_lit 8, PySem.W.boot_o_8 P) ::
 (nat_lit 9, PySem.W.boot_o_9 P) ::
 (nat_lit 10, PySem.W.boot_o_10 P) ::
 (nat_lit 11, ⟨(.type "tuple"), none, (.seq #[] 0), #[]⟩) ::
 (nat_lit 12, ⟨.none, none, (.fields #[(.int 2 0), (.int 0 0), (.ref 20), (.int 4 0), (.int 0 0), (.ref 33), (.int 6 0), (.int 0 0), (.ref 45), (.int 9 0), (.int 0 0), (.ref 57), (.int 11 0), (.int 0 0), (.ref 64), (.int 15 0), (.int 0 0), (.ref 71), (.int 19 0), (.int 0 0), (.ref 78), (.int 81 0), (.int 0 0), (.ref 169), (.int 85 0), (.int 0 0), (.ref 176), (.int 98 0), (.int 0 0), (.ref 181), (.int 110 0), (.int 0 0), (.ref 186), (.int 115 0), (.int 0 0), (.ref 193), (.int 125 0), (.int 0 0), (.ref 200), (.int 133 0), (.int 0 0), (.ref 207), (.int 139 0), (.int 0 0), (.ref 214), (.int 146 0), (.int 0 0), (.ref 221), (.int 152 0), (.int 0 0), (.ref 228), (.int 163 0), (.int 0 0), (.ref 235), (.int 174 0), (.int 0 0), (.ref 242), (.int 180 0), (.int 0 0), (.ref 249), (.int 191 0), (.int 0 0), (.ref 256), (.int 204 0), (.int 0 0), (.ref 263)]), #[]⟩) ::
 (nat_lit 13, ⟨(.type "code"), none, (.fields #[(.str "<module>" 182), (.str "<module>" 183), (.str "/claim/cut.py" 184), (.int 1 0), (.int 0 0), (.int 0 0), (.int 0 0), (.int 0 0), (.ref 11), (.bool false), (.int 181 0), (.ref 12), .none, .none, .none, .none, (.int 185 0), (.int 1 0), (.str "/claim/cut.py" 186)]), #[]⟩) ::
 (nat_lit 14, ⟨(.type "frame"), none, .plain, #[(some (.ref 13)), (some (.ref 3)), (some (.ref 3)), none, (some (.str "__main__" 164)), none, (some (.ref 0))]⟩) ::
 (nat_lit 16, ⟨(.type "builtin_function_or_method"), none, (.fields #[(.builtin "type.__prepare__"), (.type "type")]), #[]⟩) ::
 (nat_lit 17, ⟨(.type "dict"), none, (.dict (List.toArray (⟨kh P "__module__", (.str "__module__" 196), (.str "notefall.errors" 187)⟩ :: ⟨kh P "__qualname__", (.str "__qualname__" 198), (.str "FallError" 197)⟩ :: ⟨kh P "__firstlineno__", (.str "__firstlineno__" 200), (.int 2 199)⟩ :: ⟨kh P "__static_attributes__", (.str "__static_attributes__" 201), (.ref 22)⟩ :: [])) 4), #[]⟩) ::
 (nat_lit 18, ⟨(.type "tuple"), none, (.seq #[] 0), #[]⟩) ::
 (nat_lit 19, ⟨.none, none, (.fields #[]), #[]⟩) ::
 (nat_lit 20, ⟨(.type "code"), none, (.fields #[(.str "FallError" 191), (.str "FallError" 192), (.str "/claim/cut.py" 193), (.int 2 0), (.int 0 0), (.int 0 0), (.int 0 0), (.int 0 0), (.ref 18), (.bool false), (.int 181 0), (.ref 19), .none, .none, .none, .none, (.int 194 0), (.int 2 0), (.str "/claim/cut.py" 195)]), #[]⟩) ::
 (nat_lit 21, ⟨(.type "frame"), none, .plain, #[(some (.ref 20)), (some (.ref 3)), (some (.ref 17)), none, (some (.str "notefall.errors" 187)), none, (some (.ref 0))]⟩) ::
 (nat_lit 26, ⟨(.type "super"), none, (.fields #[(.ref 24), (.ref 24), (.ref 24)]), #[]⟩) ::
 (nat_lit 27, ⟨(.type "builtin_function_or_method"), none, (.fields #[(.builtin "object.__init_subclass__"), (.ref 24)]), #[]⟩) ::
 (nat_lit 29, ⟨(.type "builtin_function_or_method"), none, (.fields #[(.builtin "type.__prepare__"), (.type "type")]), #[]⟩) ::
 (nat_lit 30, ⟨(.type "dict"), none, (.dict (List.toArray (⟨kh P "__module__", (.str "__module__" 214), (.str "notefall.errors" 187)⟩ :: ⟨kh P "__qualname__", (.str "__qualname__" 216), (.str "NoPlace" 215)⟩ :: ⟨kh P "__firstlineno__", (.str "__firstlineno__" 218), (.int 4 217)⟩ :: ⟨kh P "__static_attributes__", (.str "__static_attributes__" 219), (.ref 35)⟩ :: [])) 4), #[]⟩) ::
 (nat_lit 31, ⟨(.type "tuple"), none, (.seq #[] 0), #[]⟩) ::
 (nat_lit 32, ⟨.none, none, (.fields #[]), #[]⟩) ::
 (nat_lit 33, ⟨(.type "code"), none, (.fields #[(.str "NoPlace" 209), (.str "NoPlace" 210), (.str "/claim/cut.py" 211), (.int 4 0), (.int 0 0), (.int 0 0), (.int 0 0), (.int 0 0), (.ref 31), (.bool false), (.int 181 0), (.ref 32), .none, .none, .none, .none, (.int 212 0), (.int 4 0), (.str "/claim/cut.py" 213)]), #[]⟩) ::
 (nat_lit 34, ⟨(.type "frame"), none, .plain, #[(some (.ref 33)), (some (.ref 3)), (some (.ref 30)), none, (some (.str "notefall.errors" 187)), none, (some (.ref 0))]⟩) ::
 (nat_lit 38, ⟨(.type "super"), none, (.fields #[(.ref 37), (.ref 37), (.ref 37)]), #[]⟩) ::
 (nat_lit 39, ⟨(.type "builtin_function_or_method"), none, (.fields #[(.builtin "object.__init_subclass__"), (.ref 37)]), #[]⟩) ::
 (nat_lit 41, ⟨(.type "builtin_function_or_method"), none, (.fields #[(.builtin "type.__prepare__"), (.type "type")]), #[]⟩) ::
 (nat_lit 42, ⟨(.type "dict"), none, (.dict (List.toArray (⟨kh P "__module__", (.str "__module__" 230), (.str "notefall.errors" 187)⟩ :: ⟨kh P "__qualname__", (.str "__qualname__" 232), (.str "NoCut" 231)⟩ :: ⟨kh P "__firstlineno__", (.str "__firstlineno__" 234), (.int 6 233)⟩ :: ⟨kh P "__static_attributes__", (.str "__static_attributes__" 235), (.ref 47)⟩ :: [])) 4), #[]⟩) ::
 (nat_lit 43, ⟨(.type "tuple"), none, (.seq #[] 0), #[]⟩) ::
 (nat_lit 44, ⟨.none, none, (.fields #[]), #[]⟩) ::
 (nat_lit 45, ⟨(.type "code"), none, (.fields #[(.str "NoCut" 225), (.str "NoCut" 226), (.str "/claim/cut.py" 227), (.int 6 0), (.int 0 0), (.int 0 0), (.int 0 0), (.int 0 0), (.ref 43), (.bool false), (.int 181 0), (.ref 44), .none, .none, .none, .none, (.int 228 0), (.int 6 0), (.str "/claim/cut.py" 229)]), #[]⟩) ::
 (nat_lit 46, ⟨(.type "frame"), none, .plain, #[(some (.ref 45)), (some (.ref 3)), (some (.ref 42)), none, (some (.str "notefall.errors" 187)), none, (some (.ref 0))]⟩) ::
 (nat_lit 50, ⟨(.type "super"), none, (.fields #[(.ref 49), (.ref 49), (.ref 49)]), #[]⟩) ::
 (nat_lit 51, ⟨(.type "builtin_function_or_method"), none, (.fields #[(.builtin "object.__init_subclass__"), (.ref 49)]), #[]⟩) ::
 (nat_lit 53, ⟨.none, none, (.fields #[]), #[]⟩) ::
 (nat_lit 56, ⟨.none, none, (.func ⟨"is_number", "is_number", defArgs (top 5), .stmts (defBody (top 5)), defScope (top 5), 0, [], .none, .none, .none, .none, none, .none, .none, 0⟩), #[]⟩) ::
 (nat_lit 60, ⟨.none, none, (.fields #[]), #[]⟩) ::
 (nat_lit 63, ⟨.none, none, (.func ⟨"is_whole", "is_whole", defArgs (top 6), .stmts (defBody (top 6)), defScope (top 6), 0, [], .none, .none, .none, .none, none, .none, .none, 0⟩), #[]⟩) ::
 (nat_lit 67, ⟨.none, none, (.fields #[]), #[]⟩) ::
 (nat_lit 70, ⟨.none, none, (.func ⟨"signs_of", "signs_of", defArgs (top 9), .stmts (defBody (top 9)), defScope (top 9), 0, [], .none, .none, .none, .none, none, .none, .none, 0⟩), #[]⟩) ::
 (nat_lit 73, ⟨(.type "tuple"), none, (.seq #[] 0), #[]⟩) ::
 (nat_lit 74, ⟨(.type "builtin_function_or_method"), none, (.fields #[(.builtin "type.__prepare__"), (.type "type")]), #[]⟩) ::
 (nat_lit 75, ⟨(.type "dict"), none, (.dict (List.toArray (⟨kh P "__module__", (.str "__module__" 277), (.str "notefall.shelf" 257)⟩ :: ⟨kh P "__qualname__", (.str "__qualname__" 279), (.str "Shelf" 278)⟩ :: ⟨kh P "__firstlineno__", (.str "__firstlineno__" 281), (.int 19 280)⟩ :: ⟨kh P "__init__", (.str "__init__" 288), (.ref 86)⟩ :: ⟨kh P "write", (.str "write" 297), (.ref 93)⟩ :: ⟨kh P "line", (.str "line" 305), (.ref 100)⟩ :: ⟨kh P "blot", (.str "blot" 312), (.ref 107)⟩ :: ⟨kh P "put_down", (.str "put_down" 320), (.ref 114)⟩ :: ⟨kh P "carry_out", (.str "carry_out" 329), (.ref 121)⟩ :: ⟨kh P "page", (.str "page" 337), (.ref 128)⟩ :: ⟨kh P "places", (.str "places" 344), (.ref 135)⟩ :: ⟨kh P "journal", (.str "journal" 351), (.ref 142)⟩ :: ⟨kh P "log", (.str "log" 358), (.ref 149)⟩ :: ⟨kh P "after", (.str "after" 371), (.ref 156)⟩ :: ⟨kh P "__static_attributes__", (.str "__static_attributes__" 377), (.ref 157)⟩ :: [])) 15), #[]⟩) ::
 (nat_lit 76, ⟨(.type "tuple"), none, (.seq #[] 0), #[]⟩) ::
 (nat_lit 77, ⟨.none, none, (.fields #[(.int 21 0), (.int 4 0), (.ref 85), (.int 28 0), (.int 4 0), (.ref 92), (.int 33 0), (.int 4 0), (.ref 99), (.int 36 0), (.int 4 0), (.ref 106), (.int 39 0), (.int 4 0), (.ref 113), (.int 43 0), (.int 4 0), (.ref 120), (.int 51 0), (.int 4 0), (.ref 127), (.int 54 0), (.int 4 0), (.ref 134), (.int 57 0), (.int 4 0), (.ref 141), (.int 60 0), (.int 4 0), (.ref 148), (.int 63 0), (.int 4 0), (.ref 155)]), #[]⟩) ::
 (nat_lit 78, ⟨(.type "code"), none, (.fields #[(.str "Shelf" 272), (.str "Shelf" 273), (.str "/claim/cut.py" 274), (.int 19 0), (.int 0 0), (.int 0 0), (.int 0 0), (.int 0 0), (.ref 76), (.bool false), (.int 181 0), (.ref 77), .none, .none, .none, .none, (.int 275 0), (.int 19 0), (.str "/claim/cut.py" 276)]), #[]⟩) ::
 (nat_lit 79, ⟨(.type "frame"), none, .plain, #[(some (.ref 78)), (some (.ref 3)), (some (.ref 75)), none, (some (.str "notefall.shelf" 257)), none, (some (.ref 0))]⟩) ::
 (nat_lit 81, ⟨.none, none, (.fields #[]), #[]⟩) ::
 (nat_lit 84, ⟨.none, none, (.func ⟨"__init__", "Shelf.__init__", defArgs (inClass (top 10) 0), .stmts (defBody (inClass (top 10) 0)), defScope (inClass (top 10) 0), 0, [], .none, .none, .none, .none, none, .none, .none, 0⟩), #[]⟩) ::
 (nat_lit 88, ⟨.none, none, (.fields #[]), #[]⟩) ::
 (nat_lit 91, ⟨.none, none, (.func ⟨"write", "Shelf.write", defArgs (inClass (top 10) 1), .stmts (defBody (inClass (top 10) 1)), defScope (inClass (top 10) 1), 0, [], .none, .none, .none, .none, none, .none, .none, 0⟩), #[]⟩) ::
 (nat_lit 95, ⟨.none, none, (.fields #[]), #[]⟩) ::
 (nat_lit 98, ⟨.none, none, (.func ⟨"line", "Shelf.line", defArgs (inClass (top 10) 2), .stmts (defBody (inClass (top 10) 2)), defScope (inClass (top 10) 2), 0, [], .none, .none, .none, .none, none, .none, .none, 0⟩), #[]⟩) ::
 (nat_lit 102, ⟨.none, none, (.fields #[]), #[]⟩) ::
 (nat_lit 105, ⟨.none, none, (.func ⟨"blot", "Shelf.blot", defArgs (inClass (top 10) 3), .stmts (defBody (inClass (top 10) 3)), defScope (inClass (top 10) 3), 0, [], .none, .none, .none, .none, none, .none, .none, 0⟩), #[]⟩) ::
 (nat_lit 109, ⟨.none, none, (.fields #[]), #[]⟩) ::
 (nat_lit 112, ⟨.none, none, (.func ⟨"put_down", "Shelf.put_down", defArgs (inClass (top 10) 4), .stmts (defBody (inClass (top 10) 4)), defScope (inClass (top 10) 4), 0, [], .none, .none, .none, .none, none, .none, .none, 0⟩), #[]⟩) ::
 (nat_lit 116, ⟨.none, none, (.fields #[]), #[]⟩) ::
 (nat_lit 119, ⟨.none, none, (.func ⟨"carry_out", "Shelf.carry_out", defArgs (inClass (top 10) 5), .stmts (defBody (inClass (top 10) 5)), defScope (inClass (top 10) 5), 0, [], .none, .none, .none, .none, none, .none, .none, 0⟩), #[]⟩) ::
 (nat_lit 123, ⟨.none, none, (.fields #[]), #[]⟩) ::
 (nat_lit 126, ⟨.none, none, (.func ⟨"page", "Shelf.page", defArgs (inClass (top 10) 6), .stmts (defBody (inClass (top 10) 6)), defScope (inClass (top 10) 6), 0, [], .none, .none, .none, .none, none, .none, .none, 0⟩), #[]⟩) ::
 (nat_lit 130, ⟨.none, none, (.fields #[]), #[]⟩) ::
 (nat_lit 133, ⟨.none, none, (.func ⟨"places", "Shelf.places", defArgs (inClass (top 10) 7), .stmts (defBody (inClass (top 10) 7)), defScope (inClass (top 10) 7), 0, [], .none, .none, .none, .none, none, .none, .none, 0⟩), #[]⟩) ::
 (nat_lit 137, ⟨.none, none, (.fields #[]), #[]⟩) ::
 (nat_lit 140, ⟨.none, none, (.func ⟨"journal", "Shelf.journal", defArgs (inClass (top 10) 8), .stmts (defBody (inClass (top 10) 8)), defScope (inClass (top 10) 8), 0, [], .none, .none, .none, .none, none, .none, .none, 0⟩), #[]⟩) ::
 (nat_lit 144, ⟨.none, none, (.fields #[]), #[]⟩) ::
 (nat_lit 147, ⟨.none, none, (.func ⟨"log", "Shelf.log", defArgs (inClass (top 10) 9), .stmts (defBody (inClass (top 10) 9)), defScope (inClass (top 10) 9), 0, [], .none, .none, .none, .none, none, .none, .none, 0⟩), #[]⟩) ::
 (nat_lit 151, ⟨.none, none, (.fields #[]), #[]⟩) ::
 (nat_lit 154, ⟨.none, none, (.func ⟨"after", "Shelf.after", defArgs (inClass (top 10) 10), .stmts (defBody (inClass (top 10) 10)), defScope (inClass (top 10) 10), 0, [], .none, .none, .none, .none, none, .none, .none, 0⟩), #[]⟩) ::
 (nat_lit 162, ⟨(.type "super"), none, (.fields #[(.ref 159), (.ref 159), (.ref 159)]), #[]⟩) ::
 (nat_lit 163, ⟨(.type "builtin_function_or_method"), none, (.fields #[(.builtin "object.__init_subclass__"), (.ref 159)]), #[]⟩) ::
 (nat_lit 165, ⟨.none, none, (.fields #[]), #[]⟩) ::
 (nat_lit 168, ⟨.none, none, (.func ⟨"_law_cell_at", "_law_cell_at", defArgs (top 12), .stmts (defBody (top 12)), defScope (top 12), 0, [], .none, .none, .none, .none, none, .none, .none, 0⟩), #[]⟩) ::
 (nat_lit 172, ⟨.none, none, (.fields #[]), #[]⟩) ::
 (nat_lit 175, ⟨.none, none, (.func ⟨"_law_digit", "_law_digit", defArgs (top 13), .stmts (defBody (top 13)), defScope (top 13), 0, [], .none, .none, .none, .none, none, .none, .none, 0⟩), #[]⟩) ::
 (nat_lit 179, ⟨.none, none, (.fields #[]), #[]⟩) ::
 (nat_lit 180, ⟨.none, none, (.func ⟨"_law_alike", "_law_alike", defArgs (top 14), .stmts (defBody (top 14)), defScope (top 14), 0, [], .none, .none, .none, .none, none, .none, .none, 0⟩), #[]⟩) ::
 (nat_lit 184, ⟨.none, none, (.fields #[]), #[]⟩) ::
 (nat_lit 185, ⟨.none, none, (.func ⟨"_law_text", "_law_text", defArgs (top 15), .stmts (defBody (top 15)), defScope (top 15), 0, [], .none, .none, .none, .none, none, .none, .none, 0⟩), #[]⟩) ::
 (nat_lit 189, ⟨.none, none, (.fields #[]), #[]⟩) ::
 (nat_lit 192, ⟨.none, none, (.func ⟨"_law_write", "_law_write", defArgs (top 16), .stmts (defBody (top 16)), defScope (top 16), 0, [], .none, .none, .none, .none, none, .none, .none, 0⟩), #[]⟩) ::
 (nat_lit 196, ⟨.none, none, (.fields #[]), #[]⟩) ::
 (nat_lit 199, ⟨.none, none, (.func ⟨"_law_put", "_law_put", defArgs (top 17), .stmts (defBody (top 17)), defScope (top 17), 0, [], .none, .none, .none, .none, none, .none, .none, 0⟩), #[]⟩) ::
 (nat_lit 203, ⟨.none, none, (.fields #[]), #[]⟩) ::
 (nat_lit 206, ⟨.none, none, (.func ⟨"_law_put_down", "_law_put_down", defArgs (top 18), .stmts (defBody (top 18)), defScope (top 18), 0, [], .none, .none, .none, .none, none, .none, .none, 0⟩), #[]⟩) ::
 (nat_lit 210, ⟨.none, none, (.fields #[]), #[]⟩) ::
 (nat_lit 213, ⟨.none, none, (.func ⟨"_law_same", "_law_same", defArgs (top 19), .stmts (defBody (top 19)), defScope (top 19), 0, [], .none, .none, .none, .none, none, .none, .none, 0⟩), #[]⟩) ::
 (nat_lit 217, ⟨.none, none, (.fields #[]), #[]⟩) ::
 (nat_lit 220, ⟨.none, none, (.func ⟨"_law_most", "_law_most", defArgs (top 20), .stmts (defBody (top 20)), defScope (top 20), 0, [], .none, .none, .none, .none, none, .none, .none, 0⟩), #[]⟩) ::
 (nat_lit 224, ⟨.none, none, (.fields #[]), #[]⟩) ::
 (nat_lit 227, ⟨.none, none, (.func ⟨"_law_cut", "_law_cut", defArgs (top 21), .stmts (defBody (top 21)), defScope (top 21), 0, [], .none, .none, .none, .none, none, .none, .none, 0⟩), #[]⟩) ::
 (nat_lit 231, ⟨.none, none, (.fields #[]), #[]⟩) ::
 (nat_lit 234, ⟨.none, none, (.func ⟨"_law_where", "_law_where", defArgs (top 22), .stmts (defBody (top 22)), defScope (top 22), 0, [], .none, .none, .none, .none, none, .none, .none, 0⟩), #[]⟩) ::
 (nat_lit 238, ⟨.none, none, (.fields #[]), #[]⟩) ::
 (nat_lit 241, ⟨.none, none, (.func ⟨"_law_refused", "_law_refused", defArgs (top 23), .stmts (defBody (top 23)), defScope (top 23), 0, [], .none, .none, .none, .none, none, .none, .none, 0⟩), #[]⟩) ::
 (nat_lit 245, ⟨.none, none, (.fields #[]), #[]⟩) ::
 (nat_lit 248, ⟨.none, none, (.func ⟨"_law_no_cuts", "_law_no_cuts", defArgs (top 24), .stmts (defBody (top 24)), defScope (top 24), 0, [], .none, .none, .none, .none, none, .none, .none, 0⟩), #[]⟩) ::
 (nat_lit 252, ⟨.none, none, (.fields #[]), #[]⟩) ::
 (nat_lit 255, ⟨.none, none, (.func ⟨"_law_holds", "_law_holds", defArgs (top 25), .stmts (defBody (top 25)), defScope (top 25), 0, [], .none, .none, .none, .none, none, .none, .none, 0⟩), #[]⟩) ::
 (nat_lit 259, ⟨.none, none, (.fields #[]), #[]⟩) ::
 (nat_lit 262, ⟨.none, none, (.func ⟨"law", "law", defArgs (top 26), .stmts (defBody (top 26)), defScope (top 26), 0, [], .none, .none, .none, .none, none, .none, .none, 0⟩), #[]⟩) :: []
noncomputable def hAo (P : Params) : List Obj :=
 (PySem.W.boot_o_0 P) ::
 (PySem.W.boot_o_1 P) ::
 (PySem.W.boot_o_2 P) ::
 (PySem.W.boot_o_3 P) ::
 (PySem.W.boot_o_4 P) ::
 (PySem.W.boot_o_5 P) ::
 (PySem.W.boot_o_6 P) ::
 (PySem.W.boot_o_7 P) ::
 (PySem.W.boot_o_8 P) ::
 (PySem.W.boot_o_9 P) ::
 (PySem.W.boot_o_10 P) ::
 (⟨(.type "tuple"), none, (.seq #[] 0), #[]⟩) ::
 (⟨.none, none, (.fields #[]), #[]⟩) ::
 (⟨(.type "code"), none, (.fields #[(.str "<module>" 182), (.str "<module>" 183), (.str "/claim/cut.py" 184), (.int 1 0), (.int 0 0), (.int 0 0), (.int 0 0), (.int 0 0), (.ref 11), (.bool false), (.int 181 0), (.ref 12), .none, .none, .none, .none, (.int 185 0), (.int 1 0), (.str "/claim/cut.py" 186)]), #[]⟩) ::
 (⟨(.type "frame"), none, .plain, #[(some (.ref 13)), (some (.ref 3)), (some (.ref 3)), none, (some (.str "__main__" 164)), none, (some (.ref 0))]⟩) :: []
theorem z_hOth : K82.hOth = K82.hOth := rfl
name_quick K82_hOth for K82.hOth by K82.z_hOth
theorem z_hAo : K82.hAo = K82.hAo := rfl
name_quick K82_hAo for K82.hAo by K82.z_hAo
def hMrg : Nat → PySem.W.Frag → PySem.W.Frag → List Obj
  | 0, _, _ => []
  | n + 1, (a, o) :: r, (b, p) :: s => match Nat.blt a b with
    | true => o :: hMrg n r ((b, p) :: s)
    | false => p :: hMrg n ((a, o) :: r) s
  | n + 1, (_, o) :: r, [] => o :: hMrg n r []
  | n + 1, [], (_, p) :: s => p :: hMrg n [] s
  | _ + 1, [], [] => []
def hIns : List Obj → Nat → PySem.W.BT → PySem.W.BT
  | [], _, t => t
  | o :: r, n, t => hIns r (n + 1) (t.ins n o)
noncomputable def hTr (P : Params) : PySem.W.BT := hIns (hMrg 265 (PySem.W.Fast.K82_hK P) (PySem.W.Fast.K82_hOth P)) 0 .nil
noncomputable def hEnv : Env := { scope := PySem.W.Fast.K82_pw.main.scope, locals := mainNs, globals := mainNs, cells := [], code := (.ref 13), frame := some 14 }
noncomputable abbrev hCd : Code := Code.body (PySem.W.behindTheImports PySem.W.Fast.K82_pw) hEnv
noncomputable abbrev hSa (P : Params) (os : OsState) : PySem.W.SharedT := ⟨hIns (PySem.W.Fast.K82_hAo P) 0 .nil, 15, {}, Array.mk [], ⟨0, 0, 0, 0⟩, 187, os⟩
noncomputable abbrev hSm (P : Params) (os : OsState) : PySem.W.SharedT := ⟨hTr P, 265, {}, Array.mk [], ⟨0, 0, 0, 0⟩, 532, os⟩
set_option maxRecDepth 100000 in
set_option maxHeartbeats 0 in
theorem hPre (w : World) (os : OsState) : PySem.W.topGo PySem.W.Fast.tw14364793385576792824 PySem.W.Fast.K82_pw w 11 (some (.ref 6)) 12 ⟨PySem.W.boot_heap w.params, Array.mk [], PySem.W.boot_drawn, PySem.W.boot_toks, os⟩ (PySem.W.topStub PySem.W.Fast.K82_pw) = some ((hSa w.params os).abs, ⟨denote PySem.W.Fast.tw14364793385576792824 hCd, hCd, ⟨0, 0, 0, 0⟩, [PySem.W.topFrame ⟨0, 0, 0, 0⟩]⟩) := by kernel_rfl
set_option maxRecDepth 100000 in
set_option maxHeartbeats 0 in
theorem hBlk (w : World) (os : OsState) : PySem.W.segRun PySem.W.Fast.tw14364793385576792824 PySem.W.Fast.K82_pw w 11 (some (.ref 6)) 1 1 (hSa w.params os).abs (PySem.W.blockOf (PySem.W.behindTheImports PySem.W.Fast.K82_pw) hEnv hCd ⟨0, 0, 0, 0⟩ [PySem.W.topFrame ⟨0, 0, 0, 0⟩]) = some (.next, (hSa w.params os).abs, hCd, ⟨0, 0, 0, 0⟩) := by kernel_rfl
noncomputable abbrev hH1 (P : Params) : Heap := PySem.W.absHeap (hTr P) 265 {}
set_option maxRecDepth 100000 in
set_option maxHeartbeats 0 in
theorem hAllq (w : World) (os : OsState) : PySem.W.Fast.tw10110043849684766642 PySem.W.Fast.tw14364793385576792824 PySem.W.Fast.K82_pw w 11 (some (.ref 6)) 1 1781 (hSa w.params os) ⟨(PySem.W.Fast.tw12563942051412417395 (PySem.W.behindTheImports PySem.W.Fast.K82_pw) hEnv).wrap PySem.W.doneF PySem.W.deadEnd id id, hCd, ⟨0, 0, 0, 0⟩, [PySem.W.topFrame ⟨0, 0, 0, 0⟩]⟩ = some (.next, hSm w.params os, hCd, ⟨204, 0, 220, 116⟩) := by kernel_rfl
set_option maxRecDepth 100000 in
set_option maxHeartbeats 0 in
theorem hFin (w : World) (os : OsState) : PySem.W.topRun PySem.W.Fast.tw14364793385576792824 PySem.W.Fast.K82_pw w 11 (some (.ref 6)) 2 (hSm w.params os).abs (PySem.W.restOf [] hEnv hCd ⟨204, 0, 220, 116⟩ [PySem.W.topFrame ⟨0, 0, 0, 0⟩]) = some ⟨hH1 w.params, Array.mk [], ⟨0, 0, 0, 0⟩, 532, os⟩ := by kernel_rfl
theorem all_of {F F' : (String → Option Builtin) → Program → World → Nat → Option Value → Nat → Nat → PySem.W.SharedT → Thread → Option (Flow × PySem.W.SharedT × Code × Pos)} {G G' : List Stmt → Env → Sem Flow} {tb : String → Option Builtin} {p : Program} {w : World} {m n : Nat} {ann : Option Value} {S : PySem.W.SharedT} {l : List Stmt} {env : Env} {c : Code} {pos : Pos} {B : List Frame} {r : Option (Flow × PySem.W.SharedT × Code × Pos)}
    (h : F' tb p w m ann 1 n S ⟨(G' l env).wrap PySem.W.doneF PySem.W.deadEnd id id, c, pos, B⟩ = r) (eF : F = F') (eG : G = G') : F tb p w m ann 1 n S ⟨(G l env).wrap PySem.W.doneF PySem.W.deadEnd id id, c, pos, B⟩ = r := by
  subst eF eG; exact h
theorem run_chain {tb : String → Option Builtin} {p : Program} {w : World} {m n0 n1 n2 n3 : Nat} {ann : Option Value} {env : Env} {q : Pos} {b : List Stmt} {S0 Sa R : Shared} {SA SM : PySem.W.SharedT} {stub : Thread} {pos0 pos1 pos2 : Pos} (ea : SA.abs = Sa)
    (h1 : PySem.W.topGo tb p w m ann n0 S0 stub = some (Sa, ⟨denote tb (Code.body b env), Code.body b env, pos0, [PySem.W.topFrame q]⟩))
    (h2 : PySem.W.segRun tb p w m ann 1 n1 Sa (PySem.W.blockOf b env (Code.body b env) pos0 [PySem.W.topFrame q]) = some (.next, Sa, Code.body b env, pos1))
    (h3 : PySem.W.segRunT tb p w m ann 1 n2 SA (PySem.W.piecesOf b env (Code.body b env) pos1 [PySem.W.topFrame q]) = some (.next, SM, Code.body b env, pos2))
    (h4 : PySem.W.topRun tb p w m ann n3 SM.abs (PySem.W.restOf [] env (Code.body b env) pos2 [PySem.W.topFrame q]) = some R) : PySem.W.topRun tb p w m ann (n0 + (n1 + (n2 + n3))) S0 stub = some R := by
  subst ea
  refine PySem.W.go_top h1 (PySem.W.piece_block h2 ?_)
  have h := PySem.W.piece_app (rest := []) (PySem.W.segRun_of h3) h4
  rw [List.append_nil] at h
  exact h
set_option maxRecDepth 100000 in
set_option maxHeartbeats 0 in
theorem hRun (w : World) (os : OsState) : PySem.W.topRun PySem.W.Fast.tw14364793385576792824 PySem.W.Fast.K82_pw w 11 (some (.ref 6)) (12 + (1 + (1781 + 2))) ⟨PySem.W.boot_heap w.params, Array.mk [], PySem.W.boot_drawn, PySem.W.boot_toks, os⟩ (PySem.W.topStub PySem.W.Fast.K82_pw) = some ⟨hH1 w.params, Array.mk [], ⟨0, 0, 0, 0⟩, 532, os⟩ :=
  run_chain rfl (hPre w os) (hBlk w os) (all_of (hAllq w os) PySem.W.Fast.te10110043849684766642 PySem.W.Fast.te12563942051412417395) (hFin w os)
abbrev hG {t : Type} (p q : Program) (lo : List Str) (lv : List (Str × PySem.W.WData)) (K : Params → PySem.W.Frag) (sn : Program → List Str → List Str → (Shared → Bool) → Bool → Shared → t) (gd : Program → List Str → t) (im : List Stmt → List Str) (w : World) : Prop :=
  (fun os : OsState => ((PySem.W.staticsOk (im p.main.body) (PySem.W.boot_heap w.params) (hH1 w.params) && PySem.W.namesBound p (hH1 w.params) && PySem.W.gensDone ⟨hH1 w.params, Array.mk [], ⟨0, 0, 0, 0⟩, 532, os⟩ && PySem.W.laidKept (PySem.W.boot_heap w.params) (hH1 w.params)), sn q lo (im p.main.body) (hXt q lv) true ⟨hH1 w.params, Array.mk [], ⟨0, 0, 0, 0⟩, 532, os⟩, hYf ⟨hH1 w.params, Array.mk [], ⟨0, 0, 0, 0⟩, 532, os⟩)) = fun _ => (true, gd q lo, hYa K w)
theorem hG_of {t : Type} {p p' q q' : Program} {lo lo' : List Str} {lv lv' : List (Str × PySem.W.WData)} {K K' : Params → PySem.W.Frag} {sn sn' : Program → List Str → List Str → (Shared → Bool) → Bool → Shared → t} {gd : Program → List Str → t} {im im' : List Stmt → List Str} {w : World}
    (h : hG p' q' lo' lv' K' sn' gd im' w) (e2 : p = p') (e3 : q = q') (e4 : lo = lo') (e5 : lv = lv') (e6 : K = K') (e7 : sn = sn') (e8 : im = im') : hG p q lo lv K sn gd im w := by
  subst e2 e3 e4 e5 e6 e7 e8; exact h
set_option maxRecDepth 100000 in
set_option maxHeartbeats 0 in
theorem hLk (w : World) : hG PySem.W.Fast.K82_pw PySem.W.Fast.K82_hQ PySem.W.Fast.K82_hLo PySem.W.Fast.K82_hLv PySem.W.Fast.K82_hK PySem.W.Fast.tw4187177175401517315 PySem.W.openGood PySem.W.Fast.tw5923862056798008813 w := by kernel_rfl
theorem hR_of {tb tb' : String → Option Builtin} {p p' : Program} {M : Nat} {S R : World → OsState → Shared} (h : ∀ w os, PySem.W.topRun tb' p' w 11 (some (.ref 6)) M (S w os) (PySem.W.topStub p') = some (R w os)) (e1 : tb = tb') (e2 : p = p') : ∀ w os, PySem.W.topRun tb p w 11 (some (.ref 6)) M (S w os) (PySem.W.topStub p) = some (R w os) := by
  subst e1 e2; exact h
set_option maxRecDepth 100000 in
set_option maxHeartbeats 0 in
theorem hSz (w : World) : ((PySem.W.boot_heap w.params).isNs mainGlobals && (Array.mk [] : Array GenState).size == 0, (PySem.W.boot_heap w.params).objs.size, (PySem.W.boot_heap w.params).nsMap mainGlobals "__annotations__") = (true, 11, (some (.ref 6))) := by kernel_rfl
set_option maxRecDepth 100000 in
set_option maxHeartbeats 0 in
theorem hl : PySem.W.LeftO PySem.Challenge.pw_notefall_k82_shelves_cut hQ hLo (hXt hQ hLv) hYf (hYa hK) 3668 :=
  PySem.W.LeftO.of_pieces (H₁ := hH1) (gs₁ := Array.mk []) (d₁ := ⟨0, 0, 0, 0⟩) (k₁ := 532) (PySem.W.boot_open (by kernel_rfl) (by decide +kernel) (fun s => by kernel_rfl)) hSz (hR_of (M := (12 + (1 + (1781 + 2)))) hRun PySem.W.Fast.te14364793385576792824 PySem.W.Fast.K82_pw_eq) (by decide +kernel)
    (fun w => hG_of (hLk w) PySem.W.Fast.K82_pw_eq PySem.W.Fast.K82_hQ_eq PySem.W.Fast.K82_hLo_eq PySem.W.Fast.K82_hLv_eq PySem.W.Fast.K82_hK_eq PySem.W.Fast.te4187177175401517315 PySem.W.Fast.te5923862056798008813)
end K82
open PySem PySem.W PyProof.Rows
set_option maxRecDepth 100000 in
set_option maxHeartbeats 0 in
theorem PySem.Challenge.cw_notefall_k82_shelves_cut_holds : PySem.Challenge.rw_notefall_k82_shelves_cut.Holds := by
  w_on; o_law
  refine holds_open (q := K82.hQ) (loose := K82.hLo) (Xt := K82.hXt K82.hQ K82.hLv) (XP := XL K82.hQ K82.hLv) (Yf := K82.hYf) (Ya := K82.hYa K82.hK) (YP := Hook.says (PySem.W.kHook K82.hK K82.hAs K82.hE)) (N := 3668) K82.hl (Hook.of (PySem.W.kHook K82.hK K82.hAs K82.hE)) (Hook.keeps (PySem.W.kHook K82.hK K82.hAs K82.hE)) (fun s e => xl_of s (Bool.and_eq_true_iff.mp e).1) XL.keeps (by rfl) (by rfl) (by rfl) (fun s e => recFacts_of (Bool.and_eq_true_iff.mp e).2) (by rfl) (by first | assumption | decide +kernel) (by decide +kernel) ⟨rfl, rfl, rfl, rfl, rfl, by decide +kernel⟩ ?hw ?hc
  case hw => w_witness2
  k_fill
  refine K82.walk (l := PySem.Challenge.rw_notefall_k82_shelves_cut) rfl rfl (fun w h Y => PySem.W.kIn_of Y) ?F
  case F =>
    intro w mg fa h KX G hmg
    refine' K82.all_mk KX G hmg ?na_Shelf_diary ?na_Shelf_first_diary ?na_Shelf_first_sheets ?na_Shelf_sheets ?na_Shelf_writes ?qa_Shelf ?qb_Shelf ?qc_Shelf ?qd_Shelf ?qm_Shelf ?qk_Shelf ?a1 ?l1 ?c1 ?k1 ?a2 ?l2 ?c2 ?k2 ?a3 ?l3 ?c3 ?k3 ?i4 ?l4 ?c4 ?k4 ?n4 ?i5 ?l5 ?c5 ?k5 ?n5 ?i6 ?l6 ?c6 ?k6 ?n6 ?i7 ?l7 ?c7 ?k7 ?n7 ?i8 ?l8 ?c8 ?k8 ?n8 ?i9 ?l9 ?c9 ?k9 ?n9 ?i10 ?l10 ?c10 ?k10 ?n10 ?i11 ?l11 ?c11 ?k11 ?n11 ?i12 ?l12 ?c12 ?k12 ?n12 ?i13 ?l13 ?c13 ?k13 ?n13 ?i14 ?l14 ?c14 ?k14 ?n14 ?a15 ?l15 ?c15 ?k15 ?a16 ?l16 ?c16 ?k16 ?a17 ?l17 ?c17 ?k17 ?a18 ?l18 ?c18 ?k18 ?a19 ?l19 ?c19 ?k19 ?a20 ?l20 ?c20 ?k20 ?a21 ?l21 ?c21 ?k21 ?a22 ?l22 ?c22 ?k22 ?a23 ?l23 ?c23 ?k23 ?a24 ?l24 ?c24 ?k24 ?a25 ?l25 ?c25 ?k25 ?a26 ?l26 ?c26 ?k26 ?a27 ?l27 ?c27 ?k27 ?a28 ?l28 ?c28 ?k28 ?a29 ?l29 ?c29 ?k29 ?z_len ?z_isinstance ?z_int ?z_bool ?z_max ?z_dict ?z_list ?z_sorted ?z_str ?z_tuple ?z_range ?z_min ?z_all ?z_zip ?z_ValueError ?z_MOST_PLACE ?z_FallError ?z_NoPlace ?z_NoCut ?z_Shelf ?z_gt ?z_tk ?z_xN ?z_gaN ?z_ghN ?z_clN ?z_moN ?z_mbN ?z_isN ?z_mN ?z_kN0 ?z_kN1 ?z_kN2
    (case z_MOST_PLACE => k_is)
    (case z_FallError => k_is)
    (case z_NoPlace => k_is)
    (case z_NoCut => k_is)
    (case z_Shelf => k_is)
    (case na_Shelf_diary => k_is)
    (case na_Shelf_first_diary => k_is)
    (case na_Shelf_first_sheets => k_is)
    (case na_Shelf_sheets => k_is)
    (case na_Shelf_writes => k_is)
    (case qa_Shelf => k_is)
    (case qb_Shelf => k_is)
    (case qc_Shelf => k_is)
    (case qd_Shelf => k_is)
    (case qm_Shelf => k_is)
    (case qk_Shelf => k_is)
    (case a1 => k_is)
    (case l1 => k_is)
    (case c1 => k_is)
    (case k1 => k_is)
    (case a2 => k_is)
    (case l2 => k_is)
    (case c2 => k_is)
    (case k2 => k_is)
    (case a3 => k_is)
    (case l3 => k_is)
    (case c3 => k_is)
    (case k3 => k_is)
    (case i4 => k_is)
    (case l4 => k_is)
    (case c4 => k_is)
    (case k4 => k_is)
    (case n4 => k_is)
    (case i5 => k_is)
    (case l5 => k_is)
    (case c5 => k_is)
    (case k5 => k_is)
    (case n5 => k_is)
    (case i6 => k_is)
    (case l6 => k_is)
    (case c6 => k_is)
    (case k6 => k_is)
    (case n6 => k_is)
    (case i7 => k_is)
    (case l7 => k_is)
    (case c7 => k_is)
    (case k7 => k_is)
    (case n7 => k_is)
    (case i8 => k_is)
    (case l8 => k_is)
    (case c8 => k_is)
    (case k8 => k_is)
    (case n8 => k_is)
    (case i9 => k_is)
    (case l9 => k_is)
    (case c9 => k_is)
    (case k9 => k_is)
    (case n9 => k_is)
    (case i10 => k_is)
    (case l10 => k_is)
    (case c10 => k_is)
    (case k10 => k_is)
    (case n10 => k_is)
    (case i11 => k_is)
    (case l11 => k_is)
    (case c11 => k_is)
    (case k11 => k_is)
    (case n11 => k_is)
    (case i12 => k_is)
    (case l12 => k_is)
    (case c12 => k_is)
    (case k12 => k_is)
    (case n12 => k_is)
    (case i13 => k_is)
    (case l13 => k_is)
    (case c13 => k_is)
    (case k13 => k_is)
    (case n13 => k_is)
    (case i14 => k_is)
    (case l14 => k_is)
    (case c14 => k_is)
    (case k14 => k_is)
    (case n14 => k_is)
    (case a15 => k_is)
    (case l15 => k_is)
    (case c15 => k_is)
    (case k15 => k_is)
    (case a16 => k_is)
    (case l16 => k_is)
    (case c16 => k_is)
    (case k16 => k_is)
    (case a17 => k_is)
    (case l17 => k_is)
    (case c17 => k_is)
    (case k17 => k_is)
    (case a18 => k_is)
    (case l18 => k_is)
    (case c18 => k_is)
    (case k18 => k_is)
    (case a19 => k_is)
    (case l19 => k_is)
    (case c19 => k_is)
    (case k19 => k_is)
    (case a20 => k_is)
    (case l20 => k_is)
    (case c20 => k_is)
    (case k20 => k_is)
    (case a21 => k_is)
    (case l21 => k_is)
    (case c21 => k_is)
    (case k21 => k_is)
    (case a22 => k_is)
    (case l22 => k_is)
    (case c22 => k_is)
    (case k22 => k_is)
    (case a23 => k_is)
    (case l23 => k_is)
    (case c23 => k_is)
    (case k23 => k_is)
    (case a24 => k_is)
    (case l24 => k_is)
    (case c24 => k_is)
    (case k24 => k_is)
    (case a25 => k_is)
    (case l25 => k_is)
    (case c25 => k_is)
    (case k25 => k_is)
    (case a26 => k_is)
    (case l26 => k_is)
    (case c26 => k_is)
    (case k26 => k_is)
    (case a27 => k_is)
    (case l27 => k_is)
    (case c27 => k_is)
    (case k27 => k_is)
    (case a28 => k_is)
    (case l28 => k_is)
    (case c28 => k_is)
    (case k28 => k_is)
    (case a29 => k_is)
    (case l29 => k_is)
    (case c29 => k_is)
    (case k29 => k_is)
    (case z_len => k_is)
    (case z_isinstance => k_is)
    (case z_int => k_is)
    (case z_bool => k_is)
    (case z_max => k_is)
    (case z_dict => k_is)
    (case z_list => k_is)
    (case z_sorted => k_is)
    (case z_str => k_is)
    (case z_tuple => k_is)
    (case z_range => k_is)
    (case z_min => k_is)
    (case z_all => k_is)
    (case z_zip => k_is)
    (case z_ValueError => k_is)
    (case z_gt => k_is)
    (case z_tk => k_is)
    (case z_xN => k_exc)
    (case z_gaN => k_is)
    (case z_ghN => k_is)
    (case z_clN => k_is)
    (case z_moN => k_is)
    (case z_mbN => k_is)
    (case z_isN => k_is)
    (case z_mN => kts_exm)
    (case z_kN0 => kit_is)
    (case z_kN1 => kit_is)
    (case z_kN2 => kit_is)
