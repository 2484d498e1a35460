import PyProof.Rows.All
import Wide.All
import OpenK.AllK
import Wide.FinOn
import Lean
import PyProof.EqAt
import PyProof.EqKinds
import PyProof.TupleCall
import PySem.Challenge.RW_notefall_k71_rooms_written
set_option Elab.async false
set_option linter.all false
set_option maxRecDepth 100000
namespace L2
open PySem PySem.Spec PyProof.Rows
abbrev Key := Sum Int Str
def keyIs : Key → Value → Bool
  | .inl k, v => Value.isInt k v
  | .inr x, v => Value.isStrOf x v
def keyH (w : World) : Key → Int
  | .inl k => hashInt k
  | .inr x => hashStr w x
theorem keyIs_shape : ∀ {k : Key} {v : Value}, keyIs k v = true → (∃ i t, k = Sum.inl i ∧ v = Value.int i t) ∨ (∃ x t, k = Sum.inr x ∧ v = Value.str x t)
  | .inl i, v, h => by
    obtain ⟨t, e⟩ := Value.isInt_shape (k := i) (v := v) h
    exact .inl ⟨i, t, rfl, e⟩
  | .inr x, v, h => by
    obtain ⟨t, e⟩ := Value.isStrOf_shape (x := x) (v := v) h
    exact .inr ⟨x, t, rfl, e⟩
theorem keyIs_int (i : Int) (t : Tok) : keyIs (.inl i) (.int i t) = true := by simp [keyIs, Value.isInt]
theorem keyIs_str (x : Str) (t : Tok) : keyIs (.inr x) (.str x t) = true := by simp [keyIs, Value.isStrOf]
theorem key_ll (a b : Int) : decide ((Sum.inl a : Key) = Sum.inl b) = (a == b) := by
  by_cases e : a = b
  · subst e; simp
  · have h : ¬ (Sum.inl a : Key) = Sum.inl b := fun q => e (Sum.inl.inj q)
    rw [decide_eq_false h]
    exact (beq_eq_false_iff_ne.mpr e).symm
theorem key_rr (a b : Str) : decide ((Sum.inr a : Key) = Sum.inr b) = decide (a = b) := by
  by_cases e : a = b
  · subst e; simp
  · have h : ¬ (Sum.inr a : Key) = Sum.inr b := fun q => e (Sum.inr.inj q)
    rw [decide_eq_false h, decide_eq_false e]
theorem key_lr (a : Int) (b : Str) : decide ((Sum.inl a : Key) = Sum.inr b) = false := decide_eq_false (fun q => nomatch q)
theorem key_rl (a : Str) (b : Int) : decide ((Sum.inr a : Key) = Sum.inl b) = false := decide_eq_false (fun q => nomatch q)
def mixKind (prog : Program) (w : World) : PySem.KeyKind prog w Key where
  is := keyIs
  hash := keyH w
  inj := fun v a b ha hb => by
    rcases keyIs_shape ha with ⟨i, t, rfl, rfl⟩ | ⟨x, t, rfl, rfl⟩
    · rcases keyIs_shape hb with ⟨j, u, rfl, e⟩ | ⟨y, u, rfl, e⟩
      · injection e with e1 _; rw [e1]
      · exact nomatch e
    · rcases keyIs_shape hb with ⟨j, u, rfl, e⟩ | ⟨y, u, rfl, e⟩
      · exact nomatch e
      · injection e with e1 _; rw [e1]
  byValue := fun k v h => by
    rcases keyIs_shape h with ⟨i, t, rfl, rfl⟩ | ⟨x, t, rfl, rfl⟩ <;> rfl
  pyHash := fun hv h => by
    rcases keyIs_shape hv with ⟨i, t, rfl, rfl⟩ | ⟨x, t, rfl, rfl⟩
    · exact wpAny_pyHash_int h
    · exact wpAny_pyHash_str h
  eqBool := fun hu hv h => by
    rcases keyIs_shape hu with ⟨i, t, rfl, rfl⟩ | ⟨x, t, rfl, rfl⟩
    · rcases keyIs_shape hv with ⟨j, u, rfl, rfl⟩ | ⟨y, u, rfl, rfl⟩
      · rw [key_ll] at h; exact wpAny_eqBool_int h
      · rw [key_lr] at h; exact SeqAt.EqAt.int_str i t y u _ _ _ _ h
    · rcases keyIs_shape hv with ⟨j, u, rfl, rfl⟩ | ⟨y, u, rfl, rfl⟩
      · rw [key_rl] at h; exact SeqAt.EqAt.str_int x t j u _ _ _ _ h
      · rw [key_rr] at h; exact wpAny_eqBool_str h
  «strs» := fun k x t v h => by
    rcases keyIs_shape h with ⟨i, u, rfl, e⟩ | ⟨y, u, rfl, e⟩
    · exact nomatch e
    · injection e with e1 _
      subst e1
      cases v <;> rfl
theorem mixKind_int (prog : Program) (w : World) (i : Int) (t : Tok) : (mixKind prog w).is (.inl i) (.int i t) = true := keyIs_int i t
theorem mixKind_str (prog : Program) (w : World) (x : Str) (t : Tok) : (mixKind prog w).is (.inr x) (.str x t) = true := keyIs_str x t
end L2
namespace L2
open PySem PySem.Spec PyProof.Rows
inductive V where
  | non | bl (b : Bool) | int (i : Int) | str (x : Str) | byt (b : Array UInt8) | flt (b : UInt64) | ref (a : Addr) | ty (n : String)
  deriving DecidableEq
def RelV : V → Value → Prop
  | .non, u => u = Value.none
  | .bl b, u => u = Value.bool b
  | .int i, u => ∃ t, u = Value.int i t
  | .str x, u => ∃ t, u = Value.str x t
  | .byt b, u => ∃ t, u = Value.bytes b t
  | .flt b, u => ∃ t, u = Value.float b t
  | .ref a, u => u = Value.ref a
  | .ty n, u => u = Value.type n
abbrev Vals : List V → List Value → Prop := Paired RelV
theorem Vals.length {xs : List V} {us : List Value} (r : Vals xs us) : xs.length = us.length := Paired.length r
theorem Vals.get : ∀ {xs : List V} {us : List Value} {i : Nat} {x : V}, Vals xs us → xs[i]? = some x → ∃ u, us[i]? = some u ∧ RelV x u
  | _, _, _, _, .nil, e => by simp at e
  | _, _, 0, _, .cons r _, e => by simp at e; subst e; exact ⟨_, rfl, r⟩
  | _, _, i + 1, x, .cons _ t, e => by
    obtain ⟨u, h1, h2⟩ := Vals.get (i := i) (x := x) t (by simpa using e)
    exact ⟨u, by simpa using h1, h2⟩
theorem Vals.set {x : V} {u : Value} (r : RelV x u) : ∀ {xs : List V} {us : List Value} (i : Nat), Vals xs us → Vals (xs.set i x) (us.set i u)
  | _, _, _, .nil => .nil
  | _, _, 0, .cons _ t => .cons r t
  | _, _, i + 1, .cons q t => .cons q (Vals.set r i t)
theorem Vals.append : ∀ {xs ys : List V} {us ws : List Value}, Vals xs us → Vals ys ws → Vals (xs ++ ys) (us ++ ws)
  | _, _, _, _, .nil, s => s
  | _, _, _, _, .cons r t, s => .cons r (Vals.append t s)
theorem Vals.take : ∀ {xs : List V} {us : List Value} (n : Nat), Vals xs us → Vals (xs.take n) (us.take n)
  | _, _, 0, _ => .nil
  | _, _, _ + 1, .nil => .nil
  | _, _, n + 1, .cons r t => .cons r (Vals.take n t)
theorem Vals.drop : ∀ {xs : List V} {us : List Value} (n : Nat), Vals xs us → Vals (xs.drop n) (us.drop n)
  | _, _, 0, r => r
  | _, _, _ + 1, .nil => .nil
  | _, _, n + 1, .cons _ t => Vals.drop n t
theorem Vals.none_of : ∀ {xs : List V} {us : List Value} {i : Nat}, Vals xs us → xs[i]? = none → us[i]? = none := fun {xs us i} r e => by
  have h1 := r.length
  have h2 : xs.length ≤ i := List.getElem?_eq_none_iff.mp e
  exact List.getElem?_eq_none_iff.mpr (by omega)
def RelO : Option V → Option Value → Prop
  | some v, some u => RelV v u
  | none, none => True
  | _, _ => False
def KV {κ : Type} : List (κ × V) → List (κ × Value) → Prop := Paired fun (p : κ × V) (q : κ × Value) => p.1 = q.1 ∧ RelV p.2 q.2
def kV : Key → V
  | .inl i => .int i
  | .inr x => .str x
inductive HO where
  | lst (xs : List V)
  | tup (xs : List V)
  | dK (kvs : List (Key × V)) | dT (kvs : List (List Key × V))
  | set (S : Int → Bool) (n : Nat)
  | ins (C dx : Addr) (fs : List (Str × V))
  | own (x : Addr)
  | xd (fs : List (Str × V))
  | met (f x : Addr)
  | rng (lo hi : Int)
  | frz (o : Obj) (u : HO)
  | tbl (ps : Array Value)
  | ext (φ : Heap → Prop)
abbrev Hp := Addr → Option HO
def upd (H : Hp) (a : Addr) (o : HO) : Hp := fun b => if b = a then some o else H b
theorem upd_same {H : Hp} {a : Addr} {o : HO} : upd H a o a = some o := by unfold upd; rw [if_pos rfl]
theorem upd_ne {H : Hp} {a b : Addr} {o : HO} (h : b ≠ a) : upd H a o b = H b := by unfold upd; rw [if_neg h]
theorem ne_of {H : Hp} {a b : Addr} {o u : HO} (h : H a = some o) (h' : H b = some u) (d : o ≠ u) : a ≠ b := by
  intro e; subst e; rw [h] at h'; exact d (Option.some.inj h')
theorem ne_of_none {H : Hp} {a b : Addr} {o : HO} (h : H a = some o) (h' : H b = none) : a ≠ b := by
  intro e; subst e; rw [h] at h'; cases h'
section
variable (P : Program) (w : World)
def ObjOk (H : Hp) (h : Heap) (a : Addr) : HO → Prop
  | .lst xs => xs.length ≤ sizeLine ∧ ∃ (its : List Value) (n : Nat), Vals xs its ∧ h.get? a = some { cls := .type "list", data := .seq its.toArray n }
  | .tup xs => xs.length ≤ sizeLine ∧ ∃ its : List Value, Vals xs its ∧ IsTup h a its.toArray
  | .dK kvs => kvs.length ≤ sizeLine ∧ (a == sysModules) = false ∧ ∃ vs, KV kvs vs ∧ h.DictOf (mixKind P w) a vs
  | .dT kvs => kvs.length ≤ sizeLine ∧ (a == sysModules) = false ∧ ∃ xs : List (List Key × Addr × Value),
      Paired (fun (p : List Key × V) (q : List Key × Addr × Value) => p.1 = q.1 ∧ H q.2.1 = some (.tup (p.1.map kV)) ∧ RelV p.2 q.2.2) kvs xs ∧
      ∃ o es ep, h.get? a = some o ∧ o.ExactDict ∧ o.data = .dict es ep ∧ es.toList = xs.map (entryOfKey (tupleKind (mixKind P w))) ∧ (xs.map (·.1)).Nodup
  | .set S n => h.SetOf (intKind P w) a S n
  | .ins C dx fs => H dx = some (.own a) ∧ fs.length ≤ 1000 ∧ dx ≠ a ∧ h.get? a = some (PySem.W.instObj C dx) ∧
      ∃ mA, h.Ns1 dx mA ∧ (∀ f, RelO (fs.lookup f) (mA f)) ∧ PySem.Within mA (fs.map (·.1))
  | .own _ => ∃ o, h.get? a = some o
  | .xd fs => ∃ mA, h.Ns1 a mA ∧ ∀ f, RelO (fs.lookup f) (mA f)
  | .rng lo hi => ∃ t u v, h.get? a = some { cls := .type "range", data := .fields #[.int lo t, .int hi u, .int 1 v] }
  | .frz o u => h.get? a = some o ∧ ObjOk H h a u
  | .tbl ps => h.get? a = some { cls := .none, data := .fields ps }
  | .met f x => h.get? a = some (PySem.W.methodObj (.ref f) (.ref x))
  | .ext φ => φ h ∧ (∃ o, h.get? a = some o) ∧ ∀ h1 h2 : Heap, φ h1 → (∀ o, h1.get? a = some o → h2.get? a = some o) → φ h2
def HOk (H : Hp) (h : Heap) : Prop := ∀ a o, H a = some o → ObjOk P w H h a o
end
section
variable {P : Program} {w : World} {H H' : Hp} {h h' : Heap} {a : Addr} {o : HO}
theorem ObjOk.lt (x : ObjOk P w H h a o) : a < h.objs.size := by
  cases o with
  | lst xs => obtain ⟨_, _, _, _, e⟩ := x; exact Heap.lt_size e
  | tup xs => obtain ⟨_, _, _, p⟩ := x; exact p.lt
  | dK kvs => obtain ⟨_, _, _, _, o, _, _, e, _⟩ := x; exact Heap.lt_size e
  | dT kvs => obtain ⟨_, _, _, _, o, _, _, e, _⟩ := x; exact Heap.lt_size e
  | set S n => obtain ⟨o, _, _, _, e, _⟩ := x; exact Heap.lt_size e
  | ins C dx fs => obtain ⟨_, _, _, e, _⟩ := x; exact Heap.lt_size e
  | own y => obtain ⟨_, e⟩ := x; exact Heap.lt_size e
  | xd fs => obtain ⟨_, ⟨_, _, _, e, _⟩, _⟩ := x; exact Heap.lt_size e
  | rng lo hi => obtain ⟨_, _, _, e⟩ := x; exact Heap.lt_size e
  | frz ob u => obtain ⟨e, _⟩ := x; exact Heap.lt_size e
  | tbl ps => exact Heap.lt_size (show h.get? a = some _ from x)
  | met f y => exact Heap.lt_size (show h.get? a = some _ from x)
  | ext φ => obtain ⟨_, ⟨_, e⟩, _⟩ := x; exact Heap.lt_size e
theorem Paired.mapP {α β : Type} {F G : α → β → Prop} : ∀ {l₁ : List α} {l₂ : List β}, Paired F l₁ l₂ → (∀ a b, F a b → G a b) → Paired G l₁ l₂
  | _, _, .nil, _ => .nil
  | _, _, .cons r t, f => .cons (f _ _ r) (Paired.mapP t f)
theorem ObjOk.stay (x : ObjOk P w H h a o) (k : ∀ b u, (b = a ∨ H b = some (.own a)) → h.get? b = some u → h'.get? b = some u)
    (ho : ∀ b, H b = some (.own a) → H' b = some (.own a)) (ht : ∀ b xs, H b = some (.tup xs) → H' b = some (.tup xs)) : ObjOk P w H' h' a o := by
  induction o with
  | lst xs => obtain ⟨z, its, n, r, e⟩ := x; exact ⟨z, its, n, r, k _ _ (.inl rfl) e⟩
  | tup xs => obtain ⟨z, its, r, ob, e, c⟩ := x; exact ⟨z, its, r, ob, k _ _ (.inl rfl) e, c⟩
  | dK kvs => obtain ⟨z, y, vs, r, ob, es, ep, e, c⟩ := x; exact ⟨z, y, vs, r, ob, es, ep, k _ _ (.inl rfl) e, c⟩
  | dT kvs =>
    obtain ⟨z, y, xs, r, ob, es, ep, e, c⟩ := x
    exact ⟨z, y, xs, Paired.mapP r fun p q z => ⟨z.1, ht _ _ z.2.1, z.2.2⟩, ob, es, ep, k _ _ (.inl rfl) e, c⟩
  | set S n => obtain ⟨ob, es, ep, t, e, c⟩ := x; exact ⟨ob, es, ep, t, k _ _ (.inl rfl) e, c⟩
  | ins C dx fs =>
    obtain ⟨d, z, ne, e, mA, ⟨od, es, ep, e2, c⟩, r⟩ := x
    exact ⟨ho _ d, z, ne, k _ _ (.inl rfl) e, mA, ⟨od, es, ep, k _ _ (.inr d) e2, c⟩, r⟩
  | own y => obtain ⟨ob, e⟩ := x; exact ⟨ob, k _ _ (.inl rfl) e⟩
  | xd fs => obtain ⟨mA, ⟨od, es, ep, e, c⟩, r⟩ := x; exact ⟨mA, ⟨od, es, ep, k _ _ (.inl rfl) e, c⟩, r⟩
  | rng lo hi => obtain ⟨t, u, v, e⟩ := x; exact ⟨t, u, v, k _ _ (.inl rfl) e⟩
  | frz ob u ih => obtain ⟨e, q⟩ := x; exact ⟨k _ _ (.inl rfl) e, ih q⟩
  | tbl ps =>
    have e : h.get? a = some { cls := .none, data := .fields ps } := x
    show h'.get? a = some { cls := .none, data := .fields ps }
    exact k a _ (.inl rfl) e
  | met f y =>
    have e : h.get? a = some (PySem.W.methodObj (.ref f) (.ref y)) := x
    show h'.get? a = some (PySem.W.methodObj (.ref f) (.ref y))
    exact k a _ (.inl rfl) e
  | ext φ => obtain ⟨p, ⟨o, e⟩, st⟩ := x; exact ⟨st _ _ p fun o q => k _ _ (.inl rfl) q, ⟨o, k _ _ (.inl rfl) e⟩, st⟩
theorem HOk.lt (x : HOk P w H h) (e : H a = some o) : a < h.objs.size := (x a o e).lt
theorem HOk.fresh (x : HOk P w H h) (e : h.objs.size ≤ a) : H a = none := by
  cases q : H a with
  | none => rfl
  | some u => exact absurd (Nat.lt_of_lt_of_le (x.lt q) e) (Nat.lt_irrefl _)
theorem HOk.kept (x : HOk P w H h) (k : ∀ b u, h.get? b = some u → h'.get? b = some u) : HOk P w H h' := fun a o e =>
  (x a o e).stay (fun b u _ q => k b u q) (fun _ q => q) fun _ _ q => q
theorem HOk.laid (x : HOk P w H h) (k : ∀ b u, h.get? b = some u → h'.get? b = some u) (hp : h.objs.size ≤ a) (new : ObjOk P w (upd H a o) h' a o) : HOk P w (upd H a o) h' := fun b u e => by
  have hn := x.fresh hp
  by_cases hb : b = a
  · subst hb; rw [upd_same] at e; cases e; exact new
  · rw [upd_ne hb] at e
    exact (x b u e).stay (fun c v _ q => k c v q) (fun c q => by rw [upd_ne (ne_of_none q hn)]; exact q) fun c xs q => by rw [upd_ne (ne_of_none q hn)]; exact q
end
def Rd (H : Hp) (a : Addr) (u : HO) : Prop := H a = some u ∨ ∃ o, H a = some (.frz o u)
theorem Rd.of {H : Hp} {a : Addr} {u : HO} (h : H a = some u) : Rd H a u := .inl h
theorem Rd.ok {P : Program} {w : World} {H : Hp} {h : Heap} {a : Addr} {u : HO} (r : Rd H a u) (x : HOk P w H h) : ObjOk P w H h a u := by
  rcases r with r | ⟨o, r⟩
  · exact x a u r
  · obtain ⟨_, q⟩ := x a _ r
    exact q
def Mut : Option HO → Prop
  | some (.lst _) => True
  | some (.dK _) => True
  | some (.dT _) => True
  | some (.set _ _) => True
  | some (.ins _ _ _) => True
  | some (.ext _) => True
  | _ => False
section
variable {P : Program} {w : World} {H : Hp} {h h' : Heap} {x e : Addr} {o' : HO}
theorem HOk.write (ok : HOk P w H h) (mu : Mut (H x)) (he : e = x ∨ H e = some (.own x)) (k : ∀ b u, b ≠ e → h.get? b = some u → h'.get? b = some u) (heo : ∃ u, h'.get? e = some u)
    (new : ObjOk P w (upd H x o') h' x o') : HOk P w (upd H x o') h' := fun b u q => by
  have nown : ∀ c y, H c = some (.own y) → c ≠ x := fun c y r z => by subst z; rw [r] at mu; exact mu
  have ntup : ∀ c xs, H c = some (.tup xs) → c ≠ x := fun c xs r z => by subst z; rw [r] at mu; exact mu
  by_cases hb : b = x
  · subst hb; rw [upd_same] at q; cases q; exact new
  · rw [upd_ne hb] at q
    by_cases hbe : b = e
    · have q' : H b = some (.own x) := by
        rcases he with z | z
        · exact absurd (hbe.trans z) hb
        · rw [hbe]; exact z
      rw [q] at q'; cases q'
      obtain ⟨v, hv⟩ := heo
      exact ⟨v, by rw [hbe]; exact hv⟩
    · refine (ok b u q).stay (fun c v hc r => k c v ?_ r) (fun c r => by rw [upd_ne (nown c b r)]; exact r) fun c xs r => by rw [upd_ne (ntup c xs r)]; exact r
      rcases hc with rfl | hc
      · exact hbe
      · rintro rfl
        rcases he with z | z
        · exact nown c b hc z
        · rw [hc] at z; cases z; exact hb rfl
end
structure Un (fs ex : List Addr) (H H' : Hp) (h h' : Heap) : Prop where
  keep : ∀ b o, h.get? b = some o → H b = none → b ∉ fs → b ∉ ex → h'.get? b = some o
  slot : ∀ b o, h.get? b = some o → H b = none → b ∈ fs → b ∉ ex → ∃ sl, h'.get? b = some { o with slots := sl }
  free : ∀ b o, h.get? b = some o → H b = none → b ∉ ex → H' b = none
  there : ∀ b o, h.get? b = some o → b ∉ ex → ∃ o', h'.get? b = some o'
  tups : ∀ b xs, H b = some (.tup xs) → H' b = some (.tup xs)
  frzs : ∀ b o u, H b = some (.frz o u) → H' b = some (.frz o u)
  tbls : ∀ b ps, H b = some (.tbl ps) → ∃ more, H' b = some (.tbl (ps ++ more))
section
variable {fs fs' ex ex' : List Addr} {H H1 H2 : Hp} {h h1 h2 h' : Heap} {a x e : Addr} {o : HO}
theorem Un.any (u : Un fs ex H H1 h h1) {b : Addr} {ob : Obj} (q : h.get? b = some ob) (n : H b = none) (hx : b ∉ ex) : ∃ sl, h1.get? b = some { ob with slots := sl } := by
  by_cases hb : b ∈ fs
  · exact u.slot b ob q n hb hx
  · exact ⟨ob.slots, u.keep b ob q n hb hx⟩
theorem Un.trans (a : Un fs ex H H1 h h1) (b : Un fs ex H1 H2 h1 h2) : Un fs ex H H2 h h2 where
  keep := fun c ob q n hc hx => b.keep c ob (a.keep c ob q n hc hx) (a.free c ob q n hx) hc hx
  slot := fun c ob q n hc hx => by
    obtain ⟨sl, e1⟩ := a.slot c ob q n hc hx
    obtain ⟨sl', e2⟩ := b.slot c _ e1 (a.free c ob q n hx) hc hx
    exact ⟨sl', e2⟩
  free := fun c ob q n hx => by
    obtain ⟨o', e1⟩ := a.there c ob q hx
    exact b.free c o' e1 (a.free c ob q n hx) hx
  there := fun c ob q hx => by
    obtain ⟨o', e1⟩ := a.there c ob q hx
    exact b.there c o' e1 hx
  tups := fun c xs q => b.tups c xs (a.tups c xs q)
  frzs := fun c ob xs q => b.frzs c ob xs (a.frzs c ob xs q)
  tbls := fun c ps q => by
    obtain ⟨m1, e1⟩ := a.tbls c ps q
    obtain ⟨m2, e2⟩ := b.tbls c _ e1
    exact ⟨m1 ++ m2, by rw [e2, Array.append_assoc]⟩
theorem Un.kept (k : ∀ b u, h.get? b = some u → h'.get? b = some u) : Un fs ex H H h h' :=
  ⟨fun b ob q _ _ _ => k b ob q, fun b ob q _ _ _ => ⟨ob.slots, k b ob q⟩, fun _ _ _ n _ => n, fun b ob q _ => ⟨ob, k b ob q⟩, fun _ _ q => q, fun _ _ _ q => q, fun _ ps q => ⟨#[], by rw [q]; simp⟩⟩
theorem Un.refl : Un fs ex H H h h := Un.kept fun _ _ q => q
theorem Un.laid (k : ∀ b u, h.get? b = some u → h'.get? b = some u) (hp : h.objs.size ≤ a) (hn : H a = none) : Un fs ex H (upd H a o) h h' where
  keep := fun b u q _ _ _ => k b u q
  slot := fun b u q _ _ _ => ⟨u.slots, k b u q⟩
  free := fun b u q n _ => by rw [upd_ne (Nat.ne_of_lt (Nat.lt_of_lt_of_le (Heap.lt_size q) hp))]; exact n
  there := fun b u q _ => ⟨u, k b u q⟩
  tups := fun b xs q => by rw [upd_ne (ne_of_none q hn)]; exact q
  frzs := fun b u xs q => by rw [upd_ne (ne_of_none q hn)]; exact q
  tbls := fun b ps q => ⟨#[], by rw [upd_ne (ne_of_none q hn), q]; simp⟩
theorem Un.write (mu : Mut (H x)) (he : e = x ∨ H e = some (.own x)) (k : ∀ b u, b ≠ e → h.get? b = some u → h'.get? b = some u) (heo : ∃ u, h'.get? e = some u) : Un fs ex H (upd H x o) h h' := by
  have hx : ∀ b, H b = none → b ≠ x := fun b n z => by subst z; rw [n] at mu; exact mu
  have hb : ∀ b, H b = none → b ≠ e := fun b n z => by
    subst z
    rcases he with r | r
    · exact hx b n r
    · rw [n] at r; cases r
  have hm : ∀ b u, H b = some u → ¬ Mut (some u) → b ≠ x := fun b u q nm z => by subst z; rw [q] at mu; exact nm mu
  refine ⟨fun b u q n _ _ => k b u (hb b n) q, fun b u q n _ _ => ⟨u.slots, k b u (hb b n) q⟩, fun b u q n _ => by rw [upd_ne (hx b n)]; exact n, fun b u q _ => ?_,
    fun b xs q => by rw [upd_ne (hm b _ q fun z => z)]; exact q, fun b u xs q => by rw [upd_ne (hm b _ q fun z => z)]; exact q, fun b ps q => ⟨#[], by rw [upd_ne (hm b _ q fun z => z), q]; simp⟩⟩
  by_cases hbe : b = e
  · subst hbe; exact heo
  · exact ⟨u, k b u hbe q⟩
theorem Un.mono (u : Un fs ex H H1 h h1) (hs : ∀ b ∈ fs, b ∈ fs') (hx : ∀ b ∈ ex, b ∈ ex') : Un fs' ex' H H1 h h1 :=
  ⟨fun b ob q n hb he => u.keep b ob q n (fun z => hb (hs b z)) fun z => he (hx b z), fun _ _ q n _ he => u.any q n fun z => he (hx _ z), fun b ob q n he => u.free b ob q n fun z => he (hx b z), fun b ob q he => u.there b ob q fun z => he (hx b z), u.tups, u.frzs, u.tbls⟩
end
def trk (h : Heap) (H : Hp) : List Addr := (List.range h.objs.size).filter fun a => (H a).isSome
def hidT (h : Heap) (H : Hp) : Heap := PySem.W.hideAll h (trk h H)
theorem hidT_size (h : Heap) (H : Hp) : (hidT h H).objs.size = h.objs.size := PySem.W.hideAll_size _ _
theorem hidT_get {h : Heap} {H : Hp} {b : Addr} {o : Obj} (e : h.get? b = some o) (n : H b = none) : (hidT h H).get? b = some o :=
  PySem.W.hideAll_get _ e fun hm => by
    have q : (H b).isSome = true := (List.mem_filter.mp hm).2
    rw [n] at q; simp at q
theorem of_hidT {h : Heap} {H : Hp} {b : Addr} {o : Obj} (e : (hidT h H).get? b = some o) : h.get? b = some o ∧ H b = none := by
  have e' : h.get? b = some o := PySem.W.of_hideAll (trk h H) e
  refine ⟨e', ?_⟩
  cases q : H b with
  | none => rfl
  | some x =>
    have hm : b ∈ trk h H := List.mem_filter.mpr ⟨List.mem_range.mpr (Heap.lt_size e'), by simp [q]⟩
    have z : (hidT h H).get? b = none := PySem.W.hideAll_none (trk h H) hm
    rw [z] at e; cases e
def allNews (g h : Heap) (L : Addr) : List (Addr × Obj) := (List.range h.objs.size).filterMap fun a => if a = L ∨ (g.get? a).isSome = true then none else (h.get? a).map fun o => (a, o)
def rest (g h : Heap) (L d : Addr) : List (Addr × Obj) := (allNews g h L).filter fun p => decide (p.1 ≠ d)
end L2
namespace L2
open PySem PySem.Spec PyProof.Rows
structure Mod (K : PySem.W.Frag) (mg : Str → Option Value) (base : Heap) : Prop where
  kin : K.In base
  glob : base.Ns mainGlobals mg
  blt : ∃ mb, base.Ns builtinsNs mb ∧ ∀ x : Str, x ≠ "__name__" → mb x = bootBuiltins x
  nolimit : base.NoLimit
structure Cx where
  prog : Program
  w : World
  K : PySem.W.Frag
  mg : Str → Option Value
  base : Heap
  A : Around
  N : List Str
  s₀ : Shared
  H₀ : Hp
  env : Env
  outer : List Env
  stack : List Env
  ex : List Addr
  fn : Str → Bool
  calm : Bool
  pn : List (Addr × Obj)
  xe : Value → Shared → Prop
def frs (l : List Env) : List Addr := l.filterMap (·.frame)
abbrev Cx.fs (X : Cx) : List Addr := frs X.outer
def Vis (sc : Scope) (x : Str) : Prop := sc.names.lookup x = some .local ∨ sc.names.lookup x = some .cell ∨ sc.names.lookup x = some .free
def Loc (sc : Scope) (x : Str) : Prop := sc.names.lookup x = some .local ∨ sc.names.lookup x = some .cell
def Look (env : Env) (h : Heap) (m : Str → Option Value) (x : Str) (u : Value) : Prop :=
  (env.kindOf x = some .local ∧ m x = some u) ∨ ((env.kindOf x = some .cell ∨ env.kindOf x = some .free) ∧ ∃ c, env.cells.lookup x = some c ∧ h.IsCell c (some u))
structure Cx.Ok (X : Cx) : Prop where
  mod : Mod X.K X.mg X.base
  kind : X.env.scope.kind = .function
  glob : X.env.globals = mainGlobals
  blt : X.env.builtins = builtinsNs
  above : X.s₀.heap.objs.size ≤ X.env.locals
  inj : ∀ x y c, X.env.cells.lookup x = some c → X.env.cells.lookup y = some c → x = y
  has : ∀ x, (X.env.kindOf x = some .cell ∨ X.env.kindOf x = some .free) → ∃ c, X.env.cells.lookup x = some c
  cab : ∀ x c, X.fn x = true → X.env.cells.lookup x = some c → X.s₀.heap.objs.size ≤ c
  hd : X.calm = true → X.A.handled = none
  frames : X.A.frames = some X.stack
  stk : X.stack = X.outer ∨ (X.stack = X.env :: X.outer ∧ X.env.frame = some X.env.locals)
  exf : ∀ b ∈ X.ex, b ≠ X.env.locals ∧ ∀ x c, X.env.cells.lookup x = some c → c ≠ b
  bs : ∀ b o, X.base.get? b = some o → X.s₀.heap.get? b = some o ∧ X.H₀ b = none
  bsz : X.base.objs.size ≤ X.s₀.heap.objs.size
  noex : ∀ b o, X.base.get? b = some o → b ∉ X.ex
  exfs : ∀ b ∈ X.ex, b ∉ X.fs
  funs : X.s₀.heap.FunFrames X.base X.outer
  frf : ∀ b ∈ X.fs, X.H₀ b = none
structure Inv (X : Cx) (pins : List (Addr × Obj)) (σ : List (Option V)) (H : Hp) (s : Shared) : Prop where
  ok : X.Ok
  os : s.os = X.s₀.os
  bare : AllBare s.gens
  base : Un X.fs X.ex X.H₀ H X.s₀.heap s.heap
  loc : ∃ m, s.heap.Ns X.env.locals m ∧ ∀ (i : Nat) (x : Str) (v : V), X.N[i]? = some x → σ[i]? = some (some v) → Vis X.env.scope x → ∃ u, RelV v u ∧ Look X.env s.heap m x u
  cell : ∀ x c, X.env.cells.lookup x = some c → ∃ v, s.heap.IsCell c v
  free : H X.env.locals = none
  freeC : ∀ x c, X.env.cells.lookup x = some c → H c = none
  pin : ∀ p ∈ X.pn ++ pins, s.heap.get? p.1 = some p.2 ∧ H p.1 = none ∧ p.1 ≠ X.env.locals ∧ p.1 ∉ X.fs ∧ ∀ v, p.2.data ≠ .cell v
  hok : HOk X.prog X.w H s.heap
  len : σ.length = X.N.length
section
variable {X : Cx} {pins : List (Addr × Obj)} {σ : List (Option V)} {H H' : Hp} {s : Shared} {h' : Heap}
theorem Cx.Ok.nofr (ok : X.Ok) {b : Addr} {o : Obj} (e : X.base.get? b = some o) : b ∉ X.fs := fun hb => by
  have := (ok.funs.mem hb).1
  rw [e] at this; cases this
theorem Inv.bs (I : Inv X pins σ H s) : ∀ b o, X.base.get? b = some o → s.heap.get? b = some o ∧ H b = none := fun b o e =>
  ⟨I.base.keep b o (I.ok.bs b o e).1 (I.ok.bs b o e).2 (I.ok.nofr e) (I.ok.noex b o e), I.base.free b o (I.ok.bs b o e).1 (I.ok.bs b o e).2 (I.ok.noex b o e)⟩
theorem Inv.bk (I : Inv X pins σ H s) : ∀ b o, X.base.get? b = some o → s.heap.get? b = some o := fun b o e => (I.bs b o e).1
theorem Inv.mod (I : Inv X pins σ H s) : Mod X.K X.mg X.base := I.ok.mod
theorem Inv.kIn (I : Inv X pins σ H s) : X.K.In s.heap := I.ok.mod.kin.keeps I.bk
theorem Inv.nolimit (I : Inv X pins σ H s) : s.heap.NoLimit := I.ok.mod.nolimit.keeps I.bk
theorem Inv.fr (I : Inv X pins σ H s) : ∃ m, Fr X.base X.env.locals s.heap m :=
  let ⟨m, hn, _⟩ := I.loc
  ⟨m, hn, I.bk, Nat.le_trans I.ok.bsz I.ok.above⟩
theorem Inv.lt (I : Inv X pins σ H s) : X.env.locals < s.heap.objs.size := let ⟨_, hn, _⟩ := I.loc; hn.lt
theorem Inv.sz (I : Inv X pins σ H s) : X.s₀.heap.objs.size ≤ s.heap.objs.size := Nat.le_trans I.ok.above (Nat.le_of_lt I.lt)
theorem Inv.nofs (I : Inv X pins σ H s) {a : Addr} (h : s.heap.objs.size ≤ a) : a ∉ X.fs := fun hb => by
  obtain ⟨_, o, ho, _⟩ := I.ok.funs.mem hb
  exact absurd (Nat.lt_of_lt_of_le (Heap.lt_size ho) (Nat.le_trans I.sz h)) (Nat.lt_irrefl _)
theorem Inv.cne (I : Inv X pins σ H s) : ∀ x c, X.env.cells.lookup x = some c → c ≠ X.env.locals := fun x c e z => by
  obtain ⟨v, o, ho, hd⟩ := I.cell x c e
  obtain ⟨m, ⟨o', es, ep, ho', hd', _⟩, _⟩ := I.loc
  rw [z, ho'] at ho; cases ho; rw [hd'] at hd; cases hd
theorem Inv.funs (I : Inv X pins σ H s) : s.heap.FunFrames X.base X.outer := by
  have all : ∀ (l : List Env), (∀ b ∈ frs l, b ∈ X.fs) → X.s₀.heap.FunFrames X.base l → s.heap.FunFrames X.base l := by
    intro l
    induction l with
    | nil => intro _ _; trivial
    | cons env r ih =>
      intro hs hl
      obtain ⟨hk, ⟨L, o, hf, hn, ho, hd⟩, hr⟩ := hl
      have hL : L ∈ X.fs := hs L (by unfold frs; rw [List.filterMap_cons, hf]; exact List.mem_cons_self)
      obtain ⟨sl, e⟩ := I.base.slot L o ho (I.ok.frf L hL) hL fun z => I.ok.exfs L z hL
      exact ⟨hk, ⟨L, _, hf, hn, e, hd⟩, ih (fun b hb => hs b (by unfold frs; rw [List.filterMap_cons, hf]; exact List.mem_cons_of_mem _ hb)) hr⟩
  exact all X.outer (fun _ hb => hb) I.ok.funs
theorem Inv.stack (I : Inv X pins σ H s) : s.heap.FunFrames X.base X.stack := by
  rcases I.ok.stk with e | ⟨e, hf⟩
  · rw [e]; exact I.funs
  · rw [e]
    obtain ⟨m, hn, _⟩ := I.loc
    refine .cons (by rw [I.ok.kind]; decide) hf hn ?_ I.funs
    exact Heap.get?_none_of_le (Nat.le_trans I.ok.bsz I.ok.above)
theorem Inv.stkSub (I : Inv X pins σ H s) : ∀ b ∈ frs X.stack, b ∈ X.env.locals :: X.fs := fun b hb => by
  rcases I.ok.stk with e | ⟨e, hf⟩
  · rw [e] at hb; exact List.mem_cons_of_mem _ hb
  · rw [e] at hb
    unfold frs at hb
    rw [List.filterMap_cons, hf] at hb
    exact hb
theorem Inv.stkFree (I : Inv X pins σ H s) : ∀ b ∈ frs X.stack, H b = none := fun b hb => by
  rcases List.mem_cons.mp (I.stkSub b hb) with e | hb
  · rw [e]; exact I.free
  · obtain ⟨_, o, ho, _⟩ := I.ok.funs.mem hb
    exact I.base.free b o ho (I.ok.frf b hb) fun z => I.ok.exfs b z hb
theorem Inv.step {g' : Array GenState} {t' : Nat} {d' : Drawn} {ch : List Addr} (I : Inv X pins σ H s)
    (hch : ∀ b ∈ ch, (b ∈ X.ex ∨ X.s₀.heap.objs.size ≤ b) ∧ b ≠ X.env.locals ∧ (∀ x c, X.env.cells.lookup x = some c → c ≠ b) ∧ ∀ p ∈ X.pn ++ pins, p.1 ≠ b)
    (keep : ∀ b o, b ≠ X.env.locals → b ∉ X.fs → b ∉ ch → s.heap.get? b = some o → H b = none → h'.get? b = some o)
    (slot : ∀ b o, b ≠ X.env.locals → b ∈ X.fs → b ∉ ch → s.heap.get? b = some o → H b = none → ∃ sl, h'.get? b = some { o with slots := sl }) (free : ∀ b o, b ∉ ch → s.heap.get? b = some o → H b = none → H' b = none)
    (there : ∀ b o, b ∉ ch → s.heap.get? b = some o → ∃ o', h'.get? b = some o')
    (tups : ∀ b xs, H b = some (.tup xs) → H' b = some (.tup xs)) (frzs : ∀ b o u, H b = some (.frz o u) → H' b = some (.frz o u)) (tbls : ∀ b ps, H b = some (.tbl ps) → ∃ more, H' b = some (.tbl (ps ++ more)))
    (ns : ∀ m, s.heap.Ns X.env.locals m → h'.Ns X.env.locals m) (hok : HOk X.prog X.w H' h') (hg : AllBare g') :
    Inv X pins σ H' { s with heap := h', gens := g', drawn := d', toks := t' } := by
  have neL : ∀ b o, X.s₀.heap.get? b = some o → b ≠ X.env.locals := fun b o e => Nat.ne_of_lt (Nat.lt_of_lt_of_le (Heap.lt_size e) I.ok.above)
  have neC : ∀ b o, X.s₀.heap.get? b = some o → b ∉ X.ex → b ∉ ch := fun b o e hx hb => by
    rcases (hch b hb).1 with z | z
    · exact hx z
    · exact absurd (Nat.lt_of_lt_of_le (Heap.lt_size e) z) (Nat.lt_irrefl _)
  have cellK : ∀ x c, X.env.cells.lookup x = some c → ∀ v, s.heap.IsCell c v → h'.IsCell c v := fun x c e v ⟨o, ho, hd⟩ => by
    have nch : c ∉ ch := fun z => (hch c z).2.2.1 x c e rfl
    by_cases hc : c ∈ X.fs
    · obtain ⟨sl, q⟩ := slot c o (I.cne x c e) hc nch ho (I.freeC x c e)
      exact ⟨_, q, hd⟩
    · exact ⟨o, keep c o (I.cne x c e) hc nch ho (I.freeC x c e), hd⟩
  refine ⟨I.ok, I.os, hg, ⟨fun b o e n hb hx => ?_, fun b o e n hb hx => ?_, fun b o e n hx => ?_, fun b o e hx => ?_, fun b xs e => tups b xs (I.base.tups b xs e), fun b o xs e => frzs b o xs (I.base.frzs b o xs e), fun b ps e => ?_⟩, ?_, fun x c e => ?_, ?_, fun x c e => ?_, fun p hp => ?_, hok, I.len⟩
  · exact keep b o (neL b o e) hb (neC b o e hx) (I.base.keep b o e n hb hx) (I.base.free b o e n hx)
  · obtain ⟨sl, e1⟩ := I.base.slot b o e n hb hx
    obtain ⟨sl', e2⟩ := slot b _ (neL b o e) hb (neC b o e hx) e1 (I.base.free b o e n hx)
    exact ⟨sl', e2⟩
  · obtain ⟨o', e1⟩ := I.base.there b o e hx
    exact free b o' (neC b o e hx) e1 (I.base.free b o e n hx)
  · obtain ⟨o', e1⟩ := I.base.there b o e hx
    exact there b o' (neC b o e hx) e1
  · obtain ⟨m1, e1⟩ := I.base.tbls b ps e
    obtain ⟨m2, e2⟩ := tbls b _ e1
    exact ⟨m1 ++ m2, by rw [e2, Array.append_assoc]⟩
  · obtain ⟨m, hn, hl⟩ := I.loc
    refine ⟨m, ns m hn, fun i x v e1 e2 e3 => ?_⟩
    obtain ⟨u, r, l⟩ := hl i x v e1 e2 e3
    refine ⟨u, r, ?_⟩
    rcases l with l | ⟨k, c, e, z⟩
    · exact .inl l
    · exact .inr ⟨k, c, e, cellK x c e _ z⟩
  · obtain ⟨v, z⟩ := I.cell x c e
    exact ⟨v, cellK x c e v z⟩
  · obtain ⟨m, ⟨o, _, _, ho, _⟩, _⟩ := I.loc
    exact free _ o (fun z => (hch _ z).2.1 rfl) ho I.free
  · obtain ⟨v, o, ho, hd⟩ := I.cell x c e
    exact free c o (fun z => (hch c z).2.2.1 x c e rfl) ho (I.freeC x c e)
  · obtain ⟨e, n, ne, nf, d⟩ := I.pin p hp
    have nch : p.1 ∉ ch := fun z => (hch p.1 z).2.2.2 p hp rfl
    exact ⟨keep p.1 p.2 ne nf nch e n, free p.1 p.2 nch e n, ne, nf, d⟩
theorem Inv.un {t' : Nat} (I : Inv X pins σ H s) (u : Un X.fs [] H H' s.heap h') (hok : HOk X.prog X.w H' h') : Inv X pins σ H' { s with heap := h', toks := t' } := by
  obtain ⟨m, ⟨o, es, ep, ho, r⟩, _⟩ := id I.loc
  obtain ⟨sl, hL⟩ := u.any ho I.free (by simp)
  exact I.step (g' := s.gens) (d' := s.drawn) (ch := []) (fun _ z => nomatch z) (fun b o _ hb _ e n => u.keep b o e n hb (by simp)) (fun b o _ hb _ e n => u.slot b o e n hb (by simp)) (fun b o _ e n => u.free b o e n (by simp)) (fun b o _ e => u.there b o e (by simp)) u.tups u.frzs u.tbls (fun m' hm => by
    obtain ⟨o', es', ep', ho', r'⟩ := hm
    rw [ho] at ho'; cases ho'
    exact ⟨_, es', ep', hL, r'⟩) hok I.bare
theorem Inv.call {g' : Array GenState} {t' : Nat} {d' : Drawn} {ch : List Addr} (I : Inv X pins σ H s) (u : Un (frs X.stack) ch H H' s.heap h') (hok : HOk X.prog X.w H' h') (hg : AllBare g')
    (hch : ∀ b ∈ ch, (b ∈ X.ex ∨ X.s₀.heap.objs.size ≤ b) ∧ b ≠ X.env.locals ∧ (∀ x c, X.env.cells.lookup x = some c → c ≠ b) ∧ ∀ p ∈ X.pn ++ pins, p.1 ≠ b) :
    Inv X pins σ H' { s with heap := h', gens := g', drawn := d', toks := t' } := by
  obtain ⟨m, ⟨o, es, ep, ho, r⟩, _⟩ := id I.loc
  obtain ⟨sl, hL⟩ := u.any ho I.free fun z => (hch _ z).2.1 rfl
  exact I.step (ch := ch) hch (fun b o hL hb hc e n => u.keep b o e n (fun z => (List.mem_cons.mp (I.stkSub b z)).elim hL hb) hc) (fun b o _ _ hc e n => u.any e n hc) (fun b o hc e n => u.free b o e n hc) (fun b o hc e => u.there b o e hc) u.tups u.frzs u.tbls (fun m' hm => by
    obtain ⟨o', es', ep', ho', r'⟩ := hm
    rw [ho] at ho'; cases ho'
    exact ⟨_, es', ep', hL, r'⟩) hok hg
theorem Inv.turned {t' : Nat} {it : Addr} (I : Inv X pins σ H s) (k : ∀ b o, b ≠ it → s.heap.get? b = some o → h'.get? b = some o) (hn : H it = none) (hL : it ≠ X.env.locals)
    (h1 : it ∈ X.ex ∨ X.s₀.heap.objs.size ≤ it) (h2 : ∀ x c, X.env.cells.lookup x = some c → c ≠ it) (h3 : ∀ p ∈ X.pn ++ pins, p.1 ≠ it) : Inv X pins σ H { s with heap := h', toks := t' } := by
  have nit : ∀ b u, H b = some u → b ≠ it := fun b u e z => by rw [z, hn] at e; cases e
  refine I.step (g' := s.gens) (d' := s.drawn) (ch := [it]) (fun b hb => ?_) (fun b o _ _ hc e _ => k b o (fun z => hc (by simp [z])) e) (fun b o _ _ hc e _ => ⟨o.slots, k b o (fun z => hc (by simp [z])) e⟩) (fun _ _ _ _ n => n)
    (fun b o hc e => ⟨o, k b o (fun z => hc (by simp [z])) e⟩) (fun _ _ e => e) (fun _ _ _ e => e) (fun b ps e => ⟨#[], by rw [e]; simp⟩) (fun m hm => ?_) (fun b u e => ?_) I.bare
  · have e : b = it := by simpa using hb
    subst e
    exact ⟨h1, hL, h2, h3⟩
  · obtain ⟨o, es, ep, ho, r⟩ := hm
    exact ⟨o, es, ep, k _ o (Ne.symm hL) ho, r⟩
  · refine (I.hok b u e).stay (fun c v hc q => k c v ?_ q) (fun _ q => q) fun _ _ q => q
    rcases hc with z | z
    · rw [z]; exact nit b u e
    · exact nit c _ z
theorem Inv.tok (I : Inv X pins σ H s) (t : Nat) : Inv X pins σ H { s with toks := t } := I.un (h' := s.heap) (t' := t) Un.refl I.hok
theorem Inv.kept {t' : Nat} (I : Inv X pins σ H s) (k : ∀ b u, s.heap.get? b = some u → h'.get? b = some u) : Inv X pins σ H { s with heap := h', toks := t' } := I.un (Un.kept k) (I.hok.kept k)
theorem Inv.laid {a : Addr} {o : HO} {t' : Nat} (I : Inv X pins σ H s) (k : ∀ b u, s.heap.get? b = some u → h'.get? b = some u) (hp : s.heap.objs.size ≤ a) (new : ObjOk X.prog X.w (upd H a o) h' a o) :
    Inv X pins σ (upd H a o) { s with heap := h', toks := t' } := I.un (Un.laid k hp (I.hok.fresh hp)) (I.hok.laid k hp new)
theorem Inv.write {x e : Addr} {o : HO} {t' : Nat} (I : Inv X pins σ H s) (mu : Mut (H x)) (he : e = x ∨ H e = some (.own x)) (k : ∀ b u, b ≠ e → s.heap.get? b = some u → h'.get? b = some u) (heo : ∃ u, h'.get? e = some u)
    (new : ObjOk X.prog X.w (upd H x o) h' x o) : Inv X pins σ (upd H x o) { s with heap := h', toks := t' } := I.un (Un.write mu he k heo) (I.hok.write mu he k heo new)
theorem Inv.pins_of {pins' : List (Addr × Obj)} (I : Inv X pins σ H s) (h : ∀ p ∈ pins', s.heap.get? p.1 = some p.2 ∧ H p.1 = none ∧ p.1 ≠ X.env.locals ∧ p.1 ∉ X.fs ∧ ∀ v, p.2.data ≠ .cell v) : Inv X pins' σ H s :=
  ⟨I.ok, I.os, I.bare, I.base, I.loc, I.cell, I.free, I.freeC, fun p hp => (List.mem_append.mp hp).elim (fun z => I.pin p (List.mem_append_left _ z)) (h p), I.hok, I.len⟩
theorem nodup_ix {N : List Str} (hN : N.Nodup) {i j : Nat} {x : Str} (a : N[i]? = some x) (b : N[j]? = some x) : i = j := by
  obtain ⟨h1, e1⟩ := List.getElem?_eq_some_iff.mp a
  obtain ⟨h2, e2⟩ := List.getElem?_eq_some_iff.mp b
  exact (List.getElem_inj hN).mp (e1.trans e2.symm)
theorem store_ok2 {M : Model} {A : Around} {E : Value → Shared → Prop} {i : Nat} {x : Str} {v : V} {u : Value} {Q : Unit → Shared → Prop} (I : Inv X pins σ H s) (hN : X.N.Nodup) (hi : X.N[i]? = some x) (hx : Loc X.env.scope x) (r : RelV v u)
    (h : ∀ s', Inv X pins (σ.set i (some v)) H s' → (∃ a, Heap.SameBut a s.heap s'.heap ∧ (a = X.env.locals ∨ X.env.cells.lookup x = some a)) → Q () s') (hf : X.fn x = true ∨ X.env.scope.names.lookup x = some .local := by first | exact .inl rfl | exact .inr rfl | assumption) : wpAny M A (storeName X.env x u) Q E s := by
  obtain ⟨m, hn, hl⟩ := id I.loc
  have hcls : (X.env.scope.kind == .class || (X.env.scope.kind == .module && X.env.locals != X.env.globals)) = false := by rw [I.ok.kind]; rfl
  have hiσ : i < σ.length := by rw [I.len]; exact (List.getElem?_eq_some_iff.mp hi).1
  have cne := I.cne
  have tracked : ∀ {a : Addr} {h' : Heap}, (∃ o, s.heap.get? a = some o ∧ H a = none) → Heap.SameBut a s.heap h' → HOk X.prog X.w H h' := fun {a h'} ha hs b ob e => by
    obtain ⟨_, _, hfree⟩ := ha
    refine (I.hok b ob e).stay (fun c w' hc q => (hs.2 c ?_).trans q) (fun _ q => q) fun _ _ q => q
    rintro rfl
    rcases hc with rfl | hc
    · rw [hfree] at e; cases e
    · rw [hfree] at hc; cases hc
  rcases hx with hk | hk
  · refine wpAny_storeName_local hk hn (fun h' hn' hs => ?_) hcls
    obtain ⟨oL, _, _, hoL, _⟩ := id hn
    refine h _ ⟨I.ok, I.os, I.bare, ⟨fun b o e n hb hx => ?_, fun b o e n hb hx => ?_, I.base.free, fun b o e hx => ?_, I.base.tups, I.base.frzs, I.base.tbls⟩, ⟨_, hn', fun j y v' e1 e2 e3 => ?_⟩, fun y c e => ?_, I.free, I.freeC, fun p hp => ?_, tracked ⟨oL, hoL, I.free⟩ hs, by simpa using I.len⟩ ⟨_, hs, .inl rfl⟩
    · exact (hs.2 b (Nat.ne_of_lt (Nat.lt_of_lt_of_le (Heap.lt_size e) I.ok.above))).trans (I.base.keep b o e n hb hx)
    · obtain ⟨sl, e1⟩ := I.base.slot b o e n hb hx
      exact ⟨sl, (hs.2 b (Nat.ne_of_lt (Nat.lt_of_lt_of_le (Heap.lt_size e) I.ok.above))).trans e1⟩
    · obtain ⟨o', e1⟩ := I.base.there b o e hx
      exact ⟨o', (hs.2 b (Nat.ne_of_lt (Nat.lt_of_lt_of_le (Heap.lt_size e) I.ok.above))).trans e1⟩
    · by_cases hj : j = i
      · subst hj
        rw [hi] at e1; cases e1
        rw [List.getElem?_set_self hiσ] at e2
        cases e2
        exact ⟨u, r, .inl ⟨hk, by simp⟩⟩
      · rw [List.getElem?_set_ne (Ne.symm hj)] at e2
        obtain ⟨u', r', q⟩ := hl j y v' e1 e2 e3
        refine ⟨u', r', ?_⟩
        rcases q with ⟨k, e⟩ | ⟨k, c, e, z⟩
        · refine .inl ⟨k, ?_⟩
          have : y ≠ x := fun e => hj (nodup_ix hN e1 (e ▸ hi))
          simp [this, e]
        · exact .inr ⟨k, c, e, z.sameBut hs (cne y c e)⟩
    · obtain ⟨w', z⟩ := I.cell y c e
      exact ⟨w', z.sameBut hs (cne y c e)⟩
    · obtain ⟨e, n, ne, nf, d⟩ := I.pin p hp
      exact ⟨(hs.2 p.1 ne).trans e, n, ne, nf, d⟩
  · have hfn : X.fn x = true := by
      rcases hf with z | z
      · exact z
      · rw [z] at hk; cases hk
    obtain ⟨c, hc⟩ := I.ok.has x (.inl hk)
    obtain ⟨w', z⟩ := I.cell x c hc
    refine wpAny_storeName_cell I.ok.kind hk hc z (fun h' hc' hs => ?_)
    obtain ⟨oc, hoc, hocd⟩ := id z
    refine h { s with heap := h' } ⟨I.ok, I.os, I.bare, ⟨fun b o e n hb hx => ?_, fun b o e n hb hx => ?_, I.base.free, fun b o e hx => ?_, I.base.tups, I.base.frzs, I.base.tbls⟩, ⟨m, hn.sameBut hs (Ne.symm (cne x c hc)), fun j y v' e1 e2 e3 => ?_⟩, fun y c' e => ?_, I.free, I.freeC, fun p hp => ?_, tracked ⟨oc, hoc, I.freeC x c hc⟩ hs, by simpa using I.len⟩ ⟨c, hs, .inr hc⟩
    · exact (hs.2 b (Nat.ne_of_lt (Nat.lt_of_lt_of_le (Heap.lt_size e) (I.ok.cab x c hfn hc)))).trans (I.base.keep b o e n hb hx)
    · obtain ⟨sl, e1⟩ := I.base.slot b o e n hb hx
      exact ⟨sl, (hs.2 b (Nat.ne_of_lt (Nat.lt_of_lt_of_le (Heap.lt_size e) (I.ok.cab x c hfn hc)))).trans e1⟩
    · obtain ⟨o', e1⟩ := I.base.there b o e hx
      exact ⟨o', (hs.2 b (Nat.ne_of_lt (Nat.lt_of_lt_of_le (Heap.lt_size e) (I.ok.cab x c hfn hc)))).trans e1⟩
    · by_cases hj : j = i
      · subst hj
        rw [hi] at e1; cases e1
        rw [List.getElem?_set_self hiσ] at e2
        cases e2
        exact ⟨u, r, .inr ⟨.inl hk, c, hc, hc'⟩⟩
      · rw [List.getElem?_set_ne (Ne.symm hj)] at e2
        obtain ⟨u', r', q⟩ := hl j y v' e1 e2 e3
        refine ⟨u', r', ?_⟩
        rcases q with q | ⟨k, c', e, z'⟩
        · exact .inl q
        · refine .inr ⟨k, c', e, z'.sameBut hs ?_⟩
          rintro rfl
          exact hj (nodup_ix hN e1 (I.ok.inj _ _ _ e hc ▸ hi))
    · by_cases hcc : c' = c
      · subst hcc; exact ⟨_, hc'⟩
      · obtain ⟨w2, z2⟩ := I.cell y c' e
        exact ⟨w2, z2.sameBut hs hcc⟩
    · obtain ⟨e, n, ne, nf, d⟩ := I.pin p hp
      refine ⟨(hs.2 p.1 ?_).trans e, n, ne, nf, d⟩
      intro q
      rw [q, hoc] at e
      have q' : oc = p.2 := Option.some.inj e
      exact d w' (by rw [← q']; exact hocd)
theorem store_ok {M : Model} {A : Around} {E : Value → Shared → Prop} {i : Nat} {x : Str} {v : V} {u : Value} {Q : Unit → Shared → Prop} (I : Inv X pins σ H s) (hN : X.N.Nodup) (hi : X.N[i]? = some x) (hx : Loc X.env.scope x) (r : RelV v u)
    (h : ∀ s', Inv X pins (σ.set i (some v)) H s' → Q () s') (hf : X.fn x = true ∨ X.env.scope.names.lookup x = some .local := by first | exact .inl rfl | exact .inr rfl | assumption) : wpAny M A (storeName X.env x u) Q E s :=
  store_ok2 I hN hi hx r (fun s' I' _ => h s' I') hf
theorem Inv.call' {s' : Shared} {ch : List Addr} (I : Inv X pins σ H s) (ho : s'.os = s.os) (u : Un (frs X.stack) ch H H' s.heap s'.heap) (hok : HOk X.prog X.w H' s'.heap) (hg : AllBare s'.gens)
    (hch : ∀ b ∈ ch, (b ∈ X.ex ∨ X.s₀.heap.objs.size ≤ b) ∧ b ≠ X.env.locals ∧ (∀ x c, X.env.cells.lookup x = some c → c ≠ b) ∧ ∀ p ∈ X.pn ++ pins, p.1 ≠ b) : Inv X pins σ H' s' := by
  obtain ⟨h', g', d', t', o'⟩ := s'
  have e : o' = s.os := ho
  subst e
  exact I.call (g' := g') (t' := t') (d' := d') u hok hg hch
end
abbrev XK := Value → Option Addr → Hp → Prop
abbrev St := List (Option V)
abbrev VK := V → Hp → Prop
abbrev TE := St → Hp → VK → Prop
abbrev TT := St → Hp → (Bool → Hp → Prop) → Prop
abbrev TA := St → Hp → (List V → Hp → Prop) → Prop
structure Ends where
  nx : St → Hp → Prop
  rt : VK
  bk : St → Hp → Prop := fun _ _ => False
  ct : St → Hp → Prop := fun _ _ => False
abbrev TS := Ends → St → Hp → Prop
def EP (X : Cx) (pins : List (Addr × Obj)) (σ : St) (Q : VK) (u : Value) (s' : Shared) : Prop := ∃ v H', Inv X pins σ H' s' ∧ RelV v u ∧ Q v H'
def TP (X : Cx) (pins : List (Addr × Obj)) (σ : St) (Q : Bool → Hp → Prop) (b : Bool) (s' : Shared) : Prop := ∃ H', Inv X pins σ H' s' ∧ Q b H'
def AP (X : Cx) (pins : List (Addr × Obj)) (σ : St) (Q : List V → Hp → Prop) (us : List Value) (s' : Shared) : Prop := ∃ vs H', Inv X pins σ H' s' ∧ Vals vs us ∧ Q vs H'
def SP (X : Cx) (pins : List (Addr × Obj)) (D : Ends) (f : Flow) (s' : Shared) : Prop :=
  match f with
  | .next => ∃ σ' H', Inv X pins σ' H' s' ∧ D.nx σ' H'
  | .brk => ∃ σ' H', Inv X pins σ' H' s' ∧ D.bk σ' H'
  | .cont => ∃ σ' H', Inv X pins σ' H' s' ∧ D.ct σ' H'
  | .ret u => ∃ v σ' H', Inv X pins σ' H' s' ∧ RelV v u ∧ D.rt v H'
def PE (X : Cx) (e : Expr) (t : TE) : Prop :=
  ∀ (pins : List (Addr × Obj)) (s : Shared) (σ : St) (H : Hp) (Q : VK), Inv X pins σ H s → t σ H Q → wpAny (model X.prog X.w) X.A (eval e X.env) (EP X pins σ Q) X.xe s
def PT (X : Cx) (e : Expr) (t : TT) : Prop :=
  ∀ (pins : List (Addr × Obj)) (s : Shared) (σ : St) (H : Hp) (Q : Bool → Hp → Prop), Inv X pins σ H s → t σ H Q → wpAny (model X.prog X.w) X.A (isTrue e X.env (eval e X.env)) (TP X pins σ Q) X.xe s
def PW (X : Cx) (e : Expr) (t : TT) : Prop :=
  ∀ (whole : Sem Value) (pins : List (Addr × Obj)) (s : Shared) (σ : St) (H : Hp) (Q : Bool → Hp → Prop), Inv X pins σ H s → t σ H Q → wpAny (model X.prog X.w) X.A (isTrue e X.env whole) (TP X pins σ Q) X.xe s
theorem PW.pt {X : Cx} {e : Expr} {t : TT} (h : PW X e t) : PT X e t := h _
def PA (X : Cx) (es : List Expr) (t : TA) : Prop :=
  ∀ (pos : Pos) (pins : List (Addr × Obj)) (s : Shared) (σ : St) (H : Hp) (Q : List V → Hp → Prop), Inv X pins σ H s → t σ H Q → wpAny (model X.prog X.w) X.A (spliced (backTo pos (starEach es X.env))) (AP X pins σ Q) X.xe s
def PS (X : Cx) (st : Stmt) (t : TS) : Prop :=
  ∀ (pins : List (Addr × Obj)) (s : Shared) (σ : St) (H : Hp) (D : Ends), Inv X pins σ H s → t D σ H → wpAny (model X.prog X.w) X.A (exec st X.env) (SP X pins D) X.xe s
def PSs (X : Cx) (st : List Stmt) (t : TS) : Prop :=
  ∀ (pins : List (Addr × Obj)) (s : Shared) (σ : St) (H : Hp) (D : Ends), Inv X pins σ H s → t D σ H → wpAny (model X.prog X.w) X.A (execs st X.env) (SP X pins D) X.xe s
theorem thn {α : Type} {t : Sem α} {Q Q' : α → Shared → Prop} {M : Model} {A : Around} {E : Value → Shared → Prop} {s : Shared} (h : wpAny M A t Q E s) (hQ : ∀ a s, Q a s → Q' a s) : wpAny M A t Q' E s := wpAny_mono h hQ fun _ _ x => x
end L2
namespace L2
open PySem PySem.Spec PyProof.Rows
section
variable {X : Cx}
def tVar (i : Nat) : TE := fun σ H Q => ∃ v, σ[i]? = some (some v) ∧ Q v H
def tC (v : V) : TE := fun _ H Q => Q v H
theorem pe_var {i : Nat} {x : Str} {pos : Pos} (hN : X.N[i]? = some x) (hv : Vis X.env.scope x) (hd : (x == ("__debug__" : Str)) = false := by decide) (hcd : (x == ("__classdict__" : Str)) = false := by decide) : PE X (.Name x pos) (tVar i) := by
  intro pins s σ H Q I h
  obtain ⟨v, e, h⟩ := h
  obtain ⟨m, hn, hl⟩ := I.loc
  obtain ⟨u, r, l⟩ := hl i x v hN e hv
  have fin : EP X pins σ Q u s := ⟨v, H, I, r, h⟩
  rcases l with ⟨hk, hm⟩ | ⟨hk, c, hc, hcell⟩
  · exact wpAny_Name (wpAny_loadName_local I.ok.kind hk hn hm fin) hd
  · rcases hk with hk | hk
    · exact wpAny_Name (wpAny_loadName_cell I.ok.kind hk hc hcell fin) hd
    · exact wpAny_Name (wpAny_loadName_free I.ok.kind hk hc hcell fin hcd) hd
theorem pe_int {i j pos} : PE X (.Constant (.int i) j pos) (tC (.int i)) := fun _ _ _ H _ I h => wpAny_Constant_int ⟨.int i, H, I.tok _, ⟨_, rfl⟩, h⟩
theorem pe_bl {b j pos} : PE X (.Constant (.bool b) j pos) (tC (.bl b)) := fun _ _ _ H _ I h => Constant_bool ⟨.bl b, H, I, rfl, h⟩
theorem pe_non {j pos} : PE X (.Constant .none j pos) (tC .non) := fun _ _ _ H _ I h => Constant_none ⟨.non, H, I, rfl, h⟩
theorem pe_str {x j pos} : PE X (.Constant (.str x) j pos) (tC (.str x)) := fun _ _ _ H _ I h => Calls.Constant_str ⟨.str x, H, I.tok _, ⟨_, rfl⟩, h⟩
def Gl (X : Cx) (x : Str) : Prop := X.env.kindOf x = some .globalImplicit
theorem ld_glob {E : Value → Shared → Prop} {pins : List (Addr × Obj)} {s : Shared} {σ : St} {H : Hp} {x : Str} {u : Value} {pos : Pos} {Q : Value → Shared → Prop} (I : Inv X pins σ H s) (hg : Gl X x) (hm : X.mg x = some u) (h : Q u s)
    (hd : (x == ("__debug__" : Str)) = false := by decide) : wpAny (model X.prog X.w) X.A (eval (.Name x pos) X.env) Q E s :=
  Calls.Name_function_global I.ok.kind hg (Calls.loadGlobal_global (by rw [I.ok.glob]; exact I.mod.glob.keeps I.bk) hm h) hd
theorem ld_blt {E : Value → Shared → Prop} {pins : List (Addr × Obj)} {s : Shared} {σ : St} {H : Hp} {x : Str} {u : Value} {pos : Pos} {Q : Value → Shared → Prop} (I : Inv X pins σ H s) (hg : Gl X x) (hm : X.mg x = none) (hv : bootBuiltins x = some u) (h : Q u s)
    (hn : x ≠ "__name__" := by decide) (hd : (x == ("__debug__" : Str)) = false := by decide) : wpAny (model X.prog X.w) X.A (eval (.Name x pos) X.env) Q E s := by
  obtain ⟨mb, h1, h2⟩ := I.mod.blt
  exact Calls.Name_function_global I.ok.kind hg (Calls.loadGlobal_builtin (by rw [I.ok.glob]; exact I.mod.glob.keeps I.bk) hm (by rw [I.ok.blt]; exact h1.keeps I.bk) ((h2 x hn).trans hv) h) hd
theorem pe_glob {x : Str} {v : V} {u : Value} {pos : Pos} (hg : Gl X x) (hm : X.mg x = some u) (r : RelV v u) (hd : (x == ("__debug__" : Str)) = false := by decide) : PE X (.Name x pos) (tC v) :=
  fun _ _ _ H _ I h => ld_glob I hg hm ⟨v, H, I, r, h⟩ hd
theorem pe_bltn {x : Str} {v : V} {u : Value} {pos : Pos} (hg : Gl X x) (hm : X.mg x = none) (hv : bootBuiltins x = some u) (r : RelV v u) (hn : x ≠ "__name__" := by decide) (hd : (x == ("__debug__" : Str)) = false := by decide) : PE X (.Name x pos) (tC v) :=
  fun _ _ _ H _ I h => ld_blt I hg hm hv ⟨v, H, I, r, h⟩ hn hd
def t2I (ta tb : TE) (k : Int → Int → Hp → Prop) : St → Hp → Prop := fun σ H => ta σ H fun x H1 => tb σ H1 fun y H2 => ∃ i j, x = .int i ∧ y = .int j ∧ k i j H2
def tAdd (ta tb : TE) : TE := fun σ H Q => t2I ta tb (fun i j H2 => Q (.int (i + j)) H2) σ H
def tSub (ta tb : TE) : TE := fun σ H Q => t2I ta tb (fun i j H2 => Q (.int (i - j)) H2) σ H
def tMul (ta tb : TE) : TE := fun σ H Q => t2I ta tb (fun i j H2 => (-(2 ^ 64) < i ∧ i < 2 ^ 64) ∧ Q (.int (i * j)) H2) σ H
variable {a b : Expr} {ta tb : TE} {pos : Pos}
def PC (X : Cx) (op : CmpOp) (a b : Expr) (t : TE) : Prop :=
  ∀ (pins : List (Addr × Obj)) (s : Shared) (σ : St) (H : Hp) (Q : VK), Inv X pins σ H s → t σ H Q →
    wpAny (model X.prog X.w) X.A (eval a X.env) (fun v s₁ => wpAny (model X.prog X.w) X.A (eval b X.env) (fun u s₂ => wpAny (model X.prog X.w) X.A (compareOp op v u) (EP X pins σ Q) X.xe s₂) X.xe s₁) X.xe s
def tCmp (p : Int → Int → Bool) (ta tb : TE) : TE := fun σ H Q => t2I ta tb (fun i j H2 => Q (.bl (p i j)) H2) σ H
abbrev tLt : TE → TE → TE := tCmp fun i j => decide (i < j)
abbrev tLe : TE → TE → TE := tCmp fun i j => decide (i ≤ j)
abbrev tGt : TE → TE → TE := tCmp fun i j => decide (j < i)
abbrev tGe : TE → TE → TE := tCmp fun i j => decide (j ≤ i)
abbrev tEqI : TE → TE → TE := tCmp fun i j => decide (i = j)
abbrev tNeI : TE → TE → TE := tCmp fun i j => !decide (i = j)
def tIsN (ta : TE) : TE := fun σ H Q => ta σ H fun x H1 => Q (.bl (decide (x = .non))) H1
def tNotN (ta : TE) : TE := fun σ H Q => ta σ H fun x H1 => Q (.bl (!decide (x = .non))) H1
def tB (t : TE) : TT := fun σ H Q => t σ H fun x H1 => ∃ c, x = .bl c ∧ Q c H1
theorem pt_val {e : Expr} {t : TE} (h : PE X e t) (he : ∀ whole, isTrue e X.env whole = (do let v ← whole; standAt e.pos; holding [v] (truthy v)) := by intro _; rfl) : PT X e (tB t) := by
  intro pins s σ H Q I hw
  refine isTrue_plain (thn (h pins s σ H _ I hw) fun v s1 ⟨x, H1, I1, r1, q1⟩ => ?_) (he _)
  obtain ⟨d, rfl, q⟩ := q1
  cases r1
  exact wpAny_truthy_bool ⟨H1, I1, q⟩
variable {tA tB' : TT} {rest : List Expr}
def tAnd (t u : TT) : TT := fun σ H Q => t σ H fun c H1 => if c = true then u σ H1 Q else Q false H1
def tOr (t u : TT) : TT := fun σ H Q => t σ H fun c H1 => if c = true then Q true H1 else u σ H1 Q
def tNot (t : TT) : TT := fun σ H Q => t σ H fun c H1 => Q (!c) H1
theorem pw_and1 (ha : PT X a tA) : PW X (.BoolOp .And [a] pos) tA := by
  intro wh pins s σ H Q I h
  refine isTrue_and (thn (ha pins s σ H Q I h) fun c s1 e => ?_)
  cases c with
  | true => exact isTrue_and_nil e
  | false => exact e
theorem pw_or1 (ha : PT X a tA) : PW X (.BoolOp .Or [a] pos) tA := by
  intro wh pins s σ H Q I h
  refine isTrue_or (thn (ha pins s σ H Q I h) fun c s1 e => ?_)
  cases c with
  | false => exact isTrue_or_nil e
  | true => exact e
theorem pw_and (ha : PT X a tA) (hb : PW X (.BoolOp .And (b :: rest) pos) tB') : PW X (.BoolOp .And (a :: b :: rest) pos) (tAnd tA tB') := by
  intro wh pins s σ H Q I h
  refine isTrue_and (thn (ha pins s σ H _ I h) fun c s1 ⟨H1, I1, q1⟩ => ?_)
  cases c with
  | true => exact hb wh pins s1 σ H1 Q I1 q1
  | false => exact ⟨H1, I1, q1⟩
theorem pw_or (ha : PT X a tA) (hb : PW X (.BoolOp .Or (b :: rest) pos) tB') : PW X (.BoolOp .Or (a :: b :: rest) pos) (tOr tA tB') := by
  intro wh pins s σ H Q I h
  refine isTrue_or (thn (ha pins s σ H _ I h) fun c s1 ⟨H1, I1, q1⟩ => ?_)
  cases c with
  | true => exact ⟨H1, I1, q1⟩
  | false => exact hb wh pins s1 σ H1 Q I1 q1
theorem pt_not (ha : PT X a tA) : PT X (.UnaryOp .Not a pos) (tNot tA) := by
  intro pins s σ H Q I h
  exact isTrue_not (ha pins s σ H (fun c H1 => Q (!c) H1) I h)
def tAndV (ta tb : TE) : TE := fun σ H Q => ta σ H fun x H1 => ∃ c, x = .bl c ∧ if c = true then tb σ H1 Q else Q (.bl false) H1
def tOrV (ta tb : TE) : TE := fun σ H Q => ta σ H fun x H1 => ∃ c, x = .bl c ∧ if c = true then Q (.bl true) H1 else tb σ H1 Q
def tNotV (ta : TE) : TE := fun σ H Q => ta σ H fun x H1 => ∃ c, x = .bl c ∧ Q (.bl (!c)) H1
theorem pe_one {op} {t : TE} (h : PE X a t) : PE X (.BoolOp op [a] pos) t := fun pins s σ H Q I hw => BoolOp_one (h pins s σ H Q I hw)
theorem pe_and (ha : PE X a ta) (hb : PE X (.BoolOp .And (b :: rest) pos) tb) : PE X (.BoolOp .And (a :: b :: rest) pos) (tAndV ta tb) := by
  intro pins s σ H Q I h
  refine BoolOp_and (thn (ha pins s σ H _ I h) fun v s1 ⟨x, H1, I1, r1, q1⟩ => ?_)
  obtain ⟨c, rfl, q1⟩ := q1
  cases r1
  refine wpAny_truthy_bool ?_
  cases c with
  | true => exact hb pins s1 σ H1 Q I1 q1
  | false => exact ⟨.bl false, H1, I1, rfl, q1⟩
theorem pe_not (ha : PE X a ta) : PE X (.UnaryOp .Not a pos) (tNotV ta) := by
  intro pins s σ H Q I h
  refine UnaryOp_ (thn (ha pins s σ H _ I h) fun v s1 ⟨x, H1, I1, r1, q1⟩ => ?_)
  obtain ⟨c, rfl, q1⟩ := q1
  cases r1
  exact not_of (wpAny_truthy_bool ⟨.bl (!c), H1, I1, rfl, q1⟩)
def tIf (t : TT) (ta tb : TE) : TE := fun σ H Q => t σ H fun c H1 => if c = true then ta σ H1 Q else tb σ H1 Q
theorem pe_ifExp {c : Expr} (hc : PT X c tA) (ha : PE X a ta) (hb : PE X b tb) : PE X (.IfExp c a b pos) (tIf tA ta tb) := by
  intro pins s σ H Q I h
  refine wpAny_IfExp (thn (hc pins s σ H _ I h) fun d s1 ⟨H1, I1, q1⟩ => ?_)
  cases d with
  | true => exact ha pins s1 σ H1 Q I1 q1
  | false => exact hb pins s1 σ H1 Q I1 q1
end
end L2
namespace L2
open PySem PySem.Spec PyProof.Rows
def SqL (K : PySem.W.Frag) (H : Hp) (a : Addr) (xs : List V) : Prop :=
  Rd H a (.lst xs) ∨
    ∃ (o : Obj) (its : Array Value) (n : Nat), K.lookup a = some o ∧ o.cls = .type "list" ∧ o.dict = none ∧ o.data = .seq its n ∧ its.size ≤ sizeLine ∧ Vals xs its.toList
def SqT (K : PySem.W.Frag) (H : Hp) (a : Addr) (xs : List V) : Prop :=
  Rd H a (.tup xs) ∨
    ∃ (o : Obj) (its : Array Value) (n : Nat), K.lookup a = some o ∧ o.cls = .type "tuple" ∧ o.data = .seq its n ∧ its.size ≤ sizeLine ∧ Vals xs its.toList
def absV : Value → Option V
  | .none => some .non
  | .bool b => some (.bl b)
  | .int i _ => some (.int i)
  | .str x _ => some (.str x)
  | .bytes b _ => some (.byt b)
  | .float b _ => some (.flt b)
  | .ref a => some (.ref a)
  | .type n => some (.ty n)
  | _ => none
theorem RelV.abs {x : V} {u : Value} (r : RelV x u) : absV u = some x := by
  cases x with
  | non => cases r; rfl
  | bl _ => cases r; rfl
  | int _ => obtain ⟨t, rfl⟩ := r; rfl
  | str _ => obtain ⟨t, rfl⟩ := r; rfl
  | byt _ => obtain ⟨t, rfl⟩ := r; rfl
  | flt _ => obtain ⟨t, rfl⟩ := r; rfl
  | ref _ => cases r; rfl
  | ty _ => cases r; rfl
theorem RelV.inj {x y : V} {u : Value} (r : RelV x u) (q : RelV y u) : x = y := Option.some.inj (r.abs.symm.trans q.abs)
theorem Vals.inj : ∀ {xs ys : List V} {us : List Value}, Vals xs us → Vals ys us → xs = ys
  | _, _, _, .nil, .nil => rfl
  | _, _, _, .cons r t, .cons r' t' => by rw [r.inj r', Vals.inj t t']
section
variable {X : Cx} {pins : List (Addr × Obj)} {σ : St} {H : Hp} {s : Shared} {a : Addr} {xs ys : List V}
theorem SqL.of {K : PySem.W.Frag} (h : H a = some (.lst xs)) : SqL K H a xs := .inl (.inl h)
theorem SqT.of {K : PySem.W.Frag} (h : H a = some (.tup xs)) : SqT K H a xs := .inl (.inl h)
theorem Inv.list (I : Inv X pins σ H s) (h : SqL X.K H a xs) : ∃ its : List Value, Vals xs its ∧ PlainL s.heap a its.toArray ∧ xs.length ≤ sizeLine := by
  rcases h with h | ⟨o, its, n, hk, hc, hd, hs, hz, r⟩
  · obtain ⟨z, its, n, r, e⟩ := h.ok I.hok
    exact ⟨its, r, ⟨_, n, e, rfl, rfl, rfl⟩, z⟩
  · refine ⟨its.toList, r, ⟨o, n, I.kIn a o hk, hc, hd, by simpa using hs⟩, ?_⟩
    have e := r.length
    simp only [Array.length_toList] at e
    omega
theorem Inv.tuple (I : Inv X pins σ H s) (h : SqT X.K H a xs) : ∃ its : List Value, Vals xs its ∧ IsTup s.heap a its.toArray ∧ xs.length ≤ sizeLine := by
  rcases h with h | ⟨o, its, n, hk, hc, hs, hz, r⟩
  · obtain ⟨z, its, r, p⟩ := h.ok I.hok
    exact ⟨its, r, p, z⟩
  · refine ⟨its.toList, r, ⟨o, I.kIn a o hk, hc, n, by simpa using hs⟩, ?_⟩
    have e := r.length
    simp only [Array.length_toList] at e
    omega
theorem Inv.list_inj (I : Inv X pins σ H s) (h : SqL X.K H a xs) (h' : SqL X.K H a ys) : xs = ys := by
  obtain ⟨its, r, ⟨o, n, e, _, _, d⟩, _⟩ := I.list h
  obtain ⟨its', r', ⟨o', n', e', _, _, d'⟩, _⟩ := I.list h'
  rw [e] at e'; cases e'
  rw [d] at d'
  injection d' with d1 _
  have : its = its' := by simpa using congrArg Array.toList d1
  subst this
  exact r.inj r'
theorem Inv.tuple_inj (I : Inv X pins σ H s) (h : SqT X.K H a xs) (h' : SqT X.K H a ys) : xs = ys := by
  obtain ⟨its, r, ⟨o, e, _, n, d⟩, _⟩ := I.tuple h
  obtain ⟨its', r', ⟨o', e', _, n', d'⟩, _⟩ := I.tuple h'
  rw [e] at e'; cases e'
  rw [d] at d'
  injection d' with d1 _
  have : its = its' := by simpa using congrArg Array.toList d1
  subst this
  exact r.inj r'
end
abbrev Cx.wish (X : Cx) (E : Value → Shared → Prop) : Cx := { X with xe := E }
abbrev Cx.nox (X : Cx) : Cx := X.wish fun _ _ => False
theorem Cx.Ok.wish {X : Cx} (ok : X.Ok) (E : Value → Shared → Prop) : (X.wish E).Ok :=
  ⟨ok.mod, ok.kind, ok.glob, ok.blt, ok.above, ok.inj, ok.has, ok.cab, ok.hd, ok.frames, ok.stk, ok.exf, ok.bs, ok.bsz, ok.noex, ok.exfs, ok.funs, ok.frf⟩
theorem Cx.Ok.unwish {X : Cx} {E : Value → Shared → Prop} (ok : (X.wish E).Ok) : X.Ok :=
  ⟨ok.mod, ok.kind, ok.glob, ok.blt, ok.above, ok.inj, ok.has, ok.cab, ok.hd, ok.frames, ok.stk, ok.exf, ok.bs, ok.bsz, ok.noex, ok.exfs, ok.funs, ok.frf⟩
section
variable {X : Cx} {pins : List (Addr × Obj)} {σ : St} {H : Hp} {s : Shared} {E : Value → Shared → Prop}
theorem Inv.wish (I : Inv X pins σ H s) (E : Value → Shared → Prop) : Inv (X.wish E) pins σ H s := ⟨I.ok.wish E, I.os, I.bare, I.base, I.loc, I.cell, I.free, I.freeC, I.pin, I.hok, I.len⟩
theorem Inv.unwish (I : Inv (X.wish E) pins σ H s) : Inv X pins σ H s := ⟨I.ok.unwish, I.os, I.bare, I.base, I.loc, I.cell, I.free, I.freeC, I.pin, I.hok, I.len⟩
theorem SP.unwish {D : Ends} {f : Flow} {s' : Shared} (h : SP (X.wish E) pins D f s') : SP X pins D f s' := by
  cases f with
  | next => obtain ⟨σ', H', I, q⟩ := h; exact ⟨σ', H', I.unwish, q⟩
  | brk => obtain ⟨σ', H', I, q⟩ := h; exact ⟨σ', H', I.unwish, q⟩
  | cont => obtain ⟨σ', H', I, q⟩ := h; exact ⟨σ', H', I.unwish, q⟩
  | ret u => obtain ⟨v, σ', H', I, r, q⟩ := h; exact ⟨v, σ', H', I.unwish, r, q⟩
theorem PE.nox {e : Expr} {t : TE} (h : PE X.nox e t) : PE X e t := fun pins s σ H Q I hw =>
  wpAny_mono (h pins s σ H Q (I.wish _) hw) (fun _ _ ⟨v, H', I', r, q⟩ => ⟨v, H', I'.unwish, r, q⟩) fun _ _ z => False.elim z
theorem PT.nox {e : Expr} {t : TT} (h : PT X.nox e t) : PT X e t := fun pins s σ H Q I hw =>
  wpAny_mono (h pins s σ H Q (I.wish _) hw) (fun _ _ ⟨H', I', q⟩ => ⟨H', I'.unwish, q⟩) fun _ _ z => False.elim z
theorem PSs.nox {st : List Stmt} {t : TS} (h : PSs X.nox st t) : PSs X st t := fun pins s σ H D I hw =>
  wpAny_mono (h pins s σ H D (I.wish _) hw) (fun _ _ q => q.unwish) fun _ _ z => False.elim z
end
section
variable {X : Cx} {st : Stmt} {rest : List Stmt} {t u : TS} {e : Expr} {te : TE} {pos : Pos}
def tNext : TS := fun D σ H => D.nx σ H
def tSeq (t u : TS) : TS := fun D σ H => t { D with nx := u D } σ H
theorem pss_nil : PSs X [] tNext := fun _ _ σ H _ I h => wpAny_execs_nil ⟨σ, H, I, h⟩
theorem pss_cons (h1 : PS X st t) (h2 : PSs X rest u) : PSs X (st :: rest) (tSeq t u) := by
  intro pins s σ H D I h
  refine wpAny_execs_cons (thn (h1 pins s σ H { D with nx := u D } I h) fun f s1 q => ?_)
  cases f with
  | next =>
    obtain ⟨σ', H', I', q⟩ := q
    exact h2 pins s1 σ' H' D I' q
  | ret v => exact q
  | brk => exact q
  | cont => exact q
theorem pss_one (h1 : PS X st t) : PSs X [st] t := by
  intro pins s σ H D I h
  refine wpAny_execs_cons (thn (h1 pins s σ H D I h) fun f s1 q => ?_)
  cases f with
  | next => exact wpAny_execs_nil q
  | ret v => exact q
  | brk => exact q
  | cont => exact q
def tBreak : TS := fun D σ H => D.bk σ H
def tCont : TS := fun D σ H => D.ct σ H
theorem Inv.quiet {pins : List (Addr × Obj)} {σ : St} {H : Hp} {s : Shared} (I : Inv X pins σ H s) : interactive X.env = false := by simp [interactive, I.ok.kind]
def tDrop (te : TE) : TS := fun D σ H => te σ H fun _ H1 => D.nx σ H1
theorem ps_expr (he : PE X e te) (hs : swapsWith e none pos.line X.env = pure false := by rfl) : PS X (.Expr e pos) (tDrop te) := by
  intro pins s σ H D I h
  exact wpAny_Expr_any (thn (he pins s σ H _ I h) fun v s1 ⟨x, H1, I1, r1, q1⟩ => ⟨σ, H1, I1, q1⟩) I.quiet hs
def tRet (te : TE) : TS := fun D σ H => te σ H D.rt
theorem ps_ret (he : PE X e te) : PS X (.Return (some e) pos) (tRet te) := by
  intro pins s σ H D I h
  exact wpAny_Return_some (thn (he pins s σ H _ I h) fun v s1 ⟨x, H1, I1, r1, q1⟩ => ⟨x, σ, H1, I1, r1, q1⟩)
def tRetN : TS := fun D _ H => D.rt .non H
def tIfS (c : TT) (t u : TS) : TS := fun D σ H => c σ H fun b H1 => if b = true then t D σ H1 else u D σ H1
theorem ps_if {c : Expr} {a b : List Stmt} {tc : TT} (hc : PT X c tc) (ha : PSs X a t) (hb : PSs X b u) : PS X (.If c a b pos) (tIfS tc t u) := by
  intro pins s σ H D I h
  refine wpAny_If (thn (hc pins s σ H _ I h) fun d s1 ⟨H1, I1, q1⟩ => ?_)
  cases d with
  | true => exact ha pins s1 σ H1 D I1 q1
  | false => exact hb pins s1 σ H1 D I1 q1
def tNever : TS := fun _ _ _ => False
end
abbrev TG := V → St → Hp → (St → Hp → Prop) → Prop
abbrev TGs := List V → St → Hp → (St → Hp → Prop) → Prop
def PG (X : Cx) (target : Expr) (t : TG) : Prop :=
  ∀ (pins : List (Addr × Obj)) (s : Shared) (σ : St) (H : Hp) (v : V) (u : Value) (Q : St → Hp → Prop), Inv X pins σ H s → RelV v u → t v σ H Q →
    wpAny (model X.prog X.w) X.A (assign target X.env u) (fun _ s' => ∃ σ' H', Inv X pins σ' H' s' ∧ Q σ' H') X.xe s
def PGs (X : Cx) (ts : List Expr) (t : TGs) : Prop :=
  ∀ (pins : List (Addr × Obj)) (s : Shared) (σ : St) (H : Hp) (vs : List V) (us : List Value) (Q : St → Hp → Prop), Inv X pins σ H s → Vals vs us → t vs σ H Q →
    wpAny (model X.prog X.w) X.A (assignInOrder ((assignEach ts X.env).map (·.2)) us) (fun _ s' => ∃ σ' H', Inv X pins σ' H' s' ∧ Q σ' H') X.xe s
abbrev TSet := V → V → V → Hp → (Hp → Prop) → Prop
def PSet (X : Cx) (t : TSet) : Prop :=
  ∀ (pins : List (Addr × Obj)) (s : Shared) (σ : St) (H : Hp) (o i v : V) (ov iv u : Value) (Q : Hp → Prop), Inv X pins σ H s → RelV o ov → RelV i iv → RelV v u → t o i v H Q →
    wpAny (model X.prog X.w) X.A (setItem ov iv u) (fun _ s' => ∃ H', Inv X pins σ H' s' ∧ Q H') X.xe s
abbrev TIp := V → V → Hp → VK → Prop
def PIp (X : Cx) (op : Operator) (t : TIp) : Prop :=
  ∀ (pins : List (Addr × Obj)) (s : Shared) (σ : St) (H : Hp) (x y : V) (v u : Value) (Q : VK), Inv X pins σ H s → RelV x v → RelV y u → t x y H Q →
    wpAny (model X.prog X.w) X.A (inplaceOp op v u) (EP X pins σ Q) X.xe s
section
variable {X : Cx} {pos : Pos}
def gName (i : Nat) : TG := fun v σ H Q => Q (σ.set i (some v)) H
theorem pg_name {i : Nat} {x : Str} (hN : X.N.Nodup) (hi : X.N[i]? = some x) (hx : Loc X.env.scope x) (hf : X.fn x = true ∨ X.env.scope.names.lookup x = some .local := by first | exact .inl rfl | exact .inr rfl | assumption) : PG X (.Name x pos) (gName i) := by
  intro pins s σ H v u Q I r h
  exact wpAny_assign_Name (store_ok I hN hi hx r (fun s' I' => ⟨_, H, I', h⟩) hf)
def gNil : TGs := fun vs σ H Q => vs = [] ∧ Q σ H
def gCons (t : TG) (u : TGs) : TGs := fun vs σ H Q => ∃ v r, vs = v :: r ∧ t v σ H fun σ' H' => u r σ' H' Q
theorem pgs_nil : PGs X [] gNil := by
  intro pins s σ H vs us Q I r h
  obtain ⟨e, h⟩ := h
  subst e
  cases r
  exact assignInOrder_nil ⟨σ, H, I, h⟩
theorem pgs_cons {e : Expr} {es : List Expr} {t : TG} {u : TGs} (h1 : PG X e t) (h2 : PGs X es u)
    (hs : (assignEach (e :: es) X.env).map (·.2) = assign e X.env :: (assignEach es X.env).map (·.2) := by rfl) : PGs X (e :: es) (gCons t u) := by
  intro pins s σ H vs us Q I r h
  obtain ⟨v, vr, e1, h⟩ := h
  subst e1
  cases r with
  | cons r rr =>
    rw [hs]
    refine assignInOrder_cons (thn (h1 pins s σ H _ _ _ I r h) fun _ s1 ⟨σ1, H1, I1, q1⟩ => ?_)
    exact h2 pins s1 σ1 H1 _ _ Q I1 rr q1
def gTup (K : PySem.W.Frag) (n : Nat) (t : TGs) : TG := fun v σ H Q => ∃ a xs, v = .ref a ∧ SqT K H a xs ∧ xs.length = n ∧ t xs σ H Q
theorem pg_tup {es : List Expr} {k : Nat} {t : TGs} {n : Nat} (hc : X.calm = true) (h : PGs X es t)
    (hn : (assignEach es X.env).length = n := by rfl) (hst : (assignEach es X.env).findIdx? (·.1) = none := by rfl) : PG X (.Tuple es k pos) (gTup X.K n t) := by
  intro pins s σ H v u Q I r hw
  obtain ⟨a, xs, e1, hq, hl, hw⟩ := hw
  subst e1
  cases r
  obtain ⟨its, rv, ht, hz⟩ := I.tuple hq
  refine assign_Tuple_tuple (I.ok.hd hc) ht (by simp [hn, ← hl, rv.length]) hst fun h' hx => ?_
  have I1 : Inv X pins σ H { s with heap := h' } := I.kept (t' := s.toks) fun b o e => hx b o (Nat.ne_of_lt (Heap.lt_size e)) e
  exact h pins _ σ H xs _ Q I1 (by simpa using rv) hw
def gSub (to ti : TE) (t : TSet) : TG := fun v σ H Q => to σ H fun o H1 => ti σ H1 fun i H2 => t o i v H2 fun H3 => Q σ H3
theorem pg_sub {o i : Expr} {to ti : TE} {t : TSet} (ho : PE X o to) (hi : PE X i ti) (hs : PSet X t)
    (ha : ∀ v, assign (.Subscript o i pos) X.env v = (do
      let ov ← holding [v] (eval o X.env)
      let iv ← holding [v, ov] (eval i X.env)
      standAt pos
      holding [v, ov, iv] (setItem ov iv v)
      release [v, ov, iv] []) := by intro _; rfl) : PG X (.Subscript o i pos) (gSub to ti t) := by
  intro pins s σ H v u Q I r h
  rw [ha]
  refine wpAny_bind (wpAny_holding (thn (ho pins s σ H _ I h) fun ov s1 ⟨x, H1, I1, r1, q1⟩ => ?_))
  refine wpAny_bind (wpAny_holding (thn (hi pins s1 σ H1 _ I1 q1) fun iv s2 ⟨y, H2, I2, r2, q2⟩ => ?_))
  refine wpAny_bind (wpAny_standAt (wpAny_bind (wpAny_holding (thn (hs pins s2 σ H2 x y v ov iv u _ I2 r1 r2 r q2) fun _ s3 ⟨H3, I3, q3⟩ => ?_))))
  exact wpAny_release ⟨σ, H3, I3, q3⟩
def tAsg (te : TE) (g : TG) : TS := fun D σ H => te σ H fun x H1 => g x σ H1 D.nx
theorem ps_asg {tg e : Expr} {te : TE} {g : TG} (he : PE X e te) (hg : PG X tg g) (hs : swapsWithSole [tg] e pos.line X.env = pure false := by rfl) (hw : swappedStores [tg] e X.env = pure none := by rfl)
    (h1 : (assignEach [tg] X.env).map (·.2) = [assign tg X.env] := by rfl) : PS X (.Assign [tg] e pos) (tAsg te g) := by
  intro pins s σ H D I h
  refine wpAny_Assign_stores (thn (he pins s σ H _ I h) fun v s1 ⟨x, H1, I1, r1, q1⟩ => ?_) hs hw
  rw [h1]
  exact thn (hg pins s1 σ H1 x v _ I1 r1 q1) fun _ s2 q => q
theorem ps_set {i : Nat} {x : Str} {e : Expr} {te : TE} {pos' : Pos} (hN : X.N.Nodup) (hi : X.N[i]? = some x) (hx : Loc X.env.scope x) (he : PE X e te) (hs : swapsWith e (some (.Name x pos')) pos.line X.env = pure false := by rfl) (hf : X.fn x = true ∨ X.env.scope.names.lookup x = some .local := by first | exact .inl rfl | exact .inr rfl | assumption) :
    PS X (.Assign [.Name x pos'] e pos) (tAsg te (gName i)) := by
  intro pins s σ H D I h
  refine wpAny_Assign_Name (thn (he pins s σ H _ I h) fun v s1 ⟨y, H1, I1, r1, q1⟩ => ?_) hs
  exact store_ok I1 hN hi hx r1 (fun s2 I2 => ⟨_, H1, I2, q1⟩) hf
def tPar (i j : Nat) (ta : TA) : TS := fun D σ H => ta σ H fun vs H1 => ∃ v w, vs = [v, w] ∧ D.nx ((σ.set i (some v)).set j (some w)) H1
def tAug (i : Nat) (te : TE) (ti : TIp) : TS := fun D σ H => ∃ x, σ[i]? = some (some x) ∧ te σ H fun y H1 => ti x y H1 fun z H2 => D.nx (σ.set i (some z)) H2
def tAugS (to ti te : TE) (tget : V → V → Hp → VK → Prop) (tip : TIp) (tset : TSet) : TS := fun D σ H => to σ H fun o H1 => ti σ H1 fun i H2 => tget o i H2 fun x H3 => te σ H3 fun y H4 => tip x y H4 fun z H5 => tset o i z H5 fun H6 => D.nx σ H6
def PGet (X : Cx) (t : V → V → Hp → VK → Prop) : Prop :=
  ∀ (pins : List (Addr × Obj)) (s : Shared) (σ : St) (H : Hp) (o i : V) (ov iv : Value) (Q : VK), Inv X pins σ H s → RelV o ov → RelV i iv → t o i H Q →
    wpAny (model X.prog X.w) X.A (getItem ov iv) (EP X pins σ Q) X.xe s
def ipI (f : Int → Int → Int) : TIp := fun x y H Q => ∃ i j, x = .int i ∧ y = .int j ∧ Q (.int (f i j)) H
end
section
variable {X : Cx} {pos : Pos}
def tWhile (c : TT) (tb : TS) : TS := fun D σ H => ∃ W : Nat → St → Hp → Prop, (∃ m, W m σ H) ∧ ∀ m σ H, W m σ H →
  c σ H fun b H1 => if b = true then ∃ N : St → Hp → Prop, (∀ σ' H', N σ' H' → ∃ m', m' < m ∧ W m' σ' H') ∧ tb { D with nx := N, ct := N, bk := D.nx } σ H1 else D.nx σ H1
end
structure It where
  go : Nat → Hp → Prop
  yld : Nat → Hp → V → Hp → Prop
  stop : Nat → Hp → Prop
def FpOk (X : Cx) (pins : List (Addr × Obj)) (H : Hp) (b : Addr) : Prop :=
  H b = none ∧ b ≠ X.env.locals ∧ b ∉ X.fs ∧ (b ∈ X.ex ∨ X.s₀.heap.objs.size ≤ b) ∧ (∀ x c, X.env.cells.lookup x = some c → c ≠ b) ∧ ∀ p ∈ X.pn ++ pins, p.1 ≠ b
theorem Inv.fpOk {X : Cx} {pins : List (Addr × Obj)} {σ : St} {H H' : Hp} {s : Shared} {b : Addr} (I : Inv X pins σ H s) (hb : s.heap.objs.size ≤ b) (hn : H' b = none) : FpOk X pins H' b := by
  refine ⟨hn, Nat.ne_of_gt (Nat.lt_of_lt_of_le I.lt hb), I.nofs hb, .inr (Nat.le_trans I.sz hb), fun x c e z => ?_, fun p hp z => ?_⟩
  · obtain ⟨v, q⟩ := I.cell x c e
    exact absurd (Nat.lt_of_lt_of_le q.lt (by rw [z]; exact hb)) (Nat.lt_irrefl _)
  · exact absurd (Nat.lt_of_lt_of_le (Heap.lt_size (I.pin p hp).1) (by rw [z]; exact hb)) (Nat.lt_irrefl _)
structure Turn (P : Program) (w : World) (K : PySem.W.Frag) (tg : Expr) (J : It) (fp : List Addr) (it : Addr) (tn : Nat → Heap → Prop) : Prop where
  mem : it ∈ fp
  obj : ∀ i h, tn i h → ∀ b ∈ fp, ∃ o, h.get? b = some o ∧ ∀ v, o.data ≠ .cell v
  keep : ∀ i h h', tn i h → (∀ b ∈ fp, ∀ o, h.get? b = some o → h'.get? b = some o) → tn i h'
  item : ∀ (X : Cx), X.prog = P → X.w = w → X.K = K → X.calm = true → ∀ (i : Nat) (pins : List (Addr × Obj)) (s : Shared) (σ : St) (H : Hp) (E : Value → Shared → Prop), Inv X pins σ H s → (∀ b ∈ fp, FpOk X pins H b) → tn i s.heap → J.go i H →
    wpAny (model P w) X.A (pyNext (.ref it)) (fun r s1 => ∃ u, r = some u ∧
      wpAny (model P w) X.A (letOwnedTupleGo tg (.ref it) u) (fun _ s2 => ∃ x H', Inv X pins σ H' s2 ∧ RelV x u ∧ J.yld i H x H' ∧ tn (i + 1) s2.heap ∧ ∀ b ∈ fp, H' b = none) E s1) E s
  done : ∀ (X : Cx), X.prog = P → X.w = w → X.K = K → X.calm = true → ∀ (i : Nat) (pins : List (Addr × Obj)) (s : Shared) (σ : St) (H : Hp) (E : Value → Shared → Prop), Inv X pins σ H s → (∀ b ∈ fp, FpOk X pins H b) → tn i s.heap → J.stop i H →
    wpAny (model P w) X.A (pyNext (.ref it)) (fun r s1 => r = none ∧ Inv X pins σ H s1) E s
  self : ∀ (A : Around) (i : Nat) (s : Shared) (Q : Value → Shared → Prop) (E : Value → Shared → Prop), tn i s.heap → Q (.ref it) s → wpAny (model P w) A (pyIter (.ref it)) Q E s
abbrev TI := St → Hp → (It → Hp → Prop) → Prop
def PIE (X : Cx) (pins : List (Addr × Obj)) (σ : St) (tg : Expr) (R : It → Hp → Prop) (itv : Value) (s2 : Shared) : Prop :=
  ∃ (it : Addr) (fp : List Addr) (tn : Nat → Heap → Prop) (J : It) (H' : Hp), itv = .ref it ∧ Inv X pins σ H' s2 ∧ Turn X.prog X.w X.K tg J fp it tn ∧ tn 0 s2.heap ∧ (∀ b ∈ fp, FpOk X pins H' b) ∧ R J H'
def PI (X : Cx) (tg iter : Expr) (wi : TI) : Prop :=
  ∀ (pins : List (Addr × Obj)) (s : Shared) (σ : St) (H : Hp) (R : It → Hp → Prop), Inv X pins σ H s → wi σ H R →
    wpAny (model X.prog X.w) X.A (eval iter X.env) (fun v s1 => wpAny (model X.prog X.w) X.A (pyIter v) (PIE X pins σ tg R) X.xe s1) X.xe s
theorem go_of {M : Model} {A : Around} {E : Value → Shared → Prop} {s : Shared} {tg : Expr} {it : Addr} {u : Value} {o : Obj} {n : String} {vs : Array Value} {Q : Unit → Shared → Prop} (ho : s.heap.get? it = some o) (hc : o.cls = .type n) (hd : o.data = .fields vs)
    (hn : ["enumerate", "zip", "dict_itemiterator", "dict_reverseitemiterator", "odict_iterator", "itertools.zip_longest", "itertools.pairwise"].contains n = false) (hQ : Q () s) : wpAny M A (letOwnedTupleGo tg (.ref it) u) Q E s := by
  unfold letOwnedTupleGo
  cases tg <;> first
    | exact wpAny_pure hQ
    | (cases u <;> first
        | exact wpAny_pure hQ
        | (refine wpAny_bind (wpAny_load ho ?_)
           rw [hc, hd]
           show wpAny M A (if (["enumerate", "zip", "dict_itemiterator", "dict_reverseitemiterator", "odict_iterator", "itertools.zip_longest", "itertools.pairwise"].contains n && vs[0]? == some (rawInt _)) = true then _ else _) Q E s
           rw [if_neg (by intro h; rw [hn, Bool.false_and] at h; cases h)]
           exact wpAny_pure hQ))
def Itl (K : PySem.W.Frag) (a : Addr) : It :=
  ⟨fun i H => ∃ xs x, SqL K H a xs ∧ xs[i]? = some x, fun i H x H' => H' = H ∧ ∀ xs, SqL K H a xs → xs[i]? = some x, fun i H => ∃ xs, SqL K H a xs ∧ xs.length ≤ i⟩
def Itt (K : PySem.W.Frag) (a : Addr) : It :=
  ⟨fun i H => ∃ xs x, SqT K H a xs ∧ xs[i]? = some x, fun i H x H' => H' = H ∧ ∀ xs, SqT K H a xs → xs[i]? = some x, fun i H => ∃ xs, SqT K H a xs ∧ xs.length ≤ i⟩
def Itr (lo : Int) (n : Nat) : It := ⟨fun i _ => i < n, fun i H x H' => H' = H ∧ x = .int (lo + i), fun i _ => n ≤ i⟩
theorem turn_list {P : Program} {w : World} {K : PySem.W.Frag} {tg : Expr} (a it : Addr) : Turn P w K tg (Itl K a) [it] it (fun i h => h.IsListIter it a i) where
  mem := by simp
  obj := fun i h st b hb => by
    have e : b = it := by simpa using hb
    subst e
    obtain ⟨o, e, c, d⟩ := st
    exact ⟨o, e, fun v z => by rw [d] at z; cases z⟩
  keep := fun i h h' st k => st.at fun o e => k it (by simp) o e
  item := by
    intro X hP hw hK hc i pins s σ H E I hf st hg
    subst hP hw hK
    obtain ⟨xs, x, hq, hx⟩ := hg
    obtain ⟨its, rv, p, hz⟩ := I.list hq
    obtain ⟨u, hu, ru⟩ := rv.get hx
    obtain ⟨f0, f1, f2, f3, f4, f5⟩ := hf it (by simp)
    refine wpAny_pyNext_list_item st p.isList (x := u) (by simpa using hu) fun h' st' sb => ?_
    have I1 : Inv X pins σ H { s with heap := h' } := I.turned (t' := s.toks) (fun b o hb e => (sb.2 b hb).trans e) f0 f1 f3 f4 f5
    obtain ⟨o, e, c, d⟩ := id st'
    exact ⟨u, rfl, go_of (s := { s with heap := h' }) e c d (by decide) ⟨x, H, I1, ru, ⟨rfl, fun ys hy => by rw [I.list_inj hy hq]; exact hx⟩, st', fun b hb => (hf b hb).1⟩⟩
  done := by
    intro X hP hw hK hc i pins s σ H E I hf st hg
    subst hP hw hK
    obtain ⟨xs, hq, hx⟩ := hg
    obtain ⟨its, rv, p, hz⟩ := I.list hq
    obtain ⟨f0, f1, f2, f3, f4, f5⟩ := hf it (by simp)
    have hl := rv.length
    exact wpAny_pyNext_list_end (I.ok.hd hc) st p.isList (by simp; omega) fun h' eb => ⟨rfl, I.turned (t' := s.toks) (fun b o hb e => eb b o hb e) f0 f1 f3 f4 f5⟩
  self := fun _ _ _ _ _ st h => wpAny_pyIter_listiter st h
theorem turn_tuple {P : Program} {w : World} {K : PySem.W.Frag} {tg : Expr} (a it : Addr) : Turn P w K tg (Itt K a) [it] it (fun i h => h.IsTupleIter it a i) where
  mem := by simp
  obj := fun i h st b hb => by
    have e : b = it := by simpa using hb
    subst e
    obtain ⟨o, e, c, d⟩ := st
    exact ⟨o, e, fun v z => by rw [d] at z; cases z⟩
  keep := fun i h h' st k => st.at fun o e => k it (by simp) o e
  item := by
    intro X hP hw hK hc i pins s σ H E I hf st hg
    subst hP hw hK
    obtain ⟨xs, x, hq, hx⟩ := hg
    obtain ⟨its, rv, p, hz⟩ := I.tuple hq
    obtain ⟨u, hu, ru⟩ := rv.get hx
    obtain ⟨f0, f1, f2, f3, f4, f5⟩ := hf it (by simp)
    refine wpAny_pyNext_tuple_item st (show s.heap.IsTuple a its.toArray from p) (x := u) (by simpa using hu) fun h' st' sb => ?_
    have I1 : Inv X pins σ H { s with heap := h' } := I.turned (t' := s.toks) (fun b o hb e => (sb.2 b hb).trans e) f0 f1 f3 f4 f5
    obtain ⟨o, e, c, d⟩ := id st'
    exact ⟨u, rfl, go_of (s := { s with heap := h' }) e c d (by decide) ⟨x, H, I1, ru, ⟨rfl, fun ys hy => by rw [I.tuple_inj hy hq]; exact hx⟩, st', fun b hb => (hf b hb).1⟩⟩
  done := by
    intro X hP hw hK hc i pins s σ H E I hf st hg
    subst hP hw hK
    obtain ⟨xs, hq, hx⟩ := hg
    obtain ⟨its, rv, p, hz⟩ := I.tuple hq
    obtain ⟨f0, f1, f2, f3, f4, f5⟩ := hf it (by simp)
    have hl := rv.length
    exact wpAny_pyNext_tuple_end (I.ok.hd hc) st (show s.heap.IsTuple a its.toArray from p) (by simp; omega) fun h' eb => ⟨rfl, I.turned (t' := s.toks) (fun b o hb e => eb b o hb e) f0 f1 f3 f4 f5⟩
  self := fun _ _ _ _ _ st h => wpAny_pyIter_tupleiter st h
theorem turn_range {P : Program} {w : World} {K : PySem.W.Frag} {tg : Expr} (it : Addr) (lo : Int) (n : Nat) : Turn P w K tg (Itr lo n) [it] it (fun i h => IsRangeIter h it (lo + (i : Nat) * 1) ((n : Int) - (i : Nat)) 1) where
  mem := by simp
  obj := fun i h st b hb => by
    have e : b = it := by simpa using hb
    subst e
    exact ⟨_, st, fun v z => by
      have z' : Data.fields _ = Data.cell v := z
      cases z'⟩
  keep := fun i h h' st k => k it (by simp) _ st
  item := by
    intro X hP hw hK hc i pins s σ H E I hf st hg
    subst hP hw hK
    obtain ⟨f0, f1, f2, f3, f4, f5⟩ := hf it (by simp)
    have W := Walks.range (prog := X.prog) (w := X.w) (I.ok.hd hc) it lo 1 n
    refine W.item i s _ _ hg st fun v h' tk hv st' kk => ?_
    obtain ⟨t, rfl⟩ := hv
    have I1 : Inv X pins σ H { s with heap := h', toks := tk } := I.turned (fun b o hb e => kk b o (by simpa using hb) e) f0 f1 f3 f4 f5
    refine ⟨_, rfl, go_of (s := { s with heap := h', toks := tk }) (n := "range_iterator") st' rfl rfl (by decide) ⟨.int (lo + i), H, I1, ⟨t, ?_⟩, ⟨rfl, rfl⟩, st', fun b hb => (hf b hb).1⟩⟩
    rw [Int.mul_one]
  done := by
    intro X hP hw hK hc i pins s σ H E I hf st hg
    subst hP hw hK
    obtain ⟨f0, f1, f2, f3, f4, f5⟩ := hf it (by simp)
    exact wpAny_pyNext_range_end (I.ok.hd hc) st (by have : n ≤ i := hg; omega) fun h' eb => ⟨rfl, I.turned (t' := s.toks) (fun b o hb e => eb b o hb e) f0 f1 f3 f4 f5⟩
  self := fun _ _ _ _ _ st h => wpAny_pyIter_rangeiter st h
end L2
namespace L2
open PySem PySem.Spec PyProof.Rows
section
variable {X : Cx} {tg : Expr}
def iList (K : PySem.W.Frag) (tl : TE) : TI := fun σ H R => tl σ H fun x H1 => ∃ a, x = .ref a ∧ (∃ xs, SqL K H1 a xs) ∧ R (Itl K a) H1
def iTup (K : PySem.W.Frag) (tl : TE) : TI := fun σ H R => tl σ H fun x H1 => ∃ a, x = .ref a ∧ (∃ xs, SqT K H1 a xs) ∧ R (Itt K a) H1
theorem pi_list {l : Expr} {tl : TE} (hl : PE X l tl) : PI X tg l (iList X.K tl) := by
  intro pins s σ H R I h
  refine thn (hl pins s σ H _ I h) fun v s1 ⟨x, H1, I1, r1, q1⟩ => ?_
  obtain ⟨a, e, ⟨xs, hq⟩, q⟩ := q1
  subst e
  cases r1
  obtain ⟨its, rv, p, hz⟩ := I1.list hq
  refine wpAny_pyIter_list p.isList ?_
  refine ⟨s1.heap.objs.size, [s1.heap.objs.size], _, _, H1, rfl, I1.kept (t' := s1.toks) fun b o e => Heap.get?_push_of_some _ e, turn_list a _, ⟨_, Heap.get?_push_size _ rfl, rfl, rfl⟩, fun b hb => ?_, q⟩
  have e : b = s1.heap.objs.size := by simpa using hb
  subst e
  exact I1.fpOk (Nat.le_refl _) (I1.hok.fresh (Nat.le_refl _))
theorem pi_tup {l : Expr} {tl : TE} (hl : PE X l tl) : PI X tg l (iTup X.K tl) := by
  intro pins s σ H R I h
  refine thn (hl pins s σ H _ I h) fun v s1 ⟨x, H1, I1, r1, q1⟩ => ?_
  obtain ⟨a, e, ⟨xs, hq⟩, q⟩ := q1
  subst e
  cases r1
  obtain ⟨its, rv, p, hz⟩ := I1.tuple hq
  refine wpAny_pyIter_tuple (show s1.heap.IsTuple a its.toArray from p) ?_
  refine ⟨s1.heap.objs.size, [s1.heap.objs.size], _, _, H1, rfl, I1.kept (t' := s1.toks) fun b o e => Heap.get?_push_of_some _ e, turn_tuple a _, ⟨_, Heap.get?_push_size _ rfl, rfl, rfl⟩, fun b hb => ?_, q⟩
  have e : b = s1.heap.objs.size := by simpa using hb
  subst e
  exact I1.fpOk (Nat.le_refl _) (I1.hok.fresh (Nat.le_refl _))
theorem range_it {pins : List (Addr × Obj)} {σ : St} {H : Hp} {s : Shared} {R : It → Hp → Prop} {E : Value → Shared → Prop} {lo hi : Int} {t u v : Tok} {tk : Nat} (I : Inv X pins σ H s) (h1 : -(2 ^ 62) ≤ lo) (h2 : lo < 2 ^ 62) (h3 : -(2 ^ 62) ≤ hi) (h4 : hi < 2 ^ 62)
    (q : R (Itr lo (hi - lo).toNat) H) : wpAny (model X.prog X.w) X.A (pyIter (.ref s.heap.objs.size)) (PIE X pins σ tg R) E { s with heap := s.heap.push { cls := .type "range", data := .fields #[.int lo t, .int hi u, .int 1 v] }, toks := tk } := by
  refine wpAny_pyIter_range (IsRange.new ..) (small_one h1 h2 h3 h4) ?_
  have I1 : Inv X pins σ H { s with heap := s.heap.push { cls := .type "range", data := .fields #[.int lo t, .int hi u, .int 1 v] }, toks := tk } := I.kept fun b o e => Heap.get?_push_of_some _ e
  refine ⟨(s.heap.push { cls := .type "range", data := .fields #[.int lo t, .int hi u, .int 1 v] }).objs.size, [(s.heap.push { cls := .type "range", data := .fields #[.int lo t, .int hi u, .int 1 v] }).objs.size], _, _, H, rfl,
    I1.kept (t' := tk) fun b o e => Heap.get?_push_of_some _ e, turn_range _ lo (hi - lo).toNat, ?_, fun b hb => ?_, q⟩
  · have e1 : lo + ((0 : Nat) : Int) * 1 = lo := by simp
    have e2 : (((hi - lo).toNat : Nat) : Int) - ((0 : Nat) : Int) = Builtin.Range.rangeSize lo hi 1 := by rw [rangeSize_one]; split <;> omega
    show IsRangeIter _ _ (lo + ((0 : Nat) : Int) * 1) ((((hi - lo).toNat : Nat) : Int) - ((0 : Nat) : Int)) 1
    rw [e1, e2]
    exact Heap.get?_push_size _ rfl
  · have e : b = (s.heap.push { cls := .type "range", data := .fields #[.int lo t, .int hi u, .int 1 v] }).objs.size := by simpa using hb
    subst e
    exact I1.fpOk (Nat.le_refl _) (I1.hok.fresh (Nat.le_refl _))
def iRng1 (ta : TA) : TI := fun σ H R => ta σ H fun vs H1 => ∃ j : Int, vs = [.int j] ∧ -(2 ^ 62) ≤ j ∧ j < 2 ^ 62 ∧ R (Itr 0 j.toNat) H1
def iRng2 (ta : TA) : TI := fun σ H R => ta σ H fun vs H1 => ∃ i j : Int, vs = [.int i, .int j] ∧ (-(2 ^ 62) ≤ i ∧ i < 2 ^ 62 ∧ -(2 ^ 62) ≤ j ∧ j < 2 ^ 62) ∧ R (Itr i (j - i).toNat) H1
theorem pi_range1 {a : Expr} {ta : TA} {p pos : Pos} (hg : Gl X "range") (hm : X.mg "range" = none) (ha : PA X [a] ta) (hs : starEach [a] X.env = [(false, eval a X.env)] := by rfl) : PI X tg (.Call (.Name "range" p) [a] [] pos) (iRng1 ta) := by
  intro pins s σ H R I h
  refine Call_ (ld_blt I hg hm boot_range (PyProof.Rows.callWith_type1 (thn (ha pos pins s σ H _ I h) fun us s1 ⟨vs, H1, I1, r1, q1⟩ => ?_) hs rfl))
  obtain ⟨j, e, q1, q2, q⟩ := q1
  subst e
  cases r1 with
  | cons r rr =>
    cases rr
    obtain ⟨t, rfl⟩ := r
    exact call_range_1 (range_it I1 (by omega) (by omega) q1 q2 (by simpa using q))
def tFor (wi : TI) (g : TG) (tb : TS) : TS := fun D σ H => wi σ H fun J H1 => ∃ W : Nat → Nat → St → Hp → Prop, (∃ m, W 0 m σ H1) ∧ ∀ i m σ H, W i m σ H →
  (J.stop i H ∧ D.nx σ H) ∨ (J.go i H ∧ ∃ N : St → Hp → Prop, (∀ σ' H', N σ' H' → ∃ m', m' < m ∧ W (i + 1) m' σ' H') ∧ ∀ x H', J.yld i H x H' → g x σ H' fun σ2 H2 => tb { D with nx := N, ct := N, bk := D.nx } σ2 H2)
def pinsAt (fp : List Addr) (h : Heap) : List (Addr × Obj) := fp.filterMap fun b => (h.get? b).map fun o => (b, o)
theorem mem_pinsAt {fp : List Addr} {h : Heap} {b : Addr} {o : Obj} (hb : b ∈ fp) (e : h.get? b = some o) : (b, o) ∈ pinsAt fp h := List.mem_filterMap.mpr ⟨b, hb, by rw [e]; rfl⟩
theorem of_pinsAt {fp : List Addr} {h : Heap} {p : Addr × Obj} (hp : p ∈ pinsAt fp h) : p.1 ∈ fp ∧ h.get? p.1 = some p.2 := by
  obtain ⟨b, hb, e⟩ := List.mem_filterMap.mp hp
  cases q : h.get? b with
  | none => rw [q] at e; cases e
  | some o =>
    rw [q] at e
    have e' : (b, o) = p := Option.some.inj e
    subst e'
    exact ⟨hb, q⟩
theorem Inv.pinned {pins : List (Addr × Obj)} {σ : St} {H : Hp} {s : Shared} {fp : List Addr} (I : Inv X pins σ H s) (hf : ∀ b ∈ fp, FpOk X pins H b) (ho : ∀ b ∈ fp, ∃ o, s.heap.get? b = some o ∧ ∀ v, o.data ≠ .cell v) : Inv X (pins ++ pinsAt fp s.heap) σ H s :=
  I.pins_of fun p hp => (List.mem_append.mp hp).elim (fun z => I.pin p (List.mem_append_right _ z)) fun z => by
    obtain ⟨hb, e⟩ := of_pinsAt z
    obtain ⟨f0, f1, f2, _⟩ := hf p.1 hb
    obtain ⟨o, e', d⟩ := ho p.1 hb
    rw [e] at e'; cases e'
    exact ⟨e, f0, f1, f2, d⟩
theorem Inv.unpinned {pins pl : List (Addr × Obj)} {σ : St} {H : Hp} {s : Shared} (I : Inv X (pins ++ pl) σ H s) : Inv X pins σ H s := I.pins_of fun p hp => I.pin p (List.mem_append_right _ (List.mem_append_left _ hp))
theorem ps_for {iter : Expr} {body : List Stmt} {wi : TI} {g : TG} {tb : TS} {pos : Pos} (hp : PassesOwn (model X.prog X.w) X.A X.env X.xe) (hc : X.calm = true) (hi : PI X tg iter wi) (hg : PG X tg g) (hb : PSs X body tb)
    (hs : ∀ x, foldedSetIterable iter X.env x = pure x := by intro _; rfl) : PS X (.For tg iter body [] pos) (tFor wi g tb) := by
  intro pins s σ H D I h
  refine wpAny_For (thn (hi pins s σ H _ I h) fun v s1 h1 => thn h1 fun itv s2 h2 => ?_) hs
  obtain ⟨it, fp, tn, J, H2, e, I2, T, st2, f2, W, ⟨m0, w0⟩, turn⟩ := h2
  subst e
  have stat : ∀ {H' : Hp}, (∀ b ∈ fp, H' b = none) → ∀ b ∈ fp, FpOk X pins H' b := fun hn b hb => ⟨hn b hb, (f2 b hb).2⟩
  refine codeAny_forLoop_any (fun n s' => ∃ i σ' H', Inv X pins σ' H' s' ∧ tn i s'.heap ∧ (∀ b ∈ fp, H' b = none) ∧ W i n σ' H') ?_ m0 ⟨0, σ, H2, I2, st2, fun b hb => (f2 b hb).1, w0⟩
  rintro n s3 ⟨i, σ3, H3, I3, st3, fr3, w3⟩
  rcases turn i n σ3 H3 w3 with ⟨stop, qn⟩ | ⟨go, N, hN, step⟩
  · refine wpAny_passesOwn hp (thn (T.done X rfl rfl rfl hc i pins s3 σ3 H3 X.xe I3 (stat fr3) st3 stop) fun r s4 ⟨hr, I4⟩ => ?_)
    subst hr
    exact wpAny_execs_nil ⟨σ3, H3, I4, qn⟩
  · refine wpAny_passesOwn hp (thn (T.item X rfl rfl rfl hc i pins s3 σ3 H3 X.xe I3 (stat fr3) st3 go) fun r s4 ⟨u, hr, h4⟩ => ?_)
    subst hr
    refine wpAny_passesOwn hp (thn h4 fun _ s5 ⟨x, H5, I5, r5, y5, st5, fr5⟩ => ?_)
    have I5' := I5.pinned (stat fr5) (T.obj _ _ st5)
    refine wpAny_passesOwn hp (thn (hg _ s5 σ3 H5 x u _ I5' r5 (step x H5 y5)) fun _ s6 ⟨σ6, H6, I6, q6⟩ => ?_)
    refine wpAny_passesOwn hp (thn (hb _ s6 σ6 H6 _ I6 q6) fun f s7 q7 => ?_)
    have again : ∀ {σ7 : St} {H7 : Hp}, Inv X (pins ++ pinsAt fp s5.heap) σ7 H7 s7 → N σ7 H7 → ∃ m, m < n ∧ ∃ i σ' H', Inv X pins σ' H' s7 ∧ tn i s7.heap ∧ (∀ b ∈ fp, H' b = none) ∧ W i m σ' H' := fun {σ7 H7} I7 n7 => by
      obtain ⟨m', hm, w7⟩ := hN σ7 H7 n7
      refine ⟨m', hm, i + 1, σ7, H7, I7.unpinned, T.keep _ _ _ st5 fun b hb o e => (I7.pin (b, o) (List.mem_append_right _ (List.mem_append_right _ (mem_pinsAt hb e)))).1, fun b hb => ?_, w7⟩
      obtain ⟨o, e, d⟩ := T.obj _ _ st5 b hb
      exact (I7.pin (b, o) (List.mem_append_right _ (List.mem_append_right _ (mem_pinsAt hb e)))).2.1
    cases f with
    | next => obtain ⟨σ7, H7, I7, n7⟩ := q7; exact again I7 n7
    | cont => obtain ⟨σ7, H7, I7, n7⟩ := q7; exact again I7 n7
    | brk => obtain ⟨σ7, H7, I7, q7⟩ := q7; exact ⟨σ7, H7, I7.unpinned, q7⟩
    | ret v => obtain ⟨x7, σ7, H7, I7, r7, q7⟩ := q7; exact ⟨x7, σ7, H7, I7.unpinned, r7, q7⟩
end
theorem for_list {K : PySem.W.Frag} {a : Addr} {xs : List V} {g : TG} {tb : TS} {D : Ends} {σ : St} {H : Hp} (Pv : Nat → St → Hp → Prop) (h0 : Pv 0 σ H) (hl : ∀ i σ H, i ≤ xs.length → Pv i σ H → SqL K H a xs)
    (hs : ∀ i x σ H, xs[i]? = some x → Pv i σ H → g x σ H fun σ2 H2 => tb { D with nx := Pv (i + 1), ct := Pv (i + 1), bk := D.nx } σ2 H2) (hd : ∀ σ H, Pv xs.length σ H → D.nx σ H) :
    ∃ W : Nat → Nat → St → Hp → Prop, (∃ m, W 0 m σ H) ∧ ∀ i m σ H, W i m σ H →
      ((Itl K a).stop i H ∧ D.nx σ H) ∨ ((Itl K a).go i H ∧ ∃ N : St → Hp → Prop, (∀ σ' H', N σ' H' → ∃ m', m' < m ∧ W (i + 1) m' σ' H') ∧ ∀ x H', (Itl K a).yld i H x H' → g x σ H' fun σ2 H2 => tb { D with nx := N, ct := N, bk := D.nx } σ2 H2) := by
  refine ⟨fun i m σ H => m = xs.length - i ∧ i ≤ xs.length ∧ Pv i σ H, ⟨xs.length, by simp, Nat.zero_le _, h0⟩, ?_⟩
  rintro i m σ H ⟨rfl, hi, p⟩
  have q := hl i σ H hi p
  by_cases hlt : i < xs.length
  · refine .inr ⟨⟨xs, xs[i], q, by simp [hlt]⟩, Pv (i + 1), fun σ' H' p' => ⟨xs.length - (i + 1), by omega, rfl, hlt, p'⟩, fun x H' y => ?_⟩
    obtain ⟨e, y⟩ := y
    subst e
    exact hs i x σ _ (y xs q) p
  · have e : i = xs.length := by omega
    subst e
    exact .inl ⟨⟨xs, q, Nat.le_refl _⟩, hd σ H p⟩
theorem for_range {lo : Int} {n : Nat} {g : TG} {tb : TS} {D : Ends} {σ : St} {H : Hp} (Pv : Nat → St → Hp → Prop) (h0 : Pv 0 σ H)
    (hs : ∀ i σ H, i < n → Pv i σ H → g (.int (lo + i)) σ H fun σ2 H2 => tb { D with nx := Pv (i + 1), ct := Pv (i + 1), bk := D.nx } σ2 H2) (hd : ∀ σ H, Pv n σ H → D.nx σ H) :
    ∃ W : Nat → Nat → St → Hp → Prop, (∃ m, W 0 m σ H) ∧ ∀ i m σ H, W i m σ H →
      ((Itr lo n).stop i H ∧ D.nx σ H) ∨ ((Itr lo n).go i H ∧ ∃ N : St → Hp → Prop, (∀ σ' H', N σ' H' → ∃ m', m' < m ∧ W (i + 1) m' σ' H') ∧ ∀ x H', (Itr lo n).yld i H x H' → g x σ H' fun σ2 H2 => tb { D with nx := N, ct := N, bk := D.nx } σ2 H2) := by
  refine ⟨fun i m σ H => m = n - i ∧ i ≤ n ∧ Pv i σ H, ⟨n, by simp, Nat.zero_le _, h0⟩, ?_⟩
  rintro i m σ H ⟨rfl, hi, p⟩
  by_cases hlt : i < n
  · refine .inr ⟨hlt, Pv (i + 1), fun σ' H' p' => ⟨n - (i + 1), by omega, rfl, hlt, p'⟩, fun x H' y => ?_⟩
    obtain ⟨e, y⟩ := y
    subst e y
    exact hs i σ _ hlt p
  · have e : i = n := by omega
    subst e
    exact .inl ⟨Nat.le_refl _, hd σ H p⟩
end L2
namespace L2
open PySem PySem.Spec PyProof.Rows
abbrev R2 := V → V → Hp → VK → Prop
def OpR (X : Cx) (f : Value → Value → Sem Value) (r : R2) : Prop :=
  ∀ (pins : List (Addr × Obj)) (s : Shared) (σ : St) (H : Hp) (x y : V) (v u : Value) (Q : VK), Inv X pins σ H s → RelV x v → RelV y u → r x y H Q →
    wpAny (model X.prog X.w) X.A (f v u) (EP X pins σ Q) X.xe s
def UnR (X : Cx) (f : Value → Sem Value) (r : V → Hp → VK → Prop) : Prop :=
  ∀ (pins : List (Addr × Obj)) (s : Shared) (σ : St) (H : Hp) (x : V) (v : Value) (Q : VK), Inv X pins σ H s → RelV x v → r x H Q →
    wpAny (model X.prog X.w) X.A (f v) (EP X pins σ Q) X.xe s
def CallR (X : Cx) (f : Value) (r : List V → Hp → VK → Prop) : Prop :=
  ∀ (pins : List (Addr × Obj)) (s : Shared) (σ : St) (H : Hp) (xs : List V) (us : List Value) (Q : VK), Inv X pins σ H s → Vals xs us → r xs H Q →
    wpAny (model X.prog X.w) X.A (call f us) (EP X pins σ Q) X.xe s
def TruR (X : Cx) (r : V → Hp → (Bool → Hp → Prop) → Prop) : Prop :=
  ∀ (pins : List (Addr × Obj)) (s : Shared) (σ : St) (H : Hp) (x : V) (v : Value) (Q : Bool → Hp → Prop), Inv X pins σ H s → RelV x v → r x H Q →
    wpAny (model X.prog X.w) X.A (truthy v) (TP X pins σ Q) X.xe s
def tOp (r : R2) (ta tb : TE) : TE := fun σ H Q => ta σ H fun x H1 => tb σ H1 fun y H2 => r x y H2 Q
def tUn (r : V → Hp → VK → Prop) (ta : TE) : TE := fun σ H Q => ta σ H fun x H1 => r x H1 Q
def rI (C : Int → Int → Prop) (g : Int → Int → V) : R2 := fun x y H Q => ∃ i j, x = .int i ∧ y = .int j ∧ C i j ∧ Q (g i j) H
def rI0 (g : Int → Int → V) : R2 := fun x y H Q => ∃ i j, x = .int i ∧ y = .int j ∧ Q (g i j) H
def rU (g : Int → V) : V → Hp → VK → Prop := fun x H Q => ∃ i, x = .int i ∧ Q (g i) H
section
variable {X : Cx} {a b c : Expr} {ta tb tc : TE} {pos : Pos}
theorem binT (ha : PE X a ta) (hb : PE X b tb) {pins : List (Addr × Obj)} {s : Shared} {σ : St} {H : Hp} {R : V → V → Hp → Prop} (I : Inv X pins σ H s)
    (h : ta σ H fun x H1 => tb σ H1 fun y H2 => R x y H2) {Q : Value → Shared → Prop} {f : Value → Value → Sem Value}
    (hf : ∀ v u s2 x y H2, Inv X pins σ H2 s2 → RelV x v → RelV y u → R x y H2 → wpAny (model X.prog X.w) X.A (f v u) Q X.xe s2) :
    wpAny (model X.prog X.w) X.A (eval a X.env) (fun v s₁ => wpAny (model X.prog X.w) X.A (eval b X.env) (fun u s₂ => wpAny (model X.prog X.w) X.A (f v u) Q X.xe s₂) X.xe s₁) X.xe s := by
  refine thn (ha pins s σ H _ I h) fun v s1 ⟨x, H1, I1, r1, q1⟩ => ?_
  refine thn (hb pins s1 σ H1 _ I1 q1) fun u s2 ⟨y, H2, I2, r2, q2⟩ => ?_
  exact hf v u s2 x y H2 I2 r1 r2 q2
theorem pe_op {op : Operator} {r : R2} (ho : OpR X (binaryOp op) r) (ha : PE X a ta) (hb : PE X b tb) : PE X (.BinOp a op b pos) (tOp r ta tb) := by
  intro pins s σ H Q I h
  exact wpAny_BinOp (binT ha hb I h fun v u s2 x y H2 I2 rx ry q => ho pins s2 σ H2 x y v u Q I2 rx ry q)
theorem pe_un {op : UnaryOp} {r : V → Hp → VK → Prop} (ho : UnR X (unaryOp op) r) (ha : PE X a ta) : PE X (.UnaryOp op a pos) (tUn r ta) := by
  intro pins s σ H Q I h
  exact UnaryOp_ (thn (ha pins s σ H _ I h) fun v s1 ⟨x, H1, I1, r1, q1⟩ => ho pins s1 σ H1 x v Q I1 r1 q1)
theorem opI {f : Value → Value → Sem Value} {C : Int → Int → Prop} {g : Int → Int → Int}
    (rule : ∀ (i j : Int) (t u : Tok) (s : Shared) (Q : Value → Shared → Prop) (E : Value → Shared → Prop), C i j → Q (.int (g i j) s.toks) { s with toks := s.toks + 1 } → wpAny (model X.prog X.w) X.A (f (.int i t) (.int j u)) Q E s) :
    OpR X f (rI C fun i j => .int (g i j)) := by
  intro pins s σ H x y v u Q I rx ry h
  obtain ⟨i, j, rfl, rfl, hc, q⟩ := h
  obtain ⟨t, rfl⟩ := rx
  obtain ⟨t', rfl⟩ := ry
  exact rule i j t t' s _ _ hc ⟨.int (g i j), H, I.tok _, ⟨_, rfl⟩, q⟩
theorem opI0 {f : Value → Value → Sem Value} {g : Int → Int → Int}
    (rule : ∀ (i j : Int) (t u : Tok) (s : Shared) (Q : Value → Shared → Prop) (E : Value → Shared → Prop), Q (.int (g i j) s.toks) { s with toks := s.toks + 1 } → wpAny (model X.prog X.w) X.A (f (.int i t) (.int j u)) Q E s) :
    OpR X f (rI0 fun i j => .int (g i j)) := by
  intro pins s σ H x y v u Q I rx ry h
  obtain ⟨i, j, rfl, rfl, q⟩ := h
  obtain ⟨t, rfl⟩ := rx
  obtain ⟨t', rfl⟩ := ry
  exact rule i j t t' s _ _ ⟨.int (g i j), H, I.tok _, ⟨_, rfl⟩, q⟩
theorem opB0 {f : Value → Value → Sem Value} {g : Int → Int → Bool}
    (rule : ∀ (i j : Int) (t u : Tok) (s : Shared) (Q : Value → Shared → Prop) (E : Value → Shared → Prop), Q (.bool (g i j)) s → wpAny (model X.prog X.w) X.A (f (.int i t) (.int j u)) Q E s) :
    OpR X f (rI0 fun i j => .bl (g i j)) := by
  intro pins s σ H x y v u Q I rx ry h
  obtain ⟨i, j, rfl, rfl, q⟩ := h
  obtain ⟨t, rfl⟩ := rx
  obtain ⟨t', rfl⟩ := ry
  exact rule i j t t' s _ _ ⟨.bl (g i j), H, I, rfl, q⟩
def CDiv (i j : Int) : Prop := 0 < j ∧ j < 1073741824
def CDivN (i j : Int) : Prop := j ≠ 0 ∧ j.natAbs < 1073741824
def CPow (i j : Int) : Prop := 0 ≤ j ∧ j ≤ 1000000 ∧ i.natAbs < 2 ^ 64
def CMul (i j : Int) : Prop := (-(2 ^ 64) < i ∧ i < 2 ^ 64) ∨ (-(2 ^ 64) < j ∧ j < 2 ^ 64)
theorem CMul.ok {i j : Int} (h : CMul i j) : IntMulOk i j := by
  rcases h with ⟨h1, h2⟩ | ⟨h1, h2⟩
  · exact .of_left (intBits_le_64 h1 h2)
  · exact .of_right (intBits_le_64 h1 h2)
theorem op_add : OpR X (binaryOp .Add) (rI0 fun i j => .int (i + j)) := opI0 fun _ _ _ _ _ _ _ q => add_int q
theorem op_sub : OpR X (binaryOp .Sub) (rI0 fun i j => .int (i - j)) := opI0 fun _ _ _ _ _ _ _ q => sub_int q
theorem op_mul : OpR X (binaryOp .Mult) (rI CMul fun i j => .int (i * j)) := opI fun _ _ _ _ _ _ _ hc q => mul_int q hc.ok
theorem op_mod : OpR X (binaryOp .Mod) (rI (fun _ j => 0 < j) fun i j => .int (i % j)) := opI fun i j _ _ _ _ _ hc q => by
  have h1 : (0 : Int) < j := hc
  exact mod_int' (by omega) (by rw [Int.fmod_eq_emod_of_nonneg i (by omega)]; exact q)
theorem op_pow : OpR X (binaryOp .Pow) (rI CPow fun i j => .int (i ^ j.toNat)) := opI fun _ _ _ _ _ _ _ hc q => pow_int_small hc.1 hc.2.1 hc.2.2 q
theorem unI {f : Value → Sem Value} {g : Int → Int}
    (rule : ∀ (i : Int) (t : Tok) (s : Shared) (Q : Value → Shared → Prop) (E : Value → Shared → Prop), Q (.int (g i) s.toks) { s with toks := s.toks + 1 } → wpAny (model X.prog X.w) X.A (f (.int i t)) Q E s) :
    UnR X f (rU fun i => .int (g i)) := by
  intro pins s σ H x v Q I rx h
  obtain ⟨i, rfl, q⟩ := h
  obtain ⟨t, rfl⟩ := rx
  exact rule i t s _ _ ⟨.int (g i), H, I.tok _, ⟨_, rfl⟩, q⟩
theorem un_neg : UnR X (unaryOp .USub) (rU fun i => .int (-i)) := unI fun _ _ _ _ _ q => neg_int q
end
def scal : V → V → Bool
  | .non, .non => true | .non, .int _ => true | .int _, .non => true | .non, .bl _ => true | .bl _, .non => true | .non, .str _ => true | .str _, .non => true
  | .int _, .int _ => true | .bl _, .bl _ => true | .str _, .str _ => true | .byt _, .byt _ => true
  | .int _, .str _ => true | .str _, .int _ => true | .bl _, .str _ => true | .str _, .bl _ => true
  | _, _ => false
def rEq : R2 := fun x y H Q => scal x y = true ∧ Q (.bl (decide (x = y))) H
def rNe : R2 := fun x y H Q => scal x y = true ∧ Q (.bl (!decide (x = y))) H
theorem dec_int {i j : Int} : decide (V.int i = V.int j) = (i == j) := by
  rw [Bool.eq_iff_iff]
  simp
theorem dec_bl {i j : Bool} : decide (V.bl i = V.bl j) = (i == j) := by
  rw [Bool.eq_iff_iff]
  simp
theorem dec_str {i j : Str} : decide (V.str i = V.str j) = (i == j) := by
  rw [Bool.eq_iff_iff]
  simp
theorem dec_byt {i j : Array UInt8} : decide (V.byt i = V.byt j) = (i.toList == j.toList) := by
  rw [Bool.eq_iff_iff]
  cases i
  cases j
  simp
section
variable {X : Cx} {a b c : Expr} {ta tb tc : TE} {pos : Pos}
theorem fin_bl {pins : List (Addr × Obj)} {σ : St} {H : Hp} {s : Shared} {Q : VK} {k k' : Bool} (I : Inv X pins σ H s) (q : Q (.bl k) H) (e : k = k') : EP X pins σ Q (.bool k') s := by
  subst e
  exact ⟨.bl k, H, I, rfl, q⟩
theorem op_eq : OpR X (compareOp .Eq) rEq := by
  intro pins s σ H x y v u Q I rx ry h
  obtain ⟨hs, q⟩ := h
  cases x with
  | non =>
    cases rx
    cases y with
    | non => cases ry; exact PySem.EqNone.eq_none_none (fin_bl I q (by simp))
    | bl j => cases ry; exact PySem.EqNone.eq_none_bool (fin_bl I q (by simp))
    | int j => obtain ⟨t', rfl⟩ := ry; exact PySem.EqNone.eq_none_int (fin_bl I q (by simp))
    | str j => obtain ⟨t', rfl⟩ := ry; exact PySem.EqNone.eq_none_str (fin_bl I q (by simp))
    | _ => exact absurd (show false = true from hs) Bool.false_ne_true
  | bl i =>
    cases rx
    cases y with
    | non => cases ry; exact PySem.EqNone.eq_bool_none (fin_bl I q (by simp))
    | bl j => cases ry; exact eq_bool (fin_bl I q dec_bl)
    | str j => obtain ⟨t', rfl⟩ := ry; exact PySem.EqMixed.eq_bool_str (fin_bl I q (by simp))
    | _ => exact absurd (show false = true from hs) Bool.false_ne_true
  | int i =>
    obtain ⟨t, rfl⟩ := rx
    cases y with
    | non => cases ry; exact PySem.EqNone.eq_int_none (fin_bl I q (by simp))
    | int j => obtain ⟨t', rfl⟩ := ry; exact eq_int (fin_bl I q dec_int)
    | str j => obtain ⟨t', rfl⟩ := ry; exact PySem.EqMixed.eq_int_str (fin_bl I q (by simp))
    | _ => exact absurd (show false = true from hs) Bool.false_ne_true
  | str i =>
    obtain ⟨t, rfl⟩ := rx
    cases y with
    | non => cases ry; exact PySem.EqNone.eq_str_none (fin_bl I q (by simp))
    | bl j => cases ry; exact PySem.EqMixed.eq_str_bool (fin_bl I q (by simp))
    | int j => obtain ⟨t', rfl⟩ := ry; exact PySem.EqMixed.eq_str_int (fin_bl I q (by simp))
    | str j => obtain ⟨t', rfl⟩ := ry; exact eq_str (fin_bl I q dec_str)
    | _ => exact absurd (show false = true from hs) Bool.false_ne_true
  | byt i =>
    obtain ⟨t, rfl⟩ := rx
    cases y with
    | byt j => obtain ⟨t', rfl⟩ := ry; exact PySem.W.eq_bytes (fin_bl I q dec_byt)
    | _ => exact absurd (show false = true from hs) Bool.false_ne_true
  | _ => cases y <;> exact absurd (show false = true from hs) Bool.false_ne_true
theorem op_ne : OpR X (compareOp .NotEq) rNe := by
  intro pins s σ H x y v u Q I rx ry h
  obtain ⟨hs, q⟩ := h
  cases x with
  | non =>
    cases rx
    cases y with
    | non => cases ry; exact PySem.EqNone.ne_none_none (fin_bl I q (by simp))
    | bl j => cases ry; exact PySem.EqNone.ne_none_bool (fin_bl I q (by simp))
    | int j => obtain ⟨t', rfl⟩ := ry; exact PySem.EqNone.ne_none_int (fin_bl I q (by simp))
    | str j => obtain ⟨t', rfl⟩ := ry; exact PySem.EqNone.ne_none_str (fin_bl I q (by simp))
    | _ => exact absurd (show false = true from hs) Bool.false_ne_true
  | bl i =>
    cases rx
    cases y with
    | non => cases ry; exact PySem.EqNone.ne_bool_none (fin_bl I q (by simp))
    | bl j => cases ry; exact ne_bool (fin_bl I q (congrArg not dec_bl))
    | str j => obtain ⟨t', rfl⟩ := ry; exact PySem.EqMixed.ne_bool_str (fin_bl I q (by simp))
    | _ => exact absurd (show false = true from hs) Bool.false_ne_true
  | int i =>
    obtain ⟨t, rfl⟩ := rx
    cases y with
    | non => cases ry; exact PySem.EqNone.ne_int_none (fin_bl I q (by simp))
    | int j => obtain ⟨t', rfl⟩ := ry; exact ne_int (fin_bl I q (congrArg not dec_int))
    | str j => obtain ⟨t', rfl⟩ := ry; exact PySem.EqMixed.ne_int_str (fin_bl I q (by simp))
    | _ => exact absurd (show false = true from hs) Bool.false_ne_true
  | str i =>
    obtain ⟨t, rfl⟩ := rx
    cases y with
    | non => cases ry; exact PySem.EqNone.ne_str_none (fin_bl I q (by simp))
    | bl j => cases ry; exact PySem.EqMixed.ne_str_bool (fin_bl I q (by simp))
    | int j => obtain ⟨t', rfl⟩ := ry; exact PySem.EqMixed.ne_str_int (fin_bl I q (by simp))
    | str j => obtain ⟨t', rfl⟩ := ry; exact ne_str (fin_bl I q (congrArg not dec_str))
    | _ => exact absurd (show false = true from hs) Bool.false_ne_true
  | byt i =>
    obtain ⟨t, rfl⟩ := rx
    cases y with
    | byt j => obtain ⟨t', rfl⟩ := ry; exact PySem.W.ne_bytes (fin_bl I q (congrArg not dec_byt))
    | _ => exact absurd (show false = true from hs) Bool.false_ne_true
  | _ => cases y <;> exact absurd (show false = true from hs) Bool.false_ne_true
theorem op_lt : OpR X (compareOp .Lt) (rI0 fun i j => .bl (decide (i < j))) := opB0 fun _ _ _ _ _ _ _ q => lt_int q
theorem op_gt : OpR X (compareOp .Gt) (rI0 fun i j => .bl (decide (j < i))) := opB0 fun _ _ _ _ _ _ _ q => gt_int q
theorem op_ge : OpR X (compareOp .GtE) (rI0 fun i j => .bl (decide (j ≤ i))) := opB0 fun _ _ _ _ _ _ _ q => ge_int q
theorem op_isN : OpR X (compareOp .Is) (fun x y H Q => y = .non ∧ Q (.bl (decide (x = .non))) H) := by
  intro pins s σ H x y v u Q I rx ry h
  obtain ⟨rfl, q⟩ := h
  cases ry
  refine is_none_gen (fin_bl I q ?_)
  cases x <;> first
    | (cases rx; rfl)
    | (obtain ⟨t, rfl⟩ := rx; rfl)
theorem op_notN : OpR X (compareOp .IsNot) (fun x y H Q => y = .non ∧ Q (.bl (!decide (x = .non))) H) := by
  intro pins s σ H x y v u Q I rx ry h
  obtain ⟨rfl, q⟩ := h
  cases ry
  refine isnot_none_gen (fin_bl I q ?_)
  cases x <;> first
    | (cases rx; rfl)
    | (obtain ⟨t, rfl⟩ := rx; rfl)
def isObj : HO → Bool
  | .lst _ => true
  | .ins _ _ _ => true
  | _ => false
theorem OpR.or {f : Value → Value → Sem Value} {r r' : R2} (h : OpR X f r) (h' : OpR X f r') : OpR X f (fun x y H Q => r x y H Q ∨ r' x y H Q) := by
  intro pins s σ H x y v u Q I rx ry q
  rcases q with q | q
  · exact h pins s σ H x y v u Q I rx ry q
  · exact h' pins s σ H x y v u Q I rx ry q
theorem nomark (b : Expr) {op : CmpOp} (h : op ≠ .In := by decide) (h2 : op ≠ .NotIn := by decide) : behindInMarks op b = false := by
  have e1 : (op == CmpOp.In) = false := by cases op <;> first | rfl | exact absurd rfl h
  have e2 : (op == CmpOp.NotIn) = false := by cases op <;> first | rfl | exact absurd rfl h2
  cases b <;> simp [behindInMarks, e1, e2]
theorem pe_cmpR {op : CmpOp} {r : R2} (ho : OpR X (compareOp op) r) (ha : PE X a ta) (hb : PE X b tb) (hm : behindInMarks op b = false) : PE X (.Compare a [op] [b] pos) (tOp r ta tb) := by
  intro pins s σ H Q I h
  exact wpAny_Compare1 (binT ha hb I h fun v u s2 x y H2 I2 rx ry q => ho pins s2 σ H2 x y v u Q I2 rx ry q) hm
def tTest (t : TE) : TT := fun σ H Q => t σ H fun x H' => ∃ k, x = .bl k ∧ Q k H'
theorem pt_cmpR {op : CmpOp} {r : R2} (ho : OpR X (compareOp op) r) (ha : PE X a ta) (hb : PE X b tb) (hm : behindInMarks op b = false) : PT X (.Compare a [op] [b] pos) (tTest (tOp r ta tb)) := by
  intro pins s σ H Q I h
  refine wpAny_isTrue_Compare1 (thn (ha pins s σ H _ I h) fun v s1 ⟨x, H1, I1, r1, q1⟩ => thn (hb pins s1 σ H1 _ I1 q1) fun u s2 ⟨y, H2, I2, r2, q2⟩ =>
    thn (ho pins s2 σ H2 x y v u _ I2 r1 r2 q2) fun c s3 ⟨z, H3, I3, r3, k, e, q3⟩ => ?_) hm
  subst e
  cases r3
  exact wpAny_truthy_bool ⟨H3, I3, q3⟩
def tChain (r r' : R2) (ta tb tc : TE) : TE := fun σ H Q => ta σ H fun x H1 => tb σ H1 fun y H2 => r x y H2 fun z H3 => ∃ k, z = .bl k ∧
  (if k = true then tc σ H3 fun w' H4 => r' y w' H4 Q else Q (.bl false) H3)
def TruV (K : PySem.W.Frag) (x : V) (H : Hp) (k : Bool) : Prop :=
  match x with
  | .non => k = false
  | .bl b => k = b
  | .int i => k = (i != 0)
  | .str y => y.length ≤ sizeLine ∧ k = ((y.length : Int) != 0)
  | .byt y => y.size ≤ sizeLine ∧ k = ((y.size : Int) != 0)
  | .ref p => (∃ xs, SqL K H p xs ∧ k = !xs.isEmpty) ∨ (∃ xs, SqT K H p xs ∧ k = !xs.isEmpty) ∨ ∃ kvs, H p = some (.dK kvs) ∧ k = !kvs.isEmpty
  | _ => False
theorem isEmpty_kv {κ : Type} {kvs : List (κ × V)} {vs : List (κ × Value)} (r : KV kvs vs) : (!vs.isEmpty) = !kvs.isEmpty := by
  cases r <;> rfl
theorem isEmpty_of {xs : List V} {its : List Value} (r : Vals xs its) : (!its.toArray.isEmpty) = !xs.isEmpty := by
  cases r <;> simp
theorem line63 : (sizeLine : Nat) < 2 ^ 63 := by rw [sizeLine_eq]; decide
theorem tru_ok : TruR X (fun x H Q => ∃ k, TruV X.K x H k ∧ Q k H) := by
  intro pins s σ H x v Q I rx h
  obtain ⟨k, e, q⟩ := h
  have hl := line63
  have hs : sizeLine = 16777216 := sizeLine_eq
  cases x with
  | non =>
    cases rx
    have e' : k = false := e
    subst e'
    exact truthy_none ⟨H, I, q⟩
  | bl b =>
    cases rx
    have e' : k = b := e
    subst e'
    exact wpAny_truthy_bool ⟨H, I, q⟩
  | int i =>
    obtain ⟨t, rfl⟩ := rx
    have e' : k = (i != 0) := e
    subst e'
    exact PySem.P.truthy_int ⟨H, I, q⟩
  | str y =>
    obtain ⟨t, rfl⟩ := rx
    obtain ⟨hy, e'⟩ : y.length ≤ sizeLine ∧ k = ((y.length : Int) != 0) := e
    subst e'
    exact PySem.P.truthy_str (by omega) ⟨H, I.tok _, q⟩
  | byt y =>
    obtain ⟨t, rfl⟩ := rx
    obtain ⟨hy, e'⟩ : y.size ≤ sizeLine ∧ k = ((y.size : Int) != 0) := e
    subst e'
    exact PySem.W.truthy_bytes (by omega) ⟨H, I.tok _, q⟩
  | ref p =>
    cases rx
    have e' : (∃ xs, SqL X.K H p xs ∧ k = !xs.isEmpty) ∨ (∃ xs, SqT X.K H p xs ∧ k = !xs.isEmpty) ∨ ∃ kvs, H p = some (.dK kvs) ∧ k = !kvs.isEmpty := e
    rcases e' with ⟨xs, hx, e'⟩ | ⟨xs, hx, e'⟩ | ⟨kvs, hx, e'⟩
    · subst e'
      obtain ⟨its, r, pl, hz⟩ := I.list hx
      have hlen := r.length
      exact wpAny_truthy_list pl.isList (by simp only [List.size_toArray]; omega) ⟨H, I.tok _, by rw [isEmpty_of r]; exact q⟩
    · subst e'
      obtain ⟨its, r, pl, hz⟩ := I.tuple hx
      have hlen := r.length
      exact truthy_tuple pl (by simp only [List.size_toArray]; omega) ⟨H, I.tok _, by rw [isEmpty_of r]; exact q⟩
    · subst e'
      obtain ⟨hz, hS, vs, r, m⟩ : kvs.length ≤ sizeLine ∧ (p == sysModules) = false ∧ ∃ vs, KV kvs vs ∧ s.heap.DictOf (mixKind X.prog X.w) p vs := I.hok p _ hx
      have hlen : kvs.length = vs.length := Paired.length r
      exact wpAny_truthy_dict hS m (by omega) ⟨H, I.tok _, by rw [isEmpty_kv r]; exact q⟩
  | _ => exact (show False from e).elim
theorem pt_truth (ha : PE X a ta) (he : ∀ whole, isTrue a X.env whole = (do let v ← whole; standAt a.pos; holding [v] (truthy v))) :
    PT X a (fun σ H Q => ta σ H fun x H' => ∃ k, TruV X.K x H' k ∧ Q k H') := by
  intro pins s σ H Q I h
  exact isTrue_plain (thn (ha pins s σ H _ I h) fun v s1 ⟨x, H1, I1, r1, q1⟩ => tru_ok pins s1 σ H1 x v Q I1 r1 q1) (he _)
theorem op_add_str : OpR X (binaryOp .Add) (fun x y H Q => ∃ i j, x = .str i ∧ y = .str j ∧ i.length + j.length ≤ sizeLine ∧ Q (.str (i ++ j)) H) := by
  intro pins s σ H x y v u Q I rx ry h
  obtain ⟨i, j, rfl, rfl, hz, q⟩ := h
  obtain ⟨t, rfl⟩ := rx
  obtain ⟨t', rfl⟩ := ry
  exact add_str (fun t' tk => ⟨.str (i ++ j), H, I.tok _, ⟨_, rfl⟩, q⟩) hz
def PlainIxT (b : Expr) : Prop := ∀ o i, subscripted b false o i = operate [o, i] (getItem o i)
theorem vals1 {x : V} {us : List Value} (r : Vals [x] us) : ∃ u, us = [u] ∧ RelV x u := by
  cases r with
  | cons r1 r2 => cases r2; exact ⟨_, rfl, r1⟩
theorem vals2 {x y : V} {us : List Value} (r : Vals [x, y] us) : ∃ u w', us = [u, w'] ∧ RelV x u ∧ RelV y w' := by
  cases r with
  | cons r1 r2 =>
    cases r2 with
    | cons r3 r4 => cases r4; exact ⟨_, _, rfl, r1, r3⟩
theorem call_max2 (hc : X.calm = true) : CallR X (.builtin "max") (fun xs H Q => ∃ i j, xs = [.int i, .int j] ∧ Q (.int (if j > i then j else i)) H) := by
  intro pins s σ H xs us Q I r h
  obtain ⟨i, j, rfl, q⟩ := h
  obtain ⟨u, w', rfl, ⟨t, rfl⟩, ⟨t', rfl⟩⟩ := vals2 r
  refine max_two_ints (I.ok.hd hc) fun h' tk k => ⟨_, H, I.kept k, ?_, q⟩
  by_cases hj : j > i
  · rw [if_pos hj, if_pos hj]; exact ⟨_, rfl⟩
  · rw [if_neg hj, if_neg hj]; exact ⟨_, rfl⟩
theorem call_min2 (hc : X.calm = true) : CallR X (.builtin "min") (fun xs H Q => ∃ i j, xs = [.int i, .int j] ∧ Q (.int (if j < i then j else i)) H) := by
  intro pins s σ H xs us Q I r h
  obtain ⟨i, j, rfl, q⟩ := h
  obtain ⟨u, w', rfl, ⟨t, rfl⟩, ⟨t', rfl⟩⟩ := vals2 r
  refine min_two_ints (I.ok.hd hc) fun h' tk k => ⟨_, H, I.kept k, ?_, q⟩
  by_cases hj : j < i
  · rw [if_pos hj, if_pos hj]; exact ⟨_, rfl⟩
  · rw [if_neg hj, if_neg hj]; exact ⟨_, rfl⟩
theorem call_int1 : CallR X (.type "int") (fun xs H Q => (∃ i, xs = [.int i] ∧ Q (.int i) H) ∨ ∃ k, xs = [.bl k] ∧ Q (.int (if k then 1 else 0)) H) := by
  intro pins s σ H xs us Q I r h
  rcases h with ⟨i, rfl, q⟩ | ⟨k, rfl, q⟩
  · obtain ⟨u, rfl, t, rfl⟩ := vals1 r
    exact call_int_int ⟨.int i, H, I, ⟨_, rfl⟩, q⟩
  · obtain ⟨u, rfl, r1⟩ := vals1 r
    cases r1
    exact call_int_bool ⟨.int (if k then 1 else 0), H, I.tok _, ⟨_, rfl⟩, q⟩
theorem call_str_int : CallR X (.type "str") (fun xs H Q => ∃ i, xs = [.int i] ∧ i.natAbs.log2 < 1920 ∧ Q (.str (toString i)) H) := by
  intro pins s σ H xs us Q I r h
  obtain ⟨i, rfl, hz, q⟩ := h
  obtain ⟨u, rfl, t, rfl⟩ := vals1 r
  exact PySem.P.str_of_int hz ⟨.str _, H, I.tok _, ⟨_, rfl⟩, q⟩
def LenV (K : PySem.W.Frag) (x : V) (H : Hp) (n : Nat) : Prop :=
  match x with
  | .str y => y.length ≤ sizeLine ∧ n = y.length
  | .byt y => y.size ≤ sizeLine ∧ n = y.size
  | .ref p => (∃ xs, SqL K H p xs ∧ n = xs.length) ∨ ∃ xs, SqT K H p xs ∧ n = xs.length
  | _ => False
end
end L2
namespace L2
open PySem PySem.Spec PyProof.Rows
structure ObjM (h : Heap) (x dx C : Addr) (mA : Str → Option Value) : Prop where
  obj : h.get? x = some (PySem.W.instObj C dx)
  ns : h.Ns1 dx mA
  ne : dx ≠ x
theorem lookIn_ns {h : Heap} {dx : Addr} {mA : Str → Option Value} (n : h.Ns1 dx mA) : ∃ od, h.get? dx = some od ∧ ∀ name, PySem.W.lookIn name od = some (mA name) := by
  obtain ⟨o, es, ep, ho, hd, hk, _, hm⟩ := n
  refine ⟨o, ho, fun name => ?_⟩
  have e := hm name
  unfold nsFind findBy at e
  rw [← Array.find?_toList] at e
  unfold PySem.W.lookIn
  rw [hd]
  dsimp only
  split
  · rename_i y q
    rw [q] at e
    exact congrArg some e
  · rename_i q
    rw [q] at e
    have a : es.toList.any (·.refKey) = false := by
      rw [List.any_eq_false]
      intro y hy
      obtain ⟨z, t, hkey⟩ := hk y (Array.mem_toList_iff.mp hy)
      simp [DictEntry.refKey, hkey]
    have a' : ¬ es.toList.any (·.refKey) = true := by rw [a]; exact Bool.false_ne_true
    rw [if_neg a']
    exact congrArg some e
theorem ObjM.look {h : Heap} {x dx C : Addr} {mA : Str → Option Value} (I : ObjM h x dx C mA) : ∃ od, PySem.W.InstAt h x (PySem.W.instObj C dx) C (some od) ∧ ∀ name, PySem.W.lookIn name od = some (mA name) :=
  let ⟨od, ho, hl⟩ := lookIn_ns I.ns
  ⟨od, ⟨I.obj, rfl, rfl, ho⟩, hl⟩
section
variable {prog : Program} {w : World} {A : Around} {E : Value → Shared → Prop} {s : Shared} {K : PySem.W.Frag} {x dx C f : Addr} {mA : Str → Option Value} {name : Str} {v : Value}
end
def putF (f : Str) (v : V) : List (Str × V) → List (Str × V)
  | [] => [(f, v)]
  | (g, x) :: r => if g = f then (g, v) :: r else (g, x) :: putF f v r
theorem RelO.some_of {v : V} {o : Option Value} (r : RelO (some v) o) : ∃ u, o = some u ∧ RelV v u := by
  cases o with
  | none => exact (show False from r).elim
  | some u => exact ⟨u, rfl, r⟩
theorem RelO.none_of {o : Option Value} (r : RelO none o) : o = none := by
  cases o with
  | none => rfl
  | some u => exact (show False from r).elim
section
variable {P : Program} {w : World} {H H' : Hp} {h h' : Heap} {a C dx : Addr} {fs fs' : List (Str × V)}
theorem ins_get (hok : HOk P w H h) (e : H a = some (.ins C dx fs)) : ∃ mA, ObjM h a dx C mA ∧ (∀ f, RelO (fs.lookup f) (mA f)) ∧ PySem.Within mA (fs.map (·.1)) ∧ fs.length ≤ 1000 ∧ H dx = some (.own a) := by
  obtain ⟨d, z, ne, ob, mA, n, r, q⟩ := (show ObjOk P w H h a (.ins C dx fs) from hok a _ e)
  exact ⟨mA, ⟨ob, n, ne⟩, r, q, z, d⟩
end
structure Cls (K : PySem.W.Frag) (C : Addr) : Prop where
  pg : PySem.W.plainGet K C Str.empty = true
  hd : PySem.W.hasDictIn K C = true
  po : PySem.W.plainOver K C = true
  sa : PySem.W.findIn K (.ref C) "__setattr__" = some (some (.builtin "object.__setattr__"))
theorem Cls.get {K : PySem.W.Frag} {C : Addr} (c : Cls K C) (f : Str) : PySem.W.plainGet K C f = true := c.pg
def NoAttr (K : PySem.W.Frag) (C : Addr) (f : Str) : Prop := PySem.W.findIn K (.ref C) f = some none
structure Con (K : PySem.W.Frag) (C : Addr) (f : Str) (v : V) (u : Value) : Prop where
  at_ : PySem.W.findIn K (.ref C) f = some (some u)
  rel : RelV v u
  get : PySem.W.specialIn K u "__get__" = some none
  cp : PySem.W.copiedNames.contains f = false
structure Meth (K : PySem.W.Frag) (C : Addr) (m : Str) (f : Addr) : Prop where
  at_ : PySem.W.findIn K (.ref C) m = some (some (.ref f))
  fn : PySem.W.isFn K (.ref f) = true
  kp : PySem.W.keepIn K (.ref f) = true
section
variable {X : Cx} {pins : List (Addr × Obj)} {σ : St} {H : Hp} {s : Shared} {a C dx : Addr} {fs : List (Str × V)} {f : Str} {v : V} {A : Around} {E : Value → Shared → Prop}
end
def tFld (K : PySem.W.Frag) (ta : TE) (f : Str) : TE := fun σ H Q => ta σ H fun x H1 => ∃ a C dx fs v, x = .ref a ∧ H1 a = some (.ins C dx fs) ∧ Cls K C ∧ NoAttr K C f ∧ fs.lookup f = some v ∧ Q v H1
def tCon (K : PySem.W.Frag) (ta : TE) (f : Str) : TE := fun σ H Q => ta σ H fun x H1 => ∃ a C dx fs v u, x = .ref a ∧ H1 a = some (.ins C dx fs) ∧ Cls K C ∧ Con K C f v u ∧ fs.lookup f = none ∧ Q v H1
def sFld (K : PySem.W.Frag) (ta tv : TE) (f : Str) : TS := fun D σ H => tv σ H fun y H1 => ta σ H1 fun x H2 => ∃ a C dx fs, x = .ref a ∧ H2 a = some (.ins C dx fs) ∧ Cls K C ∧ NoAttr K C f ∧ fs.length < 1000 ∧
  D.nx σ (upd H2 a (.ins C dx (putF f y fs)))
def InOp (X : Cx) (op : Operator) (rd : V → V → Hp → VK → Prop) : Prop :=
  ∀ (pins : List (Addr × Obj)) (s : Shared) (σ : St) (H : Hp) (x y : V) (u v : Value) (Q : VK), Inv X pins σ H s → RelV x u → RelV y v → rd x y H Q → wpAny (model X.prog X.w) X.A (inplaceOp op u v) (EP X pins σ Q) X.xe s
def sFldAug (K : PySem.W.Frag) (ta tv : TE) (rd : V → V → Hp → VK → Prop) (f : Str) : TS := fun D σ H => ta σ H fun x H1 => ∃ a C dx fs v, x = .ref a ∧ H1 a = some (.ins C dx fs) ∧ Cls K C ∧ NoAttr K C f ∧ fs.lookup f = some v ∧
  tv σ H1 fun y H2 => rd v y H2 fun z H3 => ∃ dx' fs', H3 a = some (.ins C dx' fs') ∧ fs'.length < 1000 ∧ D.nx σ (upd H3 a (.ins C dx' (putF f z fs')))
section
variable {X : Cx} {o e value : Expr} {f : Str} {pos pos' tpos : Pos} {ta tv : TE}
def rAdd : V → V → Hp → VK → Prop := fun x y H Q => ∃ i j, x = .int i ∧ y = .int j ∧ Q (.int (i + j)) H
def rSub : V → V → Hp → VK → Prop := fun x y H Q => ∃ i j, x = .int i ∧ y = .int j ∧ Q (.int (i - j)) H
end
section
variable {X : Cx} {pins : List (Addr × Obj)} {σ : St} {H : Hp} {s : Shared} {A : Around} {E : Value → Shared → Prop} {Q : Value → Shared → Prop} {c : Value} {b : Bool}
inductive TyOf (K : PySem.W.Frag) (H : Hp) : V → Value → Prop where
  | non : TyOf K H .non (.type "NoneType")
  | bl (x : Bool) : TyOf K H (.bl x) (.type "bool")
  | int (i : Int) : TyOf K H (.int i) (.type "int")
  | str (x : Str) : TyOf K H (.str x) (.type "str")
  | flt (x : UInt64) : TyOf K H (.flt x) (.type "float")
  | lst {a : Addr} {xs : List V} (e : H a = some (.lst xs)) : TyOf K H (.ref a) (.type "list")
  | frz {a : Addr} {o : Obj} {xs : List V} (e : H a = some (.frz o (.lst xs))) : TyOf K H (.ref a) (.type "list")
  | tup {a : Addr} {xs : List V} (e : H a = some (.tup xs)) : TyOf K H (.ref a) (.type "tuple")
  | dK {a : Addr} {kvs : List (Key × V)} (e : H a = some (.dK kvs)) : TyOf K H (.ref a) (.type "dict")
  | dT {a : Addr} {kvs : List (List Key × V)} (e : H a = some (.dT kvs)) : TyOf K H (.ref a) (.type "dict")
  | ins {a C dx : Addr} {fs : List (Str × V)} (e : H a = some (.ins C dx fs)) (cl : Cls K C) (ha : PySem.W.findIn K (.ref C) "__class__" = some (some (.builtin "object.__class__")))
      (hn : PySem.W.specialIn K (.builtin "object.__class__") "__get__" = some (some (.builtin "getset_descriptor.__get__"))) (htk : PySem.W.takesIn K (.builtin "object.__class__") = some true)
      (hm : PySem.W.mroIn K C (.type "object") = some true) : TyOf K H (.ref a) (.ref C)
theorem isinst_ok {x : V} {u t : Value} (I : Inv X pins σ H s) (rx : RelV x u) (ty : TyOf X.K H x t) (e : PySem.W.kitOne X.K t c = some b) (h : ∀ tk, Q (.bool b) { s with toks := tk }) :
    wpAny (model X.prog X.w) A (call (.builtin "isinstance") [u, c]) Q E s := by
  cases ty with
  | non => cases (show u = Value.none from rx); exact PySem.W.kia_one PySem.W.kitx_none I.kIn True.intro e (fun z => nomatch z) h
  | bl y => cases (show u = Value.bool y from rx); exact PySem.W.kia_one PySem.W.kitx_bool I.kIn True.intro e (fun z => nomatch z) h
  | int i => obtain ⟨t, q⟩ := (show ∃ t, u = Value.int i t from rx); cases q; exact PySem.W.kia_one PySem.W.kitx_int I.kIn True.intro e (fun z => nomatch z) h
  | str y => obtain ⟨t, q⟩ := (show ∃ t, u = Value.str y t from rx); cases q; exact PySem.W.kia_one PySem.W.kitx_str I.kIn True.intro e (fun z => nomatch z) h
  | flt y => obtain ⟨t, q⟩ := (show ∃ t, u = Value.float y t from rx); cases q; exact PySem.W.kia_one PySem.W.kitx_float I.kIn True.intro e (fun z => nomatch z) h
  | @lst a xs ea =>
    cases (show u = Value.ref a from rx)
    obtain ⟨_, _, n, _, h1⟩ := (show ObjOk X.prog X.w H s.heap a (.lst xs) from I.hok a _ ea)
    exact PySem.W.kia_one PySem.W.kitx_list I.kIn ⟨_, h1, rfl⟩ e (fun z => nomatch z) h
  | @frz a ob xs ea =>
    cases (show u = Value.ref a from rx)
    obtain ⟨_, _, _, n, _, h1⟩ := (show ObjOk X.prog X.w H s.heap a (.frz ob (.lst xs)) from I.hok a _ ea)
    exact PySem.W.kia_one PySem.W.kitx_list I.kIn ⟨_, h1, rfl⟩ e (fun z => nomatch z) h
  | @tup a xs ea =>
    cases (show u = Value.ref a from rx)
    obtain ⟨_, _, _, p⟩ := (show ObjOk X.prog X.w H s.heap a (.tup xs) from I.hok a _ ea)
    obtain ⟨o, h1, h2, _⟩ := p
    exact PySem.W.kia_one PySem.W.kitx_tuple I.kIn ⟨o, h1, h2⟩ e (fun z => nomatch z) h
  | @dK a kvs ea =>
    cases (show u = Value.ref a from rx)
    obtain ⟨_, _, vs, _, p⟩ := (show ObjOk X.prog X.w H s.heap a (.dK kvs) from I.hok a _ ea)
    obtain ⟨o, es, ep, h1, h2, _⟩ := p
    exact PySem.W.kia_one PySem.W.kitx_dict I.kIn ⟨o, h1, h2.1⟩ e (fun z => nomatch z) h
  | @dT a kvs ea =>
    cases (show u = Value.ref a from rx)
    obtain ⟨_, _, xs, _, o, es, ep, h1, h2, _⟩ := (show ObjOk X.prog X.w H s.heap a (.dT kvs) from I.hok a _ ea)
    exact PySem.W.kia_one PySem.W.kitx_dict I.kIn ⟨o, h1, h2.1⟩ e (fun z => nomatch z) h
  | @ins a C dx fs ea cl ha hn htk hm =>
    cases (show u = Value.ref a from rx)
    obtain ⟨mA, O, _⟩ := ins_get I.hok ea
    obtain ⟨od, J, _⟩ := O.look
    exact PySem.W.kia_one (PySem.W.kitx_own (cl.get _) cl.hd ha hn htk hm) I.kIn J e (fun z => nomatch z) h
end
end L2
namespace L2
open PySem PySem.Spec PyProof.Rows
structure Room (k : Nat) (A : Around) : Prop where
  hd : A.handled = none
  dp : A.depth + 3 * k + 5 < recursionLimit
  un : A.units + 16 * k + 200 < cLine
  gd : A.guards = some []
theorem Room.mono {j k : Nat} {A : Around} (r : Room k A) (h : j ≤ k) : Room j A := ⟨r.hd, by have := r.dp; omega, by have := r.un; omega, r.gd⟩
theorem Room.deeper {k : Nat} {A : Around} (r : Room (k + 1) A) (env : Env) : Room k (A.deeper env) :=
  ⟨r.hd, by have := r.dp; show A.depth + 1 + 3 * k + 5 < _; omega, by have := r.un; show A.units + 3 + 16 * k + 200 < _; omega, r.gd⟩
theorem Room.in1 {k : Nat} {A : Around} (r : Room (k + 1) A) : Room k A.in1 :=
  ⟨r.hd, by have := r.dp; show A.depth + 3 * k + 5 < _; omega, by have := r.un; show A.units + 1 + 16 * k + 200 < _; omega, r.gd⟩
theorem make_depth {A : Around} {C : Addr} {us : List Value} {kw : List (Str × Value)} : (A.under (.builtin "type.__call__" ⟨.ref C :: us, kw⟩)).depth = A.depth + 1 := by
  first | rfl | simp [Around.under, Code.weight, Code.isCreation, Code.isGuard, Code.isCaller, Code.frames, Code.isFrame, guardIds]
theorem make_units {A : Around} {C : Addr} {us : List Value} {kw : List (Str × Value)} : (A.under (.builtin "type.__call__" ⟨.ref C :: us, kw⟩)).units = A.units + 1 := by
  first | rfl | simp [Around.under, Code.cUnits, Code.frames, Code.isFrame]
theorem Room.make {k : Nat} {A : Around} (r : Room (k + 1) A) (C : Addr) (us : List Value) (kw : List (Str × Value)) : Room k (A.under (.builtin "type.__call__" ⟨.ref C :: us, kw⟩)) :=
  ⟨r.hd, by have := r.dp; rw [make_depth]; omega, by have := r.un; rw [make_units]; omega, by have := r.gd; first | exact this | simpa [Around.under, Code.guards, Code.isGuard, pushGuards, guardIds] using this⟩
theorem Room.depth {k : Nat} {A : Around} (r : Room k A) : A.depth < recursionLimit := by have := r.dp; omega
theorem Room.units {k : Nat} {A : Around} (r : Room k A) : A.units + 64 < cLine := by have := r.un; omega
def tNil : TA := fun _ H Q => Q [] H
def tCons (ta : TE) (tr : TA) : TA := fun σ H Q => ta σ H fun x H1 => tr σ H1 fun xs H2 => Q (x :: xs) H2
section
variable {X : Cx} {e : Expr} {es : List Expr} {te : TE} {t : TA} {pos : Pos}
theorem pa_nil : PA X [] tNil := fun _ _ _ _ H Q I h => Calls.spliced_nil ⟨[], H, I, .nil, h⟩
theorem pa_cons (ha : PE X e te) (hr : PA X es t) (hs : starEach (e :: es) X.env = (false, eval e X.env) :: starEach es X.env := by rfl) : PA X (e :: es) (tCons te t) := by
  intro pos pins s σ H Q I h
  rw [hs]
  show wpAny _ _ (spliced ((false, eval e X.env) :: backTo pos (starEach es X.env))) _ _ s
  refine Calls.spliced_cons (thn (ha pins s σ H _ I h) fun u s1 ⟨x, H1, I1, r1, q1⟩ => ?_)
  exact thn (hr pos pins s1 σ H1 _ I1 q1) fun us s2 ⟨xs, H2, I2, r2, q2⟩ => ⟨x :: xs, H2, I2, .cons r1 r2, q2⟩
def tTup (t : TA) : TE := fun σ H Q => t σ H fun xs H1 => xs.length ≤ sizeLine ∧ ∀ p, H1 p = none → Q (.ref p) (upd H1 p (.tup xs))
def tLst (t : TA) : TE := fun σ H Q => t σ H fun xs H1 => xs.length ≤ sizeLine ∧ ∀ p, H1 p = none → Q (.ref p) (upd H1 p (.lst xs))
end
abbrev Sp := List V → Hp → VK → XK → Prop
abbrev CXT := List Env → Hp → Shared → XK → Value → Shared → Prop
structure Env0 (P : Program) (w : World) (K : PySem.W.Frag) (mg : Str → Option Value) (base : Heap) (A : Around) (outer : List Env) (s : Shared) (H : Hp) : Prop where
  frames : A.frames = some outer
  mod : Mod K mg base
  bs : ∀ b o, base.get? b = some o → s.heap.get? b = some o ∧ H b = none
  bsz : base.objs.size ≤ s.heap.objs.size
  funs : s.heap.FunFrames base outer
  frf : ∀ b ∈ frs outer, H b = none
  hok : HOk P w H s.heap
  bare : AllBare s.gens
def CE (outer : List Env) (P : Program) (w : World) (H : Hp) (s : Shared) (Q : VK) (u : Value) (s' : Shared) : Prop :=
  ∃ v H', s'.os = s.os ∧ AllBare s'.gens ∧ Un (frs outer) [] H H' s.heap s'.heap ∧ HOk P w H' s'.heap ∧ RelV v u ∧ Q v H'
def CR (CX : CXT) (outer : List Env) (P : Program) (w : World) (H : Hp) (s : Shared) (Q : VK) (E : XK) (r : Result) (s' : Shared) : Prop :=
  match r with
  | .ok (.ret u) => CE outer P w H s Q u s'
  | .ok _ => False
  | .error e => CX outer H s E e s'
structure FnOk (P : Program) (w : World) (K : PySem.W.Frag) (mg : Str → Option Value) (base : Heap) (CX : CXT) (k : Nat) (f : Addr) (fd : FuncData) (ps : List Str) (sp : Sp) : Prop where
  len : ∀ vs H Q E, sp vs H Q E → vs.length = ps.length
  run : ∀ (A : Around) (outer : List Env) (s : Shared) (H : Hp) (args : Args) (us : List Value) (vs : List V) (Q : VK) (E : XK), Room k A → Env0 P w K mg base A outer s H → BindsTo s fd args (ps.zip us) → Vals vs us → sp vs H Q E →
    codeAny (model P w) A (.call (.ref f) args) (CR CX outer P w H s Q E) s
theorem FnOk.mono {P : Program} {w : World} {K : PySem.W.Frag} {mg : Str → Option Value} {base : Heap} {CX : CXT} {j k : Nat} {f : Addr} {fd : FuncData} {ps : List Str} {sp : Sp} (F : FnOk P w K mg base CX j f fd ps sp) (h : j ≤ k) :
    FnOk P w K mg base CX k f fd ps sp := ⟨F.len, fun A outer s H args us vs Q E hr => F.run A outer s H args us vs Q E (hr.mono h)⟩
theorem Env0.make {P : Program} {w : World} {K : PySem.W.Frag} {mg : Str → Option Value} {base : Heap} {A : Around} {outer : List Env} {s : Shared} {H : Hp} (e : Env0 P w K mg base A outer s H) (C : Addr) (us : List Value) (kw : List (Str × Value)) :
    Env0 P w K mg base (A.under (.builtin "type.__call__" ⟨.ref C :: us, kw⟩)) outer s H := ⟨by first | exact e.frames | (simpa [Around.under, Code.envs, Code.isFrame, pushEnvs] using e.frames), e.mod, e.bs, e.bsz, e.funs, e.frf, e.hok, e.bare⟩
theorem Env0.in1 {P : Program} {w : World} {K : PySem.W.Frag} {mg : Str → Option Value} {base : Heap} {A : Around} {outer : List Env} {s : Shared} {H : Hp} (e : Env0 P w K mg base A outer s H) :
    Env0 P w K mg base A.in1 outer s H := ⟨e.frames, e.mod, e.bs, e.bsz, e.funs, e.frf, e.hok, e.bare⟩
section
variable {X : Cx} {pins : List (Addr × Obj)} {σ : St} {H : Hp} {s s' : Shared}
theorem Inv.env0 (I : Inv X pins σ H s) : Env0 X.prog X.w X.K X.mg X.base X.A X.stack s H :=
  ⟨I.ok.frames, I.ok.mod, I.bs, Nat.le_trans I.ok.bsz I.sz, I.stack, I.stkFree, I.hok, I.bare⟩
theorem Inv.after {Q : VK} {u : Value} (I : Inv X pins σ H s) (h : CE X.stack X.prog X.w H s Q u s') : EP X pins σ Q u s' := by
  obtain ⟨v, H', os, bare, un, hok, r, q⟩ := h
  obtain ⟨hh, g, d, t, os'⟩ := s'
  obtain rfl : os' = s.os := os
  exact ⟨v, H', I.call (h' := hh) (g' := g) (d' := d) (t' := t) (ch := []) un hok bare (fun b z => absurd z (by simp)), r, q⟩
end
def tCall (sp : Sp) (dvs : List V) (E : XK) (t : TA) : TE := fun σ H Q => t σ H fun vs H1 => sp (vs ++ dvs) H1 Q E
def tMeth (C : Addr) (m : Str) (sp : Sp) (dvs : List V) (E : XK) (ta : TE) (t : TA) : TE := fun σ H Q => ta σ H fun x H1 => ∃ a dx fs, x = .ref a ∧ H1 a = some (.ins C dx fs) ∧ fs.lookup m = none ∧
  t σ H1 fun vs H2 => sp (x :: (vs ++ dvs)) H2 Q E
def tMake (C : Addr) (sp : Sp) (dvs : List V) (E : XK) (t : TA) : TE := fun σ H Q => t σ H fun vs H1 => ∀ x dx, H1 x = none → H1 dx = none → dx ≠ x →
  sp (.ref x :: (vs ++ dvs)) (upd (upd H1 dx (.own x)) x (.ins C dx [])) (fun v H2 => v = .non ∧ Q (.ref x) H2) E
def Binds (K : PySem.W.Frag) (fd : FuncData) (ps : List Str) (ds : List Value) : Prop :=
  ∀ (s : Shared) (us : List Value), K.In s.heap → (us ++ ds).length = ps.length → BindsTo s fd ⟨us, []⟩ (ps.zip (us ++ ds))
theorem Binds.all {K : PySem.W.Frag} {fd : FuncData} {ps : List Str} (h : ∀ us : List Value, us.length = ps.length → bindArgs fd ⟨us, []⟩ = pure (ps.zip us)) : Binds K fd ps [] := fun s us _ hl => by
  rw [List.append_nil] at hl ⊢
  exact .of_eq (h us hl)
def Passes (CX : CXT) (X : Cx) (E : XK) : Prop := ∀ (pins : List (Addr × Obj)) (σ : St) (H : Hp) (s : Shared) (e : Value) (s' : Shared), Inv X pins σ H s → CX X.stack H s E e s' → X.xe e s'
section
variable {X : Cx} {CX : CXT} {k : Nat} {f C : Addr} {fd : FuncData} {ps : List Str} {sp : Sp} {dvs : List V} {ds : List Value} {E : XK} {x m : Str} {p pos apos : Pos} {e o : Expr} {es : List Expr} {ta : TE} {t : TA}
theorem run_fn {pins : List (Addr × Obj)} {σ : St} {H : Hp} {s : Shared} {Q : VK} {us : List Value} {vs : List V} (F : FnOk X.prog X.w X.K X.mg X.base CX k f fd ps sp) (hr : Room k X.A) (hb : Binds X.K fd ps ds) (hd : Vals dvs ds) (hx : Passes CX X E)
    (I : Inv X pins σ H s) (r : Vals vs us) (h : sp (vs ++ dvs) H Q E) : wpAny (model X.prog X.w) X.A (call (.ref f) us) (EP X pins σ Q) X.xe s := by
  have r2 : Vals (vs ++ dvs) (us ++ ds) := r.append hd
  have hl : (us ++ ds).length = ps.length := by rw [← r2.length]; exact F.len _ _ _ _ h
  refine wpAny_call (codeAny_mono (F.run X.A X.stack s H ⟨us, []⟩ (us ++ ds) (vs ++ dvs) Q E hr I.env0 (hb s us I.kIn hl) r2 h) fun r s' hq => ?_)
  cases r with
  | error e => exact hx pins σ H s e s' I hq
  | ok fl =>
    cases fl with
    | ret u => exact I.after hq
    | next => exact False.elim hq
    | brk => exact False.elim hq
    | cont => exact False.elim hq
theorem pe_call (F : FnOk X.prog X.w X.K X.mg X.base CX k f fd ps sp) (hr : Room k X.A) (hg : Gl X x) (hm : X.mg x = some (.ref f)) (hk : PySem.W.keepIn X.K (.ref f) = true) (hb : Binds X.K fd ps ds) (hd : Vals dvs ds) (hx : Passes CX X E)
    (ha : PA X (e :: es) t) (hdb : (x == ("__debug__" : Str)) = false := by decide) (he : starEach (e :: es) X.env = (false, eval e X.env) :: starEach es X.env := by rfl) (hpl : (backTo pos (starEach es X.env)).any (·.1) = false := by rfl) :
    PE X (.Call (.Name x p) (e :: es) [] pos) (tCall sp dvs E t) := by
  intro pins s σ H Q I h
  refine wpAny_Call_Name_kw (ld_glob I hg hm ?_ hdb)
  refine PySem.W.callWith_K (h₀ := X.base) I.ok.mod.kin hk (thn (ha pos pins s σ H _ I h) fun us s1 ⟨vs, H1, I1, r, q⟩ => ⟨I1.kIn, ?_⟩) he hpl
  exact run_fn F hr hb hd hx I1 r q
structure Mk (K : PySem.W.Frag) (C f : Addr) : Prop where
  makes : PySem.W.makesIn K C = true
  init : PySem.W.findIn K (.ref C) "__init__" = some (some (.ref f))
  fn : PySem.W.isFn K (.ref f) = true
  kp : PySem.W.keepIn K (.ref C) = true
end
def PK (X : Cx) (kws : List Keyword) (t : TA) : Prop :=
  ∀ (pos : Pos) (pins : List (Addr × Obj)) (s : Shared) (σ : St) (H : Hp) (Q : List V → Hp → Prop), Inv X pins σ H s → t σ H Q → wpAny (model X.prog X.w) X.A (evalAll ((backToKw pos (keywordEach kws X.env)).map (·.2))) (AP X pins σ Q) X.xe s
section
variable {X : Cx} {CX : CXT} {k : Nat} {f C : Addr} {fd : FuncData} {ps ks : List Str} {sp : Sp} {E : XK} {x m : Str} {p pos apos kpos : Pos} {e o : Expr} {es : List Expr} {kws : List Keyword} {te ta : TE} {t tk : TA} {nm : Option Str}
structure KBinds (K : PySem.W.Frag) (fd : FuncData) (ps ks : List Str) (g : List Value → List Value → List Value) (gV : List V → List V → List V) : Prop where
  to : ∀ (s : Shared) (us ws : List Value), K.In s.heap → (g us ws).length = ps.length → BindsTo s fd ⟨us, ks.zip ws⟩ (ps.zip (g us ws))
  rel : ∀ {vs : List V} {us : List Value} {zs : List V} {ws : List Value}, Vals vs us → Vals zs ws → Vals (gV vs zs) (g us ws)
def tCallK (sp : Sp) (gV : List V → List V → List V) (E : XK) (t tk : TA) : TE := fun σ H Q => t σ H fun vs H1 => tk σ H1 fun zs H2 => sp (gV vs zs) H2 Q E
variable {g : List Value → List Value → List Value} {gV : List V → List V → List V}
end
structure FnScope (N P : List Str) (sc : Scope) : Prop where
  kind : sc.kind = .function
  co : sc.isCoroutine = false
  gen : sc.isGenerator = false
  nd : N.Nodup
  pre : N.take P.length = P
  par : ∀ x ∈ P, sc.names.lookup x = some .local ∨ sc.names.lookup x = some .cell
  nofree : ∀ y ∈ sc.names, y.2 ≠ .free
theorem bindL_out {kindOf : Str → Option NameKind} {x : Str} : ∀ {binds : List (Str × Value)} {m : Str → Option Value}, (∀ v, (x, v) ∉ binds) → bindL kindOf binds m x = m x
  | [], _, _ => rfl
  | (n, v) :: r, m, h => by
    unfold bindL
    rw [bindL_out fun w hw => h w (List.mem_cons_of_mem _ hw)]
    split
    · have : x ≠ n := by rintro rfl; exact h v List.mem_cons_self
      simp [this]
    · rfl
theorem bindC_out {kindOf : Str → Option NameKind} {x : Str} : ∀ {binds : List (Str × Value)} {m : Str → Option Value}, (∀ v, (x, v) ∉ binds) → bindC kindOf binds m x = m x
  | [], _, _ => rfl
  | (n, v) :: r, m, h => by
    unfold bindC
    rw [bindC_out fun w hw => h w (List.mem_cons_of_mem _ hw)]
    split
    · rfl
    · have : x ≠ n := by rintro rfl; exact h v List.mem_cons_self
      simp [this]
theorem bindL_get {kindOf : Str → Option NameKind} {x : Str} {v : Value} : ∀ {P : List Str} {vs : List Value} {i : Nat} {m : Str → Option Value}, P.Nodup → P[i]? = some x → vs[i]? = some v → kindOf x = some .local →
    bindL kindOf (P.zip vs) m x = some v
  | [], _, _, _, _, h, _, _ => by simp at h
  | _ :: _, [], _, _, _, _, h, _ => by simp at h
  | p :: P, w :: vs, 0, m, nd, h1, h2, hk => by
    simp at h1 h2; subst h1; subst h2
    show bindL kindOf ((p, w) :: P.zip vs) m p = _
    unfold bindL
    rw [bindL_out fun v hv => (List.nodup_cons.mp nd).1 (List.of_mem_zip hv).1, if_pos hk]
    simp
  | p :: P, w :: vs, i + 1, m, nd, h1, h2, hk => by
    show bindL kindOf ((p, w) :: P.zip vs) m x = _
    unfold bindL
    exact bindL_get (i := i) (List.nodup_cons.mp nd).2 (by simpa using h1) (by simpa using h2) hk
theorem bindC_get {kindOf : Str → Option NameKind} {x : Str} {v : Value} : ∀ {P : List Str} {vs : List Value} {i : Nat} {m : Str → Option Value}, P.Nodup → P[i]? = some x → vs[i]? = some v → kindOf x ≠ some .local →
    bindC kindOf (P.zip vs) m x = some v
  | [], _, _, _, _, h, _, _ => by simp at h
  | _ :: _, [], _, _, _, _, h, _ => by simp at h
  | p :: P, w :: vs, 0, m, nd, h1, h2, hk => by
    simp at h1 h2; subst h1; subst h2
    show bindC kindOf ((p, w) :: P.zip vs) m p = _
    unfold bindC
    rw [bindC_out fun v hv => (List.nodup_cons.mp nd).1 (List.of_mem_zip hv).1, if_neg hk]
    simp
  | p :: P, w :: vs, i + 1, m, nd, h1, h2, hk => by
    show bindC kindOf ((p, w) :: P.zip vs) m x = _
    unfold bindC
    exact bindC_get (i := i) (List.nodup_cons.mp nd).2 (by simpa using h1) (by simpa using h2) hk
def start (N : List Str) (vs : List V) : St := vs.map some ++ List.replicate (N.length - vs.length) none
def cxOf (CX : CXT) (P : Program) (w : World) (K : PySem.W.Frag) (mg : Str → Option Value) (base : Heap) (N : List Str) (qual : Str) (scope : Scope) (f : Addr) (cd : Value) (A : Around) (outer : List Env) (s : Shared) (H : Hp) (E : XK) : Cx where
  prog := P
  w := w
  K := K
  mg := mg
  base := base
  A := A.deeper (envOfC qual scope s.heap.objs.size f cd)
  N := N
  s₀ := s
  H₀ := H
  env := envOfC qual scope s.heap.objs.size f cd
  outer := outer
  stack := envOfC qual scope s.heap.objs.size f cd :: outer
  ex := []
  calm := true
  fn := fun _ => true
  pn := []
  xe := fun e s' => wpAny (model P w) (A.deeper (envOfC qual scope s.heap.objs.size f cd)) (leaving (envOfC qual scope s.heap.objs.size f cd) e) (fun _ s'' => CX outer H s E e s'') (fun e' s'' => CX outer H s E e' s'') s'
theorem cell_has {sc : Scope} {n : Nat} {x : Str} (h : sc.names.lookup x = some .cell) : ∃ c, (cellsFrom n sc.names []).lookup x = some c := by
  have q := PySem.W.cellsFrom_some sc.names n [] (.inl h)
  exact Option.isSome_iff_exists.mp q
theorem inv_start {CX : CXT} {P : Program} {w : World} {K : PySem.W.Frag} {mg : Str → Option Value} {base : Heap} {N ps : List Str} {qual : Str} {scope : Scope} {f : Addr} {cd : Value} {A : Around} {outer : List Env} {s s1 : Shared} {H : Hp} {E : XK} {us : List Value} {vs : List V}
    (S : FnScope N ps scope) (hd : A.handled = none) (e0 : Env0 P w K mg base A outer s H) (hl : vs.length = ps.length) (r : Vals vs us)
    (x : InCallC s s.heap.objs.size (bindL (envOfC qual scope s.heap.objs.size f cd).kindOf (ps.zip us) fun _ => none) (cellsFrom (s.heap.objs.size + 1) scope.names []) (bindC (envOfC qual scope s.heap.objs.size f cd).kindOf (ps.zip us) fun _ => none) s1) :
    Inv (cxOf CX P w K mg base N qual scope f cd A outer s H E) [] (start N vs) H s1 := by
  have hpl : ps.length ≤ N.length := by have := congrArg List.length S.pre; rw [List.length_take] at this; omega
  obtain ⟨h1, tk, rfl, hk⟩ := x.done
  have noA : ∀ b : Addr, b ∉ (cxOf CX P w K mg base N qual scope f cd A outer s H E).ex := fun b z => absurd (show b ∈ ([] : List Addr) from z) (by simp)
  refine ⟨⟨e0.mod, S.kind, rfl, rfl, Nat.le_refl _, fun y z c h1 h2 => ?_, fun y hy => ?_, fun y c _ h => ?_, fun _ => hd, Around.frames_deeper e0.frames, .inr ⟨rfl, rfl⟩, fun b z => absurd z (noA b), e0.bs, e0.bsz, fun b _ _ => noA b, fun b z => absurd z (noA b), e0.funs, e0.frf⟩,
    rfl, e0.bare, Un.kept hk, ⟨_, x.toInCall.ns, fun i y v h1 h2 h3 => ?_⟩, fun y c h => ⟨_, x.cell y c h⟩, e0.hok.fresh (Nat.le_refl _), fun y c h => ?_, fun p hp => absurd (show p ∈ ([] : List (Addr × Obj)) from hp) (by simp), e0.hok.kept hk, ?_⟩
  · exact name_of_addr x.apart (PySem.mem_of_lookup h1) (PySem.mem_of_lookup h2)
  · have hy : scope.names.lookup y = some .cell ∨ scope.names.lookup y = some .free := hy
    rcases hy with hy | hy
    · exact cell_has hy
    · exact absurd rfl (S.nofree _ (PySem.mem_of_lookup hy))
  · exact Nat.le_of_lt (x.above y c (PySem.mem_of_lookup h))
  · have hi : i < vs.length := by
      unfold start at h2
      by_cases hi : i < vs.length
      · exact hi
      · rw [List.getElem?_append_right (by simpa using hi)] at h2
        rw [List.getElem?_replicate] at h2
        split at h2 <;> cases h2
    have ha : vs[i]? = some v := by
      unfold start at h2
      rw [List.getElem?_append_left (by simpa using hi), List.getElem?_map] at h2
      cases e : vs[i]? with
      | none => rw [e] at h2; cases h2
      | some a => rw [e] at h2; cases h2; rfl
    obtain ⟨u, hu, rv⟩ := r.get ha
    have hp : ps[i]? = some y := by
      rw [← S.pre, List.getElem?_take_of_lt (by omega)]; exact h1
    have ndP : ps.Nodup := by rw [← S.pre]; exact S.nd.sublist (List.take_sublist _ _)
    refine ⟨u, rv, ?_⟩
    rcases S.par y (List.mem_of_getElem? hp) with k | k
    · exact .inl ⟨k, bindL_get ndP hp hu k⟩
    · obtain ⟨c, e⟩ := cell_has (n := s.heap.objs.size + 1) k
      refine .inr ⟨.inl k, c, e, ?_⟩
      have q := x.cell y c e
      rw [bindC_get ndP hp hu (by show scope.names.lookup y ≠ _; rw [k]; decide)] at q
      exact q
  · exact e0.hok.fresh (Nat.le_of_lt (x.above y c (PySem.mem_of_lookup h)))
  · unfold start
    show _ = N.length
    rw [List.length_append, List.length_map, List.length_replicate]
    omega
theorem fn_of {CX : CXT} {P : Program} {w : World} {K : PySem.W.Frag} {mg : Str → Option Value} {base : Heap} {k : Nat} {f : Addr} {name qual : Str} {params : Arguments} {body : List Stmt} {scope : Scope} {dV kV doc pm cdv ct oc : Value} {an od : Option Addr}
    {osl : Array (Option Value)} {N ps : List Str} {sp : Sp} (lk : K.lookup f = some ⟨oc, od, .func (PySem.W.fnOf name qual params body scope dV kV doc pm an cdv ct), osl⟩) (hcd : PySem.W.codeIn K cdv qual = true) (S : FnScope N ps scope)
    (len : ∀ vs H Q E, sp vs H Q E → vs.length = ps.length)
    (hbody : ∀ (A : Around) (outer : List Env) (s : Shared) (H : Hp) (vs : List V) (Q : VK) (E : XK), Room k (A.deeper (envOfC qual scope s.heap.objs.size f cdv)) → sp vs H Q E →
      ∃ t, PSs (cxOf CX P w K mg base N qual scope f cdv A outer s H E) body t ∧ t { nx := fun _ H' => Q .non H', rt := Q } (start N vs) H) :
    FnOk P w K mg base CX (k + 1) f (PySem.W.fnOf name qual params body scope dV kV doc pm an cdv ct) ps sp := by
  refine ⟨len, fun A outer s H args us vs Q E hr e0 hb r hsp => ?_⟩
  have hl := len _ _ _ _ hsp
  have KX : K.In s.heap := e0.mod.kin.keeps fun b o e => (e0.bs b o e).1
  have lim : s.heap.NoLimit := e0.mod.nolimit.keeps fun b o e => (e0.bs b o e).1
  have hkind : ∀ y ∈ ps.zip us, scope.names.lookup y.1 = some .local ∨ (scope.names.lookup y.1 = some .cell ∧ ((cellsFrom (s.heap.objs.size + 1) scope.names []).lookup y.1).isSome = true) := fun ⟨n, v⟩ hy => by
    rcases S.par n (List.of_mem_zip hy).1 with q | q
    · exact .inl q
    · exact .inr ⟨q, PySem.W.cellsFrom_some _ _ _ (.inl q)⟩
  refine codeAny_call_function hr.depth (KX _ _ lk) rfl S.co S.gen rfl (PySem.W.codeRec_of KX hcd) (hb _ _ _ _ ?_)
  refine wpAny_newFunctionEnv_cells S.kind hkind fun env he s1 x => ?_
  subst he
  refine ⟨lim.keeps x.toInCall.keep, codeAny_func ?_⟩
  obtain ⟨t, ht, hq⟩ := hbody A outer s H vs Q E (hr.deeper _) hsp
  have I : Inv (cxOf CX P w K mg base N qual scope f cdv A outer s H E) [] (start N vs) H s1 := inv_start S hr.hd e0 hl r x
  refine wpAny_mono (ht [] s1 (start N vs) H _ I hq) (fun fl s' hs => ?_) fun e s' hs => hs
  have fin : ∀ {σ' : St} {H' : Hp} {v : V} {u : Value}, Inv (cxOf CX P w K mg base N qual scope f cdv A outer s H E) [] σ' H' s' → RelV v u → Q v H' → CE outer P w H s Q u s' :=
    fun {σ' H' v u} J rv q => ⟨v, H', J.os, J.bare, J.base, J.hok, rv, q⟩
  cases fl with
  | ret u =>
    obtain ⟨v, σ', H', J, rv, q⟩ := hs
    exact fin J rv q
  | next =>
    obtain ⟨σ', H', J, q⟩ := hs
    exact fin (v := V.non) (u := Value.none) J rfl q
  | brk =>
    obtain ⟨_, _, _, q⟩ := hs
    exact False.elim q
  | cont =>
    obtain ⟨_, _, _, q⟩ := hs
    exact False.elim q
end L2
namespace L2
open PySem PySem.Spec PyProof.Rows
section
variable {X : Cx} {x : Str} {p pos : Pos} {e : Expr} {es : List Expr} {t : TA} {id T : String} {r : List V → Hp → VK → Prop}
def tCB (r : List V → Hp → VK → Prop) (t : TA) : TE := fun σ H Q => t σ H fun vs H1 => r vs H1 Q
theorem pe_callB (hc : CallR X (.builtin id) r) (hg : Gl X x) (hm : X.mg x = none) (hv : bootBuiltins x = some (.builtin id)) (ha : PA X (e :: es) t) (hn : x ≠ "__name__" := by decide) (hdb : (x == ("__debug__" : Str)) = false := by decide)
    (he : starEach (e :: es) X.env = (false, eval e X.env) :: starEach es X.env := by rfl) (hpl : (backTo pos (starEach es X.env)).any (·.1) = false := by rfl) : PE X (.Call (.Name x p) (e :: es) [] pos) (tCB r t) := by
  intro pins s σ H Q I h
  refine wpAny_Call_Name_kw (ld_blt I hg hm hv ?_ hn hdb)
  exact PyProof.Rows.callWith_builtin1 (thn (ha pos pins s σ H _ I h) fun us s1 ⟨vs, H1, I1, r1, q1⟩ => hc pins s1 σ H1 vs us Q I1 r1 q1) he hpl
theorem pe_callTy (hc : CallR X (.type T) r) (hg : Gl X x) (hm : X.mg x = none) (hv : bootBuiltins x = some (.type T)) (ha : PA X (e :: es) t) (hn : x ≠ "__name__" := by decide) (hdb : (x == ("__debug__" : Str)) = false := by decide)
    (he : starEach (e :: es) X.env = (false, eval e X.env) :: starEach es X.env := by rfl) (hpl : (backTo pos (starEach es X.env)).any (·.1) = false := by rfl) : PE X (.Call (.Name x p) (e :: es) [] pos) (tCB r t) := by
  intro pins s σ H Q I h
  refine wpAny_Call_Name_kw (ld_blt I hg hm hv ?_ hn hdb)
  exact PyProof.Rows.callWith_type1 (thn (ha pos pins s σ H _ I h) fun us s1 ⟨vs, H1, I1, r1, q1⟩ => hc pins s1 σ H1 vs us Q I1 r1 q1) he hpl
end
end L2
namespace HT
open PySem PyProof.Rows
def lexLt : List Int → List Int → Bool
  | [], [] => false
  | [], _ :: _ => true
  | _ :: _, [] => false
  | x :: xs, y :: ys => if x = y then lexLt xs ys else decide (x < y)
section
open PySem.SeqAt
open PySem.AutoSeq1 (wpAny_loadPart')
open PySem.MeetsSeq PySem.MeetsSeq2 PySem.MeetsSeq3
end
section
variable {prog : Program} {w : World} {A : Around} {E : Value → Shared → Prop} {s : Shared}
def sIx (n d : Nat) : Option Int → Nat
  | none => d
  | some v => if v < 0 then (v + (n : Int)).toNat else min v.toNat n
theorem sIx_none (n d : Nat) : sIx n d none = d := rfl
theorem sIx_nat (n d k : Nat) : sIx n d (some (k : Int)) = min k n := by
  show (if (k : Int) < 0 then ((k : Int) + (n : Int)).toNat else min (k : Int).toNat n) = min k n
  rw [if_neg (by omega), Int.toNat_natCast]
end
end HT
namespace L2
open PySem PySem.Spec PyProof.Rows
abbrev TO := St → Hp → (Option Int → Hp → Prop) → Prop
def PO (X : Cx) (e : Option Expr) (t : TO) : Prop :=
  ∀ (pins : List (Addr × Obj)) (s : Shared) (σ : St) (H : Hp) (Q : Option Int → Hp → Prop), Inv X pins σ H s → t σ H Q →
    wpAny (model X.prog X.w) X.A (evalPart e X.env) (fun u s' => ∃ o H', Inv X pins σ H' s' ∧ IsPart u o ∧ Q o H') X.xe s
def tNoPart : TO := fun _ H Q => Q none H
def tPart (t : TE) : TO := fun σ H Q => t σ H fun x H1 => ∃ i, x = .int i ∧ Q (some i) H1
section
variable {X : Cx} {e : Expr} {te : TE} {lo hi : Option Expr} {tl th : TO} {pos p2 : Pos}
theorem po_none : PO X none tNoPart := by
  intro pins s σ H Q I h
  rw [evalPart_none]
  exact wpAny_pure ⟨none, H, I, .none, h⟩
theorem po_some (h : PE X e te) : PO X (some e) (tPart te) := by
  intro pins s σ H Q I hw
  rw [evalPart_some]
  refine thn (h pins s σ H _ I hw) fun u s1 ⟨x, H1, I1, r1, q1⟩ => ?_
  obtain ⟨i, rfl, q⟩ := q1
  obtain ⟨t, rfl⟩ := r1
  exact ⟨some i, H1, I1, .int i t, q⟩
def SlR (X : Cx) (r : V → Option Int → Option Int → Hp → VK → Prop) : Prop :=
  ∀ (pins : List (Addr × Obj)) (s : Shared) (σ : St) (H : Hp) (x : V) (v vl vu : Value) (lo hi : Option Int) (sl : Addr) (Q : VK), Inv X pins σ H s → RelV x v → s.heap.IsSliceOf sl vl vu .none → IsPart vl lo → IsPart vu hi → r x lo hi H Q →
    ∃ T id, typeLookup (.type T) "__getitem__" = pure (some (.builtin id)) ∧ s.TypeIs v T ∧ wpAny (model X.prog X.w) X.A (getItem v (.ref sl)) (EP X pins σ Q) X.xe s
theorem SlR.or {r r' : V → Option Int → Option Int → Hp → VK → Prop} (h : SlR X r) (h' : SlR X r') : SlR X (fun x lo hi H Q => r x lo hi H Q ∨ r' x lo hi H Q) := by
  intro pins s σ H x v vl vu lo hi sl Q I rx hs pl pu q
  rcases q with q | q
  · exact h pins s σ H x v vl vu lo hi sl Q I rx hs pl pu q
  · exact h' pins s σ H x v vl vu lo hi sl Q I rx hs pl pu q
def tSl (r : V → Option Int → Option Int → Hp → VK → Prop) (te : TE) (tl th : TO) : TE := fun σ H Q => te σ H fun x H1 => tl σ H1 fun l H2 => th σ H2 fun u H3 => r x l u H3 Q
theorem pe_slice {r : V → Option Int → Option Int → Hp → VK → Prop} (hr : SlR X r) (he : PE X e te) (hl : PO X lo tl) (hu : PO X hi th) : PE X (.Subscript e (.Slice lo hi none p2) pos) (tSl r te tl th) := by
  intro pins s σ H Q I h
  refine Subscript_ (thn (he pins s σ H _ I h) fun v s1 ⟨x, H1, I1, r1, q1⟩ => ?_)
  refine wpAny_Slice (thn (hl pins s1 σ H1 _ I1 q1) fun vl s2 ⟨l, H2, I2, pl, q2⟩ => thn (hu pins s2 σ H2 _ I2 q2) fun vu s3 ⟨u, H3, I3, pu, q3⟩ => ?_)
  rw [evalPart_none]
  refine wpAny_pure ?_
  have I4 : Inv X pins σ H3 { s3 with heap := s3.heap.push { cls := .type "slice", data := .fields #[vl, vu, .none] } } := I3.kept (t' := s3.toks) fun b ob q => Heap.get?_push_of_some _ q
  obtain ⟨T, id, hT, ht, hg⟩ := hr pins { s3 with heap := s3.heap.push { cls := .type "slice", data := .fields #[vl, vu, .none] } } σ H3 x v vl vu l u s3.heap.objs.size Q I4 r1 (Heap.IsSliceOf.new ..) pl pu q3
  show wpAny (model X.prog X.w) X.A (subscriptTail e (.Slice lo hi none p2) v (.ref s3.heap.objs.size)) (EP X pins σ Q) X.xe { s3 with heap := s3.heap.push { cls := .type "slice", data := .fields #[vl, vu, .none] } }
  exact tail_any (ops := [.ref s3.heap.objs.size, v]) ht hT hg (by with_unfolding_all rfl)
def cutV (xs : List V) (lo hi : Option Int) : List V := (xs.drop (HT.sIx xs.length 0 lo)).take (HT.sIx xs.length xs.length hi - HT.sIx xs.length 0 lo)
theorem cutV_length (xs : List V) (lo hi : Option Int) : (cutV xs lo hi).length ≤ xs.length := by
  unfold cutV
  rw [List.length_take, List.length_drop]
  omega
def rSlT (K : PySem.W.Frag) : V → Option Int → Option Int → Hp → VK → Prop := fun x lo hi H Q => ∃ a xs, x = .ref a ∧ SqT K H a xs ∧
  ¬ (HT.sIx xs.length 0 lo = 0 ∧ HT.sIx xs.length xs.length hi = xs.length) ∧ ∀ p, H p = none → Q (.ref p) (upd H p (.tup (cutV xs lo hi)))
def rLtT (K : PySem.W.Frag) : R2 := fun x y H Q => ∃ a b ns ms, x = .ref a ∧ y = .ref b ∧ SqT K H a (ns.map V.int) ∧ SqT K H b (ms.map V.int) ∧ Q (.bl (HT.lexLt ns ms)) H
def rCatT (K : PySem.W.Frag) : R2 := fun x y H Q => ∃ a b xs ys, x = .ref a ∧ y = .ref b ∧ SqT K H a xs ∧ SqT K H b ys ∧ xs ≠ [] ∧ xs.length + ys.length ≤ sizeLine ∧
  (ys = [] → Q (.ref a) H) ∧ (ys ≠ [] → ∀ p, H p = none → Q (.ref p) (upd H p (.tup (xs ++ ys))))
end
end L2
namespace L2
open PySem PySem.Spec PyProof.Rows
def ixN (n : Nat) (i : Int) : Option Nat := if 0 ≤ i then (if i < n then some i.toNat else none) else if -(n : Int) ≤ i then some (i + n).toNat else none
def atI {α : Type} (xs : List α) (i : Int) : Option α := (ixN xs.length i).bind fun j => xs[j]?
theorem ixN_seq {n : Nat} {i : Int} {j : Nat} (h : ixN n i = some j) : seqIndex? i n = some j ∧ j < n ∧ -(n : Int) ≤ i ∧ i < n := by
  unfold ixN at h
  by_cases h0 : 0 ≤ i
  · rw [if_pos h0] at h
    by_cases h1 : i < n
    · rw [if_pos h1] at h
      have e : i.toNat = j := Option.some.inj h
      exact ⟨by rw [seqIndex_of h0 h1, e], by omega, by omega, h1⟩
    · rw [if_neg h1] at h; cases h
  · rw [if_neg h0] at h
    by_cases h1 : -(n : Int) ≤ i
    · rw [if_pos h1] at h
      have e : (i + n).toNat = j := Option.some.inj h
      exact ⟨by rw [seqIndex_neg (by omega) h1, e], by omega, h1, by omega⟩
    · rw [if_neg h1] at h; cases h
theorem atI_get {α : Type} {xs : List α} {i : Int} {v : α} (h : atI xs i = some v) : ∃ j, seqIndex? i xs.length = some j ∧ xs[j]? = some v ∧ j < xs.length ∧ -(xs.length : Int) ≤ i ∧ i < xs.length := by
  unfold atI at h
  cases e : ixN xs.length i with
  | none => rw [e] at h; cases h
  | some j =>
    rw [e] at h
    obtain ⟨h1, h2, h3, h4⟩ := ixN_seq e
    exact ⟨j, h1, h, h2, h3, h4⟩
theorem atI_nat {α : Type} {xs : List α} {j : Nat} {v : α} (h : xs[j]? = some v) : atI xs (j : Int) = some v := by
  have hj : j < xs.length := (List.getElem?_eq_some_iff.mp h).1
  have e : ixN xs.length (j : Int) = some j := by
    unfold ixN
    rw [if_pos (by omega), if_pos (by omega)]; simp
  unfold atI; rw [e]; exact h
def PlainIx (b : Expr) : Prop := ∀ o i, subscripted b false o i = operate [o, i] (getItem o i)
def IxR (X : Cx) (r : R2) : Prop :=
  ∀ (value slice : Expr) (pins : List (Addr × Obj)) (s : Shared) (σ : St) (H : Hp) (x y : V) (v u : Value) (Q : VK), Inv X pins σ H s → RelV x v → RelV y u → r x y H Q →
    subscripted slice false v u = operate [v, u] (getItem v u) → wpAny (model X.prog X.w) X.A (subscriptTail value slice v u) (EP X pins σ Q) X.xe s
def MtR (X : Cx) (id : String) (r : V → List V → Hp → VK → Prop) : Prop :=
  ∀ (pins : List (Addr × Obj)) (s : Shared) (σ : St) (H : Hp) (x : V) (xs : List V) (v : Value) (us : List Value) (Q : VK), Inv X pins σ H s → RelV x v → Vals xs us → r x xs H Q →
    wpAny (model X.prog X.w) X.A (call (.builtin id) (v :: us)) (EP X pins σ Q) X.xe s
section
variable {X : Cx} {a b : Expr} {ta tb : TE} {pos : Pos}
theorem IxR.or {r r' : R2} (h : IxR X r) (h' : IxR X r') : IxR X (fun x y H Q => r x y H Q ∨ r' x y H Q) := by
  intro value slice pins s σ H x y v u Q I rx ry q hs
  rcases q with q | q
  · exact h value slice pins s σ H x y v u Q I rx ry q hs
  · exact h' value slice pins s σ H x y v u Q I rx ry q hs
theorem MtR.or {id : String} {r r' : V → List V → Hp → VK → Prop} (h : MtR X id r) (h' : MtR X id r') : MtR X id (fun x xs H Q => r x xs H Q ∨ r' x xs H Q) := by
  intro pins s σ H x xs v us Q I rx rs q
  rcases q with q | q
  · exact h pins s σ H x xs v us Q I rx rs q
  · exact h' pins s σ H x xs v us Q I rx rs q
theorem pe_ix {r : R2} (hr : IxR X r) (ha : PE X a ta) (hb : PE X b tb) (hs : PlainIx b) : PE X (.Subscript a b pos) (tOp r ta tb) := by
  intro pins s σ H Q I h
  exact Subscript_ (binT ha hb I h fun v u s2 x y H2 I2 rx ry q => hr a b pins s2 σ H2 x y v u Q I2 rx ry q (hs _ _))
def rIxL (K : PySem.W.Frag) : R2 := fun x y H Q => ∃ p xs i v, x = .ref p ∧ y = .int i ∧ SqL K H p xs ∧ atI xs i = some v ∧ Q v H
def rIxT (K : PySem.W.Frag) : R2 := fun x y H Q => ∃ p xs i v, x = .ref p ∧ y = .int i ∧ SqT K H p xs ∧ atI xs i = some v ∧ Q v H
def rIxS : R2 := fun x y H Q => ∃ z i c, x = .str z ∧ y = .int i ∧ z.length ≤ sizeLine ∧ atI z.cps.toList i = some c ∧ Q (.str ⟨#[c]⟩) H
theorem ix_list : IxR X (rIxL X.K) := by
  intro value slice pins s σ H x y v u Q I rx ry h hs
  obtain ⟨p, xs, i, z, rfl, rfl, hq, he, q⟩ := h
  cases rx
  obtain ⟨t, rfl⟩ := ry
  obtain ⟨its, r, pl, hz⟩ := I.list hq
  obtain ⟨j, h1, h2, h3, h4, h5⟩ := atI_get he
  obtain ⟨w, ew, rw'⟩ := r.get h2
  have hl := r.length
  have hn := line63
  have fin : EP X pins σ Q w s := ⟨z, H, I, rw', q⟩
  by_cases h0 : 0 ≤ i
  · have hj : i.toNat = j := by
      rw [seqIndex_of h0 h5] at h1
      exact Option.some.inj h1
    exact item_listR pl.isList h0 (by omega) (by rw [hj]; simpa using ew) fin hs
  · have hj : (i + (its.toArray.size : Int)).toNat = j := by
      rw [seqIndex_neg (by omega) h4] at h1
      rw [List.size_toArray, ← hl]
      exact Option.some.inj h1
    exact subscriptTail_builtinR (x := w) pl.isList.typeIs slot_list_getitem.lookup
      (wpAny_getItem_list_neg (Q := fun r s' => r = w ∧ EP X pins σ Q r s') pl.isList (by omega) (by rw [List.size_toArray] <;> omega) (by omega) (by rw [hj]; simpa using ew) ⟨rfl, fin⟩) hs
theorem ix_tup : IxR X (rIxT X.K) := by
  intro value slice pins s σ H x y v u Q I rx ry h hs
  obtain ⟨p, xs, i, z, rfl, rfl, hq, he, q⟩ := h
  cases rx
  obtain ⟨t, rfl⟩ := ry
  obtain ⟨its, r, pl, hz⟩ := I.tuple hq
  obtain ⟨j, h1, h2, h3, h4, h5⟩ := atI_get he
  obtain ⟨w, ew, rw'⟩ := r.get h2
  have hl := r.length
  have hn := line63
  have fin : EP X pins σ Q w s := ⟨z, H, I, rw', q⟩
  exact subscriptTail_builtinR (x := w) pl.typeIs slot_tuple_getitem.lookup
    (getItem_tuple (j := j) (Q := fun r s' => r = w ∧ EP X pins σ Q r s') pl (by omega) (by omega) (by rw [List.size_toArray, ← hl]; exact h1) (by simpa using ew) ⟨rfl, fin⟩) hs
def rIx (K : PySem.W.Frag) : R2 := fun x y H Q => rIxL K x y H Q ∨ rIxT K x y H Q ∨ rIxS x y H Q
theorem mapSeq_set (its : List Value) (n j : Nat) (u : Value) : Obj.mapSeq (·.setIfInBounds j u) { cls := .type "list", data := .seq its.toArray n } = { cls := .type "list", data := .seq (its.set j u).toArray n } := by
  simp [Obj.mapSeq]
theorem Inv.lst {pins : List (Addr × Obj)} {σ : St} {H : Hp} {s : Shared} {p : Addr} {xs : List V} (I : Inv X pins σ H s) (h : H p = some (.lst xs)) :
    ∃ (its : List Value) (n : Nat), Vals xs its ∧ s.heap.get? p = some { cls := .type "list", data := .seq its.toArray n } ∧ xs.length ≤ sizeLine := by
  obtain ⟨z, its, n, r, e⟩ := I.hok p _ h
  exact ⟨its, n, r, e, z⟩
theorem Inv.lstUpd {pins : List (Addr × Obj)} {σ : St} {H : Hp} {s : Shared} {p : Addr} {xs ys : List V} {its its' : List Value} {n n' : Nat} {f : Obj → Obj} (I : Inv X pins σ H s) (h : H p = some (.lst xs))
    (ho : s.heap.get? p = some { cls := .type "list", data := .seq its.toArray n }) (hf : f { cls := .type "list", data := .seq its.toArray n } = { cls := .type "list", data := .seq its'.toArray n' }) (r : Vals ys its') (hz : ys.length ≤ sizeLine) (t : Nat) :
    Inv X pins σ (upd H p (.lst ys)) { s with heap := s.heap.update p f, toks := t } := by
  have e : (s.heap.update p f).get? p = some { cls := .type "list", data := .seq its'.toArray n' } := by
    rw [Heap.get?_update_self f ho (by rw [hf] <;> rfl), hf]
  refine I.write (x := p) (e := p) (by rw [h]; trivial) (.inl rfl) (fun b u hb q => (Heap.get?_update_other _ _ (Ne.symm hb)).trans q) ⟨_, e⟩ ?_
  exact ⟨hz, its', n', r, e⟩
def rSetL : V → V → V → Hp → (Hp → Prop) → Prop := fun o i v H Q => ∃ p xs k j, o = .ref p ∧ i = .int k ∧ H p = some (.lst xs) ∧ ixN xs.length k = some j ∧ Q (upd H p (.lst (xs.set j v)))
theorem set_list : PSet X rSetL := by
  intro pins s σ H o i v ov iv u Q I ro ri rv h
  obtain ⟨p, xs, k, j, rfl, rfl, hp, hj, q⟩ := h
  cases ro
  obtain ⟨t, rfl⟩ := ri
  obtain ⟨its, n, r, ho, hz⟩ := I.lst hp
  obtain ⟨h1, h2, h3, h4⟩ := ixN_seq hj
  have hl := r.length
  have hn := line63
  have I' : Inv X pins σ (upd H p (.lst (xs.set j v))) { s with heap := s.heap.update p (Obj.mapSeq (·.setIfInBounds j u)) } :=
    I.lstUpd hp ho (mapSeq_set its n j u) (r.set rv j) (by rw [List.length_set]; exact hz) s.toks
  by_cases h0 : 0 ≤ k
  · have hk : k.toNat = j := by
      rw [seqIndex_of h0 h4] at h1
      exact Option.some.inj h1
    exact PySem.W.ki_setAt ho h0 (by omega) (by rw [List.size_toArray, ← hl]; exact h4) (by rw [hk]; exact ⟨_, I', q⟩)
  · have hk : (k + (its.toArray.size : Int)).toNat = j := by
      rw [seqIndex_neg (by omega) h3] at h1
      rw [List.size_toArray, ← hl]
      exact Option.some.inj h1
    exact PySem.W.ki_setBack ho (by omega) (by rw [List.size_toArray, ← hl]; exact h3) (by omega) (by rw [hk]; exact ⟨_, I', q⟩)
theorem slice_bounds (lo hi : Option Int) (n : Nat) : (sliceBounds lo hi none n).1 = ((HT.sIx n 0 lo : Nat) : Int) ∧ (sliceBounds lo hi none n).2.1 = ((HT.sIx n n hi : Nat) : Int) ∧ (sliceBounds lo hi none n).2.2 = 1 := by
  refine ⟨?_, ?_, rfl⟩
  · cases lo with
    | none => simp [sliceBounds, HT.sIx]
    | some i =>
      simp only [sliceBounds, HT.sIx, Option.getD_none, show (1 : Int) > 0 by decide, if_true]
      by_cases h : i < 0
      · simp only [h, if_true] <;> omega
      · simp only [h, if_false] <;> omega
  · cases hi with
    | none => simp [sliceBounds, HT.sIx]
    | some i =>
      simp only [sliceBounds, HT.sIx, Option.getD_none, show (1 : Int) > 0 by decide, if_true]
      by_cases h : i < 0
      · simp only [h, if_true] <;> omega
      · simp only [h, if_false] <;> omega
theorem slicePick_cut (its : List Value) (lo hi : Option Int) : slicePick its.toArray lo hi none = ((its.drop (HT.sIx its.length 0 lo)).take (HT.sIx its.length its.length hi - HT.sIx its.length 0 lo)).toArray := by
  obtain ⟨h1, h2, h3⟩ := slice_bounds lo hi its.toArray.size
  unfold slicePick
  rw [h1, h2, h3]
  simp only [sliceRange_one, pick_run, List.size_toArray] <;> rfl
def rSlL (K : PySem.W.Frag) : V → Option Int → Option Int → Hp → VK → Prop := fun x lo hi H Q => ∃ a xs, x = .ref a ∧ SqL K H a xs ∧ ∀ p, H p = none → Q (.ref p) (upd H p (.lst (cutV xs lo hi)))
def flatV : V → Bool
  | .non => true
  | .bl _ => true
  | .int _ => true
  | .str _ => true
  | _ => false
def eqV : V → V → Bool
  | .non, .non => true
  | .bl a, .bl b => a == b
  | .bl a, .int b => (if a then 1 else 0) == b
  | .int a, .bl b => a == (if b then 1 else 0)
  | .int a, .int b => a == b
  | .str a, .str b => a == b
  | _, _ => false
def eqU (x : V) (u : Value) : Bool := match u with
  | .none => eqV .non x
  | .bool b => eqV (.bl b) x
  | .int i _ => eqV (.int i) x
  | .str z _ => eqV (.str z) x
  | _ => false
def inV (x : V) (xs : List V) : Bool := xs.any fun y => eqV y x
def rIn (K : PySem.W.Frag) (neg : Bool) : R2 := fun x y H Q => ∃ p xs, y = .ref p ∧ (SqL K H p xs ∨ SqT K H p xs) ∧ flatV x = true ∧ xs.all flatV = true ∧ Q (.bl (if neg then !inV x xs else inV x xs)) H
theorem call_len_seq : CallR X (.builtin "len") (fun xs H Q => ∃ p ys, xs = [.ref p] ∧ (SqL X.K H p ys ∨ SqT X.K H p ys) ∧ Q (.int ys.length) H) := by
  intro pins s σ H xs us Q I r h
  obtain ⟨p, ys, rfl, hq, q⟩ := h
  obtain ⟨u, rfl, rx⟩ := vals1 r
  cases rx
  have hn := line63
  rcases hq with hq | hq
  · obtain ⟨its, r', pl, hz⟩ := I.list hq
    have hlen := r'.length
    exact Calls.call_len_list pl.isList (by simp only [List.size_toArray] <;> omega) ⟨.int ys.length, H, I.tok _, ⟨s.toks + 1, by rw [List.size_toArray, hlen]⟩, q⟩
  · obtain ⟨its, r', pl, hz⟩ := I.tuple hq
    have hlen := r'.length
    exact len_tuple pl (by simp only [List.size_toArray] <;> omega) ⟨.int ys.length, H, I.tok _, ⟨s.toks + 1, by rw [List.size_toArray, hlen]⟩, q⟩
theorem CallR.or {f : Value} {r r' : List V → Hp → VK → Prop} (h : CallR X f r) (h' : CallR X f r') : CallR X f (fun xs H Q => r xs H Q ∨ r' xs H Q) := by
  intro pins s σ H xs us Q I rs q
  rcases q with q | q
  · exact h pins s σ H xs us Q I rs q
  · exact h' pins s σ H xs us Q I rs q
theorem call_list_of : CallR X (.type "list") (fun xs H Q => ∃ p ys, xs = [.ref p] ∧ (SqL X.K H p ys ∨ SqT X.K H p ys) ∧ ∀ l, H l = none → Q (.ref l) (upd H l (.lst ys))) := by
  intro pins s σ H xs us Q I r h
  obtain ⟨p, ys, rfl, hq, q⟩ := h
  obtain ⟨u, rfl, rx⟩ := vals1 r
  cases rx
  have fin : ∀ (its : List Value), Vals ys its → ys.length ≤ sizeLine → ∀ (h' : Heap) (c' : Nat), (∀ b o', s.heap.get? b = some o' → h'.get? b = some o') →
      h'.get? s.heap.objs.size = some { cls := .type "list", dict := none, data := .seq its.toArray c', slots := #[] } → EP X pins σ Q (.ref s.heap.objs.size) { s with heap := h' } := fun its r' hz h' c' kp e =>
    ⟨.ref s.heap.objs.size, _, I.laid (t' := s.toks) kp (Nat.le_refl _) (show ObjOk X.prog X.w _ h' _ (.lst ys) from ⟨hz, its, c', r', e⟩), rfl, q _ (I.hok.fresh (Nat.le_refl _))⟩
  rcases hq with hq | hq
  · obtain ⟨its, r', pl, hz⟩ := I.list hq
    have hlen := r'.length
    obtain ⟨o, ho, hc, n, hd⟩ := pl.isList
    exact call_list_seq p (.inl rfl) ho hc hd (fun h' c' kp e => fin its r' hz h' c' kp e) (by simp only [List.size_toArray] <;> omega)
  · obtain ⟨its, r', pl, hz⟩ := I.tuple hq
    have hlen := r'.length
    obtain ⟨o, ho, hc, n, hd⟩ := pl
    exact call_list_seq p (.inr rfl) ho hc hd (fun h' c' kp e => fin its r' hz h' c' kp e) (by simp only [List.size_toArray] <;> omega)
def tyV (K : PySem.W.Frag) (T : String) (x : V) (H : Hp) : Prop := match x with
  | .str _ => T = "str"
  | .int _ => T = "int"
  | .ref p => (T = "list" ∧ ∃ xs, SqL K H p xs) ∨ (T = "tuple" ∧ ∃ o, K.lookup p = some o ∧ o.cls = .type "tuple" ∧ o.dict = none) ∨
      (T = "dict" ∧ ((∃ kvs, H p = some (.dK kvs)) ∨ ∃ kvs, H p = some (.dT kvs))) ∨ (T = "set" ∧ ∃ S n, H p = some (.set S n))
  | _ => False
theorem tyV_is {pins : List (Addr × Obj)} {σ : St} {H : Hp} {s : Shared} {T : String} {x : V} {v : Value} (I : Inv X pins σ H s) (r : RelV x v) (ty : tyV X.K T x H) :
    s.TypeIs v T ∧ ∀ a, v = .ref a → ∃ ob, s.heap.get? a = some ob ∧ ob.dict = none := by
  cases x with
  | str z =>
    obtain ⟨t, rfl⟩ := r
    cases (show T = "str" from ty)
    exact ⟨typeIs_str s z t, fun _ e => nomatch e⟩
  | int i =>
    obtain ⟨t, rfl⟩ := r
    cases (show T = "int" from ty)
    exact ⟨typeIs_int s i t, fun _ e => nomatch e⟩
  | ref p =>
    cases r
    rcases ty with ⟨rfl, xs, hq⟩ | ⟨rfl, o, hk, hc, hd⟩ | ⟨rfl, hk⟩ | ⟨rfl, S, n, hk⟩
    · obtain ⟨its, _, pl, _⟩ := I.list hq
      refine ⟨pl.isList.typeIs, fun a e => ?_⟩
      cases e
      obtain ⟨o, n, e, c, hd, _⟩ := pl
      exact ⟨o, e, hd⟩
    · refine ⟨⟨o, I.kIn p o hk, hc⟩, fun a e => ?_⟩
      cases e
      exact ⟨o, I.kIn _ o hk, hd⟩
    · have z : ∃ o, s.heap.get? p = some o ∧ o.ExactDict := by
        rcases hk with ⟨kvs, hk⟩ | ⟨kvs, hk⟩
        · obtain ⟨_, _, _, _, o, _, _, e, ex, _⟩ := I.hok p _ hk
          exact ⟨o, e, ex⟩
        · obtain ⟨_, _, _, _, o, _, _, e, ex, _⟩ := I.hok p _ hk
          exact ⟨o, e, ex⟩
      obtain ⟨o, e, ex⟩ := z
      refine ⟨⟨o, e, ex.1⟩, fun a e2 => ?_⟩
      cases e2
      exact ⟨o, e, ex.2.1⟩
    · obtain ⟨o, _, _, _, e, ex, _⟩ := I.hok p _ hk
      refine ⟨⟨o, e, ex.1⟩, fun a e2 => ?_⟩
      cases e2
      exact ⟨o, e, ex.2.1⟩
  | _ => exact False.elim ty
def tBM0 (K : PySem.W.Frag) (T : String) (r : V → List V → Hp → VK → Prop) (to : TE) : TE := fun σ H Q => to σ H fun x H1 => tyV K T x H1 ∧ r x [] H1 Q
def tBM (K : PySem.W.Frag) (T : String) (r : V → List V → Hp → VK → Prop) (to : TE) (t : TA) : TE := fun σ H Q => to σ H fun x H1 => tyV K T x H1 ∧ t σ H1 fun xs H2 => r x xs H2 Q
variable {o e : Expr} {es : List Expr} {to : TE} {t : TA} {name : Str} {apos cpos : Pos} {T id : String} {r : V → List V → Hp → VK → Prop}
theorem pe_bm0 (pa : PlainAttrs T) (slot : Slot T name id) (hty : typeOf (.builtin id) = pure (.type "method_descriptor")) (hm : MtR X id r) (ho : PE X o to)
    (hbase : attributeBase o name X.env (eval o X.env) = eval o X.env := by rfl) (hline : (apos.endLine == cpos.line) = true := by rfl) : PE X (.Call (.Attribute o name apos) [] [] cpos) (tBM0 X.K T r to) := by
  intro pins s σ H Q I h
  refine wpAny_Call_method0_late hbase hline (thn (ho pins s σ H _ I h) fun v s1 ⟨x, H1, I1, r1, ty, q1⟩ => ?_)
  obtain ⟨h1, h2⟩ := tyV_is I1 r1 ty
  exact ⟨T, id, pa, slot, hty, h1, h2, Calls.callWith_builtin rfl (PySem.evalArgs_none (hm pins s1 σ H1 x [] v [] Q I1 r1 .nil q1))⟩
theorem pe_bm (pa : PlainAttrs T) (slot : Slot T name id) (hty : typeOf (.builtin id) = pure (.type "method_descriptor")) (hm : MtR X id r) (ho : PE X o to) (ha : PA X (e :: es) t)
    (hbase : attributeBase o name X.env (eval o X.env) = eval o X.env := by rfl)
    (hfew : ((backTo cpos (starEach (e :: es) X.env)).all (fun x => !x.1) && (backToKw cpos (keywordEach [] X.env)).all (fun x => x.1.isSome)
      && decide ((e :: es).length + ([] : List Keyword).length + (if ([] : List Keyword).isEmpty then 0 else 1) < 30)) = true := by rfl)
    (hline : (apos.endLine == cpos.line) = true := by rfl) (hs : starEach (e :: es) X.env = (false, eval e X.env) :: starEach es X.env := by rfl) (hplain : (backTo cpos (starEach es X.env)).any (·.1) = false := by rfl) :
    PE X (.Call (.Attribute o name apos) (e :: es) [] cpos) (tBM X.K T r to t) := by
  intro pins s σ H Q I h
  refine wpAny_Call_method_late hbase hfew hline rfl (thn (ho pins s σ H _ I h) fun v s1 ⟨x, H1, I1, r1, ty, q1⟩ => ?_)
  obtain ⟨h1, h2⟩ := tyV_is I1 r1 ty
  refine ⟨T, id, pa, slot, hty, h1, h2, ?_⟩
  have hA := ha cpos pins s1 σ H1 _ I1 q1
  rw [hs] at hA ⊢
  refine Calls.callWith_builtin (by show (false || (backTo cpos (starEach es X.env)).any (·.1)) = false; rw [hplain] <;> rfl) (Calls.evalArgs_plain ?_)
  exact thn hA fun us s2 ⟨vs, H2, I2, r2, q2⟩ => hm pins s2 σ H2 x vs v us Q I2 r1 r2 q2
end
end L2
namespace L2
open PySem PySem.Spec PyProof.Rows
def MtM (X : Cx) (id : String) (r : V → List V → Hp → VK → Prop) : Prop :=
  ∀ (pins : List (Addr × Obj)) (s : Shared) (σ : St) (H : Hp) (x : V) (xs : List V) (v : Value) (us : List Value) (Q : VK), Inv X pins σ H s → RelV x v → Vals xs us → r x xs H Q →
    wpAny (model X.prog X.w) X.A (call (.builtin id) (v :: us)) (EP X pins σ Q) X.xe s
theorem Vals.one : ∀ {x : V} {us : List Value}, Vals [x] us → ∃ u, us = [u] ∧ RelV x u
  | _, _, .cons r .nil => ⟨_, rfl, r⟩
theorem Vals.zero : ∀ {us : List Value}, Vals [] us → us = []
  | _, .nil => rfl
theorem Vals.dropLast {xs : List V} {us : List Value} (h : Vals xs us) : Vals xs.dropLast us.dropLast := by
  induction h with
  | nil => exact .nil
  | cons r t ih =>
    cases t with
    | nil => exact .nil
    | cons q t' => exact .cons r ih
theorem Vals.eraseIdx : ∀ {xs : List V} {us : List Value} (i : Nat), Vals xs us → Vals (xs.eraseIdx i) (us.eraseIdx i)
  | _, _, _, .nil => .nil
  | _, _, 0, .cons _ t => t
  | _, _, i + 1, .cons r t => .cons r (Vals.eraseIdx i t)
theorem Vals.reverse {xs : List V} {us : List Value} (h : Vals xs us) : Vals xs.reverse us.reverse := by
  induction h with
  | nil => exact .nil
  | cons r t ih => rw [List.reverse_cons, List.reverse_cons]; exact Vals.append ih (.cons r .nil)
section
variable {X : Cx} {pins : List (Addr × Obj)} {σ : St} {H : Hp} {s : Shared} {l b : Addr} {xs ys zs : List V}
theorem Inv.lset {its its' : List Value} {n : Nat} {f : Array Value → Array Value} {t' : Nat} (I : Inv X pins σ H s) (hH : H l = some (.lst xs))
    (e : s.heap.get? l = some { cls := .type "list", data := .seq its.toArray n }) (hf : f its.toArray = its'.toArray) (hv : Vals ys its') (hz : ys.length ≤ sizeLine) :
    Inv X pins σ (upd H l (.lst ys)) { s with heap := s.heap.update l (Obj.mapSeq f), toks := t' } := by
  have q := PySem.IsL.update e f
  rw [hf] at q
  refine I.write (x := l) (e := l) (by rw [hH]; exact trivial) (.inl rfl) (fun b' u hb hu => (Heap.get?_update_other s.heap (Obj.mapSeq f) (Ne.symm hb)).trans hu) ⟨_, q⟩ ?_
  exact ⟨hz, its', _, hv, q⟩
theorem Inv.lnew {its : List Value} {t' : Nat} (I : Inv X pins σ H s) (hv : Vals ys its) (hz : ys.length ≤ sizeLine) :
    Inv X pins σ (upd H s.heap.objs.size (.lst ys)) { s with heap := s.heap.push { cls := .type "list", data := .seq its.toArray }, toks := t' } :=
  I.laid (fun _ _ q => Heap.get?_push_of_some _ q) (Nat.le_refl _) ⟨hz, its, 0, hv, Heap.get?_push_size _ rfl⟩
theorem Inv.fresh (I : Inv X pins σ H s) : H s.heap.objs.size = none := I.hok.fresh (Nat.le_refl _)
theorem Inv.lstM (I : Inv X pins σ H s) (hH : H l = some (.lst xs)) : xs.length ≤ sizeLine ∧ ∃ (its : List Value) (n : Nat), Vals xs its ∧ xs.length = its.length ∧ s.heap.get? l = some { cls := .type "list", data := .seq its.toArray n } := by
  obtain ⟨z, its, n, r, e⟩ := I.hok l _ hH
  exact ⟨z, its, n, r, r.length, e⟩
theorem notLongL {n : Nat} (h : n ≤ sizeLine) : Builtin.List.listTooLong n = false := by
  unfold Builtin.List.listTooLong
  exact decide_eq_false (by omega)
end
section
variable {X : Cx}
def rAppend : V → List V → Hp → VK → Prop := fun x vs H Q => ∃ l xs y, x = .ref l ∧ vs = [y] ∧ H l = some (.lst xs) ∧ xs.length < sizeLine ∧ Q .non (upd H l (.lst (xs ++ [y])))
theorem mt_append : MtM X "list.append" rAppend := by
  intro pins s σ H x vs v us Q I rx rv h
  obtain ⟨l, xs, y, rfl, rfl, hH, hz, q⟩ := h
  cases rx
  obtain ⟨u, rfl, ru⟩ := rv.one
  obtain ⟨z, its, n, r, hl, e⟩ := I.lstM hH
  refine call_meets F.slot_list_append ⟨_, e, rfl⟩ F.entry_list_append (F.args_list_append_2 _ _) (PySem.list_append l its.toArray n u (by rw [List.size_toArray]; omega)) ⟨e, ?_⟩
  refine ⟨.non, _, I.lset (its' := its ++ [u]) hH e (by simp) (r.append (.cons ru .nil)) ?_, rfl, q⟩
  rw [List.length_append, List.length_singleton]
  omega
def rExtend : V → List V → Hp → VK → Prop := fun x vs H Q => ∃ l b xs zs, x = .ref l ∧ vs = [.ref b] ∧ H l = some (.lst xs) ∧ H b = some (.lst zs) ∧ xs.length + zs.length ≤ sizeLine ∧ Q .non (upd H l (.lst (xs ++ zs)))
theorem mt_extend : MtM X "list.extend" rExtend := by
  intro pins s σ H x vs v us Q I rx rv h
  obtain ⟨l, b, xs, zs, rfl, rfl, hH, hB, hz, q⟩ := h
  cases rx
  obtain ⟨u, rfl, ru⟩ := rv.one
  cases ru
  obtain ⟨z, its, n, r, hl, e⟩ := I.lstM hH
  obtain ⟨z2, its2, n2, r2, hl2, e2⟩ := I.lstM hB
  have hsz : its.toArray.size + its2.toArray.size ≤ sizeLine := by rw [List.size_toArray, List.size_toArray]; omega
  have hlong : ¬ (!its.toArray.isEmpty && Builtin.List.listTooLong (its.toArray.size + its2.toArray.size)) = true := by
    rw [notLongL hsz, Bool.and_false]
    exact Bool.false_ne_true
  refine call_meets F.slot_list_extend ⟨_, e, rfl⟩ F.entry_list_extend (F.args_list_extend_2 _ _)
    (AutoSeq1.list_extend_list_list_0 l its.toArray n b its2.toArray n2 hlong (by rw [List.size_toArray]; omega) (by omega)) ⟨e, e2, ?_⟩
  refine ⟨.non, _, I.lset (its' := its ++ its2) hH e (by simp) (r.append r2) ?_, rfl, q⟩
  rw [List.length_append]
  omega
def rPop : V → List V → Hp → VK → Prop := fun x vs H Q => ∃ l xs y, x = .ref l ∧ vs = [] ∧ H l = some (.lst xs) ∧ xs[xs.length - 1]? = some y ∧ Q y (upd H l (.lst xs.dropLast))
def rPopAt : V → List V → Hp → VK → Prop := fun x vs H Q => ∃ l xs i k y, x = .ref l ∧ vs = [.int i] ∧ H l = some (.lst xs) ∧ -(2 ^ 63) ≤ i ∧ i < 2 ^ 63 ∧ seqIndex? i xs.length = some k ∧ xs[k]? = some y ∧ Q y (upd H l (.lst (xs.eraseIdx k)))
def rReverse : V → List V → Hp → VK → Prop := fun x vs H Q => ∃ l xs, x = .ref l ∧ vs = [] ∧ H l = some (.lst xs) ∧ Q .non (upd H l (.lst xs.reverse))
def rClear : V → List V → Hp → VK → Prop := fun x vs H Q => ∃ l xs, x = .ref l ∧ vs = [] ∧ H l = some (.lst xs) ∧ Q .non (upd H l (.lst []))
theorem mt_clear : MtM X "list.clear" rClear := by
  intro pins s σ H x vs v us Q I rx rv h
  obtain ⟨l, xs, rfl, rfl, hH, q⟩ := h
  cases rx
  have hus := rv.zero
  subst hus
  obtain ⟨z, its, n, r, hl, e⟩ := I.lstM hH
  refine call_meets F.slot_list_clear ⟨_, e, rfl⟩ F.entry_list_clear (F.args_list_clear_1 _) (AutoSeq1.list_clear_list_0 l its.toArray n (by rw [List.size_toArray]; omega)) ⟨e, ?_⟩
  exact ⟨.non, _, I.lset (its' := []) (ys := []) hH e rfl .nil (Nat.zero_le _), rfl, q⟩
def rCat : R2 := fun x y H Q => ∃ l b xs zs, x = .ref l ∧ y = .ref b ∧ H l = some (.lst xs) ∧ H b = some (.lst zs) ∧ xs.length + zs.length ≤ sizeLine ∧ ∀ p, H p = none → Q (.ref p) (upd H p (.lst (xs ++ zs)))
def rRep : R2 := fun x y H Q => ∃ l k xs, x = .ref l ∧ y = .int k ∧ H l = some (.lst xs) ∧ -(2 ^ 63) ≤ k ∧ k < 2 ^ 63 ∧ xs.length * k.toNat ≤ sizeLine ∧
  ∀ p, H p = none → Q (.ref p) (upd H p (.lst (List.replicate k.toNat xs).flatten))
end
section
variable {prog : Program} {w : World} {A : Around} {E : Value → Shared → Prop} {s : Shared}
end
section
variable {X : Cx}
end
end L2
namespace L2
open PySem PySem.Spec PyProof.Rows
section
variable {κ : Type} [DecidableEq κ]
def valV (kvs : List (κ × V)) (k : κ) : Option V := (kvs.find? fun kv => decide (kv.1 = k)).map (·.2)
def putK (kvs : List (κ × V)) (k : κ) (v : V) : List (κ × V) :=
  if (kvs.any fun kv => decide (kv.1 = k)) = true then kvs.map (fun kv => if kv.1 = k then (kv.1, v) else kv) else kvs ++ [(k, v)]
def dropK (kvs : List (κ × V)) (k : κ) : List (κ × V) := kvs.filter fun kv => decide (kv.1 ≠ k)
theorem valV_pos {p : κ × V} {r : List (κ × V)} {k : κ} (e : p.1 = k) : valV (p :: r) k = some p.2 := by simp [valV, List.find?_cons, e]
theorem valV_neg {p : κ × V} {r : List (κ × V)} {k : κ} (e : ¬ p.1 = k) : valV (p :: r) k = valV r k := by simp [valV, List.find?_cons, e]
theorem valV_any (k : κ) : ∀ kvs : List (κ × V), (kvs.any fun kv => decide (kv.1 = k)) = (valV kvs k).isSome
  | [] => rfl
  | p :: r => by
    rw [List.any_cons]
    by_cases e : p.1 = k
    · simp only [valV_pos e, decide_eq_true e, Bool.true_or, Option.isSome_some]
    · rw [valV_neg e, decide_eq_false e, Bool.false_or]; exact valV_any k r
theorem valV_map (k j : κ) (y : V) : ∀ kvs : List (κ × V), valV (kvs.map fun kv => if kv.1 = k then (kv.1, y) else kv) j = (valV kvs j).map fun x => if j = k then y else x
  | [] => rfl
  | p :: r => by
    have ih := valV_map k j y r
    rw [List.map_cons]
    by_cases h : p.1 = k
    · rw [if_pos h]
      by_cases e : p.1 = j
      · rw [valV_pos (p := (p.1, y)) e, valV_pos e, Option.map_some, if_pos (e.symm.trans h)]
      · rw [valV_neg (p := (p.1, y)) e, valV_neg e, ih]
    · rw [if_neg h]
      by_cases e : p.1 = j
      · rw [valV_pos (p := p) e, valV_pos e, Option.map_some, if_neg (fun z => h (e.trans z))]
      · rw [valV_neg (p := p) e, valV_neg e, ih]
theorem valV_snoc (k j : κ) (y : V) : ∀ kvs : List (κ × V), valV kvs k = none → valV (kvs ++ [(k, y)]) j = if j = k then some y else valV kvs j
  | [], _ => by
    by_cases e : k = j
    · rw [if_pos e.symm]; exact valV_pos (p := (k, y)) e
    · rw [if_neg (fun z => e z.symm)]; exact valV_neg (p := (k, y)) e
  | p :: r, hn => by
    rw [List.cons_append]
    have hk : ¬ p.1 = k := fun z => by rw [valV_pos z] at hn; cases hn
    rw [valV_neg hk] at hn
    have ih := valV_snoc k j y r hn
    by_cases e : p.1 = j
    · rw [valV_pos e, valV_pos e, if_neg (fun z => hk (e.trans z))]
    · rw [valV_neg e, valV_neg e, ih]
theorem valV_put (kvs : List (κ × V)) (k j : κ) (y : V) : valV (putK kvs k y) j = if j = k then some y else valV kvs j := by
  unfold putK
  by_cases a : (kvs.any fun kv => decide (kv.1 = k)) = true
  · rw [if_pos a, valV_map]
    rw [valV_any] at a
    by_cases e : j = k
    · obtain ⟨x, hx⟩ := Option.isSome_iff_exists.mp a
      rw [if_pos e, e, hx, Option.map_some, if_pos rfl]
    · rw [if_neg e]
      cases valV kvs j with
      | none => rfl
      | some x => rw [Option.map_some, if_neg e]
  · rw [if_neg a]
    refine valV_snoc k j y kvs ?_
    rw [valV_any] at a
    cases q : valV kvs k with
    | none => rfl
    | some x => rw [q] at a; exact (a rfl).elim
theorem length_putK (kvs : List (κ × V)) (k : κ) (v : V) : (putK kvs k v).length ≤ kvs.length + 1 := by
  unfold putK
  split
  · rw [List.length_map]; omega
  · rw [List.length_append, List.length_cons, List.length_nil]; omega
theorem RelO.isSome_eq {o : Option V} {u : Option Value} (r : RelO o u) : o.isSome = u.isSome := by
  cases o with
  | none => cases u with
    | none => rfl
    | some _ => exact (show False from r).elim
  | some _ => cases u with
    | none => exact (show False from r).elim
    | some _ => rfl
theorem RelO.getD {o : Option V} {u : Option Value} {d : V} {d' : Value} (r : RelO o u) (rd : RelV d d') : RelV (o.getD d) (u.getD d') := by
  cases o with
  | none => cases u with
    | none => exact rd
    | some _ => exact (show False from r).elim
  | some _ => cases u with
    | none => exact (show False from r).elim
    | some _ => exact r
theorem KV.val {kvs : List (κ × V)} {vs : List (κ × Value)} (r : KV kvs vs) (k : κ) : RelO (valV kvs k) (valueAt vs k) := by
  unfold KV at r
  induction r with
  | nil => exact True.intro
  | @cons p q ps qs h t ih =>
    obtain ⟨h1, h2⟩ := h
    by_cases e : p.1 = k
    · have e' : q.1 = k := h1.symm.trans e
      have b : valueAt (q :: qs) k = some q.2 := by simp [valueAt, List.find?_cons, e']
      rw [valV_pos e, b]; exact h2
    · have e' : ¬ q.1 = k := fun z => e (h1.trans z)
      have b : valueAt (q :: qs) k = valueAt qs k := by simp [valueAt, List.find?_cons, e']
      rw [valV_neg e, b]; exact ih
theorem KV.any {kvs : List (κ × V)} {vs : List (κ × Value)} (r : KV kvs vs) (k : κ) : (kvs.any fun kv => decide (kv.1 = k)) = vs.any fun kv => decide (kv.1 = k) := by
  unfold KV at r
  induction r with
  | nil => rfl
  | cons h t ih => rw [List.any_cons, List.any_cons, ih, h.1]
theorem KV.repl {kvs : List (κ × V)} {vs : List (κ × Value)} (r : KV kvs vs) (k : κ) {y : V} {u : Value} (ry : RelV y u) :
    KV (kvs.map fun kv => if kv.1 = k then (kv.1, y) else kv) (vs.map fun kv => if kv.1 = k then (kv.1, u) else kv) := by
  unfold KV at r ⊢
  induction r with
  | nil => exact .nil
  | @cons p q ps qs h t ih =>
    rw [List.map_cons, List.map_cons]
    refine .cons ?_ ih
    obtain ⟨h1, h2⟩ := h
    by_cases e : p.1 = k
    · rw [if_pos e, if_pos (h1.symm.trans e)]; exact ⟨h1, ry⟩
    · rw [if_neg e, if_neg (fun z => e (h1.trans z))]; exact ⟨h1, h2⟩
theorem KV.put {kvs : List (κ × V)} {vs : List (κ × Value)} (r : KV kvs vs) (k : κ) {y : V} {u : Value} (ry : RelV y u) : KV (putK kvs k y) (stored vs k u) := by
  unfold putK stored
  rw [r.any k]
  by_cases e : (vs.any fun kv => decide (kv.1 = k)) = true
  · rw [if_pos e, if_pos e]; exact r.repl k ry
  · rw [if_neg e, if_neg e]; exact Paired.snoc r ⟨rfl, ry⟩
theorem KV.drop {kvs : List (κ × V)} {vs : List (κ × Value)} (r : KV kvs vs) (k : κ) : KV (dropK kvs k) (without vs k) := by
  unfold KV at r ⊢
  unfold dropK without
  induction r with
  | nil => exact .nil
  | @cons p q ps qs h t ih =>
    obtain ⟨h1, h2⟩ := h
    rw [List.filter_cons, List.filter_cons]
    by_cases e : p.1 = k
    · have a : ¬ decide (p.1 ≠ k) = true := by simp [e]
      have b : ¬ decide (q.1 ≠ k) = true := by simp [h1.symm.trans e]
      rw [if_neg a, if_neg b]; exact ih
    · have e' : ¬ q.1 = k := fun z => e (h1.trans z)
      have a : decide (p.1 ≠ k) = true := by simp [e]
      have b : decide (q.1 ≠ k) = true := by simp [e']
      rw [if_pos a, if_pos b]; exact .cons ⟨h1, h2⟩ ih
theorem KV.keys {kvs : List (κ × V)} {vs : List (κ × Value)} (r : KV kvs vs) : kvs.map (·.1) = vs.map (·.1) := by
  unfold KV at r
  induction r with
  | nil => rfl
  | cons h t ih => rw [List.map_cons, List.map_cons, ih, h.1]
theorem KV.length {kvs : List (κ × V)} {vs : List (κ × Value)} (r : KV kvs vs) : kvs.length = vs.length := Paired.length r
end
theorem kV_is {P : Program} {w : World} {k : Key} {u : Value} (r : RelV (kV k) u) : (mixKind P w).is k u = true := by
  cases k with
  | inl i => obtain ⟨t, e⟩ := (show ∃ t, u = Value.int i t from r); subst e; exact mixKind_int P w i t
  | inr x => obtain ⟨t, e⟩ := (show ∃ t, u = Value.str x t from r); subst e; exact mixKind_str P w x t
theorem items_are {P : Program} {w : World} : ∀ {ks : List Key} {us : List Value}, Vals (ks.map kV) us → ItemsAre (mixKind P w) ks us
  | [], _, r => by rw [List.map_nil] at r; cases r; exact .nil
  | k :: ks, _, r => by
    rw [List.map_cons] at r
    cases r with
    | cons h t => exact .cons (kV_is h) (items_are t)
abbrev KT (H : Hp) : List (List Key × V) → List (List Key × Addr × Value) → Prop := Paired fun p q => p.1 = q.1 ∧ H q.2.1 = some (.tup (p.1.map kV)) ∧ RelV p.2 q.2.2
theorem KT.val {H : Hp} {kvs : List (List Key × V)} {xs : List (List Key × Addr × Value)} (r : KT H kvs xs) (k : List Key) : RelO (valV kvs k) ((atKey xs k).map (·.2)) := by
  induction r with
  | nil => exact True.intro
  | @cons p q ps qs h t ih =>
    obtain ⟨h1, _, h2⟩ := h
    by_cases e : p.1 = k
    · have e' : q.1 = k := h1.symm.trans e
      have b : atKey (q :: qs) k = some q.2 := by simp [atKey, List.find?_cons, e']
      rw [valV_pos e, b]; exact h2
    · have e' : ¬ q.1 = k := fun z => e (h1.trans z)
      have b : atKey (q :: qs) k = atKey qs k := by simp [atKey, List.find?_cons, e']
      rw [valV_neg e, b]; exact ih
theorem KT.repl {H : Hp} {kvs : List (List Key × V)} {xs : List (List Key × Addr × Value)} (r : KT H kvs xs) (k : List Key) {y : V} {u : Value} (ry : RelV y u) :
    KT H (kvs.map fun kv => if kv.1 = k then (kv.1, y) else kv) (xs.map (putAt k u)) := by
  induction r with
  | nil => exact .nil
  | @cons p q ps qs h t ih =>
    rw [List.map_cons, List.map_cons]
    refine .cons ?_ ih
    obtain ⟨h1, h2, h3⟩ := h
    unfold putAt
    by_cases e : p.1 = k
    · rw [if_pos e, if_pos (h1.symm.trans e)]; exact ⟨h1, h2, ry⟩
    · rw [if_neg e, if_neg (fun z => e (h1.trans z))]; exact ⟨h1, h2, h3⟩
theorem KT.put {H : Hp} {kvs : List (List Key × V)} {xs : List (List Key × Addr × Value)} (r : KT H kvs xs) (k : List Key) {b : Addr} {y : V} {u : Value} (hb : H b = some (.tup (k.map kV))) (ry : RelV y u) :
    KT H (putK kvs k y) (storedH xs k b u) := by
  have e : (kvs.any fun kv => decide (kv.1 = k)) = (atKey xs k).isSome := by
    rw [valV_any, (r.val k).isSome_eq, Option.isSome_map]
  unfold putK storedH
  rw [e]
  by_cases q : (atKey xs k).isSome = true
  · rw [if_pos q, if_pos q]; exact r.repl k ry
  · rw [if_neg q, if_neg q]; exact Paired.snoc r ⟨rfl, hb, ry⟩
theorem KT.keeps {H H' : Hp} {kvs : List (List Key × V)} {xs : List (List Key × Addr × Value)} (r : KT H kvs xs) (ht : ∀ b ys, H b = some (.tup ys) → H' b = some (.tup ys)) : KT H' kvs xs :=
  Paired.mapP r fun _ _ z => ⟨z.1, ht _ _ z.2.1, z.2.2⟩
section
variable {P : Program} {w : World} {H : Hp} {h : Heap} {a : Addr}
theorem rd_of {u : HO} (ok : HOk P w H h) (e : Rd H a u) : ObjOk P w H h a u := e.ok ok
theorem dk_rd {kvs : List (Key × V)} (ok : HOk P w H h) (e : Rd H a (.dK kvs)) : kvs.length ≤ sizeLine ∧ (a == sysModules) = false ∧ ∃ vs, KV kvs vs ∧ h.DictOf (mixKind P w) a vs :=
  show ObjOk P w H h a (.dK kvs) from rd_of ok e
theorem dk_of {kvs : List (Key × V)} (ok : HOk P w H h) (e : H a = some (.dK kvs)) : kvs.length ≤ sizeLine ∧ (a == sysModules) = false ∧ ∃ vs, KV kvs vs ∧ h.DictOf (mixKind P w) a vs := dk_rd ok (.inl e)
theorem key_of {ks : List Key} (ok : HOk P w H h) (e : H a = some (.tup (ks.map kV))) : (tupleKind (mixKind P w)).is h ks a := by
  obtain ⟨_, its, r, o, h1, h2, n, h3⟩ := (show ObjOk P w H h a (.tup (ks.map kV)) from ok a _ e)
  exact ⟨o, its.toArray, n, h1, h2, h3, by simpa using items_are r⟩
theorem dt_rd {kvs : List (List Key × V)} (ok : HOk P w H h) (e : Rd H a (.dT kvs)) : kvs.length ≤ sizeLine ∧ (a == sysModules) = false ∧
    ∃ xs, KT H kvs xs ∧ h.DictOfH (tupleKind (mixKind P w)) a xs := by
  obtain ⟨z, y, xs, r, o, es, ep, h1, h2, h3, h4, h5⟩ := (show ObjOk P w H h a (.dT kvs) from rd_of ok e)
  refine ⟨z, y, xs, r, o, es, ep, h1, h2, h3, h4, fun x hx => ?_, h5⟩
  have all : ∀ {l : List (List Key × V)} {m : List (List Key × Addr × Value)}, KT H l m → ∀ x ∈ m, (tupleKind (mixKind P w)).is h x.1 x.2.1 := by
    intro l m q
    induction q with
    | nil => intro x hx; exact nomatch hx
    | @cons p q ps qs hq t ih =>
      intro x hx
      rcases List.mem_cons.mp hx with e | hx
      · subst e
        exact key_of ok (by rw [← hq.1]; exact hq.2.1)
      · exact ih x hx
  exact all r x hx
theorem dt_of {kvs : List (List Key × V)} (ok : HOk P w H h) (e : H a = some (.dT kvs)) : kvs.length ≤ sizeLine ∧ (a == sysModules) = false ∧
    ∃ xs, KT H kvs xs ∧ h.DictOfH (tupleKind (mixKind P w)) a xs := dt_rd ok (.inl e)
end
def DGet (H : Hp) (a : Addr) (y : V) (r : Option V) : Prop :=
  (∃ kvs k, Rd H a (.dK kvs) ∧ y = kV k ∧ r = valV kvs k) ∨ ∃ kvs k b, Rd H a (.dT kvs) ∧ y = .ref b ∧ H b = some (.tup (k.map kV)) ∧ r = valV kvs k
def DPut (H : Hp) (a : Addr) (y v : V) (H' : Hp) : Prop :=
  (∃ kvs k, H a = some (.dK kvs) ∧ y = kV k ∧ kvs.length < sizeLine ∧ H' = upd H a (.dK (putK kvs k v))) ∨
  ∃ kvs k b, H a = some (.dT kvs) ∧ y = .ref b ∧ H b = some (.tup (k.map kV)) ∧ kvs.length < sizeLine ∧ H' = upd H a (.dT (putK kvs k v))
theorem DGet.k {H : Hp} {a : Addr} {kvs : List (Key × V)} {k : Key} (e : H a = some (.dK kvs)) : DGet H a (kV k) (valV kvs k) := .inl ⟨kvs, k, .inl e, rfl, rfl⟩
theorem DGet.t {H : Hp} {a b : Addr} {kvs : List (List Key × V)} {k : List Key} (e : H a = some (.dT kvs)) (eb : H b = some (.tup (k.map kV))) : DGet H a (.ref b) (valV kvs k) := .inr ⟨kvs, k, b, .inl e, rfl, eb, rfl⟩
theorem DPut.k {H : Hp} {a : Addr} {kvs : List (Key × V)} {k : Key} {v : V} (e : H a = some (.dK kvs)) (hl : kvs.length < sizeLine) : DPut H a (kV k) v (upd H a (.dK (putK kvs k v))) := .inl ⟨kvs, k, e, rfl, hl, rfl⟩
theorem DPut.t {H : Hp} {a b : Addr} {kvs : List (List Key × V)} {k : List Key} {v : V} (e : H a = some (.dT kvs)) (eb : H b = some (.tup (k.map kV))) (hl : kvs.length < sizeLine) :
    DPut H a (.ref b) v (upd H a (.dT (putK kvs k v))) := .inr ⟨kvs, k, b, e, rfl, eb, hl, rfl⟩
section
variable {X : Cx} {pins : List (Addr × Obj)} {σ : St} {H : Hp} {s : Shared} {a : Addr} {y v : V} {u r : Value} {o : Option V} {A : Around} {E : Value → Shared → Prop}
theorem Inv.big (I : Inv X pins σ H s) : sysModules < s.heap.objs.size := by
  have h : mainGlobals < s.heap.objs.size := (I.mod.glob.keeps I.bk).lt
  exact Nat.lt_trans (by decide) h
theorem d_getItem {Q : Value → Shared → Prop} (hu : A.units + 1 < cLine) (I : Inv X pins σ H s) (g : DGet H a y (some v)) (ry : RelV y u) (h : ∀ w' s', Inv X pins σ H s' → RelV v w' → Q w' s') :
    wpAny (model X.prog X.w) A (getItem (.ref a) u) Q E s := by
  rcases g with ⟨kvs, k, e, ey, l⟩ | ⟨kvs, k, b, e, ey, eb, l⟩
  · subst ey
    obtain ⟨z, hd, vs, rel, dd⟩ := dk_rd I.hok e
    obtain ⟨w', hw, rw'⟩ := RelO.some_of (v := v) (o := valueAt vs k) (by rw [l]; exact rel.val k)
    exact wpAny_getItem_of (kV_is ry) dd.mapOf hw (h w' _ (I.tok _) rw')
  · subst ey
    cases (show u = Value.ref b from ry)
    obtain ⟨z, hd, xs, rel, dd⟩ := dt_rd I.hok e
    obtain ⟨w', hw, rw'⟩ := RelO.some_of (v := v) (o := (atKey xs k).map (·.2)) (by rw [l]; exact rel.val k)
    obtain ⟨p, hp, hp2⟩ := Option.map_eq_some_iff.mp hw
    refine wpAny_getItem_heap (tupleKind_room_in1 hu) (key_of I.hok eb) dd hp ?_
    rw [hp2]
    exact h w' _ (I.tok _) rw'
theorem d_in {Q : Value → Shared → Prop} (hu : A.units + 1 < cLine) (I : Inv X pins σ H s) (g : DGet H a y o) (ry : RelV y u) (h : ∀ s', Inv X pins σ H s' → Q (.bool o.isSome) s') :
    wpAny (model X.prog X.w) A (compareOp .In u (.ref a)) Q E s := by
  rcases g with ⟨kvs, k, e, ey, l⟩ | ⟨kvs, k, b, e, ey, eb, l⟩
  · subst ey
    obtain ⟨z, hd, vs, rel, dd⟩ := dk_rd I.hok e
    refine wpAny_in_of (kV_is ry) hd dd.mapOf ?_
    rw [← (rel.val k).isSome_eq, ← l]
    exact h _ (I.tok _)
  · subst ey
    cases (show u = Value.ref b from ry)
    obtain ⟨z, hd, xs, rel, dd⟩ := dt_rd I.hok e
    refine wpAny_in_heap (tupleKind_room_in1 hu) (key_of I.hok eb) hd dd ?_
    have q := (rel.val k).isSome_eq
    rw [Option.isSome_map] at q
    rw [← q, ← l]
    exact h _ (I.tok _)
theorem d_write {h' : Heap} {t' : Nat} {ob : HO} (I : Inv X pins σ H s) (mu : Mut (H a)) (hs : Heap.SameBut a s.heap h') (he : ∃ q, h'.get? a = some q) (new : ObjOk X.prog X.w (upd H a ob) h' a ob) :
    Inv X pins σ (upd H a ob) { s with heap := h', toks := t' } :=
  I.write (x := a) (e := a) mu (.inl rfl) (fun b q hb z => (hs.2 b hb).trans z) he new
theorem dk_new {P : Program} {w : World} {H' : Hp} {h' : Heap} {kvs : List (Key × V)} {vs : List (Key × Value)} (z : kvs.length ≤ sizeLine) (hd : (a == sysModules) = false) (rel : KV kvs vs) (dd : h'.DictOf (mixKind P w) a vs) :
    ObjOk P w H' h' a (.dK kvs) := ⟨z, hd, vs, rel, dd⟩
theorem d_setItem {H' : Hp} {Q : Unit → Shared → Prop} (hu : A.units + 1 < cLine) (I : Inv X pins σ H s) (g : DPut H a y v H') (ry : RelV y u) (rv : RelV v r) (h : ∀ s', Inv X pins σ H' s' → Q () s') :
    wpAny (model X.prog X.w) A (setItem (.ref a) u r) Q E s := by
  rcases g with ⟨kvs, k, e, ey, l, eH⟩ | ⟨kvs, k, b, e, ey, eb, l, eH⟩
  · subst ey eH
    obtain ⟨z, hd, vs, rel, dd⟩ := dk_of I.hok e
    have hz : vs.length ≤ sizeLine := by rw [← rel.length]; exact z
    have hl : (putK kvs k v).length ≤ sizeLine := by have := length_putK kvs k v; omega
    refine wpAny_setItem_pairs (hsz := hz) (kV_is ry) dd fun h' dd' hs => h _ ?_
    have he : ∃ q, h'.get? a = some q := let ⟨q, _, _, hq, _⟩ := dd'; ⟨q, hq⟩
    exact d_write I (by rw [e]; exact True.intro) hs he (dk_new hl hd (rel.put k rv) dd')
  · subst ey eH
    cases (show u = Value.ref b from ry)
    obtain ⟨z, hd, xs, rel, dd⟩ := dt_of I.hok e
    have hz : xs.length ≤ sizeLine := by rw [← Paired.length rel]; exact z
    have hl : (putK kvs k v).length ≤ sizeLine := by have := length_putK kvs k v; omega
    refine wpAny_setItem_heap (hsz := hz) (tupleKind_room_in1 hu) (key_of I.hok eb) dd fun h' dd' hs => h _ ?_
    obtain ⟨q, es, ep, hq, h2, h3, h4, _, h5⟩ := dd'
    refine d_write I (by rw [e]; exact True.intro) hs ⟨q, hq⟩ ⟨hl, hd, _, (rel.put k eb rv).keeps fun c ys ec => ?_, q, es, ep, hq, h2, h3, h4, h5⟩
    rw [upd_ne (ne_of ec e (fun z => nomatch z))]
    exact ec
end
section
variable {X : Cx} {pins : List (Addr × Obj)} {σ : St} {H : Hp} {s : Shared} {a : Addr} {kvs : List (Key × V)} {k : Key} {u : Value} {A : Around} {E : Value → Shared → Prop}
theorem d_clear {Q : Value → Shared → Prop} (I : Inv X pins σ H s) (e : H a = some (.dK kvs)) (h : ∀ s', Inv X pins σ (upd H a (.dK [])) s' → Q .none s') : wpAny (model X.prog X.w) A (call (.builtin "dict.clear") [.ref a]) Q E s := by
  obtain ⟨z, hd, vs, rel, dd⟩ := dk_of I.hok e
  refine call_meetsIn PySem.F.slot_dict_clear dd.typeIs PySem.F.entry_dict_clear (PySem.F.args_dict_clear_1 _) (meets_dict_clear (mixKind X.prog X.w) a) ⟨vs, dd, by rw [← rel.length]; exact z, fun h' dd' hs => h _ ?_⟩
  have he : ∃ q, h'.get? a = some q := let ⟨q, _, _, hq, _⟩ := dd'; ⟨q, hq⟩
  exact d_write (t' := s.toks) I (by rw [e]; exact True.intro) hs he (dk_new (Nat.zero_le _) hd .nil dd')
theorem d_len {Q : Value → Shared → Prop} (I : Inv X pins σ H s) (e : Rd H a (.dK kvs)) (h : ∀ t s', Inv X pins σ H s' → Q (.int kvs.length t) s') : wpAny (model X.prog X.w) A (call (.builtin "len") [.ref a]) Q E s := by
  obtain ⟨z, hd, vs, rel, dd⟩ := dk_rd I.hok e
  refine call_len_dict hd dd (by rw [← rel.length]; rw [sizeLine_eq] at z; omega) ?_
  rw [← rel.length]
  exact h _ _ (I.tok _)
end
def NoSl (i : Expr) : Prop := ∀ ov iv, subscripted i false ov iv = operate [ov, iv] (getItem ov iv)
theorem subD_of {prog : Program} {w : World} {A : Around} {E : Value → Shared → Prop} {s : Shared} {env : Env} {value slice : Expr} {pos : Pos} {T id : String} {Q : Value → Shared → Prop}
    (hl : typeLookup (.type T) "__getitem__" = pure (some (.builtin id))) (hs : NoSl slice)
    (h : wpAny (model prog w) A (eval value env) (fun o s₁ => wpAny (model prog w) A (eval slice env) (fun i s₂ => s₂.TypeIs o T ∧ wpAny (model prog w) A (getItem o i) Q E s₂) E s₁) E s) :
    wpAny (model prog w) A (eval (.Subscript value slice pos) env) Q E s := by
  refine Subscript_ (wpAny_mono h (fun o s₁ h₁ => wpAny_mono h₁ (fun i s₂ h₂ => ?_) fun _ _ x => x) fun _ _ x => x)
  obtain ⟨hT, h₂⟩ := h₂
  unfold subscriptTail
  refine wpAny_bind ?_
  rw [getitemInPython_of_ne hT.not_modules]
  refine wpAny_bind (wpAny_specialOf hT hl ?_)
  have fin : wpAny (model prog w) A (subscripted slice false o i) (fun r s₃ => wpAny (model prog w) A (letTemporaryGo value o r >>= fun _ => pure r) Q E s₃) E s₂ := by
    rw [hs o i]
    exact wpAny_operating (wpAny_mono h₂ (fun r s₃ h₃ => wpAny_bind (wpAny_letTemporaryGo (wpAny_pure h₃))) fun _ _ x => x)
  first
    | exact wpAny_pure (wpAny_bind fin)
    | exact wpAny_bind (wpAny_pure (wpAny_bind fin))
    | exact wpAny_bind fin
theorem dict_typeIs {X : Cx} {pins : List (Addr × Obj)} {σ : St} {H : Hp} {s : Shared} {a : Addr} {y : V} {o : Option V} (I : Inv X pins σ H s) (g : DGet H a y o) : s.TypeIs (.ref a) "dict" := by
  rcases g with ⟨kvs, k, e, _, _⟩ | ⟨kvs, k, b, e, _, _, _⟩
  · obtain ⟨_, _, vs, _, dd⟩ := dk_rd I.hok e
    exact dd.typeIs
  · obtain ⟨_, _, xs, _, dd⟩ := dt_rd I.hok e
    exact dd.typeIs
def tDGet (td ty : TE) : TE := fun σ H Q => td σ H fun x H1 => ty σ H1 fun y H2 => ∃ a v, x = .ref a ∧ DGet H2 a y (some v) ∧ Q v H2
def tDIn (ty td : TE) : TE := fun σ H Q => ty σ H fun y H1 => td σ H1 fun x H2 => ∃ a o, x = .ref a ∧ DGet H2 a y o ∧ Q (.bl o.isSome) H2
def tDNotIn (ty td : TE) : TE := fun σ H Q => ty σ H fun y H1 => td σ H1 fun x H2 => ∃ a o, x = .ref a ∧ DGet H2 a y o ∧ Q (.bl (!o.isSome)) H2
def sDPut (td ty tv : TE) : TS := fun D σ H => tv σ H fun v H1 => td σ H1 fun x H2 => ty σ H2 fun y H3 => ∃ a H4, x = .ref a ∧ DPut H3 a y v H4 ∧ D.nx σ H4
def sDAug (td ty tv : TE) (rd : V → V → Hp → VK → Prop) : TS := fun D σ H => td σ H fun x H1 => ty σ H1 fun y H2 => ∃ a v, x = .ref a ∧ DGet H2 a y (some v) ∧
  tv σ H2 fun y2 H3 => rd v y2 H3 fun z H4 => ∃ H5, DPut H4 a y z H5 ∧ D.nx σ H5
def sDDel (td ty : TE) : TS := fun D σ H => td σ H fun x H1 => ty σ H1 fun y H2 => ∃ a kvs k, x = .ref a ∧ H2 a = some (.dK kvs) ∧ y = kV k ∧ (valV kvs k).isSome = true ∧ D.nx σ (upd H2 a (.dK (dropK kvs k)))
section
variable {X : Cx} {o i e value : Expr} {pos pos' tpos : Pos} {td ty tv : TE}
theorem pe_dget (hu : X.A.units + 1 < cLine) (ho : PE X o td) (hi : PE X i ty) (hs : NoSl i) : PE X (.Subscript o i pos) (tDGet td ty) := by
  intro pins s σ H Q I h
  refine subD_of PySem.F.slot_dict_getitem.lookup hs (thn (ho pins s σ H _ I h) fun u s1 ⟨x, H1, I1, rx, q1⟩ => thn (hi pins s1 σ H1 _ I1 q1) fun iv s2 ⟨y, H2, I2, ry, a, v, ex, g, q2⟩ => ?_)
  subst ex
  obtain rfl : u = Value.ref a := rx
  exact ⟨dict_typeIs I2 g, d_getItem hu I2 g ry fun w' s3 I3 rw' => ⟨v, H2, I3, rw', q2⟩⟩
theorem ps_dput (hu : X.A.units + 1 < cLine) (ho : PE X o td) (hi : PE X i ty) (hv : PE X value tv) (hs : swapsWith value (some (.Subscript o i pos')) pos.line X.env = pure false) :
    PS X (.Assign [.Subscript o i pos'] value pos) (sDPut td ty tv) := by
  intro pins s σ H D I h
  refine wpAny_Assign_Subscript (thn (hv pins s σ H _ I h) fun r s1 ⟨v, H1, I1, rv, q1⟩ => thn (ho pins s1 σ H1 _ I1 q1) fun u s2 ⟨x, H2, I2, rx, q2⟩ => thn (hi pins s2 σ H2 _ I2 q2) fun iv s3 ⟨y, H3, I3, ry, a, H4, ex, g, q3⟩ => ?_) hs
  subst ex
  obtain rfl : u = Value.ref a := rx
  exact d_setItem hu I3 g ry rv fun s4 I4 => ⟨σ, H4, I4, q3⟩
end
theorem dk_empty {P : Program} {w : World} {H : Hp} (h : Heap) (hb : sysModules < h.objs.size) : ObjOk P w H (h.push { cls := .type "dict", data := .dict #[] }) h.objs.size (.dK []) :=
  ⟨Nat.zero_le _, beq_eq_false_iff_ne.mpr (Ne.symm (Nat.ne_of_lt hb)), [], .nil, Heap.DictOf.new h⟩
def tDNewK : TE := fun _ H Q => ∀ p, H p = none → Q (.ref p) (upd H p (.dK []))
def tDNewT : TE := fun _ H Q => ∀ p, H p = none → Q (.ref p) (upd H p (.dT []))
section
variable {X : Cx} {pos : Pos}
end
def tPairs : List (TE × TE) → St → Hp → (List (V × V) → Hp → Prop) → Prop
  | [], _, H, Q => Q [] H
  | (tk, tv) :: r, σ, H, Q => tk σ H fun x H1 => tv σ H1 fun y H2 => tPairs r σ H2 fun ps H3 => Q ((x, y) :: ps) H3
abbrev VV : List (V × V) → List (Value × Value) → Prop := Paired fun p q => RelV p.1 q.1 ∧ RelV p.2 q.2
def PPs (X : Cx) (pos : Pos) (keys : List (Option Expr)) (values : List Expr) (trs : List (TE × TE)) : Prop :=
  ∀ (pins : List (Addr × Obj)) (s : Shared) (σ : St) (H : Hp) (Q : List (V × V) → Hp → Prop), Inv X pins σ H s → tPairs trs σ H Q →
    wpAny (model X.prog X.w) X.A (evalPairs (pairTrees keys values X.env pos)) (fun vs s' => ∃ ps H', Inv X pins σ H' s' ∧ VV ps vs ∧ Q ps H') X.xe s
def mergeK (kvs more : List (Key × V)) : List (Key × V) := more.foldl (fun acc kv => putK acc kv.1 kv.2) kvs
def tDisp (trs : List (TE × TE)) : TE := fun σ H Q => ∀ p, H p = none → tPairs trs σ (upd H p (.dK [])) fun ps H2 => H2 p = some (.dK []) ∧ ∃ kvs : List (Key × V), ps = kvs.map (fun kv => (kV kv.1, kv.2)) ∧ kvs.length ≤ 15 ∧ Q (.ref p) (upd H2 p (.dK (mergeK [] kvs)))
structure M1 (X : Cx) (o : Expr) (m : Str) (apos : Pos) (e : Expr) (cpos : Pos) : Prop where
  base : attributeBase o m X.env (eval o X.env) = eval o X.env
  few : ((backTo cpos (starEach [e] X.env)).all (fun x => !x.1) && (backToKw cpos (keywordEach [] X.env)).all (fun x => x.1.isSome)
    && decide (([e] : List Expr).length + ([] : List Keyword).length + (if ([] : List Keyword).isEmpty then 0 else 1) < 30)) = true
  line : (apos.endLine == cpos.line) = true
  trees : backTo cpos (starEach [e] X.env) = [(false, eval e X.env)]
structure M2 (X : Cx) (o : Expr) (m : Str) (apos : Pos) (e f : Expr) (cpos : Pos) : Prop where
  base : attributeBase o m X.env (eval o X.env) = eval o X.env
  few : ((backTo cpos (starEach [e, f] X.env)).all (fun x => !x.1) && (backToKw cpos (keywordEach [] X.env)).all (fun x => x.1.isSome)
    && decide (([e, f] : List Expr).length + ([] : List Keyword).length + (if ([] : List Keyword).isEmpty then 0 else 1) < 30)) = true
  line : (apos.endLine == cpos.line) = true
  trees : backTo cpos (starEach [e, f] X.env) = [(false, eval e X.env), (false, eval f X.env)]
def IsD (H : Hp) (a : Addr) : Prop := (∃ kvs, Rd H a (.dK kvs)) ∨ ∃ kvs, Rd H a (.dT kvs)
section
variable {X : Cx} {pins : List (Addr × Obj)} {σ : St} {H : Hp} {s : Shared} {a : Addr} {y d : V} {u r : Value} {o : Option V} {A : Around} {E : Value → Shared → Prop}
end
def tDGet1 (td ty : TE) : TE := fun σ H Q => td σ H fun x H1 => ∃ a, x = .ref a ∧ IsD H1 a ∧ ty σ H1 fun y H2 => ∃ o, DGet H2 a y o ∧ Q (o.getD .non) H2
def tDGet2 (td ty tx : TE) : TE := fun σ H Q => td σ H fun x H1 => ∃ a, x = .ref a ∧ IsD H1 a ∧ ty σ H1 fun y H2 => tx σ H2 fun z H3 => ∃ o, DGet H3 a y o ∧ Q (o.getD z) H3
def tDPop1 (td ty : TE) : TE := fun σ H Q => td σ H fun x H1 => ∃ a, x = .ref a ∧ IsD H1 a ∧ ty σ H1 fun y H2 => ∃ kvs k v, H2 a = some (.dK kvs) ∧ y = kV k ∧ valV kvs k = some v ∧ Q v (upd H2 a (.dK (dropK kvs k)))
def tDPop2 (td ty tx : TE) : TE := fun σ H Q => td σ H fun x H1 => ∃ a, x = .ref a ∧ IsD H1 a ∧ ty σ H1 fun y H2 => tx σ H2 fun z H3 => ∃ kvs k, H3 a = some (.dK kvs) ∧ y = kV k ∧
  (∀ v, valV kvs k = some v → Q v (upd H3 a (.dK (dropK kvs k)))) ∧ (valV kvs k = none → Q z H3)
section
variable {X : Cx} {o e f : Expr} {apos cpos : Pos} {td ty tx : TE}
end
section
variable {X : Cx} {pins : List (Addr × Obj)} {σ : St} {H : Hp} {s : Shared} {a : Addr} {kvs : List (Key × V)} {A : Around} {E : Value → Shared → Prop}
theorem d_copyOf {Q : Value → Shared → Prop} (I : Inv X pins σ H s) (e : Rd H a (.dK kvs)) (h : ∀ p s', H p = none → Inv X pins σ (upd H p (.dK kvs)) s' → Q (.ref p) s') : wpAny (model X.prog X.w) A (call (.type "dict") [.ref a]) Q E s := by
  obtain ⟨z, hd, vs, rel, dd⟩ := dk_rd I.hok e
  refine kt_call_dict hd dd (by rw [← rel.length]; exact z) fun h' dd' hs => ?_
  refine h _ _ (I.hok.fresh (Nat.le_refl _)) (I.laid (a := s.heap.objs.size) (o := .dK kvs) (t' := s.toks) (fun b q hq => ?_) (Nat.le_refl _) (dk_new z (beq_eq_false_iff_ne.mpr (Ne.symm (Nat.ne_of_lt I.big))) rel dd'))
  exact (hs.2 b (Nat.ne_of_lt (Heap.lt_size hq))).trans (Heap.get?_push_of_some _ hq)
end
section
variable {X : Cx} {pins : List (Addr × Obj)} {σ : St} {H : Hp} {s : Shared} {a : Addr} {y : V} {u : Value} {A : Around} {E : Value → Shared → Prop}
end
end L2
namespace Att
open PySem PySem.W PySem.Calls PyProof.Rows
theorem ints_of_wellAll {P : Params} {h : Heap} : ∀ (ns : List Int) (vs : List Value), WellAll P h vs (ns.map WData.int) → IntsAre vs ns := by
  intro ns
  induction ns with
  | nil =>
    intro vs w
    rw [List.map_nil] at w
    cases w
    exact .nil
  | cons n ns ih =>
    intro vs w
    rw [List.map_cons] at w
    cases w with
    | cons a b =>
      cases a
      exact .cons _ _ (ih _ b)
theorem script_of {l : OpenLaw} {n : Nat} (hn : l.most = some n) {P : Params} {h : Heap} {args : List WData} {vals : List Value}
    (hpre : l.row.toRowW.claim.pre args = true) (hwl : WellAll P h vals args) :
    ∃ a vs ns, vals = [Value.ref a] ∧ args = [WData.list (ns.map WData.int)] ∧ h.get? a = some { cls := .type "list", data := .seq vs.toArray } ∧ IntsAre vs ns ∧ ns.length ≤ n := by
  have hsh : WShape.hasAll [] args [.list .int] = true := (pre_splitW hpre).1
  have hc : l.pre.holds [] { args := args } = true := (pre_splitW hpre).2
  obtain ⟨d, r, rfl, h1, h2⟩ := hasAllW_cons hsh
  obtain rfl := hasAllW_nil h2
  obtain ⟨xs, rfl, h3⟩ := hasW_list h1
  obtain ⟨ns, rfl⟩ := items_int h3
  have hlen : ns.length ≤ n := by
    unfold OpenLaw.pre at hc
    have h4 : (WTm.not (.lt (.lit (.int (n : Int))) (.len (.arg 0)))).holds [] { args := [.list (ns.map .int)] } = true := by
      have h4 := (holds_andW hc).1
      rw [hn] at h4
      exact h4
    have h5 := condW_of h4 (w_not (w_lt w_lit (w_len_list (w_arg rfl))))
    rw [List.length_map] at h5
    refine Nat.le_of_not_lt fun q => ?_
    have q' : (n : Int) < ((ns.length : Nat) : Int) := by omega
    first
      | (rw [decide_eq_true q'] at h5; exact absurd h5 (by decide))
      | (simp at h5; omega)
  cases hwl with
  | cons w1 w2 =>
    cases w2
    cases w1 with
    | list ho hall => exact ⟨_, _, ns, rfl, rfl, ho, ints_of_wellAll ns _ hall, hlen⟩
theorem post_true (l : OpenLaw) (args : List WData) : l.row.toRowW.claim.post args (.bool true) args = true :=
  postW_of (r := l.row.toRowW) (X := (true == true))
    (show WShape.has [] (.bool true) .bool = true by first | rfl | decide | simp [WShape.has, WShape.arms, WShape.armsAll])
    (show (WTm.eq .res (.lit (.bool true))).value [] { args := args, res := some (.bool true), after := args } = some (.bool (true == true)) from w_eq_bool (w_res rfl) w_lit) rfl
theorem attach_call {l : OpenLaw} {n : Nat} {q : Program} {loose : List Str} {XP : (Str → Option Value) → Heap → Prop} {YP : World → Heap → Prop} {d : DefRec}
    (hn : l.most = some n) (hdf : d.params.defaults = [])
    (call : ∀ (w : World) (s₀ s₁ : Shared) (mg mb : Str → Option Value) (fa : Addr) (o : Obj) (pm cd doc : Value) (a : Addr) (vs : List Value) (ns : List Int),
      Ground q loose [] XP w s₀ mg mb s₁.heap → YP w s₁.heap →
      s₁.heap.get? fa = some o → o.data = .func (docDef d.name d.params d.body d.scope pm cd doc) → s₁.heap.CodeRec cd d.name → mg d.name = some (.ref fa) →
      s₁.heap.get? a = some { cls := .type "list", data := .seq vs.toArray } → IntsAre vs ns → ns.length ≤ n → s₁.gens = #[] →
      codeAny (model l.prog w) callerA (.call (.ref fa) ⟨[.ref a], []⟩) (fun r s' => r = .ok (.ret (.bool true)) ∧ OldK s₁.heap s'.heap ∧ s'.os = s₁.os ∧ AllBare s'.gens) s₁) :
    WalkO q loose XP YP l.row.toRowW d [] (fun f vs => PySem.call f vs) := by
  intro w s₀ s₁ mg mb G Y fa o pm cd doc dV kV ho hd hcd hD hmg hg args vals as hpre hlay hrd hwl hlo
  obtain rfl : dV = .none := Dflts.none hD hdf
  obtain rfl : kV = .none := Dflts.noKw hD
  obtain ⟨a, vs, ns, rfl, rfl, hobj, hints, hlen⟩ := script_of hn hpre hwl
  refine enter_call (codeAny_mono (call w s₀ s₁ mg mb fa o pm cd doc a vs ns G Y ho (fd_plain hd) hcd hmg hobj hints hlen hg) fun r s' hq => ?_)
  obtain ⟨rfl, h2, h3, h4⟩ := hq
  exact ⟨.inl ⟨.bool true, .bool true, [], rfl, fun _ => rfl, .bool true, post_true l _, fun _ => ⟨List.Pairwise.nil, fun _ hm => (nomatch hm)⟩⟩, h2, h3, h4⟩
section
variable {prog : Program} {w : World} {A : Around} {E : Value → Shared → Prop} {s : Shared} {K : Frag}
def noObjs (h : Heap) : Heap := { h with objs := #[] }
def ledger (h : Heap) (L d : Addr) : List (Addr × Obj) := (List.range h.objs.size).filterMap fun a => if a = L ∨ a = d then none else (h.get? a).map fun o => (a, o)
end
end Att
namespace L2
open PySem PySem.Spec PyProof.Rows
theorem vals_ints : ∀ {vs : List Value} {ns : List Int}, IntsAre vs ns → Vals (ns.map V.int) vs
  | _, _, .nil => .nil
  | _, _, .cons n t h => .cons ⟨t, rfl⟩ (vals_ints h)
def Only (H : Hp) : Prop := ∀ b, H b = none ∨ ∃ o xs, H b = some (.frz o (.lst xs))
theorem law_call {P : Program} {w : World} {K : PySem.W.Frag} {mg mb : Str → Option Value} {CX : CXT} {k : Nat} {fa a : Addr} {fd : FuncData} {x : Str} {sp : Sp} {s₁ : Shared} {vs : List Value} {ns : List Int}
    (KX : K.In s₁.heap) (hns : s₁.heap.Ns mainGlobals mg) (hb : s₁.heap.Ns builtinsNs mb) (hbb : ∀ x : Str, x ≠ "__name__" → mb x = bootBuiltins x) (hlim : s₁.heap.NoLimit) (hg : s₁.gens = #[])
    (ha : s₁.heap.get? a = some { cls := .type "list", data := .seq vs.toArray }) (hi : IntsAre vs ns) (hl : ns.length ≤ sizeLine) (hr : Room k callerA)
    (F : ∀ base : Heap, K.In base → base.Ns mainGlobals mg → FnOk P w K mg base CX k fa fd [x] sp) (hbind : ∀ (s : Shared) (u : Value), BindsTo s fd ⟨[u], []⟩ [(x, u)])
    (hsp : ∀ H : Hp, Only H → SqL K H a (ns.map V.int) → sp [.ref a] H (fun v _ => v = .bl true) fun _ _ _ => False)
    (hCX : ∀ H e s', CX [] H s₁ (fun _ _ _ => False) e s' → False) :
    codeAny (model P w) callerA (.call (.ref fa) ⟨[.ref a], []⟩) (fun r s' => r = .ok (.ret (.bool true)) ∧ OldK s₁.heap s'.heap ∧ s'.os = s₁.os ∧ AllBare s'.gens) s₁ := by
  have rv := vals_ints hi
  have lenV := hi.length
  have core : ∀ H : Hp, Only H → SqL K H a (ns.map V.int) → HOk P w H s₁.heap → (∀ b, H b ≠ none → b = a) → (H a ≠ none → K.lookup a = none) →
      codeAny (model P w) callerA (.call (.ref fa) ⟨[.ref a], []⟩) (fun r s' => r = .ok (.ret (.bool true)) ∧ OldK s₁.heap s'.heap ∧ s'.os = s₁.os ∧ AllBare s'.gens) s₁ := by
    intro H hO hS hok hA hK
    have base_of : ∀ {b : Addr} {o : Obj}, s₁.heap.get? b = some o → H b = none → (hidT s₁.heap H).get? b = some o := fun e n => hidT_get e n
    have noA : ∀ {b : Addr} {o : Obj} {es : Array DictEntry} {ep : Nat}, s₁.heap.get? b = some o → o.data = .dict es ep → H b = none := fun {b o es ep} e d => by
      cases q : H b with
      | none => rfl
      | some u =>
        have e' : b = a := hA b (by rw [q]; simp)
        subst e'
        rw [ha] at e; cases e
        have d' : Data.seq vs.toArray _ = Data.dict es ep := d
        cases d'
    have nsK : ∀ {b : Addr} {m : Str → Option Value}, s₁.heap.Ns b m → (hidT s₁.heap H).Ns b m := fun {b m} ⟨o, es, ep, e, d, r⟩ => ⟨o, es, ep, base_of e (noA e d), d, r⟩
    have hKb : K.In (hidT s₁.heap H) := fun b o e => base_of (KX b o e) (by
      cases q : H b with
      | none => rfl
      | some u =>
        have e' : b = a := hA b (by rw [q]; simp)
        subst e'
        rw [hK (by rw [q]; simp)] at e; cases e)
    have hM : Mod K mg (hidT s₁.heap H) := ⟨hKb, nsK hns, ⟨mb, nsK hb, hbb⟩, let ⟨mc, h1, h2⟩ := hlim; ⟨mc, nsK h1, h2⟩⟩
    have e0 : Env0 P w K mg (hidT s₁.heap H) callerA [] s₁ H := ⟨rfl, hM, fun b o e => of_hidT e, Nat.le_of_eq (hidT_size _ _), trivial, fun b hb => absurd (show b ∈ ([] : List Addr) from hb) (by simp), hok, .of_eq hg⟩
    refine codeAny_mono ((F _ hKb (nsK hns)).run callerA [] s₁ H ⟨[.ref a], []⟩ [.ref a] [.ref a] _ _ hr e0 (hbind s₁ (.ref a)) (.cons rfl .nil) (hsp H hO hS)) fun r s' h => ?_
    cases r with
    | error e => exact (hCX H e s' h).elim
    | ok fl =>
      cases fl with
      | next => exact False.elim h
      | brk => exact False.elim h
      | cont => exact False.elim h
      | ret u =>
        obtain ⟨v, H', os, bare, un, hok', r', q⟩ := h
        have q' : v = .bl true := q
        subst q'
        obtain rfl : u = Value.bool true := r'
        refine ⟨rfl, OldK.of_keep fun b o e => ?_, os, bare⟩
        cases q : H b with
        | none => exact un.keep b o e q (by intro z; exact absurd (show b ∈ ([] : List Addr) from z) (by simp)) (by simp)
        | some u =>
          rcases hO b with z | ⟨ob, xs, z⟩
          · rw [q] at z; cases z
          · have z2 := un.frzs b ob _ z
            obtain ⟨e1, _⟩ := hok b _ z
            obtain ⟨e2, _⟩ := hok' b _ z2
            rw [e] at e1; cases e1
            exact e2
  cases hk : K.lookup a with
  | some o =>
    have e := KX a o hk
    rw [ha] at e
    cases e
    refine core (fun _ => none) (fun _ => .inl rfl) (.inr ⟨_, vs.toArray, _, hk, rfl, rfl, rfl, by rw [List.size_toArray, lenV]; exact hl, by simpa using rv⟩) (fun b u z => by have z' : (none : Option HO) = some u := z; cases z') (fun b z => absurd rfl z) fun z => absurd rfl z
  | none =>
    refine core (fun b => if b = a then some (.frz { cls := .type "list", data := .seq vs.toArray } (.lst (ns.map V.int))) else none) (fun b => ?_) (.inl (.inr ⟨{ cls := .type "list", data := .seq vs.toArray }, if_pos rfl⟩)) (fun b u z => ?_) (fun b z => ?_) fun _ => hk
    · by_cases hb : b = a
      · exact .inr ⟨_, _, if_pos hb⟩
      · exact .inl (if_neg hb)
    · by_cases hb : b = a
      · have z' := (if_pos hb).symm.trans z
        cases z'
        subst hb
        exact ⟨ha, by rw [List.length_map]; exact hl, vs, _, rv, ha⟩
      · have z' := (if_neg hb).symm.trans z
        cases z'
    · by_cases hb : b = a
      · exact hb
      · exact absurd (if_neg hb) z
end L2
namespace L2
open PySem PySem.Spec PyProof.Rows
abbrev KOf {K : PySem.W.Frag} {h : Heap} (_ : K.In h) : PySem.W.Frag := K
theorem walk_of {l : PySem.W.OpenLaw} {n k : Nat} {q : Program} {loose : List Str} {XP : (Str → Option Value) → Heap → Prop} {YP : World → Heap → Prop} {d : DefRec} {K : Params → PySem.W.Frag} {CX : World → CXT} {sp : World → Sp} {x : Str}
    (hn : l.most = some n) (hn2 : n ≤ sizeLine) (hdf : d.params.defaults = []) (hr : Room k callerA)
    (hY : ∀ (w : World) (h : Heap), YP w h → (K w.params).In h)
    (F : ∀ (w : World) (mg : Str → Option Value) (fa : Addr) (h : Heap), (K w.params).In h → h.Ns mainGlobals mg → mg d.name = some (.ref fa) →
      ∃ fd : FuncData, (∀ (s : Shared) (u : Value), BindsTo s fd ⟨[u], []⟩ [(x, u)]) ∧
        ∀ base : Heap, (K w.params).In base → base.Ns mainGlobals mg → FnOk l.prog w (K w.params) mg base (CX w) k fa fd [x] (sp w))
    (hsp : ∀ (w : World) (H : Hp) (a : Addr) (ns : List Int), ns.length ≤ n → Only H → SqL (K w.params) H a (ns.map V.int) → sp w [.ref a] H (fun v _ => v = .bl true) fun _ _ _ => False)
    (hCX : ∀ (w : World) (H : Hp) (s : Shared) (e : Value) (s' : Shared), CX w [] H s (fun _ _ _ => False) e s' → False) :
    PySem.W.WalkO q loose XP YP l.row.toRowW d [] (fun f vs => PySem.call f vs) := by
  refine Att.attach_call hn hdf fun w s₀ s₁ mg mb fa o pm cd doc a vs ns G Y ho hd hcd hmg hobj hints hlen hg => ?_
  have KX := hY w _ Y
  obtain ⟨fd, hb, hF⟩ := F w mg fa _ KX G.T.g hmg
  exact law_call KX G.T.g G.T.b G.T.builtins G.T.nolimit hg hobj hints (Nat.le_trans hlen hn2) hr hF hb (fun H hO hS => hsp w H a ns hlen hO hS) fun H e s' => hCX w H s₁ e s'
end L2
namespace L2
open PySem PySem.Spec PyProof.Rows
def inClass (s : Stmt) (j : Nat) : Stmt := match s with
  | .ClassDef _ _ _ body _ _ _ _ _ _ _ => body.getD j (.Pass ⟨0, 0, 0, 0⟩)
  | _ => .Pass ⟨0, 0, 0, 0⟩
def defArgs (s : Stmt) : Arguments := match s with
  | .FunctionDef _ a _ _ _ _ _ _ _ _ => a
  | _ => { posonlyargs := [], args := [], vararg := none, kwonlyargs := [], kw_defaults := [], kwarg := none, defaults := [] }
def defBody (s : Stmt) : List Stmt := match s with
  | .FunctionDef _ _ b _ _ _ _ _ _ _ => b
  | _ => []
def defScope (s : Stmt) : Scope := match s with
  | .FunctionDef _ _ _ _ _ _ sc _ _ _ => sc
  | _ => { kind := .function, names := [], isGenerator := false, isCoroutine := false }
abbrev CX0 : CXT := fun _ _ _ _ _ _ => False
abbrev E0 : XK := fun _ _ _ => False
theorem pass0 {X : Cx} : Passes CX0 X E0 := fun _ _ _ _ _ _ _ h => h.elim
structure Fun (K : PySem.W.Frag) (x qual : Str) (st : Stmt) (f : Addr) (fd : FuncData) : Prop where
  ex : ∃ (oc : Value) (od : Option Addr) (kV doc pm : Value) (an : Option Addr) (cdv ct : Value) (osl : Array (Option Value)),
    fd = PySem.W.fnOf x qual (defArgs st) (defBody st) (defScope st) .none kV doc pm an cdv ct ∧ K.lookup f = some ⟨oc, od, .func fd, osl⟩ ∧ PySem.W.codeIn K cdv qual = true
  kp : PySem.W.keepIn K (.ref f) = true
section
variable {P : Program} {w : World} {K : PySem.W.Frag} {mg : Str → Option Value} {base : Heap}
theorem Fun.ok {x qual : Str} {st : Stmt} {f : Addr} {fd : FuncData} {N ps : List Str} {k : Nat} {sp : Sp} (F : Fun K x qual st f fd) (S : FnScope N ps (defScope st)) (len : ∀ vs H Q E, sp vs H Q E → vs.length = ps.length)
    (hbody : ∀ (cdv : Value) (A : Around) (outer : List Env) (s : Shared) (H : Hp) (vs : List V) (Q : VK) (E : XK), Room k (A.deeper (envOfC qual (defScope st) s.heap.objs.size f cdv)) → sp vs H Q E →
      ∃ t, PSs (cxOf CX0 P w K mg base N qual (defScope st) f cdv A outer s H E).nox (defBody st) t ∧ t { nx := fun _ H' => Q .non H', rt := Q } (start N vs) H) : FnOk P w K mg base CX0 (k + 1) f fd ps sp := by
  obtain ⟨oc, od, kV, doc, pm, an, cdv, ct, osl, rfl, lk, hcd⟩ := F.ex
  refine fn_of lk hcd S len fun A outer s H vs Q E hr hsp => ?_
  obtain ⟨t, h, q⟩ := hbody cdv A outer s H vs Q E hr hsp
  exact ⟨t, h.nox, q⟩
theorem Fun.binds {x qual : Str} {st : Stmt} {f : Addr} {fd : FuncData} {ps : List Str} (F : Fun K x qual st f fd)
    (h : ∀ (kV doc pm : Value) (an : Option Addr) (cdv ct : Value) (us : List Value), us.length = ps.length → bindArgs (PySem.W.fnOf x qual (defArgs st) (defBody st) (defScope st) .none kV doc pm an cdv ct) ⟨us, []⟩ = pure (ps.zip us)) : Binds K fd ps [] := by
  obtain ⟨oc, od, kV, doc, pm, an, cdv, ct, osl, rfl, lk, hcd⟩ := F.ex
  exact .all (h kV doc pm an cdv ct)
theorem fun_mk {x qual : Str} {st : Stmt} {f : Addr} {oc : Value} {od an : Option Addr} {osl : Array (Option Value)} {kV doc pm cdv ct : Value} (l : K.lookup f = some ⟨oc, od, .func (PySem.W.fnOf x qual (defArgs st) (defBody st) (defScope st) .none kV doc pm an cdv ct), osl⟩)
    (c : PySem.W.codeIn K cdv qual = true) (k : PySem.W.keepIn K (.ref f) = true) : Fun K x qual st f (PySem.W.fnOf x qual (defArgs st) (defBody st) (defScope st) .none kV doc pm an cdv ct) := ⟨⟨oc, od, kV, doc, pm, an, cdv, ct, osl, rfl, l, c⟩, k⟩
end
theorem small1000 {n : Nat} (h : n ≤ 1000) : n < sizeLine := Nat.lt_of_le_of_lt h (by decide)
section
variable {X : Cx}
end
theorem iteT {A B : Prop} (h : A) : if true = true then A else B := by
  rw [if_pos rfl]
  exact h
theorem ite2 {c A B : Prop} [Decidable c] (h1 : c → A) (h2 : ¬ c → B) : if c then A else B := by
  by_cases h : c
  · rw [if_pos h]
    exact h1 h
  · rw [if_neg h]
    exact h2 h
def Same (H H' : Hp) : Prop := ∀ b o, H b = some o → H' b = some o
theorem Same.refl (H : Hp) : Same H H := fun _ _ h => h
theorem Same.trans {H H1 H2 : Hp} (a : Same H H1) (b : Same H1 H2) : Same H H2 := fun c o h => b c o (a c o h)
theorem Same.free {H H' : Hp} (e : Same H H') {l : Addr} (h : H' l = Option.none) : H l = Option.none := by
  cases q : H l with
  | none => rfl
  | some o =>
    rw [e l o q] at h
    cases h
theorem Same.seq {K : PySem.W.Frag} {H H' : Hp} {a : Addr} {xs : List V} (e : Same H H') (h : SqL K H a xs) : SqL K H' a xs := by
  rcases h with (h | ⟨o, h⟩) | h
  · exact .inl (.inl (e _ _ h))
  · exact .inl (.inr ⟨o, e _ _ h⟩)
  · exact .inr h
section
variable {X : Cx}
theorem call_lenD : CallR X (.builtin "len") (fun xs H Q => ∃ a kvs, xs = [V.ref a] ∧ H a = some (.dK kvs) ∧ Q (.int kvs.length) H) := by
  intro pins s σ H xs us Q I r h
  obtain ⟨a, kvs, rfl, ha, q⟩ := h
  obtain ⟨u, rfl, ru⟩ := vals1 r
  cases ru
  exact d_len I (.inl ha) fun t s' I' => ⟨.int kvs.length, H, I', ⟨t, rfl⟩, q⟩
end
section
variable {κ : Type} [DecidableEq κ]
end
end L2
set_option Elab.async false
set_option linter.all false
set_option maxRecDepth 100000
namespace L2
open PySem PySem.Spec PyProof.Rows
section
variable {X : Cx}
def CDv (_ j : Int) : Prop := 0 < j ∧ j < 10 ^ 100
theorem op_fdivP : OpR X (binaryOp .FloorDiv) (rI CDv fun i j => .int (i / j)) := opI fun i j _ _ _ _ _ hc q => by
  have h0 : 0 < j := hc.1
  have h1 : j < 10 ^ 100 := hc.2
  refine floordiv_int (by omega) ?_ (.inl (PyProof.noPylong_of_log2 ?_))
  · rw [Int.fdiv_eq_ediv_of_nonneg _ (by omega)]
    exact q
  · have h2 : j.natAbs < 10 ^ 100 := by omega
    have h3 : (10 : Nat) ^ 100 ≤ 2 ^ 9000 := by decide +kernel
    exact (Nat.log2_lt (by omega)).mpr (Nat.lt_of_lt_of_le h2 h3)
end
structure Callee (P : Program) (w : World) (K : PySem.W.Frag) (mg : Str → Option Value) (base : Heap) (x : Str) (k : Nat) (ps : List Str) (sp : Sp) : Prop where
  ex : ∃ (f : Addr) (fd : FuncData), FnOk P w K mg base CX0 k f fd ps sp ∧ Binds K fd ps [] ∧ PySem.W.keepIn K (.ref f) = true ∧ mg x = some (.ref f)
section
variable {X : Cx} {x : Str} {k : Nat} {ps : List Str} {sp : Sp} {e : Expr} {es : List Expr} {t : TA} {p pos : Pos}
theorem pe_callF (C : Callee X.prog X.w X.K X.mg X.base x k ps sp) (hr : Room k X.A) (hg : Gl X x) (ha : PA X (e :: es) t)
    (hdb : (x == ("__debug__" : Str)) = false := by decide) (he : starEach (e :: es) X.env = (false, eval e X.env) :: starEach es X.env := by rfl) (hpl : (backTo pos (starEach es X.env)).any (·.1) = false := by rfl) :
    PE X (.Call (.Name x p) (e :: es) [] pos) (tCall sp [] E0 t) := by
  intro pins s σ H Q I h
  obtain ⟨f, fd, F, b, kp, m⟩ := C.ex
  have G : FnOk X.prog X.w X.K X.mg X.base (fun _ _ _ _ _ _ => False) k f fd ps sp := F
  exact pe_call F hr hg m kp b .nil pass0 ha hdb he hpl pins s σ H Q I h
end
end L2
namespace L2
open PySem PySem.Spec PyProof.Rows
def tCut (t u : TS) : TS := fun D σ H => ∃ J : St → Hp → Prop, t { D with nx := J } σ H ∧ ∀ σ1 H1, J σ1 H1 → u D σ1 H1
section
variable {X : Cx} {st : Stmt} {rest : List Stmt} {t u : TS}
theorem pss_cut (h1 : PS X st t) (h2 : PSs X rest u) : PSs X (st :: rest) (tCut t u) := by
  intro pins s σ H D I h
  obtain ⟨J, h, hJ⟩ := h
  refine wpAny_execs_cons (thn (h1 pins s σ H { D with nx := J } I h) fun f s1 q => ?_)
  cases f with
  | next =>
    obtain ⟨σ', H', I', q⟩ := q
    exact h2 pins s1 σ' H' D I' (hJ _ _ q)
  | ret v => exact q
  | brk => exact q
  | cont => exact q
end
section
variable {α : Type} {a b c d : α} {r : List α}
theorem atI_0 : atI (a :: r) 0 = some a := atI_nat (j := 0) rfl
theorem atI_1 : atI (a :: b :: r) 1 = some b := atI_nat (j := 1) rfl
theorem atI_2 : atI (a :: b :: c :: r) 2 = some c := atI_nat (j := 2) rfl
theorem atI_3 : atI (a :: b :: c :: d :: r) 3 = some d := atI_nat (j := 3) rfl
end
def seqAt (H : Hp) (p : Addr) : Option (List V) := match H p with
  | some (.lst xs) => some xs
  | some (.tup xs) => some xs
  | some (.frz _ (.lst xs)) => some xs
  | _ => none
theorem seqAt_lst {H : Hp} {p : Addr} {xs : List V} (h : H p = some (.lst xs)) : seqAt H p = some xs := by unfold seqAt; rw [h]
theorem seqAt_tup {H : Hp} {p : Addr} {xs : List V} (h : H p = some (.tup xs)) : seqAt H p = some xs := by unfold seqAt; rw [h]
section
variable {X : Cx}
def rIxF : R2 := fun x y H Q => ∃ p i xs v, x = .ref p ∧ y = .int i ∧ seqAt H p = some xs ∧ atI xs i = some v ∧ Q v H
theorem call_intB : CallR X (.type "int") (fun xs H Q => ∃ k, xs = [.bl k] ∧ Q (.int (if k = true then 1 else 0)) H) := by
  intro pins s σ H xs us Q I r h
  obtain ⟨k, rfl, q⟩ := h
  exact call_int1 pins s σ H _ us Q I r (.inr ⟨k, rfl, q⟩)
end
end L2
namespace L2
open PySem PySem.Spec PyProof.Rows
theorem bt_len : bootBuiltins "len" = some (.builtin "len") := by decide +kernel
theorem bt_isinstance : bootBuiltins "isinstance" = some (.builtin "isinstance") := by decide +kernel
theorem bt_max : bootBuiltins "max" = some (.builtin "max") := by decide +kernel
theorem bt_min : bootBuiltins "min" = some (.builtin "min") := by decide +kernel
theorem bt_all : bootBuiltins "all" = some (.builtin "all") := by decide +kernel
theorem bt_int : bootBuiltins "int" = some (.type "int") := by decide +kernel
theorem bt_bool : bootBuiltins "bool" = some (.type "bool") := by decide +kernel
theorem bt_str : bootBuiltins "str" = some (.type "str") := by decide +kernel
theorem bt_list : bootBuiltins "list" = some (.type "list") := by decide +kernel
theorem bt_tuple : bootBuiltins "tuple" = some (.type "tuple") := by decide +kernel
theorem bt_dict : bootBuiltins "dict" = some (.type "dict") := by decide +kernel
theorem bt_zip : bootBuiltins "zip" = some (.type "zip") := by decide +kernel
end L2
namespace L2
open PySem PySem.Spec PyProof.Rows
theorem cxK {CX : CXT} {P : Program} {w : World} {K : PySem.W.Frag} {mg : Str → Option Value} {base : Heap} {N : List Str} {qual : Str} {scope : Scope} {f : Addr} {cd : Value} {A : Around} {outer : List Env} {s : Shared} {H : Hp} {E : XK} :
    (cxOf CX P w K mg base N qual scope f cd A outer s H E).K = K := rfl
end L2
namespace L2
open PySem PySem.Spec PyProof.Rows
theorem ixN_10 : ixN 1 0 = some 0 := rfl
theorem ixN_20 : ixN 2 0 = some 0 := rfl
theorem ixN_21 : ixN 2 1 = some 1 := rfl
theorem ixN_30 : ixN 3 0 = some 0 := rfl
theorem ixN_31 : ixN 3 1 = some 1 := rfl
theorem ixN_32 : ixN 3 2 = some 2 := rfl
theorem seqAt_updL {H : Hp} {p : Addr} {xs : List V} : seqAt (upd H p (.lst xs)) p = some xs := seqAt_lst upd_same
theorem seqAt_updT {H : Hp} {p : Addr} {xs : List V} : seqAt (upd H p (.tup xs)) p = some xs := seqAt_tup upd_same
theorem atI_in {α : Type} {xs : List α} {k : Int} (h0 : 0 ≤ k) (h1 : k < (xs.length : Int)) : ∃ v, atI xs k = some v ∧ v ∈ xs := by
  have hk : k.toNat < xs.length := by omega
  have e : k = ((k.toNat : Nat) : Int) := by omega
  have q : atI xs ((k.toNat : Nat) : Int) = some xs[k.toNat] := atI_nat (List.getElem?_eq_getElem hk)
  rw [← e] at q
  exact ⟨_, q, List.getElem_mem hk⟩
theorem small_le {n : Nat} (h : n ≤ 1000) : n ≤ sizeLine := Nat.le_of_lt (small1000 h)
end L2
namespace L2
open PySem PySem.Spec PyProof.Rows
structure Shut (Q : VK) : Type where
  n : Nat
def Cal (sp : Sp) (vs : List V) (H : Hp) (Q : VK) (_ : Shut Q) (E : XK) : Prop := sp vs H Q E
theorem tCallC {sp : Sp} {dvs : List V} {E : XK} {t : TA} {σ : St} {H : Hp} {Q : VK} : tCall sp dvs E t σ H Q = t σ H (fun vs H1 => Cal sp (vs ++ dvs) H1 Q ⟨0⟩ E) := rfl
section
variable {X : Cx} {pos p1 p2 : Pos} {j1 j2 : Nat}
theorem pe_powc {a b : Int} (v : Int) (h : decide (0 ≤ b ∧ b ≤ 1000000 ∧ a.natAbs < 2 ^ 64 ∧ a ^ b.toNat = v) = true := by decide +kernel) : PE X (.BinOp (.Constant (.int a) j1 p1) .Pow (.Constant (.int b) j2 p2) pos) (tC (.int v)) := by
  intro pins s σ H Q I q
  obtain ⟨h1, h2, h3, h4⟩ := of_decide_eq_true h
  refine pe_op op_pow pe_int pe_int pins s σ H Q I ⟨a, b, rfl, rfl, ⟨h1, h2, h3⟩, ?_⟩
  show Q (V.int (a ^ b.toNat)) H
  rw [h4]
  exact q
end
end L2
namespace L2
open PySem PySem.Spec PyProof.Rows
theorem upd_none {H : Hp} {a b : Addr} {o : HO} : upd H a o b = none ↔ b ≠ a ∧ H b = none := by
  unfold upd
  by_cases h : b = a
  · simp [h]
  · simp [h]
end L2
namespace L2
open PySem PySem.Spec PyProof.Rows
def Loop (J : It) (g : TG) (tb : TS) (D : Ends) (σ : St) (H : Hp) : Prop := ∃ W : Nat → Nat → St → Hp → Prop, (∃ m, W 0 m σ H) ∧ ∀ i m σ H, W i m σ H →
  (J.stop i H ∧ D.nx σ H) ∨ (J.go i H ∧ ∃ N : St → Hp → Prop, (∀ σ' H', N σ' H' → ∃ m', m' < m ∧ W (i + 1) m' σ' H') ∧ ∀ x H', J.yld i H x H' → g x σ H' fun σ2 H2 => tb { D with nx := N, ct := N, bk := D.nx } σ2 H2)
section
variable {K : PySem.W.Frag} {ta : TA} {tl : TE} {g : TG} {tb : TS} {D : Ends} {σ : St} {H : Hp} {a : Addr} {xs : List V} {lo : Int} {n : Nat}
theorem tFor_rng1 : tFor (iRng1 ta) g tb D σ H = ta σ H (fun vs H1 => ∃ j : Int, vs = [.int j] ∧ -(2 ^ 62) ≤ j ∧ j < 2 ^ 62 ∧ Loop (Itr 0 j.toNat) g tb D σ H1) := rfl
theorem tFor_rng2 : tFor (iRng2 ta) g tb D σ H = ta σ H (fun vs H1 => ∃ i j : Int, vs = [.int i, .int j] ∧ (-(2 ^ 62) ≤ i ∧ i < 2 ^ 62 ∧ -(2 ^ 62) ≤ j ∧ j < 2 ^ 62) ∧ Loop (Itr i (j - i).toNat) g tb D σ H1) := rfl
theorem tFor_list : tFor (iList K tl) g tb D σ H = tl σ H (fun x H1 => ∃ a, x = .ref a ∧ (∃ xs, SqL K H1 a xs) ∧ Loop (Itl K a) g tb D σ H1) := rfl
theorem tFor_tup : tFor (iTup K tl) g tb D σ H = tl σ H (fun x H1 => ∃ a, x = .ref a ∧ (∃ xs, SqT K H1 a xs) ∧ Loop (Itt K a) g tb D σ H1) := rfl
theorem loop_range (Pv : Nat → St → Hp → Prop) (h0 : Pv 0 σ H)
    (hs : ∀ i σ H, i < n → Pv i σ H → g (.int (lo + i)) σ H fun σ2 H2 => tb { D with nx := Pv (i + 1), ct := Pv (i + 1), bk := D.nx } σ2 H2) (hd : ∀ σ H, Pv n σ H → D.nx σ H) : Loop (Itr lo n) g tb D σ H := for_range Pv h0 hs hd
theorem loop_list (Pv : Nat → St → Hp → Prop) (h0 : Pv 0 σ H) (hl : ∀ i σ H, i ≤ xs.length → Pv i σ H → SqL K H a xs)
    (hs : ∀ i x σ H, xs[i]? = some x → Pv i σ H → g x σ H fun σ2 H2 => tb { D with nx := Pv (i + 1), ct := Pv (i + 1), bk := D.nx } σ2 H2) (hd : ∀ σ H, Pv xs.length σ H → D.nx σ H) : Loop (Itl K a) g tb D σ H := for_list Pv h0 hl hs hd
end
end L2
set_option Elab.async false
set_option linter.all false
set_option maxRecDepth 100000
namespace L2
open PySem PySem.Spec PyProof.Rows
structure JE (X : Cx) (e : Expr) (t : TE) : Prop where h : PE X e t
structure JT (X : Cx) (e : Expr) (t : TT) : Prop where h : PT X e t
structure JW (X : Cx) (e : Expr) (t : TT) : Prop where h : PW X e t
structure JA (X : Cx) (es : List Expr) (t : TA) : Prop where h : PA X es t
structure JS (X : Cx) (st : Stmt) (t : TS) : Prop where h : PS X st t
structure JB (X : Cx) (st : List Stmt) (t : TS) : Prop where h : PSs X st t
structure JG (X : Cx) (e : Expr) (t : TG) : Prop where h : PG X e t
structure JGs (X : Cx) (es : List Expr) (t : TGs) : Prop where h : PGs X es t
structure JI (X : Cx) (tg e : Expr) (t : TI) : Prop where h : PI X tg e t
structure JO (X : Cx) (e : Option Expr) (t : TO) : Prop where h : PO X e t
section
variable {X : Cx} {a b c e o : Expr} {es rest : List Expr} {ta tb tc te to : TE} {t tl : TA} {tA tB' : TT} {pos p p' : Pos} {st : Stmt} {sts sts' : List Stmt} {u v : TS}
theorem ev (i : Nat) {x : Str} (hN : X.N[i]? = some x := by rfl) (hv : Vis X.env.scope x := by first | exact Or.inl rfl | exact Or.inr (Or.inl rfl) | exact Or.inr (Or.inr rfl)) (hd : (x == ("__debug__" : Str)) = false := by decide)
    (hcd : (x == ("__classdict__" : Str)) = false := by decide) : JE X (.Name x pos) (tVar i) := ⟨pe_var hN hv hd hcd⟩
theorem ei {i j} : JE X (.Constant (.int i) j pos) (tC (.int i)) := ⟨pe_int⟩
theorem ebl {b j} : JE X (.Constant (.bool b) j pos) (tC (.bl b)) := ⟨pe_bl⟩
theorem enon {j} : JE X (.Constant .none j pos) (tC .non) := ⟨pe_non⟩
theorem estr {x j} : JE X (.Constant (.str x) j pos) (tC (.str x)) := ⟨pe_str⟩
theorem eglob {x : Str} {v : V} {u : Value} (hg : Gl X x) (hm : X.mg x = some u) (r : RelV v u) (hd : (x == ("__debug__" : Str)) = false := by decide) : JE X (.Name x pos) (tC v) := ⟨pe_glob hg hm r hd⟩
theorem etyp {x : Str} {n : String} (hg : Gl X x) (hm : X.mg x = none) (hv : bootBuiltins x = some (.type n)) (hn : x ≠ "__name__" := by decide) (hd : (x == ("__debug__" : Str)) = false := by decide) : JE X (.Name x pos) (tC (.ty n)) := ⟨pe_bltn hg hm hv rfl hn hd⟩
theorem eop {op : Operator} {r : R2} (ho : OpR X (binaryOp op) r) (ha : JE X a ta) (hb : JE X b tb) : JE X (.BinOp a op b pos) (tOp r ta tb) := ⟨pe_op ho ha.h hb.h⟩
theorem epowc {a b : Int} {j1 j2 : Nat} {p1 p2 : Pos} (v : Int) (h : decide (0 ≤ b ∧ b ≤ 1000000 ∧ a.natAbs < 2 ^ 64 ∧ a ^ b.toNat = v) = true := by decide +kernel) : JE X (.BinOp (.Constant (.int a) j1 p1) .Pow (.Constant (.int b) j2 p2) pos) (tC (.int v)) := ⟨pe_powc v h⟩
theorem eun {op : UnaryOp} {r : V → Hp → VK → Prop} (ho : UnR X (unaryOp op) r) (ha : JE X a ta) : JE X (.UnaryOp op a pos) (tUn r ta) := ⟨pe_un ho ha.h⟩
theorem enot (ha : JE X a ta) : JE X (.UnaryOp .Not a pos) (tNotV ta) := ⟨pe_not ha.h⟩
theorem eone {op} (h : JE X a ta) : JE X (.BoolOp op [a] pos) ta := ⟨pe_one h.h⟩
theorem eand (ha : JE X a ta) (hb : JE X (.BoolOp .And (b :: rest) pos) tb) : JE X (.BoolOp .And (a :: b :: rest) pos) (tAndV ta tb) := ⟨pe_and ha.h hb.h⟩
theorem eif (hc : JT X c tA) (ha : JE X a ta) (hb : JE X b tb) : JE X (.IfExp c a b pos) (tIf tA ta tb) := ⟨pe_ifExp hc.h ha.h hb.h⟩
theorem ecmp {op : CmpOp} {r : R2} (ho : OpR X (compareOp op) r) (ha : JE X a ta) (hb : JE X b tb) (hm : behindInMarks op b = false) : JE X (.Compare a [op] [b] pos) (tOp r ta tb) := ⟨pe_cmpR ho ha.h hb.h hm⟩
theorem eix {r : R2} (hr : IxR X r) (ha : JE X a ta) (hb : JE X b tb) (hs : PlainIx b) : JE X (.Subscript a b pos) (tOp r ta tb) := ⟨pe_ix hr ha.h hb.h hs⟩
theorem eslice {r : V → Option Int → Option Int → Hp → VK → Prop} {lo hi : Option Expr} {tl th : TO} (hr : SlR X r) (he : JE X e te) (hl : JO X lo tl) (hu : JO X hi th) : JE X (.Subscript e (.Slice lo hi none p) pos) (tSl r te tl th) := ⟨pe_slice hr he.h hl.h hu.h⟩
theorem ecall {x : Str} {k : Nat} {ps : List Str} {sp : Sp} (C : Callee X.prog X.w X.K X.mg X.base x k ps sp) (hr : Room k X.A) (hg : Gl X x) (ha : JA X (e :: es) t)
    (hdb : (x == ("__debug__" : Str)) = false := by decide) (he : starEach (e :: es) X.env = (false, eval e X.env) :: starEach es X.env := by rfl) (hpl : (backTo pos (starEach es X.env)).any (·.1) = false := by rfl) :
    JE X (.Call (.Name x p) (e :: es) [] pos) (tCall sp [] E0 t) := ⟨pe_callF C hr hg ha.h hdb he hpl⟩
theorem ecallB {x : Str} {id : String} {r : List V → Hp → VK → Prop} (hc : CallR X (.builtin id) r) (hg : Gl X x) (hm : X.mg x = none) (hv : bootBuiltins x = some (.builtin id)) (ha : JA X (e :: es) t) (hn : x ≠ "__name__" := by decide) (hdb : (x == ("__debug__" : Str)) = false := by decide)
    (he : starEach (e :: es) X.env = (false, eval e X.env) :: starEach es X.env := by rfl) (hpl : (backTo pos (starEach es X.env)).any (·.1) = false := by rfl) : JE X (.Call (.Name x p) (e :: es) [] pos) (tCB r t) := ⟨pe_callB hc hg hm hv ha.h hn hdb he hpl⟩
theorem ecallTy {x : Str} {T : String} {r : List V → Hp → VK → Prop} (hc : CallR X (.type T) r) (hg : Gl X x) (hm : X.mg x = none) (hv : bootBuiltins x = some (.type T)) (ha : JA X (e :: es) t) (hn : x ≠ "__name__" := by decide) (hdb : (x == ("__debug__" : Str)) = false := by decide)
    (he : starEach (e :: es) X.env = (false, eval e X.env) :: starEach es X.env := by rfl) (hpl : (backTo pos (starEach es X.env)).any (·.1) = false := by rfl) : JE X (.Call (.Name x p) (e :: es) [] pos) (tCB r t) := ⟨pe_callTy hc hg hm hv ha.h hn hdb he hpl⟩
theorem ebm0 {T id : String} {name : Str} {r : V → List V → Hp → VK → Prop} {apos cpos : Pos} (pa : PlainAttrs T) (slot : Slot T name id) (hty : typeOf (.builtin id) = pure (.type "method_descriptor")) (hm : MtR X id r) (ho : JE X o to)
    (hbase : attributeBase o name X.env (eval o X.env) = eval o X.env := by rfl) (hline : (apos.endLine == cpos.line) = true := by rfl) : JE X (.Call (.Attribute o name apos) [] [] cpos) (tBM0 X.K T r to) := ⟨pe_bm0 pa slot hty hm ho.h hbase hline⟩
theorem ebm {T id : String} {name : Str} {r : V → List V → Hp → VK → Prop} {apos cpos : Pos} (pa : PlainAttrs T) (slot : Slot T name id) (hty : typeOf (.builtin id) = pure (.type "method_descriptor")) (hm : MtR X id r) (ho : JE X o to) (ha : JA X (e :: es) t)
    (hbase : attributeBase o name X.env (eval o X.env) = eval o X.env := by rfl)
    (hfew : ((backTo cpos (starEach (e :: es) X.env)).all (fun x => !x.1) && (backToKw cpos (keywordEach [] X.env)).all (fun x => x.1.isSome)
      && decide ((e :: es).length + ([] : List Keyword).length + (if ([] : List Keyword).isEmpty then 0 else 1) < 30)) = true := by rfl)
    (hline : (apos.endLine == cpos.line) = true := by rfl) (hs : starEach (e :: es) X.env = (false, eval e X.env) :: starEach es X.env := by rfl) (hplain : (backTo cpos (starEach es X.env)).any (·.1) = false := by rfl) :
    JE X (.Call (.Attribute o name apos) (e :: es) [] cpos) (tBM X.K T r to t) := ⟨pe_bm pa slot hty hm ho.h ha.h hbase hfew hline hs hplain⟩
theorem anil : JA X [] tNil := ⟨pa_nil⟩
theorem acons (ha : JE X e te) (hr : JA X es t) (hs : starEach (e :: es) X.env = (false, eval e X.env) :: starEach es X.env := by rfl) : JA X (e :: es) (tCons te t) := ⟨pa_cons ha.h hr.h hs⟩
theorem tcmp {op : CmpOp} {r : R2} (ho : OpR X (compareOp op) r) (ha : JE X a ta) (hb : JE X b tb) (hm : behindInMarks op b = false) : JT X (.Compare a [op] [b] pos) (tTest (tOp r ta tb)) := ⟨pt_cmpR ho ha.h hb.h hm⟩
theorem tval (h : JE X e te) (he : ∀ whole, isTrue e X.env whole = (do let v ← whole; standAt e.pos; holding [v] (truthy v)) := by intro _; rfl) : JT X e (tB te) := ⟨pt_val h.h he⟩
theorem ttruth (ha : JE X a ta) (he : ∀ whole, isTrue a X.env whole = (do let v ← whole; standAt a.pos; holding [v] (truthy v))) :
    JT X a (fun σ H Q => ta σ H fun x H' => ∃ k, TruV X.K x H' k ∧ Q k H') := ⟨pt_truth ha.h he⟩
theorem tnot (ha : JT X a tA) : JT X (.UnaryOp .Not a pos) (tNot tA) := ⟨pt_not ha.h⟩
theorem tw (h : JW X e tA) : JT X e tA := ⟨PW.pt h.h⟩
theorem wand1 (ha : JT X a tA) : JW X (.BoolOp .And [a] pos) tA := ⟨pw_and1 ha.h⟩
theorem wor1 (ha : JT X a tA) : JW X (.BoolOp .Or [a] pos) tA := ⟨pw_or1 ha.h⟩
theorem wand (ha : JT X a tA) (hb : JW X (.BoolOp .And (b :: rest) pos) tB') : JW X (.BoolOp .And (a :: b :: rest) pos) (tAnd tA tB') := ⟨pw_and ha.h hb.h⟩
theorem wor (ha : JT X a tA) (hb : JW X (.BoolOp .Or (b :: rest) pos) tB') : JW X (.BoolOp .Or (a :: b :: rest) pos) (tOr tA tB') := ⟨pw_or ha.h hb.h⟩
theorem bnil : JB X [] tNext := ⟨pss_nil⟩
theorem bcons (h1 : JS X st u) (h2 : JB X sts v) : JB X (st :: sts) (tSeq u v) := ⟨pss_cons h1.h h2.h⟩
theorem bone (h1 : JS X st u) : JB X [st] u := ⟨pss_one h1.h⟩
theorem bcut (h1 : JS X st u) (h2 : JB X sts v) : JB X (st :: sts) (tCut u v) := ⟨pss_cut h1.h h2.h⟩
theorem sexpr (he : JE X e te) (hs : swapsWith e none pos.line X.env = pure false := by rfl) : JS X (.Expr e pos) (tDrop te) := ⟨ps_expr he.h hs⟩
theorem sret (he : JE X e te) : JS X (.Return (some e) pos) (tRet te) := ⟨ps_ret he.h⟩
theorem sif (hc : JT X c tA) (ha : JB X sts u) (hb : JB X sts' v) : JS X (.If c sts sts' pos) (tIfS tA u v) := ⟨ps_if hc.h ha.h hb.h⟩
theorem sset {i : Nat} {x : Str} (hN : X.N.Nodup) (hi : X.N[i]? = some x) (hx : Loc X.env.scope x) (he : JE X e te) (hs : swapsWith e (some (.Name x p)) pos.line X.env = pure false := by rfl) (hf : X.fn x = true ∨ X.env.scope.names.lookup x = some .local := by first | exact .inl rfl | exact .inr rfl | assumption) :
    JS X (.Assign [.Name x p] e pos) (tAsg te (gName i)) := ⟨ps_set hN hi hx he.h hs hf⟩
theorem sasg {tg : Expr} {g : TG} (he : JE X e te) (hg : JG X tg g) (hs : swapsWithSole [tg] e pos.line X.env = pure false := by rfl) (hw : swappedStores [tg] e X.env = pure none := by rfl)
    (h1 : (assignEach [tg] X.env).map (·.2) = [assign tg X.env] := by rfl) : JS X (.Assign [tg] e pos) (tAsg te g) := ⟨ps_asg he.h hg.h hs hw h1⟩
theorem sfor {tg iter : Expr} {wi : TI} {g : TG} (hp : PassesOwn (model X.prog X.w) X.A X.env X.xe) (hc : X.calm = true) (hi : JI X tg iter wi) (hg : JG X tg g) (hb : JB X sts u)
    (hs : ∀ x, foldedSetIterable iter X.env x = pure x := by intro _; rfl) : JS X (.For tg iter sts [] pos) (tFor wi g u) := ⟨ps_for hp hc hi.h hg.h hb.h hs⟩
theorem gname {i : Nat} {x : Str} (hN : X.N.Nodup) (hi : X.N[i]? = some x) (hx : Loc X.env.scope x) (hf : X.fn x = true ∨ X.env.scope.names.lookup x = some .local := by first | exact .inl rfl | exact .inr rfl | assumption) : JG X (.Name x pos) (gName i) := ⟨pg_name hN hi hx hf⟩
theorem gsub {i : Expr} {ti : TE} {t : TSet} (ho : JE X o to) (hi : JE X i ti) (hs : PSet X t)
    (ha : ∀ v, assign (.Subscript o i pos) X.env v = (do
      let ov ← holding [v] (eval o X.env)
      let iv ← holding [v, ov] (eval i X.env)
      standAt pos
      holding [v, ov, iv] (setItem ov iv v)
      release [v, ov, iv] []) := by intro _; rfl) : JG X (.Subscript o i pos) (gSub to ti t) := ⟨pg_sub ho.h hi.h hs ha⟩
theorem gnil : JGs X [] gNil := ⟨pgs_nil⟩
theorem gcons {t : TG} {u : TGs} (h1 : JG X e t) (h2 : JGs X es u) (hs : (assignEach (e :: es) X.env).map (·.2) = assign e X.env :: (assignEach es X.env).map (·.2) := by rfl) : JGs X (e :: es) (gCons t u) := ⟨pgs_cons h1.h h2.h hs⟩
theorem irange1 {tg : Expr} (hg : Gl X "range") (hm : X.mg "range" = none) (ha : JA X [a] t) (hs : starEach [a] X.env = [(false, eval a X.env)] := by rfl) : JI X tg (.Call (.Name "range" p) [a] [] pos) (iRng1 t) := ⟨pi_range1 hg hm ha.h hs⟩
theorem ilist {tg l : Expr} (hl : JE X l te) : JI X tg l (iList X.K te) := ⟨pi_list hl.h⟩
theorem itup {tg l : Expr} (hl : JE X l te) : JI X tg l (iTup X.K te) := ⟨pi_tup hl.h⟩
theorem onone : JO X none tNoPart := ⟨po_none⟩
theorem osome (h : JE X e te) : JO X (some e) (tPart te) := ⟨po_some h.h⟩
end
section
variable {P : Program} {w : World} {K : PySem.W.Frag} {mg : Str → Option Value} {base : Heap}
theorem Fun.okJ {x qual : Str} {st : Stmt} {f : Addr} {fd : FuncData} {N ps : List Str} {k : Nat} {sp : Sp} (F : Fun K x qual st f fd) (S : FnScope N ps (defScope st)) (len : ∀ vs H Q E, sp vs H Q E → vs.length = ps.length)
    (hbody : ∀ (cdv : Value) (A : Around) (outer : List Env) (s : Shared) (H : Hp) (vs : List V) (Q : VK) (E : XK), Room k (A.deeper (envOfC qual (defScope st) s.heap.objs.size f cdv)) → sp vs H Q E →
      ∃ t, JB (cxOf CX0 P w K mg base N qual (defScope st) f cdv A outer s H E).nox (defBody st) t ∧ t { nx := fun _ H' => Q .non H', rt := Q } (start N vs) H) : FnOk P w K mg base CX0 (k + 1) f fd ps sp :=
  F.ok S len fun cdv A outer s H vs Q E hr h => let ⟨t, a, b⟩ := hbody cdv A outer s H vs Q E hr h; ⟨t, a.h, b⟩
end
end L2
set_option Elab.async false
set_option linter.all false
set_option maxRecDepth 100000
namespace L2
open PySem PySem.Spec PyProof.Rows
mutual
def Is (K : PySem.W.Frag) (H : Hp) : PyData → V → Prop
  | .none, v => v = .non
  | .bool b, v => v = .bl b
  | .int i, v => v = .int i
  | .str x, v => v = .str x
  | .list ds, v => ∃ a vs, v = .ref a ∧ SqL K H a vs ∧ IsAll K H ds vs
  | .tuple ds, v => ∃ a vs, v = .ref a ∧ SqT K H a vs ∧ IsAll K H ds vs
  | .dict _, _ => False
def IsAll (K : PySem.W.Frag) (H : Hp) : List PyData → List V → Prop
  | [], vs => vs = []
  | d :: ds, vs => ∃ v r, vs = v :: r ∧ Is K H d v ∧ IsAll K H ds r
end
section
variable {X : Cx} {pins : List (Addr × Obj)} {σ : St} {H : Hp} {s : Shared}
mutual
theorem Is.reads (I : Inv X pins σ H s) : ∀ {d : PyData} {v : V} {u : Value}, Is X.K H d v → RelV v u → ∃ as, Reads s.heap u d as
  | .none, v, u, h, r => by unfold Is at h; subst h; cases r; exact ⟨_, .none⟩
  | .bool b, v, u, h, r => by unfold Is at h; subst h; cases r; exact ⟨_, .bool b⟩
  | .int i, v, u, h, r => by unfold Is at h; subst h; obtain ⟨t, rfl⟩ := r; exact ⟨_, .int i t⟩
  | .str x, v, u, h, r => by unfold Is at h; subst h; obtain ⟨t, rfl⟩ := r; exact ⟨_, .str x t⟩
  | .list ds, v, u, h, r => by
    unfold Is at h
    obtain ⟨a, vs, rfl, hs, ha⟩ := h
    cases r
    obtain ⟨its, rv, ⟨o, n, e, hc, _, hd⟩, _⟩ := I.list hs
    obtain ⟨as, q⟩ := IsAll.reads I ha rv
    exact ⟨_, .list e hc hd (by simpa using q)⟩
  | .tuple ds, v, u, h, r => by
    unfold Is at h
    obtain ⟨a, vs, rfl, hs, ha⟩ := h
    cases r
    obtain ⟨its, rv, ⟨o, e, hc, n, hd⟩, _⟩ := I.tuple hs
    obtain ⟨as, q⟩ := IsAll.reads I ha rv
    exact ⟨_, .tuple e hc hd (by simpa using q)⟩
  | .dict _, v, u, h, r => by unfold Is at h; exact h.elim
theorem IsAll.reads (I : Inv X pins σ H s) : ∀ {ds : List PyData} {vs : List V} {us : List Value}, IsAll X.K H ds vs → Vals vs us → ∃ as, ReadsAll s.heap us ds as
  | [], vs, us, h, r => by unfold IsAll at h; subst h; cases r; exact ⟨_, .nil⟩
  | d :: ds, vs, us, h, r => by
    unfold IsAll at h
    obtain ⟨v, rs, rfl, h1, h2⟩ := h
    cases r with
    | cons r1 r2 =>
      obtain ⟨as, q1⟩ := Is.reads I h1 r1
      obtain ⟨bs, q2⟩ := IsAll.reads I h2 r2
      exact ⟨_, .cons q1 q2⟩
end
end
section
variable {X : Cx}
def rEqD (K : PySem.W.Frag) (neg : Bool) : R2 := fun x y H Q => ∃ d e, Is K H d x ∧ Is K H e y ∧ SeqAt.shaped d = true ∧ SeqAt.shaped e = true ∧ Q (.bl (if neg = true then !PyData.eqv d e else PyData.eqv d e)) H
theorem op_eqD (hu : X.A.units + 64 < cLine) : OpR X (compareOp .Eq) (rEqD X.K false) := by
  intro pins s σ H x y v u Q I rx ry h
  obtain ⟨d, e, hd, he, sd, se, q⟩ := h
  obtain ⟨as, ra⟩ := hd.reads I rx
  obtain ⟨bs, rb⟩ := he.reads I ry
  exact SeqAt.compareEq_shaped ra rb sd se hu ⟨.bl _, H, I, rfl, q⟩
end
mutual
def nob : PyData → Bool
  | .none => true
  | .bool _ => false
  | .int _ => true
  | .str _ => true
  | .list ds => nobAll ds
  | .tuple ds => nobAll ds
  | .dict _ => false
def nobAll : List PyData → Bool
  | [] => true
  | d :: ds => nob d && nobAll ds
end
mutual
theorem eqv_iff : ∀ {d e : PyData}, nob d = true → nob e = true → (PyData.eqv d e = true ↔ d = e)
  | .none, e, hd, he => by cases e <;> simp [PyData.eqv]
  | .bool _, e, hd, he => by simp [nob] at hd
  | .int i, e, hd, he => by cases e <;> simp [PyData.eqv, nob] at *
  | .str x, e, hd, he => by cases e <;> simp [PyData.eqv, nob] at *
  | .list ds, e, hd, he => by
    cases e with
    | list es =>
      simp only [nob] at hd he
      simp only [PyData.eqv, PyData.list.injEq]
      exact eqvAll_iff hd he
    | _ => simp [PyData.eqv]
  | .tuple ds, e, hd, he => by
    cases e with
    | tuple es =>
      simp only [nob] at hd he
      simp only [PyData.eqv, PyData.tuple.injEq]
      exact eqvAll_iff hd he
    | _ => simp [PyData.eqv]
  | .dict _, e, hd, he => by simp [nob] at hd
theorem eqvAll_iff : ∀ {ds es : List PyData}, nobAll ds = true → nobAll es = true → (PyData.eqvAll ds es = true ↔ ds = es)
  | [], es, _, _ => by cases es <;> simp [PyData.eqvAll]
  | d :: ds, es, hd, he => by
    cases es with
    | nil => simp [PyData.eqvAll]
    | cons e es =>
      simp only [nobAll, Bool.and_eq_true] at hd he
      simp only [PyData.eqvAll, Bool.and_eq_true, List.cons.injEq]
      rw [eqv_iff hd.1 he.1, eqvAll_iff hd.2 he.2]
end
mutual
theorem Is.same {K : PySem.W.Frag} {H H' : Hp} (h : Same H H') : ∀ {d : PyData} {v : V}, Is K H d v → Is K H' d v
  | .none, v, q => by unfold Is at q ⊢; exact q
  | .bool b, v, q => by unfold Is at q ⊢; exact q
  | .int i, v, q => by unfold Is at q ⊢; exact q
  | .str x, v, q => by unfold Is at q ⊢; exact q
  | .list ds, v, q => by
    unfold Is at q ⊢
    obtain ⟨a, vs, e, hs, ha⟩ := q
    exact ⟨a, vs, e, h.seq hs, IsAll.same h ha⟩
  | .tuple ds, v, q => by
    unfold Is at q ⊢
    obtain ⟨a, vs, e, hs, ha⟩ := q
    refine ⟨a, vs, e, ?_, IsAll.same h ha⟩
    rcases hs with (hs | ⟨o, hs⟩) | hs
    · exact .inl (.inl (h _ _ hs))
    · exact .inl (.inr ⟨o, h _ _ hs⟩)
    · exact .inr hs
  | .dict _, v, q => by unfold Is at q; exact q.elim
theorem IsAll.same {K : PySem.W.Frag} {H H' : Hp} (h : Same H H') : ∀ {ds : List PyData} {vs : List V}, IsAll K H ds vs → IsAll K H' ds vs
  | [], vs, q => by unfold IsAll at q ⊢; exact q
  | d :: ds, vs, q => by
    unfold IsAll at q ⊢
    obtain ⟨v, r, e, h1, h2⟩ := q
    exact ⟨v, r, e, Is.same h h1, IsAll.same h h2⟩
end
end L2
set_option Elab.async false
set_option linter.all false
set_option maxRecDepth 100000
namespace L2
open PySem PySem.Spec PyProof.Rows
theorem absV_rel : ∀ {u : Value} {x : V}, absV u = some x → RelV x u := by
  intro u x h
  cases u <;> simp only [absV, Option.some.injEq] at h <;> first | (subst h; first | rfl | exact ⟨_, rfl⟩) | cases h
theorem absV_all : ∀ {us : List Value} {xs : List V}, us.mapM absV = some xs → Vals xs us := by
  intro us
  induction us with
  | nil => intro xs h; simp at h; subst h; exact .nil
  | cons u us ih =>
    intro xs h
    rw [List.mapM_cons] at h
    cases e1 : absV u with
    | none => rw [e1] at h; simp at h
    | some x =>
      cases e2 : us.mapM absV with
      | none => rw [e1, e2] at h; simp at h
      | some ys =>
        rw [e1, e2] at h
        simp at h
        subst h
        exact .cons (absV_rel e1) (ih e2)
def kTup (K : PySem.W.Frag) (a : Addr) : Option (List V) := match K.lookup a with
  | some ⟨.type n, _, .seq its _, _⟩ => if n = "tuple" then (if its.size ≤ sizeLine then its.toList.mapM absV else none) else none
  | _ => none
theorem kTup_sq {K : PySem.W.Frag} {H : Hp} {a : Addr} {xs : List V} (h : kTup K a = some xs) : SqT K H a xs := by
  unfold kTup at h
  split at h
  · next n dd its k sl e =>
    by_cases h1 : n = "tuple"
    · rw [if_pos h1] at h
      by_cases h2 : its.size ≤ sizeLine
      · rw [if_pos h2] at h
        subst h1
        exact .inr ⟨_, its, k, e, rfl, rfl, h2, absV_all h⟩
      · rw [if_neg h2] at h; cases h
    · rw [if_neg h1] at h; cases h
  · cases h
def tupQ (K : PySem.W.Frag) (H : Hp) (a : Addr) : Option (List V) := match H a with
  | some (.tup xs) => some xs
  | some _ => none
  | none => kTup K a
def seqQ (K : PySem.W.Frag) (H : Hp) (a : Addr) : Option (List V) := match H a with
  | some (.lst xs) => some xs
  | some (.tup xs) => some xs
  | some (.frz _ (.lst xs)) => some xs
  | some _ => none
  | none => kTup K a
section
variable {K : PySem.W.Frag} {H H' : Hp} {a b : Addr} {xs : List V} {o : HO}
theorem tupQ_sq (h : tupQ K H a = some xs) : SqT K H a xs := by
  unfold tupQ at h
  split at h
  · next e => cases h; exact .inl (.inl e)
  · cases h
  · exact kTup_sq h
theorem seqQ_sq (h : seqQ K H a = some xs) : SqL K H a xs ∨ SqT K H a xs := by
  unfold seqQ at h
  split at h
  · next e => cases h; exact .inl (.inl (.inl e))
  · next e => cases h; exact .inr (.inl (.inl e))
  · next e => cases h; exact .inl (.inl (.inr ⟨_, e⟩))
  · cases h
  · exact .inr (kTup_sq h)
theorem seqQ_T (h : tupQ K H a = some xs) : seqQ K H a = some xs := by
  unfold tupQ at h
  unfold seqQ
  split at h
  · next e => rw [e]; exact h
  · cases h
  · next e => rw [e]; exact h
theorem seqQ_lst (h : H a = some (.lst xs)) : seqQ K H a = some xs := by unfold seqQ; rw [h]
theorem seqQ_tup (h : H a = some (.tup xs)) : seqQ K H a = some xs := by unfold seqQ; rw [h]
theorem tupQ_tup (h : H a = some (.tup xs)) : tupQ K H a = some xs := by unfold tupQ; rw [h]
theorem seqQ_updL : seqQ K (upd H a (.lst xs)) a = some xs := seqQ_lst upd_same
theorem seqQ_updT : seqQ K (upd H a (.tup xs)) a = some xs := seqQ_tup upd_same
theorem tupQ_updT : tupQ K (upd H a (.tup xs)) a = some xs := tupQ_tup upd_same
structure Ext (K : PySem.W.Frag) (H H' : Hp) : Prop where
  same : Same H H'
  mod : ∀ a xs, H a = none → kTup K a = some xs → H' a = none
theorem Ext.refl : Ext K H H := ⟨Same.refl H, fun _ _ h _ => h⟩
theorem Ext.trans {H1 H2 : Hp} (x : Ext K H H1) (y : Ext K H1 H2) : Ext K H H2 := ⟨x.same.trans y.same, fun a xs h k => y.mod a xs (x.mod a xs h k) k⟩
theorem Ext.tup (x : Ext K H H') (h : tupQ K H a = some xs) : tupQ K H' a = some xs := by
  unfold tupQ at h ⊢
  split at h
  · next e => rw [x.same _ _ e]; exact h
  · cases h
  · next e => rw [x.mod a xs e h]; exact h
end
section
variable {X : Cx}
def rIxQ (K : PySem.W.Frag) : R2 := fun x y H Q => ∃ p i xs v, x = .ref p ∧ y = .int i ∧ seqQ K H p = some xs ∧ atI xs i = some v ∧ Q v H
theorem ix_Q : IxR X (rIxQ X.K) := by
  intro value slice pins s σ H x y v u Q I rx ry h hs
  obtain ⟨p, i, xs, z, rfl, rfl, hq, he, q⟩ := h
  rcases seqQ_sq (K := X.K) hq with h1 | h1
  · exact ix_list value slice pins s σ H _ _ v u Q I rx ry ⟨p, xs, i, z, rfl, rfl, h1, he, q⟩ hs
  · exact ix_tup value slice pins s σ H _ _ v u Q I rx ry ⟨p, xs, i, z, rfl, rfl, h1, he, q⟩ hs
theorem call_lenQ : CallR X (.builtin "len") (fun xs H Q => ∃ p ys, xs = [.ref p] ∧ seqQ X.K H p = some ys ∧ Q (.int ys.length) H) := by
  intro pins s σ H xs us Q I r h
  obtain ⟨p, ys, rfl, hq, q⟩ := h
  exact call_len_seq pins s σ H _ us Q I r ⟨p, ys, rfl, seqQ_sq hq, q⟩
end
end L2
namespace L2
open PySem PySem.Spec PyProof.Rows
def new (K : PySem.W.Frag) (H : Hp) (p : Addr) : Prop := H p = none ∧ kTup K p = none
theorem new_upd {K : PySem.W.Frag} {H : Hp} {a p : Addr} {o : HO} : new K (upd H a o) p ↔ p ≠ a ∧ new K H p := by
  unfold new
  rw [upd_none, and_assoc]
theorem kTup_none {K : PySem.W.Frag} {a : Addr} (h : K.lookup a = none) : kTup K a = none := by unfold kTup; rw [h]
section
variable {X : Cx} {es : List Expr} {t : TA} {pos : Pos} {pins : List (Addr × Obj)} {σ : St} {H : Hp} {s : Shared}
theorem Inv.new (I : Inv X pins σ H s) : L2.new X.K H s.heap.objs.size := by
  refine ⟨I.hok.fresh (Nat.le_refl _), kTup_none ?_⟩
  cases e : X.K.lookup s.heap.objs.size with
  | none => rfl
  | some o => exact absurd (Heap.lt_size (I.kIn _ o e)) (Nat.lt_irrefl _)
def tTupQ (K : PySem.W.Frag) (t : TA) : TE := fun σ H Q => t σ H fun xs H1 => xs.length ≤ sizeLine ∧ ∀ p, L2.new K H1 p → Q (.ref p) (upd H1 p (.tup xs))
def tLstQ (K : PySem.W.Frag) (t : TA) : TE := fun σ H Q => t σ H fun xs H1 => xs.length ≤ sizeLine ∧ ∀ p, L2.new K H1 p → Q (.ref p) (upd H1 p (.lst xs))
theorem etupQ {k} (h : JA X es t) : JE X (.Tuple es k pos) (tTupQ X.K t) := ⟨by
  intro pins s σ H Q I hq
  refine wpAny_Tuple_spliced (thn (h.h pos pins s σ H _ I hq) fun us s1 ⟨xs, H1, I1, r, z, q⟩ => ⟨by rw [← r.length]; exact z, ?_⟩)
  refine ⟨.ref s1.heap.objs.size, upd H1 s1.heap.objs.size (.tup xs), I1.laid (t' := s1.toks) (fun b u e => Heap.get?_push_of_some _ e) (Nat.le_refl _) ?_, rfl, q _ I1.new⟩
  exact ⟨z, us, r, ⟨_, Heap.get?_push_size _ rfl, rfl, _, rfl⟩⟩⟩
theorem elstQ (h : JA X es t) : JE X (.List es pos) (tLstQ X.K t) := ⟨by
  intro pins s σ H Q I hq
  refine wpAny_List_spliced (thn (h.h pos pins s σ H _ I hq) fun us s1 ⟨xs, H1, I1, r, z, q⟩ => ⟨by rw [← r.length]; exact z, ?_⟩)
  refine ⟨.ref s1.heap.objs.size, upd H1 s1.heap.objs.size (.lst xs), I1.laid (t' := s1.toks) (fun b u e => Heap.get?_push_of_some _ e) (Nat.le_refl _) ?_, rfl, q _ I1.new⟩
  exact ⟨z, us, 0, r, Heap.get?_push_size _ rfl⟩⟩
def rCatQ (K : PySem.W.Frag) : R2 := fun x y H Q => ∃ l b xs zs, x = .ref l ∧ y = .ref b ∧ H l = some (.lst xs) ∧ H b = some (.lst zs) ∧ xs.length + zs.length ≤ sizeLine ∧ ∀ p, L2.new K H p → Q (.ref p) (upd H p (.lst (xs ++ zs)))
theorem op_catQ : OpR X (binaryOp .Add) (rCatQ X.K) := by
  intro pins s σ H x y v u Q I rx ry h
  obtain ⟨l, b, xs, zs, rfl, rfl, hH, hB, hz, q⟩ := h
  cases rx
  cases ry
  obtain ⟨z, its, n, r, hl, e⟩ := I.lstM hH
  obtain ⟨z2, its2, n2, r2, hl2, e2⟩ := I.lstM hB
  refine PySem.P.add_list e e2 ?_ (by rw [List.size_toArray, List.size_toArray]; omega)
  have ea : its.toArray ++ its2.toArray = (its ++ its2).toArray := by simp
  rw [ea]
  exact ⟨.ref _, _, I.lnew (t' := s.toks) (r.append r2) (by rw [List.length_append]; omega), rfl, q _ I.new⟩
end
structure Kp (K : PySem.W.Frag) (p : Addr) (H H' : Hp) : Prop where
  keep : ∀ q o, H q = some o → q ≠ p → H' q = some o
  mod : ∀ a xs, H a = none → kTup K a = some xs → H' a = none
section
variable {K : PySem.W.Frag} {p a : Addr} {H H' H1 H2 : Hp} {xs ys : List V} {o : HO}
theorem Kp.refl : Kp K p H H := ⟨fun _ _ h _ => h, fun _ _ h _ => h⟩
theorem Kp.trans (x : Kp K p H H1) (y : Kp K p H1 H2) : Kp K p H H2 := ⟨fun q o h n => y.keep q o (x.keep q o h n) n, fun a xs h k => y.mod a xs (x.mod a xs h k) k⟩
theorem Kp.upd (h : H p = some (.lst xs)) : Kp K p H (upd H p o) := ⟨fun q u e n => by rw [upd_ne n]; exact e, fun b ys e _ => by rw [upd_ne (fun z => by rw [z, h] at e; cases e)]; exact e⟩
theorem Kp.new {q : Addr} (h : L2.new K H q) : Kp K p H (L2.upd H q o) := ⟨fun r u e _ => by rw [upd_ne (ne_of_none e h.1)]; exact e, fun b ys e k => by rw [upd_ne (fun z => by rw [z, h.2] at k; cases k)]; exact e⟩
theorem Kp.tup (x : Kp K p H H') (hp : H p = some (.lst ys)) (h : tupQ K H a = some xs) : tupQ K H' a = some xs := by
  unfold tupQ at h ⊢
  split at h
  · next e => rw [x.keep _ _ e (ne_of e hp (by intro z; cases z))]; exact h
  · cases h
  · next e => rw [x.mod a xs e h]; exact h
theorem Ext.new {q : Addr} (h : L2.new K H q) : Ext K H (L2.upd H q o) := ⟨fun b u e => by rw [upd_ne (ne_of_none e h.1)]; exact e, fun b ys e k => by rw [upd_ne (fun z => by rw [z, h.2] at k; cases k)]; exact e⟩
theorem Kp.ext (x : Kp K p (L2.upd H p o) H') (h : L2.new K H p) : Ext K H H' := by
  refine ⟨fun b u e => ?_, fun b ys e k => ?_⟩
  · have n : b ≠ p := ne_of_none e h.1
    exact x.keep b u (by rw [upd_ne n]; exact e) n
  · exact x.mod b ys (by rw [upd_ne (fun z => by rw [z, h.2] at k; cases k)]; exact e) k
theorem Ext.kp (x : Ext K H H') : Kp K p H H' := ⟨fun q o e _ => x.same q o e, x.mod⟩
end
end L2
namespace L2
open PySem PySem.Spec PyProof.Rows
section
variable {K : PySem.W.Frag} {p a : Addr} {H H' : Hp} {xs : List V}
end
end L2
namespace L2
open PySem PySem.Spec PyProof.Rows
def TyQ (K : PySem.W.Frag) (H : Hp) (x : V) (t : Value) : Prop := TyOf K H x t ∨ ∃ a xs, x = .ref a ∧ tupQ K H a = some xs ∧ t = .type "tuple"
theorem TyQ.tup {K : PySem.W.Frag} {H : Hp} {a : Addr} {xs : List V} (h : tupQ K H a = some xs) : TyQ K H (.ref a) (.type "tuple") := .inr ⟨a, xs, rfl, h, rfl⟩
section
variable {X : Cx}
theorem call_isinstQ : CallR X (.builtin "isinstance") (fun xs H Q => ∃ x n t b, xs = [x, .ty n] ∧ TyQ X.K H x t ∧ PySem.W.kitOne X.K t (.type n) = some b ∧ Q (.bl b) H) := by
  intro pins s σ H xs us Q I r h
  obtain ⟨x, n, t, b, rfl, ty, e, q⟩ := h
  obtain ⟨u, w', rfl, ru, rw'⟩ := vals2 r
  cases rw'
  rcases ty with ty | ⟨a, ys, rfl, hq, rfl⟩
  · exact isinst_ok I ru ty e fun tk => ⟨.bl b, H, I.tok tk, rfl, q⟩
  · cases (show u = Value.ref a from ru)
    obtain ⟨its, _, ⟨o, h1, h2, _⟩, _⟩ := I.tuple (tupQ_sq hq)
    exact PySem.W.kia_one PySem.W.kitx_tuple I.kIn ⟨o, h1, h2⟩ e (fun z => nomatch z) fun tk => ⟨.bl b, H, I.tok tk, rfl, q⟩
end
end L2
namespace L2
open PySem PySem.Spec PyProof.Rows
section
variable {X : Cx}
def rInQ (K : PySem.W.Frag) (neg : Bool) : R2 := fun x y H Q => ∃ p xs, y = .ref p ∧ seqQ K H p = some xs ∧ flatV x = true ∧ xs.all flatV = true ∧ Q (.bl (if neg = true then !inV x xs else inV x xs)) H
end
end L2
namespace L2
open PySem PySem.Spec PyProof.Rows
def ModFree (K : PySem.W.Frag) (H : Hp) : Prop := ∀ b xs, kTup K b = some xs → H b = none
theorem kTup_look {K : PySem.W.Frag} {a : Addr} {xs : List V} (h : kTup K a = some xs) : ∃ o, K.lookup a = some o := by
  cases e : K.lookup a with
  | none => rw [kTup_none e] at h; cases h
  | some o => exact ⟨o, rfl⟩
theorem FnOk.mod {P : Program} {w : World} {K : PySem.W.Frag} {mg : Str → Option Value} {base : Heap} {CX : CXT} {k : Nat} {f : Addr} {fd : FuncData} {ps : List Str} {sp : Sp} (len : ∀ vs H Q E, sp vs H Q E → vs.length = ps.length)
    (F : FnOk P w K mg base CX k f fd ps (fun vs H Q E => sp vs H Q E ∧ ModFree K H)) : FnOk P w K mg base CX k f fd ps sp :=
  ⟨len, fun A outer s H args us vs Q E hr e0 hb r h => F.run A outer s H args us vs Q E hr e0 hb r ⟨h, fun b xs hk => by
    obtain ⟨o, e⟩ := kTup_look hk
    exact (e0.bs b o (e0.mod.kin b o e)).2⟩⟩
section
variable {P : Program} {w : World} {K : PySem.W.Frag} {mg : Str → Option Value} {base : Heap}
theorem Fun.okM {x qual : Str} {st : Stmt} {f : Addr} {fd : FuncData} {N ps : List Str} {k : Nat} {sp : Sp} (F : Fun K x qual st f fd) (S : FnScope N ps (defScope st)) (len : ∀ vs H Q E, sp vs H Q E → vs.length = ps.length)
    (hbody : ∀ (cdv : Value) (A : Around) (outer : List Env) (s : Shared) (H : Hp) (vs : List V) (Q : VK) (E : XK), Room k (A.deeper (envOfC qual (defScope st) s.heap.objs.size f cdv)) → ModFree K H → sp vs H Q E →
      ∃ t, JB (cxOf CX0 P w K mg base N qual (defScope st) f cdv A outer s H E).nox (defBody st) t ∧ t { nx := fun _ H' => Q .non H', rt := Q } (start N vs) H) : FnOk P w K mg base CX0 (k + 1) f fd ps sp :=
  FnOk.mod len (F.okJ S (fun vs H Q E h => len vs H Q E h.1) fun cdv A outer s H vs Q E hr h => hbody cdv A outer s H vs Q E hr h.2 h.1)
end
theorem ModFree.tup {K : PySem.W.Frag} {H : Hp} {a : Addr} {xs : List V} (m : ModFree K H) (h : kTup K a = some xs) : tupQ K H a = some xs := by
  unfold tupQ
  rw [m a xs h]
  exact h
theorem ModFree.ext {K : PySem.W.Frag} {H H' : Hp} (m : ModFree K H) (x : Ext K H H') : ModFree K H' := fun b xs h => x.mod b xs (m b xs h) h
end L2
namespace L2
open PySem PySem.Spec PyProof.Rows
def Itr3 (lo st : Int) (n : Nat) : It := ⟨fun i _ => i < n, fun i H x H' => H' = H ∧ x = .int (lo + i * st), fun i _ => n ≤ i⟩
section
variable {X : Cx} {tg : Expr}
def iRng3 (ta : TA) : TI := fun σ H R => ta σ H fun vs H1 => ∃ (i j c : Int) (n : Nat), vs = [.int i, .int j, .int c] ∧ c ≠ 0 ∧ c.natAbs < 1073741824 ∧ Builtin.Range.small i j c = true ∧ Builtin.Range.rangeSize i j c = (n : Int) ∧ R (Itr3 i c n) H1
end
section
variable {K : PySem.W.Frag} {ta : TA} {g : TG} {tb : TS} {D : Ends} {σ : St} {H : Hp} {lo stp : Int} {n : Nat}
theorem tFor_rng3 : tFor (iRng3 ta) g tb D σ H = ta σ H (fun vs H1 => ∃ (i j c : Int) (n : Nat), vs = [.int i, .int j, .int c] ∧ c ≠ 0 ∧ c.natAbs < 1073741824 ∧ Builtin.Range.small i j c = true ∧ Builtin.Range.rangeSize i j c = (n : Int) ∧ Loop (Itr3 i c n) g tb D σ H1) := rfl
end
end L2
namespace L2
open PySem PySem.Spec PyProof.Rows
section
variable {X : Cx}
def rSlQ (K : PySem.W.Frag) : V → Option Int → Option Int → Hp → VK → Prop := fun x lo hi H Q => ∃ a xs, x = .ref a ∧ SqL K H a xs ∧ ∀ p, L2.new K H p → Q (.ref p) (upd H p (.lst (cutV xs lo hi)))
theorem sl_listQ : SlR X (rSlQ X.K) := by
  intro pins s σ H x v vl vu lo hi sl Q I rx hs pl pu h
  obtain ⟨a, xs, rfl, hx, q⟩ := h
  cases rx
  obtain ⟨its, r, ht, hz⟩ := I.list hx
  have hlen := r.length
  refine ⟨"list", _, slot_list_getitem.lookup, ht.isList.typeIs, ?_⟩
  refine wpAny_getItem_list_slice ht.isList hs pl pu .none (by simp) ?_ (by rw [List.size_toArray] <;> omega)
  rw [slicePick_cut, ← hlen]
  refine ⟨.ref s.heap.objs.size, _, I.laid (t' := s.toks) (o := .lst (cutV xs lo hi)) (fun b ob q => Heap.get?_push_of_some _ q) (Nat.le_refl _) ?_, rfl, q _ I.new⟩
  exact ⟨Nat.le_trans (cutV_length xs lo hi) hz, _, 0, (r.drop (HT.sIx xs.length 0 lo)).take (HT.sIx xs.length xs.length hi - HT.sIx xs.length 0 lo), Heap.get?_push_size _ rfl⟩
end
end L2
set_option Elab.async false
set_option linter.all false
set_option maxRecDepth 100000
namespace L2
open PySem PySem.Spec PyProof.Rows
section
variable {X : Cx} {es : List Expr} {pos : Pos}
def gTupQ (K : PySem.W.Frag) (n : Nat) (t : TGs) : TG := fun v σ H Q => ∃ a xs, v = .ref a ∧ tupQ K H a = some xs ∧ xs.length = n ∧ t xs σ H Q
theorem gtupQ {k : Nat} {t : TGs} {n : Nat} (hc : X.calm = true) (h : JGs X es t) (hn : (assignEach es X.env).length = n := by rfl) (hst : (assignEach es X.env).findIdx? (·.1) = none := by rfl) : JG X (.Tuple es k pos) (gTupQ X.K n t) :=
  ⟨fun pins s σ H v u Q I r ⟨a, xs, e, h1, h2, h3⟩ => pg_tup hc h.h hn hst pins s σ H v u Q I r ⟨a, xs, e, tupQ_sq h1, h2, h3⟩⟩
end
theorem kTup_of {K : PySem.W.Frag} {a : Addr} {d : Option Addr} {its : Array Value} {k : Nat} {sl : Array (Option Value)} {xs : List V} (h : K.lookup a = some ⟨.type "tuple", d, .seq its k, sl⟩) (hz : its.size ≤ 1000) (e : its.toList.mapM absV = some xs) : kTup K a = some xs := by
  unfold kTup
  rw [h]
  simp only [if_true]
  rw [if_pos (small_le hz)]
  exact e
end L2
namespace L2
open PySem PySem.Spec PyProof.Rows
theorem cutV_to (xs : List V) (k : Nat) : cutV xs none (some (k : Int)) = xs.take k := by
  unfold cutV
  rw [HT.sIx_none, HT.sIx_nat, List.drop_zero, Nat.sub_zero]
  by_cases h : k ≤ xs.length
  · rw [Nat.min_eq_left h]
  · rw [Nat.min_eq_right (by omega), List.take_of_length_le (Nat.le_refl _), List.take_of_length_le (by omega)]
theorem cutV_from (xs : List V) (k : Nat) : cutV xs (some (k : Int)) none = xs.drop k := by
  unfold cutV
  rw [HT.sIx_none, HT.sIx_nat]
  by_cases h : k ≤ xs.length
  · rw [Nat.min_eq_left h, List.take_of_length_le (by rw [List.length_drop]; exact Nat.le_refl _)]
  · rw [Nat.min_eq_right (by omega), List.drop_of_length_le (Nat.le_refl _), List.drop_of_length_le (by omega)]; simp
end L2
namespace L2
open PySem PySem.Spec PyProof.Rows
theorem Ext.at {K : PySem.W.Frag} {H H' : Hp} {a : Addr} {o : HO} (x : Ext K H H') (h : H a = some o) : H' a = some o := x.same _ _ h
theorem Ext.seqQ {K : PySem.W.Frag} {H H' : Hp} {a : Addr} {xs : List V} (x : Ext K H H') (h : seqQ K H a = some xs) : seqQ K H' a = some xs := by
  unfold L2.seqQ at h ⊢
  split at h
  · next e => rw [x.same _ _ e]; exact h
  · next e => rw [x.same _ _ e]; exact h
  · next e => rw [x.same _ _ e]; exact h
  · cases h
  · next e => rw [x.mod a xs e h]; exact h
end L2
namespace L2
open PySem PySem.Spec PyProof.Rows
structure Kp2 (K : PySem.W.Frag) (p q : Addr) (H H' : Hp) : Prop where
  keep : ∀ r o, H r = some o → r ≠ p → r ≠ q → H' r = some o
  mod : ∀ a xs, H a = none → kTup K a = some xs → H' a = none
section
variable {K : PySem.W.Frag} {p q : Addr} {H H' H1 H2 : Hp} {o o' : HO}
theorem Kp.l (x : Kp K p H H') : Kp2 K p q H H' := ⟨fun r o h n _ => x.keep r o h n, x.mod⟩
theorem Kp.r (x : Kp K q H H') : Kp2 K p q H H' := ⟨fun r o h _ n => x.keep r o h n, x.mod⟩
theorem Ext.kp2 (x : Ext K H H') : Kp2 K p q H H' := ⟨fun r o h _ _ => x.same r o h, x.mod⟩
theorem Kp2.trans (x : Kp2 K p q H H1) (y : Kp2 K p q H1 H2) : Kp2 K p q H H2 := ⟨fun r o h n m => y.keep r o (x.keep r o h n m) n m, fun a xs h k => y.mod a xs (x.mod a xs h k) k⟩
theorem Kp2.ext (x : Kp2 K p q (L2.upd (L2.upd H p o) q o') H') (hp : L2.new K H p) (hq : L2.new K (L2.upd H p o) q) : Ext K H H' := by
  have y : Ext K H (L2.upd (L2.upd H p o) q o') := (Ext.new hp).trans (Ext.new hq)
  refine ⟨fun b u e => ?_, fun b ys e k => x.mod b ys (y.mod b ys e k) k⟩
  have n : b ≠ p := ne_of_none e hp.1
  have m : b ≠ q := ne_of_none ((Ext.new hp).at e) hq.1
  exact x.keep b u (y.at e) n m
end
end L2
set_option Elab.async false
set_option linter.all false
set_option maxRecDepth 100000
namespace L2
open PySem PySem.Spec PyProof.Rows
def closL (env : Env) : List (Str × NameKind) → List (Str × Addr) → List (Str × Addr)
  | [], cs => cs
  | (n, k) :: r, cs => closL env r (if (k == NameKind.free) = true then (match env.cells.lookup n with | some a => (n, a) :: cs | none => cs) else cs)
theorem closureFor_eq {scope : Scope} {env : Env} (h : ∀ x ∈ scope.names, x.2 = .free → ∃ c, env.cells.lookup x.1 = some c) : closureFor scope env = pure (closL env scope.names []) := by
  unfold closureFor
  generalize scope.names = names at h ⊢
  generalize ([] : List (Str × Addr)) = cs
  induction names generalizing cs with
  | nil => rfl
  | cons x r ih =>
    obtain ⟨n, k⟩ := x
    have ih' := fun cs => ih (cs := cs) fun x hx => h x (List.mem_cons_of_mem _ hx)
    simp only [List.forIn_cons]
    cases hk : (k == NameKind.free) with
    | false =>
      simp only [closL, hk]
      exact ih' cs
    | true =>
      obtain ⟨c, hc⟩ := h (n, k) (List.mem_cons_self) (by simpa using hk)
      simp only [closL, hk, hc, cellOf]
      exact ih' _
theorem closL_mem {env : Env} : ∀ {names : List (Str × NameKind)} {cs : List (Str × Addr)} {n : Str} {c : Addr}, (n, c) ∈ closL env names cs → (n, c) ∈ cs ∨ env.cells.lookup n = some c
  | [], cs, n, c, h => .inl h
  | (m, k) :: r, cs, n, c, h => by
    rw [closL] at h
    rcases closL_mem h with h | h
    · split at h
      · split at h
        · next a e =>
          rcases List.mem_cons.mp h with z | z
          · cases z; exact .inr e
          · exact .inl z
        · exact .inl h
      · exact .inl h
    · exact .inr h
theorem closL_sub {env : Env} : ∀ {names : List (Str × NameKind)} {cs : List (Str × Addr)} {p : Str × Addr}, p ∈ cs → p ∈ closL env names cs
  | [], cs, p, h => h
  | (m, k) :: r, cs, p, h => by
    rw [closL]
    refine closL_sub ?_
    split
    · split
      · exact List.mem_cons_of_mem _ h
      · exact h
    · exact h
theorem closL_has {env : Env} : ∀ {names : List (Str × NameKind)} {cs : List (Str × Addr)} {n : Str} {c : Addr}, (n, NameKind.free) ∈ names → env.cells.lookup n = some c → (n, c) ∈ closL env names cs
  | (m, k) :: r, cs, n, c, h, e => by
    rw [closL]
    rcases List.mem_cons.mp h with z | z
    · cases z
      rw [if_pos (by decide), e]
      exact closL_sub List.mem_cons_self
    · exact closL_has z e
theorem lookup_mem {α : Type} : ∀ {l : List (Str × α)} {n : Str} {c : α}, l.lookup n = some c → (n, c) ∈ l
  | (m, d) :: r, n, c, h => by
    rw [List.lookup_cons] at h
    cases e : n == m with
    | true =>
      rw [e] at h
      cases h
      rw [eq_of_beq e]
      exact List.mem_cons_self
    | false =>
      rw [e] at h
      exact List.mem_cons_of_mem _ (lookup_mem h)
theorem mem_lookup {α : Type} : ∀ {l : List (Str × α)} {n : Str} {c : α}, (n, c) ∈ l → ∃ d, l.lookup n = some d
  | (m, d) :: r, n, c, h => by
    rw [List.lookup_cons]
    cases e : n == m with
    | true => exact ⟨d, rfl⟩
    | false =>
      rcases List.mem_cons.mp h with z | z
      · cases z
        rw [beq_self_eq_true] at e; cases e
      · exact mem_lookup z
theorem clos_look {env : Env} {names : List (Str × NameKind)} {n : Str} {c : Addr} (h : (closL env names []).lookup n = some c) : env.cells.lookup n = some c := by
  rcases closL_mem (lookup_mem h) with z | z
  · cases z
  · exact z
theorem clos_has {env : Env} {names : List (Str × NameKind)} {n : Str} {c : Addr} (h : (n, NameKind.free) ∈ names) (e : env.cells.lookup n = some c) : (closL env names []).lookup n = some c := by
  obtain ⟨d, hd⟩ := mem_lookup (closL_has (cs := []) h e)
  rw [hd]
  exact (clos_look hd).symm.trans e ▸ rfl
theorem relabel_free {env : Env} : ∀ {names : List (Str × NameKind)} {x : Str}, names.lookup x = some .free →
    (names.map fun (n, k) => if (k == NameKind.free && env.scope.kind == .function && env.kindOf n == some .cell) then (n, NameKind.cell) else (n, k)).lookup x = some .cell ∨
    (names.map fun (n, k) => if (k == NameKind.free && env.scope.kind == .function && env.kindOf n == some .cell) then (n, NameKind.cell) else (n, k)).lookup x = some .free
  | [], _, h => by simp at h
  | (n, k) :: r, x, h => by
    have ih := @relabel_free env r x
    show List.lookup x ((if (k == NameKind.free && env.scope.kind == .function && env.kindOf n == some .cell) = true then (n, NameKind.cell) else (n, k)) :: _) = _ ∨ List.lookup x ((if (k == NameKind.free && env.scope.kind == .function && env.kindOf n == some .cell) = true then (n, NameKind.cell) else (n, k)) :: _) = _
    cases hx : x == n with
    | true =>
      simp only [List.lookup_cons, hx] at h
      cases h
      split
      · simp [List.lookup_cons, hx]
      · simp [List.lookup_cons, hx]
    | false =>
      simp only [List.lookup_cons, hx] at h
      split
      · simp only [List.lookup_cons, hx]; exact ih h
      · simp only [List.lookup_cons, hx]; exact ih h
theorem relabel_mem {env : Env} : ∀ {names : List (Str × NameKind)} {x : Str} {kk : NameKind}, (∀ y ∈ names, y.2 ≠ .cell) →
    (names.map fun (n, k) => if (k == NameKind.free && env.scope.kind == .function && env.kindOf n == some .cell) then (n, NameKind.cell) else (n, k)).lookup x = some kk → kk = .cell ∨ kk = .free → (x, NameKind.free) ∈ names
  | [], _, _, _, h, _ => by simp at h
  | (n, k) :: r, x, kk, hc, h, hk => by
    have ih := @relabel_mem env r x kk fun y hy => hc y (List.mem_cons_of_mem _ hy)
    change List.lookup x ((if (k == NameKind.free && env.scope.kind == .function && env.kindOf n == some .cell) = true then (n, NameKind.cell) else (n, k)) :: _) = _ at h
    cases hx : x == n with
    | true =>
      have e := eq_of_beq hx
      subst e
      split at h
      · next q =>
        simp only [Bool.and_eq_true, beq_iff_eq] at q
        rw [q.1.1]
        exact List.mem_cons_self
      · simp only [List.lookup_cons, hx] at h
        cases h
        rcases hk with z | z
        · exact absurd z (hc _ List.mem_cons_self)
        · rw [z]; exact List.mem_cons_self
    | false =>
      refine List.mem_cons_of_mem _ (ih ?_ hk)
      split at h
      · simp only [List.lookup_cons, hx] at h; exact h
      · simp only [List.lookup_cons, hx] at h; exact h
def Cx.comp (X : Cx) (N : List Str) (scope : Scope) (C : Addr) (s : Shared) (H : Hp) (fp : List Addr) : Cx :=
  { X with N := N, s₀ := s, H₀ := H, env := compEnvC scope (closL X.env scope.names []) C X.env, outer := X.stack, ex := fp, fn := fun _ => false, pn := [], xe := fun _ _ => False }
def pick (σ : St) (src : List (Option Nat)) : St := src.map fun o => match o with | none => none | some j => (σ[j]?).join
def capOk (NX : List Str) (scX sc : Scope) (N : List Str) (src : List (Option Nat)) : Bool :=
  sc.names.all (fun x => x.2 != .cell) && sc.names.all (fun x => x.2 != .local || sc.names.lookup x.1 == some .local) &&
  sc.names.all (fun x => x.2 != .free || (scX.names.lookup x.1 == some .cell || scX.names.lookup x.1 == some .free)) && N.length == src.length &&
  (N.zip src).all (fun p => match p.2 with | none => true | some j => NX[j]? == some p.1 && (scX.names.lookup p.1 == some .cell || scX.names.lookup p.1 == some .free) && sc.names.lookup p.1 == some .free)
structure Cap (X : Cx) (sc : Scope) (N : List Str) (src : List (Option Nat)) : Prop where
  kind : sc.kind = .function
  ok : capOk X.N X.env.scope sc N src = true
section
variable {X : Cx} {sc : Scope} {N : List Str} {src : List (Option Nat)}
theorem Cap.cell (c : Cap X sc N src) : ∀ y ∈ sc.names, y.2 ≠ .cell := fun y hy => by
  have h := c.ok
  simp only [capOk, Bool.and_eq_true, List.all_eq_true] at h
  simpa using h.1.1.1.1 y hy
theorem Cap.names (c : Cap X sc N src) : ∀ y ∈ sc.names, y.2 = .local → sc.names.lookup y.1 = some .local := fun y hy e => by
  have h := c.ok
  simp only [capOk, Bool.and_eq_true, List.all_eq_true] at h
  have q := h.1.1.1.2 y hy
  rw [e] at q
  simpa using q
theorem Cap.free (c : Cap X sc N src) {x : Str} (hx : (x, NameKind.free) ∈ sc.names) : X.env.kindOf x = some .cell ∨ X.env.kindOf x = some .free := by
  have h := c.ok
  simp only [capOk, Bool.and_eq_true, List.all_eq_true] at h
  have q := h.1.1.2 _ hx
  simpa [Env.kindOf] using q
theorem Cap.len (c : Cap X sc N src) : N.length = src.length := by
  have h := c.ok
  simp only [capOk, Bool.and_eq_true, List.all_eq_true] at h
  simpa using h.1.2
theorem Cap.at_ (c : Cap X sc N src) {i j : Nat} {x : Str} (h1 : N[i]? = some x) (h2 : src[i]? = some (some j)) : X.N[j]? = some x ∧ (X.env.kindOf x = some .cell ∨ X.env.kindOf x = some .free) ∧ sc.names.lookup x = some .free := by
  have h := c.ok
  simp only [capOk, Bool.and_eq_true, List.all_eq_true] at h
  have m : (x, some j) ∈ N.zip src := by
    refine List.mem_of_getElem? (i := i) ?_
    rw [List.getElem?_zip_eq_some]
    exact ⟨h1, h2⟩
  have q := h.2 _ m
  simp only [Bool.and_eq_true, Bool.or_eq_true, beq_iff_eq] at q
  exact ⟨q.1.1, q.1.2, q.2⟩
theorem pick_some {σ : St} {i : Nat} {v : V} (h : (pick σ src)[i]? = some (some v)) : ∃ j, src[i]? = some (some j) ∧ σ[j]? = some (some v) := by
  unfold pick at h
  rw [List.getElem?_map] at h
  cases e : src[i]? with
  | none => rw [e] at h; cases h
  | some o =>
    rw [e] at h
    cases o with
    | none => simp at h
    | some j =>
      refine ⟨j, rfl, ?_⟩
      simp only [Option.map_some, Option.some.injEq] at h
      cases e2 : σ[j]? with
      | none => rw [e2] at h; cases h
      | some w =>
        rw [e2] at h
        simp only [Option.join] at h
        exact congrArg some h
theorem Cx.Ok.comp {pins : List (Addr × Obj)} {σ : St} {H : Hp} {s : Shared} {fp : List Addr} {C : Addr} (I : Inv X pins σ H s) (c : Cap X sc N src) (hf : ∀ b ∈ fp, FpOk X pins H b) (ho : ∀ b ∈ fp, ∃ o, s.heap.get? b = some o) (hC : s.heap.objs.size ≤ C) : (X.comp N sc C s H fp).Ok where
  mod := I.ok.mod
  kind := c.kind
  glob := I.ok.glob
  blt := I.ok.blt
  above := hC
  inj := fun x y a h h' => I.ok.inj x y a (clos_look h) (clos_look h')
  has := fun x h => by
    have m : (x, NameKind.free) ∈ sc.names := by
      rcases h with h | h
      · exact relabel_mem c.cell h (.inl rfl)
      · exact relabel_mem c.cell h (.inr rfl)
    obtain ⟨a, ha⟩ := I.ok.has x (c.free m)
    exact ⟨a, clos_has m ha⟩
  cab := fun _ _ h => nomatch h
  hd := I.ok.hd
  frames := I.ok.frames
  stk := .inl rfl
  exf := fun b hb => by
    obtain ⟨o, e⟩ := ho b hb
    exact ⟨Nat.ne_of_lt (Nat.lt_of_lt_of_le (Heap.lt_size e) hC), fun x a h => (hf b hb).2.2.2.2.1 x a (clos_look h)⟩
  bs := I.bs
  bsz := Nat.le_trans I.ok.bsz I.sz
  noex := fun b o e hb => by
    rcases (hf b hb).2.2.2.1 with z | z
    · exact I.ok.noex b o e z
    · exact absurd (Nat.lt_of_lt_of_le (Heap.lt_size e) (Nat.le_trans I.ok.bsz z)) (Nat.lt_irrefl _)
  exfs := fun b hb z => by
    rcases List.mem_cons.mp (I.stkSub b z) with q | q
    · exact (hf b hb).2.1 q
    · exact (hf b hb).2.2.1 q
  funs := I.stack
  frf := I.stkFree
theorem Inv.block {pins : List (Addr × Obj)} {σ : St} {H : Hp} {s : Shared} {fp : List Addr} {C D : Addr} {h1 : Heap} {t' : Nat} (I : Inv X pins σ H s) (c : Cap X sc N src) (hf : ∀ b ∈ fp, FpOk X pins H b) (ho : ∀ b ∈ fp, ∃ o, s.heap.get? b = some o)
    (hD : s.heap.objs.size ≤ D) (hC : s.heap.objs.size ≤ C) (hDC : D ≠ C) (k : ∀ b u, s.heap.get? b = some u → h1.get? b = some u) (hn : h1.Ns C fun _ => none) (new : ObjOk X.prog X.w (upd H D (.lst [])) h1 D (.lst [])) :
    Inv (X.comp N sc C s H fp) [] (pick σ src) (upd H D (.lst [])) { s with heap := h1, toks := t' } where
  ok := Cx.Ok.comp I c hf ho hC
  os := rfl
  bare := I.bare
  base := Un.laid k hD (I.hok.fresh hD)
  loc := by
    refine ⟨_, hn, fun i x v e1 e2 e3 => ?_⟩
    obtain ⟨j, ej, es⟩ := pick_some e2
    obtain ⟨n1, n2, n3⟩ := c.at_ e1 ej
    obtain ⟨m, _, hl⟩ := I.loc
    have vis : Vis X.env.scope x := n2.elim (fun z => .inr (.inl z)) fun z => .inr (.inr z)
    obtain ⟨u, r, q⟩ := hl j x v n1 es vis
    refine ⟨u, r, .inr ⟨relabel_free n3, ?_⟩⟩
    rcases q with ⟨z, _⟩ | ⟨_, a, ha, z⟩
    · rcases n2 with n2 | n2 <;> rw [n2] at z <;> cases z
    · obtain ⟨o, e, d⟩ := z
      exact ⟨a, clos_has (lookup_mem n3) ha, o, k _ _ e, d⟩
  cell := fun x a e => by
    obtain ⟨v, o, e, d⟩ := I.cell x a (clos_look e)
    exact ⟨v, o, k _ _ e, d⟩
  free := by
    show upd H D (.lst []) C = none
    rw [upd_ne hDC.symm]
    exact I.hok.fresh hC
  freeC := fun x a e => by
    obtain ⟨v, o, e', d⟩ := I.cell x a (clos_look e)
    rw [upd_ne (Nat.ne_of_lt (Nat.lt_of_lt_of_le (Heap.lt_size e') hD))]
    exact I.freeC x a (clos_look e)
  pin := fun p hp => nomatch hp
  hok := I.hok.laid k hD new
  len := by
    show (pick σ src).length = N.length
    rw [c.len, pick, List.length_map]
theorem Inv.unblock {pins : List (Addr × Obj)} {σ σ' : St} {H H' : Hp} {s s' : Shared} {fp : List Addr} {C : Addr} {h' : Heap} (I : Inv X pins σ H s) (hf : ∀ b ∈ fp, FpOk X pins H b) (hC : s.heap.objs.size ≤ C)
    (J : Inv (X.comp N sc C s H fp) [] σ' H' s') (hs : ∀ b, b ≠ C → h'.get? b = s'.heap.get? b) : Inv X pins σ H' { s' with heap := h' } := by
  have ne : ∀ b o, s.heap.get? b = some o → b ≠ C := fun b o e => Nat.ne_of_lt (Nat.lt_of_lt_of_le (Heap.lt_size e) hC)
  have u : Un (frs X.stack) fp H H' s.heap s'.heap := J.base
  have u' : Un (frs X.stack) fp H H' s.heap h' := ⟨fun b o e n a x => (hs b (ne b o e)).trans (u.keep b o e n a x), fun b o e n a x => by
      obtain ⟨sl, q⟩ := u.slot b o e n a x
      exact ⟨sl, (hs b (ne b o e)).trans q⟩, u.free, fun b o e x => by
      obtain ⟨o', q⟩ := u.there b o e x
      exact ⟨o', (hs b (ne b o e)).trans q⟩, u.tups, u.frzs, u.tbls⟩
  refine I.call' (s' := { s' with heap := h' }) J.os u' (fun b ob e => ?_) J.bare fun b hb => ⟨(hf b hb).2.2.2.1, (hf b hb).2.1, (hf b hb).2.2.2.2.1, (hf b hb).2.2.2.2.2⟩
  have fr : H' C = none := J.free
  refine (J.hok b ob e).stay (fun a w' ha q => (hs a ?_).trans q) (fun _ q => q) fun _ _ q => q
  rintro rfl
  rcases ha with rfl | ha
  · rw [fr] at e; cases e
  · rw [fr] at ha; cases ha
end
abbrev F0 : Value → Shared → Prop := fun _ _ => False
section
variable {prog : Program} {w : World} {A : Around} {R : Result → Shared → Prop} {s : Shared}
theorem compLoop_any {elt target iter : Expr} {ifs : List Expr} {scope : Scope} {pos : Pos} {it acc : Value} {env : Env} (I : Nat → Shared → Prop)
    (turn : ∀ n s, I n s → wpAny (model prog w) A (pyNext it) (fun r s₁ => match r with
      | none => R (.ok .next) s₁
      | some v => wpAny (model prog w) A (letOwnedTupleGo target it v) (fun _ s₁' => wpAny (model prog w) A (assign target env v) (fun _ s₂ =>
          wpAny (model prog w) A (forIn ifs true fun c r => if r = true then do let ok ← isTrue c env (eval c env); pure (ForInStep.yield ok) else pure (ForInStep.yield r)) (fun ok s₃ =>
            if ok = true then wpAny (model prog w) A (eval elt env) (fun x s₄ =>
              wpAny (model prog w) A (call (.builtin "list.append") [acc, x]) (fun _ s₅ => ∃ m, m < n ∧ I m s₅) F0 s₄) F0 s₃
            else ∃ m, m < n ∧ I m s₃) F0 s₂) F0 s₁') F0 s₁) F0 s)
    (n : Nat) (h : I n s) :
    codeAny (model prog w) A (.compLoop (.ListComp elt [⟨target, iter, ifs, 0⟩] scope pos) 0 it acc env) R s := by
  refine codeAny_loop rfl I (fun n s hI => ?_) n h
  show wpAny _ A ((compTurn (.ListComp elt [⟨target, iter, ifs, 0⟩] scope pos) 0 it acc env).onRaise (fun x => do noteFrame x env; theTreesLotGoes x)) _ _ s
  refine wpAny_noted ?_
  rw [compTurn_list]
  refine wpAny_bind (wpAny_standAt (wpAny_bind (wpAny_mono (turn n s hI) (fun r s₁ h₁ => ?_) fun _ _ h' => h'.elim)))
  cases r with
  | none => exact wpAny_pure h₁
  | some v =>
    refine wpAny_bind (wpAny_mono h₁ (fun _ s₁' h₁' => ?_) fun _ _ h' => h'.elim)
    refine wpAny_bind (wpAny_mono h₁' (fun _ s₂ h₂ => wpAny_bind (wpAny_mono h₂ (fun ok s₃ h₃ => ?_) fun _ _ h' => h'.elim)) fun _ _ h' => h'.elim)
    cases ok with
    | false => exact wpAny_pure ⟨rfl, h₃⟩
    | true =>
      exact wpAny_bind (wpAny_bind (wpAny_mono h₃ (fun x s₄ h₄ => wpAny_bind (wpAny_mono h₄ (fun _ s₅ h₅ => wpAny_pure (wpAny_pure ⟨rfl, h₅⟩)) fun _ _ h' => h'.elim)) fun _ _ h' => h'.elim))
end
def PF (X : Cx) (ifs : List Expr) (t : TT) : Prop :=
  ∀ (pins : List (Addr × Obj)) (s : Shared) (σ : St) (H : Hp) (Q : Bool → Hp → Prop), Inv X pins σ H s → t σ H Q →
    wpAny (model X.prog X.w) X.A (forIn ifs true fun c r => if r = true then do let ok ← isTrue c X.env (eval c X.env); pure (ForInStep.yield ok) else pure (ForInStep.yield r)) (TP X pins σ Q) X.xe s
structure JF (X : Cx) (ifs : List Expr) (t : TT) : Prop where h : PF X ifs t
def tYes : TT := fun _ H Q => Q true H
theorem fnone {X : Cx} : JF X [] tYes := ⟨fun _ _ _ H _ I h => wpAny_tests_nil ⟨H, I, h⟩⟩
def LcLoop (J : It) (g : TG) (tt : TT) (te : TE) (D : Addr) (Q : Hp → Prop) (σ : St) (H : Hp) : Prop := ∃ W : Nat → Nat → List V → St → Hp → Prop, (∃ m, W 0 m [] σ H) ∧ ∀ i m acc σ H, W i m acc σ H →
  (J.stop i H ∧ Q H) ∨ (J.go i H ∧ ∃ N : List V → St → Hp → Prop, (∀ acc' σ' H', N acc' σ' H' → ∃ m', m' < m ∧ W (i + 1) m' acc' σ' H') ∧ ∀ x H', J.yld i H x H' → g x σ H' fun σ2 H2 => tt σ2 H2 fun b H3 =>
    if b = true then te σ2 H3 fun v H4 => H4 D = some (.lst acc) ∧ acc.length < sizeLine ∧ N (acc ++ [v]) σ2 (upd H4 D (.lst (acc ++ [v])))
    else N acc σ2 H3)
def tLc (K : PySem.W.Frag) (wi : TI) (src : List (Option Nat)) (g : TG) (tt : TT) (te : TE) : TE := fun σ H Q => wi σ H fun J H1 => ∀ D, L2.new K H1 D → LcLoop J g tt te D (fun H' => Q (.ref D) H') (pick σ src) (upd H1 D (.lst []))
section
variable {X : Cx} {sc : Scope} {N : List Str} {src : List (Option Nat)} {tg iter elt : Expr} {ifs : List Expr} {wi : TI} {g : TG} {tt : TT} {te : TE} {pos : Pos}
theorem comp_run {R : Value → Addr → Result → Shared → Prop} {E : Value → Shared → Prop} (c : Cap X sc N src) (hc : X.calm = true)
    (hg : ∀ C s H fp, JG (X.comp N sc C s H fp) tg g) (ht : ∀ C s H fp, JF (X.comp N sc C s H fp) ifs tt) (he : ∀ C s H fp, JE (X.comp N sc C s H fp) elt te)
    {pins : List (Addr × Obj)} {σ : St} {H : Hp} {s : Shared} {it : Addr} {fp : List Addr} {tn : Nat → Heap → Prop} {J : It} {Q : V → Hp → Prop} (I : Inv X pins σ H s) (T : Turn X.prog X.w X.K tg J fp it tn) (st : tn 0 s.heap) (hf : ∀ b ∈ fp, FpOk X pins H b)
    (h : ∀ D, L2.new X.K H D → LcLoop J g tt te D (fun H' => Q (.ref D) H') (pick σ src) (upd H D (.lst [])))
    (hR : ∀ D C s' σ' H', s.heap.objs.size ≤ C → Inv (X.comp N sc C s H fp) [] σ' H' s' → Q (.ref D) H' → R (.ref D) C (.ok .next) s') :
    wpAny (model X.prog X.w) X.A (newList []) (fun acc s₃ => wpAny (model X.prog X.w) X.A (newFunctionEnv sc X.env.globals (closL X.env sc.names []) [] X.env.qual none .none (some X.env)) (fun cenv s₄ =>
      codeAny (model X.prog X.w) X.A (.compStart (.ListComp elt [⟨tg, iter, ifs, 0⟩] sc pos) 0 (.ref it) acc { cenv with scope := relabel sc X.env }) (R acc cenv.locals) s₄) E s₃) E s := by
  refine wpAny_newObj_type (wpAny_newFunctionEnv c.cell (by intro y hy; simp at hy) (fun h₁ hns₁ hsb₁ => ?_) c.kind)
  dsimp only at hns₁ hsb₁ ⊢
  generalize hH2 : s.heap.push { cls := .type "list", dict := none, data := .seq ([] : List Value).toArray } = H2 at hns₁ hsb₁ ⊢
  have hC : H2.objs.size = s.heap.objs.size + 1 := by rw [← hH2, Heap.size_push]
  have hDC : s.heap.objs.size ≠ H2.objs.size := by rw [hC]; exact Nat.ne_of_lt (Nat.lt_succ_self _)
  have hCle : s.heap.objs.size ≤ H2.objs.size := by rw [hC]; exact Nat.le_succ _
  have below : ∀ b, b < s.heap.objs.size → b ≠ H2.objs.size := fun b hb => by rw [hC]; exact Nat.ne_of_lt (Nat.lt_succ_of_lt hb)
  have old : ∀ b o, s.heap.get? b = some o → h₁.get? b = some o := fun b o e => hsb₁.extBut b o (below b (Heap.lt_size e)) (Heap.get?_push_of_some _ (hH2 ▸ Heap.get?_push_of_some _ e))
  have hacc : h₁.get? s.heap.objs.size = some { cls := .type "list", dict := none, data := .seq ([] : List Value).toArray } := hsb₁.extBut _ _ hDC (Heap.get?_push_of_some _ (hH2 ▸ Heap.get?_push_size _ rfl))
  have ho : ∀ b ∈ fp, ∃ o, s.heap.get? b = some o := fun b hb => let ⟨o, e, _⟩ := T.obj _ _ st b hb; ⟨o, e⟩
  have I0 := I.block (t' := s.toks + ([] : List (Str × Value)).length) c hf ho (Nat.le_refl _) hCle hDC old hns₁ ⟨Nat.zero_le _, [], 0, .nil, hacc⟩
  have st0 : tn 0 h₁ := T.keep _ _ _ st fun b hb o e => old b o e
  obtain ⟨W, ⟨m0, w0⟩, turn⟩ := h _ I.new
  have stat : ∀ {H' : Hp}, (∀ b ∈ fp, H' b = none) → ∀ b ∈ fp, FpOk (X.comp N sc H2.objs.size s H fp) [] H' b := fun hn b hb => by
    obtain ⟨f0, f1, f2, f3, f4, f5⟩ := hf b hb
    obtain ⟨o, e⟩ := ho b hb
    refine ⟨hn b hb, below b (Heap.lt_size e), fun z => ?_, .inl hb, fun x a q => f4 x a (clos_look q), fun p hp => nomatch hp⟩
    rcases List.mem_cons.mp (I.stkSub b z) with q | q
    · exact f1 q
    · exact f2 q
  have fr0 : ∀ b ∈ fp, (upd H s.heap.objs.size (.lst [])) b = none := fun b hb => by
    obtain ⟨o, e⟩ := ho b hb
    rw [upd_ne (Nat.ne_of_lt (Heap.lt_size e))]
    exact (hf b hb).1
  have loop : ∀ s₃ : Shared, s₃ = { s with heap := h₁, toks := s.toks + ([] : List (Str × Value)).length } →
      codeAny (model X.prog X.w) X.A (.compLoop (.ListComp elt [⟨tg, iter, ifs, 0⟩] sc pos) 0 (.ref it) (.ref s.heap.objs.size) (compEnvC sc (closL X.env sc.names []) H2.objs.size X.env)) (R (.ref s.heap.objs.size) H2.objs.size) s₃ := by
    rintro s₃ rfl
    refine compLoop_any (fun n s' => ∃ i acc σ' H', Inv (X.comp N sc H2.objs.size s H fp) [] σ' H' s' ∧ tn i s'.heap ∧ (∀ b ∈ fp, H' b = none) ∧ W i n acc σ' H') ?_ m0 ⟨0, _, _, _, I0, st0, fr0, w0⟩
    rintro n s3 ⟨i, acc, σ3, H3, I3, st3, fr3, w3⟩
    rcases turn i n acc σ3 H3 w3 with ⟨stop, qn⟩ | ⟨go, NN, hNN, step⟩
    · refine thn (T.done (X.comp N sc H2.objs.size s H fp) rfl rfl rfl hc i [] s3 σ3 H3 F0 I3 (stat fr3) st3 stop) fun r s4 ⟨hr, I4⟩ => ?_
      subst hr
      exact hR _ _ _ _ _ hCle I4 qn
    · refine thn (T.item (X.comp N sc H2.objs.size s H fp) rfl rfl rfl hc i [] s3 σ3 H3 F0 I3 (stat fr3) st3 go) fun r s4 ⟨u, hr, h4⟩ => ?_
      subst hr
      refine thn h4 fun _ s5 ⟨x, H5, I5, r5, y5, st5, fr5⟩ => ?_
      have I5' := I5.pinned (stat fr5) (T.obj _ _ st5)
      refine thn ((hg _ _ _ _).h _ s5 σ3 H5 x u _ I5' r5 (step x H5 y5)) fun _ s6 ⟨σ6, H6, I6, q6⟩ => ?_
      refine thn ((ht _ _ _ _).h _ s6 σ6 H6 _ I6 q6) fun b s7 ⟨H7, I7, q7⟩ => ?_
      have again : ∀ {acc8 : List V} {s8 : Shared} {H8 : Hp}, Inv (X.comp N sc H2.objs.size s H fp) ([] ++ pinsAt fp s5.heap) σ6 H8 s8 → NN acc8 σ6 H8 → ∃ m, m < n ∧ ∃ i acc σ' H', Inv (X.comp N sc H2.objs.size s H fp) [] σ' H' s8 ∧ tn i s8.heap ∧ (∀ b ∈ fp, H' b = none) ∧ W i m acc σ' H' := fun {acc8 s8 H8} I8 w => by
        obtain ⟨m', hm, w8⟩ := hNN _ _ _ w
        refine ⟨m', hm, i + 1, acc8, σ6, H8, I8.unpinned, T.keep _ _ _ st5 fun b hb o e => (I8.pin (b, o) (List.mem_append_right _ (List.mem_append_right _ (mem_pinsAt hb e)))).1, fun b hb => ?_, w8⟩
        obtain ⟨o, e, d⟩ := T.obj _ _ st5 b hb
        exact (I8.pin (b, o) (List.mem_append_right _ (List.mem_append_right _ (mem_pinsAt hb e)))).2.1
      cases b with
      | false => exact again I7 q7
      | true =>
        refine thn ((he _ _ _ _).h _ s7 σ6 H7 _ I7 q7) fun y s8 ⟨v, H8, I8, r8, q8⟩ => ?_
        obtain ⟨hx, hz, w8⟩ := q8
        refine thn (mt_append (X := X.comp N sc H2.objs.size s H fp) _ s8 σ6 H8 (.ref s.heap.objs.size) [v] (.ref s.heap.objs.size) [y] (fun _ H9 => H9 = upd H8 s.heap.objs.size (.lst (acc ++ [v]))) I8 rfl (.cons r8 .nil) ⟨_, acc, v, rfl, rfl, hx, hz, rfl⟩) fun _ s9 ⟨_, H9, I9, _, q9⟩ => ?_
        subst q9
        exact again I9 w8
  exact codeAny_compStart_list (loop _ rfl) (T.self _ 0 _ _ _ st0 (loop _ rfl))
theorem elc (c : Cap X sc N src) (hc : X.calm = true) (hi : JI X tg iter wi)
    (hg : ∀ C s H fp, JG (X.comp N sc C s H fp) tg g) (ht : ∀ C s H fp, JF (X.comp N sc C s H fp) ifs tt) (he : ∀ C s H fp, JE (X.comp N sc C s H fp) elt te)
    (hs : ∀ x, foldedSetIterable iter X.env x = pure x := by intro _; rfl) : JE X (.ListComp elt [⟨tg, iter, ifs, 0⟩] sc pos) (tLc X.K wi src g tt te) := ⟨by
  intro pins s σ H Q I h
  rw [eval_ListComp]
  refine wpAny_comprehension_free (use := none) rfl hs (closureFor_eq fun x hx hk => ?_) c.kind c.names ?_
  · obtain ⟨n, k⟩ := x
    cases hk
    exact I.ok.has _ (c.free hx)
  refine thn (hi.h pins s σ H _ I h) fun v s1 h1 => thn h1 fun itv s2 h2 => ?_
  obtain ⟨it, fp, tn, J, H2, e, I2, T, st2, f2, h2⟩ := h2
  subst e
  refine comp_run (R := fun acc C => compPost (model X.prog X.w) X.A X.xe none (EP X pins σ Q) acc C) (Q := Q) c hc hg ht he I2 T st2 f2 h2 fun D C s' σ' H' hC I' q => ?_
  obtain ⟨m, hn, _⟩ := id I'.loc
  refine ⟨m, hn, fun h' sb => ?_⟩
  exact ⟨.ref D, H', I2.unblock f2 hC I' fun b hb => sb.2 b hb, rfl, q⟩⟩
theorem slc {i : Nat} {y : Str} {py spos : Pos} (hN : X.N.Nodup) (hy : X.N[i]? = some y) (hx : Loc X.env.scope y) (c : Cap X sc N src) (hc : X.calm = true) (hi : JI X tg iter wi)
    (hg : ∀ C s H fp, JG (X.comp N sc C s H fp) tg g) (ht : ∀ C s H fp, JF (X.comp N sc C s H fp) ifs tt) (he : ∀ C s H fp, JE (X.comp N sc C s H fp) elt te)
    (hsw : swapsWith (.ListComp elt [⟨tg, iter, ifs, 0⟩] sc pos) (some (.Name y py)) spos.line X.env = pure true := by rfl)
    (hf : X.fn y = true ∨ X.env.scope.names.lookup y = some .local := by first | exact .inl rfl | exact .inr rfl | assumption)
    (hs : ∀ x, foldedSetIterable iter X.env x = pure x := by intro _; rfl) : JS X (.Assign [.Name y py] (.ListComp elt [⟨tg, iter, ifs, 0⟩] sc pos) spos) (tAsg (tLc X.K wi src g tt te) (gName i)) := ⟨by
  intro pins s σ H D I h
  rw [exec_Assign_Name_used _ _ _ _ hsw]
  refine wpAny_bind (wpAny_standAt (wpAny_bind ?_))
  show wpAny _ X.A (do let _ ← comprehension (.ListComp elt [⟨tg, iter, ifs, 0⟩] sc pos) sc X.env _ (newList []) false (eval iter X.env) (some (assign (.Name y py) X.env))) _ _ s
  refine wpAny_bind (wpAny_mono (wpAny_comprehension_free (use := some (assign (.Name y py) X.env)) (Q := fun _ s' => SP X pins D .next s') rfl hs (closureFor_eq fun x hx hk => ?_) c.kind c.names ?_) (fun _ s' hq => wpAny_pure (wpAny_pure hq)) fun _ _ e => e)
  · obtain ⟨n, k⟩ := x
    cases hk
    exact I.ok.has _ (c.free hx)
  refine thn (hi.h pins s σ H _ I h) fun v s1 h1 => thn h1 fun itv s2 h2 => ?_
  obtain ⟨it, fp, tn, J, H2, e, I2, T, st2, f2, h2⟩ := h2
  subst e
  refine comp_run (R := fun acc C => compPost (model X.prog X.w) X.A X.xe (some (assign (.Name y py) X.env)) (fun _ s' => SP X pins D .next s') acc C) (Q := fun v H' => D.nx (σ.set i (some v)) H') c hc hg ht he I2 T st2 f2 h2 fun L C s' σ' H' hC I' q => ?_
  obtain ⟨m, hn, _⟩ := id I'.loc
  obtain ⟨o, es, ep, ho, r⟩ := id hn
  have I3 : Inv X pins σ H' s' := I2.unblock (h' := s'.heap) f2 hC I' fun _ _ => rfl
  have cL : C ≠ X.env.locals := Nat.ne_of_gt (Nat.lt_of_lt_of_le I2.lt hC)
  have cC : ∀ x a, X.env.cells.lookup x = some a → a ≠ C := fun x a e => by
    obtain ⟨v, o, e', _⟩ := I2.cell x a e
    exact Nat.ne_of_lt (Nat.lt_of_lt_of_le (Heap.lt_size e') hC)
  have cP : ∀ p ∈ X.pn ++ pins, p.1 ≠ C := fun p hp => Nat.ne_of_lt (Nat.lt_of_lt_of_le (Heap.lt_size (I2.pin p hp).1) hC)
  have fr : H' C = none := I'.free
  have I4 : Inv X (pins ++ [(C, o)]) σ H' s' := I3.pins_of fun p hp => (List.mem_append.mp hp).elim (fun z => I3.pin p (List.mem_append_right _ z)) fun z => by
    have e : p = (C, o) := by simpa using z
    subst e
    exact ⟨ho, fr, cL, I2.nofs hC, fun v z => by
      have r1 := r
      simp_all⟩
  show wpAny (model X.prog X.w) X.A (assign (.Name y py) X.env (.ref L)) _ _ s'
  refine thn (pg_name (pos := py) hN hy hx hf _ s' σ H' (.ref L) (.ref L) (fun σ1 H1 => D.nx σ1 H1 ∧ H1 = H') I4 rfl ⟨q, rfl⟩) fun _ s5 ⟨σ5, H5, I5, q5, e5⟩ => ?_
  subst e5
  have pC := (I5.pin (C, o) (List.mem_append_right _ (List.mem_append_right _ (by simp)))).1
  refine ⟨m, ⟨o, es, ep, pC, r⟩, fun h' sb => ?_⟩
  exact ⟨σ5, H5, I5.unpinned.turned (t' := s5.toks) (fun b u hb e => (sb.2 b hb).trans e) fr cL (.inr (Nat.le_trans I2.sz hC)) cC cP, q5⟩⟩
end
end L2
namespace L2
open PySem PySem.Spec PyProof.Rows
theorem pick_nil {σ : St} : pick σ [] = [] := rfl
theorem pick_own {σ : St} {r : List (Option Nat)} : pick σ (none :: r) = none :: pick σ r := rfl
theorem pick_cap {σ : St} {j : Nat} {r : List (Option Nat)} : pick σ (some j :: r) = (σ[j]?).join :: pick σ r := rfl
theorem join_some {α : Type} {o : Option α} : (some o).join = o := rfl
section
variable {K : PySem.W.Frag} {g : TG} {tt : TT} {te : TE} {D a : Addr} {Q : Hp → Prop} {σ : St} {H : Hp} {xs : List V} {lo : Int} {n : Nat}
theorem lc_run {J : It} (Pv : Nat → List V → St → Hp → Prop) (h0 : Pv 0 [] σ H) (hgo : ∀ i acc σ H, i < n → Pv i acc σ H → J.go i H) (hst : ∀ acc σ H, Pv n acc σ H → J.stop n H)
    (hs : ∀ i acc σ H x H', i < n → Pv i acc σ H → J.yld i H x H' → g x σ H' fun σ2 H2 => tt σ2 H2 fun b H3 => if b = true then te σ2 H3 fun v H4 => H4 D = some (.lst acc) ∧ acc.length < sizeLine ∧ Pv (i + 1) (acc ++ [v]) σ2 (upd H4 D (.lst (acc ++ [v]))) else Pv (i + 1) acc σ2 H3)
    (hd : ∀ acc σ H, Pv n acc σ H → Q H) : LcLoop J g tt te D Q σ H := by
  refine ⟨fun i m acc σ H => Pv i acc σ H ∧ i ≤ n ∧ m = n - i, ⟨n, h0, Nat.zero_le _, by omega⟩, fun i m acc σ H ⟨h, hi, hm⟩ => ?_⟩
  by_cases c : i < n
  · right
    exact ⟨hgo i acc σ H c h, Pv (i + 1), fun acc' σ' H' q => ⟨n - (i + 1), by omega, q, by omega, rfl⟩, fun x H' hy => hs i acc σ H x H' c h hy⟩
  · left
    have e : i = n := by omega
    subst e
    exact ⟨hst acc σ H h, hd acc σ H h⟩
theorem lc_range (Pv : Nat → List V → St → Hp → Prop) (h0 : Pv 0 [] σ H)
    (hs : ∀ i acc σ H, i < n → Pv i acc σ H → g (.int (lo + i)) σ H fun σ2 H2 => tt σ2 H2 fun b H3 => if b = true then te σ2 H3 fun v H4 => H4 D = some (.lst acc) ∧ acc.length < sizeLine ∧ Pv (i + 1) (acc ++ [v]) σ2 (upd H4 D (.lst (acc ++ [v]))) else Pv (i + 1) acc σ2 H3)
    (hd : ∀ acc σ H, Pv n acc σ H → Q H) : LcLoop (Itr lo n) g tt te D Q σ H := by
  refine lc_run (n := n) Pv h0 (fun i _ _ _ h _ => h) (fun _ _ _ _ => Nat.le_refl _) (fun i acc σ H x H' hi h hy => ?_) hd
  obtain ⟨rfl, rfl⟩ := hy
  exact hs i acc σ _ hi h
theorem lc_list (Pv : Nat → List V → St → Hp → Prop) (h0 : Pv 0 [] σ H) (hl : ∀ i acc σ H, i ≤ xs.length → Pv i acc σ H → SqL K H a xs)
    (hs : ∀ i x acc σ H, xs[i]? = some x → Pv i acc σ H → g x σ H fun σ2 H2 => tt σ2 H2 fun b H3 => if b = true then te σ2 H3 fun v H4 => H4 D = some (.lst acc) ∧ acc.length < sizeLine ∧ Pv (i + 1) (acc ++ [v]) σ2 (upd H4 D (.lst (acc ++ [v]))) else Pv (i + 1) acc σ2 H3)
    (hd : ∀ acc σ H, Pv xs.length acc σ H → Q H) : LcLoop (Itl K a) g tt te D Q σ H := by
  refine lc_run (n := xs.length) Pv h0 (fun i acc σ H hi h => ⟨xs, _, hl i acc σ H (Nat.le_of_lt hi) h, List.getElem?_eq_getElem hi⟩) (fun acc σ H h => ⟨xs, hl _ acc σ H (Nat.le_refl _) h, Nat.le_refl _⟩) (fun i acc σ H x H' hi h hy => ?_) hd
  obtain ⟨rfl, hy⟩ := hy
  exact hs i x acc σ _ (hy xs (hl i acc σ _ (Nat.le_of_lt hi) h)) h
theorem lc_tup (Pv : Nat → List V → St → Hp → Prop) (h0 : Pv 0 [] σ H) (hl : ∀ i acc σ H, i ≤ xs.length → Pv i acc σ H → SqT K H a xs)
    (hs : ∀ i x acc σ H, xs[i]? = some x → Pv i acc σ H → g x σ H fun σ2 H2 => tt σ2 H2 fun b H3 => if b = true then te σ2 H3 fun v H4 => H4 D = some (.lst acc) ∧ acc.length < sizeLine ∧ Pv (i + 1) (acc ++ [v]) σ2 (upd H4 D (.lst (acc ++ [v]))) else Pv (i + 1) acc σ2 H3)
    (hd : ∀ acc σ H, Pv xs.length acc σ H → Q H) : LcLoop (Itt K a) g tt te D Q σ H := by
  refine lc_run (n := xs.length) Pv h0 (fun i acc σ H hi h => ⟨xs, _, hl i acc σ H (Nat.le_of_lt hi) h, List.getElem?_eq_getElem hi⟩) (fun acc σ H h => ⟨xs, hl _ acc σ H (Nat.le_refl _) h, Nat.le_refl _⟩) (fun i acc σ H x H' hi h hy => ?_) hd
  obtain ⟨rfl, hy⟩ := hy
  exact hs i x acc σ _ (hy xs (hl i acc σ _ (Nat.le_of_lt hi) h)) h
theorem tLc_rng1 {ta : TA} {src : List (Option Nat)} {Q : VK} : tLc K (iRng1 ta) src g tt te σ H Q = ta σ H (fun vs H1 => ∃ j : Int, vs = [.int j] ∧ -(2 ^ 62) ≤ j ∧ j < 2 ^ 62 ∧ ∀ D, L2.new K H1 D → LcLoop (Itr 0 j.toNat) g tt te D (fun H' => Q (.ref D) H') (pick σ src) (upd H1 D (.lst []))) := rfl
theorem tLc_rng2 {ta : TA} {src : List (Option Nat)} {Q : VK} : tLc K (iRng2 ta) src g tt te σ H Q = ta σ H (fun vs H1 => ∃ i j : Int, vs = [.int i, .int j] ∧ (-(2 ^ 62) ≤ i ∧ i < 2 ^ 62 ∧ -(2 ^ 62) ≤ j ∧ j < 2 ^ 62) ∧ ∀ D, L2.new K H1 D → LcLoop (Itr i (j - i).toNat) g tt te D (fun H' => Q (.ref D) H') (pick σ src) (upd H1 D (.lst []))) := rfl
theorem tLc_list {tl : TE} {src : List (Option Nat)} {Q : VK} : tLc K (iList K tl) src g tt te σ H Q = tl σ H (fun x H1 => ∃ a, x = .ref a ∧ (∃ xs, SqL K H1 a xs) ∧ ∀ D, L2.new K H1 D → LcLoop (Itl K a) g tt te D (fun H' => Q (.ref D) H') (pick σ src) (upd H1 D (.lst []))) := rfl
theorem tLc_tup {tl : TE} {src : List (Option Nat)} {Q : VK} : tLc K (iTup K tl) src g tt te σ H Q = tl σ H (fun x H1 => ∃ a, x = .ref a ∧ (∃ xs, SqT K H1 a xs) ∧ ∀ D, L2.new K H1 D → LcLoop (Itt K a) g tt te D (fun H' => Q (.ref D) H') (pick σ src) (upd H1 D (.lst []))) := rfl
end
end L2
namespace L2
open PySem PySem.Spec PyProof.Rows
section
variable {X : Cx} {es : List Expr} {t : TA} {pos : Pos} (K : PySem.W.Frag)
theorem etupQK {k} (h : JA X es t) (hk : X.K = K := by rfl) : JE X (.Tuple es k pos) (tTupQ K t) := by subst hk; exact etupQ h
theorem gtupQK {k : Nat} {t : TGs} {n : Nat} (hc : X.calm = true) (h : JGs X es t) (hn : (assignEach es X.env).length = n := by rfl) (hst : (assignEach es X.env).findIdx? (·.1) = none := by rfl) (hk : X.K = K := by rfl) : JG X (.Tuple es k pos) (gTupQ K n t) := by subst hk; exact gtupQ hc h hn hst
end
end L2
namespace L2
open PySem PySem.Spec PyProof.Rows
section
variable {X : Cx} {pins : List (Addr × Obj)} {σ : St} {H : Hp} {s : Shared}
theorem Inv.notMod (I : Inv X pins σ H s) {a : Addr} {o : HO} (h : H a = some o) : kTup X.K a = none := by
  cases e : kTup X.K a with
  | none => rfl
  | some xs =>
    obtain ⟨ob, q⟩ := kTup_look e
    rw [(I.bs a ob (I.ok.mod.kin a ob q)).2] at h
    cases h
theorem call_list_ofQ : CallR X (.type "list") (fun xs H Q => ∃ p ys, xs = [.ref p] ∧ seqQ X.K H p = some ys ∧ ∀ l, L2.new X.K H l → Q (.ref l) (upd H l (.lst ys))) := by
  intro pins s σ H xs us Q I r h
  obtain ⟨p, ys, e, hq, q⟩ := h
  refine thn (call_list_of pins s σ H xs us (fun v H' => ∃ l, H l = none ∧ v = .ref l ∧ H' = upd H l (.lst ys)) I r ⟨p, ys, e, seqQ_sq hq, fun l hl => ⟨l, hl, rfl, rfl⟩⟩) fun u s' ⟨v, H', I', rv, l, hl, e1, e2⟩ => ?_
  subst e1 e2
  exact ⟨_, _, I', rv, q l ⟨hl, I'.notMod upd_same⟩⟩
theorem call_list_ofQK (K : PySem.W.Frag) (hk : X.K = K := by rfl) : CallR X (.type "list") (fun xs H Q => ∃ p ys, xs = [.ref p] ∧ seqQ K H p = some ys ∧ ∀ l, L2.new K H l → Q (.ref l) (upd H l (.lst ys))) := by subst hk; exact call_list_ofQ
end
theorem Kp2.kp {K : PySem.W.Frag} {p D : Addr} {H H' : Hp} {o : HO} (k : Kp2 K p D (upd H D o) H') (n : L2.new K H D) : Kp K p H H' := by
  refine ⟨fun q u e m => ?_, fun b ys e m => k.mod b ys ((Ext.new n).mod b ys e m) m⟩
  have d : q ≠ D := ne_of_none e n.1
  exact k.keep q u (by rw [upd_ne d]; exact e) m d
theorem Kp2.refl {K : PySem.W.Frag} {p D : Addr} {H : Hp} : Kp2 K p D H H := ⟨fun _ _ h _ _ => h, fun _ _ h _ => h⟩
end L2
set_option Elab.async false
set_option linter.all false
set_option maxRecDepth 100000
namespace L2
open PySem PySem.Spec PyProof.Rows
def strKeysB (es : Array DictEntry) : Bool := es.toList.all fun e => match e.key with | .str _ _ => true | _ => false
def gk {α : Type} (n m : Nat) (us ws : List α) : List α := if us.length = n ∧ ws.length = m then us ++ ws else []
theorem gk_11 {α : Type} {a b : α} : gk 1 1 [a] [b] = [a, b] := rfl
theorem gk_31 {α : Type} {a b c d : α} : gk 3 1 [a, b, c] [d] = [a, b, c, d] := rfl
structure JK (X : Cx) (kws : List Keyword) (t : TA) : Prop where h : PK X kws t
structure CalleeK (P : Program) (w : World) (K : PySem.W.Frag) (mg : Str → Option Value) (base : Heap) (x : Str) (k : Nat) (ps : List Str) (ks : List Str) (n m : Nat) (sp : Sp) : Prop where
  ex : ∃ (f : Addr) (fd : FuncData), FnOk P w K mg base CX0 k f fd ps sp ∧ KBinds K fd ps ks (gk n m) (gk n m) ∧ PySem.W.keepIn K (.ref f) = true ∧ mg x = some (.ref f)
structure CalleeD (P : Program) (w : World) (K : PySem.W.Frag) (mg : Str → Option Value) (base : Heap) (x : Str) (k : Nat) (ps : List Str) (dvs : List V) (sp : Sp) : Prop where
  ex : ∃ (f : Addr) (fd : FuncData) (ds : List Value), FnOk P w K mg base CX0 k f fd ps sp ∧ Binds K fd ps ds ∧ Vals dvs ds ∧ PySem.W.keepIn K (.ref f) = true ∧ mg x = some (.ref f)
section
variable {X : Cx} {x : Str} {k n m : Nat} {ps ks : List Str} {dvs : List V} {sp : Sp} {e : Expr} {es : List Expr} {kws : List Keyword} {t tk : TA} {te : TE} {p pos kpos : Pos} {nm : Option Str}
theorem tCallKC {gV : List V → List V → List V} {E : XK} {σ : St} {H : Hp} {Q : VK} : tCallK sp gV E t tk σ H Q = t σ H (fun vs H1 => tk σ H1 fun zs H2 => Cal sp (gV vs zs) H2 Q ⟨0⟩ E) := rfl
end
end L2
namespace L2
open PySem PySem.Spec PyProof.Rows
end L2
namespace L2
open PySem PySem.Spec PyProof.Rows
section
variable {K : PySem.W.Frag} {s : Shared} {fd : FuncData} {args : Args} {binds : List (Str × Value)} {d : Addr} {name : Str} {v cls : Value} {es : Array DictEntry} {ep : Nat} {od : Option Addr} {sl : Array (Option Value)} {α β : Type}
end
end L2
set_option Elab.async false
set_option linter.all false
set_option maxRecDepth 100000
namespace L2
open PySem PySem.Spec PyProof.Rows
section
variable {X : Cx} {o lo hi e : Expr} {to tl th te : TE} {p pos : Pos}
def gSlice (to tl th : TE) : TG := fun v σ H Q => to σ H fun x H1 => tl σ H1 fun i H2 => th σ H2 fun j H3 => ∃ l b xs ys a c, x = .ref l ∧ v = .ref b ∧ i = .int a ∧ j = .int c ∧ H3 l = some (.lst xs) ∧ H3 b = some (.lst ys) ∧ l ≠ b ∧ 0 ≤ a ∧ a ≤ c ∧ c ≤ xs.length ∧ xs.length + ys.length ≤ sizeLine ∧
  Q σ (upd H3 l (.lst (xs.take a.toNat ++ ys ++ xs.drop c.toNat)))
def rCatS (K : PySem.W.Frag) : R2 := fun x y H Q => ∃ l b xs zs, x = .ref l ∧ y = .ref b ∧ SqL K H l xs ∧ H b = some (.lst zs) ∧ xs.length + zs.length ≤ sizeLine ∧ ∀ p, L2.new K H p → Q (.ref p) (upd H p (.lst (xs ++ zs)))
theorem vals_rev : ∀ {xs : List V} {us : List Value}, Vals xs us → Vals xs.reverse us.reverse
  | _, _, .nil => .nil
  | _, _, .cons r rr => by rw [List.reverse_cons, List.reverse_cons]; exact (vals_rev rr).append (.cons r .nil)
def tRev (K : PySem.W.Frag) (te : TE) : TE := fun σ H Q => te σ H fun x H1 => ∃ a xs, x = .ref a ∧ SqL K H1 a xs ∧ ∀ p, L2.new K H1 p → Q (.ref p) (upd H1 p (.lst xs.reverse))
theorem erev {j1 : Nat} {p1 p2 p3 : Pos} (he : JE X e te) : JE X (.Subscript e (.Slice none none (some (.UnaryOp .USub (.Constant (.int 1) j1 p1) p2)) p3) pos) (tRev X.K te) := ⟨by
  intro pins s σ H Q I h
  refine Subscript_ (thn (he.h pins s σ H _ I h) fun v s1 ⟨x, H1, I1, r1, q1⟩ => ?_)
  refine wpAny_Slice ?_
  rw [evalPart_none]
  refine wpAny_pure (wpAny_pure ?_)
  rw [evalPart_some]
  refine thn ((eun (pos := p2) un_neg (ei (X := X) (i := 1) (j := j1) (pos := p1))).h pins s1 σ H1 (fun y H2 => y = .int (-1) ∧ H2 = H1) I1 ⟨1, rfl, rfl, rfl⟩) fun vs s2 ⟨y, H2, I2, r2, q2, q3⟩ => ?_
  subst q2 q3
  obtain ⟨tk, rfl⟩ := r2
  obtain ⟨a, xs, rfl, hx, q⟩ := q1
  cases r1
  have I4 : Inv X pins σ H2 { s2 with heap := s2.heap.push { cls := .type "slice", data := .fields #[.none, .none, .int (-1) tk] } } := I2.kept (t' := s2.toks) fun b ob q => Heap.get?_push_of_some _ q
  obtain ⟨its, r, ht, hz⟩ := I4.list hx
  have hlen := r.length
  show wpAny (model X.prog X.w) X.A (subscriptTail e (.Slice none none (some (.UnaryOp .USub (.Constant (.int 1) j1 p1) p2)) p3) (.ref a) (.ref s2.heap.objs.size)) (EP X pins σ Q) X.xe { s2 with heap := s2.heap.push { cls := .type "slice", data := .fields #[.none, .none, .int (-1) tk] } }
  refine tail_any (ops := [.ref a, .ref s2.heap.objs.size]) ht.isList.typeIs slot_list_getitem.lookup ?_ (by with_unfolding_all rfl)
  refine wpAny_getItem_list_slice ht.isList (Heap.IsSliceOf.new ..) .none .none (.int _ _) (by decide) ?_ (by rw [List.size_toArray] <;> omega)
  rw [PySem.W.krv_pick]
  exact ⟨.ref _, _, I4.lnew (t' := s2.toks) (vals_rev r) (by rw [List.length_reverse]; exact hz), rfl, q _ I4.new⟩⟩
end
end L2
namespace L2
open PySem PySem.Spec PyProof.Rows
section
variable {X : Cx}
def rSlTQ (K : PySem.W.Frag) : V → Option Int → Option Int → Hp → VK → Prop := fun x lo hi H Q => ∃ a xs, x = .ref a ∧ tupQ K H a = some xs ∧
  ¬ (HT.sIx xs.length 0 lo = 0 ∧ HT.sIx xs.length xs.length hi = xs.length) ∧ ∀ p, L2.new K H p → Q (.ref p) (upd H p (.tup (cutV xs lo hi)))
end
end L2
set_option Elab.async false
set_option linter.all false
set_option maxRecDepth 100000
namespace L2
open PySem PySem.Spec PyProof.Rows
abbrev TBd := List V → St → Hp → (List V → St → Hp → Prop) → Prop
def LcLoopA (J : It) (g : TG) (tt : TT) (body : TBd) (acc0 : List V) (F : List V → St → Hp → Prop) (σ : St) (H : Hp) : Prop := ∃ W : Nat → Nat → List V → St → Hp → Prop, (∃ m, W 0 m acc0 σ H) ∧ ∀ i m acc σ H, W i m acc σ H →
  (J.stop i H ∧ F acc σ H) ∨ (J.go i H ∧ ∃ N : List V → St → Hp → Prop, (∀ acc' σ' H', N acc' σ' H' → ∃ m', m' < m ∧ W (i + 1) m' acc' σ' H') ∧ ∀ x H', J.yld i H x H' → g x σ H' fun σ2 H2 => tt σ2 H2 fun b H3 =>
    if b = true then body acc σ2 H3 N else N acc σ2 H3)
def bodyE (te : TE) (D : Addr) : TBd := fun acc σ H N => te σ H fun v H4 => H4 D = some (.lst acc) ∧ acc.length < sizeLine ∧ N (acc ++ [v]) σ (upd H4 D (.lst (acc ++ [v])))
def bodyL (wi : TI) (g : TG) (tt : TT) (te : TE) (D : Addr) : TBd := fun acc σ H N => wi σ H fun J H1 => LcLoopA J g tt (bodyE te D) acc N σ H1
def tLc2 (K : PySem.W.Frag) (wi : TI) (src : List (Option Nat)) (g : TG) (tt : TT) (wi1 : TI) (g1 : TG) (tt1 : TT) (te : TE) : TE := fun σ H Q => wi σ H fun J H1 => ∀ D, L2.new K H1 D → LcLoopA J g tt (bodyL wi1 g1 tt1 te D) [] (fun _ _ H' => Q (.ref D) H') (pick σ src) (upd H1 D (.lst []))
section
variable {elt tg iter tg1 iter1 : Expr} {ifs ifs1 : List Expr} {scope : Scope} {pos : Pos} {it acc : Value} {env : Env}
variable {prog : Program} {w : World} {A : Around} {R : Result → Shared → Prop} {s : Shared}
end
section
variable {Y : Cx} {elt tg iter tg1 iter1 : Expr} {ifs ifs1 : List Expr} {scope : Scope} {pos : Pos} {g : TG} {tt : TT} {te : TE}
end
section
variable {X : Cx} {sc : Scope} {N : List Str} {src : List (Option Nat)} {tg iter tg1 iter1 elt : Expr} {ifs ifs1 : List Expr} {wi wi1 : TI} {g g1 : TG} {tt tt1 : TT} {te : TE} {pos : Pos}
end
section
variable {K : PySem.W.Frag} {g : TG} {tt : TT} {body : TBd} {a : Addr} {acc0 : List V} {F : List V → St → Hp → Prop} {σ : St} {H : Hp} {xs : List V} {n : Nat}
end
end L2
set_option Elab.async false
set_option linter.all false
set_option maxRecDepth 100000
namespace L2
open PySem PySem.Spec PyProof.Rows
theorem vals_at {xs : List V} {us : List Value} (h : Vals xs us) : ∀ {i : Nat} {u : Value}, us[i]? = some u → ∃ x, xs[i]? = some x ∧ RelV x u := by
  induction h with
  | nil => intro i u e; simp at e
  | cons r rr ih =>
    intro i u e
    cases i with
    | zero => simp only [List.getElem?_cons_zero, Option.some.injEq] at e ⊢; exact ⟨_, rfl, e ▸ r⟩
    | succ i => simp only [List.getElem?_cons_succ] at e ⊢; exact ih e
section
variable {X : Cx}
theorem range_all {bs : List Bool} : (List.range bs.length).all (fun i => bs.getD i true) = bs.all id := by
  induction bs with
  | nil => rfl
  | cons b bs ih =>
    rw [List.length_cons, List.range_succ_eq_map, List.all_cons, List.all_map, List.all_cons]
    have e : ((fun i => (b :: bs).getD i true) ∘ Nat.succ) = fun i => bs.getD i true := by funext i; simp
    rw [e, ih]
    rfl
theorem bools_truth {P : Program} {w : World} {A : Around} {bs : List Bool} {us : List Value} (r : Vals (bs.map V.bl) us) : TruthOf P w A (fun i v => us.toArray[i]? = some v) (fun i => bs.getD i true) := by
  intro i v s Q E hv hQ
  rw [List.getElem?_toArray] at hv
  obtain ⟨x, hx, rx⟩ := vals_at r hv
  rw [List.getElem?_map] at hx
  obtain ⟨b, hb, rfl⟩ := Option.map_eq_some_iff.mp hx
  cases rx
  have e : bs.getD i true = b := by rw [List.getD_eq_getElem?_getD, hb]; rfl
  dsimp only at hQ
  rw [e] at hQ
  exact wpAny_truthy_bool hQ
theorem kept_iter {s : Shared} {l : Addr} {h' : Heap} (hk : ∀ b o, b ∉ [s.heap.objs.size] → (s.heap.push { cls := .type "list_iterator", data := .fields #[.ref l, .int 0 0] }).get? b = some o → h'.get? b = some o) : ∀ b o, s.heap.get? b = some o → h'.get? b = some o := fun b o e => by
  refine hk b o (fun m => ?_) (Heap.get?_push_of_some _ e)
  have q : b = s.heap.objs.size := by simpa using m
  exact Nat.lt_irrefl _ (q ▸ Heap.lt_size e)
theorem call_allL (hc : X.calm = true) : CallR X (.builtin "all") (fun xs H Q => ∃ (p : Addr) (bs : List Bool), xs = [.ref p] ∧ SqL X.K H p (bs.map V.bl) ∧ Q (.bl (bs.all id)) H) := by
  intro pins s σ H xs us Q I r h
  obtain ⟨p, bs, rfl, hx, q⟩ := h
  obtain ⟨u, rfl, ru⟩ := vals1 r
  cases ru
  obtain ⟨its, rv, ht, hz⟩ := I.list hx
  have hl : s.heap.IsList p its.toArray := ht.isList
  have hlt : p < s.heap.objs.size := by obtain ⟨_, e, _⟩ := hl; exact Heap.lt_size e
  refine call_all_walk (wpAny_pyIter_list hl ?_)
  refine ⟨_, _, _, _, _, _, fun i => bs.getD i true, rfl, Walks.list (A := X.A.in1) (I.ok.hd hc) _ p (Nat.ne_of_lt hlt) its.toArray, ⟨⟨_, Heap.get?_push_size _ rfl, rfl, rfl⟩, hl.push _⟩, bools_truth rv, fun h' tk hk => ?_⟩
  have el : its.toArray.size = bs.length := by rw [List.size_toArray, ← rv.length, List.length_map]
  rw [el, range_all]
  exact ⟨.bl _, H, I.kept (kept_iter hk), rfl, q⟩
end
section
variable {P : Program} {w : World} {A : Around} {E : Value → Shared → Prop} {s : Shared} {b0 : Array Keyed}
end
section
variable {X : Cx}
def tSortDown (K : PySem.W.Frag) (t : TA) : TE := fun σ H Q => t σ H fun vs H1 => ∃ (p : Addr) (ns : List Int), vs = [.ref p] ∧ SqL K H1 p (ns.map V.int) ∧ ns.Pairwise (· ≥ ·) ∧ ∀ D, L2.new K H1 D → Q (.ref D) (upd H1 D (.lst (ns.map V.int)))
end
end L2
set_option Elab.async false
set_option linter.all false
set_option maxRecDepth 100000
namespace L2
open PySem PySem.Spec PyProof.Rows
def Rise (xs : Array Nat) : Prop := xs.toList.Pairwise (· < ·)
structure TabOk (t : SetTable) : Prop where
  bare : t.dummies = #[]
  rise : Rise t.place
section
variable {xs : Array Nat} {j : Nat}
theorem Rise.lt (h : Rise xs) {i k : Nat} (ik : i < k) (hk : k < xs.size) : xs.getD i j < xs.getD k j := by
  have hi : i < xs.size := Nat.lt_trans ik hk
  rw [Array.getD_eq_getD_getElem?, Array.getD_eq_getD_getElem?, Array.getElem?_eq_getElem hi, Array.getElem?_eq_getElem hk]
  have q := List.pairwise_iff_getElem.mp h i k (by simpa using hi) (by simpa using hk) ik
  simpa using q
theorem low_lt (h : Rise xs) {m : Nat} (hm : xs.getD m j < j) {i : Nat} (hi : i ≤ m) : xs.getD i j < j := by
  by_cases c : m < xs.size
  · by_cases e : i = m
    · rw [e]; exact hm
    · have := h.lt (j := j) (show i < m by omega) c
      omega
  · rw [Array.getD_eq_getD_getElem?, Array.getElem?_eq_none (by omega)] at hm
    exact absurd hm (Nat.lt_irrefl _)
theorem high_ge (h : Rise xs) {m : Nat} (hm : ¬ xs.getD m j < j) {i : Nat} (hi : m ≤ i) : ¬ xs.getD i j < j := fun c => hm (low_lt h c hi)
theorem below_go (h : Rise xs) : ∀ fuel lo hi, lo ≤ hi → hi ≤ xs.size → hi - lo ≤ fuel → (∀ i, i < lo → xs.getD i j < j) → (∀ i, hi ≤ i → ¬ xs.getD i j < j) →
    SetTable.below.go xs j fuel lo hi ≤ xs.size ∧ (∀ i, i < SetTable.below.go xs j fuel lo hi → xs.getD i j < j) ∧ ∀ i, SetTable.below.go xs j fuel lo hi ≤ i → ¬ xs.getD i j < j
  | 0, lo, hi, h1, h2, h3, h4, h5 => by
    have e : lo = hi := by omega
    unfold SetTable.below.go
    exact ⟨by omega, h4, fun i hi' => h5 i (by omega)⟩
  | fuel + 1, lo, hi, h1, h2, h3, h4, h5 => by
    unfold SetTable.below.go
    by_cases c : lo < hi
    · rw [if_pos c]
      dsimp only
      by_cases d : xs.getD ((lo + hi) / 2) j < j
      · rw [if_pos d]
        exact below_go h fuel _ _ (by omega) h2 (by omega) (fun i hi' => low_lt h d (by omega)) h5
      · rw [if_neg d]
        exact below_go h fuel _ _ (by omega) (by omega) (by omega) h4 (fun i hi' => high_ge h d hi')
    · rw [if_neg c]
      exact ⟨by omega, h4, fun i hi' => h5 i (by omega)⟩
theorem below_spec (h : Rise xs) (j : Nat) : SetTable.below xs j ≤ xs.size ∧ (∀ i, i < SetTable.below xs j → xs.getD i j < j) ∧ ∀ i, SetTable.below xs j ≤ i → ¬ xs.getD i j < j := by
  unfold SetTable.below
  refine below_go h _ _ _ (Nat.zero_le _) (Nat.le_refl _) (by omega) (fun i hi => absurd hi (Nat.not_lt_zero _)) (fun i hi => ?_)
  rw [Array.getD_eq_getD_getElem?, Array.getElem?_eq_none hi]
  exact Nat.lt_irrefl _
theorem Rise.insert (h : Rise xs) {j : Nat} (free : xs[SetTable.below xs j]? ≠ some j) : Rise (SetTable.insertAt xs (SetTable.below xs j) j) := by
  obtain ⟨b1, b2, b3⟩ := below_spec h j
  generalize SetTable.below xs j = p at *
  have at_ : ∀ i (hi : i < xs.size), xs.getD i j = xs.toList[i]'(by simpa using hi) := fun i hi => by
    rw [Array.getD_eq_getD_getElem?, Array.getElem?_eq_getElem hi]; simp
  unfold Rise SetTable.insertAt
  rw [Array.toList_append, Array.toList_push, Array.toList_extract, Array.toList_extract]
  simp only [List.extract_eq_drop_take, Nat.sub_zero, List.drop_zero]
  have e1 : List.take (xs.size - p) (List.drop p xs.toList) = xs.toList.drop p := List.take_of_length_le (by rw [List.length_drop]; simp)
  rw [e1, List.append_assoc]
  refine List.pairwise_append.mpr ⟨h.sublist (List.take_sublist _ _), ?_, ?_⟩
  · refine List.pairwise_append.mpr ⟨List.pairwise_singleton _ _, h.sublist (List.drop_sublist _ _), fun a ha c hc => ?_⟩
    have ea : a = j := by simpa using ha
    subst ea
    obtain ⟨i, hi, rfl⟩ := List.mem_iff_getElem.mp hc
    rw [List.length_drop] at hi
    rw [List.getElem_drop]
    have hlt : p + i < xs.size := by simp at hi; omega
    have q := b3 (p + i) (by omega)
    rw [at_ _ hlt] at q
    by_cases z : i = 0
    · subst z
      have ne : xs.toList[p + 0]'(by simpa using hlt) ≠ a := fun e => free (by
        rw [Array.getElem?_eq_getElem (by simpa using hlt)]
        simpa using e)
      omega
    · have hp : p < xs.size := by omega
      have q0 := b3 p (Nat.le_refl _)
      have q1 := h.lt (j := a) (show p < p + i by omega) hlt
      rw [at_ _ hlt] at q1
      omega
  · intro a ha c hc
    obtain ⟨i, hi, rfl⟩ := List.mem_iff_getElem.mp ha
    rw [List.length_take] at hi
    rw [List.getElem_take]
    have hlt : i < xs.size := by simp at hi; omega
    have qa := b2 i (by omega)
    rw [at_ _ hlt] at qa
    rcases List.mem_append.mp hc with z | z
    · have e : c = j := by simpa using z
      rw [e]; exact qa
    · obtain ⟨k, hk, rfl⟩ := List.mem_iff_getElem.mp z
      rw [List.length_drop] at hk
      rw [List.getElem_drop]
      exact List.pairwise_iff_getElem.mp h i (p + k) _ _ (by omega)
end
theorem has_none (j : Nat) : SetTable.has #[] j = false := by simp [SetTable.has]
theorem TabOk.slot {t : SetTable} (h : TabOk t) {j : Nat} (e : t.slot j = .empty) : t.place[SetTable.below t.place j]? ≠ some j := by
  intro c
  unfold SetTable.slot at e
  simp only [c, beq_self_eq_true, if_true] at e
  cases e
theorem probe_free {t : SetTable} (h : TabOk t) {f : Nat → Int} {x : Int} : ∀ (fuel : Nat) (p : SetTable.Probe) {j : Nat} {d : Option Nat}, p.dummy = none → SetTable.probe.go t f x fuel p = some (.empty j d) → d = none ∧ t.slot j = .empty
  | 0, p, j, d, hp, e => by unfold SetTable.probe.go at e; cases e
  | fuel + 1, p, j, d, hp, e => by
    unfold SetTable.probe.go at e
    have adv : (t.advance p).dummy = none := by unfold SetTable.advance; split <;> exact hp
    cases c : t.slot p.j with
    | empty =>
      rw [c] at e
      dsimp only at e
      cases e
      exact ⟨hp, c⟩
    | dummy =>
      exfalso
      unfold SetTable.slot at c
      dsimp only at c
      split at c
      · cases c
      · rw [h.bare, has_none] at c
        simp at c
    | live i =>
      rw [c] at e
      dsimp only at e
      split at e
      · cases e
      · exact probe_free h fuel _ adv e
theorem TabOk.standIn {t : SetTable} (n : Nat) : TabOk (t.standIn n) := ⟨rfl, by
  show (Array.range n).toList.Pairwise (· < ·)
  rw [Array.toList_range]
  exact List.pairwise_lt_range⟩
theorem TabOk.orStandIn {t : SetTable} (h : TabOk t) (n : Nat) : TabOk (t.orStandIn n) := by
  unfold SetTable.orStandIn
  split
  · exact h
  · exact .standIn n
theorem TabOk.put {t : SetTable} (h : TabOk t) {j : Nat} (e : t.slot j = .empty) : TabOk (t.put j).1 := ⟨by
  show (if SetTable.has t.dummies j then _ else t.dummies) = #[]
  rw [h.bare, has_none]
  rfl, h.rise.insert (h.slot e)⟩
theorem layNew_tab {t : SetTable} (h : TabOk t) (es : Array (Int × Value)) (hv : Int) (x : Value) : TabOk (layNew t es hv x).2.1 ∧ (layNew t es hv x).2.1.led = t.led := by
  unfold layNew
  cases c : t.freeSlot hv with
  | none => exact ⟨.standIn _, rfl⟩
  | some q =>
    obtain ⟨sl, wd⟩ := q
    have free : t.slot sl = .empty := by
      unfold SetTable.freeSlot at c
      split at c
      · next j d e =>
        unfold SetTable.probe at e
        obtain ⟨rfl, z⟩ := probe_free h _ _ rfl e
        simp only [Option.getD_none, Option.isSome_none, Option.some.injEq, Prod.mk.injEq] at c
        rw [← c.1]; exact z
      · cases c
    dsimp only
    refine ⟨(h.put free).orStandIn _, ?_⟩
    unfold SetTable.orStandIn
    split
    · rfl
    · rfl
theorem laid_rise (f : Nat → Option Nat) : ∀ l : List Nat, l.Pairwise (· < ·) → ((l.filterMap fun j => (f j).map (j, ·)).map (·.1)).Pairwise (· < ·) ∧ ∀ a ∈ (l.filterMap fun j => (f j).map (j, ·)).map (·.1), a ∈ l
  | [], _ => ⟨List.Pairwise.nil, fun a h => nomatch h⟩
  | j :: l, h => by
    obtain ⟨i1, i2⟩ := laid_rise f l (List.pairwise_cons.mp h).2
    cases c : f j with
    | none =>
      rw [List.filterMap_cons_none (by rw [c]; rfl)]
      exact ⟨i1, fun a ha => List.mem_cons_of_mem _ (i2 a ha)⟩
    | some k =>
      rw [List.filterMap_cons_some (b := (j, k)) (by rw [c]; rfl)]
      refine ⟨List.pairwise_cons.mpr ⟨fun a ha => (List.pairwise_cons.mp h).1 a (i2 a ha), i1⟩, fun a ha => ?_⟩
      rcases List.mem_cons.mp ha with z | z
      · exact z ▸ List.mem_cons_self
      · exact List.mem_cons_of_mem _ (i2 a z)
theorem relayAll_tab {t : SetTable} (es : Array (Int × Value)) (n : Nat) : TabOk (relayAll t es n).2.1 ∧ (relayAll t es n).2.1.led = t.led := by
  unfold relayAll
  cases c : t.relaid (es.map (·.1)) n with
  | none => exact ⟨.standIn _, rfl⟩
  | some q =>
    obtain ⟨t', order⟩ := q
    dsimp only
    split
    · unfold SetTable.relaid SetTable.laid at c
      cases d : SetTable.layClean (SetTable.sizeAbove n - 1) (es.map (·.1)) with
      | none => rw [d] at c; cases c
      | some owner =>
        rw [d] at c
        simp only [Option.bind_eq_bind, Option.bind_some, Option.pure_def, Option.some.injEq, Prod.mk.injEq] at c
        rw [← c.1]
        refine ⟨⟨rfl, ?_⟩, rfl⟩
        exact (laid_rise (fun j => owner.getD j none) _ List.pairwise_lt_range).1
    · exact ⟨.standIn _, rfl⟩
def ksOf (es : Array (Int × Value)) : List Int := es.toList.map fun e => numOf e.2
structure SetAt (P : Program) (w : World) (h : Heap) (a : Addr) (L : Bool) (M : Int → Prop) (n : Nat) (es : Array (Int × Value)) (ep : Nat) (t : SetTable) : Prop where
  at_ : ∃ o, h.get? a = some o ∧ o.ExactSet ∧ o.data = .set es ep t
  elems : ElemsOf (intKind P w) es.toList
  nd : (ksOf es).Nodup
  mem : ∀ k, k ∈ ksOf es ↔ M k
  len : es.size ≤ n
  fits : t.fits es.size = true
  tab : TabOk t
  led : t.led = L
def SetI (P : Program) (w : World) (h : Heap) (a : Addr) (L : Bool) (M : Int → Prop) (n : Nat) : Prop := ∃ es ep t, SetAt P w h a L M n es ep t
section
variable {P : Program} {w : World} {A : Around} {E : Value → Shared → Prop} {s : Shared}
theorem SetI.keep {h h' : Heap} {a : Addr} {L : Bool} {M : Int → Prop} {n : Nat} (q : SetI P w h a L M n) (k : ∀ o, h.get? a = some o → h'.get? a = some o) : SetI P w h' a L M n := by
  obtain ⟨es, ep, t, x⟩ := q
  obtain ⟨o, h1, h2⟩ := x.at_
  exact ⟨es, ep, t, ⟨⟨o, k o h1, h2⟩, x.elems, x.nd, x.mem, x.len, x.fits, x.tab, x.led⟩⟩
theorem is_num {k : Int} {v : Value} (h : (intKind P w).is k v = true) : numOf v = k ∧ ∃ t, v = .int k t := by
  obtain ⟨t, rfl⟩ := Value.isInt_shape h
  exact ⟨rfl, t, rfl⟩
theorem set_stored {h : Heap} {a : Addr} {o : Obj} {es0 es : Array (Int × Value)} {ep : Nat} {t0 t : SetTable} (ho : h.get? a = some o) (hx : o.ExactSet) (hd : o.data = .set es0 ep t0) :
    ∃ o', (h.update a (Obj.putSet es t)).get? a = some o' ∧ o'.ExactSet ∧ o'.data = .set es (ep + 1) t := by
  refine ⟨{ o with data := .set es (ep + 1) t }, ?_, hx, rfl⟩
  have g := Heap.get?_update_self (Obj.putSet es t) ho (by rw [putSet_of es t hd]; rfl)
  rwa [putSet_of es t hd] at g
theorem add_end {g : Bool → Sem Unit} (hg : ∀ (b : Bool) (s1 : Shared) (R : Unit → Shared → Prop), R () s1 → wpAny (model P w) A (g b) R E s1) {a : Addr} {o : Obj} {es0 es : Array (Int × Value)} {ep : Nat} {t0 t : SetTable} {L : Bool} {M : Int → Prop} {n : Nat} {wd : Bool} {R : Option Bool → Shared → Prop}
    (ho : s.heap.get? a = some o) (hx : o.ExactSet) (hd : o.data = .set es0 ep t0) (h1 : ElemsOf (intKind P w) es.toList) (h2 : (ksOf es).Nodup) (h3 : ∀ k, k ∈ ksOf es ↔ M k) (h4 : es.size ≤ n) (h5 : t.fits es.size = true) (h6 : TabOk t) (h7 : t.led = L) (hn : n < scanBound)
    (q : ∀ h', Heap.SameBut a s.heap h' → SetI P w h' a L M n → R (some true) { s with heap := h' }) :
    wpAny (model P w) A (do
      storeSet a es t
      if (!wd && t.tooFull) = true then do
        g (relayAll t es (SetTable.grown es.size)).2.2
        storeSet a (relayAll t es (SetTable.grown es.size)).1 (relayAll t es (SetTable.grown es.size)).2.1
        pure (some true)
      else pure (some true)) R E s := by
  refine wpAny_bind (wpAny_storeSet_of ho hd ?_ (fits_of_scanBound (Nat.lt_of_le_of_lt h4 hn)))
  obtain ⟨o1, g1, x1, d1⟩ := set_stored (es := es) (t := t) ho hx hd
  have sb := Heap.SameBut.update s.heap a (Obj.putSet es t)
  split
  · have pm := relayAll_perm t es (SetTable.grown es.size)
    have ft := relayAll_fits t es (SetTable.grown es.size)
    obtain ⟨tb, ld⟩ := relayAll_tab (t := t) es (SetTable.grown es.size)
    generalize relayAll t es (SetTable.grown es.size) = W at pm ft tb ld ⊢
    have kp : (ksOf W.1).Perm (ksOf es) := pm.map _
    have sz : W.1.size = es.size := by rw [← Array.length_toList, pm.length_eq, Array.length_toList]
    refine wpAny_bind (hg _ _ _ ?_)
    refine wpAny_bind (wpAny_storeSet_of g1 d1 ?_ (fits_of_scanBound (by omega)))
    obtain ⟨o2, g2, x2, d2⟩ := set_stored (es := W.1) (t := W.2.1) g1 x1 d1
    exact wpAny_pure (q _ (sb.trans (Heap.SameBut.update _ a _)) ⟨W.1, _, W.2.1, ⟨⟨o2, g2, x2, d2⟩, h1.perm pm, kp.nodup_iff.mpr h2, fun k => kp.mem_iff.trans (h3 k), by omega, ft, tb, ld.trans h7⟩⟩)
  · exact wpAny_pure (q _ sb ⟨es, _, t, ⟨⟨o1, g1, x1, d1⟩, h1, h2, h3, h4, h5, h6, h7⟩⟩)
theorem add_int {a : Addr} {L : Bool} {M : Int → Prop} {n : Nat} {k : Int} {tk : Tok} {R : Bool → Shared → Prop} (h : SetI P w s.heap a L M n) (hn : n + 1 < scanBound)
    (q : ∀ h' b, Heap.SameBut a s.heap h' → SetI P w h' a L (fun j => M j ∨ j = k) (n + 1) → R b { s with heap := h' }) : wpAny (model P w) A (setAddHashed a (.int k tk) (hashInt k)) R E s := by
  obtain ⟨es, ep, t, x⟩ := h
  obtain ⟨o, ho, hx, hd⟩ := x.at_
  have lt : es.size < scanBound := Nat.lt_of_le_of_lt x.len (by omega)
  unfold setAddHashed setAddHashedIn
  refine wpAny_holding (wpAny_bind (wpAny_setState_of ho hd x.fits ?_))
  dsimp only
  rw [byScan_of (knd := intKind P w) (x := .int k tk) rfl lt x.elems]
  simp only [↓reduceIte]
  unfold setAddByScan
  refine wpAny_bind (wpAny_bind (wpAny_rule (wpAny_bind (wpAny_setScan_of (intKind_is P w k tk) ho hd x.fits x.elems ?_))))
  cases c : es.toList.findIdx? (fun e => (intKind P w).is k e.2) with
  | some i =>
    obtain ⟨hi, p, _⟩ := List.findIdx?_eq_some_iff_getElem.mp c
    have there : M k := (x.mem k).mp (List.mem_map.mpr ⟨_, List.getElem_mem hi, (is_num p).1⟩)
    exact wpAny_pure (wpAny_pure (q s.heap false (Heap.SameBut.refl a s.heap) ⟨es, ep, t, ⟨⟨o, ho, hx, hd⟩, x.elems, x.nd, fun j => (x.mem j).trans ⟨.inl, fun z => z.elim id fun e => e ▸ there⟩, Nat.le_succ_of_le x.len, x.fits, x.tab, x.led⟩⟩))
  | none =>
    have fresh : k ∉ ksOf es := fun m => by
      obtain ⟨e, he, ek⟩ := List.mem_map.mp m
      have no := List.findIdx?_eq_none_iff.mp c e he
      obtain ⟨⟨k', hk', _⟩, _⟩ := x.elems e he
      rw [(is_num hk').1] at ek
      subst ek
      rw [hk'] at no
      cases no
    have giving : ∀ (b : Bool) {s1 : Shared} {R' : Unit → Shared → Prop}, R' () s1 → wpAny (model P w) A (match b with | true => rule "set.scan.the-table-gave-way" | false => pure ()) R' E s1 := fun b {s1 R'} z => by
      cases b with
      | true => exact wpAny_rule z
      | false => exact wpAny_pure z
    have pm := layNew_perm t es (hashInt k) (.int k tk)
    have ft := layNew_fits t es (hashInt k) (.int k tk)
    obtain ⟨tb, ld⟩ := layNew_tab x.tab es (hashInt k) (.int k tk)
    dsimp only
    generalize layNew t es (hashInt k) (.int k tk) = W at pm ft tb ld ⊢
    obtain ⟨es1, t1, wd, gv⟩ := W
    dsimp only at pm ft tb ld ⊢
    rw [Array.toList_push] at pm
    have e1 : ElemsOf (intKind P w) es1.toList := (x.elems.push (intKind_is P w k tk) rfl).perm pm
    have kp : (ksOf es1).Perm (ksOf es ++ [k]) := by
      have z := pm.map fun e => numOf e.2
      rwa [List.map_append] at z
    have n1 : (ksOf es1).Nodup := kp.nodup_iff.mpr (List.nodup_append.mpr ⟨x.nd, by simp, fun a ha b hb => by
      have e : b = k := by simpa using hb
      subst e
      exact fun z => fresh (z ▸ ha)⟩)
    have m1 : ∀ j, j ∈ ksOf es1 ↔ (M j ∨ j = k) := fun j => by
      rw [kp.mem_iff, List.mem_append, x.mem j]
      simp
    have s1 : es1.size ≤ n + 1 := by
      rw [← Array.length_toList, pm.length_eq, List.length_append, Array.length_toList]
      exact Nat.succ_le_succ x.len
    refine wpAny_bind (giving _ ?_)
    have led1 : t1.led = L := ld.trans x.led
    split
    · refine wpAny_bind ?_
      rw [hashByValue_scannable 8 (x := .int k tk) rfl]
      refine wpAny_pure ?_
      refine add_end ?_ ho hx hd e1 n1 m1 s1 ft tb led1 hn fun h' z1 z2 => ?_
      · intro b s2 R' z
        exact giving b z
      · exact wpAny_pure (q h' true z1 z2)
    · refine wpAny_bind (wpAny_pure ?_)
      refine add_end ?_ ho hx hd e1 n1 m1 s1 ft tb led1 hn fun h' z1 z2 => ?_
      · intro b s2 R' z
        exact giving b z
      · exact wpAny_pure (q h' true z1 z2)
end
theorem SetI.to {P : Program} {w : World} {h : Heap} {a : Addr} {L : Bool} {M M' : Int → Prop} {n n' : Nat} (q : SetI P w h a L M n) (e : ∀ k, M k ↔ M' k) (le : n ≤ n') : SetI P w h a L M' n' := by
  obtain ⟨es, ep, t, x⟩ := q
  exact ⟨es, ep, t, ⟨x.at_, x.elems, x.nd, fun k => (x.mem k).trans (e k), Nat.le_trans x.len le, x.fits, x.tab, x.led⟩⟩
section
variable {P : Program} {w : World} {A : Around} {R : Result → Shared → Prop} {I S : Addr} {fp wr : List Addr} {G : Array GenState → Array GenState → Prop} {n : Nat} {Pv : Nat → Value → Prop} {St : Nat → Shared → Prop} {L : Bool}
end
section
variable {P : Program} {w : World} {A : Around} {E : Value → Shared → Prop} {s : Shared}
abbrev ledOf (w : World) : Bool := !w.params.followText "set-order"
end
end L2
set_option Elab.async false
set_option linter.all false
set_option maxRecDepth 100000
namespace L2
open PySem PySem.Spec PyProof.Rows
def SIter (h : Heap) (it S : Addr) (f : Value) (i n ep : Nat) : Prop := h.get? it = some { cls := .type "set_iterator", dict := none, data := .fields #[f, .int i 0, .ref S, .int n 0, .int ep 0], slots := #[] }
def SObj (h : Heap) (S : Addr) (es : Array (Int × Value)) (ep : Nat) (t : SetTable) : Prop := ∃ o, h.get? S = some o ∧ o.data = .set es ep t
section
variable {P : Program} {w : World} {A : Around} {E : Value → Shared → Prop} {s : Shared} {it S : Addr} {es : Array (Int × Value)} {ep i n : Nat} {t : SetTable} {R : Option Value → Shared → Prop}
end
section
variable {P : Program} {w : World} {A : Around} {it S T : Addr} {es : Array (Int × Value)} {ep : Nat} {t : SetTable}
theorem SObj.keep {h h' : Heap} (x : SObj h S es ep t) (k : ∀ o, h.get? S = some o → h'.get? S = some o) : SObj h' S es ep t := by
  obtain ⟨o, g, d⟩ := x
  exact ⟨o, k o g, d⟩
end
structure SetWalk (P : Program) (w : World) (A : Around) (s s' : Shared) (S it : Addr) (fp : List Addr) (vals : Array Value) (St : Nat → Heap → Prop) : Prop where
  walk : Walks P w A it fp [it] vals.size (fun i v => vals[i]? = some v) St
  st : St 0 s'.heap
  below : ∀ b ∈ fp, b < s'.heap.objs.size
  new : ∀ b ∈ fp, b = S ∨ s.heap.objs.size ≤ b
  old : s.heap.objs.size ≤ it
  gens : s'.gens = s.gens
  os : s'.os = s.os
  keep : ∀ b o, s.heap.get? b = some o → s'.heap.get? b = some o
section
variable {P : Program} {w : World} {A : Around} {E : Value → Shared → Prop} {s : Shared} {S : Addr} {L : Bool} {M : Int → Prop} {n : Nat} {es : Array (Int × Value)} {ep : Nat} {t : SetTable}
end
end L2
set_option Elab.async false
set_option linter.all false
set_option maxRecDepth 100000
namespace L2
open PySem PySem.Spec PyProof.Rows
section
variable {P : Program} {w : World} {A : Around} {E : Value → Shared → Prop} {s : Shared} {S : Addr} {M : Int → Prop} {n : Nat}
end
section
variable {X : Cx} {pins : List (Addr × Obj)} {σ : St} {H : Hp} {s : Shared}
def tSortSet (K : PySem.W.Frag) (t : TA) : TE := fun σ H Q => t σ H fun vs H1 => ∃ (p : Addr) (ns : List Int), vs = [.ref p] ∧ SqL K H1 p (ns.map V.int) ∧ ns.length < 64 ∧ ∀ (D : Addr) (ks : List Int), L2.new K H1 D → ks.Pairwise (· < ·) → (∀ k, k ∈ ks ↔ k ∈ ns) → ks.length ≤ ns.length → Q (.ref D) (upd H1 D (.lst (ks.map V.int)))
end
end L2
set_option Elab.async false
set_option linter.all false
set_option maxRecDepth 100000
namespace L2
open PySem PySem.Spec PyProof.Rows
theorem Inv.turnLay {X : Cx} {pins : List (Addr × Obj)} {σ : St} {H : Hp} {s : Shared} {h' : Heap} {ch : List Addr} {T : Addr} {o : HO} {t' : Nat} (I : Inv X pins σ H s) (k : ∀ b u, b ∉ ch → s.heap.get? b = some u → h'.get? b = some u) (hf : ∀ b ∈ ch, FpOk X pins H b)
    (hp : s.heap.objs.size ≤ T) (new : ObjOk X.prog X.w (upd H T o) h' T o) : Inv X pins σ (upd H T o) { s with heap := h', toks := t' } := by
  have fr := I.hok.fresh hp
  have out : ∀ b u, H b = some u → b ∉ ch := fun b u e z => by rw [(hf b z).1] at e; cases e
  refine I.step (g' := s.gens) (d' := s.drawn) (ch := ch) (fun b hb => ⟨(hf b hb).2.2.2.1, (hf b hb).2.1, (hf b hb).2.2.2.2.1, (hf b hb).2.2.2.2.2⟩) (fun b u _ _ hc e _ => k b u hc e) (fun b u _ _ hc e _ => ⟨u.slots, k b u hc e⟩)
    (fun b u _ e z => by rw [upd_ne (Nat.ne_of_lt (Nat.lt_of_lt_of_le (Heap.lt_size e) hp))]; exact z) (fun b u hc e => ⟨u, k b u hc e⟩) (fun b xs e => by rw [upd_ne (ne_of_none e fr)]; exact e) (fun b u v e => by rw [upd_ne (ne_of_none e fr)]; exact e)
    (fun b ps e => ⟨#[], by rw [upd_ne (ne_of_none e fr), e]; simp⟩) (fun m hm => ?_) (fun b u e => ?_) I.bare
  · obtain ⟨ob, es, ep, ho, r⟩ := hm
    exact ⟨ob, es, ep, k _ ob (fun z => (hf _ z).2.1 rfl) ho, r⟩
  · by_cases hb : b = T
    · subst hb
      rw [upd_same] at e
      cases e
      exact new
    · rw [upd_ne hb] at e
      refine (I.hok b u e).stay (fun c v hc q => k c v ?_ q) (fun c q => by rw [upd_ne (ne_of_none q fr)]; exact q) fun c xs q => by rw [upd_ne (ne_of_none q fr)]; exact q
      rcases hc with z | z
      · rw [z]; exact out b u e
      · exact out c _ z
def Ite (K : PySem.W.Frag) (a : Addr) : It := ⟨fun i H => ∃ xs x, SqL K H a xs ∧ xs[i]? = some x, fun i H x H' => ∃ T v, L2.new K H T ∧ (∀ xs, SqL K H a xs → xs[i]? = some v) ∧ x = .ref T ∧ H' = upd H T (.tup [.int i, v]), fun i H => ∃ xs, SqL K H a xs ∧ xs.length ≤ i⟩
section
variable {X : Cx}
def iEnum (K : PySem.W.Frag) (tl : TA) : TI := fun σ H R => tl σ H fun vs H1 => ∃ a, vs = [.ref a] ∧ (∃ xs, SqL K H1 a xs) ∧ R (Ite K a) H1
end
section
variable {K : PySem.W.Frag} {g : TG} {tt : TT} {te : TE} {D a : Addr} {Q : Hp → Prop} {σ : St} {H : Hp} {xs : List V}
end
section
variable {X : Cx}
end
end L2
set_option Elab.async false
set_option linter.all false
set_option maxRecDepth 100000
namespace L2
open PySem PySem.Spec PyProof.Rows
theorem Inv.turnAll {X : Cx} {pins : List (Addr × Obj)} {σ : St} {H : Hp} {s : Shared} {h' : Heap} {ch : List Addr} {t' : Nat} (I : Inv X pins σ H s) (k : ∀ b u, b ∉ ch → s.heap.get? b = some u → h'.get? b = some u) (hf : ∀ b ∈ ch, FpOk X pins H b) :
    Inv X pins σ H { s with heap := h', toks := t' } := by
  have out : ∀ b u, H b = some u → b ∉ ch := fun b u e z => by rw [(hf b z).1] at e; cases e
  refine I.step (g' := s.gens) (d' := s.drawn) (ch := ch) (fun b hb => ⟨(hf b hb).2.2.2.1, (hf b hb).2.1, (hf b hb).2.2.2.2.1, (hf b hb).2.2.2.2.2⟩) (fun b u _ _ hc e _ => k b u hc e) (fun b u _ _ hc e _ => ⟨u.slots, k b u hc e⟩)
    (fun _ _ _ _ z => z) (fun b u hc e => ⟨u, k b u hc e⟩) (fun _ _ e => e) (fun _ _ _ e => e)
    (fun b ps e => ⟨#[], by rw [e]; simp⟩) (fun m hm => ?_) (fun b u e => ?_) I.bare
  · obtain ⟨ob, es, ep, ho, r⟩ := hm
    exact ⟨ob, es, ep, k _ ob (fun z => (hf _ z).2.1 rfl) ho, r⟩
  · refine (I.hok b u e).stay (fun c v hc q => k c v ?_ q) (fun _ q => q) fun _ _ q => q
    rcases hc with z | z
    · rw [z]; exact out b u e
    · exact out c _ z
def Itz (K : PySem.W.Frag) (a b : Addr) : It := ⟨fun i H => ∃ xs ys x y, SqL K H a xs ∧ SqL K H b ys ∧ xs[i]? = some x ∧ ys[i]? = some y, fun i H x H' => ∃ T v u, L2.new K H T ∧ (∀ xs, SqL K H a xs → xs[i]? = some v) ∧ (∀ ys, SqL K H b ys → ys[i]? = some u) ∧ x = .ref T ∧ H' = upd H T (.tup [v, u]), fun i H => ∃ xs ys, SqL K H a xs ∧ SqL K H b ys ∧ (xs.length ≤ i ∨ ys.length ≤ i)⟩
theorem turn_zip {P : Program} {w : World} {K : PySem.W.Frag} {es : List Expr} {k : Nat} {tp : Pos} (a b z TI TO i1 i2 : Addr) (D : ZipApart z TI TO i1 i2 a b) : Turn P w K (.Tuple es k tp) (Itz K a b) [z, TI, TO, i1, i2] z
    (fun i h => IsZip h z TI TO .none ∧ IsPair h TI (.ref i1) (.ref i2) ∧ (∃ p q, IsPair h TO p q) ∧ h.IsListIter i1 a i ∧ h.IsListIter i2 b i) where
  mem := by simp
  obj := fun i h st c hc => by
    obtain ⟨g1, g2, ⟨p, q, g3⟩, ⟨o4, g4, c4, d4⟩, ⟨o5, g5, c5, d5⟩⟩ := st
    simp only [List.mem_cons, List.not_mem_nil, or_false] at hc
    rcases hc with rfl | rfl | rfl | rfl | rfl
    · exact ⟨_, g1, fun v z => by cases z⟩
    · exact ⟨_, g2, fun v z => by cases z⟩
    · exact ⟨_, g3, fun v z => by cases z⟩
    · exact ⟨o4, g4, fun v z => by rw [d4] at z; cases z⟩
    · exact ⟨o5, g5, fun v z => by rw [d5] at z; cases z⟩
  keep := fun i h h' st kk => by
    obtain ⟨g1, g2, ⟨p, q, g3⟩, g4, g5⟩ := st
    exact ⟨kk z (by simp) _ g1, kk TI (by simp) _ g2, ⟨p, q, kk TO (by simp) _ g3⟩, g4.at fun o g => kk i1 (by simp) o g, g5.at fun o g => kk i2 (by simp) o g⟩
  item := by
    intro X hP hw hK hc i pins s σ H E I hf st hg
    subst hP hw hK
    obtain ⟨xs, ys, x, y, hq, hq', hx, hy⟩ := hg
    obtain ⟨its, rv, p, hz⟩ := I.list hq
    obtain ⟨its', rv', p', hz'⟩ := I.list hq'
    obtain ⟨u, hu, ru⟩ := rv.get hx
    obtain ⟨u', hu', ru'⟩ := rv'.get hy
    obtain ⟨g1, g2, ⟨a', b', g3⟩, g4, g5⟩ := st
    refine wpAny_pyNext_zip_item D g1 g2 g3 g4 g5 p.isList p'.isList (x := u) (y := u') (by simpa using hu) (by simpa using hu') fun h1 hz1 hTO1 hi1 hi2 gT sz kp => ?_
    refine ⟨_, rfl, wpAny_letOwnedTupleGo_zip hz1 fun h2 hz2 sb => ?_⟩
    have ltZ : z < s.heap.objs.size := Heap.lt_size g1
    have gT2 : h2.get? s.heap.objs.size = some { cls := .type "tuple", data := .seq #[u, u'] } := (sb.2 _ (Nat.ne_of_gt ltZ)).trans gT
    have I1 : Inv X pins σ (upd H s.heap.objs.size (.tup [x, y])) { s with heap := h2, toks := s.toks } := by
      refine I.turnLay (ch := [z, TI, TO, i1, i2]) (fun b o hb g => ?_) hf (Nat.le_refl _) ⟨(show 2 ≤ sizeLine by decide), [u, u'], .cons ru (.cons ru' .nil), _, gT2, rfl, _, rfl⟩
      simp only [List.mem_cons, List.not_mem_nil, or_false, not_or] at hb
      exact (sb.2 b hb.1).trans (kp b o hb.1 hb.2.2.1 hb.2.2.2.1 hb.2.2.2.2 g)
    have kT : ∀ c o, c ≠ z → h1.get? c = some o → h2.get? c = some o := fun c o n g => (sb.2 c n).trans g
    refine ⟨.ref s.heap.objs.size, _, I1, rfl, ⟨_, x, y, ⟨I.hok.fresh (Nat.le_refl _), I1.notMod upd_same⟩, fun ys hy => by rw [I.list_inj hy hq]; exact hx, fun zs hy' => by rw [I.list_inj hy' hq']; exact hy, rfl, rfl⟩,
      ⟨hz2, kT _ _ D.TIz (kp _ _ D.TIz D.TITO D.TIi1 D.TIi2 g2), ⟨_, _, kT _ _ D.TOz hTO1⟩, hi1.at fun o g => kT _ o D.i1z g, hi2.at fun o g => kT _ o D.i2z g⟩, fun c hc => ?_⟩
    have ltc : c < s.heap.objs.size := by
      obtain ⟨o4, e4, _⟩ := g4
      obtain ⟨o5, e5, _⟩ := g5
      simp only [List.mem_cons, List.not_mem_nil, or_false] at hc
      rcases hc with rfl | rfl | rfl | rfl | rfl
      · exact ltZ
      · exact Heap.lt_size g2
      · exact Heap.lt_size g3
      · exact Heap.lt_size e4
      · exact Heap.lt_size e5
    rw [upd_ne (Nat.ne_of_lt ltc)]
    exact (hf c hc).1
  done := by
    intro X hP hw hK hc i pins s σ H E I hf st hg
    subst hP hw hK
    obtain ⟨xs, ys, hq, hq', hx⟩ := hg
    obtain ⟨its, rv, p, hz⟩ := I.list hq
    obtain ⟨its', rv', p', hz'⟩ := I.list hq'
    obtain ⟨g1, g2, ⟨a', b', g3⟩, g4, g5⟩ := st
    have hl := rv.length
    have hl' := rv'.length
    refine wpAny_pyNext_zip_end (I.ok.hd hc) D g1 g2 g3 g4 g5 p.isList p'.isList ?_ fun h' kp => ⟨rfl, I.turnAll (t' := s.toks) (ch := [z, TI, TO, i1, i2]) (fun b o hb g => ?_) hf⟩
    · rcases hx with e | e
      · exact .inl (by simp; omega)
      · exact .inr (by simp; omega)
    · simp only [List.mem_cons, List.not_mem_nil, or_false, not_or] at hb
      exact kp b o hb.1 hb.2.2.1 hb.2.2.2.1 hb.2.2.2.2 g
  self := fun _ _ _ _ _ st h => wpAny_pyIter_zip st.1 h
section
variable {X : Cx}
def iZip (K : PySem.W.Frag) (tl : TA) : TI := fun σ H R => tl σ H fun vs H1 => ∃ a b, vs = [.ref a, .ref b] ∧ (∃ xs, SqL K H1 a xs) ∧ (∃ ys, SqL K H1 b ys) ∧ R (Itz K a b) H1
end
section
variable {K : PySem.W.Frag} {ta : TA} {g : TG} {tb : TS} {D : Ends} {σ : St} {H : Hp} {a b : Addr} {xs ys : List V}
end
section
variable {X : Cx}
end
mutual
def wt : PyData → Nat
  | .none => 1
  | .bool _ => 1
  | .int _ => 1
  | .str _ => 1
  | .list ds => wtAll ds + 1
  | .tuple ds => wtAll ds + 1
  | .dict _ => 1
def wtAll : List PyData → Nat
  | [] => 0
  | d :: ds => wt d + wtAll ds
end
mutual
def bare : PyData → Bool
  | .none => true
  | .int i => decide (i.natAbs.log2 < 1920)
  | .list ds => bareAll ds
  | .tuple ds => bareAll ds
  | _ => false
def bareAll : List PyData → Bool
  | [] => true
  | d :: ds => bare d && bareAll ds
end
theorem listText_le (ts : List Str) : (listText ts).length ≤ piled ts + 2 := by
  cases ts with
  | nil => exact Nat.le_of_eq rfl
  | cons t r =>
    have h := textFrom_length_pos r 1 (("[" : Str) ++ (if (0 : Nat) > 0 then ", " else "" : String) ++ t) (Nat.succ_pos 0)
    have e : ((("[" : Str) ++ (if (0 : Nat) > 0 then ", " else "" : String) ++ t)).length = 1 + t.length := by
      rw [strLen_append, strLen_append]; rfl
    have hX : (listText (t :: r)).length = (textFrom 0 "[" (t :: r)).length + 1 := by
      show (textFrom 0 "[" (t :: r) ++ "]").length = _
      rw [strLen_append]; rfl
    have hY : (textFrom 0 "[" (t :: r)).length = (textFrom 1 (("[" : Str) ++ (if (0 : Nat) > 0 then ", " else "" : String) ++ t) r).length := rfl
    rw [hX, hY, h, e, piled_cons]; omega
theorem tupleText_le (ts : List Str) : (tupleText ts).length ≤ piled ts + 3 := by
  unfold tupleText
  rw [strLen_append, strLen_append]
  have e1 : ((("(" : String) : Str)).length = 1 := rfl
  have e3 : (((if ts.length == 1 then ",)" else ")" : String) : Str)).length ≤ 2 := by split <;> decide
  rw [e1]
  by_cases h : ts = []
  · subst h
    have : (Str.join ", " []).length = 0 := rfl
    omega
  · have := join_length_add ts h
    omega
mutual
theorem shown_le : ∀ {d : PyData}, bare d = true → d.shown.length + 4 ≤ 1930 * wt d
  | .none, _ => by simp only [PyData.shown, wt]; decide
  | .int i, h => by
    simp only [bare, decide_eq_true_eq] at h
    have := int_text_len_1921 h
    simp only [PyData.shown, wt]
    omega
  | .list ds, h => by
    simp only [bare] at h
    have := shownAll_le h
    have l := listText_le (PyData.shownAll ds)
    simp only [PyData.shown, wt]
    omega
  | .tuple ds, h => by
    simp only [bare] at h
    have := shownAll_le h
    have l := tupleText_le (PyData.shownAll ds)
    simp only [PyData.shown, wt]
    omega
  | .bool _, h => by simp [bare] at h
  | .str _, h => by simp [bare] at h
  | .dict _, h => by simp [bare] at h
theorem shownAll_le : ∀ {ds : List PyData}, bareAll ds = true → piled (PyData.shownAll ds) ≤ 1930 * wtAll ds
  | [], _ => by simp [PyData.shownAll, piled, wtAll]
  | d :: ds, h => by
    simp only [bareAll, Bool.and_eq_true] at h
    have h1 := shown_le h.1
    have h2 := shownAll_le h.2
    simp only [PyData.shownAll, piled_cons, wtAll]
    omega
end
mutual
theorem bare_show : ∀ {d : PyData}, bare d = true → d.showable = true ∧ d.hasDict = false
  | .none, _ => by simp only [PyData.showable, PyData.hasDict]; exact ⟨trivial, trivial⟩
  | .int i, h => by
    simp only [bare] at h
    simp only [PyData.showable, PyData.hasDict]
    exact ⟨h, trivial⟩
  | .list ds, h => by
    simp only [bare] at h
    simp only [PyData.showable, PyData.hasDict]
    exact bareAll_show h
  | .tuple ds, h => by
    simp only [bare] at h
    simp only [PyData.showable, PyData.hasDict]
    exact bareAll_show h
  | .bool _, h => by simp [bare] at h
  | .str _, h => by simp [bare] at h
  | .dict _, h => by simp [bare] at h
theorem bareAll_show : ∀ {ds : List PyData}, bareAll ds = true → PyData.showableAll ds = true ∧ PyData.hasDictAll ds = false
  | [], _ => by simp [PyData.showableAll, PyData.hasDictAll]
  | d :: ds, h => by
    simp only [bareAll, Bool.and_eq_true] at h
    have h1 := bare_show h.1
    have h2 := bareAll_show h.2
    simp only [PyData.showableAll, PyData.hasDictAll, h1.1, h1.2, h2.1, h2.2, Bool.and_self, Bool.or_self]
    exact ⟨trivial, trivial⟩
end
section
variable {X : Cx}
end
end L2
set_option Elab.async false
set_option linter.all false
set_option maxRecDepth 100000
namespace PySem
open Sem (wp)
end PySem
namespace PySem
namespace F
end F
section
variable {prog : Program} {w : World} {A : Around} {E : Value → Shared → Prop} {s : Shared}
end
section
variable {prog : Program} {w : World} {A : Around} {R : Result → Shared → Prop} {I : Addr} {fp wr : List Addr} {G : Array GenState → Array GenState → Prop} {n : Nat} {P : Nat → Value → Prop} {St : Nat → Shared → Prop} {K : Type} [DecidableEq K] {knd : KeyKind prog w K}
end
end PySem
namespace PySem
section
variable {prog : Program} {w : World} {K : Type} [DecidableEq K] {knd : KeyKind prog w K} {A : Around} {E : Value → Shared → Prop} {s : Shared}
end
end PySem
namespace L2
open PySem PySem.Spec PyProof.Rows
section
variable {X : Cx}
theorem op_inD (hu : X.A.units + 64 < cLine) : OpR X (compareOp .In) (fun x y H Q => ∃ (a : Addr) (kvs : List (Key × V)) (k : Int), y = .ref a ∧ x = .int k ∧ H a = some (.dK kvs) ∧ Q (.bl (valV kvs (.inl k)).isSome) H) := by
  intro pins s σ H x y v u Q I rx ry h
  obtain ⟨a, kvs, k, rfl, rfl, e, q⟩ := h
  cases ry
  exact d_in (by omega) I (DGet.k (k := .inl k) e) rx fun s' I' => ⟨.bl _, H, I', rfl, q⟩
theorem edget {o i : Expr} {td ty : TE} {pos : Pos} (hu : X.A.units + 64 < cLine) (ho : JE X o td) (hi : JE X i ty) (hs : NoSl i) : JE X (.Subscript o i pos) (tDGet td ty) := ⟨pe_dget (by omega) ho.h hi.h hs⟩
end
end L2
set_option Elab.async false
set_option linter.all false
set_option maxRecDepth 100000
namespace L2
open PySem PySem.Spec PyProof.Rows
theorem is_kV {P : Program} {w : World} {k : Key} {u : Value} (h : (mixKind P w).is k u = true) : RelV (kV k) u := by
  rcases keyIs_shape h with ⟨i, t, rfl, rfl⟩ | ⟨x, t, rfl, rfl⟩
  · exact ⟨t, rfl⟩
  · exact ⟨t, rfl⟩
section
variable {X : Cx} {pins : List (Addr × Obj)} {σ : St} {H : Hp} {s : Shared}
theorem Inv.swap {d : Addr} {u0 u1 : HO} (I : Inv X pins σ H s) (e : H d = some u0) (m0 : ∀ xs, u0 ≠ .tup xs) (m1 : ∀ o u, X.H₀ d ≠ some (.frz o u)) (m2 : ∀ ps, u0 ≠ .tbl ps) (m3 : ∀ x, u0 ≠ .own x) (new : ObjOk X.prog X.w (upd H d u1) s.heap d u1) : Inv X pins σ (upd H d u1) s where
  ok := I.ok
  os := I.os
  bare := I.bare
  base := ⟨I.base.keep, I.base.slot, fun b o g n x => by
      have z := I.base.free b o g n x
      rw [upd_ne (fun q => by rw [q, e] at z; cases z)]
      exact z, I.base.there, fun b xs g => by
      have z := I.base.tups b xs g
      rw [upd_ne (fun q => by rw [q, e] at z; exact m0 xs (Option.some.inj z))]
      exact z, fun b o u g => by
      have z := I.base.frzs b o u g
      rw [upd_ne (fun q => by rw [q] at g; exact m1 o u g)]
      exact z, fun b ps g => by
      obtain ⟨more, z⟩ := I.base.tbls b ps g
      refine ⟨more, ?_⟩
      rw [upd_ne (fun q => by rw [q, e] at z; exact m2 _ (Option.some.inj z))]
      exact z⟩
  loc := I.loc
  cell := I.cell
  free := by
    have z := I.free
    rw [upd_ne (fun q => by rw [q, e] at z; cases z)]
    exact z
  freeC := fun x c g => by
    have z := I.freeC x c g
    rw [upd_ne (fun q => by rw [q, e] at z; cases z)]
    exact z
  pin := fun p hp => by
    obtain ⟨a1, a2, a3⟩ := I.pin p hp
    refine ⟨a1, ?_, a3⟩
    rw [upd_ne (fun q => by rw [q, e] at a2; cases a2)]
    exact a2
  hok := fun a o g => by
    by_cases q : a = d
    · subst q
      rw [upd_same] at g
      cases g
      exact new
    · rw [upd_ne q] at g
      refine (I.hok a o g).stay (fun _ _ _ z => z) (fun b z => ?_) fun b xs z => ?_
      · rw [upd_ne (fun q => by rw [q, e] at z; exact m3 _ (Option.some.inj z))]
        exact z
      · rw [upd_ne (fun q => by rw [q, e] at z; exact m0 _ (Option.some.inj z))]
        exact z
  len := I.len
theorem Inv.notFrz {d : Addr} {kvs : List (Key × V)} (I : Inv X pins σ H s) (e : H d = some (.dK kvs)) : ∀ o u, X.H₀ d ≠ some (.frz o u) := fun o u z => by
  have q := I.base.frzs d o u z
  rw [e] at q
  cases q
theorem Inv.freeze {d : Addr} {kvs : List (Key × V)} {od : Obj} (I : Inv X pins σ H s) (e : H d = some (.dK kvs)) (g : s.heap.get? d = some od) : Inv X pins σ (upd H d (.frz od (.dK kvs))) s :=
  I.swap e (fun _ => nofun) (I.notFrz e) (fun _ => nofun) (fun _ => nofun) ⟨g, I.hok d _ e⟩
theorem Inv.thaw {d : Addr} {kvs : List (Key × V)} {od : Obj} (I : Inv X pins σ H s) (e : H d = some (.frz od (.dK kvs))) (m : ∀ o u, X.H₀ d ≠ some (.frz o u)) : Inv X pins σ (upd H d (.dK kvs)) s :=
  I.swap e (fun _ => nofun) m (fun _ => nofun) (fun _ => nofun) (I.hok d _ e).2
end
def Itd (d : Addr) (od : Obj) (kvs : List (Key × V)) : It :=
  ⟨fun i H => H d = some (.frz od (.dK kvs)) ∧ i < kvs.length, fun i H x H' => H' = H ∧ ∃ p, kvs[i]? = some p ∧ x = kV p.1, fun i H => H d = some (.frz od (.dK kvs)) ∧ kvs.length ≤ i⟩
theorem kv_at {kvs : List (Key × V)} {vs : List (Key × Value)} (r : KV kvs vs) : ∀ {i : Nat} {p : Key × V}, kvs[i]? = some p → ∃ v, vs[i]? = some (p.1, v) := by
  unfold KV at r
  induction r with
  | nil => intro i p h; simp at h
  | @cons a b as bs h t ih =>
    intro i p e
    cases i with
    | zero =>
      simp only [List.getElem?_cons_zero, Option.some.injEq] at e ⊢
      subst e
      exact ⟨b.2, by rw [h.1]⟩
    | succ i =>
      simp only [List.getElem?_cons_succ] at e ⊢
      exact ih e
theorem frz_at {P : Program} {w : World} {H : Hp} {h : Heap} {d : Addr} {od : Obj} {kvs : List (Key × V)} {es : Array DictEntry} {ep : Nat} (hdat : od.data = .dict es ep) (x : ObjOk P w H h d (.frz od (.dK kvs))) : ∃ vs, KV kvs vs ∧ h.DictAt (mixKind P w) d vs ep := by
  obtain ⟨g, z, hd, vs, rel, o, es', ep', g', r1, r2, r3⟩ := x
  rw [g] at g'
  cases g'
  rw [hdat] at r2
  cases r2
  exact ⟨vs, rel, od, es, g, r1, hdat, r3⟩
theorem turn_dict {P : Program} {w : World} {K : PySem.W.Frag} {tg : Expr} {d it : Addr} {od : Obj} {kvs : List (Key × V)} {es : Array DictEntry} {ep : Nat} (hdat : od.data = .dict es ep) : Turn P w K tg (Itd d od kvs) [it] it (fun i h => h.IsKeyIter it d i kvs.length ep) where
  mem := by simp
  obj := fun i h st b hb => by
    have e : b = it := by simpa using hb
    subst e
    obtain ⟨o, e, c, d⟩ := st
    exact ⟨o, e, fun v z => by rw [d] at z; cases z⟩
  keep := fun i h h' st k => st.at fun o e => k it (by simp) o e
  item := by
    intro X hP hw hK hc i pins s σ H E I hf st hg
    subst hP hw hK
    obtain ⟨e, lt⟩ := hg
    obtain ⟨vs, rel, da⟩ := frz_at hdat (I.hok d _ e)
    obtain ⟨p, ep⟩ : ∃ p, kvs[i]? = some p := ⟨_, List.getElem?_eq_getElem lt⟩
    obtain ⟨v, ev⟩ := kv_at rel ep
    obtain ⟨f0, f1, f2, f3, f4, f5⟩ := hf it (by simp)
    refine wpAny_pyNext_dict_item (kvs := vs) (by rw [← rel.length]; exact st) da ev fun key h' hk st' sb => ?_
    have I1 : Inv X pins σ H { s with heap := h' } := I.turned (t' := s.toks) (fun b o hb e => (sb.2 b hb).trans e) f0 f1 f3 f4 f5
    rw [← rel.length] at st'
    obtain ⟨o, e, c, d⟩ := id st'
    exact ⟨key, rfl, go_of (s := { s with heap := h' }) e c d (by decide) ⟨kV p.1, H, I1, is_kV hk, ⟨rfl, p, ep, rfl⟩, st', fun b hb => (hf b hb).1⟩⟩
  done := by
    intro X hP hw hK hc i pins s σ H E I hf st hg
    subst hP hw hK
    obtain ⟨e, le⟩ := hg
    obtain ⟨vs, rel, da⟩ := frz_at hdat (I.hok d _ e)
    obtain ⟨f0, f1, f2, f3, f4, f5⟩ := hf it (by simp)
    exact wpAny_pyNext_dict_end (kvs := vs) (I.ok.hd hc) (by rw [← rel.length]; exact st) da (List.getElem?_eq_none (by rw [← rel.length]; exact le)) fun h' eb => ⟨rfl, I.turned (t' := s.toks) (fun b o hb e => eb b o hb e) f0 f1 f3 f4 f5⟩
  self := fun _ _ _ _ _ st h => wpAny_pyIter_keyiter st h
def tLcD (K : PySem.W.Frag) (td : TE) (src : List (Option Nat)) (g : TG) (tt : TT) (te : TE) : TE := fun σ H Q => td σ H fun x H1 => ∃ a kvs, x = .ref a ∧ H1 a = some (.dK kvs) ∧ ∀ od D, L2.new K (upd H1 a (.frz od (.dK kvs))) D →
  LcLoop (Itd a od kvs) g tt te D (fun H' => H' a = some (.frz od (.dK kvs)) ∧ Q (.ref D) (upd H' a (.dK kvs))) (pick σ src) (upd (upd H1 a (.frz od (.dK kvs))) D (.lst []))
section
variable {X : Cx} {sc : Scope} {N : List Str} {src : List (Option Nat)} {tg iter elt : Expr} {ifs : List Expr} {td : TE} {g : TG} {tt : TT} {te : TE} {pos : Pos}
theorem elcD (c : Cap X sc N src) (hc : X.calm = true) (hi : JE X iter td)
    (hg : ∀ C s H fp, JG (X.comp N sc C s H fp) tg g) (ht : ∀ C s H fp, JF (X.comp N sc C s H fp) ifs tt) (he : ∀ C s H fp, JE (X.comp N sc C s H fp) elt te)
    (hs : ∀ x, foldedSetIterable iter X.env x = pure x := by intro _; rfl) : JE X (.ListComp elt [⟨tg, iter, ifs, 0⟩] sc pos) (tLcD X.K td src g tt te) := ⟨by
  intro pins s σ H Q I h
  rw [eval_ListComp]
  refine wpAny_comprehension_free (use := none) rfl hs (closureFor_eq fun x hx hk => ?_) c.kind c.names ?_
  · obtain ⟨n, k⟩ := x
    cases hk
    exact I.ok.has _ (c.free hx)
  refine thn (hi.h pins s σ H _ I h) fun v s1 ⟨x, H1, I1, r1, q1⟩ => ?_
  obtain ⟨a, kvs, rfl, e, q⟩ := q1
  cases r1
  obtain ⟨z, hsys, vs, rel, dd⟩ := dk_of I1.hok e
  obtain ⟨ep, da⟩ := dd.dictAt
  obtain ⟨od, es, god, r1, hdat, r⟩ := id da
  refine wpAny_pyIter_dict hsys da ?_
  have If := I1.freeze e god
  have lt : a < s1.heap.objs.size := Heap.lt_size god
  have I2 : Inv X pins σ (upd H1 a (.frz od (.dK kvs))) { s1 with heap := s1.heap.push { cls := .type "dict_keyiterator", data := .fields #[.ref a, .int 0 0, .int vs.length 0, .int ep 0] } } := If.kept (t' := s1.toks) fun b o e => Heap.get?_push_of_some _ e
  have f2 : ∀ b ∈ [s1.heap.objs.size], FpOk X pins (upd H1 a (.frz od (.dK kvs))) b := fun b hb => by
    have e : b = s1.heap.objs.size := by simpa using hb
    subst e
    exact If.fpOk (Nat.le_refl _) (If.hok.fresh (Nat.le_refl _))
  refine comp_run (R := fun acc C => compPost (model X.prog X.w) X.A X.xe none (EP X pins σ Q) acc C) (Q := fun v H' => H' a = some (.frz od (.dK kvs)) ∧ Q v (upd H' a (.dK kvs))) c hc hg ht he I2 (turn_dict hdat) ⟨_, Heap.get?_push_size _ rfl, rfl, by rw [rel.length]; rfl⟩ f2 (fun D nD => q od D nD) fun D C s' σ' H' hC I' q => ?_
  obtain ⟨m, hn, _⟩ := id I'.loc
  refine ⟨m, hn, fun h' sb => ?_⟩
  have I3 := I2.unblock f2 hC I' fun b hb => sb.2 b hb
  exact ⟨.ref D, _, I3.thaw q.1 (I1.notFrz e), rfl, q.2⟩⟩
end
section
variable {prog : Program} {w : World} {A : Around} {R : Result → Shared → Prop} {s : Shared}
end
def DcLoop (J : It) (g : TG) (tt : TT) (tk tv : TE) (D : Addr) (Q : Hp → Prop) (σ : St) (H : Hp) : Prop := ∃ W : Nat → Nat → List (Key × V) → St → Hp → Prop, (∃ m, W 0 m [] σ H) ∧ ∀ i m acc σ H, W i m acc σ H →
  (J.stop i H ∧ Q H) ∨ (J.go i H ∧ ∃ N : List (Key × V) → St → Hp → Prop, (∀ acc' σ' H', N acc' σ' H' → ∃ m', m' < m ∧ W (i + 1) m' acc' σ' H') ∧ ∀ x H', J.yld i H x H' → g x σ H' fun σ2 H2 => tt σ2 H2 fun b H3 =>
    if b = true then tk σ2 H3 fun y H4 => tv σ2 H4 fun v H5 => ∃ k : Key, y = kV k ∧ H5 D = some (.dK acc) ∧ acc.length < sizeLine ∧ N (putK acc k v) σ2 (upd H5 D (.dK (putK acc k v)))
    else N acc σ2 H3)
def tDc (K : PySem.W.Frag) (wi : TI) (src : List (Option Nat)) (g : TG) (tt : TT) (tk tv : TE) : TE := fun σ H Q => wi σ H fun J H1 => ∀ D, L2.new K H1 D → DcLoop J g tt tk tv D (fun H' => Q (.ref D) H') (pick σ src) (upd H1 D (.dK []))
section
variable {X : Cx} {sc : Scope} {N : List Str} {src : List (Option Nat)} {tg iter kx vx : Expr} {ifs : List Expr} {wi : TI} {g : TG} {tt : TT} {tk tv : TE} {pos : Pos}
end
end L2
set_option Elab.async false
set_option linter.all false
set_option maxRecDepth 100000
set_option maxHeartbeats 4000000
namespace L2
open PySem PySem.Spec PyProof.Rows
section
variable {P : Program} {w : World} {A : Around} {E : Value → Shared → Prop} {s : Shared} {S : Addr} {vs : List (Key × Value)} {ep : Nat}
end
section
variable {X : Cx}
def dI (L : List (Int × V)) : List (Key × V) := L.map fun q => (.inl q.1, q.2)
theorem sdput {o i value : Expr} {td ty tv : TE} {pos pos' : Pos} (hu : X.A.units + 64 < cLine) (ho : JE X o td) (hi : JE X i ty) (hv : JE X value tv) (hs : swapsWith value (some (.Subscript o i pos')) pos.line X.env = pure false := by rfl) : JS X (.Assign [.Subscript o i pos'] value pos) (sDPut td ty tv) := ⟨ps_dput (by omega) ho.h hi.h hv.h hs⟩
end
end L2
set_option Elab.async false
set_option linter.all false
set_option maxRecDepth 100000
set_option maxHeartbeats 4000000
namespace L2
open PySem PySem.Spec PyProof.Rows
section
variable {X : Cx}
def rPart (K : PySem.W.Frag) : V → List V → Hp → VK → Prop := fun x vs H Q => ∃ a b, x = .str a ∧ vs = [.str b] ∧ (b.length == 0) = false ∧ a.length ≤ sizeLine ∧ ∀ D, L2.new K H D → Q (.ref D) (upd H D (.tup [.str (Txt.partition a b).1, .str (Txt.partition a b).2.1, .str (Txt.partition a b).2.2]))
def rSlS : V → Option Int → Option Int → Hp → VK → Prop := fun x lo hi H Q => ∃ a, x = .str a ∧ a.length ≤ sizeLine ∧ Q (.str (Txt.slice a lo hi)) H
theorem strs_of : ∀ {ts : List Str} {its : List Value}, Vals (ts.map V.str) its → ∃ l : List (Str × Tok), its = strValues l ∧ l.map (·.1) = ts
  | [], _, r => by rw [List.map_nil] at r; cases r; exact ⟨[], rfl, rfl⟩
  | t :: ts, _, r => by
    rw [List.map_cons] at r
    cases r with
    | cons h hr =>
      obtain ⟨u, rfl⟩ := h
      obtain ⟨l, rfl, e⟩ := strs_of hr
      exact ⟨(t, u) :: l, rfl, by rw [List.map_cons, e]⟩
def lenAll (sep : Str) (ts : List Str) : Nat := ts.foldl (fun n x => n + x.length + sep.length) 0
def rJoin (K : PySem.W.Frag) : V → List V → Hp → VK → Prop := fun x vs H Q => ∃ (sep : Str) (p : Addr) (ts : List Str), x = .str sep ∧ vs = [.ref p] ∧ SqL K H p (ts.map V.str) ∧ lenAll sep ts ≤ sizeLine ∧ (Str.join sep ts).length ≤ sizeLine ∧ Q (.str (Str.join sep ts)) H
theorem mt_join : MtR X "str.join" (rJoin X.K) := by
  intro pins s σ H x vs v us Q I rx rv h
  obtain ⟨sep, p, ts, rfl, rfl, hx, hl, hj, q⟩ := h
  obtain ⟨t, rfl⟩ := rx
  obtain ⟨u, rfl, ru⟩ := vals1 rv
  cases ru
  obtain ⟨its, r, pl, hz⟩ := I.list hx
  obtain ⟨l, rfl, el⟩ := strs_of r
  refine call_meets PySem.F.slot_str_join (typeIs_str _ _ _) PySem.F.entry_str_join (PySem.F.args_str_join_2 _ _) (meets_str_join_list sep t p l ?_) ⟨pl.isList, ?_⟩
  · rw [el]
    unfold Builtin.Str.tooLong
    rw [List.foldl_toArray]
    simpa [lenAll] using hl
  · have fin : ∀ t' k, EP X pins σ Q (.str (Str.join sep ts) t') { s with toks := k } := fun t' k => ⟨.str _, H, I.tok k, ⟨t', rfl⟩, q⟩
    have eg : ∀ l' : List (Str × Tok), Builtin.Str.glued sep (l'.map (·.1)) = Str.join sep (l'.map (·.1)) := fun l' => StrLaws.glued_eq_join sep _
    match l, el with
    | [], el =>
      have e := eg []
      rw [el] at e
      show _ ∧ _
      rw [el, e]
      exact ⟨hj, fin _ _⟩
    | [pp], el =>
      have e : pp.1 = Str.join sep ts := by rw [← el]; rfl
      show wants (EP X pins σ Q) X.xe (Except.ok (Flow.ret (Value.str pp.1 pp.2))) s
      rw [e]
      exact fin _ _
    | a :: b :: r, el =>
      show _ ∧ _
      rw [show Builtin.Str.glued sep ((a :: b :: r).map (·.1)) = Str.join sep ts from by rw [← el]; exact eg _]
      exact ⟨hj, fin _ _⟩
def tLRange (K : PySem.W.Frag) (t : TA) : TE := fun σ H Q => t σ H fun vs H1 => ∃ j : Int, vs = [.int j] ∧ 0 ≤ j ∧ j < 100000 ∧ ∀ D, L2.new K H1 D → Q (.ref D) (upd H1 D (.lst ((List.range j.toNat).map fun i : Nat => V.int (i : Int))))
end
end L2
set_option Elab.async false
set_option linter.all false
set_option maxRecDepth 100000
set_option maxHeartbeats 4000000
namespace L2
open PySem PySem.Spec PyProof.Rows
def numS (n : Nat) : Str := Str.ofString (toString ((n : Nat) : Int))
def blankS : Str := Str.ofString " "
def emptyS : Str := Str.ofString ""
theorem blank_one : blankS = ⟨#[32]⟩ := by decide +kernel
def page (b : Str) : Str := numS b.length ++ blankS ++ b
theorem blank_len : blankS.length = 1 := by rw [blank_one]; rfl
section
variable {X : Cx}
def tDisp1 (K : PySem.W.Frag) (tk tv : TE) : TE := fun σ H Q => ∀ p, L2.new K H p → tk σ (upd H p (.dK [])) fun x H1 => tv σ H1 fun y H2 => H2 p = some (.dK []) ∧ ∃ kv : Key × V, [(x, y)] = [(kV kv.1, kv.2)] ∧ Q (.ref p) (upd H2 p (.dK [kv]))
end
end L2
set_option Elab.async false
set_option linter.all false
set_option maxRecDepth 100000
set_option maxHeartbeats 4000000
namespace L2
open PySem PySem.Spec PyProof.Rows
section
variable {X : Cx}
theorem call_dictC : CallR X (.type "dict") (fun xs H Q => ∃ (a : Addr) (kvs : List (Key × V)), xs = [.ref a] ∧ Rd H a (.dK kvs) ∧ ∀ D, L2.new X.K H D → Q (.ref D) (upd H D (.dK kvs))) := by
  intro pins s σ H xs us Q I r h
  obtain ⟨a, kvs, rfl, hq, q⟩ := h
  obtain ⟨u, rfl, rx⟩ := vals1 r
  cases rx
  exact d_copyOf I hq fun p s' hp I' => ⟨.ref p, _, I', rfl, q p ⟨hp, I'.notMod upd_same⟩⟩
def rDClear : V → List V → Hp → VK → Prop := fun x vs H Q => ∃ (a : Addr) (kvs : List (Key × V)), x = .ref a ∧ vs = [] ∧ H a = some (.dK kvs) ∧ Q .non (upd H a (.dK []))
theorem mt_dclear : MtR X "dict.clear" rDClear := by
  intro pins s σ H x vs v us Q I rx rv h
  obtain ⟨a, kvs, rfl, rfl, hq, q⟩ := h
  cases rx
  cases rv
  exact d_clear I hq fun s' I' => ⟨.non, _, I', rfl, q⟩
theorem call_strO : CallR X (.type "str") (fun xs H Q => (∃ i, xs = [.int i] ∧ i.natAbs.log2 < 1920 ∧ Q (.str (toString i)) H) ∨ (xs = [.non] ∧ Q (.str "None") H)) := by
  intro pins s σ H xs us Q I r h
  rcases h with h | ⟨rfl, q⟩
  · exact call_str_int pins s σ H xs us Q I r h
  · obtain ⟨u, rfl, r1⟩ := vals1 r
    cases r1
    exact PySem.P.str_of_none ⟨.str _, H, I.tok _, ⟨_, rfl⟩, q⟩
end
end L2
set_option Elab.async false
set_option linter.all false
set_option maxRecDepth 100000
set_option maxHeartbeats 4000000
namespace L2
open PySem PySem.Spec PyProof.Rows
def tDNewQ (K : PySem.W.Frag) : TE := fun _ H Q => ∀ p, L2.new K H p → Q (.ref p) (upd H p (.dK []))
theorem ednewQ {X : Cx} {pos : Pos} : JE X (.Dict [] [] pos) (tDNewQ X.K) := ⟨fun pins s σ H Q I h =>
  wpAny_Dict_empty ⟨.ref s.heap.objs.size, _, I.laid (a := s.heap.objs.size) (o := .dK []) (t' := s.toks) (fun _ _ q => Heap.get?_push_of_some _ q) (Nat.le_refl _) (dk_empty s.heap I.big), rfl, h _ I.new⟩⟩
end L2
namespace L2
open PySem PySem.Spec PyProof.Rows
section
variable {prog : Program} {w : World} {A : Around} {E : Value → Shared → Prop} {s : Shared}
theorem nextT {it t : Addr} {k : Nat} {xs : Array Value} {x : Value} {Q : Value → Shared → Prop} (hi : IsTupIter s.heap it t k) (ht : IsTup s.heap t xs) (hx : xs[k]? = some x)
    (q : ∀ g, IsTupIter g it t (k + 1) → Heap.SameBut it s.heap g → Q x { s with heap := g }) : wpAny (model prog w) A (Builtin.SmallTypes.nextOf (.ref it)) Q E s := by
  have ty := hi.typeIs
  obtain ⟨o1, g1, c1, d1⟩ := hi
  obtain ⟨o2, g2, _, n2, d2⟩ := ht
  unfold Builtin.SmallTypes.nextOf
  refine wpAny_bind (wpAny_callSpecial?_slot (name := Str.ofString "__next__") ty slot_tupleiter_next (wpAny_call_entry slot_tupleiter_next ty entry_tupleiter_next ?_ (args_tupleiter_next _)))
  show wpAny (model prog w) _ (field (.ref it) 0 >>= _) _ _ s
  refine wpAny_bind (wpAny_field g1 d1 (x := Value.ref t) rfl ?_)
  show wpAny (model prog w) _ (if (Value.ref t == Value.none) = true then _ else _) _ _ s
  rw [if_neg (fun h => by cases h)]
  show wpAny (model prog w) _ (field (.ref it) 1 >>= _) _ _ s
  refine wpAny_bind (wpAny_field g1 d1 (x := Value.int k 0) rfl ?_)
  show wpAny (model prog w) _ (seqItems? (.ref t) >>= _) _ _ s
  refine wpAny_bind (wpAny_seqItems g2 d2 ?_)
  simp only [hx, Int.toNat_natCast]
  refine wpAny_bind (wpAny_setField g1 d1 (by simp) (wpAny_pure ⟨x, rfl, wpAny_pure (q _ ⟨_, Heap.get?_update_self _ g1 (Obj.isFreed_of_fields (Obj.data_mapFields d1 _)), (Obj.cls_mapFields ..).trans c1, ?_⟩ (Heap.SameBut.update ..))⟩))
  rw [Obj.data_mapFields d1]
  simp [rawInt]
theorem nextT_end {it t : Addr} {k : Nat} {xs : Array Value} {Q : Value → Shared → Prop} (calm : A.handled = none) (hi : IsTupIter s.heap it t k) (ht : IsTup s.heap t xs) (hx : xs[k]? = none)
    (q : ∀ g e, Heap.ExtBut it s.heap g → (∃ o, g.get? e = some o ∧ o.cls = .type "StopIteration") → E (.ref e) { s with heap := g }) : wpAny (model prog w) A (Builtin.SmallTypes.nextOf (.ref it)) Q E s := by
  have ty := hi.typeIs
  obtain ⟨o1, g1, c1, d1⟩ := hi
  obtain ⟨o2, g2, _, n2, d2⟩ := ht
  unfold Builtin.SmallTypes.nextOf
  refine wpAny_bind (wpAny_callSpecial?_slot (name := Str.ofString "__next__") ty slot_tupleiter_next (wpAny_call_entry slot_tupleiter_next ty entry_tupleiter_next ?_ (args_tupleiter_next _)))
  show wpAny (model prog w) _ (field (.ref it) 0 >>= _) _ _ s
  refine wpAny_bind (wpAny_field g1 d1 (x := Value.ref t) rfl ?_)
  show wpAny (model prog w) _ (if (Value.ref t == Value.none) = true then _ else _) _ _ s
  rw [if_neg (fun h => by cases h)]
  show wpAny (model prog w) _ (field (.ref it) 1 >>= _) _ _ s
  refine wpAny_bind (wpAny_field g1 d1 (x := Value.int k 0) rfl ?_)
  show wpAny (model prog w) _ (seqItems? (.ref t) >>= _) _ _ s
  refine wpAny_bind (wpAny_seqItems g2 d2 ?_)
  simp only [hx, Int.toNat_natCast]
  refine wpAny_bind (wpAny_rule (wpAny_bind (wpAny_setField g1 d1 (by simp) ?_)))
  show wpAny (model prog w) _ (newExc (.type "StopIteration") [] >>= _) _ _ _
  refine wpAny_bind ?_
  simp only [newTuple, newExc]
  refine wpAny_bind (wpAny_newObj_type (wpAny_bind (m := firstArgMember _ _) (wpAny_of_eq (a := Value.none) (by first | rfl | (simp only [firstArgMember]; rfl)) (wpAny_newObj_type ?_ (by size_fits)))) (by size_fits))
  simp only [raiseNew]
  refine wpAny_bind (wpAny_handled ?_)
  rw [show A.in1.handled = none from calm]
  exact wpAny_bind (wpAny_pure (wpAny_throw (q _ _ (((Heap.SameBut.update ..).extBut.push _).push _) ⟨_, Heap.get?_push_size _ rfl, rfl⟩)))
structure ZT (g : Heap) (z ti to p1 p2 t1 t2 : Addr) (out : Value) (k1 k2 : Nat) : Prop where
  zip : IsZip g z ti to out
  its : IsPair g ti (.ref p1) (.ref p2)
  fst : IsTupIter g p1 t1 k1
  snd : IsTupIter g p2 t2 k2
theorem zipT_item {z ti to p1 p2 t1 t2 : Addr} {k1 k2 : Nat} {xs ys : Array Value} {x y u v : Value} {Q : Option Value → Shared → Prop} (D : ZipApart z ti to p1 p2 t1 t2) (Z : ZT s.heap z ti to p1 p2 t1 t2 .none k1 k2) (ho : IsPair s.heap to u v)
    (h1 : IsTup s.heap t1 xs) (h2 : IsTup s.heap t2 ys) (hx : xs[k1]? = some x) (hy : ys[k2]? = some y)
    (q : ∀ g, ZT g z ti to p1 p2 t1 t2 (rawInt s.heap.objs.size) (k1 + 1) (k2 + 1) → IsPair g to x y → IsPair g s.heap.objs.size x y → g.objs.size = s.heap.objs.size + 1 →
      (∀ c o, c ≠ z → c ≠ to → c ≠ p1 → c ≠ p2 → s.heap.get? c = some o → g.get? c = some o) → Q (some (.ref s.heap.objs.size)) { s with heap := g }) :
    wpAny (model prog w) A (pyNext (.ref z)) Q E s := by
  have ty : s.TypeIs (.ref z) "zip" := ⟨_, Z.zip, rfl⟩
  unfold pyNext
  refine wpAny_bind (wpAny_attempt (wpAny_callSpecial?_slot (name := Str.ofString "__next__") ty F.slot_zip_next (wpAny_call_entry F.slot_zip_next ty F.entry_zip_next ?_ (F.args_zip_next_1 _))))
  show wpAny (model prog w) _ (field (.ref z) 2 >>= _) _ _ _
  refine wpAny_bind (wpAny_field Z.zip rfl (x := Value.bool false) rfl ?_)
  show wpAny (model prog w) _ (field (.ref z) 3 >>= _) _ _ _
  refine wpAny_bind (wpAny_field Z.zip rfl (x := Value.ref ti) rfl (wpAny_bind (wpAny_seqItems Z.its rfl ?_)))
  show wpAny (model prog w) _ (Builtin.SmallTypes.ownedTupleIsFree (.ref z) >>= _) _ _ _
  refine wpAny_bind ?_
  unfold Builtin.SmallTypes.ownedTupleIsFree
  refine wpAny_bind (wpAny_field Z.zip rfl (x := Value.none) rfl (wpAny_pure ?_))
  rw [if_pos rfl]
  refine wpAny_bind (wpAny_rule (wpAny_bind (wpAny_field Z.zip rfl (x := Value.ref to) rfl (wpAny_bind (wpAny_setField_rec Z.zip (by simp) fun a1 az as => ?_)))))
  replace az : IsZip a1 z ti to .ellipsis := az
  refine wpAny_bind ?_
  simp only [List.forIn_nil, List.forIn_cons, List.zipIdx_nil, List.zipIdx_cons]
  refine wpAny_bind (wpAny_bind (wpAny_onRaise ?_))
  show wpAny (model prog w) _ (Builtin.SmallTypes.nextOf (.ref p1) >>= _) _ _ _
  refine wpAny_bind (nextT (Z.fst.extBut as.extBut D.i1z) (h1.extBut as.extBut D.l1z) hx fun a2 bi bs => wpAny_pure ?_)
  have bo : IsPair a2 to u v := bs.extBut _ _ D.TOi1 (as.extBut _ _ D.TOz ho)
  refine wpAny_bind (wpAny_seqItems bo rfl (wpAny_bind (wpAny_updateSeq_pair bo fun a3 co cs => ?_)))
  replace co : IsPair a3 to x v := co
  refine wpAny_bind (wpAny_letGo (wpAny_pure (wpAny_bind (wpAny_bind (wpAny_onRaise ?_)))))
  show wpAny (model prog w) _ (Builtin.SmallTypes.nextOf (.ref p2) >>= _) _ _ _
  refine wpAny_bind (nextT (((Z.snd.extBut as.extBut D.i2z).extBut bs.extBut D.i12.symm).extBut cs.extBut D.TOi2.symm) (((h2.extBut as.extBut D.l2z).extBut bs.extBut D.l2i1).extBut cs.extBut D.l2TO) hy fun a4 di ds => wpAny_pure ?_)
  have dO : IsPair a4 to x v := ds.extBut _ _ D.TOi2 co
  refine wpAny_bind (wpAny_seqItems dO rfl (wpAny_bind (wpAny_updateSeq_pair dO fun a5 eo es => ?_)))
  replace eo : IsPair a5 to x y := eo
  refine wpAny_bind (wpAny_letGo (wpAny_pure (wpAny_pure (wpAny_bind (wpAny_seqItems eo rfl (wpAny_bind (wpAny_newTuple ?_)))))))
  have n5 : a5.objs.size = s.heap.objs.size := by rw [es.1, ds.1, cs.1, bs.1, as.1]
  have ez : IsZip a5 z ti to .ellipsis := es.extBut _ _ D.TOz.symm (ds.extBut _ _ D.i2z.symm (cs.extBut _ _ D.TOz.symm (bs.extBut _ _ D.i1z.symm az)))
  have keep5 : ∀ c o, c ≠ z → c ≠ to → c ≠ p1 → c ≠ p2 → s.heap.get? c = some o → a5.get? c = some o := fun c o e1 e2 e3 e4 e =>
    es.extBut _ _ e2 (ds.extBut _ _ e4 (cs.extBut _ _ e2 (bs.extBut _ _ e3 (as.extBut _ _ e1 e))))
  have f5 : IsTupIter a5 p1 t1 (k1 + 1) := ((bi.extBut cs.extBut D.TOi1.symm).extBut ds.extBut D.i12).extBut es.extBut D.TOi1.symm
  have s5 : IsTupIter a5 p2 t2 (k2 + 1) := di.extBut es.extBut D.TOi2.symm
  have lz : z < a5.objs.size := Heap.lt_size ez
  show wpAny (model prog w) _ (Builtin.SmallTypes.ownedTupleHandOut (.ref z) (.ref a5.objs.size) >>= _) _ _ _
  refine wpAny_bind ?_
  unfold Builtin.SmallTypes.ownedTupleHandOut
  refine wpAny_bind (wpAny_setField_rec (show IsZip (a5.push { cls := .type "tuple", data := .seq #[x, y] }) z ti to .ellipsis from Heap.get?_push_of_some _ ez) (by simp) fun a7 gz gs => ?_)
  replace gz : IsZip a7 z ti to (rawInt a5.objs.size) := gz
  refine wpAny_setField_rec gz (by simp) fun a8 iz js => ?_
  replace iz : IsZip a8 z ti to (rawInt a5.objs.size) := iz
  have on : ∀ c o, c ≠ z → a5.get? c = some o → a8.get? c = some o := fun c o ne e => js.extBut _ _ ne (gs.extBut _ _ ne (Heap.get?_push_of_some _ e))
  have T8 : IsPair a8 a5.objs.size x y := js.extBut _ _ (Nat.ne_of_gt lz) (gs.extBut _ _ (Nat.ne_of_gt lz) (Heap.get?_push_size _ rfl))
  have n8 : a8.objs.size = a5.objs.size + 1 := by rw [js.1, gs.1, Heap.size_push]
  rw [n5] at iz T8 n8
  refine wpAny_pure ⟨_, rfl, wpAny_pure ?_⟩
  show Q (some (.ref a5.objs.size)) _
  rw [n5]
  have at_ : ∀ {p t : Addr} {k : Nat}, p ≠ z → IsTupIter a5 p t k → IsTupIter a8 p t k := fun ne h => let ⟨o, e, r⟩ := h; ⟨o, on _ o ne e, r⟩
  exact q a8 ⟨iz, on _ _ D.TIz (keep5 _ _ D.TIz D.TITO D.TIi1 D.TIi2 Z.its), at_ D.i1z f5, at_ D.i2z s5⟩ (on _ _ D.TOz eo) T8 n8 fun c o e1 e2 e3 e4 e => on c o e1 (keep5 c o e1 e2 e3 e4 e)
theorem zipT_end {z ti to p1 p2 t1 t2 : Addr} {k1 k2 : Nat} {xs : Array Value} {u v : Value} {Q : Option Value → Shared → Prop} (calm : A.handled = none) (D : ZipApart z ti to p1 p2 t1 t2) (Z : ZT s.heap z ti to p1 p2 t1 t2 .none k1 k2) (ho : IsPair s.heap to u v)
    (h1 : IsTup s.heap t1 xs) (hx : xs[k1]? = none) (q : ∀ g, (∀ c o, c ≠ z → c ≠ p1 → s.heap.get? c = some o → g.get? c = some o) → Q none { s with heap := g }) : wpAny (model prog w) A (pyNext (.ref z)) Q E s := by
  have ty : s.TypeIs (.ref z) "zip" := ⟨_, Z.zip, rfl⟩
  unfold pyNext
  refine wpAny_bind (wpAny_attempt (wpAny_callSpecial?_slot (name := Str.ofString "__next__") ty F.slot_zip_next (wpAny_call_entry F.slot_zip_next ty F.entry_zip_next ?_ (F.args_zip_next_1 _))))
  show wpAny (model prog w) _ (field (.ref z) 2 >>= _) _ _ _
  refine wpAny_bind (wpAny_field Z.zip rfl (x := Value.bool false) rfl ?_)
  show wpAny (model prog w) _ (field (.ref z) 3 >>= _) _ _ _
  refine wpAny_bind (wpAny_field Z.zip rfl (x := Value.ref ti) rfl (wpAny_bind (wpAny_seqItems Z.its rfl ?_)))
  show wpAny (model prog w) _ (Builtin.SmallTypes.ownedTupleIsFree (.ref z) >>= _) _ _ _
  refine wpAny_bind ?_
  unfold Builtin.SmallTypes.ownedTupleIsFree
  refine wpAny_bind (wpAny_field Z.zip rfl (x := Value.none) rfl (wpAny_pure ?_))
  rw [if_pos rfl]
  refine wpAny_bind (wpAny_rule (wpAny_bind (wpAny_field Z.zip rfl (x := Value.ref to) rfl (wpAny_bind (wpAny_setField_rec Z.zip (by simp) fun a1 az as => ?_)))))
  replace az : IsZip a1 z ti to .ellipsis := az
  refine wpAny_bind ?_
  simp only [List.forIn_nil, List.forIn_cons, List.zipIdx_nil, List.zipIdx_cons]
  refine wpAny_bind (wpAny_bind (wpAny_onRaise ?_))
  show wpAny (model prog w) _ (Builtin.SmallTypes.nextOf (.ref p1) >>= _) _ _ _
  refine wpAny_bind (nextT_end calm (Z.fst.extBut as.extBut D.i1z) (h1.extBut as.extBut D.l1z) hx fun a2 e bs he => ?_)
  obtain ⟨oe, ge, ce⟩ := he
  have bz : IsZip a2 z ti to .ellipsis := bs _ _ D.i1z.symm az
  have ez : e ≠ z := fun z' => by subst z'; rw [bz] at ge; cases ge; simp at ce
  refine wpAny_setField_rec bz (by simp) fun a3 _ cs => wpAny_bind (wpAny_isInstance (T := "StopIteration") (b := true) ⟨oe, cs.extBut _ _ ez ge, ce⟩ isSubtype_stop (wpAny_pure (q a3 fun c o e1 e2 e => cs.extBut _ _ e1 (bs _ _ e2 (as.extBut _ _ e1 e)))))
abbrev tpIt (t : Addr) : Obj := { cls := .type "tuple_iterator", data := .fields #[.ref t, .int 0 0] }
abbrev zt2 (h : Heap) (t1 t2 : Addr) : Heap := (h.push (tpIt t1)).push (tpIt t2)
abbrev zt3 (h : Heap) (t1 t2 : Addr) : Heap := (zt2 h t1 t2).push { cls := .type "tuple", data := .seq #[.ref h.objs.size, .ref (h.push (tpIt t1)).objs.size] }
abbrev zt4 (h : Heap) (t1 t2 : Addr) : Heap := (zt3 h t1 t2).push { cls := .type "tuple", data := .seq #[.none, .none] }
abbrev zt5 (h : Heap) (t1 t2 : Addr) : Heap := (zt4 h t1 t2).push { cls := .type "zip", data := .fields #[.none, .bool false, .bool false, .ref (zt2 h t1 t2).objs.size, .ref (zt3 h t1 t2).objs.size] }
theorem meets_zt (t1 t2 : Addr) (xs ys : Array Value) : Meets (Builtin.«zip.__new__» ⟨[.type "zip", .ref t1, .ref t2], []⟩) (fun _ R s => IsTup s.heap t1 xs ∧ IsTup s.heap t2 ys ∧ R (.ok (.ret (.ref (zt4 s.heap t1 t2).objs.size))) { s with heap := zt5 s.heap t1 t2 }) :=
  .of_wp fun prog w A R s h => by
    obtain ⟨h0, gn, dr, tk, os⟩ := s
    obtain ⟨e1, e2, h⟩ := h
    have sub := sub_zip
    have f1 : IsTup (Shared.heap ⟨h0, gn, dr, tk, os⟩) t1 xs := e1
    have f2 : IsTup (Shared.heap ⟨h0.push (tpIt t1), gn, dr, tk, os⟩) t2 ys := e2.push _
    wp_walk using iter_tuple f1, iter_tuple f2
    exact ⟨_, rfl, h⟩
theorem call_zipT {t1 t2 : Addr} {xs ys : Array Value} {Q : Value → Shared → Prop} (h1 : IsTup s.heap t1 xs) (h2 : IsTup s.heap t2 ys)
    (q : ∀ g, ZT g (s.heap.objs.size + 4) (s.heap.objs.size + 2) (s.heap.objs.size + 3) s.heap.objs.size (s.heap.objs.size + 1) t1 t2 .none 0 0 → IsPair g (s.heap.objs.size + 3) .none .none → (∀ c o, s.heap.get? c = some o → g.get? c = some o) → Q (.ref (s.heap.objs.size + 4)) { s with heap := g }) :
    wpAny (model prog w) A (call (.type "zip") [.ref t1, .ref t2]) Q E s := by
  refine callType_new F.called_zip (by decide) (F.typeCall_zip_2 _ _) (F.newCall_zip_2 _ _) (fun o => F.args_object_init_3 o _ _) F.entry_zip_new (meets_zt t1 t2 xs ys) ⟨h1, h2, ?_⟩
  have z1 : (s.heap.push (tpIt t1)).objs.size = s.heap.objs.size + 1 := Heap.size_push ..
  have z2 : (zt2 s.heap t1 t2).objs.size = s.heap.objs.size + 2 := by rw [Heap.size_push, Heap.size_push]
  have z3 : (zt3 s.heap t1 t2).objs.size = s.heap.objs.size + 3 := by rw [Heap.size_push, z2]
  have z4 : (zt4 s.heap t1 t2).objs.size = s.heap.objs.size + 4 := by rw [Heap.size_push, z3]
  have e5 : (zt5 s.heap t1 t2).get? (zt4 s.heap t1 t2).objs.size = some _ := Heap.get?_push_size _ rfl
  have e4 : (zt5 s.heap t1 t2).get? (zt3 s.heap t1 t2).objs.size = some _ := Heap.get?_push_of_some _ (Heap.get?_push_size _ rfl)
  have e3 : (zt5 s.heap t1 t2).get? (zt2 s.heap t1 t2).objs.size = some _ := Heap.get?_push_of_some _ (Heap.get?_push_of_some _ (Heap.get?_push_size _ rfl))
  have e2 : (zt5 s.heap t1 t2).get? (s.heap.push (tpIt t1)).objs.size = some (tpIt t2) := Heap.get?_push_of_some _ (Heap.get?_push_of_some _ (Heap.get?_push_of_some _ (Heap.get?_push_size _ rfl)))
  have e1 : (zt5 s.heap t1 t2).get? s.heap.objs.size = some (tpIt t1) := Heap.get?_push_of_some _ (Heap.get?_push_of_some _ (Heap.get?_push_of_some _ (Heap.get?_push_of_some _ (Heap.get?_push_size _ rfl))))
  rw [z2, z3, z4] at e5
  rw [z1, z2] at e3
  rw [z3] at e4
  rw [z1] at e2
  show _ ∧ _
  rw [z4]
  exact ⟨⟨_, e5, rfl⟩, q _ ⟨e5, e3, ⟨_, e1, rfl, rfl⟩, ⟨_, e2, rfl, rfl⟩⟩ e4 fun c o x => Heap.get?_push_of_some _ (Heap.get?_push_of_some _ (Heap.get?_push_of_some _ (Heap.get?_push_of_some _ (Heap.get?_push_of_some _ x))))⟩
end
def ItzT (K : PySem.W.Frag) (a b : Addr) : It := ⟨fun i H => ∃ xs ys x y, SqT K H a xs ∧ SqT K H b ys ∧ xs[i]? = some x ∧ ys[i]? = some y, fun i H x H' => ∃ T v u, L2.new K H T ∧ (∀ xs, SqT K H a xs → xs[i]? = some v) ∧ (∀ ys, SqT K H b ys → ys[i]? = some u) ∧ x = .ref T ∧ H' = upd H T (.tup [v, u]), fun i H => ∃ xs, SqT K H a xs ∧ xs.length ≤ i⟩
theorem turn_zipT {P : Program} {w : World} {K : PySem.W.Frag} {es : List Expr} {k : Nat} {tp : Pos} (a b z ti to p1 p2 : Addr) (D : ZipApart z ti to p1 p2 a b) : Turn P w K (.Tuple es k tp) (ItzT K a b) [z, ti, to, p1, p2] z
    (fun i h => ZT h z ti to p1 p2 a b .none i i ∧ ∃ p q, IsPair h to p q) where
  mem := by simp
  obj := fun i h st c hc => by
    obtain ⟨⟨g1, g2, ⟨o4, g4, c4, d4⟩, ⟨o5, g5, c5, d5⟩⟩, p, q, g3⟩ := st
    simp only [List.mem_cons, List.not_mem_nil, or_false] at hc
    rcases hc with rfl | rfl | rfl | rfl | rfl
    · exact ⟨_, g1, fun v z => by cases z⟩
    · exact ⟨_, g2, fun v z => by cases z⟩
    · exact ⟨_, g3, fun v z => by cases z⟩
    · exact ⟨o4, g4, fun v z => by rw [d4] at z; cases z⟩
    · exact ⟨o5, g5, fun v z => by rw [d5] at z; cases z⟩
  keep := fun i h h' st kk => by
    obtain ⟨⟨g1, g2, ⟨o4, g4, r4⟩, ⟨o5, g5, r5⟩⟩, p, q, g3⟩ := st
    exact ⟨⟨kk z (by simp) _ g1, kk ti (by simp) _ g2, ⟨o4, kk p1 (by simp) _ g4, r4⟩, ⟨o5, kk p2 (by simp) _ g5, r5⟩⟩, p, q, kk to (by simp) _ g3⟩
  item := by
    intro X hP hw hK hc i pins s σ H E I hf st hg
    subst hP hw hK
    obtain ⟨xs, ys, x, y, hq, hq', hx, hy⟩ := hg
    obtain ⟨its, rv, p, hz⟩ := I.tuple hq
    obtain ⟨its', rv', p', hz'⟩ := I.tuple hq'
    obtain ⟨u, hu, ru⟩ := rv.get hx
    obtain ⟨u', hu', ru'⟩ := rv'.get hy
    obtain ⟨Z, a', b', g3⟩ := st
    refine zipT_item D Z g3 p p' (x := u) (y := u') (by simpa using hu) (by simpa using hu') fun h1 Z1 hO gT sz kp => ?_
    refine ⟨_, rfl, wpAny_letOwnedTupleGo_zip Z1.zip fun h2 hz2 sb => ?_⟩
    have ltZ : z < s.heap.objs.size := Heap.lt_size Z.zip
    have gT2 : h2.get? s.heap.objs.size = some { cls := .type "tuple", data := .seq #[u, u'] } := (sb.2 _ (Nat.ne_of_gt ltZ)).trans gT
    have I1 : Inv X pins σ (upd H s.heap.objs.size (.tup [x, y])) { s with heap := h2, toks := s.toks } := by
      refine I.turnLay (ch := [z, ti, to, p1, p2]) (fun b o hb g => ?_) hf (Nat.le_refl _) ⟨(show 2 ≤ sizeLine by decide), [u, u'], .cons ru (.cons ru' .nil), _, gT2, rfl, _, rfl⟩
      simp only [List.mem_cons, List.not_mem_nil, or_false, not_or] at hb
      exact (sb.2 b hb.1).trans (kp b o hb.1 hb.2.2.1 hb.2.2.2.1 hb.2.2.2.2 g)
    have kT : ∀ c o, c ≠ z → h1.get? c = some o → h2.get? c = some o := fun c o n g => (sb.2 c n).trans g
    have itT : ∀ {p t : Addr} {k : Nat}, p ≠ z → IsTupIter h1 p t k → IsTupIter h2 p t k := fun ne h => let ⟨o, e, r⟩ := h; ⟨o, kT _ o ne e, r⟩
    refine ⟨.ref s.heap.objs.size, _, I1, rfl, ⟨_, x, y, ⟨I.hok.fresh (Nat.le_refl _), I1.notMod upd_same⟩, fun ys hy => by rw [I.tuple_inj hy hq]; exact hx, fun zs hy' => by rw [I.tuple_inj hy' hq']; exact hy, rfl, rfl⟩,
      ⟨⟨hz2, kT _ _ D.TIz Z1.its, itT D.i1z Z1.fst, itT D.i2z Z1.snd⟩, _, _, kT _ _ D.TOz hO⟩, fun c hc => ?_⟩
    have ltc : c < s.heap.objs.size := by
      obtain ⟨_, g2, ⟨o4, e4, _⟩, ⟨o5, e5, _⟩⟩ := Z
      simp only [List.mem_cons, List.not_mem_nil, or_false] at hc
      rcases hc with rfl | rfl | rfl | rfl | rfl
      · exact ltZ
      · exact Heap.lt_size g2
      · exact Heap.lt_size g3
      · exact Heap.lt_size e4
      · exact Heap.lt_size e5
    rw [upd_ne (Nat.ne_of_lt ltc)]
    exact (hf c hc).1
  done := by
    intro X hP hw hK hc i pins s σ H E I hf st hg
    subst hP hw hK
    obtain ⟨xs, hq, hx⟩ := hg
    obtain ⟨its, rv, p, hz⟩ := I.tuple hq
    obtain ⟨Z, a', b', g3⟩ := st
    have hl := rv.length
    refine zipT_end (I.ok.hd hc) D Z g3 p (by simp; omega) fun h' kp => ⟨rfl, I.turnAll (t' := s.toks) (ch := [z, ti, to, p1, p2]) (fun b o hb g => ?_) hf⟩
    simp only [List.mem_cons, List.not_mem_nil, or_false, not_or] at hb
    exact kp b o hb.1 hb.2.2.2.1 g
  self := fun _ _ _ _ _ st h => wpAny_pyIter_zip st.1.zip h
section
variable {X : Cx}
def iZipS (K : PySem.W.Frag) (tl : TA) : TI := fun σ H R => tl σ H fun vs H1 => ∃ a b, vs = [.ref a, .ref b] ∧ (((∃ xs, SqL K H1 a xs) ∧ (∃ ys, SqL K H1 b ys) ∧ R (Itz K a b) H1) ∨ ((∃ xs, SqT K H1 a xs) ∧ (∃ ys, SqT K H1 b ys) ∧ R (ItzT K a b) H1))
theorem izipS {K : PySem.W.Frag} {l l' : Expr} {t : TA} {es : List Expr} {k : Nat} {p pos tp : Pos} (hg : Gl X "zip") (hm : X.mg "zip" = none) (ha : JA X [l, l'] t) (hs : starEach [l, l'] X.env = (false, eval l X.env) :: starEach [l'] X.env := by rfl) (hs2 : (backTo pos (starEach [l'] X.env)).any (·.1) = false := by rfl) (hk : X.K = K := by rfl) :
    JI X (.Tuple es k tp) (.Call (.Name "zip" p) [l, l'] [] pos) (iZipS K t) := ⟨by
  subst hk
  intro pins s σ H R I h
  refine Call_ (ld_blt I hg hm bt_zip (PyProof.Rows.callWith_type1 (thn (ha.h pos pins s σ H _ I h) fun us s1 ⟨vs, H1, I1, r1, q1⟩ => ?_) hs hs2))
  have far : ∀ b, b ∈ [s1.heap.objs.size + 4, s1.heap.objs.size + 2, s1.heap.objs.size + 3, s1.heap.objs.size, s1.heap.objs.size + 1] → s1.heap.objs.size ≤ b := by
    intro b hb
    simp only [List.mem_cons, List.not_mem_nil, or_false] at hb
    omega
  obtain ⟨a, b, rfl, ⟨⟨xs, hx⟩, ⟨ys, hy⟩, q⟩ | ⟨⟨xs, hx⟩, ⟨ys, hy⟩, q⟩⟩ := q1
  · obtain ⟨u, u', rfl, ru, ru'⟩ := vals2 r1
    cases ru
    cases ru'
    obtain ⟨its, rv, ht, hz⟩ := I1.list hx
    obtain ⟨its', rv', ht', hz'⟩ := I1.list hy
    have la : a < s1.heap.objs.size := by obtain ⟨_, e, _⟩ := ht.isList; exact Heap.lt_size e
    have lb : b < s1.heap.objs.size := by obtain ⟨_, e, _⟩ := ht'.isList; exact Heap.lt_size e
    refine call_zip_2 ht.isList ht'.isList fun h2 g1 g2 g3 g4 g5 sz kp => ?_
    exact wpAny_pyIter_zip g1 ⟨_, [s1.heap.objs.size + 4, s1.heap.objs.size + 2, s1.heap.objs.size + 3, s1.heap.objs.size, s1.heap.objs.size + 1], _, Itz X.K a b, H1, rfl, I1.kept (t' := s1.toks) kp, turn_zip a b _ _ _ _ _ (zipApart_new la lb), ⟨g1, g2, ⟨_, _, g3⟩, g4, g5⟩, fun b hb => I1.fpOk (far b hb) (I1.hok.fresh (far b hb)), q⟩
  · obtain ⟨u, u', rfl, ru, ru'⟩ := vals2 r1
    cases ru
    cases ru'
    obtain ⟨its, rv, ht, hz⟩ := I1.tuple hx
    obtain ⟨its', rv', ht', hz'⟩ := I1.tuple hy
    refine call_zipT ht ht' fun h2 Z g3 kp => ?_
    exact wpAny_pyIter_zip Z.zip ⟨_, [s1.heap.objs.size + 4, s1.heap.objs.size + 2, s1.heap.objs.size + 3, s1.heap.objs.size, s1.heap.objs.size + 1], _, ItzT X.K a b, H1, rfl, I1.kept (t' := s1.toks) kp, turn_zipT a b _ _ _ _ _ (zipApart_new ht.lt ht'.lt), ⟨Z, _, _, g3⟩, fun b hb => I1.fpOk (far b hb) (I1.hok.fresh (far b hb)), q⟩⟩
end
section
variable {K : PySem.W.Frag} {g : TG} {tt : TT} {te : TE} {D : Addr} {σ : St} {H : Hp} {Q : Hp → Prop} {a b : Addr} {xs ys : List V}
theorem tLc_zipS {ta : TA} {src : List (Option Nat)} {Q : VK} : tLc K (iZipS K ta) src g tt te σ H Q = ta σ H (fun vs H1 => ∃ a b, vs = [.ref a, .ref b] ∧ (((∃ xs, SqL K H1 a xs) ∧ (∃ ys, SqL K H1 b ys) ∧ ∀ D, L2.new K H1 D → LcLoop (Itz K a b) g tt te D (fun H' => Q (.ref D) H') (pick σ src) (upd H1 D (.lst []))) ∨
    ((∃ xs, SqT K H1 a xs) ∧ (∃ ys, SqT K H1 b ys) ∧ ∀ D, L2.new K H1 D → LcLoop (ItzT K a b) g tt te D (fun H' => Q (.ref D) H') (pick σ src) (upd H1 D (.lst []))))) := rfl
theorem lc_zip (Pv : Nat → List V → St → Hp → Prop) (el : xs.length = ys.length) (h0 : Pv 0 [] σ H) (hl : ∀ i acc σ H, i ≤ xs.length → Pv i acc σ H → SqL K H a xs ∧ SqL K H b ys)
    (hs : ∀ i x y acc σ H T, xs[i]? = some x → ys[i]? = some y → Pv i acc σ H → L2.new K H T → g (.ref T) σ (upd H T (.tup [x, y])) fun σ2 H2 => tt σ2 H2 fun b H3 => if b = true then te σ2 H3 fun v H4 => H4 D = some (.lst acc) ∧ acc.length < sizeLine ∧ Pv (i + 1) (acc ++ [v]) σ2 (upd H4 D (.lst (acc ++ [v]))) else Pv (i + 1) acc σ2 H3)
    (hd : ∀ acc σ H, Pv xs.length acc σ H → Q H) : LcLoop (Itz K a b) g tt te D Q σ H := by
  refine lc_run (n := xs.length) Pv h0 (fun i acc σ H hi h => ?_) (fun acc σ H h => ?_) (fun i acc σ H x H' hi h hy => ?_) hd
  · obtain ⟨q1, q2⟩ := hl i acc σ H (Nat.le_of_lt hi) h
    exact ⟨xs, ys, xs[i], ys[i]'(by omega), q1, q2, by simp [hi], by simp [← el, hi]⟩
  · obtain ⟨q1, q2⟩ := hl _ acc σ H (Nat.le_refl _) h
    exact ⟨xs, ys, q1, q2, .inl (Nat.le_refl _)⟩
  · obtain ⟨q1, q2⟩ := hl i acc σ H (Nat.le_of_lt hi) h
    obtain ⟨T, v, u, nT, hv, hu, rfl, rfl⟩ := hy
    exact hs i v u acc σ H T (hv xs q1) (hu ys q2) h nT
theorem lc_zipT (Pv : Nat → List V → St → Hp → Prop) (el : xs.length = ys.length) (h0 : Pv 0 [] σ H) (hl : ∀ i acc σ H, i ≤ xs.length → Pv i acc σ H → SqT K H a xs ∧ SqT K H b ys)
    (hs : ∀ i x y acc σ H T, xs[i]? = some x → ys[i]? = some y → Pv i acc σ H → L2.new K H T → g (.ref T) σ (upd H T (.tup [x, y])) fun σ2 H2 => tt σ2 H2 fun b H3 => if b = true then te σ2 H3 fun v H4 => H4 D = some (.lst acc) ∧ acc.length < sizeLine ∧ Pv (i + 1) (acc ++ [v]) σ2 (upd H4 D (.lst (acc ++ [v]))) else Pv (i + 1) acc σ2 H3)
    (hd : ∀ acc σ H, Pv xs.length acc σ H → Q H) : LcLoop (ItzT K a b) g tt te D Q σ H := by
  refine lc_run (n := xs.length) Pv h0 (fun i acc σ H hi h => ?_) (fun acc σ H h => ?_) (fun i acc σ H x H' hi h hy => ?_) hd
  · obtain ⟨q1, q2⟩ := hl i acc σ H (Nat.le_of_lt hi) h
    exact ⟨xs, ys, xs[i], ys[i]'(by omega), q1, q2, by simp [hi], by simp [← el, hi]⟩
  · obtain ⟨q1, q2⟩ := hl _ acc σ H (Nat.le_refl _) h
    exact ⟨xs, q1, Nat.le_refl _⟩
  · obtain ⟨q1, q2⟩ := hl i acc σ H (Nat.le_of_lt hi) h
    obtain ⟨T, v, u, nT, hv, hu, rfl, rfl⟩ := hy
    exact hs i v u acc σ H T (hv xs q1) (hu ys q2) h nT
end
section
variable {X : Cx}
theorem call_lenA : CallR X (.builtin "len") (fun xs H Q => (∃ p ys, xs = [.ref p] ∧ seqQ X.K H p = some ys ∧ Q (.int ys.length) H) ∨ ∃ a kvs, xs = [V.ref a] ∧ H a = some (.dK kvs) ∧ Q (.int kvs.length) H) := by
  intro pins s σ H xs us Q I r h
  rcases h with h | h
  · exact call_lenQ pins s σ H xs us Q I r h
  · exact call_lenD pins s σ H xs us Q I r h
end
end L2
set_option Elab.async false
set_option linter.all false
set_option maxRecDepth 100000
set_option maxHeartbeats 4000000
namespace K71
open PySem L2
local macro_rules | `(tactic| walk_at "rd") => `(tactic| simp only [tSeq, tNext, tIfS, tAsg, gName, gSub, tRet, tRetN, tDrop, tVar, tC, tOp, tUn, rI0, rI, rU, tTest, tB, tAndV, tOrV, tNotV, tAnd, tOr, tNot, tIf, tChain, tCB, tCons, tNil, tLst, tTup, tCallC, List.getElem?_cons_zero, List.getElem?_cons_succ, List.set_cons_zero, List.set_cons_succ, Option.some.injEq, V.int.injEq, V.bl.injEq, V.ref.injEq, V.ty.injEq, V.str.injEq, List.cons.injEq, exists_eq_left', exists_eq_left, exists_and_left, and_true, true_and, and_assoc, cxK, rIxF, rSetL, rEq, rNe, scal, HO.lst.injEq, HO.tup.injEq, upd_none, ixN_10, ixN_20, ixN_21, ixN_30, ixN_31, ixN_32, upd_same, seqAt_updL, seqAt_updT, atI_0, atI_1, atI_2, atI_3, decide_eq_true_eq, L2.start, List.map_cons, List.map_nil, List.length_cons, List.length_nil, Nat.reduceAdd, Nat.reduceSub, List.replicate_succ, List.replicate_zero, List.cons_append, List.nil_append, List.append_nil, tFor_rng1, tFor_rng2, tFor_list, tFor_tup, CDv, CMul, CPow, sizeLine_eq, Int.reduceLE, Int.reduceLT, Int.reducePow, Int.reduceToNat, Int.reduceAdd, Int.reduceSub, Int.reduceMul, Int.reduceNeg, Nat.reduceLeDiff, Nat.reducePow, Nat.reduceLT, Int.reduceEq, true_or, or_true, ite_true, ite_false, if_true, if_false, Bool.not_true, Bool.not_false, Bool.false_eq_true, decide_true, decide_false, rIxQ, seqQ_updL, seqQ_updT, tupQ_updT, tSl, tNoPart, tPart, rSlQ, rCatQ, tTupQ, tLstQ, new_upd, tNever, rEqD, rInQ, gTupQ, gCons, gNil, tBM, tBM0, rAppend, rClear, rExtend, rPart, rSlS, rJoin, rIxS, tLRange, tDisp1, tyV, tDGet, rDClear, tRev, tFor_rng3, tLc_rng1, tLc_rng2, tLc_list, tLc_tup, pick_nil, pick_own, pick_cap, join_some, tYes, tCallKC, gk_11, gk_31, tSortDown, tDNewQ, sDPut, tLc_zipS, tLcD])
local macro_rules | `(tactic| walk_at "rn") => `(tactic| simp only [tSeq, tNext, tIfS, tAsg, gName, gSub, tRet, tRetN, tDrop, tVar, tC, tOp, tUn, rI0, rI, rU, tTest, tB, tAndV, tOrV, tNotV, tAnd, tOr, tNot, tIf, tChain, tCB, tCons, tNil, tLst, tTup, tCallC, List.getElem?_cons_zero, List.getElem?_cons_succ, List.set_cons_zero, List.set_cons_succ, Option.some.injEq, V.int.injEq, V.bl.injEq, V.ref.injEq, V.ty.injEq, V.str.injEq, List.cons.injEq, exists_eq_left', exists_eq_left, exists_and_left, and_true, true_and, and_assoc, cxK, rIxF, rSetL, rEq, rNe, scal, HO.lst.injEq, HO.tup.injEq, upd_none, ixN_10, ixN_20, ixN_21, ixN_30, ixN_31, ixN_32, upd_same, seqAt_updL, seqAt_updT, atI_0, atI_1, atI_2, atI_3, decide_eq_true_eq, L2.start, List.map_cons, List.map_nil, List.length_cons, List.length_nil, Nat.reduceAdd, Nat.reduceSub, List.replicate_succ, List.replicate_zero, List.cons_append, List.nil_append, List.append_nil, tFor_rng1, tFor_rng2, tFor_list, tFor_tup, CDv, CMul, CPow, sizeLine_eq, Int.reduceLE, Int.reduceLT, Int.reducePow, Int.reduceToNat, Int.reduceAdd, Int.reduceSub, Int.reduceMul, Int.reduceNeg, Nat.reduceLeDiff, Nat.reducePow, Nat.reduceLT, Int.reduceEq, true_or, or_true, ite_true, ite_false, if_true, if_false, Bool.not_true, Bool.not_false, Bool.false_eq_true, decide_true, decide_false, rIxQ, seqQ_updL, seqQ_updT, tupQ_updT, tSl, tNoPart, tPart, rSlQ, rCatQ, tTupQ, tLstQ, tNever, rEqD, rInQ, gTupQ, gCons, gNil, tBM, tBM0, rAppend, rClear, rExtend, rPart, rSlS, rJoin, rIxS, tLRange, tDisp1, tyV, tDGet, rDClear, tRev, tFor_rng3, tLc_rng1, tLc_rng2, tLc_list, tLc_tup, pick_nil, pick_own, pick_cap, join_some, tYes, tCallKC, gk_11, gk_31, tSortDown, tDNewQ, sDPut, tLc_zipS, tLcD])
def top (i : Nat) : Stmt := PySem.Challenge.pw_notefall_k71_rooms_written.main.body.getD i (.Pass ⟨0, 0, 0, 0⟩)
abbrev s_figures_of : Stmt := top 2
abbrev s_list_text : Stmt := top 4
abbrev s_numbers_text : Stmt := top 5
abbrev s_version_text : Stmt := top 6
abbrev s_row_text : Stmt := top 7
abbrev s_half_text : Stmt := top 8
abbrev s_note_text : Stmt := top 9
abbrev s_room_text : Stmt := top 10
abbrev s__law_cell_at : Stmt := top 12
abbrev s__law_digit : Stmt := top 13
abbrev s__law_alike : Stmt := top 14
abbrev s__law_number : Stmt := top 15
abbrev s__law_first : Stmt := top 16
abbrev s__law_rising : Stmt := top 17
abbrev s__law_keys : Stmt := top 18
abbrev s__law_versions : Stmt := top 19
abbrev s__law_some : Stmt := top 20
abbrev s__law_note : Stmt := top 21
abbrev s__law_room : Stmt := top 22
abbrev s__law_half : Stmt := top 23
abbrev s__law_line : Stmt := top 24
abbrev s__law_row_text : Stmt := top 25
abbrev s__law_note_text : Stmt := top 26
abbrev s__law_room_text : Stmt := top 27
abbrev s__law_copy : Stmt := top 28
abbrev s__law_writes : Stmt := top 29
abbrev s_law : Stmt := top 30
structure B (K : PySem.W.Frag) (mg : Str → Option Value) (aG : Addr) : Prop where
  len : mg "len" = none
  isinstance : mg "isinstance" = none
  int : mg "int" = none
  str : mg "str" = none
  range : mg "range" = none
  list : mg "list" = none
  dict : mg "dict" = none
  max : mg "max" = none
  min : mg "min" = none
  all : mg "all" = none
  zip : mg "zip" = none
  tuple : mg "tuple" = none
  bool : mg "bool" = none
  GONE : mg "GONE" = some (.ref aG)
  kG : kTup K aG = some [.str "gone"]
theorem B.GONE_is {K : PySem.W.Frag} {mg : Str → Option Value} {aG : Addr} (B : B K mg aG) : RelV (.ref aG) (.ref aG) := rfl
def numT (i : Int) : Str := Str.ofString (toString i)
def listT (sep : Str) (ts : List Str) : Str := if ts = [] then Str.ofString "-" else Str.join sep ts
theorem lenAll_le {sep : Str} {m : Nat} (ts : List Str) (h : ∀ t ∈ ts, t.length ≤ m) : lenAll sep ts ≤ ts.length * (m + sep.length) := by
  have e : ∀ (ts : List Str) (k : Nat), (∀ t ∈ ts, t.length ≤ m) → ts.foldl (fun n x => n + x.length + sep.length) k ≤ k + ts.length * (m + sep.length) := by
    intro ts
    induction ts with
    | nil => intro k _; simp
    | cons x r ih =>
      intro k h
      rw [List.foldl_cons, List.length_cons, Nat.add_mul]
      have h1 := ih (k + x.length + sep.length) fun t m => h t (List.mem_cons_of_mem _ m)
      have h2 := h x List.mem_cons_self
      omega
  have := e ts 0 h
  unfold lenAll
  omega
theorem join_le {sep : Str} {m : Nat} : ∀ (ts : List Str), (∀ t ∈ ts, t.length ≤ m) → (Str.join sep ts).length ≤ ts.length * (m + sep.length)
  | [], _ => by simp [Str.join, Str.empty, Str.length]
  | [x], h => by
    have := h x List.mem_cons_self
    show x.length ≤ 1 * (m + sep.length)
    omega
  | x :: y :: r, h => by
    have e := join_le (sep := sep) (y :: r) fun t m => h t (List.mem_cons_of_mem _ m)
    have h2 := h x List.mem_cons_self
    show (x ++ sep ++ Str.join sep (y :: r)).length ≤ _
    rw [Str.length_append, Str.length_append, List.length_cons (a := x), Nat.add_mul]
    omega
theorem listT_le {sep : Str} {m : Nat} (ts : List Str) (h : ∀ t ∈ ts, t.length ≤ m) : (listT sep ts).length ≤ ts.length * (m + sep.length) + 1 := by
  unfold listT
  split
  · rename_i e
    rw [e]
    show (Str.ofString "-").length ≤ _
    have : (Str.ofString "-").length = 1 := by decide +kernel
    omega
  · exact Nat.le_succ_of_le (join_le ts h)
theorem numT_len {i : Int} (h : i.natAbs < 10 ^ 100) : (numT i).length ≤ 101 := by
  unfold numT
  rw [PySem.ofString_length]
  exact int_text_length_le10 (by decide) h
theorem num_log {i : Int} (h : i.natAbs < 10 ^ 100) : i.natAbs.log2 < 1920 := by
  by_cases e : i.natAbs = 0
  · rw [e]; decide
  · exact Nat.lt_trans ((Nat.log2_lt (k := 400) e).2 (Nat.lt_trans h (by decide))) (by decide)
def spFig : Sp := fun vs H Q _ => ∃ i : Int, vs = [.int i] ∧ i.natAbs < 10 ^ 100 ∧ Q (.str (numT i)) H
def spListText (K : PySem.W.Frag) : Sp := fun vs H Q _ => ∃ (p : Addr) (sep : Str) (ts : List Str) (m : Nat), vs = [.ref p, .str sep] ∧ SqL K H p (ts.map V.str) ∧ sep.length = 1 ∧ (∀ t ∈ ts, t.length ≤ m) ∧ ts.length * (m + 1) ≤ 1000000 ∧ Q (.str (listT sep ts)) H
theorem tru_seq {K : PySem.W.Frag} {H : Hp} {p : Addr} {xs : List V} {b : Bool} (h : SqL K H p xs) (e : xs.isEmpty = b) : TruV K (.ref p) H (!b) := by
  rw [← e]
  exact .inl ⟨xs, h, rfl⟩
theorem lc_mapQ {α : Type} {K : PySem.W.Frag} {c D : Addr} {L : List α} {f g : α → V} {te : TE} {v0 : Option V} {rest : St} {H : Hp} {Q : Hp → Prop} (hk : H c = some (.lst (L.map f))) (nD : new K H D) (hz : L.length ≤ 1000)
    (elt : ∀ q ∈ L, ∀ H' (Q : VK), Ext K H H' → Q (g q) H' → te (some (f q) :: rest) H' Q)
    (fin : ∀ H', H' D = some (.lst (L.map g)) → Ext K H H' → Q H') : LcLoop (Itl K c) (gName 0) tYes te D Q (v0 :: rest) (upd H D (.lst [])) := by
  refine lc_list (xs := L.map f) (fun i acc σ' H' => ∃ (v0 : Option V), σ' = v0 :: rest ∧ H' D = some (.lst acc) ∧ acc = (L.take i).map g ∧ Kp K D (upd H D (.lst [])) H') ?_ ?_ ?_ ?_
  · exact ⟨_, rfl, upd_same, rfl, Kp.refl⟩
  · rintro i acc σ' H' _ ⟨v0, rfl, hD, rfl, k⟩
    exact SqL.of ((k.ext nD).at hk)
  · rintro i x acc σ' H' hx ⟨v0, rfl, hD, rfl, k⟩
    rw [List.getElem?_map] at hx
    obtain ⟨q, ek, rfl⟩ := Option.map_eq_some_iff.mp hx
    have hlen : ((L.take i).map g).length ≤ 1000 := by rw [List.length_map, List.length_take]; omega
    unfold gName tYes
    refine iteT ?_
    refine elt q (List.mem_of_getElem? ek) H' _ (k.ext nD) ⟨hD, Nat.lt_of_le_of_lt hlen (by decide), _, rfl, upd_same, ?_, k.trans (Kp.upd hD)⟩
    rw [List.take_add_one, ek, Option.toList_some, List.map_append]
    rfl
  · rintro acc σ' H' ⟨v0, rfl, hD, rfl, k⟩
    rw [List.length_map, List.take_length] at hD
    exact fin H' hD (k.ext nD)
theorem lc_mapX {α : Type} {K : PySem.W.Frag} {c D : Addr} {L : List α} {f g : α → V} {te : TE} {v0 : Option V} {rest : St} {H : Hp} {Q : Hp → Prop} (hk : H c = some (.lst (L.map f))) (nD : new K H D) (hz : L.length ≤ 1000)
    (elt : ∀ q ∈ L, ∀ H' (Q : VK), Ext K H H' → (∀ H'', Ext K H' H'' → Q (g q) H'') → te (some (f q) :: rest) H' Q)
    (fin : ∀ H', H' D = some (.lst (L.map g)) → Ext K H H' → Q H') : LcLoop (Itl K c) (gName 0) tYes te D Q (v0 :: rest) (upd H D (.lst [])) := by
  refine lc_list (xs := L.map f) (fun i acc σ' H' => ∃ (v0 : Option V), σ' = v0 :: rest ∧ H' D = some (.lst acc) ∧ acc = (L.take i).map g ∧ Kp K D (upd H D (.lst [])) H') ?_ ?_ ?_ ?_
  · exact ⟨_, rfl, upd_same, rfl, Kp.refl⟩
  · rintro i acc σ' H' _ ⟨v0, rfl, hD, rfl, k⟩
    exact SqL.of ((k.ext nD).at hk)
  · rintro i x acc σ' H' hx ⟨v0, rfl, hD, rfl, k⟩
    rw [List.getElem?_map] at hx
    obtain ⟨q, ek, rfl⟩ := Option.map_eq_some_iff.mp hx
    have hlen : ((L.take i).map g).length ≤ 1000 := by rw [List.length_map, List.length_take]; omega
    unfold gName tYes
    refine iteT ?_
    refine elt q (List.mem_of_getElem? ek) H' _ (k.ext nD) fun H'' x'' => ⟨x''.at hD, Nat.lt_of_le_of_lt hlen (by decide), _, rfl, upd_same, ?_, k.trans (x''.kp.trans (Kp.upd (x''.at hD)))⟩
    rw [List.take_add_one, ek, Option.toList_some, List.map_append]
    rfl
  · rintro acc σ' H' ⟨v0, rfl, hD, rfl, k⟩
    rw [List.length_map, List.take_length] at hD
    exact fin H' hD (k.ext nD)
section
variable {P : Program} {w : World} {K : PySem.W.Frag} {mg : Str → Option Value} {base : Heap} {aG : Addr}
theorem sc_figures_of : FnScope ["number"] ["number"] (defScope s_figures_of) := ⟨rfl, rfl, rfl, by decide +kernel, rfl, by decide +kernel, by decide +kernel⟩
theorem ok_figures_of {f : Addr} {fd : FuncData} (F : Fun K "figures_of" "figures_of" s_figures_of f fd) (B : B K mg aG) : FnOk P w K mg base CX0 1 f fd ["number"] spFig := by
  refine F.okJ sc_figures_of (fun vs H Q E h => ?_) (fun cdv A outer s H vs Q E hr h => ?_)
  · obtain ⟨n, rfl, _⟩ := h
    rfl
  obtain ⟨n, rfl, hn, q⟩ := h
  refine ⟨_, (bone (sret (ecallTy call_str_int rfl B.str bt_str (acons (ev 0) anil)))), ?_⟩
  try walk_at "rn"
  exact ⟨num_log hn, q⟩
theorem sc_list_text : FnScope ["texts", "sign"] ["texts", "sign"] (defScope s_list_text) := ⟨rfl, rfl, rfl, by decide +kernel, rfl, by decide +kernel, by decide +kernel⟩
theorem ok_list_text {f : Addr} {fd : FuncData} (F : Fun K "list_text" "list_text" s_list_text f fd) (B : B K mg aG) : FnOk P w K mg base CX0 1 f fd ["texts", "sign"] (spListText K) := by
  refine F.okJ sc_list_text (fun vs H Q E h => ?_) (fun cdv A outer s H vs Q E hr h => ?_)
  · obtain ⟨p, sep, ts, m, rfl, _⟩ := h
    rfl
  obtain ⟨p, sep, ts, m, rfl, hs, h1, hm, hz, q⟩ := h
  refine ⟨_, (bone (sret (eif (ttruth (ev 0) (fun _ => rfl)) (ebm PySem.F.plainAttrs_str PySem.F.slot_str_join PySem.F.type_str_join mt_join (ev 1) (acons (ev 0) anil)) estr))), ?_⟩
  try walk_at "rn"
  have l1 := lenAll_le (sep := sep) ts hm
  have l2 := join_le (sep := sep) ts hm
  rw [h1] at l1 l2
  have nl : (ts.map V.str).isEmpty = decide (ts = []) := by cases ts <;> rfl
  refine ⟨!decide (ts = []), tru_seq hs nl, ite2 (fun c => ?_) (fun c => ?_)⟩
  · have ne : ts ≠ [] := fun e => by rw [e] at c; cases c
    refine ⟨ts, hs, by omega, by omega, ?_⟩
    unfold listT at q
    rw [if_neg ne] at q
    exact q
  · have e : ts = [] := by
      by_cases e : ts = []
      · exact e
      · rw [decide_eq_false e] at c
        exact absurd rfl c
    unfold listT at q
    rw [if_pos e] at q
    exact q
def spNumbers (K : PySem.W.Frag) : Sp := fun vs H Q _ => ∃ (p : Addr) (ns : List Int), vs = [.ref p] ∧ H p = some (.lst (ns.map V.int)) ∧ (∀ i ∈ ns, i.natAbs < 10 ^ 100) ∧ ns.length ≤ 1000 ∧ ∀ H', Ext K H H' → Q (.str (listT (Str.ofString ",") (ns.map numT))) H'
theorem sc_numbers_text : FnScope ["numbers"] ["numbers"] (defScope s_numbers_text) := ⟨rfl, rfl, rfl, by decide +kernel, rfl, by decide +kernel, by decide +kernel⟩
theorem ok_numbers_text {f : Addr} {fd : FuncData} (F : Fun K "numbers_text" "numbers_text" s_numbers_text f fd) (B : B K mg aG) (C_figures_of : Callee P w K mg base "figures_of" 1 ["number"] spFig) (C_list_text : Callee P w K mg base "list_text" 1 ["texts", "sign"] (spListText K)) : FnOk P w K mg base CX0 2 f fd ["numbers"] (spNumbers K) := by
  refine F.okJ sc_numbers_text (fun vs H Q E h => ?_) (fun cdv A outer s H vs Q E hr h => ?_)
  · obtain ⟨p, ns, rfl, _⟩ := h
    rfl
  obtain ⟨p, ns, rfl, hs, hn, hz, q⟩ := h
  refine ⟨_, (bone (sret (ecall C_list_text (hr.mono (by decide)) rfl (acons (elc (Cap.mk (N := ["number"]) (src := [none]) rfl rfl) rfl (ilist (ev 0)) (fun _ _ _ _ => (gname (i := 0) (show (["number"] : List Str).Nodup from by decide +kernel) rfl (Or.inl rfl))) (fun _ _ _ _ => fnone) (fun _ _ _ _ => (ecall C_figures_of (hr.mono (by decide)) rfl (acons (ev 0) anil)))) (acons estr anil))))), ?_⟩
  try walk_at "rn"
  refine ⟨⟨_, SqL.of hs⟩, fun D nD => ?_⟩
  refine lc_mapQ (f := V.int) (g := fun i => V.str (numT i)) hs nD hz (fun i hi H' Q' xx qq => ?_) (fun H1 hD x1 => ?_)
  · try walk_at "rn"
    exact ⟨i, rfl, hn i hi, qq⟩
  have e : (ns.map fun i => V.str (numT i)) = (ns.map numT).map V.str := by rw [List.map_map]; rfl
  rw [e] at hD
  refine ⟨D, _, ns.map numT, 101, rfl, SqL.of hD, by decide +kernel, ?_, by rw [List.length_map]; omega, q _ x1⟩
  intro t ht
  obtain ⟨i, hi, rfl⟩ := List.mem_map.1 ht
  exact numT_len (hn i hi)
def valT : Option Int → Str
  | none => Str.ofString "x"
  | some i => numT i
def verT (p : Int × Option Int) : Str := numT p.1 ++ Str.ofString ":" ++ valT p.2
def oV : Option Int → V
  | some i => .int i
  | none => .non
def okO (o : Option Int) : Prop := ∀ i, o = some i → i.natAbs < 10 ^ 100
def VerAt (K : PySem.W.Frag) (H : Hp) (u : V) (p : Int × Option Int) : Prop := ∃ t, u = .ref t ∧ tupQ K H t = some [.int p.1, oV p.2]
def okVer (p : Int × Option Int) : Prop := p.1.natAbs < 10 ^ 100 ∧ okO p.2
theorem valT_len {o : Option Int} (h : okO o) : (valT o).length ≤ 101 := by
  cases o with
  | none => exact (by decide +kernel : (Str.ofString "x").length ≤ 101)
  | some i => exact numT_len (h i rfl)
theorem verT_len {p : Int × Option Int} (h : okVer p) : (verT p).length ≤ 203 := by
  unfold verT
  have h1 := numT_len h.1
  have h2 := valT_len h.2
  have h3 : (Str.ofString ":").length = 1 := by decide +kernel
  rw [Str.length_append, Str.length_append]
  omega
def spVer (K : PySem.W.Frag) : Sp := fun vs H Q _ => ∃ u p, vs = [u] ∧ VerAt K H u p ∧ okVer p ∧ Q (.str (verT p)) H
theorem sc_version_text : FnScope ["version", "number", "value"] ["version"] (defScope s_version_text) := ⟨rfl, rfl, rfl, by decide +kernel, rfl, by decide +kernel, by decide +kernel⟩
theorem ok_version_text {f : Addr} {fd : FuncData} (F : Fun K "version_text" "version_text" s_version_text f fd) (B : B K mg aG) (C_figures_of : Callee P w K mg base "figures_of" 1 ["number"] spFig) : FnOk P w K mg base CX0 2 f fd ["version"] (spVer K) := by
  refine F.okJ sc_version_text (fun vs H Q E h => ?_) (fun cdv A outer s H vs Q E hr h => ?_)
  · obtain ⟨u, p, rfl, _⟩ := h
    rfl
  obtain ⟨u, p, rfl, ⟨t, rfl, ht⟩, ok, q⟩ := h
  refine ⟨_, (bcons (sasg (ev 0) (gtupQ (n := 2) rfl (gcons (gname (i := 1) sc_version_text.nd rfl (Or.inl rfl)) (gcons (gname (i := 2) sc_version_text.nd rfl (Or.inl rfl)) gnil))))
      (bone (sret (eop op_add_str (eop op_add_str (ecall C_figures_of (hr.mono (by decide)) rfl (acons (ev 1) anil)) estr) (eif (tcmp op_isN (ev 2) enon (nomark _)) estr (ecall C_figures_of (hr.mono (by decide)) rfl (acons (ev 2) anil))))))), ?_⟩
  simp only [tSeq, tNext, tIfS, tAsg, gName, gSub, tRet, tRetN, tDrop, tVar, tC, tOp, tUn, rI0, rI, rU, tTest, tB, tAndV, tOrV, tNotV, tAnd, tOr, tNot, tIf, tChain, tCB, tCons, tNil, tLst, tTup, tCallC, List.getElem?_cons_zero, List.getElem?_cons_succ, List.set_cons_zero, List.set_cons_succ, Option.some.injEq, V.int.injEq, V.bl.injEq, V.ref.injEq, V.ty.injEq, V.str.injEq, List.cons.injEq, exists_eq_left', exists_eq_left, exists_and_left, and_true, true_and, and_assoc, cxK, rIxF, rSetL, rEq, rNe, scal, HO.lst.injEq, HO.tup.injEq, upd_none, ixN_10, ixN_20, ixN_21, ixN_30, ixN_31, ixN_32, upd_same, seqAt_updL, seqAt_updT, atI_0, atI_1, atI_2, atI_3, decide_eq_true_eq, L2.start, List.map_cons, List.map_nil, List.length_cons, List.length_nil, Nat.reduceAdd, Nat.reduceSub, List.replicate_succ, List.replicate_zero, List.cons_append, List.nil_append, List.append_nil, tFor_rng1, tFor_rng2, tFor_list, tFor_tup, CDv, CMul, CPow, sizeLine_eq, Int.reduceLE, Int.reduceLT, Int.reducePow, Int.reduceToNat, Int.reduceAdd, Int.reduceSub, Int.reduceMul, Int.reduceNeg, Nat.reduceLeDiff, Nat.reducePow, Nat.reduceLT, Int.reduceEq, true_or, or_true, ite_true, ite_false, if_true, if_false, Bool.not_true, Bool.not_false, Bool.false_eq_true, decide_true, decide_false, rIxQ, seqQ_updL, seqQ_updT, tupQ_updT, tSl, tNoPart, tPart, rSlQ, rCatQ, tTupQ, tLstQ, tNever, rEqD, rInQ, gTupQ, gCons, gNil, tBM, tBM0, rAppend, rClear, rExtend, rPart, rSlS, rJoin, rIxS, tLRange, tDisp1, tyV, tDGet, rDClear, tRev, tFor_rng3, tLc_rng1, tLc_rng2, tLc_list, tLc_tup, pick_nil, pick_own, pick_cap, join_some, tYes, tCallKC, gk_11, gk_31, tSortDown, tDNewQ, sDPut, tLc_zipS, tLcD, ht]
  have h1 := numT_len ok.1
  have h2 := valT_len ok.2
  have h3 : (Str.ofString ":").length = 1 := by decide +kernel
  refine ⟨_, rfl, ok.1, _, rfl, by omega, ?_⟩
  obtain ⟨n, o⟩ := p
  cases o with
  | none =>
    have h4 : (Str.ofString "x").length = 1 := by decide +kernel
    refine ite2 (fun _ => ⟨?_, q⟩) (fun c => absurd rfl c)
    rw [Str.length_append]
    omega
  | some i =>
    refine ite2 (fun c => by cases c) (fun _ => ⟨i, rfl, ok.2 i rfl, _, rfl, ?_, q⟩)
    have h4 := numT_len (ok.2 i rfl)
    rw [Str.length_append]
    omega
structure Row where
  k : Int
  a : Addr
  vs : List (V × (Int × Option Int))
def rowT (k : Int) (ws : List (Int × Option Int)) : Str := numT k ++ Str.ofString "=" ++ listT (Str.ofString ",") (ws.map verT)
def RowAt (K : PySem.W.Frag) (H : Hp) (u : V) (r : Row) : Prop := ∃ t, u = .ref t ∧ tupQ K H t = some [.int r.k, .ref r.a] ∧ H r.a = some (.lst (r.vs.map (·.1))) ∧ ∀ q ∈ r.vs, VerAt K H q.1 q.2
def okRow (r : Row) : Prop := r.k.natAbs < 10 ^ 100 ∧ (∀ q ∈ r.vs, okVer q.2) ∧ r.vs.length ≤ 40
def spRow (K : PySem.W.Frag) : Sp := fun vs H Q _ => ∃ u r, vs = [u] ∧ RowAt K H u r ∧ okRow r ∧ ∀ H', Ext K H H' → Q (.str (rowT r.k (r.vs.map (·.2)))) H'
theorem sc_row_text : FnScope ["row", "key", "versions"] ["row"] (defScope s_row_text) := ⟨rfl, rfl, rfl, by decide +kernel, rfl, by decide +kernel, by decide +kernel⟩
theorem ok_row_text {f : Addr} {fd : FuncData} (F : Fun K "row_text" "row_text" s_row_text f fd) (B : B K mg aG) (C_figures_of : Callee P w K mg base "figures_of" 1 ["number"] spFig) (C_list_text : Callee P w K mg base "list_text" 1 ["texts", "sign"] (spListText K)) (C_version_text : Callee P w K mg base "version_text" 2 ["version"] (spVer K)) : FnOk P w K mg base CX0 3 f fd ["row"] (spRow K) := by
  refine F.okJ sc_row_text (fun vs H Q E h => ?_) (fun cdv A outer s H vs Q E hr h => ?_)
  · obtain ⟨u, r, rfl, _⟩ := h
    rfl
  obtain ⟨u, r, rfl, ⟨t, rfl, ht, ha, hv⟩, ok, q⟩ := h
  refine ⟨_, (bcons (sasg (ev 0) (gtupQ (n := 2) rfl (gcons (gname (i := 1) sc_row_text.nd rfl (Or.inl rfl)) (gcons (gname (i := 2) sc_row_text.nd rfl (Or.inl rfl)) gnil))))
      (bone (sret (eop op_add_str (eop op_add_str (ecall C_figures_of (hr.mono (by decide)) rfl (acons (ev 1) anil)) estr) (ecall C_list_text (hr.mono (by decide)) rfl (acons (elc (Cap.mk (N := ["version"]) (src := [none]) rfl rfl) rfl (ilist (ev 2)) (fun _ _ _ _ => (gname (i := 0) (show (["version"] : List Str).Nodup from by decide +kernel) rfl (Or.inl rfl))) (fun _ _ _ _ => fnone) (fun _ _ _ _ => (ecall C_version_text (hr.mono (by decide)) rfl (acons (ev 0) anil)))) (acons estr anil))))))), ?_⟩
  simp only [tSeq, tNext, tIfS, tAsg, gName, gSub, tRet, tRetN, tDrop, tVar, tC, tOp, tUn, rI0, rI, rU, tTest, tB, tAndV, tOrV, tNotV, tAnd, tOr, tNot, tIf, tChain, tCB, tCons, tNil, tLst, tTup, tCallC, List.getElem?_cons_zero, List.getElem?_cons_succ, List.set_cons_zero, List.set_cons_succ, Option.some.injEq, V.int.injEq, V.bl.injEq, V.ref.injEq, V.ty.injEq, V.str.injEq, List.cons.injEq, exists_eq_left', exists_eq_left, exists_and_left, and_true, true_and, and_assoc, cxK, rIxF, rSetL, rEq, rNe, scal, HO.lst.injEq, HO.tup.injEq, upd_none, ixN_10, ixN_20, ixN_21, ixN_30, ixN_31, ixN_32, upd_same, seqAt_updL, seqAt_updT, atI_0, atI_1, atI_2, atI_3, decide_eq_true_eq, L2.start, List.map_cons, List.map_nil, List.length_cons, List.length_nil, Nat.reduceAdd, Nat.reduceSub, List.replicate_succ, List.replicate_zero, List.cons_append, List.nil_append, List.append_nil, tFor_rng1, tFor_rng2, tFor_list, tFor_tup, CDv, CMul, CPow, sizeLine_eq, Int.reduceLE, Int.reduceLT, Int.reducePow, Int.reduceToNat, Int.reduceAdd, Int.reduceSub, Int.reduceMul, Int.reduceNeg, Nat.reduceLeDiff, Nat.reducePow, Nat.reduceLT, Int.reduceEq, true_or, or_true, ite_true, ite_false, if_true, if_false, Bool.not_true, Bool.not_false, Bool.false_eq_true, decide_true, decide_false, rIxQ, seqQ_updL, seqQ_updT, tupQ_updT, tSl, tNoPart, tPart, rSlQ, rCatQ, tTupQ, tLstQ, tNever, rEqD, rInQ, gTupQ, gCons, gNil, tBM, tBM0, rAppend, rClear, rExtend, rPart, rSlS, rJoin, rIxS, tLRange, tDisp1, tyV, tDGet, rDClear, tRev, tFor_rng3, tLc_rng1, tLc_rng2, tLc_list, tLc_tup, pick_nil, pick_own, pick_cap, join_some, tYes, tCallKC, gk_11, gk_31, tSortDown, tDNewQ, sDPut, tLc_zipS, tLcD, ht]
  have h1 := numT_len ok.1
  have h3 : (Str.ofString "=").length = 1 := by decide +kernel
  refine ⟨_, rfl, ok.1, _, rfl, by omega, _, rfl, ⟨_, SqL.of ha⟩, fun D nD => ?_⟩
  refine lc_mapQ (L := r.vs) (f := fun q => q.1) (g := fun q => V.str (verT q.2)) ha nD (Nat.le_trans ok.2.2 (by decide)) (fun q0 hq H' Q' xx qq => ?_) (fun H1 hD x1 => ?_)
  · try walk_at "rn"
    obtain ⟨t, e, h⟩ := hv q0 hq
    exact ⟨_, q0.2, rfl, ⟨t, e, xx.tup h⟩, ok.2.1 q0 hq, qq⟩
  have e : (r.vs.map fun q => V.str (verT q.2)) = ((r.vs.map (·.2)).map verT).map V.str := by rw [List.map_map, List.map_map]; rfl
  rw [e] at hD
  have hl : ∀ t ∈ (r.vs.map (·.2)).map verT, t.length ≤ 203 := by
    intro t ht
    obtain ⟨p, hp, rfl⟩ := List.mem_map.1 ht
    obtain ⟨q0, hq, rfl⟩ := List.mem_map.1 hp
    exact verT_len (ok.2.1 q0 hq)
  have h4 := listT_le (sep := Str.ofString ",") _ hl
  have h5 : (Str.ofString ",").length = 1 := by decide +kernel
  have h6 := ok.2.2
  rw [List.length_map, List.length_map, h5] at h4
  refine ⟨D, _, _, 203, rfl, SqL.of hD, h5, hl, by rw [List.length_map, List.length_map]; omega, _, rfl, by rw [Str.length_append]; omega, q _ x1⟩
theorem rowT_len {r : Row} (ok : okRow r) : (rowT r.k (r.vs.map (·.2))).length ≤ 9000 := by
  have h1 := numT_len ok.1
  have h3 : (Str.ofString "=").length = 1 := by decide +kernel
  have hl : ∀ t ∈ (r.vs.map (·.2)).map verT, t.length ≤ 203 := by
    intro t ht
    obtain ⟨p, hp, rfl⟩ := List.mem_map.1 ht
    obtain ⟨q0, hq, rfl⟩ := List.mem_map.1 hp
    exact verT_len (ok.2.1 q0 hq)
  have h4 := listT_le (sep := Str.ofString ",") _ hl
  have h5 : (Str.ofString ",").length = 1 := by decide +kernel
  have h6 := ok.2.2
  rw [List.length_map, List.length_map, h5] at h4
  unfold rowT
  rw [Str.length_append, Str.length_append]
  omega
inductive Half where
  | plus (n : Int) | is (n : Int) | gone
def Half.v : Half → List V
  | .plus n => [.str "plus", .int n]
  | .is n => [.str "is", .int n]
  | .gone => [.str "gone"]
def Half.t : Half → Str
  | .plus n => Str.ofString "+" ++ numT n
  | .is n => Str.ofString "=" ++ numT n
  | .gone => Str.ofString "x"
def Half.ok : Half → Prop
  | .plus n => n.natAbs < 10 ^ 100
  | .is n => n.natAbs < 10 ^ 100
  | .gone => True
theorem Half.len {h : Half} (ok : h.ok) : h.t.length ≤ 102 := by
  cases h with
  | plus n =>
    have h1 := numT_len (i := n) ok
    have h3 : (Str.ofString "+").length = 1 := by decide +kernel
    show (Str.ofString "+" ++ numT n).length ≤ _
    rw [Str.length_append]; omega
  | is n =>
    have h1 := numT_len (i := n) ok
    have h3 : (Str.ofString "=").length = 1 := by decide +kernel
    show (Str.ofString "=" ++ numT n).length ≤ _
    rw [Str.length_append]; omega
  | gone => exact (by decide +kernel : (Str.ofString "x").length ≤ 102)
theorem s5 : ¬ (("inner" : Str) = "leaf") := by decide +kernel
theorem s3 : ¬ (("is" : Str) = "plus") := by decide +kernel
def Half.hd : Half → PyData
  | .plus n => .tuple [.str "plus", .int n]
  | .is n => .tuple [.str "is", .int n]
  | .gone => .tuple [.str "gone"]
theorem Half.is_hd {K : PySem.W.Frag} {H : Hp} {r : Addr} {h : Half} (e : tupQ K H r = some h.v) : Is K H h.hd (.ref r) := by
  cases h with
  | plus n => simp only [Half.hd, Is, IsAll]; exact ⟨r, _, rfl, tupQ_sq e, _, _, rfl, rfl, _, _, rfl, rfl, rfl⟩
  | is n => simp only [Half.hd, Is, IsAll]; exact ⟨r, _, rfl, tupQ_sq e, _, _, rfl, rfl, _, _, rfl, rfl, rfl⟩
  | gone => simp only [Half.hd, Is, IsAll]; exact ⟨r, _, rfl, tupQ_sq e, _, _, rfl, rfl, rfl⟩
theorem Half.shaped (h : Half) : SeqAt.shaped h.hd = true := by
  cases h <;> simp only [SeqAt.shaped, Half.hd, PyData.canLay0, PyData.canLayAll0, PyData.depth, PyData.depthAll] <;> decide +kernel
theorem Half.eqv_gone (h : Half) : PyData.eqv h.hd Half.gone.hd = (match h with | .gone => true | _ => false) := by
  cases h <;> rfl
def HalfAt (K : PySem.W.Frag) (H : Hp) (u : V) (h : Half) : Prop := ∃ t, u = .ref t ∧ tupQ K H t = some h.v
def spHalf (K : PySem.W.Frag) : Sp := fun vs H Q _ => ∃ u h, vs = [u] ∧ HalfAt K H u h ∧ h.ok ∧ Q (.str h.t) H
theorem sc_half_text : FnScope ["half", "word", "number"] ["half"] (defScope s_half_text) := ⟨rfl, rfl, rfl, by decide +kernel, rfl, by decide +kernel, by decide +kernel⟩
theorem ok_half_text {f : Addr} {fd : FuncData} (F : Fun K "half_text" "half_text" s_half_text f fd) (B : B K mg aG) (C_figures_of : Callee P w K mg base "figures_of" 1 ["number"] spFig) : FnOk P w K mg base CX0 2 f fd ["half"] (spHalf K) := by
  refine F.okM sc_half_text (fun vs H Q E h => ?_) (fun cdv A outer s H vs Q E hr hm h => ?_)
  · obtain ⟨u, h, rfl, _⟩ := h
    rfl
  obtain ⟨u, h, rfl, ⟨t, rfl, ht⟩, ok, q⟩ := h
  refine ⟨_, (bcons (sif (tcmp (op_eqD hr.units) (ev 0) (eglob rfl B.GONE B.GONE_is) (nomark _)) (bone (sret estr)) bnil)
      (bcons (sasg (ev 0) (gtupQ (n := 2) rfl (gcons (gname (i := 1) sc_half_text.nd rfl (Or.inl rfl)) (gcons (gname (i := 2) sc_half_text.nd rfl (Or.inl rfl)) gnil))))
      (bone (sret (eop op_add_str (eif (tcmp op_eq (ev 1) estr (nomark _)) estr estr) (ecall C_figures_of (hr.mono (by decide)) rfl (acons (ev 2) anil))))))), ?_⟩
  try walk_at "rn"
  refine ⟨h.hd, Half.is_hd ht, Half.gone.hd, Half.is_hd (h := .gone) (hm.tup B.kG), h.shaped, Half.shaped .gone, ?_⟩
  rw [Half.eqv_gone]
  cases h with
  | plus n =>
    have h1 := numT_len (i := n) ok
    have h3 : (Str.ofString "+").length = 1 := by decide +kernel
    simp only [tSeq, tNext, tIfS, tAsg, gName, gSub, tRet, tRetN, tDrop, tVar, tC, tOp, tUn, rI0, rI, rU, tTest, tB, tAndV, tOrV, tNotV, tAnd, tOr, tNot, tIf, tChain, tCB, tCons, tNil, tLst, tTup, tCallC, List.getElem?_cons_zero, List.getElem?_cons_succ, List.set_cons_zero, List.set_cons_succ, Option.some.injEq, V.int.injEq, V.bl.injEq, V.ref.injEq, V.ty.injEq, V.str.injEq, List.cons.injEq, exists_eq_left', exists_eq_left, exists_and_left, and_true, true_and, and_assoc, cxK, rIxF, rSetL, rEq, rNe, scal, HO.lst.injEq, HO.tup.injEq, upd_none, ixN_10, ixN_20, ixN_21, ixN_30, ixN_31, ixN_32, upd_same, seqAt_updL, seqAt_updT, atI_0, atI_1, atI_2, atI_3, decide_eq_true_eq, L2.start, List.map_cons, List.map_nil, List.length_cons, List.length_nil, Nat.reduceAdd, Nat.reduceSub, List.replicate_succ, List.replicate_zero, List.cons_append, List.nil_append, List.append_nil, tFor_rng1, tFor_rng2, tFor_list, tFor_tup, CDv, CMul, CPow, sizeLine_eq, Int.reduceLE, Int.reduceLT, Int.reducePow, Int.reduceToNat, Int.reduceAdd, Int.reduceSub, Int.reduceMul, Int.reduceNeg, Nat.reduceLeDiff, Nat.reducePow, Nat.reduceLT, Int.reduceEq, true_or, or_true, ite_true, ite_false, if_true, if_false, Bool.not_true, Bool.not_false, Bool.false_eq_true, decide_true, decide_false, rIxQ, seqQ_updL, seqQ_updT, tupQ_updT, tSl, tNoPart, tPart, rSlQ, rCatQ, tTupQ, tLstQ, tNever, rEqD, rInQ, gTupQ, gCons, gNil, tBM, tBM0, rAppend, rClear, rExtend, rPart, rSlS, rJoin, rIxS, tLRange, tDisp1, tyV, tDGet, rDClear, tRev, tFor_rng3, tLc_rng1, tLc_rng2, tLc_list, tLc_tup, pick_nil, pick_own, pick_cap, join_some, tYes, tCallKC, gk_11, gk_31, tSortDown, tDNewQ, sDPut, tLc_zipS, tLcD, ht,  Half.v]
    exact ⟨n, rfl, ok, _, rfl, by omega, q⟩
  | is n =>
    have h1 := numT_len (i := n) ok
    have h3 : (Str.ofString "=").length = 1 := by decide +kernel
    simp only [tSeq, tNext, tIfS, tAsg, gName, gSub, tRet, tRetN, tDrop, tVar, tC, tOp, tUn, rI0, rI, rU, tTest, tB, tAndV, tOrV, tNotV, tAnd, tOr, tNot, tIf, tChain, tCB, tCons, tNil, tLst, tTup, tCallC, List.getElem?_cons_zero, List.getElem?_cons_succ, List.set_cons_zero, List.set_cons_succ, Option.some.injEq, V.int.injEq, V.bl.injEq, V.ref.injEq, V.ty.injEq, V.str.injEq, List.cons.injEq, exists_eq_left', exists_eq_left, exists_and_left, and_true, true_and, and_assoc, cxK, rIxF, rSetL, rEq, rNe, scal, HO.lst.injEq, HO.tup.injEq, upd_none, ixN_10, ixN_20, ixN_21, ixN_30, ixN_31, ixN_32, upd_same, seqAt_updL, seqAt_updT, atI_0, atI_1, atI_2, atI_3, decide_eq_true_eq, L2.start, List.map_cons, List.map_nil, List.length_cons, List.length_nil, Nat.reduceAdd, Nat.reduceSub, List.replicate_succ, List.replicate_zero, List.cons_append, List.nil_append, List.append_nil, tFor_rng1, tFor_rng2, tFor_list, tFor_tup, CDv, CMul, CPow, sizeLine_eq, Int.reduceLE, Int.reduceLT, Int.reducePow, Int.reduceToNat, Int.reduceAdd, Int.reduceSub, Int.reduceMul, Int.reduceNeg, Nat.reduceLeDiff, Nat.reducePow, Nat.reduceLT, Int.reduceEq, true_or, or_true, ite_true, ite_false, if_true, if_false, Bool.not_true, Bool.not_false, Bool.false_eq_true, decide_true, decide_false, rIxQ, seqQ_updL, seqQ_updT, tupQ_updT, tSl, tNoPart, tPart, rSlQ, rCatQ, tTupQ, tLstQ, tNever, rEqD, rInQ, gTupQ, gCons, gNil, tBM, tBM0, rAppend, rClear, rExtend, rPart, rSlS, rJoin, rIxS, tLRange, tDisp1, tyV, tDGet, rDClear, tRev, tFor_rng3, tLc_rng1, tLc_rng2, tLc_list, tLc_tup, pick_nil, pick_own, pick_cap, join_some, tYes, tCallKC, gk_11, gk_31, tSortDown, tDNewQ, sDPut, tLc_zipS, tLcD, ht,  Half.v,  s3]
    exact ⟨n, rfl, ok, _, rfl, by omega, q⟩
  | gone =>
    try walk_at "rn"
    exact q
structure Nt where
  n : Int
  lo : Int
  hi : Int
  t : Half
  m : Half
def Nt.ok (e : Nt) : Prop := e.n.natAbs < 10 ^ 100 ∧ e.lo.natAbs < 10 ^ 100 ∧ e.hi.natAbs < 10 ^ 100 ∧ e.t.ok ∧ e.m.ok
def Nt.x (e : Nt) : Str := Str.join (Str.ofString ".") [numT e.n, numT e.lo, numT e.hi, e.t.t, e.m.t]
def NoteAt (K : PySem.W.Frag) (H : Hp) (v : V) (e : Nt) : Prop := ∃ a w r s, v = .ref a ∧ tupQ K H a = some [.int e.n, .int e.lo, .int e.hi, .ref w] ∧ tupQ K H w = some [.ref r, .ref s] ∧ tupQ K H r = some e.t.v ∧ tupQ K H s = some e.m.v
theorem Nt.le {e : Nt} (ok : e.ok) : ∀ t ∈ [numT e.n, numT e.lo, numT e.hi, e.t.t, e.m.t], t.length ≤ 102 := by
  have h1 := numT_len ok.1
  have h2 := numT_len ok.2.1
  have h3 := numT_len ok.2.2.1
  have h4 := Half.len ok.2.2.2.1
  have h5 := Half.len ok.2.2.2.2
  intro t ht
  simp only [List.mem_cons, List.not_mem_nil, or_false] at ht
  rcases ht with rfl | rfl | rfl | rfl | rfl <;> omega
def spNote (K : PySem.W.Frag) : Sp := fun vs H Q _ => ∃ u e, vs = [u] ∧ NoteAt K H u e ∧ e.ok ∧ ∀ H', Ext K H H' → Q (.str e.x) H'
theorem sc_note_text : FnScope ["note", "number", "low", "high", "there", "none"] ["note"] (defScope s_note_text) := ⟨rfl, rfl, rfl, by decide +kernel, rfl, by decide +kernel, by decide +kernel⟩
theorem ok_note_text {f : Addr} {fd : FuncData} (F : Fun K "note_text" "note_text" s_note_text f fd) (B : B K mg aG) (C_figures_of : Callee P w K mg base "figures_of" 1 ["number"] spFig) (C_half_text : Callee P w K mg base "half_text" 2 ["half"] (spHalf K)) : FnOk P w K mg base CX0 3 f fd ["note"] (spNote K) := by
  refine F.okJ sc_note_text (fun vs H Q E h => ?_) (fun cdv A outer s H vs Q E hr h => ?_)
  · obtain ⟨u, e, rfl, _⟩ := h
    rfl
  obtain ⟨u, e, rfl, ⟨a, w, r, s', rfl, h1, h2, h3, h4⟩, ok, q⟩ := h
  refine ⟨_, (bcons (sasg (ev 0) (gtupQ (n := 4) rfl (gcons (gname (i := 1) sc_note_text.nd rfl (Or.inl rfl)) (gcons (gname (i := 2) sc_note_text.nd rfl (Or.inl rfl)) (gcons (gname (i := 3) sc_note_text.nd rfl (Or.inl rfl)) (gcons (gtupQ (n := 2) rfl (gcons (gname (i := 4) sc_note_text.nd rfl (Or.inl rfl)) (gcons (gname (i := 5) sc_note_text.nd rfl (Or.inl rfl)) gnil))) gnil))))))
      (bone (sret (ebm PySem.F.plainAttrs_str PySem.F.slot_str_join PySem.F.type_str_join mt_join estr (acons (elstQ (acons (ecall C_figures_of (hr.mono (by decide)) rfl (acons (ev 1) anil)) (acons (ecall C_figures_of (hr.mono (by decide)) rfl (acons (ev 2) anil)) (acons (ecall C_figures_of (hr.mono (by decide)) rfl (acons (ev 3) anil)) (acons (ecall C_half_text (hr.mono (by decide)) rfl (acons (ev 4) anil)) (acons (ecall C_half_text (hr.mono (by decide)) rfl (acons (ev 5) anil)) anil)))))) anil))))), ?_⟩
  simp only [tSeq, tNext, tIfS, tAsg, gName, gSub, tRet, tRetN, tDrop, tVar, tC, tOp, tUn, rI0, rI, rU, tTest, tB, tAndV, tOrV, tNotV, tAnd, tOr, tNot, tIf, tChain, tCB, tCons, tNil, tLst, tTup, tCallC, List.getElem?_cons_zero, List.getElem?_cons_succ, List.set_cons_zero, List.set_cons_succ, Option.some.injEq, V.int.injEq, V.bl.injEq, V.ref.injEq, V.ty.injEq, V.str.injEq, List.cons.injEq, exists_eq_left', exists_eq_left, exists_and_left, and_true, true_and, and_assoc, cxK, rIxF, rSetL, rEq, rNe, scal, HO.lst.injEq, HO.tup.injEq, upd_none, ixN_10, ixN_20, ixN_21, ixN_30, ixN_31, ixN_32, upd_same, seqAt_updL, seqAt_updT, atI_0, atI_1, atI_2, atI_3, decide_eq_true_eq, L2.start, List.map_cons, List.map_nil, List.length_cons, List.length_nil, Nat.reduceAdd, Nat.reduceSub, List.replicate_succ, List.replicate_zero, List.cons_append, List.nil_append, List.append_nil, tFor_rng1, tFor_rng2, tFor_list, tFor_tup, CDv, CMul, CPow, sizeLine_eq, Int.reduceLE, Int.reduceLT, Int.reducePow, Int.reduceToNat, Int.reduceAdd, Int.reduceSub, Int.reduceMul, Int.reduceNeg, Nat.reduceLeDiff, Nat.reducePow, Nat.reduceLT, Int.reduceEq, true_or, or_true, ite_true, ite_false, if_true, if_false, Bool.not_true, Bool.not_false, Bool.false_eq_true, decide_true, decide_false, rIxQ, seqQ_updL, seqQ_updT, tupQ_updT, tSl, tNoPart, tPart, rSlQ, rCatQ, tTupQ, tLstQ, tNever, rEqD, rInQ, gTupQ, gCons, gNil, tBM, tBM0, rAppend, rClear, rExtend, rPart, rSlS, rJoin, rIxS, tLRange, tDisp1, tyV, tDGet, rDClear, tRev, tFor_rng3, tLc_rng1, tLc_rng2, tLc_list, tLc_tup, pick_nil, pick_own, pick_cap, join_some, tYes, tCallKC, gk_11, gk_31, tSortDown, tDNewQ, sDPut, tLc_zipS, tLcD, h1,  h2]
  refine ⟨_, rfl, ok.1, _, rfl, ok.2.1, _, rfl, ok.2.2.1, _, _, rfl, ⟨r, rfl, h3⟩, ok.2.2.2.1, _, _, rfl, ⟨s', rfl, h4⟩, ok.2.2.2.2, fun p np => ?_⟩
  have l1 := lenAll_le (sep := Str.ofString ".") _ (Nt.le ok)
  have l2 := join_le (sep := Str.ofString ".") _ (Nt.le ok)
  have h5 : (Str.ofString ".").length = 1 := by decide +kernel
  rw [h5] at l1 l2
  simp only [List.length_cons, List.length_nil] at l1 l2
  exact ⟨[numT e.n, numT e.lo, numT e.hi, e.t.t, e.m.t], SqL.of upd_same, by omega, by omega, q _ (Ext.new np)⟩
theorem Nt.len {e : Nt} (ok : e.ok) : e.x.length ≤ 600 := by
  have l2 := join_le (sep := Str.ofString ".") _ (Nt.le ok)
  have h5 : (Str.ofString ".").length = 1 := by decide +kernel
  rw [h5] at l2
  simp only [List.length_cons, List.length_nil] at l2
  unfold Nt.x
  omega
theorem NoteAt.ext {H H' : Hp} {v : V} {e : Nt} (h : NoteAt K H v e) (x : Ext K H H') : NoteAt K H' v e := by
  obtain ⟨a, w, r, s, rfl, h1, h2, h3, h4⟩ := h
  exact ⟨a, w, r, s, rfl, x.tup h1, x.tup h2, x.tup h3, x.tup h4⟩
theorem RowAt.ext {H H' : Hp} {v : V} {r : Row} (h : RowAt K H v r) (x : Ext K H H') : RowAt K H' v r := by
  obtain ⟨t, rfl, h1, h2, h3⟩ := h
  exact ⟨t, rfl, x.tup h1, x.at h2, fun q hq => let ⟨t, e, h⟩ := h3 q hq; ⟨t, e, x.tup h⟩⟩
inductive Rm where
  | leaf (n : Int) (ra : Addr) (rows : List (V × Row))
  | inner (n : Int) (pa : Addr) (piv : List Int) (ca : Addr) (ch : List Int) (ta : Addr) (tray : List (V × Nt))
def spotT (pl : Int → Int) (c : Int) : Str := numT c ++ Str.ofString "@" ++ numT (pl c)
def Rm.x (pl : Int → Int) : Rm → Str
  | .leaf n _ rows => Str.join (Str.ofString " ") [Str.ofString "leaf", numT n, listT (Str.ofString ";") (rows.map fun q => rowT q.2.k (q.2.vs.map (·.2)))]
  | .inner n _ piv _ ch _ tray => Str.join (Str.ofString " ") [Str.ofString "inner", numT n, listT (Str.ofString ",") (piv.map numT), listT (Str.ofString ",") (ch.map (spotT pl)), listT (Str.ofString ";") (tray.map fun q => q.2.x)]
def Rm.at (K : PySem.W.Frag) (H : Hp) (a : Addr) : Rm → Prop
  | .leaf n ra rows => tupQ K H a = some [.str "leaf", .int n, .ref ra] ∧ H ra = some (.lst (rows.map (·.1))) ∧ ∀ q ∈ rows, RowAt K H q.1 q.2
  | .inner n pa piv ca ch ta tray => tupQ K H a = some [.str "inner", .int n, .ref pa, .ref ca, .ref ta] ∧ H pa = some (.lst (piv.map V.int)) ∧ H ca = some (.lst (ch.map V.int)) ∧ H ta = some (.lst (tray.map (·.1))) ∧ ∀ q ∈ tray, NoteAt K H q.1 q.2
def Rm.ok (pl : Int → Int) : Rm → Prop
  | .leaf n _ rows => n.natAbs < 10 ^ 100 ∧ (∀ q ∈ rows, okRow q.2) ∧ rows.length ≤ 60
  | .inner n _ piv _ ch _ tray => n.natAbs < 10 ^ 100 ∧ (∀ i ∈ piv, i.natAbs < 10 ^ 100) ∧ piv.length ≤ 60 ∧ (∀ c ∈ ch, c.natAbs < 10 ^ 100 ∧ (pl c).natAbs < 10 ^ 100) ∧ ch.length ≤ 60 ∧ (∀ q ∈ tray, q.2.ok) ∧ tray.length ≤ 60
def Rm.ch : Rm → List Int
  | .leaf _ _ _ => []
  | .inner _ _ _ _ ch _ _ => ch
def PlAt (H : Hp) (d : Addr) (pl : Int → Int) (ch : List Int) : Prop := ∃ kvs, H d = some (.dK kvs) ∧ ∀ c ∈ ch, valV kvs (.inl c) = some (.int (pl c))
def spRoom (K : PySem.W.Frag) : Sp := fun vs H Q _ => ∃ (a d : Addr) (r : Rm) (pl : Int → Int), vs = [.ref a, .ref d] ∧ r.at K H a ∧ PlAt H d pl r.ch ∧ r.ok pl ∧ ∀ H', Ext K H H' → Q (.str (r.x pl)) H'
theorem sc_room_text : FnScope ["room", "places", "word", "number", "rows", "pivots", "children", "tray", "spots", "notes"] ["room", "places"] (defScope s_room_text) := ⟨rfl, rfl, rfl, by decide +kernel, rfl, by decide +kernel, by decide +kernel⟩
theorem ok_room_text {f : Addr} {fd : FuncData} (F : Fun K "room_text" "room_text" s_room_text f fd) (B : B K mg aG) (C_figures_of : Callee P w K mg base "figures_of" 1 ["number"] spFig) (C_list_text : Callee P w K mg base "list_text" 1 ["texts", "sign"] (spListText K)) (C_row_text : Callee P w K mg base "row_text" 3 ["row"] (spRow K)) (C_note_text : Callee P w K mg base "note_text" 3 ["note"] (spNote K)) (C_numbers_text : Callee P w K mg base "numbers_text" 2 ["numbers"] (spNumbers K)) : FnOk P w K mg base CX0 4 f fd ["room", "places"] (spRoom K) := by
  refine F.okJ sc_room_text (fun vs H Q E h => ?_) (fun cdv A outer s H vs Q E hr h => ?_)
  · obtain ⟨a, d, r, pl, rfl, _⟩ := h
    rfl
  obtain ⟨a, d, r, pl, rfl, hr', hp, ok, q⟩ := h
  refine ⟨_, (bcons (sif (tcmp op_eq (eix ix_Q (ev 0) ei (fun _ _ => rfl)) estr (nomark _)) (bcons (sasg (ev 0) (gtupQ (n := 3) rfl (gcons (gname (i := 2) sc_room_text.nd rfl (Or.inl rfl)) (gcons (gname (i := 3) sc_room_text.nd rfl (Or.inl rfl)) (gcons (gname (i := 4) sc_room_text.nd rfl (Or.inl rfl)) gnil)))))
      (bone (sret (ebm PySem.F.plainAttrs_str PySem.F.slot_str_join PySem.F.type_str_join mt_join estr (acons (elstQ (acons (ev 2) (acons (ecall C_figures_of (hr.mono (by decide)) rfl (acons (ev 3) anil)) (acons (ecall C_list_text (hr.mono (by decide)) rfl (acons (elc (Cap.mk (N := ["row"]) (src := [none]) rfl rfl) rfl (ilist (ev 4)) (fun _ _ _ _ => (gname (i := 0) (show (["row"] : List Str).Nodup from by decide +kernel) rfl (Or.inl rfl))) (fun _ _ _ _ => fnone) (fun _ _ _ _ => (ecall C_row_text (hr.mono (by decide)) rfl (acons (ev 0) anil)))) (acons estr anil))) anil)))) anil))))) bnil)
      (bcons (sasg (ev 0) (gtupQ (n := 5) rfl (gcons (gname (i := 2) sc_room_text.nd rfl (Or.inl rfl)) (gcons (gname (i := 3) sc_room_text.nd rfl (Or.inl rfl)) (gcons (gname (i := 5) sc_room_text.nd rfl (Or.inl rfl)) (gcons (gname (i := 6) sc_room_text.nd rfl (Or.inl rfl)) (gcons (gname (i := 7) sc_room_text.nd rfl (Or.inl rfl)) gnil)))))))
      (bcons (sset (i := 8) sc_room_text.nd rfl (Or.inl rfl) (ecall C_list_text (hr.mono (by decide)) rfl (acons (elc (Cap.mk (N := ["child", "places"]) (src := [none, some 1]) rfl rfl) rfl (ilist (ev 6)) (fun _ _ _ _ => (gname (i := 0) (show (["child", "places"] : List Str).Nodup from by decide +kernel) rfl (Or.inl rfl))) (fun _ _ _ _ => fnone) (fun _ _ _ _ => (eop op_add_str (eop op_add_str (ecall C_figures_of (hr.mono (by decide)) rfl (acons (ev 0) anil)) estr) (ecall C_figures_of (hr.mono (by decide)) rfl (acons (edget hr.units (ev 1) (ev 0) (fun _ _ => rfl)) anil))))) (acons estr anil))))
      (bcons (sset (i := 9) sc_room_text.nd rfl (Or.inl rfl) (ecall C_list_text (hr.mono (by decide)) rfl (acons (elc (Cap.mk (N := ["note"]) (src := [none]) rfl rfl) rfl (ilist (ev 7)) (fun _ _ _ _ => (gname (i := 0) (show (["note"] : List Str).Nodup from by decide +kernel) rfl (Or.inl rfl))) (fun _ _ _ _ => fnone) (fun _ _ _ _ => (ecall C_note_text (hr.mono (by decide)) rfl (acons (ev 0) anil)))) (acons estr anil))))
      (bone (sret (ebm PySem.F.plainAttrs_str PySem.F.slot_str_join PySem.F.type_str_join mt_join estr (acons (elstQ (acons (ev 2) (acons (ecall C_figures_of (hr.mono (by decide)) rfl (acons (ev 3) anil)) (acons (ecall C_numbers_text (hr.mono (by decide)) rfl (acons (ev 5) anil)) (acons (ev 8) (acons (ev 9) anil)))))) anil)))))))), ?_⟩
  cases r with
  | leaf n ra rows =>
    obtain ⟨h1, h2, h3⟩ := hr'
    simp only [tSeq, tNext, tIfS, tAsg, gName, gSub, tRet, tRetN, tDrop, tVar, tC, tOp, tUn, rI0, rI, rU, tTest, tB, tAndV, tOrV, tNotV, tAnd, tOr, tNot, tIf, tChain, tCB, tCons, tNil, tLst, tTup, tCallC, List.getElem?_cons_zero, List.getElem?_cons_succ, List.set_cons_zero, List.set_cons_succ, Option.some.injEq, V.int.injEq, V.bl.injEq, V.ref.injEq, V.ty.injEq, V.str.injEq, List.cons.injEq, exists_eq_left', exists_eq_left, exists_and_left, and_true, true_and, and_assoc, cxK, rIxF, rSetL, rEq, rNe, scal, HO.lst.injEq, HO.tup.injEq, upd_none, ixN_10, ixN_20, ixN_21, ixN_30, ixN_31, ixN_32, upd_same, seqAt_updL, seqAt_updT, atI_0, atI_1, atI_2, atI_3, decide_eq_true_eq, L2.start, List.map_cons, List.map_nil, List.length_cons, List.length_nil, Nat.reduceAdd, Nat.reduceSub, List.replicate_succ, List.replicate_zero, List.cons_append, List.nil_append, List.append_nil, tFor_rng1, tFor_rng2, tFor_list, tFor_tup, CDv, CMul, CPow, sizeLine_eq, Int.reduceLE, Int.reduceLT, Int.reducePow, Int.reduceToNat, Int.reduceAdd, Int.reduceSub, Int.reduceMul, Int.reduceNeg, Nat.reduceLeDiff, Nat.reducePow, Nat.reduceLT, Int.reduceEq, true_or, or_true, ite_true, ite_false, if_true, if_false, Bool.not_true, Bool.not_false, Bool.false_eq_true, decide_true, decide_false, rIxQ, seqQ_updL, seqQ_updT, tupQ_updT, tSl, tNoPart, tPart, rSlQ, rCatQ, tTupQ, tLstQ, tNever, rEqD, rInQ, gTupQ, gCons, gNil, tBM, tBM0, rAppend, rClear, rExtend, rPart, rSlS, rJoin, rIxS, tLRange, tDisp1, tyV, tDGet, rDClear, tRev, tFor_rng3, tLc_rng1, tLc_rng2, tLc_list, tLc_tup, pick_nil, pick_own, pick_cap, join_some, tYes, tCallKC, gk_11, gk_31, tSortDown, tDNewQ, sDPut, tLc_zipS, tLcD, seqQ_T h1,  h1]
    have ok1 := numT_len ok.1
    refine ⟨_, rfl, ok.1, _, rfl, ⟨_, SqL.of h2⟩, fun D nD => ?_⟩
    refine lc_mapX (L := rows) (f := fun q => q.1) (g := fun q => V.str (rowT q.2.k (q.2.vs.map (·.2)))) h2 nD (Nat.le_trans ok.2.2 (by decide)) (fun q0 hq H' Q' xx qq => ?_) (fun H1 hD x1 => ?_)
    · try walk_at "rn"
      exact ⟨_, q0.2, rfl, (h3 q0 hq).ext xx, ok.2.1 q0 hq, qq⟩
    have e : (rows.map fun q => V.str (rowT q.2.k (q.2.vs.map (·.2)))) = (rows.map fun q => rowT q.2.k (q.2.vs.map (·.2))).map V.str := by rw [List.map_map]; rfl
    rw [e] at hD
    have hl : ∀ t ∈ rows.map fun q => rowT q.2.k (q.2.vs.map (·.2)), t.length ≤ 9000 := by
      intro t ht
      obtain ⟨q0, hq, rfl⟩ := List.mem_map.1 ht
      exact rowT_len (ok.2.1 q0 hq)
    have l4 := listT_le (sep := Str.ofString ";") _ hl
    have l5 : (Str.ofString ";").length = 1 := by decide +kernel
    have l6 := ok.2.2
    rw [List.length_map, l5] at l4
    refine ⟨D, _, _, 9000, rfl, SqL.of hD, l5, hl, by rw [List.length_map]; omega, fun p np => ?_⟩
    have hw : ∀ t ∈ [Str.ofString "leaf", numT n, listT (Str.ofString ";") (rows.map fun q => rowT q.2.k (q.2.vs.map (·.2)))], t.length ≤ 600000 := by
      intro t ht
      simp only [List.mem_cons, List.not_mem_nil, or_false] at ht
      rcases ht with rfl | rfl | rfl
      · decide +kernel
      · omega
      · omega
    have m1 := lenAll_le (sep := Str.ofString " ") _ hw
    have m2 := join_le (sep := Str.ofString " ") _ hw
    have m3 : (Str.ofString " ").length = 1 := blank_len
    rw [m3] at m1 m2
    simp only [List.length_cons, List.length_nil] at m1 m2
    exact ⟨[_, _, _], SqL.of upd_same, by omega, by omega, q _ (x1.trans (Ext.new np))⟩
  | inner n pa piv ca ch ta tray =>
    obtain ⟨h1, h2, h3, h4, h5⟩ := hr'
    simp only [tSeq, tNext, tIfS, tAsg, gName, gSub, tRet, tRetN, tDrop, tVar, tC, tOp, tUn, rI0, rI, rU, tTest, tB, tAndV, tOrV, tNotV, tAnd, tOr, tNot, tIf, tChain, tCB, tCons, tNil, tLst, tTup, tCallC, List.getElem?_cons_zero, List.getElem?_cons_succ, List.set_cons_zero, List.set_cons_succ, Option.some.injEq, V.int.injEq, V.bl.injEq, V.ref.injEq, V.ty.injEq, V.str.injEq, List.cons.injEq, exists_eq_left', exists_eq_left, exists_and_left, and_true, true_and, and_assoc, cxK, rIxF, rSetL, rEq, rNe, scal, HO.lst.injEq, HO.tup.injEq, upd_none, ixN_10, ixN_20, ixN_21, ixN_30, ixN_31, ixN_32, upd_same, seqAt_updL, seqAt_updT, atI_0, atI_1, atI_2, atI_3, decide_eq_true_eq, L2.start, List.map_cons, List.map_nil, List.length_cons, List.length_nil, Nat.reduceAdd, Nat.reduceSub, List.replicate_succ, List.replicate_zero, List.cons_append, List.nil_append, List.append_nil, tFor_rng1, tFor_rng2, tFor_list, tFor_tup, CDv, CMul, CPow, sizeLine_eq, Int.reduceLE, Int.reduceLT, Int.reducePow, Int.reduceToNat, Int.reduceAdd, Int.reduceSub, Int.reduceMul, Int.reduceNeg, Nat.reduceLeDiff, Nat.reducePow, Nat.reduceLT, Int.reduceEq, true_or, or_true, ite_true, ite_false, if_true, if_false, Bool.not_true, Bool.not_false, Bool.false_eq_true, decide_true, decide_false, rIxQ, seqQ_updL, seqQ_updT, tupQ_updT, tSl, tNoPart, tPart, rSlQ, rCatQ, tTupQ, tLstQ, tNever, rEqD, rInQ, gTupQ, gCons, gNil, tBM, tBM0, rAppend, rClear, rExtend, rPart, rSlS, rJoin, rIxS, tLRange, tDisp1, tyV, tDGet, rDClear, tRev, tFor_rng3, tLc_rng1, tLc_rng2, tLc_list, tLc_tup, pick_nil, pick_own, pick_cap, join_some, tYes, tCallKC, gk_11, gk_31, tSortDown, tDNewQ, sDPut, tLc_zipS, tLcD, seqQ_T h1,  h1,  s5]
    obtain ⟨okn, okp, lp, okc, lc, okt, lt⟩ := ok
    obtain ⟨kvs, hd, hk⟩ := hp
    have ok1 := numT_len okn
    refine ⟨⟨_, SqL.of h3⟩, fun D nD => ?_⟩
    have c1 : (Str.ofString ",").length = 1 := by decide +kernel
    have c2 : (Str.ofString ";").length = 1 := by decide +kernel
    have c3 : (Str.ofString "@").length = 1 := by decide +kernel
    have m3 : (Str.ofString " ").length = 1 := blank_len
    refine lc_mapQ (L := ch) (f := V.int) (g := fun c => V.str (spotT pl c)) h3 nD (by omega) (fun c hc H' Q' xx qq => ?_) (fun H1 hD x1 => ?_)
    · have n1 := numT_len (okc c hc).1
      have n2 := numT_len (okc c hc).2
      try walk_at "rn"
      refine ⟨c, rfl, (okc c hc).1, _, rfl, by omega, .int (pl c), ?_, _, rfl, (okc c hc).2, _, rfl, by rw [Str.length_append]; omega, qq⟩
      rw [← hk c hc]
      exact DGet.k (k := .inl c) (xx.at hd)
    have e : (ch.map fun c => V.str (spotT pl c)) = (ch.map (spotT pl)).map V.str := by rw [List.map_map]; rfl
    rw [e] at hD
    have hl1 : ∀ t ∈ ch.map (spotT pl), t.length ≤ 203 := by
      intro t ht
      obtain ⟨c, hc, rfl⟩ := List.mem_map.1 ht
      have n1 := numT_len (okc c hc).1
      have n2 := numT_len (okc c hc).2
      unfold spotT
      rw [Str.length_append, Str.length_append]
      omega
    have l1 := listT_le (sep := Str.ofString ",") _ hl1
    rw [List.length_map, c1] at l1
    refine ⟨D, _, _, 203, rfl, SqL.of hD, c1, hl1, by rw [List.length_map]; omega, _, rfl, ⟨_, SqL.of (x1.at h4)⟩, fun D2 nD2 => ?_⟩
    refine lc_mapX (L := tray) (f := fun q => q.1) (g := fun q => V.str q.2.x) (x1.at h4) nD2 (by omega) (fun q0 hq H' Q' xx qq => ?_) (fun H2 hD2 x2 => ?_)
    · try walk_at "rn"
      exact ⟨_, q0.2, rfl, (h5 q0 hq).ext (x1.trans xx), okt q0 hq, qq⟩
    have e : (tray.map fun q => V.str q.2.x) = (tray.map fun q => q.2.x).map V.str := by rw [List.map_map]; rfl
    rw [e] at hD2
    have hl2 : ∀ t ∈ tray.map fun q => q.2.x, t.length ≤ 600 := by
      intro t ht
      obtain ⟨q0, hq, rfl⟩ := List.mem_map.1 ht
      exact Nt.len (okt q0 hq)
    have l2 := listT_le (sep := Str.ofString ";") _ hl2
    rw [List.length_map, c2] at l2
    have hl3 : ∀ t ∈ piv.map numT, t.length ≤ 101 := by
      intro t ht
      obtain ⟨i, hi, rfl⟩ := List.mem_map.1 ht
      exact numT_len (okp i hi)
    have l3 := listT_le (sep := Str.ofString ",") _ hl3
    rw [List.length_map, c1] at l3
    refine ⟨D2, _, _, 600, rfl, SqL.of hD2, c2, hl2, by rw [List.length_map]; omega, n, rfl, okn, pa, piv, rfl, (x1.trans x2).at h2, okp, by omega, fun H3 x3 p np => ?_⟩
    have hw : ∀ t ∈ [Str.ofString "inner", numT n, listT (Str.ofString ",") (piv.map numT), listT (Str.ofString ",") (ch.map (spotT pl)), listT (Str.ofString ";") (tray.map fun q => q.2.x)], t.length ≤ 600000 := by
      intro t ht
      simp only [List.mem_cons, List.not_mem_nil, or_false] at ht
      rcases ht with rfl | rfl | rfl | rfl | rfl
      · decide +kernel
      · omega
      · omega
      · omega
      · omega
    have m1 := lenAll_le (sep := Str.ofString " ") _ hw
    have m2 := join_le (sep := Str.ofString " ") _ hw
    rw [m3] at m1 m2
    simp only [List.length_cons, List.length_nil] at m1 m2
    exact ⟨[_, _, _, _, _], SqL.of upd_same, by omega, by omega, q _ (x1.trans (x2.trans (x3.trans (Ext.new np))))⟩
end
section
variable {P : Program} {w : World} {K : PySem.W.Frag} {mg : Str → Option Value} {base : Heap} {aG : Addr}
def L3 (x y z : Int) : HO := .lst [.int x, .int y, .int z]
def Wl (H : Hp) (p : Addr) : Prop := (∃ x, H p = some (.lst [.int x])) ∨ ∃ x y z, H p = some (L3 x y z)
theorem Wl.ext {K : PySem.W.Frag} {H H' : Hp} {p : Addr} (h : Wl H p) (x : Ext K H H') : Wl H' p := by
  rcases h with ⟨u, h⟩ | ⟨u, v, z, h⟩
  · exact .inl ⟨u, x.at h⟩
  · exact .inr ⟨u, v, z, x.at h⟩
theorem Wl.ne {K : PySem.W.Frag} {H : Hp} {p b : Addr} (h : Wl H p) (n : new K H b) : b ≠ p := by
  rcases h with ⟨u, h⟩ | ⟨u, v, z, h⟩
  · exact (ne_of_none h n.1).symm
  · exact (ne_of_none h n.1).symm
theorem Wl.upd {H : Hp} {p b : Addr} {o : HO} (h : Wl H p) (n : p ≠ b) : Wl (upd H b o) p := by
  rcases h with ⟨u, h⟩ | ⟨u, v, z, h⟩
  · exact .inl ⟨u, by rw [upd_ne n]; exact h⟩
  · exact .inr ⟨u, v, z, by rw [upd_ne n]; exact h⟩
def spCell (K : PySem.W.Frag) : Sp := fun vs H Q _ => ∃ (a : Addr) (ns : List Int) (k : Int), vs = [.ref a, .int k] ∧ SqL K H a (ns.map V.int) ∧ 0 ≤ k ∧ ∀ n, Q (.int n) H
theorem sc__law_cell_at : FnScope ["_law_script", "_law_k"] ["_law_script", "_law_k"] (defScope s__law_cell_at) := ⟨rfl, rfl, rfl, by decide +kernel, rfl, by decide +kernel, by decide +kernel⟩
theorem ok__law_cell_at {f : Addr} {fd : FuncData} (F : Fun K "_law_cell_at" "_law_cell_at" s__law_cell_at f fd) (B : B K mg aG) : FnOk P w K mg base CX0 1 f fd ["_law_script", "_law_k"] (spCell K) := by
  refine F.okJ sc__law_cell_at (fun vs H Q E h => ?_) (fun cdv A outer s H vs Q E hr h => ?_)
  · obtain ⟨a, ns, k, rfl, _⟩ := h
    rfl
  obtain ⟨a, ns, k, rfl, hs, h0, q⟩ := h
  refine ⟨_, (bcons (sif (tcmp op_lt (ev 1) (ecallB call_len_seq rfl B.len bt_len (acons (ev 0) anil)) (nomark _)) (bone (sret (eix ix_list (ev 0) (ev 1) (fun _ _ => rfl)))) bnil)
      (bone (sret ei))), ?_⟩
  simp only [tSeq, tNext, tIfS, tAsg, gName, gSub, tRet, tRetN, tDrop, tVar, tC, tOp, tUn, rI0, rI, rU, tTest, tB, tAndV, tOrV, tNotV, tAnd, tOr, tNot, tIf, tChain, tCB, tCons, tNil, tLst, tTup, tCallC, List.getElem?_cons_zero, List.getElem?_cons_succ, List.set_cons_zero, List.set_cons_succ, Option.some.injEq, V.int.injEq, V.bl.injEq, V.ref.injEq, V.ty.injEq, V.str.injEq, List.cons.injEq, exists_eq_left', exists_eq_left, exists_and_left, and_true, true_and, and_assoc, cxK, rIxF, rSetL, rEq, rNe, scal, HO.lst.injEq, HO.tup.injEq, upd_none, ixN_10, ixN_20, ixN_21, ixN_30, ixN_31, ixN_32, upd_same, seqAt_updL, seqAt_updT, atI_0, atI_1, atI_2, atI_3, decide_eq_true_eq, L2.start, List.map_cons, List.map_nil, List.length_cons, List.length_nil, Nat.reduceAdd, Nat.reduceSub, List.replicate_succ, List.replicate_zero, List.cons_append, List.nil_append, List.append_nil, tFor_rng1, tFor_rng2, tFor_list, tFor_tup, CDv, CMul, CPow, sizeLine_eq, Int.reduceLE, Int.reduceLT, Int.reducePow, Int.reduceToNat, Int.reduceAdd, Int.reduceSub, Int.reduceMul, Int.reduceNeg, Nat.reduceLeDiff, Nat.reducePow, Nat.reduceLT, Int.reduceEq, true_or, or_true, ite_true, ite_false, if_true, if_false, Bool.not_true, Bool.not_false, Bool.false_eq_true, decide_true, decide_false, rIxQ, seqQ_updL, seqQ_updT, tupQ_updT, tSl, tNoPart, tPart, rSlQ, rCatQ, tTupQ, tLstQ, tNever, rEqD, rInQ, gTupQ, gCons, gNil, tBM, tBM0, rAppend, rClear, rExtend, rPart, rSlS, rJoin, rIxS, tLRange, tDisp1, tyV, tDGet, rDClear, tRev, tFor_rng3, tLc_rng1, tLc_rng2, tLc_list, tLc_tup, pick_nil, pick_own, pick_cap, join_some, tYes, tCallKC, gk_11, gk_31, tSortDown, tDNewQ, sDPut, tLc_zipS, tLcD, rIxL]
  refine ⟨_, .inl hs, ?_⟩
  refine ite2 (fun c => ?_) (fun c => q 0)
  obtain ⟨v, e, m⟩ := atI_in h0 c
  obtain ⟨n, _, rfl⟩ := List.mem_map.mp m
  exact ⟨_, hs, _, e, q n⟩
def spDigit (K : PySem.W.Frag) : Sp := fun vs H Q _ => ∃ p m, vs = [.ref p, .int m] ∧ Wl H p ∧ 0 < m ∧ m < 10 ^ 100 ∧
  ∀ (r : Int) (H' : Hp), 0 ≤ r → r < m → Wl H' p → Kp K p H H' → Q (.int r) H'
theorem sc__law_digit : FnScope ["_law_state", "_law_base", "_law_cell", "_law_found", "_law_number_here"] ["_law_state", "_law_base"] (defScope s__law_digit) := ⟨rfl, rfl, rfl, by decide +kernel, rfl, by decide +kernel, by decide +kernel⟩
theorem ok__law_digit {f : Addr} {fd : FuncData} (F : Fun K "_law_digit" "_law_digit" s__law_digit f fd) (B : B K mg aG) : FnOk P w K mg base CX0 1 f fd ["_law_state", "_law_base"] (spDigit K) := by
  refine F.okJ sc__law_digit (fun vs H Q E h => ?_) (fun cdv A outer s H vs Q E hr h => ?_)
  · obtain ⟨p, m, rfl, _⟩ := h
    rfl
  obtain ⟨p, m, rfl, hp, h0, h1, q⟩ := h
  refine ⟨_, (bcut (sif (tcmp op_eq (ecallB call_lenQ rfl B.len bt_len (acons (ev 0) anil)) ei (nomark _)) (bcons (sset (i := 2) sc__law_digit.nd rfl (Or.inl rfl) (eix ix_Q (ev 0) ei (fun _ _ => rfl)))
      (bcons (sasg (eix ix_Q (elstQ (acons ei (acons (ev 2) anil))) (ecallTy call_intB rfl B.int bt_int (acons (ecmp op_ge (ev 2) (epowc 1000000000000000000) (nomark _)) anil)) (fun _ _ => rfl)) (gsub (ev 0) ei set_list))
      (bone (sexpr (ebm PySem.F.plainAttrs_list PySem.F.slot_list_extend PySem.F.type_list_extend mt_extend (ev 0) (acons (elstQ (acons (eop op_mod (ev 2) ei) (acons ei anil))) anil)))))) bnil)
      (bcons (sif (tcmp op_gt (eix ix_Q (ev 0) ei (fun _ _ => rfl)) ei (nomark _)) (bcons (sset (i := 3) sc__law_digit.nd rfl (Or.inl rfl) (eop op_mod (eix ix_Q (ev 0) ei (fun _ _ => rfl)) (ev 1)))
      (bcons (sasg (eop op_fdivP (eix ix_Q (ev 0) ei (fun _ _ => rfl)) (ev 1)) (gsub (ev 0) ei set_list))
      (bone (sret (ev 3))))) bnil)
      (bcons (sasg (eop op_add (eix ix_Q (ev 0) ei (fun _ _ => rfl)) ei) (gsub (ev 0) ei set_list))
      (bcons (sset (i := 4) sc__law_digit.nd rfl (Or.inl rfl) (eop op_mod (eop op_mul (eop op_add (eop op_add (eix ix_Q (ev 0) ei (fun _ _ => rfl)) (eop op_mul ei (eix ix_Q (ev 0) ei (fun _ _ => rfl)))) ei) ei) ei))
      (bcons (sset (i := 4) sc__law_digit.nd rfl (Or.inl rfl) (eop op_mod (eop op_mul (ev 4) (eop op_add (eop op_fdivP (ev 4) ei) ei)) ei))
      (bone (sret (eop op_mod (eop op_mod (eop op_mul (ev 4) (eop op_add (eop op_fdivP (ev 4) ei) ei)) ei) (ev 1))))))))), ?_⟩
  obtain ⟨J, eJ⟩ : ∃ J : St → Hp → Prop, J = fun σ1 G1 => ∃ (v2 : Option V) (x y z : Int), σ1 = [some (.ref p), some (.int m), v2, none, none] ∧ G1 p = some (L3 x y z) ∧ Kp K p H G1 := ⟨_, rfl⟩
  refine ⟨J, ?_, ?_⟩
  · rcases hp with ⟨x, hp⟩ | ⟨x, y, z, hp⟩
    · simp only [tSeq, tNext, tIfS, tAsg, gName, gSub, tRet, tRetN, tDrop, tVar, tC, tOp, tUn, rI0, rI, rU, tTest, tB, tAndV, tOrV, tNotV, tAnd, tOr, tNot, tIf, tChain, tCB, tCons, tNil, tLst, tTup, tCallC, List.getElem?_cons_zero, List.getElem?_cons_succ, List.set_cons_zero, List.set_cons_succ, Option.some.injEq, V.int.injEq, V.bl.injEq, V.ref.injEq, V.ty.injEq, V.str.injEq, List.cons.injEq, exists_eq_left', exists_eq_left, exists_and_left, and_true, true_and, and_assoc, cxK, rIxF, rSetL, rEq, rNe, scal, HO.lst.injEq, HO.tup.injEq, upd_none, ixN_10, ixN_20, ixN_21, ixN_30, ixN_31, ixN_32, upd_same, seqAt_updL, seqAt_updT, atI_0, atI_1, atI_2, atI_3, decide_eq_true_eq, L2.start, List.map_cons, List.map_nil, List.length_cons, List.length_nil, Nat.reduceAdd, Nat.reduceSub, List.replicate_succ, List.replicate_zero, List.cons_append, List.nil_append, List.append_nil, tFor_rng1, tFor_rng2, tFor_list, tFor_tup, CDv, CMul, CPow, sizeLine_eq, Int.reduceLE, Int.reduceLT, Int.reducePow, Int.reduceToNat, Int.reduceAdd, Int.reduceSub, Int.reduceMul, Int.reduceNeg, Nat.reduceLeDiff, Nat.reducePow, Nat.reduceLT, Int.reduceEq, true_or, or_true, ite_true, ite_false, if_true, if_false, Bool.not_true, Bool.not_false, Bool.false_eq_true, decide_true, decide_false, rIxQ, seqQ_updL, seqQ_updT, tupQ_updT, tSl, tNoPart, tPart, rSlQ, rCatQ, tTupQ, tLstQ, new_upd, tNever, rEqD, rInQ, gTupQ, gCons, gNil, tBM, tBM0, rAppend, rClear, rExtend, rPart, rSlS, rJoin, rIxS, tLRange, tDisp1, tyV, tDGet, rDClear, tRev, tFor_rng3, tLc_rng1, tLc_rng2, tLc_list, tLc_tup, pick_nil, pick_own, pick_cap, join_some, tYes, tCallKC, gk_11, gk_31, tSortDown, tDNewQ, sDPut, tLc_zipS, tLcD, hp,  seqQ_lst hp]
      refine ite2 (fun _ => ?_) (fun c => absurd rfl c)
      intro b nb
      have ne : b ≠ p := (ne_of_none hp nb.1).symm
      obtain ⟨v, ev⟩ : ∃ v : Int, atI [V.int 0, V.int x] (if 1000000000000000000 ≤ x then 1 else 0) = some (.int v) := by split <;> exact ⟨_, rfl⟩
      have x1 := Ext.new (K := K) (o := .lst [.int 0, .int x]) nb
      have hp1 := x1.at hp
      refine ⟨_, ev, _, hp1, 0, rfl, .inl ⟨_, SqL.of upd_same⟩, fun b2 nb2 => ⟨_, by rw [upd_ne nb2.1.symm]; exact upd_same, by show 1 ≤ 16777214; decide, ?_⟩⟩
      rw [eJ]
      have k2 : Kp K p _ (upd (upd H b (.lst [.int 0, .int x])) p (.lst [.int v])) := Kp.upd hp1
      have n2 : new K (upd (upd H b (.lst [.int 0, .int x])) p (.lst [.int v])) b2 := ⟨by rw [upd_ne nb2.1, upd_ne nb2.2.1]; exact nb2.2.2.1, nb2.2.2.2⟩
      have x3 := Ext.new (K := K) (o := .lst [.int (x % 2147483647), .int 0]) n2
      exact ⟨_, v, _, _, rfl, upd_same, x1.kp.trans (k2.trans (x3.kp.trans (Kp.upd (x3.at upd_same))))⟩
    · unfold L3 at hp
      simp only [tSeq, tNext, tIfS, tAsg, gName, gSub, tRet, tRetN, tDrop, tVar, tC, tOp, tUn, rI0, rI, rU, tTest, tB, tAndV, tOrV, tNotV, tAnd, tOr, tNot, tIf, tChain, tCB, tCons, tNil, tLst, tTup, tCallC, List.getElem?_cons_zero, List.getElem?_cons_succ, List.set_cons_zero, List.set_cons_succ, Option.some.injEq, V.int.injEq, V.bl.injEq, V.ref.injEq, V.ty.injEq, V.str.injEq, List.cons.injEq, exists_eq_left', exists_eq_left, exists_and_left, and_true, true_and, and_assoc, cxK, rIxF, rSetL, rEq, rNe, scal, HO.lst.injEq, HO.tup.injEq, upd_none, ixN_10, ixN_20, ixN_21, ixN_30, ixN_31, ixN_32, upd_same, seqAt_updL, seqAt_updT, atI_0, atI_1, atI_2, atI_3, decide_eq_true_eq, L2.start, List.map_cons, List.map_nil, List.length_cons, List.length_nil, Nat.reduceAdd, Nat.reduceSub, List.replicate_succ, List.replicate_zero, List.cons_append, List.nil_append, List.append_nil, tFor_rng1, tFor_rng2, tFor_list, tFor_tup, CDv, CMul, CPow, sizeLine_eq, Int.reduceLE, Int.reduceLT, Int.reducePow, Int.reduceToNat, Int.reduceAdd, Int.reduceSub, Int.reduceMul, Int.reduceNeg, Nat.reduceLeDiff, Nat.reducePow, Nat.reduceLT, Int.reduceEq, true_or, or_true, ite_true, ite_false, if_true, if_false, Bool.not_true, Bool.not_false, Bool.false_eq_true, decide_true, decide_false, rIxQ, seqQ_updL, seqQ_updT, tupQ_updT, tSl, tNoPart, tPart, rSlQ, rCatQ, tTupQ, tLstQ, new_upd, tNever, rEqD, rInQ, gTupQ, gCons, gNil, tBM, tBM0, rAppend, rClear, rExtend, rPart, rSlS, rJoin, rIxS, tLRange, tDisp1, tyV, tDGet, rDClear, tRev, tFor_rng3, tLc_rng1, tLc_rng2, tLc_list, tLc_tup, pick_nil, pick_own, pick_cap, join_some, tYes, tCallKC, gk_11, gk_31, tSortDown, tDNewQ, sDPut, tLc_zipS, tLcD, hp,  seqQ_lst hp]
      refine ite2 (fun c => absurd c (by decide)) (fun _ => ?_)
      rw [eJ]
      exact ⟨_, _, _, _, rfl, hp, Kp.refl⟩
  intro σ1 G1 h
  rw [eJ] at h
  clear eJ
  obtain ⟨v2, x, y, z, rfl, hp, k⟩ := h
  unfold L3 at hp
  simp only [tSeq, tNext, tIfS, tAsg, gName, gSub, tRet, tRetN, tDrop, tVar, tC, tOp, tUn, rI0, rI, rU, tTest, tB, tAndV, tOrV, tNotV, tAnd, tOr, tNot, tIf, tChain, tCB, tCons, tNil, tLst, tTup, tCallC, List.getElem?_cons_zero, List.getElem?_cons_succ, List.set_cons_zero, List.set_cons_succ, Option.some.injEq, V.int.injEq, V.bl.injEq, V.ref.injEq, V.ty.injEq, V.str.injEq, List.cons.injEq, exists_eq_left', exists_eq_left, exists_and_left, and_true, true_and, and_assoc, cxK, rIxF, rSetL, rEq, rNe, scal, HO.lst.injEq, HO.tup.injEq, upd_none, ixN_10, ixN_20, ixN_21, ixN_30, ixN_31, ixN_32, upd_same, seqAt_updL, seqAt_updT, atI_0, atI_1, atI_2, atI_3, decide_eq_true_eq, L2.start, List.map_cons, List.map_nil, List.length_cons, List.length_nil, Nat.reduceAdd, Nat.reduceSub, List.replicate_succ, List.replicate_zero, List.cons_append, List.nil_append, List.append_nil, tFor_rng1, tFor_rng2, tFor_list, tFor_tup, CDv, CMul, CPow, sizeLine_eq, Int.reduceLE, Int.reduceLT, Int.reducePow, Int.reduceToNat, Int.reduceAdd, Int.reduceSub, Int.reduceMul, Int.reduceNeg, Nat.reduceLeDiff, Nat.reducePow, Nat.reduceLT, Int.reduceEq, true_or, or_true, ite_true, ite_false, if_true, if_false, Bool.not_true, Bool.not_false, Bool.false_eq_true, decide_true, decide_false, rIxQ, seqQ_updL, seqQ_updT, tupQ_updT, tSl, tNoPart, tPart, rSlQ, rCatQ, tTupQ, tLstQ, new_upd, tNever, rEqD, rInQ, gTupQ, gCons, gNil, tBM, tBM0, rAppend, rClear, rExtend, rPart, rSlS, rJoin, rIxS, tLRange, tDisp1, tyV, tDGet, rDClear, tRev, tFor_rng3, tLc_rng1, tLc_rng2, tLc_list, tLc_tup, pick_nil, pick_own, pick_cap, join_some, tYes, tCallKC, gk_11, gk_31, tSortDown, tDNewQ, sDPut, tLc_zipS, tLcD, hp,  seqQ_lst hp]
  have g : ∀ (u v z : Int), Kp K p H (upd G1 p (L3 u v z)) := fun u v z => k.trans (Kp.upd hp)
  refine ite2 (fun c => ⟨h0, h0, by omega, ?_⟩) (fun c => ?_)
  · exact q _ _ (Int.emod_nonneg _ (by omega)) (Int.emod_lt_of_pos _ h0) (.inr ⟨_, _, _, upd_same⟩) (g _ _ _)
  · refine ⟨?_, ?_, h0, q _ _ (Int.emod_nonneg _ (by omega)) (Int.emod_lt_of_pos _ h0) (.inr ⟨_, _, _, upd_same⟩) (g _ _ _)⟩
    all_goals omega
theorem Wl.lst {H : Hp} {p : Addr} (h : Wl H p) : ∃ xs, H p = some (.lst xs) := by
  rcases h with ⟨u, h⟩ | ⟨u, v, z, h⟩
  · exact ⟨_, h⟩
  · exact ⟨_, h⟩
theorem Wl.back {K : PySem.W.Frag} {H H' : Hp} {p r : Addr} (h : Wl H' p) (k : Kp K p H H') (n : H' r = none) : H r = none := by
  by_cases e : H r = none
  · exact e
  · obtain ⟨o, ho⟩ := Option.ne_none_iff_exists'.1 e
    have ne : r ≠ p := fun e => by
      obtain ⟨xs, hx⟩ := h.lst
      rw [← e, n] at hx
      cases hx
    have := k.keep r o ho ne
    rw [n] at this
    cases this
theorem VerAt.kp {K : PySem.W.Frag} {H H' : Hp} {u : V} {q : Int × Option Int} {p : Addr} {xs : List V} (h : VerAt K H u q) (k : Kp K p H H') (hp : H p = some (.lst xs)) : VerAt K H' u q := by
  obtain ⟨t, e, ht⟩ := h
  exact ⟨t, e, k.tup hp ht⟩
theorem VerAt.ext {K : PySem.W.Frag} {H H' : Hp} {u : V} {q : Int × Option Int} (h : VerAt K H u q) (x : Ext K H H') : VerAt K H' u q := by
  obtain ⟨t, e, ht⟩ := h
  exact ⟨t, e, x.tup ht⟩
theorem pickI (ns : List Int) {i : Int} (h0 : 0 ≤ i) (h1 : i < ns.length) : ∃ n, n ∈ ns ∧ atI (ns.map V.int) i = some (.int n) := by
  obtain ⟨v, ev, mv⟩ := atI_in (xs := ns.map V.int) h0 (by rw [List.length_map]; exact h1)
  obtain ⟨n, hn, rfl⟩ := List.mem_map.1 mv
  exact ⟨n, hn, ev⟩
def spNumber (K : PySem.W.Frag) : Sp := fun vs H Q _ => ∃ p, vs = [.ref p] ∧ Wl H p ∧ ∀ (i : Int) (H' : Hp), i.natAbs < 10 ^ 60 → Wl H' p → Kp K p H H' → Q (.int i) H'
theorem sc__law_number : FnScope ["_law_state", "_law_way", "_law_found"] ["_law_state"] (defScope s__law_number) := ⟨rfl, rfl, rfl, by decide +kernel, rfl, by decide +kernel, by decide +kernel⟩
theorem ok__law_number {f : Addr} {fd : FuncData} (F : Fun K "_law_number" "_law_number" s__law_number f fd) (B : B K mg aG) (C__law_digit : Callee P w K mg base "_law_digit" 1 ["_law_state", "_law_base"] (spDigit K)) : FnOk P w K mg base CX0 2 f fd ["_law_state"] (spNumber K) := by
  refine F.okJ sc__law_number (fun vs H Q E h => ?_) (fun cdv A outer s H vs Q E hr h => ?_)
  · obtain ⟨p, rfl, _⟩ := h
    rfl
  obtain ⟨p, rfl, hp, q⟩ := h
  refine ⟨_, (bcons (sset (i := 1) sc__law_number.nd rfl (Or.inl rfl) (ecall C__law_digit (hr.mono (by decide)) rfl (acons (ev 0) (acons ei anil))))
      (bcons (sset (i := 2) sc__law_number.nd rfl (Or.inl rfl) (ecall C__law_digit (hr.mono (by decide)) rfl (acons (ev 0) (acons (eix ix_Q (elstQ (acons ei (acons ei (acons (epowc 1000000000) (acons (epowc 1000000000000000000000000000000) (acons (epowc 1000000000000000000000000000000000000000000000000000000000000) (acons (epowc 1000000000) anil))))))) (ev 1) (fun _ _ => rfl)) anil))))
      (bcut (sif (tcmp op_eq (ev 1) ei (nomark _)) (bone (sset (i := 2) sc__law_number.nd rfl (Or.inl rfl) (eop op_sub (eop op_sub (epowc 1000000000000000000000000000000000000000000000000000000000000) ei) (ev 2)))) bnil)
      (bcut (sif (tcmp op_eq (ecall C__law_digit (hr.mono (by decide)) rfl (acons (ev 0) (acons ei anil))) ei (nomark _)) (bone (sset (i := 2) sc__law_number.nd rfl (Or.inl rfl) (eop op_sub ei (ev 2)))) bnil)
      (bone (sret (ev 2))))))), ?_⟩
  try walk_at "rn"
  refine ⟨p, 6, rfl, hp, by decide, by decide, fun w H1 w0 w1 hp1 k1 => ?_⟩
  try walk_at "rn"
  intro D nD
  obtain ⟨n, hn, en⟩ := pickI [1, 10, 10 ^ 9, 10 ^ 30, 10 ^ 60, 10 ^ 9] (i := w) w0 w1
  have bn : 0 < n ∧ n ≤ 10 ^ 60 := by
    simp only [List.mem_cons, List.not_mem_nil, or_false] at hn
    rcases hn with rfl | rfl | rfl | rfl | rfl | rfl <;> exact ⟨by decide, by decide⟩
  have x1 := Ext.new (K := K) (o := .lst [V.int 1, V.int 10, V.int 1000000000, V.int 1000000000000000000000000000000, V.int 1000000000000000000000000000000000000000000000000000000000000, V.int 1000000000]) nD
  refine ⟨_, en, p, n, rfl, hp1.ext x1, bn.1, by omega, fun j H2 j0 j1 hp2 k2 => ?_⟩
  have k02 := k1.trans (x1.kp.trans k2)
  obtain ⟨J, eJ⟩ : ∃ J : St → Hp → Prop, J = fun σ1 G1 => ∃ j : Int, σ1 = [some (.ref p), some (.int w), some (.int j)] ∧ j.natAbs < 10 ^ 60 ∧ Wl G1 p ∧ Kp K p H G1 := ⟨_, rfl⟩
  refine ⟨J, ?_, ?_⟩
  · try walk_at "rn"
    refine ite2 (fun c => ?_) (fun c => ?_)
    · rw [eJ]
      subst c
      have : n = 10 ^ 9 := by
        have e : atI ([1, 10, 10 ^ 9, 10 ^ 30, 10 ^ 60, 10 ^ 9].map V.int) 5 = some (.int (10 ^ 9)) := rfl
        rw [e] at en
        injection en with en
        injection en with en
        exact en.symm
      exact ⟨_, rfl, by omega, hp2, k02⟩
    · rw [eJ]
      exact ⟨j, rfl, by omega, hp2, k02⟩
  intro σ1 G1 h
  rw [eJ] at h
  clear eJ
  obtain ⟨j, rfl, jb, hp3, k3⟩ := h
  obtain ⟨J, eJ⟩ : ∃ J : St → Hp → Prop, J = fun σ1 G1 => ∃ j : Int, σ1 = [some (.ref p), some (.int w), some (.int j)] ∧ j.natAbs < 10 ^ 60 ∧ Wl G1 p ∧ Kp K p H G1 := ⟨_, rfl⟩
  refine ⟨J, ?_, ?_⟩
  · try walk_at "rn"
    refine ⟨p, 2, rfl, hp3, by decide, by decide, fun r H4 r0 r1 hp4 k4 => ?_⟩
    try walk_at "rn"
    refine ite2 (fun c => ?_) (fun c => ?_)
    · rw [eJ]
      exact ⟨_, rfl, by omega, hp4, k3.trans k4⟩
    · rw [eJ]
      exact ⟨_, rfl, jb, hp4, k3.trans k4⟩
  intro σ1 G1 h
  rw [eJ] at h
  clear eJ
  obtain ⟨j, rfl, jb, hp3, k3⟩ := h
  try walk_at "rn"
  exact q _ _ jb hp3 k3
def spFirst (K : PySem.W.Frag) : Sp := fun vs H Q _ => ∃ p, vs = [.ref p] ∧ Wl H p ∧ ∀ (i : Int) (H' : Hp), 0 ≤ i → i < 10 ^ 59 → Wl H' p → Kp K p H H' → Q (.int i) H'
theorem sc__law_first : FnScope ["_law_state"] ["_law_state"] (defScope s__law_first) := ⟨rfl, rfl, rfl, by decide +kernel, rfl, by decide +kernel, by decide +kernel⟩
theorem ok__law_first {f : Addr} {fd : FuncData} (F : Fun K "_law_first" "_law_first" s__law_first f fd) (B : B K mg aG) (C__law_digit : Callee P w K mg base "_law_digit" 1 ["_law_state", "_law_base"] (spDigit K)) : FnOk P w K mg base CX0 2 f fd ["_law_state"] (spFirst K) := by
  refine F.okJ sc__law_first (fun vs H Q E h => ?_) (fun cdv A outer s H vs Q E hr h => ?_)
  · obtain ⟨p, rfl, _⟩ := h
    rfl
  obtain ⟨p, rfl, hp, q⟩ := h
  refine ⟨_, (bone (sret (ecall C__law_digit (hr.mono (by decide)) rfl (acons (ev 0) (acons (eix ix_Q (elstQ (acons ei (acons ei (acons (epowc 1000000000000) (acons (epowc 100000000000000000000000000000000000000000000000000000000000) anil))))) (ecall C__law_digit (hr.mono (by decide)) rfl (acons (ev 0) (acons ei anil))) (fun _ _ => rfl)) anil))))), ?_⟩
  try walk_at "rn"
  intro D nD
  have x1 := Ext.new (K := K) (o := .lst [V.int 1, V.int 10, V.int 1000000000000, V.int 100000000000000000000000000000000000000000000000000000000000]) nD
  refine ⟨p, 4, rfl, hp.ext x1, by decide, by decide, fun d H2 d0 d1 hp2 k2 => ?_⟩
  simp only [tSeq, tNext, tIfS, tAsg, gName, gSub, tRet, tRetN, tDrop, tVar, tC, tOp, tUn, rI0, rI, rU, tTest, tB, tAndV, tOrV, tNotV, tAnd, tOr, tNot, tIf, tChain, tCB, tCons, tNil, tLst, tTup, tCallC, List.getElem?_cons_zero, List.getElem?_cons_succ, List.set_cons_zero, List.set_cons_succ, Option.some.injEq, V.int.injEq, V.bl.injEq, V.ref.injEq, V.ty.injEq, V.str.injEq, List.cons.injEq, exists_eq_left', exists_eq_left, exists_and_left, and_true, true_and, and_assoc, cxK, rIxF, rSetL, rEq, rNe, scal, HO.lst.injEq, HO.tup.injEq, upd_none, ixN_10, ixN_20, ixN_21, ixN_30, ixN_31, ixN_32, upd_same, seqAt_updL, seqAt_updT, atI_0, atI_1, atI_2, atI_3, decide_eq_true_eq, L2.start, List.map_cons, List.map_nil, List.length_cons, List.length_nil, Nat.reduceAdd, Nat.reduceSub, List.replicate_succ, List.replicate_zero, List.cons_append, List.nil_append, List.append_nil, tFor_rng1, tFor_rng2, tFor_list, tFor_tup, CDv, CMul, CPow, sizeLine_eq, Int.reduceLE, Int.reduceLT, Int.reducePow, Int.reduceToNat, Int.reduceAdd, Int.reduceSub, Int.reduceMul, Int.reduceNeg, Nat.reduceLeDiff, Nat.reducePow, Nat.reduceLT, Int.reduceEq, true_or, or_true, ite_true, ite_false, if_true, if_false, Bool.not_true, Bool.not_false, Bool.false_eq_true, decide_true, decide_false, rIxQ, seqQ_updL, seqQ_updT, tupQ_updT, tSl, tNoPart, tPart, rSlQ, rCatQ, tTupQ, tLstQ, tNever, rEqD, rInQ, gTupQ, gCons, gNil, tBM, tBM0, rAppend, rClear, rExtend, rPart, rSlS, rJoin, rIxS, tLRange, tDisp1, tyV, tDGet, rDClear, tRev, tFor_rng3, tLc_rng1, tLc_rng2, tLc_list, tLc_tup, pick_nil, pick_own, pick_cap, join_some, tYes, tCallKC, gk_11, gk_31, tSortDown, tDNewQ, sDPut, tLc_zipS, tLcD, seqQ_lst (k2.keep D _ upd_same (hp.ne nD))]
  obtain ⟨n, hn, en⟩ := pickI [1, 10, 10 ^ 12, 10 ^ 59] (i := d) d0 d1
  have bn : 0 < n ∧ n ≤ 10 ^ 59 := by
    simp only [List.mem_cons, List.not_mem_nil, or_false] at hn
    rcases hn with rfl | rfl | rfl | rfl <;> exact ⟨by decide, by decide⟩
  exact ⟨_, en, p, n, rfl, hp2, bn.1, by omega, fun j H3 j0 j1 hp3 k3 => q _ _ j0 (by omega) hp3 (x1.kp.trans (k2.trans k3))⟩
def spRising (K : PySem.W.Frag) : Sp := fun vs H Q _ => ∃ (p : Addr) (n : Nat) (i : Int), vs = [.ref p, .int n, .int i] ∧ Wl H p ∧ n ≤ 60 ∧ 0 ≤ i ∧ i < 10 ^ 59 ∧
  ∀ (r : Addr) (ns : List Int) (H' : Hp), H' r = some (.lst (ns.map V.int)) → ns.length = n → (∀ j ∈ ns, i ≤ j ∧ j < i + 10 ^ 12) → ns.Pairwise (· < ·) → H r = none → Wl H' p → Kp K p H H' → Q (.ref r) H'
theorem sc__law_rising : FnScope ["_law_state", "_law_many", "_law_first_here", "_law_step", "_law_found", "_law_k"] ["_law_state", "_law_many", "_law_first_here"] (defScope s__law_rising) := ⟨rfl, rfl, rfl, by decide +kernel, rfl, by decide +kernel, by decide +kernel⟩
theorem ok__law_rising {f : Addr} {fd : FuncData} (F : Fun K "_law_rising" "_law_rising" s__law_rising f fd) (B : B K mg aG) (C__law_digit : Callee P w K mg base "_law_digit" 1 ["_law_state", "_law_base"] (spDigit K)) : FnOk P w K mg base CX0 2 f fd ["_law_state", "_law_many", "_law_first_here"] (spRising K) := by
  refine F.okJ sc__law_rising (fun vs H Q E h => ?_) (fun cdv A outer s H vs Q E hr h => ?_)
  · obtain ⟨p, n, i, rfl, _⟩ := h
    rfl
  obtain ⟨p, n, i, rfl, hp, n60, i0, i1, q⟩ := h
  refine ⟨_, (bcons (sset (i := 3) sc__law_rising.nd rfl (Or.inl rfl) (eix ix_Q (elstQ (acons ei (acons ei (acons (epowc 1000000000) anil)))) (ecall C__law_digit (hr.mono (by decide)) rfl (acons (ev 0) (acons ei anil))) (fun _ _ => rfl)))
      (bcons (sset (i := 4) sc__law_rising.nd rfl (Or.inl rfl) (elstQ anil))
      (bcons (sfor PassesOwn.never rfl (irange1 rfl B.range (acons (ev 1) anil)) (gname (i := 5) sc__law_rising.nd rfl (Or.inl rfl))
        (bcons (sexpr (ebm PySem.F.plainAttrs_list PySem.F.slot_list_append PySem.F.type_list_append mt_append (ev 4) (acons (ev 2) anil)))
      (bone (sset (i := 2) sc__law_rising.nd rfl (Or.inl rfl) (eop op_add (eop op_add (ev 2) ei) (ecall C__law_digit (hr.mono (by decide)) rfl (acons (ev 0) (acons (ev 3) anil))))))))
      (bone (sret (ev 4)))))), ?_⟩
  try walk_at "rn"
  intro D nD
  have x1 := Ext.new (K := K) (o := .lst [V.int 1, V.int 7, V.int 1000000000]) nD
  refine ⟨p, 3, rfl, hp.ext x1, by decide, by decide, fun d H2 d0 d1 hp2 k2 => ?_⟩
  simp only [tSeq, tNext, tIfS, tAsg, gName, gSub, tRet, tRetN, tDrop, tVar, tC, tOp, tUn, rI0, rI, rU, tTest, tB, tAndV, tOrV, tNotV, tAnd, tOr, tNot, tIf, tChain, tCB, tCons, tNil, tLst, tTup, tCallC, List.getElem?_cons_zero, List.getElem?_cons_succ, List.set_cons_zero, List.set_cons_succ, Option.some.injEq, V.int.injEq, V.bl.injEq, V.ref.injEq, V.ty.injEq, V.str.injEq, List.cons.injEq, exists_eq_left', exists_eq_left, exists_and_left, and_true, true_and, and_assoc, cxK, rIxF, rSetL, rEq, rNe, scal, HO.lst.injEq, HO.tup.injEq, upd_none, ixN_10, ixN_20, ixN_21, ixN_30, ixN_31, ixN_32, upd_same, seqAt_updL, seqAt_updT, atI_0, atI_1, atI_2, atI_3, decide_eq_true_eq, L2.start, List.map_cons, List.map_nil, List.length_cons, List.length_nil, Nat.reduceAdd, Nat.reduceSub, List.replicate_succ, List.replicate_zero, List.cons_append, List.nil_append, List.append_nil, tFor_rng1, tFor_rng2, tFor_list, tFor_tup, CDv, CMul, CPow, sizeLine_eq, Int.reduceLE, Int.reduceLT, Int.reducePow, Int.reduceToNat, Int.reduceAdd, Int.reduceSub, Int.reduceMul, Int.reduceNeg, Nat.reduceLeDiff, Nat.reducePow, Nat.reduceLT, Int.reduceEq, true_or, or_true, ite_true, ite_false, if_true, if_false, Bool.not_true, Bool.not_false, Bool.false_eq_true, decide_true, decide_false, rIxQ, seqQ_updL, seqQ_updT, tupQ_updT, tSl, tNoPart, tPart, rSlQ, rCatQ, tTupQ, tLstQ, tNever, rEqD, rInQ, gTupQ, gCons, gNil, tBM, tBM0, rAppend, rClear, rExtend, rPart, rSlS, rJoin, rIxS, tLRange, tDisp1, tyV, tDGet, rDClear, tRev, tFor_rng3, tLc_rng1, tLc_rng2, tLc_list, tLc_tup, pick_nil, pick_own, pick_cap, join_some, tYes, tCallKC, gk_11, gk_31, tSortDown, tDNewQ, sDPut, tLc_zipS, tLcD, seqQ_lst (k2.keep D _ upd_same (hp.ne nD))]
  obtain ⟨m, hm, em⟩ := pickI [1, 7, 10 ^ 9] (i := d) d0 d1
  have bm : 0 < m ∧ m ≤ 10 ^ 9 := by
    simp only [List.mem_cons, List.not_mem_nil, or_false] at hm
    rcases hm with rfl | rfl | rfl <;> exact ⟨by decide, by decide⟩
  refine ⟨_, em, fun R nR => ⟨by omega, by omega, ?_⟩⟩
  have neR : R ≠ p := hp2.ne nR
  have k02 := x1.kp.trans k2
  refine loop_range (fun k σ H' => ∃ (v5 : Option V) (i' : Int) (ns : List Int), σ = [some (.ref p), some (.int n), some (.int i'), some (.int m), some (.ref R), v5] ∧ H' R = some (.lst (ns.map V.int)) ∧ ns.length = k ∧ (∀ j ∈ ns, i ≤ j ∧ j < i') ∧ ns.Pairwise (· < ·) ∧ i ≤ i' ∧ i' ≤ i + k * (10 ^ 9 + 1) ∧ Wl H' p ∧ Kp2 K p R (upd H2 R (.lst [])) H') ⟨_, i, [], rfl, upd_same, rfl, (fun _ h => by cases h), .nil, by omega, by omega, hp2.upd neR.symm, Kp2.refl⟩ ?_ ?_
  · rintro k σ H3 hk ⟨v5, i', ns, rfl, hR, ln, hb, pw, i3, i4, hp3, k3⟩
    try walk_at "rn"
    have hk' : k < n := by simpa using hk
    refine ⟨.inl ⟨_, SqL.of hR⟩, _, hR, by rw [List.length_map]; omega, ?_⟩
    have hR4 : (upd H3 R (.lst (ns.map V.int ++ [.int i']))) R = some (.lst ((ns ++ [i']).map V.int)) := by rw [upd_same, List.map_append]; rfl
    refine ⟨p, m, rfl, hp3.upd neR.symm, bm.1, by omega, fun d H5 d0 d1 hp5 k5 => ?_⟩
    try walk_at "rn"
    refine ⟨ns ++ [i'], k5.keep R _ hR4 neR, by rw [List.length_append, ln]; rfl, ?_, ?_, by omega, ?_, hp5, k3.trans ((Kp.r (Kp.upd hR)).trans k5.l)⟩
    · intro j hj
      rcases List.mem_append.1 hj with h | h
      · have := hb j h
        omega
      · rw [List.mem_singleton] at h
        omega
    · rw [List.pairwise_append]
      refine ⟨pw, List.pairwise_singleton _ _, fun a ha b hb' => ?_⟩
      rw [List.mem_singleton] at hb'
      have := hb a ha
      omega
    · rw [Int.natCast_add]
      omega
  · rintro σ H3 ⟨v5, i', ns, rfl, hR, ln, hb, pw, i3, i4, hp3, k3⟩
    try walk_at "rn"
    have e : (n : Int).toNat = n := rfl
    refine q R ns H3 hR ?_ ?_ pw ?_ hp3 (k02.trans (k3.kp nR))
    · simpa using ln
    · intro j hj
      have h1 := hb j hj
      rw [e] at i4
      have h2 : (n : Int) * (10 ^ 9 + 1) ≤ 60 * (10 ^ 9 + 1) := by omega
      omega
    · by_cases h : H R = none
      · exact h
      · obtain ⟨o, ho⟩ := Option.ne_none_iff_exists'.1 h
        have := k02.keep R o ho neR
        rw [nR.1] at this
        cases this
def spKeys (K : PySem.W.Frag) : Sp := fun vs H Q _ => ∃ (p : Addr) (n : Nat), vs = [.ref p, .int n] ∧ Wl H p ∧ n ≤ 60 ∧
  ∀ (r : Addr) (ns : List Int) (H' : Hp), H' r = some (.lst (ns.map V.int)) → ns.length = n → (∀ j ∈ ns, j.natAbs < 10 ^ 60) → H r = none → Wl H' p → Kp K p H H' → Q (.ref r) H'
theorem sc__law_keys : FnScope ["_law_state", "_law_many", "_law_way", "_law_first_here", "_law_keys_here"] ["_law_state", "_law_many"] (defScope s__law_keys) := ⟨rfl, rfl, rfl, by decide +kernel, rfl, by decide +kernel, by decide +kernel⟩
theorem ok__law_keys {f : Addr} {fd : FuncData} (F : Fun K "_law_keys" "_law_keys" s__law_keys f fd) (B : B K mg aG) (C__law_digit : Callee P w K mg base "_law_digit" 1 ["_law_state", "_law_base"] (spDigit K)) (C__law_rising : Callee P w K mg base "_law_rising" 2 ["_law_state", "_law_many", "_law_first_here"] (spRising K)) : FnOk P w K mg base CX0 3 f fd ["_law_state", "_law_many"] (spKeys K) := by
  refine F.okJ sc__law_keys (fun vs H Q E h => ?_) (fun cdv A outer s H vs Q E hr h => ?_)
  · obtain ⟨p, n, rfl, _⟩ := h
    rfl
  obtain ⟨p, n, rfl, hp, n60, q⟩ := h
  refine ⟨_, (bcons (sset (i := 2) sc__law_keys.nd rfl (Or.inl rfl) (ecall C__law_digit (hr.mono (by decide)) rfl (acons (ev 0) (acons ei anil))))
      (bcons (sset (i := 3) sc__law_keys.nd rfl (Or.inl rfl) (ecall C__law_digit (hr.mono (by decide)) rfl (acons (ev 0) (acons (eix ix_Q (elstQ (acons ei (acons (epowc 1000000) (acons (eop op_mul ei (epowc 100000000000)) (acons ei anil))))) (ev 2) (fun _ _ => rfl)) anil))))
      (bcons (sset (i := 4) sc__law_keys.nd rfl (Or.inl rfl) (ecall C__law_rising (hr.mono (by decide)) rfl (acons (ev 0) (acons (ev 1) (acons (ev 3) anil)))))
      (bcons (sif (tcmp op_eq (ecall C__law_digit (hr.mono (by decide)) rfl (acons (ev 0) (acons ei anil))) ei (nomark _)) (bone (sret (elc (Cap.mk (N := ["_law_key"]) (src := [none]) rfl rfl) rfl (ilist (erev (ev 4))) (fun _ _ _ _ => (gname (i := 0) (show (["_law_key"] : List Str).Nodup from by decide +kernel) rfl (Or.inl rfl))) (fun _ _ _ _ => fnone) (fun _ _ _ _ => (eop op_sub (eop op_sub (epowc 1000000000000) ei) (ev 0)))))) bnil)
      (bone (sret (ev 4))))))), ?_⟩
  try walk_at "rn"
  refine ⟨p, 4, rfl, hp, by decide, by decide, fun w H1 w0 w1 hp1 k1 => ?_⟩
  try walk_at "rn"
  intro D nD
  have x1 := Ext.new (K := K) (o := .lst [V.int 1, V.int 1000000, V.int 900000000000, V.int 10]) nD
  obtain ⟨m, hm, em⟩ := pickI [1, 10 ^ 6, 9 * 10 ^ 11, 10] (i := w) w0 w1
  have bm : 0 < m ∧ m ≤ 10 ^ 12 := by
    simp only [List.mem_cons, List.not_mem_nil, or_false] at hm
    rcases hm with rfl | rfl | rfl | rfl <;> exact ⟨by decide, by decide⟩
  refine ⟨_, em, p, m, rfl, hp1.ext x1, bm.1, by omega, fun d H2 d0 d1 hp2 k2 => ?_⟩
  try walk_at "rn"
  refine ⟨p, n, d, rfl, hp2, n60, d0, by omega, fun r ns H3 hr3 ln hb pw nr hp3 k3 => ?_⟩
  have k03 := k1.trans (x1.kp.trans (k2.trans k3))
  have nrH : H r = none := hp2.back (k1.trans (x1.kp.trans k2)) nr
  have ner : r ≠ p := fun e => by
    subst e
    rcases hp2 with ⟨_, h⟩ | ⟨_, _, _, h⟩ <;> rw [nr] at h <;> cases h
  try walk_at "rn"
  refine ⟨p, 3, rfl, hp3, by decide, by decide, fun c H4 c0 c1 hp4 k4 => ?_⟩
  have hr4 := k4.keep r _ hr3 ner
  try walk_at "rn"
  refine ite2 (fun e => ?_) (fun e => ?_)
  · try walk_at "rn"
    refine ⟨_, SqL.of hr4, fun b nb => ⟨⟨_, SqL.of upd_same⟩, fun D2 nD2 => ?_⟩⟩
    have xb := Ext.new (K := K) (o := .lst (ns.map V.int).reverse) nb
    have eb : (upd H4 b (.lst (ns.map V.int).reverse)) b = some (.lst (ns.reverse.map V.int)) := by rw [upd_same, List.map_reverse]
    have hp5 := hp4.ext xb
    have k05 := k03.trans (k4.trans xb.kp)
    refine lc_mapQ (L := ns.reverse) (f := V.int) (g := fun k => V.int (1000000000000 - 1 - k)) eb nD2 (by rw [List.length_reverse]; omega) (fun k hk H' Q' xx qq => ?_) (fun H6 hD x6 => ?_)
    · try walk_at "rn"
      exact qq
    have e2 : (ns.reverse.map fun k => V.int (1000000000000 - 1 - k)) = (ns.reverse.map fun k => 1000000000000 - 1 - k).map V.int := by rw [List.map_map]; rfl
    rw [e2] at hD
    refine q D2 _ H6 hD (by rw [List.length_map, List.length_reverse]; exact ln) ?_ (hp5.back k05 nD2.1) (hp5.ext x6) (k05.trans x6.kp)
    intro j hj
    obtain ⟨k, hk, rfl⟩ := List.mem_map.1 hj
    have := hb k (List.mem_reverse.1 hk)
    omega
  · exact q r ns H4 hr4 ln (fun j hj => by have := hb j hj; omega) nrH hp4 (k03.trans k4)
def spSome (K : PySem.W.Frag) : Sp := fun vs H Q _ => ∃ (p : Addr) (m : Int), vs = [.ref p, .int m] ∧ Wl H p ∧ 0 < m ∧ m ≤ 60 ∧ ∀ (i : Int) (H' : Hp), 0 ≤ i → i < 60 → Wl H' p → Kp K p H H' → Q (.int i) H'
theorem sc__law_some : FnScope ["_law_state", "_law_most"] ["_law_state", "_law_most"] (defScope s__law_some) := ⟨rfl, rfl, rfl, by decide +kernel, rfl, by decide +kernel, by decide +kernel⟩
theorem ok__law_some {f : Addr} {fd : FuncData} (F : Fun K "_law_some" "_law_some" s__law_some f fd) (B : B K mg aG) (C__law_digit : Callee P w K mg base "_law_digit" 1 ["_law_state", "_law_base"] (spDigit K)) : FnOk P w K mg base CX0 2 f fd ["_law_state", "_law_most"] (spSome K) := by
  refine F.okJ sc__law_some (fun vs H Q E h => ?_) (fun cdv A outer s H vs Q E hr h => ?_)
  · obtain ⟨p, m, rfl, _⟩ := h
    rfl
  obtain ⟨p, m, rfl, hp, m0, m1, q⟩ := h
  refine ⟨_, (bone (sret (ecall C__law_digit (hr.mono (by decide)) rfl (acons (ev 0) (acons (eix ix_Q (elstQ (acons ei (acons ei (acons ei (acons ei (acons ei (acons ei (acons ei (acons (ev 1) anil))))))))) (ecall C__law_digit (hr.mono (by decide)) rfl (acons (ev 0) (acons ei anil))) (fun _ _ => rfl)) anil))))), ?_⟩
  try walk_at "rn"
  intro D nD
  have x1 := Ext.new (K := K) (o := .lst [V.int 1, V.int 4, V.int 4, V.int 4, V.int 4, V.int 4, V.int 7, V.int m]) nD
  refine ⟨p, 8, rfl, hp.ext x1, by decide, by decide, fun d H2 d0 d1 hp2 k2 => ?_⟩
  simp only [tSeq, tNext, tIfS, tAsg, gName, gSub, tRet, tRetN, tDrop, tVar, tC, tOp, tUn, rI0, rI, rU, tTest, tB, tAndV, tOrV, tNotV, tAnd, tOr, tNot, tIf, tChain, tCB, tCons, tNil, tLst, tTup, tCallC, List.getElem?_cons_zero, List.getElem?_cons_succ, List.set_cons_zero, List.set_cons_succ, Option.some.injEq, V.int.injEq, V.bl.injEq, V.ref.injEq, V.ty.injEq, V.str.injEq, List.cons.injEq, exists_eq_left', exists_eq_left, exists_and_left, and_true, true_and, and_assoc, cxK, rIxF, rSetL, rEq, rNe, scal, HO.lst.injEq, HO.tup.injEq, upd_none, ixN_10, ixN_20, ixN_21, ixN_30, ixN_31, ixN_32, upd_same, seqAt_updL, seqAt_updT, atI_0, atI_1, atI_2, atI_3, decide_eq_true_eq, L2.start, List.map_cons, List.map_nil, List.length_cons, List.length_nil, Nat.reduceAdd, Nat.reduceSub, List.replicate_succ, List.replicate_zero, List.cons_append, List.nil_append, List.append_nil, tFor_rng1, tFor_rng2, tFor_list, tFor_tup, CDv, CMul, CPow, sizeLine_eq, Int.reduceLE, Int.reduceLT, Int.reducePow, Int.reduceToNat, Int.reduceAdd, Int.reduceSub, Int.reduceMul, Int.reduceNeg, Nat.reduceLeDiff, Nat.reducePow, Nat.reduceLT, Int.reduceEq, true_or, or_true, ite_true, ite_false, if_true, if_false, Bool.not_true, Bool.not_false, Bool.false_eq_true, decide_true, decide_false, rIxQ, seqQ_updL, seqQ_updT, tupQ_updT, tSl, tNoPart, tPart, rSlQ, rCatQ, tTupQ, tLstQ, tNever, rEqD, rInQ, gTupQ, gCons, gNil, tBM, tBM0, rAppend, rClear, rExtend, rPart, rSlS, rJoin, rIxS, tLRange, tDisp1, tyV, tDGet, rDClear, tRev, tFor_rng3, tLc_rng1, tLc_rng2, tLc_list, tLc_tup, pick_nil, pick_own, pick_cap, join_some, tYes, tCallKC, gk_11, gk_31, tSortDown, tDNewQ, sDPut, tLc_zipS, tLcD, seqQ_lst (k2.keep D _ upd_same (hp.ne nD))]
  obtain ⟨n, hn, en⟩ := pickI [1, 4, 4, 4, 4, 4, 7, m] (i := d) d0 d1
  have bn : 0 < n ∧ n ≤ 60 := by
    simp only [List.mem_cons, List.not_mem_nil, or_false] at hn
    rcases hn with rfl | rfl | rfl | rfl | rfl | rfl | rfl | rfl <;> omega
  exact ⟨_, en, p, n, rfl, hp2, bn.1, by omega, fun j H3 j0 j1 hp3 k3 => q _ _ j0 (by omega) hp3 (x1.kp.trans (k2.trans k3))⟩
theorem ver_step {H5 H7 : Hp} {p R t : Addr} {L : List (V × (Int × Option Int))} {i : Int} {o : Option Int} (hR7 : H7 R = some (.lst (L.map (·.1)))) (nt : new K H7 t) (hL : ∀ q ∈ L, VerAt K H7 q.1 q.2 ∧ okVer q.2) (ok : okVer (i, o)) (hp7 : Wl H7 p) (neR : R ≠ p) (k7 : Kp2 K p R H5 H7) :
    (∀ q ∈ L ++ [(V.ref t, (i, o))], VerAt K (upd (upd H7 t (.tup [.int i, oV o])) R (.lst (L.map (·.1) ++ [.ref t]))) q.1 q.2 ∧ okVer q.2) ∧ Wl (upd (upd H7 t (.tup [.int i, oV o])) R (.lst (L.map (·.1) ++ [.ref t]))) p ∧ Kp2 K p R H5 (upd (upd H7 t (.tup [.int i, oV o])) R (.lst (L.map (·.1) ++ [.ref t]))) := by
  have xt := Ext.new (K := K) (o := .tup [.int i, oV o]) nt
  have hR8 := xt.at hR7
  have kR : Kp K R _ (upd (upd H7 t (.tup [.int i, oV o])) R (.lst (L.map (·.1) ++ [.ref t]))) := Kp.upd hR8
  refine ⟨fun q hq => ?_, (hp7.ext xt).upd neR.symm, k7.trans ((xt.kp (p := p)).l.trans (Kp.r kR))⟩
  rcases List.mem_append.1 hq with h | h
  · exact ⟨((hL q h).1.ext xt).kp kR hR8, (hL q h).2⟩
  · rw [List.mem_singleton] at h
    subst h
    exact ⟨⟨t, rfl, kR.tup hR8 tupQ_updT⟩, ok⟩
def spVersions (K : PySem.W.Frag) : Sp := fun vs H Q _ => ∃ (p : Addr) (m : Int), vs = [.ref p, .int m] ∧ Wl H p ∧ 3 ≤ m ∧ m ≤ 60 ∧
  ∀ (a : Addr) (L : List (V × (Int × Option Int))) (H' : Hp), H' a = some (.lst (L.map (·.1))) → (∀ q ∈ L, VerAt K H' q.1 q.2 ∧ okVer q.2) → 0 < L.length → L.length ≤ 40 → Wl H' p → Kp K p H H' → H a = none → Q (.ref a) H'
theorem sc__law_versions : FnScope ["_law_state", "_law_most", "_law_found", "_law_many", "_law_number_here"] ["_law_state", "_law_most"] (defScope s__law_versions) := ⟨rfl, rfl, rfl, by decide +kernel, rfl, by decide +kernel, by decide +kernel⟩
theorem ok__law_versions {f : Addr} {fd : FuncData} (F : Fun K "_law_versions" "_law_versions" s__law_versions f fd) (B : B K mg aG) (C__law_digit : Callee P w K mg base "_law_digit" 1 ["_law_state", "_law_base"] (spDigit K)) (C__law_rising : Callee P w K mg base "_law_rising" 2 ["_law_state", "_law_many", "_law_first_here"] (spRising K)) (C__law_first : Callee P w K mg base "_law_first" 2 ["_law_state"] (spFirst K)) (C__law_number : Callee P w K mg base "_law_number" 2 ["_law_state"] (spNumber K)) : FnOk P w K mg base CX0 3 f fd ["_law_state", "_law_most"] (spVersions K) := by
  refine F.okJ sc__law_versions (fun vs H Q E h => ?_) (fun cdv A outer s H vs Q E hr h => ?_)
  · obtain ⟨p, m, rfl, _⟩ := h
    rfl
  obtain ⟨p, m, rfl, hp, m0, m1, q⟩ := h
  refine ⟨_, (bcons (sset (i := 2) sc__law_versions.nd rfl (Or.inl rfl) (elstQ anil))
      (bcons (sset (i := 3) sc__law_versions.nd rfl (Or.inl rfl) (eop op_add ei (ecall C__law_digit (hr.mono (by decide)) rfl (acons (ev 0) (acons (eix ix_Q (elstQ (acons ei (acons ei (acons ei (acons (eop op_fdivP (ev 1) ei) anil))))) (ecall C__law_digit (hr.mono (by decide)) rfl (acons (ev 0) (acons ei anil))) (fun _ _ => rfl)) anil)))))
      (bcons (sfor PassesOwn.never rfl (ilist (ecall C__law_rising (hr.mono (by decide)) rfl (acons (ev 0) (acons (ev 3) (acons (ecall C__law_first (hr.mono (by decide)) rfl (acons (ev 0) anil)) anil))))) (gname (i := 4) sc__law_versions.nd rfl (Or.inl rfl))
        (bone (sif (tcmp op_eq (ecall C__law_digit (hr.mono (by decide)) rfl (acons (ev 0) (acons ei anil))) ei (nomark _)) (bone (sexpr (ebm PySem.F.plainAttrs_list PySem.F.slot_list_append PySem.F.type_list_append mt_append (ev 2) (acons (etupQ (acons (ev 4) (acons enon anil))) anil)))) (bone (sexpr (ebm PySem.F.plainAttrs_list PySem.F.slot_list_append PySem.F.type_list_append mt_append (ev 2) (acons (etupQ (acons (ev 4) (acons (ecall C__law_number (hr.mono (by decide)) rfl (acons (ev 0) anil)) anil))) anil)))))))
      (bone (sret (ev 2)))))), ?_⟩
  try walk_at "rn"
  intro R nR D nD
  have xR := Ext.new (K := K) (o := .lst []) nR
  have x1 := Ext.new (K := K) (o := .lst [V.int 1, V.int 2, V.int 3, V.int (m / 3)]) nD
  have hpR := hp.ext xR
  have neR : R ≠ p := hp.ne nR
  refine ⟨p, 4, rfl, hpR.ext x1, by decide, by decide, fun d H2 d0 d1 hp2 k2 => ?_⟩
  simp only [tSeq, tNext, tIfS, tAsg, gName, gSub, tRet, tRetN, tDrop, tVar, tC, tOp, tUn, rI0, rI, rU, tTest, tB, tAndV, tOrV, tNotV, tAnd, tOr, tNot, tIf, tChain, tCB, tCons, tNil, tLst, tTup, tCallC, List.getElem?_cons_zero, List.getElem?_cons_succ, List.set_cons_zero, List.set_cons_succ, Option.some.injEq, V.int.injEq, V.bl.injEq, V.ref.injEq, V.ty.injEq, V.str.injEq, List.cons.injEq, exists_eq_left', exists_eq_left, exists_and_left, and_true, true_and, and_assoc, cxK, rIxF, rSetL, rEq, rNe, scal, HO.lst.injEq, HO.tup.injEq, upd_none, ixN_10, ixN_20, ixN_21, ixN_30, ixN_31, ixN_32, upd_same, seqAt_updL, seqAt_updT, atI_0, atI_1, atI_2, atI_3, decide_eq_true_eq, L2.start, List.map_cons, List.map_nil, List.length_cons, List.length_nil, Nat.reduceAdd, Nat.reduceSub, List.replicate_succ, List.replicate_zero, List.cons_append, List.nil_append, List.append_nil, tFor_rng1, tFor_rng2, tFor_list, tFor_tup, CDv, CMul, CPow, sizeLine_eq, Int.reduceLE, Int.reduceLT, Int.reducePow, Int.reduceToNat, Int.reduceAdd, Int.reduceSub, Int.reduceMul, Int.reduceNeg, Nat.reduceLeDiff, Nat.reducePow, Nat.reduceLT, Int.reduceEq, true_or, or_true, ite_true, ite_false, if_true, if_false, Bool.not_true, Bool.not_false, Bool.false_eq_true, decide_true, decide_false, rIxQ, seqQ_updL, seqQ_updT, tupQ_updT, tSl, tNoPart, tPart, rSlQ, rCatQ, tTupQ, tLstQ, tNever, rEqD, rInQ, gTupQ, gCons, gNil, tBM, tBM0, rAppend, rClear, rExtend, rPart, rSlS, rJoin, rIxS, tLRange, tDisp1, tyV, tDGet, rDClear, tRev, tFor_rng3, tLc_rng1, tLc_rng2, tLc_list, tLc_tup, pick_nil, pick_own, pick_cap, join_some, tYes, tCallKC, gk_11, gk_31, tSortDown, tDNewQ, sDPut, tLc_zipS, tLcD, seqQ_lst (k2.keep D _ upd_same (hpR.ne nD))]
  obtain ⟨c, hc, ec⟩ := pickI [1, 2, 3, m / 3] (i := d) d0 d1
  have bc : 0 < c ∧ c ≤ 20 := by
    simp only [List.mem_cons, List.not_mem_nil, or_false] at hc
    rcases hc with rfl | rfl | rfl | rfl <;> omega
  refine ⟨_, ec, p, c, rfl, hp2, bc.1, by omega, fun j H3 j0 j1 hp3 k3 => ?_⟩
  try walk_at "rn"
  refine ⟨p, rfl, hp3, fun i H4 i0 i1 hp4 k4 => ?_⟩
  obtain ⟨n, en⟩ := Int.eq_ofNat_of_zero_le (a := 1 + j) (by omega)
  refine ⟨p, n, i, by rw [en], hp4, by omega, i0, i1, fun a ns H5 ha ln hb pw na hp5 k5 => ?_⟩
  have k15 := x1.kp.trans (k2.trans (k3.trans (k4.trans k5)))
  have hR5 : H5 R = some (.lst []) := k15.keep R _ upd_same neR
  try walk_at "rn"
  refine ⟨⟨_, SqL.of ha⟩, ?_⟩
  have neaR : a ≠ R := fun e => by
    subst e
    have := (k2.trans (k3.trans k4)).keep a _ (x1.at upd_same) neR
    rw [na] at this
    cases this
  have neap : a ≠ p := fun e => by
    subst e
    obtain ⟨xs, hx⟩ := hp4.lst
    rw [na] at hx
    cases hx
  refine loop_list (xs := ns.map V.int) (fun k σ H' => ∃ (v4 : Option V) (L : List (V × (Int × Option Int))), σ = [some (.ref p), some (.int m), some (.ref R), some (.int (1 + j)), v4] ∧ H' R = some (.lst (L.map (·.1))) ∧ L.length = k ∧ (∀ q ∈ L, VerAt K H' q.1 q.2 ∧ okVer q.2) ∧ Wl H' p ∧ Kp2 K p R H5 H') ⟨_, [], rfl, hR5, rfl, (fun _ h => by cases h), hp5, Kp2.refl⟩ ?_ ?_ ?_
  · rintro k σ H' _ ⟨_, _, _, _, _, _, _, kk⟩
    exact SqL.of (kk.keep a _ ha neap neaR)
  · rintro k x σ H' hx ⟨v4, L, rfl, hR, lL, hL, hp6, k6⟩
    rw [List.getElem?_map] at hx
    obtain ⟨i', hi', rfl⟩ := Option.map_eq_some_iff.mp hx
    have hk : k < ns.length := (List.getElem?_eq_some_iff.1 hi').1
    have bi := hb i' (List.mem_of_getElem? hi')
    try walk_at "rn"
    refine ⟨p, 3, rfl, hp6, by decide, by decide, fun c H7 c0 c1 hp7 k7 => ?_⟩
    have hR7 := k7.keep R _ hR neR
    obtain ⟨xs6, hx6⟩ := hp6.lst
    try walk_at "rn"
    refine ite2 (fun _ => ?_) (fun _ => ?_)
    · refine ⟨.inl ⟨_, SqL.of hR7⟩, fun t nt => ?_⟩
      have xt := Ext.new (K := K) (o := .tup [.int i', .non]) nt
      obtain ⟨a1, a2, a3⟩ := ver_step (K := K) (i := i') (o := none) hR7 nt (fun q hq => ⟨(hL q hq).1.kp k7 hx6, (hL q hq).2⟩) ⟨by show i'.natAbs < _; omega, fun _ h => by cases h⟩ hp7 neR (k6.trans k7.l)
      exact ⟨_, xt.at hR7, by rw [List.length_map]; omega, L ++ [(V.ref t, (i', none))], by rw [List.map_append]; rfl, by rw [List.length_append, lL]; rfl, a1, a2, a3⟩
    · refine ⟨.inl ⟨_, SqL.of hR7⟩, p, rfl, hp7, fun j8 H8 b8 hp8 k8 t nt => ?_⟩
      have hR8 := k8.keep R _ hR7 neR
      obtain ⟨xs7, hx7⟩ := hp7.lst
      have xt := Ext.new (K := K) (o := .tup [.int i', .int j8]) nt
      obtain ⟨a1, a2, a3⟩ := ver_step (K := K) (i := i') (o := some j8) hR8 nt (fun q hq => ⟨((hL q hq).1.kp k7 hx6).kp k8 hx7, (hL q hq).2⟩) ⟨by show i'.natAbs < _; omega, fun i h => by injection h with h; omega⟩ hp8 neR ((k6.trans k7.l).trans k8.l)
      exact ⟨R, rfl, _, xt.at hR8, by rw [List.length_map]; omega, L ++ [(V.ref t, (i', some j8))], by rw [upd_same, List.map_append]; rfl, by rw [List.length_append, lL]; rfl, a1, a2, a3⟩
  · rintro σ H' ⟨v4, L, rfl, hR, lL, hL, hp6, k6⟩
    try walk_at "rn"
    rw [List.length_map] at lL
    exact q R L H' hR hL (by omega) (by omega) hp6 ((k15.l.trans k6).kp nR) nR.1
end
section
variable {P : Program} {w : World} {K : PySem.W.Frag} {mg : Str → Option Value} {base : Heap} {aG : Addr}
def spLNote (K : PySem.W.Frag) : Sp := fun vs H Q _ => ∃ p, vs = [.ref p] ∧ Wl H p ∧ ∀ (v : V) (e : Nt) (H' : Hp), NoteAt K H' v e → e.ok → Wl H' p → Kp K p H H' → Q v H'
theorem sc__law_note : FnScope ["_law_state", "_law_low", "_law_way", "_law_high", "_law_word", "_law_there", "_law_none"] ["_law_state"] (defScope s__law_note) := ⟨rfl, rfl, rfl, by decide +kernel, rfl, by decide +kernel, by decide +kernel⟩
theorem ok__law_note {f : Addr} {fd : FuncData} (F : Fun K "_law_note" "_law_note" s__law_note f fd) (B : B K mg aG) (C__law_digit : Callee P w K mg base "_law_digit" 1 ["_law_state", "_law_base"] (spDigit K)) (C__law_first : Callee P w K mg base "_law_first" 2 ["_law_state"] (spFirst K)) (C__law_number : Callee P w K mg base "_law_number" 2 ["_law_state"] (spNumber K)) : FnOk P w K mg base CX0 3 f fd ["_law_state"] (spLNote K) := by
  refine F.okJ sc__law_note (fun vs H Q E h => ?_) (fun cdv A outer s H vs Q E hr h => ?_)
  · obtain ⟨p, rfl, _⟩ := h
    rfl
  obtain ⟨p, rfl, hp, q⟩ := h
  refine ⟨_, (bcons (sset (i := 1) sc__law_note.nd rfl (Or.inl rfl) (ecall C__law_digit (hr.mono (by decide)) rfl (acons (ev 0) (acons (eix ix_Q (elstQ (acons ei (acons ei (acons (epowc 1000000000000) anil)))) (ecall C__law_digit (hr.mono (by decide)) rfl (acons (ev 0) (acons ei anil))) (fun _ _ => rfl)) anil))))
      (bcut (sif (tcmp op_eq (ecall C__law_digit (hr.mono (by decide)) rfl (acons (ev 0) (acons ei anil))) ei (nomark _)) (bone (sset (i := 1) sc__law_note.nd rfl (Or.inl rfl) (eop op_sub (eop op_sub (epowc 1000000000000) ei) (ev 1)))) bnil)
      (bcons (sset (i := 2) sc__law_note.nd rfl (Or.inl rfl) (ecall C__law_digit (hr.mono (by decide)) rfl (acons (ev 0) (acons ei anil))))
      (bcons (sset (i := 3) sc__law_note.nd rfl (Or.inl rfl) (eix ix_Q (elstQ (acons (eop op_add (ev 1) ei) (acons (epowc 1000000000000) (acons (eop op_add (ev 1) ei) anil)))) (ev 2) (fun _ _ => rfl)))
      (bcut (sif (tcmp op_eq (ev 2) ei (nomark _)) (bone (sset (i := 3) sc__law_note.nd rfl (Or.inl rfl) (eop op_add (ev 3) (ecall C__law_digit (hr.mono (by decide)) rfl (acons (ev 0) (acons (eop op_sub (epowc 1000000000000) (ev 1)) anil)))))) bnil)
      (bcons (sset (i := 4) sc__law_note.nd rfl (Or.inl rfl) (eix ix_Q (elstQ (acons estr (acons estr (acons estr anil)))) (ecall C__law_digit (hr.mono (by decide)) rfl (acons (ev 0) (acons ei anil))) (fun _ _ => rfl)))
      (bcons (sset (i := 5) sc__law_note.nd rfl (Or.inl rfl) (eix ix_Q (elstQ (acons (etupQ (acons (ev 4) (acons (ecall C__law_number (hr.mono (by decide)) rfl (acons (ev 0) anil)) anil))) (acons (etupQ (acons estr anil)) anil))) (ecallTy call_intB rfl B.int bt_int (acons (ecmp op_eq (ev 4) estr (nomark _)) anil)) (fun _ _ => rfl)))
      (bcons (sset (i := 6) sc__law_note.nd rfl (Or.inl rfl) (etupQ (acons estr anil)))
      (bcut (sif (tw (wand (tcmp op_eq (eop op_sub (ev 3) (ev 1)) ei (nomark _)) (wand1 (tcmp op_eq (ecall C__law_digit (hr.mono (by decide)) rfl (acons (ev 0) (acons ei anil))) ei (nomark _))))) (bone (sset (i := 6) sc__law_note.nd rfl (Or.inl rfl) (etupQ (acons estr (acons (ecall C__law_number (hr.mono (by decide)) rfl (acons (ev 0) anil)) anil))))) bnil)
      (bone (sret (etupQ (acons (eop op_add ei (ecall C__law_first (hr.mono (by decide)) rfl (acons (ev 0) anil))) (acons (ev 1) (acons (ev 3) (acons (etupQ (acons (ev 5) (acons (ev 6) anil))) anil)))))))))))))))), ?_⟩
  try walk_at "rn"
  intro D nD
  have x1 := Ext.new (K := K) (o := .lst [V.int 1, V.int 10, V.int 1000000000000]) nD
  refine ⟨p, 3, rfl, hp.ext x1, by decide, by decide, fun d H2 d0 d1 hp2 k2 => ?_⟩
  simp only [tSeq, tNext, tIfS, tAsg, gName, gSub, tRet, tRetN, tDrop, tVar, tC, tOp, tUn, rI0, rI, rU, tTest, tB, tAndV, tOrV, tNotV, tAnd, tOr, tNot, tIf, tChain, tCB, tCons, tNil, tLst, tTup, tCallC, List.getElem?_cons_zero, List.getElem?_cons_succ, List.set_cons_zero, List.set_cons_succ, Option.some.injEq, V.int.injEq, V.bl.injEq, V.ref.injEq, V.ty.injEq, V.str.injEq, List.cons.injEq, exists_eq_left', exists_eq_left, exists_and_left, and_true, true_and, and_assoc, cxK, rIxF, rSetL, rEq, rNe, scal, HO.lst.injEq, HO.tup.injEq, upd_none, ixN_10, ixN_20, ixN_21, ixN_30, ixN_31, ixN_32, upd_same, seqAt_updL, seqAt_updT, atI_0, atI_1, atI_2, atI_3, decide_eq_true_eq, L2.start, List.map_cons, List.map_nil, List.length_cons, List.length_nil, Nat.reduceAdd, Nat.reduceSub, List.replicate_succ, List.replicate_zero, List.cons_append, List.nil_append, List.append_nil, tFor_rng1, tFor_rng2, tFor_list, tFor_tup, CDv, CMul, CPow, sizeLine_eq, Int.reduceLE, Int.reduceLT, Int.reducePow, Int.reduceToNat, Int.reduceAdd, Int.reduceSub, Int.reduceMul, Int.reduceNeg, Nat.reduceLeDiff, Nat.reducePow, Nat.reduceLT, Int.reduceEq, true_or, or_true, ite_true, ite_false, if_true, if_false, Bool.not_true, Bool.not_false, Bool.false_eq_true, decide_true, decide_false, rIxQ, seqQ_updL, seqQ_updT, tupQ_updT, tSl, tNoPart, tPart, rSlQ, rCatQ, tTupQ, tLstQ, tNever, rEqD, rInQ, gTupQ, gCons, gNil, tBM, tBM0, rAppend, rClear, rExtend, rPart, rSlS, rJoin, rIxS, tLRange, tDisp1, tyV, tDGet, rDClear, tRev, tFor_rng3, tLc_rng1, tLc_rng2, tLc_list, tLc_tup, pick_nil, pick_own, pick_cap, join_some, tYes, tCallKC, gk_11, gk_31, tSortDown, tDNewQ, sDPut, tLc_zipS, tLcD, seqQ_lst (k2.keep D _ upd_same (hp.ne nD))]
  obtain ⟨c, hc, ec⟩ := pickI [1, 10, 10 ^ 12] (i := d) d0 d1
  have bc : 0 < c ∧ c ≤ 10 ^ 12 := by
    simp only [List.mem_cons, List.not_mem_nil, or_false] at hc
    rcases hc with rfl | rfl | rfl <;> exact ⟨by decide, by decide⟩
  refine ⟨_, ec, p, c, rfl, hp2, bc.1, by omega, fun lo H3 l0 l1 hp3 k3 => ?_⟩
  have k03 := x1.kp.trans (k2.trans k3)
  obtain ⟨J, eJ⟩ : ∃ J : St → Hp → Prop, J = fun σ1 G1 => ∃ lo : Int, σ1 = [some (.ref p), some (.int lo), none, none, none, none, none] ∧ 0 ≤ lo ∧ lo < 10 ^ 12 ∧ Wl G1 p ∧ Kp K p H G1 := ⟨_, rfl⟩
  refine ⟨J, ?_, ?_⟩
  · try walk_at "rn"
    refine ⟨p, 2, rfl, hp3, by decide, by decide, fun r H4 r0 r1 hp4 k4 => ?_⟩
    try walk_at "rn"
    refine ite2 (fun c => ?_) (fun c => ?_)
    · rw [eJ]
      exact ⟨_, rfl, by omega, by omega, hp4, k03.trans k4⟩
    · rw [eJ]
      exact ⟨_, rfl, by omega, by omega, hp4, k03.trans k4⟩
  clear k03 l0 l1 hp3 k3
  intro σ1 G1 h
  rw [eJ] at h
  clear eJ
  obtain ⟨lo, rfl, l0, l1, hp3, k03⟩ := h
  try walk_at "rn"
  refine ⟨p, 3, rfl, hp3, by decide, by decide, fun way H4 w0 w1 hp4 k4 => ?_⟩
  try walk_at "rn"
  intro D2 nD2
  have x5 := Ext.new (K := K) (o := .lst [V.int (lo + 1), V.int 1000000000000, V.int (lo + 1)]) nD2
  obtain ⟨hi, hh, eh⟩ := pickI [lo + 1, 10 ^ 12, lo + 1] (i := way) w0 w1
  have bh : lo < hi ∧ hi ≤ 10 ^ 12 := by
    simp only [List.mem_cons, List.not_mem_nil, or_false] at hh
    rcases hh with rfl | rfl | rfl <;> omega
  refine ⟨_, eh, ?_⟩
  have hp5 := hp4.ext x5
  have k05 := k03.trans (k4.trans x5.kp)
  obtain ⟨J, eJ⟩ : ∃ J : St → Hp → Prop, J = fun σ1 G1 => ∃ hi : Int, σ1 = [some (.ref p), some (.int lo), some (.int way), some (.int hi), none, none, none] ∧ lo < hi ∧ hi ≤ 10 ^ 13 ∧ Wl G1 p ∧ Kp K p H G1 := ⟨_, rfl⟩
  refine ⟨J, ?_, ?_⟩
  · try walk_at "rn"
    refine ite2 (fun c => ?_) (fun c => ?_)
    · refine ⟨p, _, rfl, hp5, by omega, by omega, fun r H6 r0 r1 hp6 k6 => ?_⟩
      try walk_at "rn"
      rw [eJ]
      exact ⟨_, rfl, by omega, by omega, hp6, k05.trans k6⟩
    · rw [eJ]
      exact ⟨_, rfl, by omega, by omega, hp5, k05⟩
  clear bh hh eh
  intro σ1 G1 h
  rw [eJ] at h
  clear eJ
  obtain ⟨hi, rfl, h0, h1, hp6, k06⟩ := h
  try walk_at "rn"
  intro Dw nDw
  have xw := Ext.new (K := K) (o := .lst [V.str (Str.ofString "plus"), V.str (Str.ofString "is"), V.str (Str.ofString "gone")]) nDw
  refine ⟨p, 3, rfl, hp6.ext xw, by decide, by decide, fun r H7 r0 r1 hp7 k7 => ?_⟩
  simp only [tSeq, tNext, tIfS, tAsg, gName, gSub, tRet, tRetN, tDrop, tVar, tC, tOp, tUn, rI0, rI, rU, tTest, tB, tAndV, tOrV, tNotV, tAnd, tOr, tNot, tIf, tChain, tCB, tCons, tNil, tLst, tTup, tCallC, List.getElem?_cons_zero, List.getElem?_cons_succ, List.set_cons_zero, List.set_cons_succ, Option.some.injEq, V.int.injEq, V.bl.injEq, V.ref.injEq, V.ty.injEq, V.str.injEq, List.cons.injEq, exists_eq_left', exists_eq_left, exists_and_left, and_true, true_and, and_assoc, cxK, rIxF, rSetL, rEq, rNe, scal, HO.lst.injEq, HO.tup.injEq, upd_none, ixN_10, ixN_20, ixN_21, ixN_30, ixN_31, ixN_32, upd_same, seqAt_updL, seqAt_updT, atI_0, atI_1, atI_2, atI_3, decide_eq_true_eq, L2.start, List.map_cons, List.map_nil, List.length_cons, List.length_nil, Nat.reduceAdd, Nat.reduceSub, List.replicate_succ, List.replicate_zero, List.cons_append, List.nil_append, List.append_nil, tFor_rng1, tFor_rng2, tFor_list, tFor_tup, CDv, CMul, CPow, sizeLine_eq, Int.reduceLE, Int.reduceLT, Int.reducePow, Int.reduceToNat, Int.reduceAdd, Int.reduceSub, Int.reduceMul, Int.reduceNeg, Nat.reduceLeDiff, Nat.reducePow, Nat.reduceLT, Int.reduceEq, true_or, or_true, ite_true, ite_false, if_true, if_false, Bool.not_true, Bool.not_false, Bool.false_eq_true, decide_true, decide_false, rIxQ, seqQ_updL, seqQ_updT, tupQ_updT, tSl, tNoPart, tPart, rSlQ, rCatQ, tTupQ, tLstQ, tNever, rEqD, rInQ, gTupQ, gCons, gNil, tBM, tBM0, rAppend, rClear, rExtend, rPart, rSlS, rJoin, rIxS, tLRange, tDisp1, tyV, tDGet, rDClear, tRev, tFor_rng3, tLc_rng1, tLc_rng2, tLc_list, tLc_tup, pick_nil, pick_own, pick_cap, join_some, tYes, tCallKC, gk_11, gk_31, tSortDown, tDNewQ, sDPut, tLc_zipS, tLcD, seqQ_lst (k7.keep Dw _ upd_same (hp6.ne nDw))]
  obtain ⟨v, ev, mv⟩ := atI_in (xs := [V.str (Str.ofString "plus"), V.str (Str.ofString "is"), V.str (Str.ofString "gone")]) r0 r1
  refine ⟨_, ev, p, rfl, hp7, fun n H8 nb hp8 k8 b1 n1 b2 n2 b3 n3 => ?_⟩
  have y1 := Ext.new (K := K) (o := .tup [v, .int n]) n1
  have y2 := Ext.new (K := K) (o := .tup [V.str (Str.ofString "gone")]) n2
  have y3 := Ext.new (K := K) (o := .lst [V.ref b1, V.ref b2]) n3
  have t1 : tupQ K (upd (upd (upd H8 b1 (.tup [v, .int n])) b2 (.tup [V.str (Str.ofString "gone")])) b3 (.lst [V.ref b1, V.ref b2])) b1 = some [v, .int n] := (y2.trans y3).tup tupQ_updT
  have t2 : tupQ K (upd (upd (upd H8 b1 (.tup [v, .int n])) b2 (.tup [V.str (Str.ofString "gone")])) b3 (.lst [V.ref b1, V.ref b2])) b2 = some [V.str (Str.ofString "gone")] := y3.tup tupQ_updT
  have hp9 := hp8.ext (y1.trans (y2.trans y3))
  have k09 := k06.trans (xw.kp.trans (k7.trans (k8.trans (y1.trans (y2.trans y3)).kp)))
  have g1 : ¬ (V.str (Str.ofString "plus") = V.str (Str.ofString "gone")) := by decide +kernel
  have g2 : ¬ (V.str (Str.ofString "is") = V.str (Str.ofString "gone")) := by decide +kernel
  obtain ⟨u, th, e1, e2, e3, e4⟩ : ∃ (u : Addr) (th : Half), scal v (V.str (Str.ofString "gone")) = true ∧ atI [V.ref b1, V.ref b2] (if v = V.str (Str.ofString "gone") then 1 else 0) = some (.ref u) ∧ tupQ K (upd (upd (upd H8 b1 (.tup [v, .int n])) b2 (.tup [V.str (Str.ofString "gone")])) b3 (.lst [V.ref b1, V.ref b2])) u = some th.v ∧ th.ok := by
    simp only [List.mem_cons, List.not_mem_nil, or_false] at mv
    rcases mv with rfl | rfl | rfl
    · exact ⟨b1, .plus n, rfl, by rw [if_neg g1]; rfl, t1, by show n.natAbs < _; omega⟩
    · exact ⟨b1, .is n, rfl, by rw [if_neg g2]; rfl, t1, by show n.natAbs < _; omega⟩
    · exact ⟨b2, .gone, rfl, by rw [if_pos rfl]; rfl, t2, trivial⟩
  generalize upd (upd (upd H8 b1 (.tup [v, .int n])) b2 (.tup [V.str (Str.ofString "gone")])) b3 (.lst [V.ref b1, V.ref b2]) = H9 at hp9 k09 e3 ⊢
  clear t1 t2 y1 y2 y3 n1 n2 n3
  refine ⟨e1, _, e2, fun b5 n5 => ?_⟩
  have y5 := Ext.new (K := K) (o := .tup [V.str (Str.ofString "gone")]) n5
  have hpA := hp9.ext y5
  have k0A := k09.trans y5.kp
  have e5 := y5.tup e3
  have e6 : tupQ K (upd H9 b5 (.tup [V.str (Str.ofString "gone")])) b5 = some [V.str (Str.ofString "gone")] := tupQ_updT
  generalize upd H9 b5 (.tup [V.str (Str.ofString "gone")]) = HA at hpA k0A e5 e6 ⊢
  obtain ⟨J, eJ⟩ : ∃ J : St → Hp → Prop, J = fun σ1 G1 => ∃ (s : Addr) (m : Half), σ1 = [some (.ref p), some (.int lo), some (.int way), some (.int hi), some v, some (.ref u), some (.ref s)] ∧ tupQ K G1 u = some th.v ∧ tupQ K G1 s = some m.v ∧ m.ok ∧ Wl G1 p ∧ Kp K p H G1 := ⟨_, rfl⟩
  refine ⟨J, ?_, ?_⟩
  · try walk_at "rn"
    obtain ⟨xsA, hxA⟩ := hpA.lst
    refine ite2 (fun c => ?_) (fun c => ?_)
    · refine ⟨p, 2, rfl, hpA, by decide, by decide, fun r HB r0 r1 hpB kB => ?_⟩
      try walk_at "rn"
      obtain ⟨xsB, hxB⟩ := hpB.lst
      refine ite2 (fun c => ?_) (fun c => ?_)
      · refine ⟨p, rfl, hpB, fun i HC ib hpC kC b nb => ?_⟩
        have xb := Ext.new (K := K) (o := .tup [V.str (Str.ofString "is"), .int i]) nb
        rw [eJ]
        exact ⟨b, .is i, rfl, xb.tup (kC.tup hxB (kB.tup hxA e5)), tupQ_updT, by show i.natAbs < _; omega, hpC.ext xb, k0A.trans (kB.trans (kC.trans xb.kp))⟩
      · rw [eJ]
        exact ⟨b5, .gone, rfl, kB.tup hxA e5, kB.tup hxA e6, trivial, hpB, k0A.trans kB⟩
    · rw [eJ]
      exact ⟨b5, .gone, rfl, e5, e6, trivial, hpA, k0A⟩
  intro σ1 G1 h
  rw [eJ] at h
  clear eJ
  obtain ⟨s', m, rfl, f1, f2, f3, hpB, k0B⟩ := h
  try walk_at "rn"
  refine ⟨p, rfl, hpB, fun i HC i0 i1 hpC kC => ?_⟩
  try walk_at "rn"
  intro b nb b' nb'
  obtain ⟨xsB, hxB⟩ := hpB.lst
  have z1 := Ext.new (K := K) (o := .tup [V.ref u, V.ref s']) nb
  have z2 := Ext.new (K := K) (o := .tup [V.int (1 + i), V.int lo, V.int hi, V.ref b]) nb'
  refine q _ ⟨1 + i, lo, hi, th, m⟩ _ ⟨b', b, u, s', rfl, tupQ_updT, z2.tup tupQ_updT, (z1.trans z2).tup (kC.tup hxB f1), (z1.trans z2).tup (kC.tup hxB f2)⟩ ⟨?_, ?_, ?_, e4, f3⟩ (hpC.ext (z1.trans z2)) (k0B.trans (kC.trans (z1.trans z2).kp))
  · show (1 + i).natAbs < _
    omega
  · show lo.natAbs < _
    omega
  · show hi.natAbs < _
    omega
theorem s6 : ¬ (("plus" : Str) = "gone") := by decide +kernel
theorem s7 : ¬ (("is" : Str) = "gone") := by decide +kernel
theorem s8 : ¬ (V.str (Str.ofString "is") = V.str (Str.ofString "plus")) := by decide +kernel
theorem strs_all {K : PySem.W.Frag} {H : Hp} : ∀ (ts : List Str), IsAll K H (ts.map PyData.str) (ts.map V.str)
  | [] => by simp only [List.map_nil, IsAll]
  | k :: ks => by simp only [List.map_cons, IsAll]; exact ⟨_, _, rfl, by simp only [Is], strs_all ks⟩
theorem strs_is {K : PySem.W.Frag} {H : Hp} {r : Addr} {ts : List Str} (h : H r = some (.lst (ts.map V.str))) : Is K H (.list (ts.map PyData.str)) (.ref r) := by
  simp only [Is]
  exact ⟨r, _, rfl, SqL.of h, strs_all ts⟩
def okS (t : Str) : Prop := PyData.strOk t = true
theorem okS_of (s : String) : okS (Str.ofString s) := by
  unfold okS PyData.strOk
  rw [Str.ofString_eq_toList]
  simp only [List.all_toArray, List.all_map, List.all_eq_true, Function.comp, decide_eq_true_eq]
  intro c _
  have := c.valid
  rcases this with h | ⟨_, h⟩
  · exact Nat.lt_trans h (by decide)
  · exact h
theorem okS_app {a b : Str} (ha : okS a) (hb : okS b) : okS (a ++ b) := by
  unfold okS PyData.strOk at *
  rw [Str.cps_append, Array.all_append, ha, hb]
  rfl
theorem okS_join {sep : Str} (h0 : okS sep) : ∀ (ts : List Str), (∀ t ∈ ts, okS t) → okS (Str.join sep ts)
  | [], _ => by unfold okS Str.join; decide +kernel
  | [x], h => h x List.mem_cons_self
  | x :: y :: r, h => okS_app (okS_app (h x List.mem_cons_self) h0) (okS_join h0 (y :: r) fun t m => h t (List.mem_cons_of_mem _ m))
theorem okS_list {sep : Str} (h0 : okS sep) (ts : List Str) (h : ∀ t ∈ ts, okS t) : okS (listT sep ts) := by
  unfold listT
  split
  · exact okS_of _
  · exact okS_join h0 ts h
theorem okS_num (i : Int) : okS (numT i) := okS_of _
theorem strs_lay : ∀ (ts : List Str), (∀ t ∈ ts, okS t) → PyData.canLayAll0 (ts.map PyData.str) = true ∧ PyData.depthAll (ts.map PyData.str) ≤ 2
  | [], _ => by simp [PyData.canLayAll0, PyData.depthAll]
  | k :: ks, h => by
    have ih := strs_lay ks fun t m => h t (List.mem_cons_of_mem _ m)
    simp only [List.map_cons, PyData.canLayAll0, PyData.depthAll, ih.1, PyData.canLay0, PyData.depth, Bool.and_true]
    exact ⟨h k List.mem_cons_self, Nat.max_le.mpr ⟨by decide, ih.2⟩⟩
theorem strs_shaped (ts : List Str) (ok : ∀ t ∈ ts, okS t) : SeqAt.shaped (.list (ts.map PyData.str)) = true := by
  have h := strs_lay ts ok
  have e : (PyData.list (ts.map PyData.str)).depth = PyData.depthAll (ts.map PyData.str) + 1 := by simp only [PyData.depth]
  simp only [SeqAt.shaped, PyData.canLay0, h.1, Bool.true_and, decide_eq_true_eq]
  rw [e]
  omega
theorem strs_bare (ts : List Str) : PyData.eqv (.list (ts.map PyData.str)) (.list []) = decide (ts = []) := by
  cases ts with
  | nil => rfl
  | cons p ws => simp [PyData.eqv, PyData.eqvAll]
theorem bareL_is {K : PySem.W.Frag} {H : Hp} {r : Addr} (h : H r = some (.lst [])) : Is K H (.list []) (.ref r) := by
  simp only [Is, IsAll]
  exact ⟨r, _, rfl, SqL.of h, rfl⟩
def spLHalf (K : PySem.W.Frag) : Sp := fun vs H Q _ => ∃ u h, vs = [u] ∧ HalfAt K H u h ∧ h.ok ∧ ∀ H', Ext K H H' → Q (.str h.t) H'
def spLLine (K : PySem.W.Frag) : Sp := fun vs H Q _ => ∃ (p : Addr) (sep : Str) (ts : List Str) (m : Nat), vs = [.ref p, .str sep] ∧ H p = some (.lst (ts.map V.str)) ∧ sep.length = 1 ∧ (∀ t ∈ ts, t.length ≤ m) ∧ (∀ t ∈ ts, okS t) ∧ ts.length * (m + 1) ≤ 1000000 ∧ ∀ H', Ext K H H' → Q (.str (listT sep ts)) H'
theorem sc__law_half : FnScope ["_law_half_here"] ["_law_half_here"] (defScope s__law_half) := ⟨rfl, rfl, rfl, by decide +kernel, rfl, by decide +kernel, by decide +kernel⟩
theorem ok__law_half {f : Addr} {fd : FuncData} (F : Fun K "_law_half" "_law_half" s__law_half f fd) (B : B K mg aG) : FnOk P w K mg base CX0 1 f fd ["_law_half_here"] (spLHalf K) := by
  refine F.okJ sc__law_half (fun vs H Q E h => ?_) (fun cdv A outer s H vs Q E hr h => ?_)
  · obtain ⟨u, h, rfl, _⟩ := h
    rfl
  obtain ⟨u, h, rfl, ⟨t, rfl, ht⟩, ok, q⟩ := h
  refine ⟨_, (bcons (sif (tcmp op_eq (eix ix_Q (ev 0) ei (fun _ _ => rfl)) estr (nomark _)) (bone (sret estr)) bnil)
      (bone (sret (eop op_add_str (eix ix_Q (elstQ (acons estr (acons estr anil))) (ecallTy call_intB rfl B.int bt_int (acons (ecmp op_eq (eix ix_Q (ev 0) ei (fun _ _ => rfl)) estr (nomark _)) anil)) (fun _ _ => rfl)) (ecallTy call_str_int rfl B.str bt_str (acons (eix ix_Q (ev 0) ei (fun _ _ => rfl)) anil)))))), ?_⟩
  cases h with
  | plus n =>
    simp only [tSeq, tNext, tIfS, tAsg, gName, gSub, tRet, tRetN, tDrop, tVar, tC, tOp, tUn, rI0, rI, rU, tTest, tB, tAndV, tOrV, tNotV, tAnd, tOr, tNot, tIf, tChain, tCB, tCons, tNil, tLst, tTup, tCallC, List.getElem?_cons_zero, List.getElem?_cons_succ, List.set_cons_zero, List.set_cons_succ, Option.some.injEq, V.int.injEq, V.bl.injEq, V.ref.injEq, V.ty.injEq, V.str.injEq, List.cons.injEq, exists_eq_left', exists_eq_left, exists_and_left, and_true, true_and, and_assoc, cxK, rIxF, rSetL, rEq, rNe, scal, HO.lst.injEq, HO.tup.injEq, upd_none, ixN_10, ixN_20, ixN_21, ixN_30, ixN_31, ixN_32, upd_same, seqAt_updL, seqAt_updT, atI_0, atI_1, atI_2, atI_3, decide_eq_true_eq, L2.start, List.map_cons, List.map_nil, List.length_cons, List.length_nil, Nat.reduceAdd, Nat.reduceSub, List.replicate_succ, List.replicate_zero, List.cons_append, List.nil_append, List.append_nil, tFor_rng1, tFor_rng2, tFor_list, tFor_tup, CDv, CMul, CPow, sizeLine_eq, Int.reduceLE, Int.reduceLT, Int.reducePow, Int.reduceToNat, Int.reduceAdd, Int.reduceSub, Int.reduceMul, Int.reduceNeg, Nat.reduceLeDiff, Nat.reducePow, Nat.reduceLT, Int.reduceEq, true_or, or_true, ite_true, ite_false, if_true, if_false, Bool.not_true, Bool.not_false, Bool.false_eq_true, decide_true, decide_false, rIxQ, seqQ_updL, seqQ_updT, tupQ_updT, tSl, tNoPart, tPart, rSlQ, rCatQ, tTupQ, tLstQ, tNever, rEqD, rInQ, gTupQ, gCons, gNil, tBM, tBM0, rAppend, rClear, rExtend, rPart, rSlS, rJoin, rIxS, tLRange, tDisp1, tyV, tDGet, rDClear, tRev, tFor_rng3, tLc_rng1, tLc_rng2, tLc_list, tLc_tup, pick_nil, pick_own, pick_cap, join_some, tYes, tCallKC, gk_11, gk_31, tSortDown, tDNewQ, sDPut, tLc_zipS, tLcD, seqQ_T ht,  Half.v]
    refine ite2 (fun c => absurd c s6) (fun _ b nb => ?_)
    have xb := Ext.new (K := K) (o := .lst [V.str (Str.ofString "="), V.str (Str.ofString "+")]) nb
    have e := seqQ_T (xb.tup ht)
    have h1 := numT_len (i := n) ok
    have h3 : (Str.ofString "+").length = 1 := by decide +kernel
    exact ⟨_, e, _, rfl, rfl, _, by rw [if_pos rfl]; rfl, _, e, _, rfl, n, rfl, num_log ok, _, rfl, by show _ + (numT n).length ≤ _; omega, q _ xb⟩
  | is n =>
    simp only [tSeq, tNext, tIfS, tAsg, gName, gSub, tRet, tRetN, tDrop, tVar, tC, tOp, tUn, rI0, rI, rU, tTest, tB, tAndV, tOrV, tNotV, tAnd, tOr, tNot, tIf, tChain, tCB, tCons, tNil, tLst, tTup, tCallC, List.getElem?_cons_zero, List.getElem?_cons_succ, List.set_cons_zero, List.set_cons_succ, Option.some.injEq, V.int.injEq, V.bl.injEq, V.ref.injEq, V.ty.injEq, V.str.injEq, List.cons.injEq, exists_eq_left', exists_eq_left, exists_and_left, and_true, true_and, and_assoc, cxK, rIxF, rSetL, rEq, rNe, scal, HO.lst.injEq, HO.tup.injEq, upd_none, ixN_10, ixN_20, ixN_21, ixN_30, ixN_31, ixN_32, upd_same, seqAt_updL, seqAt_updT, atI_0, atI_1, atI_2, atI_3, decide_eq_true_eq, L2.start, List.map_cons, List.map_nil, List.length_cons, List.length_nil, Nat.reduceAdd, Nat.reduceSub, List.replicate_succ, List.replicate_zero, List.cons_append, List.nil_append, List.append_nil, tFor_rng1, tFor_rng2, tFor_list, tFor_tup, CDv, CMul, CPow, sizeLine_eq, Int.reduceLE, Int.reduceLT, Int.reducePow, Int.reduceToNat, Int.reduceAdd, Int.reduceSub, Int.reduceMul, Int.reduceNeg, Nat.reduceLeDiff, Nat.reducePow, Nat.reduceLT, Int.reduceEq, true_or, or_true, ite_true, ite_false, if_true, if_false, Bool.not_true, Bool.not_false, Bool.false_eq_true, decide_true, decide_false, rIxQ, seqQ_updL, seqQ_updT, tupQ_updT, tSl, tNoPart, tPart, rSlQ, rCatQ, tTupQ, tLstQ, tNever, rEqD, rInQ, gTupQ, gCons, gNil, tBM, tBM0, rAppend, rClear, rExtend, rPart, rSlS, rJoin, rIxS, tLRange, tDisp1, tyV, tDGet, rDClear, tRev, tFor_rng3, tLc_rng1, tLc_rng2, tLc_list, tLc_tup, pick_nil, pick_own, pick_cap, join_some, tYes, tCallKC, gk_11, gk_31, tSortDown, tDNewQ, sDPut, tLc_zipS, tLcD, seqQ_T ht,  Half.v]
    refine ite2 (fun c => absurd c s7) (fun _ b nb => ?_)
    have xb := Ext.new (K := K) (o := .lst [V.str (Str.ofString "="), V.str (Str.ofString "+")]) nb
    have e := seqQ_T (xb.tup ht)
    have h1 := numT_len (i := n) ok
    have h3 : (Str.ofString "=").length = 1 := by decide +kernel
    exact ⟨_, e, _, rfl, rfl, _, by rw [if_neg s8]; rfl, _, e, _, rfl, n, rfl, num_log ok, _, rfl, by show _ + (numT n).length ≤ _; omega, q _ xb⟩
  | gone =>
    simp only [tSeq, tNext, tIfS, tAsg, gName, gSub, tRet, tRetN, tDrop, tVar, tC, tOp, tUn, rI0, rI, rU, tTest, tB, tAndV, tOrV, tNotV, tAnd, tOr, tNot, tIf, tChain, tCB, tCons, tNil, tLst, tTup, tCallC, List.getElem?_cons_zero, List.getElem?_cons_succ, List.set_cons_zero, List.set_cons_succ, Option.some.injEq, V.int.injEq, V.bl.injEq, V.ref.injEq, V.ty.injEq, V.str.injEq, List.cons.injEq, exists_eq_left', exists_eq_left, exists_and_left, and_true, true_and, and_assoc, cxK, rIxF, rSetL, rEq, rNe, scal, HO.lst.injEq, HO.tup.injEq, upd_none, ixN_10, ixN_20, ixN_21, ixN_30, ixN_31, ixN_32, upd_same, seqAt_updL, seqAt_updT, atI_0, atI_1, atI_2, atI_3, decide_eq_true_eq, L2.start, List.map_cons, List.map_nil, List.length_cons, List.length_nil, Nat.reduceAdd, Nat.reduceSub, List.replicate_succ, List.replicate_zero, List.cons_append, List.nil_append, List.append_nil, tFor_rng1, tFor_rng2, tFor_list, tFor_tup, CDv, CMul, CPow, sizeLine_eq, Int.reduceLE, Int.reduceLT, Int.reducePow, Int.reduceToNat, Int.reduceAdd, Int.reduceSub, Int.reduceMul, Int.reduceNeg, Nat.reduceLeDiff, Nat.reducePow, Nat.reduceLT, Int.reduceEq, true_or, or_true, ite_true, ite_false, if_true, if_false, Bool.not_true, Bool.not_false, Bool.false_eq_true, decide_true, decide_false, rIxQ, seqQ_updL, seqQ_updT, tupQ_updT, tSl, tNoPart, tPart, rSlQ, rCatQ, tTupQ, tLstQ, tNever, rEqD, rInQ, gTupQ, gCons, gNil, tBM, tBM0, rAppend, rClear, rExtend, rPart, rSlS, rJoin, rIxS, tLRange, tDisp1, tyV, tDGet, rDClear, tRev, tFor_rng3, tLc_rng1, tLc_rng2, tLc_list, tLc_tup, pick_nil, pick_own, pick_cap, join_some, tYes, tCallKC, gk_11, gk_31, tSortDown, tDNewQ, sDPut, tLc_zipS, tLcD, seqQ_T ht,  Half.v]
    exact q _ Ext.refl
theorem sc__law_line : FnScope ["_law_parts", "_law_sign"] ["_law_parts", "_law_sign"] (defScope s__law_line) := ⟨rfl, rfl, rfl, by decide +kernel, rfl, by decide +kernel, by decide +kernel⟩
theorem ok__law_line {f : Addr} {fd : FuncData} (F : Fun K "_law_line" "_law_line" s__law_line f fd) (B : B K mg aG) : FnOk P w K mg base CX0 1 f fd ["_law_parts", "_law_sign"] (spLLine K) := by
  refine F.okJ sc__law_line (fun vs H Q E h => ?_) (fun cdv A outer s H vs Q E hr h => ?_)
  · obtain ⟨p, sep, ts, m, rfl, _⟩ := h
    rfl
  obtain ⟨p, sep, ts, m, rfl, hs, h1, hm, ho, hz, q⟩ := h
  refine ⟨_, (bcons (sif (tcmp (op_eqD hr.units) (ev 0) (elstQ anil) (nomark _)) (bone (sret estr)) bnil)
      (bone (sret (ebm PySem.F.plainAttrs_str PySem.F.slot_str_join PySem.F.type_str_join mt_join (ev 1) (acons (ev 0) anil))))), ?_⟩
  try walk_at "rn"
  intro b nb
  have xb := Ext.new (K := K) (o := .lst []) nb
  have l1 := lenAll_le (sep := sep) ts hm
  have l2 := join_le (sep := sep) ts hm
  rw [h1] at l1 l2
  have qq := q _ xb
  unfold listT at qq
  refine ⟨_, strs_is (xb.at hs), _, bareL_is upd_same, strs_shaped ts ho, strs_shaped [] (fun _ h => by cases h), ?_⟩
  rw [strs_bare]
  refine ite2 (fun c => ?_) (fun c => ?_)
  · rw [if_pos (of_decide_eq_true c)] at qq
    exact qq
  · rw [if_neg (fun e => c (decide_eq_true e))] at qq
    exact ⟨ts, SqL.of (xb.at hs), by omega, by omega, qq⟩
end
theorem lc_mapXT {α : Type} {K : PySem.W.Frag} {c D : Addr} {L : List α} {f g : α → V} {te : TE} {v0 : Option V} {rest : St} {H : Hp} {Q : Hp → Prop} (hk : tupQ K H c = some (L.map f)) (nD : new K H D) (hz : L.length ≤ 1000)
    (elt : ∀ q ∈ L, ∀ H' (Q : VK), Ext K H H' → (∀ H'', Ext K H' H'' → Q (g q) H'') → te (some (f q) :: rest) H' Q)
    (fin : ∀ H', H' D = some (.lst (L.map g)) → Ext K H H' → Q H') : LcLoop (Itt K c) (gName 0) tYes te D Q (v0 :: rest) (upd H D (.lst [])) := by
  refine lc_tup (xs := L.map f) (fun i acc σ' H' => ∃ (v0 : Option V), σ' = v0 :: rest ∧ H' D = some (.lst acc) ∧ acc = (L.take i).map g ∧ Kp K D (upd H D (.lst [])) H') ?_ ?_ ?_ ?_
  · exact ⟨_, rfl, upd_same, rfl, Kp.refl⟩
  · rintro i acc σ' H' _ ⟨v0, rfl, hD, rfl, k⟩
    exact tupQ_sq ((k.ext nD).tup hk)
  · rintro i x acc σ' H' hx ⟨v0, rfl, hD, rfl, k⟩
    rw [List.getElem?_map] at hx
    obtain ⟨q, ek, rfl⟩ := Option.map_eq_some_iff.mp hx
    have hlen : ((L.take i).map g).length ≤ 1000 := by rw [List.length_map, List.length_take]; omega
    unfold gName tYes
    refine iteT ?_
    refine elt q (List.mem_of_getElem? ek) H' _ (k.ext nD) fun H'' x'' => ⟨x''.at hD, Nat.lt_of_le_of_lt hlen (by decide), _, rfl, upd_same, ?_, k.trans (x''.kp.trans (Kp.upd (x''.at hD)))⟩
    rw [List.take_add_one, ek, Option.toList_some, List.map_append]
    rfl
  · rintro acc σ' H' ⟨v0, rfl, hD, rfl, k⟩
    rw [List.length_map, List.take_length] at hD
    exact fin H' hD (k.ext nD)
section
variable {P : Program} {w : World} {K : PySem.W.Frag} {mg : Str → Option Value} {base : Heap} {aG : Addr}
def spLRow (K : PySem.W.Frag) : Sp := fun vs H Q _ => ∃ u r, vs = [u] ∧ RowAt K H u r ∧ okRow r ∧ 0 < r.vs.length ∧ ∀ H', Ext K H H' → Q (.str (rowT r.k (r.vs.map (·.2)))) H'
theorem sc__law_row_text : FnScope ["_law_row", "_law_parts", "_law_number_here", "_law_value"] ["_law_row"] (defScope s__law_row_text) := ⟨rfl, rfl, rfl, by decide +kernel, rfl, by decide +kernel, by decide +kernel⟩
theorem ok__law_row_text {f : Addr} {fd : FuncData} (F : Fun K "_law_row_text" "_law_row_text" s__law_row_text f fd) (B : B K mg aG) : FnOk P w K mg base CX0 1 f fd ["_law_row"] (spLRow K) := by
  refine F.okJ sc__law_row_text (fun vs H Q E h => ?_) (fun cdv A outer s H vs Q E hr h => ?_)
  · obtain ⟨u, r, rfl, _⟩ := h
    rfl
  obtain ⟨u, r, rfl, ⟨t, rfl, ht, ha, hv⟩, ok, l0, q⟩ := h
  refine ⟨_, (bcons (sset (i := 1) sc__law_row_text.nd rfl (Or.inl rfl) (elstQ anil))
      (bcons (sfor PassesOwn.never rfl (ilist (eix ix_Q (ev 0) ei (fun _ _ => rfl))) (gtupQ (n := 2) rfl (gcons (gname (i := 2) sc__law_row_text.nd rfl (Or.inl rfl)) (gcons (gname (i := 3) sc__law_row_text.nd rfl (Or.inl rfl)) gnil)))
        (bone (sexpr (ebm PySem.F.plainAttrs_list PySem.F.slot_list_append PySem.F.type_list_append mt_append (ev 1) (acons (eop op_add_str (eop op_add_str (ecallTy call_str_int rfl B.str bt_str (acons (ev 2) anil)) estr) (eix ix_Q (elstQ (acons estr (acons (ecallTy call_strO rfl B.str bt_str (acons (ev 3) anil)) anil))) (ecallTy call_intB rfl B.int bt_int (acons (ecmp op_notN (ev 3) enon (nomark _)) anil)) (fun _ _ => rfl))) anil)))))
      (bone (sret (eop op_add_str (eop op_add_str (ecallTy call_str_int rfl B.str bt_str (acons (eix ix_Q (ev 0) ei (fun _ _ => rfl)) anil)) estr) (ebm PySem.F.plainAttrs_str PySem.F.slot_str_join PySem.F.type_str_join mt_join estr (acons (ev 1) anil))))))), ?_⟩
  try walk_at "rn"
  intro R nR
  have xR := Ext.new (K := K) (o := .lst []) nR
  simp only [tSeq, tNext, tIfS, tAsg, gName, gSub, tRet, tRetN, tDrop, tVar, tC, tOp, tUn, rI0, rI, rU, tTest, tB, tAndV, tOrV, tNotV, tAnd, tOr, tNot, tIf, tChain, tCB, tCons, tNil, tLst, tTup, tCallC, List.getElem?_cons_zero, List.getElem?_cons_succ, List.set_cons_zero, List.set_cons_succ, Option.some.injEq, V.int.injEq, V.bl.injEq, V.ref.injEq, V.ty.injEq, V.str.injEq, List.cons.injEq, exists_eq_left', exists_eq_left, exists_and_left, and_true, true_and, and_assoc, cxK, rIxF, rSetL, rEq, rNe, scal, HO.lst.injEq, HO.tup.injEq, upd_none, ixN_10, ixN_20, ixN_21, ixN_30, ixN_31, ixN_32, upd_same, seqAt_updL, seqAt_updT, atI_0, atI_1, atI_2, atI_3, decide_eq_true_eq, L2.start, List.map_cons, List.map_nil, List.length_cons, List.length_nil, Nat.reduceAdd, Nat.reduceSub, List.replicate_succ, List.replicate_zero, List.cons_append, List.nil_append, List.append_nil, tFor_rng1, tFor_rng2, tFor_list, tFor_tup, CDv, CMul, CPow, sizeLine_eq, Int.reduceLE, Int.reduceLT, Int.reducePow, Int.reduceToNat, Int.reduceAdd, Int.reduceSub, Int.reduceMul, Int.reduceNeg, Nat.reduceLeDiff, Nat.reducePow, Nat.reduceLT, Int.reduceEq, true_or, or_true, ite_true, ite_false, if_true, if_false, Bool.not_true, Bool.not_false, Bool.false_eq_true, decide_true, decide_false, rIxQ, seqQ_updL, seqQ_updT, tupQ_updT, tSl, tNoPart, tPart, rSlQ, rCatQ, tTupQ, tLstQ, tNever, rEqD, rInQ, gTupQ, gCons, gNil, tBM, tBM0, rAppend, rClear, rExtend, rPart, rSlS, rJoin, rIxS, tLRange, tDisp1, tyV, tDGet, rDClear, tRev, tFor_rng3, tLc_rng1, tLc_rng2, tLc_list, tLc_tup, pick_nil, pick_own, pick_cap, join_some, tYes, tCallKC, gk_11, gk_31, tSortDown, tDNewQ, sDPut, tLc_zipS, tLcD, seqQ_T (xR.tup ht)]
  refine ⟨⟨_, SqL.of (xR.at ha)⟩, ?_⟩
  have neR : r.a ≠ R := ne_of_none ha nR.1
  refine loop_list (xs := r.vs.map (·.1)) (fun k σ H' => ∃ (v2 v3 : Option V), σ = [some (.ref t), some (.ref R), v2, v3] ∧ H' R = some (.lst (((r.vs.take k).map fun q => verT q.2).map V.str)) ∧ Kp K R (upd H R (.lst [])) H') ⟨_, _, rfl, upd_same, Kp.refl⟩ ?_ ?_ ?_
  · rintro k σ H' _ ⟨_, _, _, _, kk⟩
    exact SqL.of ((kk.ext nR).at ha)
  · rintro k x σ H' hx ⟨v2, v3, rfl, hR, kk⟩
    rw [List.getElem?_map] at hx
    obtain ⟨q0, hq, rfl⟩ := Option.map_eq_some_iff.mp hx
    have mq := List.mem_of_getElem? hq
    have hk : k < r.vs.length := (List.getElem?_eq_some_iff.1 hq).1
    have l4 := ok.2.2
    obtain ⟨t', e', ht'⟩ := hv q0 mq
    have ht2 := (kk.ext nR).tup ht'
    have okq := ok.2.1 q0 mq
    obtain ⟨u0, n, o⟩ := q0
    dsimp only at e' ht2 okq
    subst e'
    have h1 := numT_len (i := n) okq.1
    have h2 := valT_len (o := o) okq.2
    have h3 : (Str.ofString ":").length = 1 := by decide +kernel
    have et : ((r.vs.take k).map fun q => verT q.2).map V.str ++ [V.str (verT (n, o))] = ((r.vs.take (k + 1)).map fun q => verT q.2).map V.str := by
      rw [List.take_add_one, hq, Option.toList_some, List.map_append, List.map_append]
      rfl
    have hz : (((r.vs.take k).map fun q => verT q.2).map V.str).length < 16777216 := by
      rw [List.length_map, List.length_map, List.length_take]
      omega
    cases o with
    | none =>
      simp only [tSeq, tNext, tIfS, tAsg, gName, gSub, tRet, tRetN, tDrop, tVar, tC, tOp, tUn, rI0, rI, rU, tTest, tB, tAndV, tOrV, tNotV, tAnd, tOr, tNot, tIf, tChain, tCB, tCons, tNil, tLst, tTup, tCallC, List.getElem?_cons_zero, List.getElem?_cons_succ, List.set_cons_zero, List.set_cons_succ, Option.some.injEq, V.int.injEq, V.bl.injEq, V.ref.injEq, V.ty.injEq, V.str.injEq, List.cons.injEq, exists_eq_left', exists_eq_left, exists_and_left, and_true, true_and, and_assoc, cxK, rIxF, rSetL, rEq, rNe, scal, HO.lst.injEq, HO.tup.injEq, upd_none, ixN_10, ixN_20, ixN_21, ixN_30, ixN_31, ixN_32, upd_same, seqAt_updL, seqAt_updT, atI_0, atI_1, atI_2, atI_3, decide_eq_true_eq, L2.start, List.map_cons, List.map_nil, List.length_cons, List.length_nil, Nat.reduceAdd, Nat.reduceSub, List.replicate_succ, List.replicate_zero, List.cons_append, List.nil_append, List.append_nil, tFor_rng1, tFor_rng2, tFor_list, tFor_tup, CDv, CMul, CPow, sizeLine_eq, Int.reduceLE, Int.reduceLT, Int.reducePow, Int.reduceToNat, Int.reduceAdd, Int.reduceSub, Int.reduceMul, Int.reduceNeg, Nat.reduceLeDiff, Nat.reducePow, Nat.reduceLT, Int.reduceEq, true_or, or_true, ite_true, ite_false, if_true, if_false, Bool.not_true, Bool.not_false, Bool.false_eq_true, decide_true, decide_false, rIxQ, seqQ_updL, seqQ_updT, tupQ_updT, tSl, tNoPart, tPart, rSlQ, rCatQ, tTupQ, tLstQ, tNever, rEqD, rInQ, gTupQ, gCons, gNil, tBM, tBM0, rAppend, rClear, rExtend, rPart, rSlS, rJoin, rIxS, tLRange, tDisp1, tyV, tDGet, rDClear, tRev, tFor_rng3, tLc_rng1, tLc_rng2, tLc_list, tLc_tup, pick_nil, pick_own, pick_cap, join_some, tYes, tCallKC, gk_11, gk_31, tSortDown, tDNewQ, sDPut, tLc_zipS, tLcD, ht2,  oV]
      have h4 : (Str.ofString "x").length = 1 := by decide +kernel
      refine ⟨.inl ⟨_, SqL.of hR⟩, num_log okq.1, (by show (numT n).length + _ ≤ _; omega), .inr fun b nb => ?_⟩
      have xb := Ext.new (K := K) (o := .lst [V.str (Str.ofString "x"), V.str (Str.ofString "None")]) nb
      exact ⟨by show (numT n ++ Str.ofString ":").length + _ ≤ _; rw [Str.length_append]; omega, _, xb.at hR, hz, et, kk.trans (xb.kp.trans (Kp.upd (xb.at hR)))⟩
    | some i =>
      simp only [tSeq, tNext, tIfS, tAsg, gName, gSub, tRet, tRetN, tDrop, tVar, tC, tOp, tUn, rI0, rI, rU, tTest, tB, tAndV, tOrV, tNotV, tAnd, tOr, tNot, tIf, tChain, tCB, tCons, tNil, tLst, tTup, tCallC, List.getElem?_cons_zero, List.getElem?_cons_succ, List.set_cons_zero, List.set_cons_succ, Option.some.injEq, V.int.injEq, V.bl.injEq, V.ref.injEq, V.ty.injEq, V.str.injEq, List.cons.injEq, exists_eq_left', exists_eq_left, exists_and_left, and_true, true_and, and_assoc, cxK, rIxF, rSetL, rEq, rNe, scal, HO.lst.injEq, HO.tup.injEq, upd_none, ixN_10, ixN_20, ixN_21, ixN_30, ixN_31, ixN_32, upd_same, seqAt_updL, seqAt_updT, atI_0, atI_1, atI_2, atI_3, decide_eq_true_eq, L2.start, List.map_cons, List.map_nil, List.length_cons, List.length_nil, Nat.reduceAdd, Nat.reduceSub, List.replicate_succ, List.replicate_zero, List.cons_append, List.nil_append, List.append_nil, tFor_rng1, tFor_rng2, tFor_list, tFor_tup, CDv, CMul, CPow, sizeLine_eq, Int.reduceLE, Int.reduceLT, Int.reducePow, Int.reduceToNat, Int.reduceAdd, Int.reduceSub, Int.reduceMul, Int.reduceNeg, Nat.reduceLeDiff, Nat.reducePow, Nat.reduceLT, Int.reduceEq, true_or, or_true, ite_true, ite_false, if_true, if_false, Bool.not_true, Bool.not_false, Bool.false_eq_true, decide_true, decide_false, rIxQ, seqQ_updL, seqQ_updT, tupQ_updT, tSl, tNoPart, tPart, rSlQ, rCatQ, tTupQ, tLstQ, tNever, rEqD, rInQ, gTupQ, gCons, gNil, tBM, tBM0, rAppend, rClear, rExtend, rPart, rSlS, rJoin, rIxS, tLRange, tDisp1, tyV, tDGet, rDClear, tRev, tFor_rng3, tLc_rng1, tLc_rng2, tLc_list, tLc_tup, pick_nil, pick_own, pick_cap, join_some, tYes, tCallKC, gk_11, gk_31, tSortDown, tDNewQ, sDPut, tLc_zipS, tLcD, ht2,  oV]
      have h4 := numT_len (okq.2 i rfl)
      refine ⟨.inl ⟨_, SqL.of hR⟩, num_log okq.1, (by show (numT n).length + _ ≤ _; omega), .inl ⟨num_log (okq.2 i rfl), fun b nb => ?_⟩⟩
      have xb := Ext.new (K := K) (o := .lst [V.str (Str.ofString "x"), V.str (Str.ofString (toString i))]) nb
      exact ⟨_, by rw [if_pos (by simp)]; rfl, numT i, rfl, by show (numT n ++ Str.ofString ":").length + _ ≤ _; rw [Str.length_append]; omega, _, xb.at hR, hz, et, kk.trans (xb.kp.trans (Kp.upd (xb.at hR)))⟩
  rintro σ H' ⟨v2, v3, rfl, hR, kk⟩
  simp only [tSeq, tNext, tIfS, tAsg, gName, gSub, tRet, tRetN, tDrop, tVar, tC, tOp, tUn, rI0, rI, rU, tTest, tB, tAndV, tOrV, tNotV, tAnd, tOr, tNot, tIf, tChain, tCB, tCons, tNil, tLst, tTup, tCallC, List.getElem?_cons_zero, List.getElem?_cons_succ, List.set_cons_zero, List.set_cons_succ, Option.some.injEq, V.int.injEq, V.bl.injEq, V.ref.injEq, V.ty.injEq, V.str.injEq, List.cons.injEq, exists_eq_left', exists_eq_left, exists_and_left, and_true, true_and, and_assoc, cxK, rIxF, rSetL, rEq, rNe, scal, HO.lst.injEq, HO.tup.injEq, upd_none, ixN_10, ixN_20, ixN_21, ixN_30, ixN_31, ixN_32, upd_same, seqAt_updL, seqAt_updT, atI_0, atI_1, atI_2, atI_3, decide_eq_true_eq, L2.start, List.map_cons, List.map_nil, List.length_cons, List.length_nil, Nat.reduceAdd, Nat.reduceSub, List.replicate_succ, List.replicate_zero, List.cons_append, List.nil_append, List.append_nil, tFor_rng1, tFor_rng2, tFor_list, tFor_tup, CDv, CMul, CPow, sizeLine_eq, Int.reduceLE, Int.reduceLT, Int.reducePow, Int.reduceToNat, Int.reduceAdd, Int.reduceSub, Int.reduceMul, Int.reduceNeg, Nat.reduceLeDiff, Nat.reducePow, Nat.reduceLT, Int.reduceEq, true_or, or_true, ite_true, ite_false, if_true, if_false, Bool.not_true, Bool.not_false, Bool.false_eq_true, decide_true, decide_false, rIxQ, seqQ_updL, seqQ_updT, tupQ_updT, tSl, tNoPart, tPart, rSlQ, rCatQ, tTupQ, tLstQ, tNever, rEqD, rInQ, gTupQ, gCons, gNil, tBM, tBM0, rAppend, rClear, rExtend, rPart, rSlS, rJoin, rIxS, tLRange, tDisp1, tyV, tDGet, rDClear, tRev, tFor_rng3, tLc_rng1, tLc_rng2, tLc_list, tLc_tup, pick_nil, pick_own, pick_cap, join_some, tYes, tCallKC, gk_11, gk_31, tSortDown, tDNewQ, sDPut, tLc_zipS, tLcD, seqQ_T ((kk.ext nR).tup ht)]
  rw [List.length_map, List.take_length] at hR
  have h1 := numT_len ok.1
  have h3 : (Str.ofString "=").length = 1 := by decide +kernel
  have h5 : (Str.ofString ",").length = 1 := by decide +kernel
  have l4 := ok.2.2
  have hl : ∀ t ∈ r.vs.map fun q => verT q.2, t.length ≤ 203 := by
    intro t ht
    obtain ⟨q0, hq, rfl⟩ := List.mem_map.1 ht
    exact verT_len (ok.2.1 q0 hq)
  have m1 := lenAll_le (sep := Str.ofString ",") _ hl
  have m2 := join_le (sep := Str.ofString ",") _ hl
  rw [h5, List.length_map] at m1 m2
  refine ⟨num_log ok.1, by show (numT r.k).length + _ ≤ _; omega, _, SqL.of hR, by omega, by omega, by show (numT r.k ++ Str.ofString "=").length + _ ≤ _; rw [Str.length_append]; omega, ?_⟩
  have qq := q _ (kk.ext nR)
  unfold rowT listT at qq
  have e2 : (r.vs.map (·.2)).map verT = r.vs.map fun q => verT q.2 := by rw [List.map_map]; rfl
  rw [e2, if_neg (fun e => by rw [List.map_eq_nil_iff] at e; rw [e] at l0; exact absurd l0 (by decide))] at qq
  exact qq
def spLNoteT (K : PySem.W.Frag) : Sp := fun vs H Q _ => ∃ u e, vs = [u] ∧ NoteAt K H u e ∧ e.ok ∧ ∀ H', Ext K H H' → Q (.str e.x) H'
theorem sc__law_note_text : FnScope ["_law_note_here", "_law_parts"] ["_law_note_here"] (defScope s__law_note_text) := ⟨rfl, rfl, rfl, by decide +kernel, rfl, by decide +kernel, by decide +kernel⟩
theorem ok__law_note_text {f : Addr} {fd : FuncData} (F : Fun K "_law_note_text" "_law_note_text" s__law_note_text f fd) (B : B K mg aG) (C__law_half : Callee P w K mg base "_law_half" 1 ["_law_half_here"] (spLHalf K)) : FnOk P w K mg base CX0 2 f fd ["_law_note_here"] (spLNoteT K) := by
  refine F.okJ sc__law_note_text (fun vs H Q E h => ?_) (fun cdv A outer s H vs Q E hr h => ?_)
  · obtain ⟨u, e, rfl, _⟩ := h
    rfl
  obtain ⟨u, e, rfl, ⟨a, w, r, s', rfl, h1, h2, h3, h4⟩, ok, q⟩ := h
  refine ⟨_, (bcons (sset (i := 1) sc__law_note_text.nd rfl (Or.inl rfl) (elstQ (acons (ecallTy call_str_int rfl B.str bt_str (acons (eix ix_Q (ev 0) ei (fun _ _ => rfl)) anil)) (acons (ecallTy call_str_int rfl B.str bt_str (acons (eix ix_Q (ev 0) ei (fun _ _ => rfl)) anil)) (acons (ecallTy call_str_int rfl B.str bt_str (acons (eix ix_Q (ev 0) ei (fun _ _ => rfl)) anil)) anil)))))
      (bone (sret (ebm PySem.F.plainAttrs_str PySem.F.slot_str_join PySem.F.type_str_join mt_join estr (acons (eop op_catQ (ev 1) (elc (Cap.mk (N := ["_law_half_here"]) (src := [none]) rfl rfl) rfl (itup (eix ix_Q (ev 0) ei (fun _ _ => rfl))) (fun _ _ _ _ => (gname (i := 0) (show (["_law_half_here"] : List Str).Nodup from by decide +kernel) rfl (Or.inl rfl))) (fun _ _ _ _ => fnone) (fun _ _ _ _ => (ecall C__law_half (hr.mono (by decide)) rfl (acons (ev 0) anil))))) anil))))), ?_⟩
  simp only [tSeq, tNext, tIfS, tAsg, gName, gSub, tRet, tRetN, tDrop, tVar, tC, tOp, tUn, rI0, rI, rU, tTest, tB, tAndV, tOrV, tNotV, tAnd, tOr, tNot, tIf, tChain, tCB, tCons, tNil, tLst, tTup, tCallC, List.getElem?_cons_zero, List.getElem?_cons_succ, List.set_cons_zero, List.set_cons_succ, Option.some.injEq, V.int.injEq, V.bl.injEq, V.ref.injEq, V.ty.injEq, V.str.injEq, List.cons.injEq, exists_eq_left', exists_eq_left, exists_and_left, and_true, true_and, and_assoc, cxK, rIxF, rSetL, rEq, rNe, scal, HO.lst.injEq, HO.tup.injEq, upd_none, ixN_10, ixN_20, ixN_21, ixN_30, ixN_31, ixN_32, upd_same, seqAt_updL, seqAt_updT, atI_0, atI_1, atI_2, atI_3, decide_eq_true_eq, L2.start, List.map_cons, List.map_nil, List.length_cons, List.length_nil, Nat.reduceAdd, Nat.reduceSub, List.replicate_succ, List.replicate_zero, List.cons_append, List.nil_append, List.append_nil, tFor_rng1, tFor_rng2, tFor_list, tFor_tup, CDv, CMul, CPow, sizeLine_eq, Int.reduceLE, Int.reduceLT, Int.reducePow, Int.reduceToNat, Int.reduceAdd, Int.reduceSub, Int.reduceMul, Int.reduceNeg, Nat.reduceLeDiff, Nat.reducePow, Nat.reduceLT, Int.reduceEq, true_or, or_true, ite_true, ite_false, if_true, if_false, Bool.not_true, Bool.not_false, Bool.false_eq_true, decide_true, decide_false, rIxQ, seqQ_updL, seqQ_updT, tupQ_updT, tSl, tNoPart, tPart, rSlQ, rCatQ, tTupQ, tLstQ, tNever, rEqD, rInQ, gTupQ, gCons, gNil, tBM, tBM0, rAppend, rClear, rExtend, rPart, rSlS, rJoin, rIxS, tLRange, tDisp1, tyV, tDGet, rDClear, tRev, tFor_rng3, tLc_rng1, tLc_rng2, tLc_list, tLc_tup, pick_nil, pick_own, pick_cap, join_some, tYes, tCallKC, gk_11, gk_31, tSortDown, tDNewQ, sDPut, tLc_zipS, tLcD, seqQ_T h1]
  refine ⟨num_log ok.1, num_log ok.2.1, num_log ok.2.2.1, fun b nb => ?_⟩
  have xb := Ext.new (K := K) (o := .lst [V.str (Str.ofString (toString e.n)), V.str (Str.ofString (toString e.lo)), V.str (Str.ofString (toString e.hi))]) nb
  have hb : (upd H b (.lst [V.str (Str.ofString (toString e.n)), V.str (Str.ofString (toString e.lo)), V.str (Str.ofString (toString e.hi))])) b = some (.lst [V.str (Str.ofString (toString e.n)), V.str (Str.ofString (toString e.lo)), V.str (Str.ofString (toString e.hi))]) := upd_same
  generalize upd H b (.lst [V.str (Str.ofString (toString e.n)), V.str (Str.ofString (toString e.lo)), V.str (Str.ofString (toString e.hi))]) = H1 at xb hb ⊢
  refine ⟨_, seqQ_T (xb.tup h1), _, rfl, w, rfl, ⟨_, tupQ_sq (xb.tup h2)⟩, fun D nD => ?_⟩
  refine lc_mapXT (L := [(r, e.t), (s', e.m)]) (f := fun q => V.ref q.1) (g := fun q => V.str q.2.t) (xb.tup h2) nD (by show 2 ≤ 1000; decide) (fun q0 hq H' Q' xx qq => ?_) (fun H2 hD x2 => ?_)
  · try walk_at "rn"
    simp only [List.mem_cons, List.not_mem_nil, or_false] at hq
    rcases hq with rfl | rfl
    · exact ⟨_, e.t, rfl, ⟨r, rfl, (xb.trans xx).tup h3⟩, ok.2.2.2.1, qq⟩
    · exact ⟨_, e.m, rfl, ⟨s', rfl, (xb.trans xx).tup h4⟩, ok.2.2.2.2, qq⟩
  refine ⟨_, x2.at hb, _, hD, by show 3 + 2 ≤ 16777216; decide, fun p np => ?_⟩
  have l1 := lenAll_le (sep := Str.ofString ".") _ (Nt.le ok)
  have l2 := join_le (sep := Str.ofString ".") _ (Nt.le ok)
  have h5 : (Str.ofString ".").length = 1 := by decide +kernel
  rw [h5] at l1 l2
  simp only [List.length_cons, List.length_nil] at l1 l2
  exact ⟨[numT e.n, numT e.lo, numT e.hi, e.t.t, e.m.t], SqL.of upd_same, by omega, by omega, q _ (xb.trans (x2.trans (Ext.new np)))⟩
theorem okS_ver (p : Int × Option Int) : okS (verT p) := by
  unfold verT
  refine okS_app (okS_app (okS_num _) (okS_of _)) ?_
  cases p.2 with
  | none => exact okS_of _
  | some i => exact okS_num i
theorem okS_row (k : Int) (ws : List (Int × Option Int)) : okS (rowT k ws) := by
  unfold rowT
  refine okS_app (okS_app (okS_num _) (okS_of _)) (okS_list (okS_of _) _ fun t ht => ?_)
  obtain ⟨p, _, rfl⟩ := List.mem_map.1 ht
  exact okS_ver p
theorem okS_half (h : Half) : okS h.t := by
  cases h with
  | plus n => exact okS_app (okS_of _) (okS_num n)
  | is n => exact okS_app (okS_of _) (okS_num n)
  | gone => exact okS_of _
theorem okS_note (e : Nt) : okS e.x := by
  refine okS_join (okS_of _) _ fun t ht => ?_
  simp only [List.mem_cons, List.not_mem_nil, or_false] at ht
  rcases ht with rfl | rfl | rfl | rfl | rfl
  · exact okS_num _
  · exact okS_num _
  · exact okS_num _
  · exact okS_half _
  · exact okS_half _
def Rm.full : Rm → Prop
  | .leaf _ _ rows => ∀ q ∈ rows, 0 < q.2.vs.length
  | .inner _ _ _ _ ch _ _ => 0 < ch.length
def spLRoom (K : PySem.W.Frag) : Sp := fun vs H Q _ => ∃ (a d : Addr) (r : Rm) (pl : Int → Int), vs = [.ref a, .ref d] ∧ r.at K H a ∧ PlAt H d pl r.ch ∧ r.ok pl ∧ r.full ∧ ∀ H', Ext K H H' → Q (.str (r.x pl)) H'
theorem sc__law_room_text : FnScope ["_law_room_here", "_law_places", "_law_head", "_law_children", "_law_pivots"] ["_law_room_here", "_law_places"] (defScope s__law_room_text) := ⟨rfl, rfl, rfl, by decide +kernel, rfl, by decide +kernel, by decide +kernel⟩
theorem ok__law_room_text {f : Addr} {fd : FuncData} (F : Fun K "_law_room_text" "_law_room_text" s__law_room_text f fd) (B : B K mg aG) (C__law_line : Callee P w K mg base "_law_line" 1 ["_law_parts", "_law_sign"] (spLLine K)) (C__law_row_text : Callee P w K mg base "_law_row_text" 1 ["_law_row"] (spLRow K)) (C__law_note_text : Callee P w K mg base "_law_note_text" 2 ["_law_note_here"] (spLNoteT K)) : FnOk P w K mg base CX0 3 f fd ["_law_room_here", "_law_places"] (spLRoom K) := by
  refine F.okJ sc__law_room_text (fun vs H Q E h => ?_) (fun cdv A outer s H vs Q E hr h => ?_)
  · obtain ⟨a, d, r, pl, rfl, _⟩ := h
    rfl
  obtain ⟨a, d, r, pl, rfl, hr', hp, ok, fu, q⟩ := h
  refine ⟨_, (bcons (sset (i := 2) sc__law_room_text.nd rfl (Or.inl rfl) (eop op_add_str (eop op_add_str (eop op_add_str (eix ix_Q (ev 0) ei (fun _ _ => rfl)) estr) (ecallTy call_str_int rfl B.str bt_str (acons (eix ix_Q (ev 0) ei (fun _ _ => rfl)) anil))) estr))
      (bcons (sif (tcmp op_eq (eix ix_Q (ev 0) ei (fun _ _ => rfl)) estr (nomark _)) (bone (sret (eop op_add_str (ev 2) (ecall C__law_line (hr.mono (by decide)) rfl (acons (elc (Cap.mk (N := ["_law_row"]) (src := [none]) rfl rfl) rfl (ilist (eix ix_Q (ev 0) ei (fun _ _ => rfl))) (fun _ _ _ _ => (gname (i := 0) (show (["_law_row"] : List Str).Nodup from by decide +kernel) rfl (Or.inl rfl))) (fun _ _ _ _ => fnone) (fun _ _ _ _ => (ecall C__law_row_text (hr.mono (by decide)) rfl (acons (ev 0) anil)))) (acons estr anil)))))) bnil)
      (bcons (sset (i := 3) sc__law_room_text.nd rfl (Or.inl rfl) (ebm PySem.F.plainAttrs_str PySem.F.slot_str_join PySem.F.type_str_join mt_join estr (acons (elc (Cap.mk (N := ["_law_child", "_law_places"]) (src := [none, some 1]) rfl rfl) rfl (ilist (eix ix_Q (ev 0) ei (fun _ _ => rfl))) (fun _ _ _ _ => (gname (i := 0) (show (["_law_child", "_law_places"] : List Str).Nodup from by decide +kernel) rfl (Or.inl rfl))) (fun _ _ _ _ => fnone) (fun _ _ _ _ => (eop op_add_str (eop op_add_str (ecallTy call_str_int rfl B.str bt_str (acons (ev 0) anil)) estr) (ecallTy call_str_int rfl B.str bt_str (acons (edget hr.units (ev 1) (ev 0) (fun _ _ => rfl)) anil))))) anil)))
      (bcons (sset (i := 4) sc__law_room_text.nd rfl (Or.inl rfl) (ecall C__law_line (hr.mono (by decide)) rfl (acons (elc (Cap.mk (N := ["_law_pivot"]) (src := [none]) rfl rfl) rfl (ilist (eix ix_Q (ev 0) ei (fun _ _ => rfl))) (fun _ _ _ _ => (gname (i := 0) (show (["_law_pivot"] : List Str).Nodup from by decide +kernel) rfl (Or.inl rfl))) (fun _ _ _ _ => fnone) (fun _ _ _ _ => (ecallTy call_str_int rfl B.str bt_str (acons (ev 0) anil)))) (acons estr anil))))
      (bone (sret (eop op_add_str (eop op_add_str (eop op_add_str (eop op_add_str (eop op_add_str (ev 2) (ev 4)) estr) (ev 3)) estr) (ecall C__law_line (hr.mono (by decide)) rfl (acons (elc (Cap.mk (N := ["_law_note_here"]) (src := [none]) rfl rfl) rfl (ilist (eix ix_Q (ev 0) ei (fun _ _ => rfl))) (fun _ _ _ _ => (gname (i := 0) (show (["_law_note_here"] : List Str).Nodup from by decide +kernel) rfl (Or.inl rfl))) (fun _ _ _ _ => fnone) (fun _ _ _ _ => (ecall C__law_note_text (hr.mono (by decide)) rfl (acons (ev 0) anil)))) (acons estr anil)))))))))), ?_⟩
  cases r with
  | leaf n ra rows =>
    obtain ⟨h1, h2, h3⟩ := hr'
    simp only [tSeq, tNext, tIfS, tAsg, gName, gSub, tRet, tRetN, tDrop, tVar, tC, tOp, tUn, rI0, rI, rU, tTest, tB, tAndV, tOrV, tNotV, tAnd, tOr, tNot, tIf, tChain, tCB, tCons, tNil, tLst, tTup, tCallC, List.getElem?_cons_zero, List.getElem?_cons_succ, List.set_cons_zero, List.set_cons_succ, Option.some.injEq, V.int.injEq, V.bl.injEq, V.ref.injEq, V.ty.injEq, V.str.injEq, List.cons.injEq, exists_eq_left', exists_eq_left, exists_and_left, and_true, true_and, and_assoc, cxK, rIxF, rSetL, rEq, rNe, scal, HO.lst.injEq, HO.tup.injEq, upd_none, ixN_10, ixN_20, ixN_21, ixN_30, ixN_31, ixN_32, upd_same, seqAt_updL, seqAt_updT, atI_0, atI_1, atI_2, atI_3, decide_eq_true_eq, L2.start, List.map_cons, List.map_nil, List.length_cons, List.length_nil, Nat.reduceAdd, Nat.reduceSub, List.replicate_succ, List.replicate_zero, List.cons_append, List.nil_append, List.append_nil, tFor_rng1, tFor_rng2, tFor_list, tFor_tup, CDv, CMul, CPow, sizeLine_eq, Int.reduceLE, Int.reduceLT, Int.reducePow, Int.reduceToNat, Int.reduceAdd, Int.reduceSub, Int.reduceMul, Int.reduceNeg, Nat.reduceLeDiff, Nat.reducePow, Nat.reduceLT, Int.reduceEq, true_or, or_true, ite_true, ite_false, if_true, if_false, Bool.not_true, Bool.not_false, Bool.false_eq_true, decide_true, decide_false, rIxQ, seqQ_updL, seqQ_updT, tupQ_updT, tSl, tNoPart, tPart, rSlQ, rCatQ, tTupQ, tLstQ, tNever, rEqD, rInQ, gTupQ, gCons, gNil, tBM, tBM0, rAppend, rClear, rExtend, rPart, rSlS, rJoin, rIxS, tLRange, tDisp1, tyV, tDGet, rDClear, tRev, tFor_rng3, tLc_rng1, tLc_rng2, tLc_list, tLc_tup, pick_nil, pick_own, pick_cap, join_some, tYes, tCallKC, gk_11, gk_31, tSortDown, tDNewQ, sDPut, tLc_zipS, tLcD, seqQ_T h1,  h1]
    have n1 := numT_len ok.1
    have b1 : (Str.ofString "leaf").length = 4 := by decide +kernel
    have b2 : (Str.ofString " ").length = 1 := blank_len
    refine ⟨by omega, num_log ok.1, by show _ + (numT n).length ≤ _; rw [Str.length_append]; omega, by show (_ ++ numT n).length + _ ≤ _; rw [Str.length_append, Str.length_append]; omega, ⟨_, SqL.of h2⟩, fun D nD => ?_⟩
    refine lc_mapX (L := rows) (f := fun q => q.1) (g := fun q => V.str (rowT q.2.k (q.2.vs.map (·.2)))) h2 nD (Nat.le_trans ok.2.2 (by decide)) (fun q0 hq H' Q' xx qq => ?_) (fun H1 hD x1 => ?_)
    · try walk_at "rn"
      exact ⟨_, q0.2, rfl, (h3 q0 hq).ext xx, ok.2.1 q0 hq, fu q0 hq, qq⟩
    have e : (rows.map fun q => V.str (rowT q.2.k (q.2.vs.map (·.2)))) = (rows.map fun q => rowT q.2.k (q.2.vs.map (·.2))).map V.str := by rw [List.map_map]; rfl
    rw [e] at hD
    have hl : ∀ t ∈ rows.map fun q => rowT q.2.k (q.2.vs.map (·.2)), t.length ≤ 9000 := by
      intro t ht
      obtain ⟨q0, hq, rfl⟩ := List.mem_map.1 ht
      exact rowT_len (ok.2.1 q0 hq)
    have l4 := listT_le (sep := Str.ofString ";") _ hl
    have l5 : (Str.ofString ";").length = 1 := by decide +kernel
    have l6 := ok.2.2
    rw [List.length_map, l5] at l4
    refine ⟨D, _, _, 9000, rfl, hD, l5, hl, ?_, by rw [List.length_map]; omega, fun H2 x2 => ?_⟩
    · intro t ht
      obtain ⟨q0, hq, rfl⟩ := List.mem_map.1 ht
      exact okS_row _ _
    refine ⟨_, rfl, _, rfl, ?_, ?_⟩
    · show (_ ++ numT n ++ _).length + _ ≤ _
      rw [Str.length_append, Str.length_append, Str.length_append]
      omega
    have qq := q _ (x1.trans x2)
    have e2 : (Rm.leaf n ra rows).x pl = Str.ofString "leaf" ++ Str.ofString " " ++ numT n ++ Str.ofString " " ++ listT (Str.ofString ";") (rows.map fun q => rowT q.2.k (q.2.vs.map (·.2))) := by
      show Str.ofString "leaf" ++ Str.ofString " " ++ (numT n ++ Str.ofString " " ++ listT (Str.ofString ";") (rows.map fun q => rowT q.2.k (q.2.vs.map (·.2)))) = _
      simp only [Str.append_assoc]
    rw [e2] at qq
    exact qq
  | inner n pa piv ca ch ta tray =>
    obtain ⟨h1, h2, h3, h4, h5⟩ := hr'
    simp only [tSeq, tNext, tIfS, tAsg, gName, gSub, tRet, tRetN, tDrop, tVar, tC, tOp, tUn, rI0, rI, rU, tTest, tB, tAndV, tOrV, tNotV, tAnd, tOr, tNot, tIf, tChain, tCB, tCons, tNil, tLst, tTup, tCallC, List.getElem?_cons_zero, List.getElem?_cons_succ, List.set_cons_zero, List.set_cons_succ, Option.some.injEq, V.int.injEq, V.bl.injEq, V.ref.injEq, V.ty.injEq, V.str.injEq, List.cons.injEq, exists_eq_left', exists_eq_left, exists_and_left, and_true, true_and, and_assoc, cxK, rIxF, rSetL, rEq, rNe, scal, HO.lst.injEq, HO.tup.injEq, upd_none, ixN_10, ixN_20, ixN_21, ixN_30, ixN_31, ixN_32, upd_same, seqAt_updL, seqAt_updT, atI_0, atI_1, atI_2, atI_3, decide_eq_true_eq, L2.start, List.map_cons, List.map_nil, List.length_cons, List.length_nil, Nat.reduceAdd, Nat.reduceSub, List.replicate_succ, List.replicate_zero, List.cons_append, List.nil_append, List.append_nil, tFor_rng1, tFor_rng2, tFor_list, tFor_tup, CDv, CMul, CPow, sizeLine_eq, Int.reduceLE, Int.reduceLT, Int.reducePow, Int.reduceToNat, Int.reduceAdd, Int.reduceSub, Int.reduceMul, Int.reduceNeg, Nat.reduceLeDiff, Nat.reducePow, Nat.reduceLT, Int.reduceEq, true_or, or_true, ite_true, ite_false, if_true, if_false, Bool.not_true, Bool.not_false, Bool.false_eq_true, decide_true, decide_false, rIxQ, seqQ_updL, seqQ_updT, tupQ_updT, tSl, tNoPart, tPart, rSlQ, rCatQ, tTupQ, tLstQ, tNever, rEqD, rInQ, gTupQ, gCons, gNil, tBM, tBM0, rAppend, rClear, rExtend, rPart, rSlS, rJoin, rIxS, tLRange, tDisp1, tyV, tDGet, rDClear, tRev, tFor_rng3, tLc_rng1, tLc_rng2, tLc_list, tLc_tup, pick_nil, pick_own, pick_cap, join_some, tYes, tCallKC, gk_11, gk_31, tSortDown, tDNewQ, sDPut, tLc_zipS, tLcD, seqQ_T h1,  h1,  s5]
    obtain ⟨okn, okp, lp, okc, lc, okt, lt⟩ := ok
    obtain ⟨kvs, hd, hk⟩ := hp
    have n1 := numT_len okn
    have b1 : (Str.ofString "inner").length = 5 := by decide +kernel
    have b2 : (Str.ofString " ").length = 1 := blank_len
    have c1 : (Str.ofString ",").length = 1 := by decide +kernel
    have c2 : (Str.ofString ";").length = 1 := by decide +kernel
    have c3 : (Str.ofString "@").length = 1 := by decide +kernel
    have hl1 : ∀ t ∈ ch.map (spotT pl), t.length ≤ 203 := by
      intro t ht
      obtain ⟨c, hc, rfl⟩ := List.mem_map.1 ht
      have n1 := numT_len (okc c hc).1
      have n2 := numT_len (okc c hc).2
      unfold spotT
      rw [Str.length_append, Str.length_append]
      omega
    have j1 := join_le (sep := Str.ofString ",") _ hl1
    have j2 := lenAll_le (sep := Str.ofString ",") _ hl1
    rw [List.length_map, c1] at j1 j2
    have hl2 : ∀ t ∈ tray.map fun q => q.2.x, t.length ≤ 600 := by
      intro t ht
      obtain ⟨q0, hq, rfl⟩ := List.mem_map.1 ht
      exact Nt.len (okt q0 hq)
    have l2 := listT_le (sep := Str.ofString ";") _ hl2
    rw [List.length_map, c2] at l2
    have hl3 : ∀ t ∈ piv.map numT, t.length ≤ 101 := by
      intro t ht
      obtain ⟨i, hi, rfl⟩ := List.mem_map.1 ht
      exact numT_len (okp i hi)
    have l3 := listT_le (sep := Str.ofString ",") _ hl3
    rw [List.length_map, c1] at l3
    refine ⟨by omega, num_log okn, by show _ + (numT n).length ≤ _; rw [Str.length_append]; omega, by show (_ ++ numT n).length + _ ≤ _; rw [Str.length_append, Str.length_append]; omega, ⟨_, SqL.of h3⟩, fun D nD => ?_⟩
    refine lc_mapQ (L := ch) (f := V.int) (g := fun c => V.str (spotT pl c)) h3 nD (by omega) (fun c hc H' Q' xx qq => ?_) (fun H1 hD x1 => ?_)
    · have n1 := numT_len (okc c hc).1
      have n2 := numT_len (okc c hc).2
      try walk_at "rn"
      refine ⟨num_log (okc c hc).1, by show (numT c).length + _ ≤ _; omega, .int (pl c), ?_, _, rfl, num_log (okc c hc).2, by show (numT c ++ _).length + (numT (pl c)).length ≤ _; rw [Str.length_append]; omega, qq⟩
      rw [← hk c hc]
      exact DGet.k (k := .inl c) (xx.at hd)
    have e : (ch.map fun c => V.str (spotT pl c)) = (ch.map (spotT pl)).map V.str := by rw [List.map_map]; rfl
    rw [e] at hD
    refine ⟨_, SqL.of hD, by omega, by omega, _, seqQ_T (x1.tup h1), _, rfl, pa, rfl, ⟨_, SqL.of (x1.at h2)⟩, fun D2 nD2 => ?_⟩
    refine lc_mapQ (L := piv) (f := V.int) (g := fun i => V.str (numT i)) (x1.at h2) nD2 (by omega) (fun i hi H' Q' xx qq => ?_) (fun H2 hD2 x2 => ?_)
    · try walk_at "rn"
      exact ⟨num_log (okp i hi), qq⟩
    have e : (piv.map fun i => V.str (numT i)) = (piv.map numT).map V.str := by rw [List.map_map]; rfl
    rw [e] at hD2
    refine ⟨D2, _, _, 101, rfl, hD2, c1, hl3, ?_, by rw [List.length_map]; omega, fun H3 x3 => ?_⟩
    · intro t ht
      obtain ⟨i, hi, rfl⟩ := List.mem_map.1 ht
      exact okS_num i
    simp only [tSeq, tNext, tIfS, tAsg, gName, gSub, tRet, tRetN, tDrop, tVar, tC, tOp, tUn, rI0, rI, rU, tTest, tB, tAndV, tOrV, tNotV, tAnd, tOr, tNot, tIf, tChain, tCB, tCons, tNil, tLst, tTup, tCallC, List.getElem?_cons_zero, List.getElem?_cons_succ, List.set_cons_zero, List.set_cons_succ, Option.some.injEq, V.int.injEq, V.bl.injEq, V.ref.injEq, V.ty.injEq, V.str.injEq, List.cons.injEq, exists_eq_left', exists_eq_left, exists_and_left, and_true, true_and, and_assoc, cxK, rIxF, rSetL, rEq, rNe, scal, HO.lst.injEq, HO.tup.injEq, upd_none, ixN_10, ixN_20, ixN_21, ixN_30, ixN_31, ixN_32, upd_same, seqAt_updL, seqAt_updT, atI_0, atI_1, atI_2, atI_3, decide_eq_true_eq, L2.start, List.map_cons, List.map_nil, List.length_cons, List.length_nil, Nat.reduceAdd, Nat.reduceSub, List.replicate_succ, List.replicate_zero, List.cons_append, List.nil_append, List.append_nil, tFor_rng1, tFor_rng2, tFor_list, tFor_tup, CDv, CMul, CPow, sizeLine_eq, Int.reduceLE, Int.reduceLT, Int.reducePow, Int.reduceToNat, Int.reduceAdd, Int.reduceSub, Int.reduceMul, Int.reduceNeg, Nat.reduceLeDiff, Nat.reducePow, Nat.reduceLT, Int.reduceEq, true_or, or_true, ite_true, ite_false, if_true, if_false, Bool.not_true, Bool.not_false, Bool.false_eq_true, decide_true, decide_false, rIxQ, seqQ_updL, seqQ_updT, tupQ_updT, tSl, tNoPart, tPart, rSlQ, rCatQ, tTupQ, tLstQ, tNever, rEqD, rInQ, gTupQ, gCons, gNil, tBM, tBM0, rAppend, rClear, rExtend, rPart, rSlS, rJoin, rIxS, tLRange, tDisp1, tyV, tDGet, rDClear, tRev, tFor_rng3, tLc_rng1, tLc_rng2, tLc_list, tLc_tup, pick_nil, pick_own, pick_cap, join_some, tYes, tCallKC, gk_11, gk_31, tSortDown, tDNewQ, sDPut, tLc_zipS, tLcD, seqQ_T ((x1.trans (x2.trans x3)).tup h1)]
    have en : Str.ofString (toString n) = numT n := rfl
    rw [en]
    have x13 := x1.trans (x2.trans x3)
    refine ⟨?_, ?_, ?_, ?_, _, rfl, ta, rfl, ⟨_, SqL.of (x13.at h4)⟩, fun D3 nD3 => ?_⟩
    iterate 4
      · simp only [Str.length_append]
        omega
    refine lc_mapX (L := tray) (f := fun q => q.1) (g := fun q => V.str q.2.x) (x13.at h4) nD3 (by omega) (fun q0 hq H' Q' xx qq => ?_) (fun H4 hD4 x4 => ?_)
    · try walk_at "rn"
      exact ⟨_, q0.2, rfl, (h5 q0 hq).ext (x13.trans xx), okt q0 hq, qq⟩
    have e : (tray.map fun q => V.str q.2.x) = (tray.map fun q => q.2.x).map V.str := by rw [List.map_map]; rfl
    rw [e] at hD4
    refine ⟨D3, _, _, 600, rfl, hD4, c2, hl2, ?_, by rw [List.length_map]; omega, fun H5 x5 => ?_⟩
    · intro t ht
      obtain ⟨q0, hq, rfl⟩ := List.mem_map.1 ht
      exact okS_note _
    refine ⟨_, rfl, ?_, ?_⟩
    · simp only [Str.length_append]
      omega
    have qq := q _ (x13.trans (x4.trans x5))
    have ec : listT (Str.ofString ",") (ch.map (spotT pl)) = Str.join (Str.ofString ",") (ch.map (spotT pl)) := by
      unfold listT
      rw [if_neg]
      intro e
      rw [List.map_eq_nil_iff] at e
      have : 0 < ch.length := fu
      rw [e] at this
      exact absurd this (by decide)
    have e2 : (Rm.inner n pa piv ca ch ta tray).x pl = Str.ofString "inner" ++ Str.ofString " " ++ numT n ++ Str.ofString " " ++ listT (Str.ofString ",") (piv.map numT) ++ Str.ofString " " ++ Str.join (Str.ofString ",") (ch.map (spotT pl)) ++ Str.ofString " " ++ listT (Str.ofString ";") (tray.map fun q => q.2.x) := by
      rw [← ec]
      show Str.ofString "inner" ++ Str.ofString " " ++ (numT n ++ Str.ofString " " ++ (listT (Str.ofString ",") (piv.map numT) ++ Str.ofString " " ++ (listT (Str.ofString ",") (ch.map (spotT pl)) ++ Str.ofString " " ++ listT (Str.ofString ";") (tray.map fun q => q.2.x)))) = _
      simp only [Str.append_assoc]
    rw [e2] at qq
    exact qq
end
section
variable {P : Program} {w : World} {K : PySem.W.Frag} {mg : Str → Option Value} {base : Heap} {aG : Addr}
theorem pick_all {α : Type} {R : V → α → Prop} : ∀ vs : List V, (∀ v ∈ vs, ∃ a, R v a) → ∃ L : List (V × α), L.map (·.1) = vs ∧ ∀ q ∈ L, R q.1 q.2
  | [], _ => ⟨[], rfl, fun _ h => by cases h⟩
  | v :: vs, h => by
    obtain ⟨L, e, hL⟩ := pick_all vs fun x m => h x (List.mem_cons_of_mem _ m)
    obtain ⟨a, ha⟩ := h v List.mem_cons_self
    refine ⟨(v, a) :: L, by rw [List.map_cons, e], fun q m => ?_⟩
    rcases List.mem_cons.1 m with rfl | m
    · exact ha
    · exact hL q m
theorem lcw_step {S : V → Hp → Prop} {p D : Addr} {H0 H' H'' : Hp} {acc : List V} {v : V} (pD : p ≠ D) (hD : H' D = some (.lst acc))
    (stab : ∀ v H1 H2, S v H1 → Wl H1 p → (∃ xs, H1 D = some (.lst xs)) → Kp2 K p D H1 H2 → S v H2)
    (hS : ∀ v ∈ acc, S v H') (hp : Wl H' p) (k : Kp2 K p D H0 H') (hv : S v H'') (hp2 : Wl H'' p) (k2 : Kp K p H' H'') :
    H'' D = some (.lst acc) ∧ (∀ u ∈ acc ++ [v], S u (upd H'' D (.lst (acc ++ [v])))) ∧ Wl (upd H'' D (.lst (acc ++ [v]))) p ∧ Kp2 K p D H0 (upd H'' D (.lst (acc ++ [v]))) := by
  have hD2 := k2.keep D _ hD pD.symm
  have k3 : Kp2 K p D H'' (upd H'' D (.lst (acc ++ [v]))) := Kp.r (Kp.upd hD2)
  refine ⟨hD2, fun u hu => ?_, hp2.upd pD, k.trans (k2.l.trans k3)⟩
  rcases List.mem_append.1 hu with h | h
  · exact stab u _ _ (stab u _ _ (hS u h) hp ⟨_, hD⟩ k2.l) hp2 ⟨_, hD2⟩ k3
  · rw [List.mem_singleton] at h
    subst h
    exact stab u _ _ hv hp2 ⟨_, hD2⟩ k3
theorem lcw_list {α : Type} {p c D : Addr} {L : List α} {f : α → V} {te : TE} {v0 : Option V} {rest : St} {H : Hp} {Q : Hp → Prop} (S : V → Hp → Prop) (hk : H c = some (.lst (L.map f))) (nD : new K H D) (hp : Wl H p) (cp : c ≠ p) (hz : L.length ≤ 1000)
    (stab : ∀ v H1 H2, S v H1 → Wl H1 p → (∃ xs, H1 D = some (.lst xs)) → Kp2 K p D H1 H2 → S v H2)
    (elt : ∀ q ∈ L, ∀ H' (Q : VK), Wl H' p → (∃ xs, H' D = some (.lst xs)) → (∀ v H'', S v H'' → Wl H'' p → Kp K p H' H'' → Q v H'') → te (some (f q) :: rest) H' Q)
    (fin : ∀ vs H', H' D = some (.lst vs) → vs.length = L.length → (∀ v ∈ vs, S v H') → Wl H' p → Kp2 K p D (upd H D (.lst [])) H' → Q H') : LcLoop (Itl K c) (gName 0) tYes te D Q (v0 :: rest) (upd H D (.lst [])) := by
  have pD : p ≠ D := (hp.ne nD).symm
  refine lc_list (xs := L.map f) (fun i acc σ' H' => ∃ (v0 : Option V), σ' = v0 :: rest ∧ H' D = some (.lst acc) ∧ acc.length = i ∧ (∀ v ∈ acc, S v H') ∧ Wl H' p ∧ Kp2 K p D (upd H D (.lst [])) H') ?_ ?_ ?_ ?_
  · exact ⟨_, rfl, upd_same, rfl, (fun _ h => by cases h), hp.upd pD, Kp2.refl⟩
  · rintro i acc σ' H' _ ⟨v0, rfl, hD, rfl, _, _, k⟩
    have cD : c ≠ D := ne_of_none hk nD.1
    exact SqL.of (k.keep c _ (by rw [upd_ne cD]; exact hk) cp cD)
  · rintro i x acc σ' H' hx ⟨v0, rfl, hD, rfl, hS, hp1, k⟩
    have hi : acc.length < L.length := by
      have := (List.getElem?_eq_some_iff.1 hx).1
      rwa [List.length_map] at this
    rw [List.getElem?_map] at hx
    obtain ⟨q, ek, rfl⟩ := Option.map_eq_some_iff.mp hx
    unfold gName tYes
    refine iteT ?_
    refine elt q (List.mem_of_getElem? ek) H' _ hp1 ⟨_, hD⟩ fun v H'' hv hp2 k2 => ?_
    obtain ⟨a1, a2, a3, a4⟩ := lcw_step pD hD stab hS hp1 k hv hp2 k2
    exact ⟨a1, Nat.lt_of_lt_of_le hi (Nat.le_trans hz (by decide)), _, rfl, upd_same, by rw [List.length_append]; rfl, a2, a3, a4⟩
  · rintro acc σ' H' ⟨v0, rfl, hD, e, hS, hp1, k⟩
    rw [List.length_map] at e
    exact fin acc H' hD e hS hp1 k
theorem lcw_range {p D : Addr} {n : Nat} {te : TE} {v0 : Option V} {rest : St} {H : Hp} {Q : Hp → Prop} (S : V → Hp → Prop) (nD : new K H D) (hp : Wl H p) (hz : n ≤ 1000)
    (stab : ∀ v H1 H2, S v H1 → Wl H1 p → (∃ xs, H1 D = some (.lst xs)) → Kp2 K p D H1 H2 → S v H2)
    (elt : ∀ (x : V) H' (Q : VK), Wl H' p → (∃ xs, H' D = some (.lst xs)) → (∀ v H'', S v H'' → Wl H'' p → Kp K p H' H'' → Q v H'') → te (some x :: rest) H' Q)
    (fin : ∀ vs H', H' D = some (.lst vs) → vs.length = n → (∀ v ∈ vs, S v H') → Wl H' p → Kp2 K p D (upd H D (.lst [])) H' → Q H') : LcLoop (Itr 0 n) (gName 0) tYes te D Q (v0 :: rest) (upd H D (.lst [])) := by
  have pD : p ≠ D := (hp.ne nD).symm
  refine lc_range (fun i acc σ' H' => ∃ (v0 : Option V), σ' = v0 :: rest ∧ H' D = some (.lst acc) ∧ acc.length = i ∧ (∀ v ∈ acc, S v H') ∧ Wl H' p ∧ Kp2 K p D (upd H D (.lst [])) H') ?_ ?_ ?_
  · exact ⟨_, rfl, upd_same, rfl, (fun _ h => by cases h), hp.upd pD, Kp2.refl⟩
  · rintro i acc σ' H' hi ⟨v0, rfl, hD, rfl, hS, hp1, k⟩
    unfold gName tYes
    refine iteT ?_
    refine elt _ H' _ hp1 ⟨_, hD⟩ fun v H'' hv hp2 k2 => ?_
    obtain ⟨a1, a2, a3, a4⟩ := lcw_step pD hD stab hS hp1 k hv hp2 k2
    exact ⟨a1, Nat.lt_of_lt_of_le hi (Nat.le_trans hz (by decide)), _, rfl, upd_same, by rw [List.length_append]; rfl, a2, a3, a4⟩
  · rintro acc σ' H' ⟨v0, rfl, hD, e, hS, hp1, k⟩
    exact fin acc H' hD e hS hp1 k
theorem Kp2.tup {p D a : Addr} {H H' : Hp} {xs ys zs : List V} (k : Kp2 K p D H H') (hp : H p = some (.lst ys)) (hD : H D = some (.lst zs)) (h : tupQ K H a = some xs) : tupQ K H' a = some xs := by
  unfold tupQ at h ⊢
  cases e : H a with
  | none =>
    rw [e] at h
    rw [k.mod a xs e h]
    exact h
  | some o =>
    rw [k.keep a o e (fun z => by rw [z, hp] at e; cases e; rw [z, hp] at h; cases h) (fun z => by rw [z, hD] at e; cases e; rw [z, hD] at h; cases h)]
    rw [e] at h
    exact h
theorem Kp.updO {p : Addr} {H : Hp} {u o : HO} (h : H p = some u) : Kp K p H (upd H p o) := ⟨fun q u e n => by rw [upd_ne n]; exact e, fun b ys e _ => by rw [upd_ne (fun z => by rw [z, h] at e; cases e)]; exact e⟩
theorem mem_putK {kvs : List (Key × V)} {k : Key} {v : V} {q : Key × V} (h : q ∈ putK kvs k v) : q = (k, v) ∨ (q ∈ kvs ∧ q.1 ≠ k) := by
  unfold putK at h
  split at h
  · obtain ⟨r, hr, rfl⟩ := List.mem_map.1 h
    by_cases e : r.1 = k
    · rw [if_pos e, e]
      exact .inl rfl
    · rw [if_neg e]
      exact .inr ⟨hr, e⟩
  · rename_i c
    rcases List.mem_append.1 h with h | h
    · refine .inr ⟨h, fun e => c ?_⟩
      rw [List.any_eq_true]
      exact ⟨q, h, decide_eq_true e⟩
    · rw [List.mem_singleton] at h
      exact .inl h
def PK (kvs : List (Key × V)) : Prop := ∀ q ∈ kvs, ∃ k i, q = (.inl k, .int i) ∧ valV kvs (.inl k) = some (.int i) ∧ i.natAbs < 10 ^ 100
theorem PK.put {kvs : List (Key × V)} (h : PK kvs) {k i : Int} (hi : i.natAbs < 10 ^ 100) : PK (putK kvs (.inl k) (.int i)) := by
  intro q hq
  rcases mem_putK hq with rfl | ⟨m, ne⟩
  · exact ⟨k, i, rfl, by rw [valV_put, if_pos rfl], hi⟩
  · obtain ⟨k', i', rfl, e, b⟩ := h q m
    exact ⟨k', i', rfl, by rw [valV_put, if_neg ne]; exact e, b⟩
def plOf (kvs : List (Key × V)) (c : Int) : Int := match valV kvs (.inl c) with
  | some (.int i) => i
  | _ => 0
structure DAt (H : Hp) (d : Addr) (kvs : List (Key × V)) : Prop where
  at_ : H d = some (.dK kvs)
  whole : ∀ q ∈ kvs, ∃ k i, q = (.inl k, .int i) ∧ valV kvs (.inl k) = some (.int i)
  few : kvs.length ≤ 60
def spDRoom (K : PySem.W.Frag) : Sp := fun vs H Q _ => ∃ (p : Addr) (m : Int), vs = [.ref p, .int m] ∧ Wl H p ∧ 3 ≤ m ∧ m ≤ 40 ∧
  ∀ (t a d : Addr) (r : Rm) (pl : Int → Int) (kvs : List (Key × V)) (H' : Hp), tupQ K H' t = some [.ref a, .ref d] → r.at K H' a → DAt H' d kvs → (∀ c ∈ r.ch, valV kvs (.inl c) = some (.int (pl c))) → r.ok pl → r.full → Kp K p H H' → Q (.ref t) H'
theorem sc__law_room : FnScope ["_law_state", "_law_most", "_law_keys_here", "_law_many", "_law_children", "_law_turn", "_law_places", "_law_child", "_law_pivots", "_law_tray"] ["_law_state", "_law_most"] (defScope s__law_room) := ⟨rfl, rfl, rfl, by decide +kernel, rfl, by decide +kernel, by decide +kernel⟩
theorem ok__law_room {f : Addr} {fd : FuncData} (F : Fun K "_law_room" "_law_room" s__law_room f fd) (B : B K mg aG) (C__law_digit : Callee P w K mg base "_law_digit" 1 ["_law_state", "_law_base"] (spDigit K)) (C__law_rising : Callee P w K mg base "_law_rising" 2 ["_law_state", "_law_many", "_law_first_here"] (spRising K)) (C__law_first : Callee P w K mg base "_law_first" 2 ["_law_state"] (spFirst K)) (C__law_number : Callee P w K mg base "_law_number" 2 ["_law_state"] (spNumber K)) (C__law_note : Callee P w K mg base "_law_note" 3 ["_law_state"] (spLNote K)) (C__law_versions : Callee P w K mg base "_law_versions" 3 ["_law_state", "_law_most"] (spVersions K)) (C__law_keys : Callee P w K mg base "_law_keys" 3 ["_law_state", "_law_many"] (spKeys K)) (C__law_some : Callee P w K mg base "_law_some" 2 ["_law_state", "_law_most"] (spSome K)) : FnOk P w K mg base CX0 4 f fd ["_law_state", "_law_most"] (spDRoom K) := by
  refine F.okJ sc__law_room (fun vs H Q E h => ?_) (fun cdv A outer s H vs Q E hr h => ?_)
  · obtain ⟨p, m, rfl, _⟩ := h
    rfl
  obtain ⟨p, m, rfl, hp, m0, m1, q⟩ := h
  refine ⟨_, (bcons (sif (tcmp op_eq (ecall C__law_digit (hr.mono (by decide)) rfl (acons (ev 0) (acons ei anil))) ei (nomark _)) (bcons (sset (i := 2) sc__law_room.nd rfl (Or.inl rfl) (ecall C__law_keys (hr.mono (by decide)) rfl (acons (ev 0) (acons (ecall C__law_some (hr.mono (by decide)) rfl (acons (ev 0) (acons (ev 1) anil))) anil))))
      (bone (sret (etupQ (acons (etupQ (acons estr (acons (ecall C__law_first (hr.mono (by decide)) rfl (acons (ev 0) anil)) (acons (elc (Cap.mk (N := ["_law_key", "_law_state", "_law_most"]) (src := [none, some 0, some 1]) rfl rfl) rfl (ilist (ev 2)) (fun _ _ _ _ => (gname (i := 0) (show (["_law_key", "_law_state", "_law_most"] : List Str).Nodup from by decide +kernel) rfl (Or.inl rfl))) (fun _ _ _ _ => fnone) (fun _ _ _ _ => (etupQK K (acons (ev 0) (acons (ecall C__law_versions (hr.mono (by decide)) rfl (acons (ev 1) (acons (ev 2) anil))) anil))))) anil)))) (acons ednewQ anil)))))) bnil)
      (bcons (sset (i := 3) sc__law_room.nd rfl (Or.inl rfl) (eop op_add ei (ecall C__law_digit (hr.mono (by decide)) rfl (acons (ev 0) (acons (eix ix_Q (elstQ (acons ei (acons ei (acons ei (acons ei (acons (ev 1) anil)))))) (ecall C__law_digit (hr.mono (by decide)) rfl (acons (ev 0) (acons ei anil))) (fun _ _ => rfl)) anil)))))
      (bcons (sset (i := 4) sc__law_room.nd rfl (Or.inl rfl) (ecall C__law_rising (hr.mono (by decide)) rfl (acons (ev 0) (acons (ev 3) (acons (ecall C__law_first (hr.mono (by decide)) rfl (acons (ev 0) anil)) anil)))))
      (bcons (sset (i := 5) sc__law_room.nd rfl (Or.inl rfl) (ecall C__law_digit (hr.mono (by decide)) rfl (acons (ev 0) (acons (ev 3) anil))))
      (bcons (sset (i := 4) sc__law_room.nd rfl (Or.inl rfl) (eop op_catQ (eslice sl_listQ (ev 4) (osome (ev 5)) onone) (eslice sl_listQ (ev 4) onone (osome (ev 5)))))
      (bcons (sset (i := 6) sc__law_room.nd rfl (Or.inl rfl) ednewQ)
      (bcons (sfor PassesOwn.never rfl (ilist (ev 4)) (gname (i := 7) sc__law_room.nd rfl (Or.inl rfl))
        (bone (sdput hr.units (ev 6) (ev 7) (ecall C__law_digit (hr.mono (by decide)) rfl (acons (ev 0) (acons (eix ix_Q (elstQ (acons ei (acons ei (acons (epowc 1000000) (acons (epowc 1000000000000000000000000000000000000000000000000000000000000) anil))))) (ecall C__law_digit (hr.mono (by decide)) rfl (acons (ev 0) (acons ei anil))) (fun _ _ => rfl)) anil))))))
      (bcons (slc (i := 8) sc__law_room.nd rfl (Or.inl rfl) (Cap.mk (N := ["_law_k", "_law_state"]) (src := [none, some 0]) rfl rfl) rfl (irange1 rfl B.range (acons (eop op_sub (ev 3) ei) anil)) (fun _ _ _ _ => (gname (i := 0) (show (["_law_k", "_law_state"] : List Str).Nodup from by decide +kernel) rfl (Or.inl rfl))) (fun _ _ _ _ => fnone) (fun _ _ _ _ => (ecall C__law_number (hr.mono (by decide)) rfl (acons (ev 1) anil))))
      (bcons (slc (i := 9) sc__law_room.nd rfl (Or.inl rfl) (Cap.mk (N := ["_law_k", "_law_state"]) (src := [none, some 0]) rfl rfl) rfl (irange1 rfl B.range (acons (ecall C__law_some (hr.mono (by decide)) rfl (acons (ev 0) (acons (ev 1) anil))) anil)) (fun _ _ _ _ => (gname (i := 0) (show (["_law_k", "_law_state"] : List Str).Nodup from by decide +kernel) rfl (Or.inl rfl))) (fun _ _ _ _ => fnone) (fun _ _ _ _ => (ecall C__law_note (hr.mono (by decide)) rfl (acons (ev 1) anil))))
      (bone (sret (etupQ (acons (etupQ (acons estr (acons (ecall C__law_first (hr.mono (by decide)) rfl (acons (ev 0) anil)) (acons (ev 8) (acons (ev 4) (acons (ev 9) anil)))))) (acons (ev 6) anil)))))))))))))), ?_⟩
  try walk_at "rn"
  refine ⟨p, 2, rfl, hp, by decide, by decide, fun c H1 c0 c1 hp1 k1 => ?_⟩
  try walk_at "rn"
  refine ite2 (fun _ => ?_) (fun _ => ?_)
  · refine ⟨p, m, rfl, hp1, by omega, by omega, fun n H2 n0 n1 hp2 k2 => ?_⟩
    obtain ⟨n', rfl⟩ := Int.eq_ofNat_of_zero_le n0
    refine ⟨p, n', rfl, hp2, by omega, fun r ns H3 hr3 ln hb nr hp3 k3 => ?_⟩
    have rp : r ≠ p := fun e => by
      subst e
      obtain ⟨xs, hx⟩ := hp2.lst
      rw [nr] at hx
      cases hx
    refine ⟨p, rfl, hp3, fun i H4 i0 i1 hp4 k4 => ?_⟩
    have hr4 := k4.keep r _ hr3 rp
    try walk_at "rn"
    refine ⟨⟨_, SqL.of hr4⟩, fun D nD => ?_⟩
    refine lcw_list (p := p) (L := ns) (f := V.int) (fun v H => ∃ e : Row, RowAt K H v e ∧ okRow e ∧ 0 < e.vs.length ∧ e.a ≠ p ∧ e.a ≠ D) hr4 nD hp4 rp (by omega) ?_ ?_ ?_
    · rintro v H1 H2 ⟨e, ⟨t, rfl, h1, h2, h3⟩, ok, l0, a1, a2⟩ hp ⟨xs, hD⟩ k
      obtain ⟨ys, hy⟩ := hp.lst
      exact ⟨e, ⟨t, rfl, Kp2.tup k hy hD h1, k.keep _ _ h2 a1 a2, fun q hq => let ⟨t, e, h⟩ := h3 q hq; ⟨t, e, Kp2.tup k hy hD h⟩⟩, ok, l0, a1, a2⟩
    · intro j hj H' Q' hp' hD' qq
      try walk_at "rn"
      refine ⟨p, m, rfl, hp', m0, by omega, fun a L H5 ha hL l0 l1 hp5 k5 na t nt => ?_⟩
      have xt := Ext.new (K := K) (o := .tup [V.int j, V.ref a]) nt
      refine qq _ _ ⟨⟨j, a, L⟩, ⟨t, rfl, tupQ_updT, xt.at ha, fun q hq => (hL q hq).1.ext xt⟩, ⟨?_, fun q hq => (hL q hq).2, l1⟩, l0, ?_, ?_⟩ (hp5.ext xt) (k5.trans xt.kp)
      · have := hb j hj
        show j.natAbs < _
        omega
      · rintro rfl
        obtain ⟨xs, hx⟩ := hp'.lst
        rw [na] at hx
        cases hx
      · rintro rfl
        obtain ⟨xs, hx⟩ := hD'
        rw [na] at hx
        cases hx
    intro vs H5 hD5 lv hS hp5 k5
    obtain ⟨rows, rfl, hrows⟩ := pick_all vs hS
    rw [List.length_map] at lv
    have k05 := k1.trans (k2.trans (k3.trans (k4.trans (k5.kp nD))))
    try walk_at "rn"
    intro a na d nd t nt
    have xa := Ext.new (K := K) (o := .tup [V.str "leaf", V.int i, V.ref D]) na
    have xd := Ext.new (K := K) (o := .dK []) nd
    have xt := Ext.new (K := K) (o := .tup [V.ref a, V.ref d]) nt
    have x := xa.trans (xd.trans xt)
    refine q t a d (.leaf i D rows) (fun _ => 0) [] _ tupQ_updT ⟨(xd.trans xt).tup tupQ_updT, x.at hD5, fun q hq => (hrows q hq).1.ext x⟩ ⟨xt.at upd_same, (fun _ h => by cases h), by decide⟩ (fun _ h => by cases h) ⟨?_, fun q hq => (hrows q hq).2.1, by omega⟩ (fun q hq => (hrows q hq).2.2.1) (k05.trans x.kp)
    omega
  · intro D nD
    have x1 := Ext.new (K := K) (o := .lst [V.int 1, V.int 3, V.int 3, V.int 5, V.int m]) nD
    refine ⟨p, 5, rfl, hp1.ext x1, by decide, by decide, fun d H2 d0 d1 hp2 k2 => ?_⟩
    simp only [tSeq, tNext, tIfS, tAsg, gName, gSub, tRet, tRetN, tDrop, tVar, tC, tOp, tUn, rI0, rI, rU, tTest, tB, tAndV, tOrV, tNotV, tAnd, tOr, tNot, tIf, tChain, tCB, tCons, tNil, tLst, tTup, tCallC, List.getElem?_cons_zero, List.getElem?_cons_succ, List.set_cons_zero, List.set_cons_succ, Option.some.injEq, V.int.injEq, V.bl.injEq, V.ref.injEq, V.ty.injEq, V.str.injEq, List.cons.injEq, exists_eq_left', exists_eq_left, exists_and_left, and_true, true_and, and_assoc, cxK, rIxF, rSetL, rEq, rNe, scal, HO.lst.injEq, HO.tup.injEq, upd_none, ixN_10, ixN_20, ixN_21, ixN_30, ixN_31, ixN_32, upd_same, seqAt_updL, seqAt_updT, atI_0, atI_1, atI_2, atI_3, decide_eq_true_eq, L2.start, List.map_cons, List.map_nil, List.length_cons, List.length_nil, Nat.reduceAdd, Nat.reduceSub, List.replicate_succ, List.replicate_zero, List.cons_append, List.nil_append, List.append_nil, tFor_rng1, tFor_rng2, tFor_list, tFor_tup, CDv, CMul, CPow, sizeLine_eq, Int.reduceLE, Int.reduceLT, Int.reducePow, Int.reduceToNat, Int.reduceAdd, Int.reduceSub, Int.reduceMul, Int.reduceNeg, Nat.reduceLeDiff, Nat.reducePow, Nat.reduceLT, Int.reduceEq, true_or, or_true, ite_true, ite_false, if_true, if_false, Bool.not_true, Bool.not_false, Bool.false_eq_true, decide_true, decide_false, rIxQ, seqQ_updL, seqQ_updT, tupQ_updT, tSl, tNoPart, tPart, rSlQ, rCatQ, tTupQ, tLstQ, tNever, rEqD, rInQ, gTupQ, gCons, gNil, tBM, tBM0, rAppend, rClear, rExtend, rPart, rSlS, rJoin, rIxS, tLRange, tDisp1, tyV, tDGet, rDClear, tRev, tFor_rng3, tLc_rng1, tLc_rng2, tLc_list, tLc_tup, pick_nil, pick_own, pick_cap, join_some, tYes, tCallKC, gk_11, gk_31, tSortDown, tDNewQ, sDPut, tLc_zipS, tLcD, seqQ_lst (k2.keep D _ upd_same (hp1.ne nD))]
    obtain ⟨b, hb, eb⟩ := pickI [1, 3, 3, 5, m] (i := d) d0 d1
    have bb : 0 < b ∧ b ≤ 40 := by
      simp only [List.mem_cons, List.not_mem_nil, or_false] at hb
      rcases hb with rfl | rfl | rfl | rfl | rfl <;> omega
    refine ⟨_, eb, p, b, rfl, hp2, bb.1, by omega, fun j H3 j0 j1 hp3 k3 => ?_⟩
    try walk_at "rn"
    refine ⟨p, rfl, hp3, fun i H4 i0 i1 hp4 k4 => ?_⟩
    obtain ⟨n, en⟩ := Int.eq_ofNat_of_zero_le (a := 1 + j) (by omega)
    refine ⟨p, n, i, by rw [en], hp4, by omega, i0, i1, fun r ns H5 hr5 ln hns pw nr hp5 k5 => ?_⟩
    have k05 := k1.trans (x1.kp.trans (k2.trans (k3.trans (k4.trans k5))))
    have rp : r ≠ p := fun e => by
      subst e
      obtain ⟨xs, hx⟩ := hp4.lst
      rw [nr] at hx
      cases hx
    try walk_at "rn"
    refine ⟨p, _, rfl, hp5, by omega, by omega, fun u H6 u0 u1 hp6 k6 => ?_⟩
    have hr6 := k6.keep r _ hr5 rp
    try walk_at "rn"
    obtain ⟨u', rfl⟩ := Int.eq_ofNat_of_zero_le u0
    refine ⟨_, SqL.of hr6, fun b1 n1 => ?_⟩
    have y1 := Ext.new (K := K) (o := .lst (cutV (ns.map V.int) (some (u' : Int)) none)) n1
    refine ⟨_, SqL.of (y1.at hr6), fun b2 n2 => ?_⟩
    have y2 := Ext.new (K := K) (o := .lst (cutV (ns.map V.int) none (some (u' : Int)))) n2
    refine ⟨_, y2.at upd_same, ?_, fun ca nca d nd => ?_⟩
    · have h1 := cutV_length (ns.map V.int) (some (u' : Int)) none
      have h2 := cutV_length (ns.map V.int) none (some (u' : Int))
      rw [List.length_map] at h1 h2
      omega
    have ech : cutV (ns.map V.int) (some (u' : Int)) none ++ cutV (ns.map V.int) none (some (u' : Int)) = (ns.drop u' ++ ns.take u').map V.int := by
      rw [cutV_from, cutV_to, List.map_append, List.map_drop, List.map_take]
    rw [ech] at nd ⊢
    have lch : (ns.drop u' ++ ns.take u').length = n := by
      rw [List.length_append, List.length_drop, List.length_take]
      omega
    have bch : ∀ c ∈ ns.drop u' ++ ns.take u', c.natAbs < 10 ^ 100 := by
      intro c hc
      have hm : c ∈ ns := by
        rcases List.mem_append.1 hc with h | h
        · exact List.mem_of_mem_drop h
        · exact List.mem_of_mem_take h
      have := hns c hm
      omega
    generalize ns.drop u' ++ ns.take u' = ch at nd lch bch ⊢
    clear ech
    have y3 := Ext.new (K := K) (o := .lst (ch.map V.int)) nca
    have y4 := Ext.new (K := K) (o := .dK []) nd
    have x9 := y1.trans (y2.trans (y3.trans y4))
    have hp9 := hp6.ext x9
    have hca9 := y4.at (upd_same (H := upd (upd H6 b1 (.lst (cutV (ns.map V.int) (some (u' : Int)) none))) b2 (.lst (cutV (ns.map V.int) none (some (u' : Int))))) (a := ca) (o := .lst (ch.map V.int)))
    have k09 := k05.trans (k6.trans x9.kp)
    have cap : ca ≠ p := (hp6.ext (y1.trans y2)).ne nca
    have dp : d ≠ p := (hp6.ext (y1.trans (y2.trans y3))).ne nd
    have hdn : H d = none := (hp6.ext (y1.trans (y2.trans y3))).back (k05.trans (k6.trans (y1.trans (y2.trans y3)).kp)) nd.1
    have cad : ca ≠ d := ne_of_none upd_same nd.1
    have hd9 : upd (upd (upd (upd H6 b1 (.lst (cutV (ns.map V.int) (some (u' : Int)) none))) b2 (.lst (cutV (ns.map V.int) none (some (u' : Int))))) ca (.lst (ch.map V.int))) d (.dK []) d = some (.dK []) := upd_same
    generalize upd (upd (upd (upd H6 b1 (.lst (cutV (ns.map V.int) (some (u' : Int)) none))) b2 (.lst (cutV (ns.map V.int) none (some (u' : Int))))) ca (.lst (ch.map V.int))) d (.dK []) = H9 at hp9 hca9 k09 hd9 ⊢
    refine ⟨⟨_, SqL.of hca9⟩, ?_⟩
    refine loop_list (xs := ch.map V.int) (fun k σ H' => ∃ (v7 : Option V) (kvs : List (Key × V)), σ = [some (.ref p), some (.int m), none, some (.int (1 + j)), some (.ref ca), some (.int u'), some (.ref d), v7, none, none] ∧ H' d = some (.dK kvs) ∧ PK kvs ∧ (∀ c ∈ ch.take k, ∃ i, valV kvs (.inl c) = some (.int i)) ∧ kvs.length ≤ k ∧ Wl H' p ∧ Kp2 K p d H9 H') ⟨_, [], rfl, hd9, (fun _ h => by cases h), (fun _ h => by cases h), Nat.le_refl _, hp9, Kp2.refl⟩ ?_ ?_ ?_
    · rintro k σ H' _ ⟨_, _, _, _, _, _, _, _, kk⟩
      exact SqL.of (kk.keep ca _ hca9 cap cad)
    · rintro k x σ H' hx ⟨v7, kvs, rfl, hd, pk, hc, lk, hp', kk⟩
      rw [List.getElem?_map] at hx
      obtain ⟨c, hcc, rfl⟩ := Option.map_eq_some_iff.mp hx
      have hk : k < ch.length := (List.getElem?_eq_some_iff.1 hcc).1
      try walk_at "rn"
      intro D2 nD2
      have z1 := Ext.new (K := K) (o := .lst [V.int 2, V.int 10, V.int 1000000, V.int 1000000000000000000000000000000000000000000000000000000000000]) nD2
      refine ⟨p, 4, rfl, hp'.ext z1, by decide, by decide, fun e H2 e0 e1 hp2 k2 => ?_⟩
      simp only [tSeq, tNext, tIfS, tAsg, gName, gSub, tRet, tRetN, tDrop, tVar, tC, tOp, tUn, rI0, rI, rU, tTest, tB, tAndV, tOrV, tNotV, tAnd, tOr, tNot, tIf, tChain, tCB, tCons, tNil, tLst, tTup, tCallC, List.getElem?_cons_zero, List.getElem?_cons_succ, List.set_cons_zero, List.set_cons_succ, Option.some.injEq, V.int.injEq, V.bl.injEq, V.ref.injEq, V.ty.injEq, V.str.injEq, List.cons.injEq, exists_eq_left', exists_eq_left, exists_and_left, and_true, true_and, and_assoc, cxK, rIxF, rSetL, rEq, rNe, scal, HO.lst.injEq, HO.tup.injEq, upd_none, ixN_10, ixN_20, ixN_21, ixN_30, ixN_31, ixN_32, upd_same, seqAt_updL, seqAt_updT, atI_0, atI_1, atI_2, atI_3, decide_eq_true_eq, L2.start, List.map_cons, List.map_nil, List.length_cons, List.length_nil, Nat.reduceAdd, Nat.reduceSub, List.replicate_succ, List.replicate_zero, List.cons_append, List.nil_append, List.append_nil, tFor_rng1, tFor_rng2, tFor_list, tFor_tup, CDv, CMul, CPow, sizeLine_eq, Int.reduceLE, Int.reduceLT, Int.reducePow, Int.reduceToNat, Int.reduceAdd, Int.reduceSub, Int.reduceMul, Int.reduceNeg, Nat.reduceLeDiff, Nat.reducePow, Nat.reduceLT, Int.reduceEq, true_or, or_true, ite_true, ite_false, if_true, if_false, Bool.not_true, Bool.not_false, Bool.false_eq_true, decide_true, decide_false, rIxQ, seqQ_updL, seqQ_updT, tupQ_updT, tSl, tNoPart, tPart, rSlQ, rCatQ, tTupQ, tLstQ, tNever, rEqD, rInQ, gTupQ, gCons, gNil, tBM, tBM0, rAppend, rClear, rExtend, rPart, rSlS, rJoin, rIxS, tLRange, tDisp1, tyV, tDGet, rDClear, tRev, tFor_rng3, tLc_rng1, tLc_rng2, tLc_list, tLc_tup, pick_nil, pick_own, pick_cap, join_some, tYes, tCallKC, gk_11, gk_31, tSortDown, tDNewQ, sDPut, tLc_zipS, tLcD, seqQ_lst (k2.keep D2 _ upd_same (hp'.ne nD2))]
      obtain ⟨b, hb, eb⟩ := pickI [2, 10, 10 ^ 6, 10 ^ 60] (i := e) e0 e1
      have bb : 0 < b ∧ b ≤ 10 ^ 60 := by
        simp only [List.mem_cons, List.not_mem_nil, or_false] at hb
        rcases hb with rfl | rfl | rfl | rfl <;> exact ⟨by decide, by decide⟩
      refine ⟨_, eb, p, b, rfl, hp2, bb.1, by omega, fun v H3 v0 v1 hp3 k3 => ?_⟩
      have hd3 := k3.keep d _ (k2.keep d _ (z1.at hd) dp) dp
      try walk_at "rn"
      refine ⟨_, DPut.k (k := .inl c) hd3 (Nat.lt_of_le_of_lt (show kvs.length ≤ 40 by omega) (by decide)), putK kvs (.inl c) (.int v), upd_same, pk.put (by omega), fun c' hc' => ?_, Nat.le_trans (length_putK _ _ _) (Nat.succ_le_succ lk), hp3.upd dp.symm, kk.trans (z1.kp2.trans (k2.l.trans (k3.l.trans (Kp.r (Kp.updO hd3)))))⟩
      rw [valV_put]
      by_cases e : (Sum.inl c' : Key) = .inl c
      · rw [if_pos e]
        exact ⟨_, rfl⟩
      · rw [if_neg e]
        rw [List.take_add_one, hcc, Option.toList_some] at hc'
        rcases List.mem_append.1 hc' with h | h
        · exact hc c' h
        · rw [List.mem_singleton] at h
          exact absurd (congrArg _ h) e
    rintro σ H' ⟨v7, kvs, rfl, hd, pk, hc, lk, hp', kk⟩
    rw [List.length_map] at hc lk
    rw [List.take_length] at hc
    have hcaA := kk.keep ca _ hca9 cap cad
    try walk_at "rn"
    refine ⟨by omega, by omega, fun pa npa => ?_⟩
    have pap : pa ≠ p := hp'.ne npa
    refine lcw_range (p := p) (fun v H => ∃ i : Int, v = .int i ∧ i.natAbs < 10 ^ 60) npa hp' (by omega) (fun _ _ _ h _ _ _ => h) ?_ ?_
    · intro x H2 Q2 hp2 hD2 qq
      try walk_at "rn"
      exact ⟨p, rfl, hp2, fun i H3 ib hp3 k3 => qq _ _ ⟨i, rfl, ib⟩ hp3 k3⟩
    intro vs HB hpaB lpa hS hpB kB
    obtain ⟨pL, rfl, hpL⟩ := pick_all vs hS
    have epL : pL.map (·.1) = (pL.map (·.2)).map V.int := by
      rw [List.map_map]
      exact List.map_congr_left fun q hq => (hpL q hq).1
    rw [epL] at hpaB lpa
    rw [List.length_map] at lpa
    have bpL : ∀ i ∈ pL.map (·.2), i.natAbs < 10 ^ 100 := by
      intro i hi
      obtain ⟨q0, hq, rfl⟩ := List.mem_map.1 hi
      have := (hpL q0 hq).2
      omega
    generalize pL.map (·.2) = piv at hpaB lpa bpL
    clear epL hS hpL
    have k0A : Kp K p H H' := ⟨fun r o h n => kk.keep r o (k09.keep r o h n) n (fun e => by subst e; rw [hdn] at h; cases h), fun a xs h k => kk.mod a xs (k09.mod a xs h k) k⟩
    have kAB := kB.kp npa
    have hcaB := kAB.keep ca _ hcaA cap
    have hdB := kAB.keep d _ hd dp
    refine ⟨p, m, rfl, hpB, by omega, by omega, fun e HC e0 e1 hpC kC => ?_⟩
    try walk_at "rn"
    refine ⟨by omega, by omega, fun ta nta => ?_⟩
    have tap : ta ≠ p := hpC.ne nta
    refine lcw_range (p := p) (fun v H => ∃ e : Nt, NoteAt K H v e ∧ e.ok) nta hpC (by omega) ?_ ?_ ?_
    · rintro v G1 G2 ⟨e, ⟨a, w, r, s, rfl, h1, h2, h3, h4⟩, ok⟩ hp ⟨xs, hD⟩ k
      obtain ⟨ys, hy⟩ := hp.lst
      exact ⟨e, ⟨a, w, r, s, rfl, Kp2.tup k hy hD h1, Kp2.tup k hy hD h2, Kp2.tup k hy hD h3, Kp2.tup k hy hD h4⟩, ok⟩
    · intro x G2 Q2 hp2 hD2 qq
      try walk_at "rn"
      exact ⟨p, rfl, hp2, fun v e H3 ne oke hp3 k3 => qq _ _ ⟨e, ne, oke⟩ hp3 k3⟩
    intro vs HD htaD lta hS hpD kD
    obtain ⟨tray, rfl, htray⟩ := pick_all vs hS
    rw [List.length_map] at lta
    have kBD := kC.trans (kD.kp nta)
    have hcaD := kBD.keep ca _ hcaB cap
    have hdD := kBD.keep d _ hdB dp
    have hpaD := kBD.keep pa _ hpaB pap
    refine ⟨p, rfl, hpD, fun f HE f0 f1 hpE kE => ?_⟩
    try walk_at "rn"
    intro a na t nt
    obtain ⟨ysD, hyD⟩ := hpD.lst
    have xa := Ext.new (K := K) (o := .tup [V.str "inner", V.int f, V.ref pa, V.ref ca, V.ref ta]) na
    have xt := Ext.new (K := K) (o := .tup [V.ref a, V.ref d]) nt
    have x := xa.trans xt
    refine q t a d (.inner f pa piv ca ch ta tray) (plOf kvs) kvs _ tupQ_updT ⟨xt.tup tupQ_updT, x.at (kE.keep pa _ hpaD pap), x.at (kE.keep ca _ hcaD cap), x.at (kE.keep ta _ htaD tap), fun q hq => ?_⟩ ⟨x.at (kE.keep d _ hdD dp), fun q hq => ?_, by omega⟩ (fun c hc' => ?_) ⟨by omega, bpL, by omega, fun c hc' => ⟨bch c hc', ?_⟩, by omega, fun q hq => (htray q hq).2, by omega⟩ (show 0 < ch.length by omega) (k0A.trans (kAB.trans (kBD.trans (kE.trans x.kp))))
    · obtain ⟨a, w, r, s, e, h1, h2, h3, h4⟩ := (htray q hq).1
      exact ⟨a, w, r, s, e, x.tup (kE.tup hyD h1), x.tup (kE.tup hyD h2), x.tup (kE.tup hyD h3), x.tup (kE.tup hyD h4)⟩
    · obtain ⟨k, i, e1, e2, _⟩ := pk q hq
      exact ⟨k, i, e1, e2⟩
    · obtain ⟨i, e⟩ := hc c hc'
      rw [e]
      unfold plOf
      rw [e]
    · obtain ⟨i, e⟩ := hc c hc'
      have hm : ((.inl c, .int i) : Key × V) ∈ kvs := by
        unfold valV at e
        obtain ⟨q, hq, e2⟩ := Option.map_eq_some_iff.mp e
        have h1 := List.find?_some hq
        have h2 := List.mem_of_find?_eq_some hq
        have h3 := of_decide_eq_true h1
        have : q = (.inl c, .int i) := Prod.ext h3 e2
        rwa [this] at h2
      obtain ⟨k', i', e1, e2, b⟩ := pk _ hm
      have : i = i' := by injection e1 with _ e1; injection e1
      unfold plOf
      rw [e]
      show i.natAbs < _
      omega
end
section
variable {P : Program} {w : World} {K : PySem.W.Frag} {mg : Str → Option Value} {base : Heap} {aG : Addr}
def Alk (K : PySem.W.Frag) (H : Hp) : Nat → V → V → Prop
  | 0, _, _ => False
  | n + 1, u, v => (u = v ∧ ((∃ i, v = .int i) ∨ v = .non ∨ ∃ s, v = .str s)) ∨
    (∃ a b xs ys, u = .ref a ∧ v = .ref b ∧ H a = some (.lst xs) ∧ H b = some (.lst ys) ∧ xs.length = ys.length ∧ xs.length ≤ 1000 ∧ ∀ (i : Nat) x y, xs[i]? = some x → ys[i]? = some y → Alk K H n x y) ∨
    (∃ a b xs ys, u = .ref a ∧ v = .ref b ∧ tupQ K H a = some xs ∧ tupQ K H b = some ys ∧ xs.length = ys.length ∧ xs.length ≤ 1000 ∧ ∀ (i : Nat) x y, xs[i]? = some x → ys[i]? = some y → Alk K H n x y) ∨
    (∃ a b kvs, u = .ref a ∧ v = .ref b ∧ a ≠ b ∧ DAt H a kvs ∧ DAt H b kvs ∧ 0 < n)
theorem Alk.ext {H H' : Hp} (x : Ext K H H') : ∀ {n : Nat} {u v : V}, Alk K H n u v → Alk K H' n u v
  | 0, _, _, h => h
  | n + 1, u, v, h => by
    rcases h with h | ⟨a, b, xs, ys, rfl, rfl, h1, h2, l1, l2, h⟩ | ⟨a, b, xs, ys, rfl, rfl, h1, h2, l1, l2, h⟩ | ⟨a, b, kvs, rfl, rfl, ne, h1, h2, l⟩
    · exact .inl h
    · exact .inr (.inl ⟨a, b, xs, ys, rfl, rfl, x.at h1, x.at h2, l1, l2, fun i p q e f => (h i p q e f).ext x⟩)
    · exact .inr (.inr (.inl ⟨a, b, xs, ys, rfl, rfl, x.tup h1, x.tup h2, l1, l2, fun i p q e f => (h i p q e f).ext x⟩))
    · exact .inr (.inr (.inr ⟨a, b, kvs, rfl, rfl, ne, ⟨x.at h1.at_, h1.whole, h1.few⟩, ⟨x.at h2.at_, h2.whole, h2.few⟩, l⟩))
theorem Alk.int {H : Hp} {n : Nat} {i : Int} : Alk K H (n + 1) (.int i) (.int i) := .inl ⟨rfl, .inl ⟨_, rfl⟩⟩
theorem Alk.str {H : Hp} {n : Nat} {s : Str} : Alk K H (n + 1) (.str s) (.str s) := .inl ⟨rfl, .inr (.inr ⟨_, rfl⟩)⟩
theorem Alk.opt {H : Hp} {n : Nat} {o : Option Int} : Alk K H (n + 1) (oV o) (oV o) := by
  cases o with
  | none => exact .inl ⟨rfl, .inr (.inl rfl)⟩
  | some i => exact .int
inductive Each (R : V → V → Prop) : List V → List V → Prop where
  | nil : Each R [] []
  | cons {x y : V} {xs ys : List V} : R x y → Each R xs ys → Each R (x :: xs) (y :: ys)
theorem Each.len {R : V → V → Prop} {xs ys : List V} (h : Each R xs ys) : xs.length = ys.length := by
  induction h with
  | nil => rfl
  | cons _ _ ih => rw [List.length_cons, List.length_cons, ih]
theorem Each.get {R : V → V → Prop} {xs ys : List V} (h : Each R xs ys) : ∀ (i : Nat) x y, xs[i]? = some x → ys[i]? = some y → R x y := by
  induction h with
  | nil => intro i x y e; cases e
  | cons r _ ih =>
    intro i x y e f
    cases i with
    | zero => cases e; cases f; exact r
    | succ i => exact ih i x y e f
theorem Each.map {α : Type} {R : V → V → Prop} {f g : α → V} : ∀ (L : List α), (∀ q ∈ L, R (f q) (g q)) → Each R (L.map f) (L.map g)
  | [], _ => .nil
  | q :: L, h => .cons (h q List.mem_cons_self) (Each.map L fun p m => h p (List.mem_cons_of_mem _ m))
theorem Alk.lst {H : Hp} {n : Nat} {a b : Addr} {xs ys : List V} (h1 : H a = some (.lst xs)) (h2 : H b = some (.lst ys)) (hl : xs.length ≤ 1000) (h : Each (Alk K H n) xs ys) : Alk K H (n + 1) (.ref a) (.ref b) :=
  .inr (.inl ⟨a, b, xs, ys, rfl, rfl, h1, h2, h.len, hl, h.get⟩)
theorem Alk.tup {H : Hp} {n : Nat} {a b : Addr} {xs ys : List V} (h1 : tupQ K H a = some xs) (h2 : tupQ K H b = some ys) (hl : xs.length ≤ 1000) (h : Each (Alk K H n) xs ys) : Alk K H (n + 1) (.ref a) (.ref b) :=
  .inr (.inr (.inl ⟨a, b, xs, ys, rfl, rfl, h1, h2, h.len, hl, h.get⟩))
theorem VerAt.alk {H : Hp} {n : Nat} {u : V} {q : Int × Option Int} (h : VerAt K H u q) : Alk K H (n + 2) u u := by
  obtain ⟨t, rfl, h⟩ := h
  exact .tup h h (Nat.le_of_ble_eq_true rfl) (.cons .int (.cons .opt .nil))
theorem Half.alk {H : Hp} {n : Nat} {t : Addr} {h : Half} (e : tupQ K H t = some h.v) : Alk K H (n + 2) (.ref t) (.ref t) := by
  cases h with
  | plus i => exact .tup e e (Nat.le_of_ble_eq_true rfl) (.cons .str (.cons .int .nil))
  | is i => exact .tup e e (Nat.le_of_ble_eq_true rfl) (.cons .str (.cons .int .nil))
  | gone => exact .tup e e (Nat.le_of_ble_eq_true rfl) (.cons .str .nil)
theorem NoteAt.alk {H : Hp} {n : Nat} {u : V} {e : Nt} (h : NoteAt K H u e) : Alk K H (n + 4) u u := by
  obtain ⟨a, w, r, s, rfl, h1, h2, h3, h4⟩ := h
  exact .tup h1 h1 (Nat.le_of_ble_eq_true rfl) (.cons .int (.cons .int (.cons .int (.cons (.tup h2 h2 (Nat.le_of_ble_eq_true rfl) (.cons (Half.alk h3) (.cons (Half.alk h4) .nil))) .nil))))
def rowF (q : V × Row) : Int × List (V × (Int × Option Int)) := (q.2.k, q.2.vs)
theorem RowAt.alk {H : Hp} {u v : V} {r r' : Row} (h : RowAt K H u r) (h' : RowAt K H v r') (ok : okRow r) (ek : r.k = r'.k) (ev : r.vs = r'.vs) : Alk K H 4 u v := by
  obtain ⟨t, rfl, h1, h2, h3⟩ := h
  obtain ⟨t', rfl, h1', h2', h3'⟩ := h'
  rw [ek] at h1
  rw [ev] at h2
  refine .tup h1 h1' (Nat.le_of_ble_eq_true rfl) (.cons .int (.cons (.lst h2 h2' ?_ (.map _ fun q hq => (h3' q hq).alk)) .nil))
  rw [List.length_map, ← ev]
  exact Nat.le_trans ok.2.2 (by decide)
theorem rows_alk {H : Hp} : ∀ (L M : List (V × Row)), L.map rowF = M.map rowF → (∀ q ∈ L, RowAt K H q.1 q.2) → (∀ q ∈ M, RowAt K H q.1 q.2 ∧ okRow q.2) → Each (Alk K H 4) (L.map (·.1)) (M.map (·.1))
  | [], [], _, _, _ => .nil
  | [], _ :: _, e, _, _ => by cases e
  | _ :: _, [], e, _, _ => by cases e
  | p :: L, q :: M, e, h, h' => by
    rw [List.map_cons, List.map_cons] at e
    injection e with e1 e2
    have hq := h' q List.mem_cons_self
    have ek : p.2.k = q.2.k := congrArg Prod.fst e1
    have ev : p.2.vs = q.2.vs := congrArg Prod.snd e1
    refine .cons (RowAt.alk (h p List.mem_cons_self) hq.1 ?_ ek ev) (rows_alk L M e2 (fun x m => h x (List.mem_cons_of_mem _ m)) fun x m => h' x (List.mem_cons_of_mem _ m))
    unfold okRow
    rw [ek, ev]
    exact hq.2
theorem rows_ok {L M : List (V × Row)} (e : L.map rowF = M.map rowF) (h : ∀ q ∈ M, okRow q.2) : ∀ q ∈ L, okRow q.2 := by
  intro q hq
  have : rowF q ∈ M.map rowF := by rw [← e]; exact List.mem_map_of_mem hq
  obtain ⟨r, hr, er⟩ := List.mem_map.1 this
  have ek : r.2.k = q.2.k := congrArg Prod.fst er
  have ev : r.2.vs = q.2.vs := congrArg Prod.snd er
  have := h r hr
  unfold okRow at this ⊢
  rw [ek, ev] at this
  exact this
def Rm.third : Rm → Addr
  | .leaf _ ra _ => ra
  | .inner _ pa _ _ _ _ _ => pa
def spCopy (K : PySem.W.Frag) : Sp := fun vs H Q _ => ∃ (a : Addr) (r : Rm) (pl0 : Int → Int), vs = [.ref a] ∧ r.at K H a ∧ r.ok pl0 ∧
  ∀ (a' : Addr) (r' : Rm) (H' : Hp), r'.at K H' a' → r'.ch = r.ch → (∀ pl, r.ok pl → r'.ok pl) → (∀ pl, r'.x pl = r.x pl) → H r'.third = none → kTup K r'.third = none → Alk K H' 6 (.ref a') (.ref a) → Ext K H H' → Q (.ref a') H'
theorem sc__law_copy : FnScope ["_law_room_here"] ["_law_room_here"] (defScope s__law_copy) := ⟨rfl, rfl, rfl, by decide +kernel, rfl, by decide +kernel, by decide +kernel⟩
theorem ok__law_copy {f : Addr} {fd : FuncData} (F : Fun K "_law_copy" "_law_copy" s__law_copy f fd) (B : B K mg aG) : FnOk P w K mg base CX0 1 f fd ["_law_room_here"] (spCopy K) := by
  refine F.okJ sc__law_copy (fun vs H Q E h => ?_) (fun cdv A outer s H vs Q E hr h => ?_)
  · obtain ⟨a, r, pl, rfl, _⟩ := h
    rfl
  obtain ⟨a, r, pl, rfl, hr', ok, q⟩ := h
  refine ⟨_, (bcons (sif (tcmp op_eq (eix ix_Q (ev 0) ei (fun _ _ => rfl)) estr (nomark _)) (bone (sret (etupQ (acons estr (acons (eix ix_Q (ev 0) ei (fun _ _ => rfl)) (acons (elc (Cap.mk (N := ["_law_key", "_law_versions_here"]) (src := [none, none]) rfl rfl) rfl (ilist (eix ix_Q (ev 0) ei (fun _ _ => rfl))) (fun _ _ _ _ => (gtupQK K (n := 2) rfl (gcons (gname (i := 0) (show (["_law_key", "_law_versions_here"] : List Str).Nodup from by decide +kernel) rfl (Or.inl rfl)) (gcons (gname (i := 1) (show (["_law_key", "_law_versions_here"] : List Str).Nodup from by decide +kernel) rfl (Or.inl rfl)) gnil)))) (fun _ _ _ _ => fnone) (fun _ _ _ _ => (etupQK K (acons (ev 0) (acons (ecallTy (call_list_ofQK K) rfl B.list bt_list (acons (ev 1) anil)) anil))))) anil)))))) bnil)
      (bone (sret (etupQ (acons estr (acons (eix ix_Q (ev 0) ei (fun _ _ => rfl)) (acons (ecallTy call_list_ofQ rfl B.list bt_list (acons (eix ix_Q (ev 0) ei (fun _ _ => rfl)) anil)) (acons (ecallTy call_list_ofQ rfl B.list bt_list (acons (eix ix_Q (ev 0) ei (fun _ _ => rfl)) anil)) (acons (ecallTy call_list_ofQ rfl B.list bt_list (acons (eix ix_Q (ev 0) ei (fun _ _ => rfl)) anil)) anil))))))))), ?_⟩
  cases r with
  | leaf n ra rows =>
    obtain ⟨h1, h2, h3⟩ := hr'
    simp only [tSeq, tNext, tIfS, tAsg, gName, gSub, tRet, tRetN, tDrop, tVar, tC, tOp, tUn, rI0, rI, rU, tTest, tB, tAndV, tOrV, tNotV, tAnd, tOr, tNot, tIf, tChain, tCB, tCons, tNil, tLst, tTup, tCallC, List.getElem?_cons_zero, List.getElem?_cons_succ, List.set_cons_zero, List.set_cons_succ, Option.some.injEq, V.int.injEq, V.bl.injEq, V.ref.injEq, V.ty.injEq, V.str.injEq, List.cons.injEq, exists_eq_left', exists_eq_left, exists_and_left, and_true, true_and, and_assoc, cxK, rIxF, rSetL, rEq, rNe, scal, HO.lst.injEq, HO.tup.injEq, upd_none, ixN_10, ixN_20, ixN_21, ixN_30, ixN_31, ixN_32, upd_same, seqAt_updL, seqAt_updT, atI_0, atI_1, atI_2, atI_3, decide_eq_true_eq, L2.start, List.map_cons, List.map_nil, List.length_cons, List.length_nil, Nat.reduceAdd, Nat.reduceSub, List.replicate_succ, List.replicate_zero, List.cons_append, List.nil_append, List.append_nil, tFor_rng1, tFor_rng2, tFor_list, tFor_tup, CDv, CMul, CPow, sizeLine_eq, Int.reduceLE, Int.reduceLT, Int.reducePow, Int.reduceToNat, Int.reduceAdd, Int.reduceSub, Int.reduceMul, Int.reduceNeg, Nat.reduceLeDiff, Nat.reducePow, Nat.reduceLT, Int.reduceEq, true_or, or_true, ite_true, ite_false, if_true, if_false, Bool.not_true, Bool.not_false, Bool.false_eq_true, decide_true, decide_false, rIxQ, seqQ_updL, seqQ_updT, tupQ_updT, tSl, tNoPart, tPart, rSlQ, rCatQ, tTupQ, tLstQ, tNever, rEqD, rInQ, gTupQ, gCons, gNil, tBM, tBM0, rAppend, rClear, rExtend, rPart, rSlS, rJoin, rIxS, tLRange, tDisp1, tyV, tDGet, rDClear, tRev, tFor_rng3, tLc_rng1, tLc_rng2, tLc_list, tLc_tup, pick_nil, pick_own, pick_cap, join_some, tYes, tCallKC, gk_11, gk_31, tSortDown, tDNewQ, sDPut, tLc_zipS, tLcD, seqQ_T h1,  h1]
    refine ⟨⟨_, SqL.of h2⟩, fun D nD => ?_⟩
    refine lc_list (xs := rows.map (·.1)) (fun i acc σ' H' => ∃ (v0 v1 : Option V) (L : List (V × Row)), σ' = [v0, v1] ∧ H' D = some (.lst acc) ∧ acc = L.map (·.1) ∧ L.map rowF = (rows.take i).map rowF ∧ (∀ q ∈ L, RowAt K H' q.1 q.2 ∧ q.2.a ≠ D) ∧ Kp K D (upd H D (.lst [])) H') ?_ ?_ ?_ ?_
    · exact ⟨_, _, [], rfl, upd_same, rfl, rfl, (fun _ h => by cases h), Kp.refl⟩
    · rintro i acc σ' H' _ ⟨_, _, L, rfl, hD, rfl, _, _, k⟩
      exact SqL.of ((k.ext nD).at h2)
    · rintro i x acc σ' H' hx ⟨_, _, L, rfl, hD, rfl, eL, hL, k⟩
      have hi : i < rows.length := by
        have := (List.getElem?_eq_some_iff.1 hx).1
        rwa [List.length_map] at this
      rw [List.getElem?_map] at hx
      obtain ⟨q0, ek, rfl⟩ := Option.map_eq_some_iff.mp hx
      have x1 := k.ext nD
      obtain ⟨t, et, g1, g2, g3⟩ := (h3 q0 (List.mem_of_getElem? ek)).ext x1
      rw [et]
      simp only [tSeq, tNext, tIfS, tAsg, gName, gSub, tRet, tRetN, tDrop, tVar, tC, tOp, tUn, rI0, rI, rU, tTest, tB, tAndV, tOrV, tNotV, tAnd, tOr, tNot, tIf, tChain, tCB, tCons, tNil, tLst, tTup, tCallC, List.getElem?_cons_zero, List.getElem?_cons_succ, List.set_cons_zero, List.set_cons_succ, Option.some.injEq, V.int.injEq, V.bl.injEq, V.ref.injEq, V.ty.injEq, V.str.injEq, List.cons.injEq, exists_eq_left', exists_eq_left, exists_and_left, and_true, true_and, and_assoc, cxK, rIxF, rSetL, rEq, rNe, scal, HO.lst.injEq, HO.tup.injEq, upd_none, ixN_10, ixN_20, ixN_21, ixN_30, ixN_31, ixN_32, upd_same, seqAt_updL, seqAt_updT, atI_0, atI_1, atI_2, atI_3, decide_eq_true_eq, L2.start, List.map_cons, List.map_nil, List.length_cons, List.length_nil, Nat.reduceAdd, Nat.reduceSub, List.replicate_succ, List.replicate_zero, List.cons_append, List.nil_append, List.append_nil, tFor_rng1, tFor_rng2, tFor_list, tFor_tup, CDv, CMul, CPow, sizeLine_eq, Int.reduceLE, Int.reduceLT, Int.reducePow, Int.reduceToNat, Int.reduceAdd, Int.reduceSub, Int.reduceMul, Int.reduceNeg, Nat.reduceLeDiff, Nat.reducePow, Nat.reduceLT, Int.reduceEq, true_or, or_true, ite_true, ite_false, if_true, if_false, Bool.not_true, Bool.not_false, Bool.false_eq_true, decide_true, decide_false, rIxQ, seqQ_updL, seqQ_updT, tupQ_updT, tSl, tNoPart, tPart, rSlQ, rCatQ, tTupQ, tLstQ, tNever, rEqD, rInQ, gTupQ, gCons, gNil, tBM, tBM0, rAppend, rClear, rExtend, rPart, rSlS, rJoin, rIxS, tLRange, tDisp1, tyV, tDGet, rDClear, tRev, tFor_rng3, tLc_rng1, tLc_rng2, tLc_list, tLc_tup, pick_nil, pick_own, pick_cap, join_some, tYes, tCallKC, gk_11, gk_31, tSortDown, tDNewQ, sDPut, tLc_zipS, tLcD, g1,  seqQ_lst g2]
      intro l nl b nb
      have y1 := Ext.new (K := K) (o := .lst (q0.2.vs.map (·.1))) nl
      have y2 := Ext.new (K := K) (o := .tup [V.int q0.2.k, V.ref l]) nb
      have hD2 := (y1.trans y2).at hD
      have lD : l ≠ D := (ne_of_none hD nl.1).symm
      have k3 : Kp K D _ (upd (upd (upd H' l (.lst (q0.2.vs.map (·.1)))) b (.tup [V.int q0.2.k, V.ref l])) D (.lst (L.map (·.1) ++ [V.ref b]))) := Kp.upd hD2
      have lL : L.length ≤ rows.length := by
        have := congrArg List.length eL
        rw [List.length_map, List.length_map, List.length_take] at this
        omega
      refine ⟨hD2, ?_, L ++ [(V.ref b, ⟨q0.2.k, l, q0.2.vs⟩)], by rw [List.map_append]; rfl, ?_, ?_, k.trans ((y1.trans y2).kp.trans k3)⟩
      · have := ok.2.2
        rw [List.length_map]
        exact Nat.lt_of_le_of_lt (Nat.le_trans lL this) (by decide)
      · rw [List.map_append, eL, List.take_add_one, ek, Option.toList_some, List.map_append]
        rfl
      · intro q hq
        rcases List.mem_append.1 hq with h | h
        · obtain ⟨⟨t, e, a1, a2, a3⟩, ne⟩ := hL q h
          exact ⟨⟨t, e, k3.tup hD2 ((y1.trans y2).tup a1), k3.keep _ _ ((y1.trans y2).at a2) ne, fun p hp => let ⟨t, e, h⟩ := a3 p hp; ⟨t, e, k3.tup hD2 ((y1.trans y2).tup h)⟩⟩, ne⟩
        · rw [List.mem_singleton] at h
          subst h
          exact ⟨⟨b, rfl, k3.tup hD2 tupQ_updT, k3.keep _ _ (y2.at upd_same) lD, fun p hp => let ⟨t, e, h⟩ := g3 p hp; ⟨t, e, k3.tup hD2 ((y1.trans y2).tup h)⟩⟩, lD⟩
    rintro acc σ' H' ⟨_, _, L, rfl, hD, rfl, eL, hL, k⟩
    rw [List.length_map, List.take_length] at eL
    try walk_at "rn"
    intro b nb
    have x1 := k.ext nD
    have y1 := Ext.new (K := K) (o := .tup [V.str "leaf", V.int n, V.ref D]) nb
    have lL : L.length = rows.length := by
      have := congrArg List.length eL
      rwa [List.length_map, List.length_map] at this
    have x2 := x1.trans y1
    refine q b (.leaf n D L) _ ⟨tupQ_updT, y1.at hD, fun q hq => (hL q hq).1.ext y1⟩ rfl (fun pl ok => ⟨ok.1, rows_ok eL ok.2.1, by rw [lL]; exact ok.2.2⟩) (fun pl => ?_) nD.1 nD.2 ?_ x2
    · have e : (L.map fun q => rowT q.2.k (q.2.vs.map (·.2))) = rows.map fun q => rowT q.2.k (q.2.vs.map (·.2)) := by
        have h := congrArg (List.map fun p : Int × List (V × (Int × Option Int)) => rowT p.1 (p.2.map (·.2))) eL
        rw [List.map_map, List.map_map] at h
        exact h
      show Str.join (Str.ofString " ") [Str.ofString "leaf", numT n, listT (Str.ofString ";") (L.map fun q => rowT q.2.k (q.2.vs.map (·.2)))] = _
      rw [e]
      rfl
    · refine .tup tupQ_updT (x2.tup h1) (Nat.le_of_ble_eq_true rfl) (.cons .str (.cons .int (.cons (.lst (y1.at hD) (x2.at h2) ?_ (rows_alk L rows eL (fun q hq => (hL q hq).1.ext y1) fun q hq => ⟨(h3 q hq).ext x2, ok.2.1 q hq⟩)) .nil)))
      rw [List.length_map, lL]
      exact Nat.le_trans ok.2.2 (by decide)
  | inner n pa piv ca ch ta tray =>
    obtain ⟨h1, h2, h3, h4, h5⟩ := hr'
    simp only [tSeq, tNext, tIfS, tAsg, gName, gSub, tRet, tRetN, tDrop, tVar, tC, tOp, tUn, rI0, rI, rU, tTest, tB, tAndV, tOrV, tNotV, tAnd, tOr, tNot, tIf, tChain, tCB, tCons, tNil, tLst, tTup, tCallC, List.getElem?_cons_zero, List.getElem?_cons_succ, List.set_cons_zero, List.set_cons_succ, Option.some.injEq, V.int.injEq, V.bl.injEq, V.ref.injEq, V.ty.injEq, V.str.injEq, List.cons.injEq, exists_eq_left', exists_eq_left, exists_and_left, and_true, true_and, and_assoc, cxK, rIxF, rSetL, rEq, rNe, scal, HO.lst.injEq, HO.tup.injEq, upd_none, ixN_10, ixN_20, ixN_21, ixN_30, ixN_31, ixN_32, upd_same, seqAt_updL, seqAt_updT, atI_0, atI_1, atI_2, atI_3, decide_eq_true_eq, L2.start, List.map_cons, List.map_nil, List.length_cons, List.length_nil, Nat.reduceAdd, Nat.reduceSub, List.replicate_succ, List.replicate_zero, List.cons_append, List.nil_append, List.append_nil, tFor_rng1, tFor_rng2, tFor_list, tFor_tup, CDv, CMul, CPow, sizeLine_eq, Int.reduceLE, Int.reduceLT, Int.reducePow, Int.reduceToNat, Int.reduceAdd, Int.reduceSub, Int.reduceMul, Int.reduceNeg, Nat.reduceLeDiff, Nat.reducePow, Nat.reduceLT, Int.reduceEq, true_or, or_true, ite_true, ite_false, if_true, if_false, Bool.not_true, Bool.not_false, Bool.false_eq_true, decide_true, decide_false, rIxQ, seqQ_updL, seqQ_updT, tupQ_updT, tSl, tNoPart, tPart, rSlQ, rCatQ, tTupQ, tLstQ, tNever, rEqD, rInQ, gTupQ, gCons, gNil, tBM, tBM0, rAppend, rClear, rExtend, rPart, rSlS, rJoin, rIxS, tLRange, tDisp1, tyV, tDGet, rDClear, tRev, tFor_rng3, tLc_rng1, tLc_rng2, tLc_list, tLc_tup, pick_nil, pick_own, pick_cap, join_some, tYes, tCallKC, gk_11, gk_31, tSortDown, tDNewQ, sDPut, tLc_zipS, tLcD, seqQ_T h1,  h1,  s5]
    refine ⟨_, seqQ_lst h2, fun l1 n1 => ?_⟩
    have y1 := Ext.new (K := K) (o := .lst (piv.map V.int)) n1
    refine ⟨_, seqQ_T (y1.tup h1), _, rfl, _, rfl, _, seqQ_lst (y1.at h3), fun l2 n2 => ?_⟩
    have y2 := Ext.new (K := K) (o := .lst (ch.map V.int)) n2
    refine ⟨_, seqQ_T ((y1.trans y2).tup h1), _, rfl, _, rfl, _, seqQ_lst ((y1.trans y2).at h4), fun l3 n3 b nb => ?_⟩
    have y3 := Ext.new (K := K) (o := .lst (tray.map (·.1))) n3
    have y4 := Ext.new (K := K) (o := .tup [V.str "inner", V.int n, V.ref l1, V.ref l2, V.ref l3]) nb
    have x := y1.trans (y2.trans (y3.trans y4))
    have a1 := (y2.trans (y3.trans y4)).at (upd_same (H := H) (a := l1) (o := .lst (piv.map V.int)))
    have a2 := (y3.trans y4).at (upd_same (H := upd H l1 (.lst (piv.map V.int))) (a := l2) (o := .lst (ch.map V.int)))
    have a3 := y4.at (upd_same (H := upd (upd H l1 (.lst (piv.map V.int))) l2 (.lst (ch.map V.int))) (a := l3) (o := .lst (tray.map (·.1))))
    obtain ⟨_, _, lp, _, lc, _, lt⟩ := ok
    refine q b (.inner n l1 piv l2 ch l3 tray) _ ⟨tupQ_updT, a1, a2, a3, fun q hq => (h5 q hq).ext x⟩ rfl (fun _ ok => ok) (fun _ => rfl) n1.1 n1.2 ?_ x
    refine .tup tupQ_updT (x.tup h1) (Nat.le_of_ble_eq_true rfl) (.cons .str (.cons .int (.cons (.lst a1 (x.at h2) ?_ (.map _ fun _ _ => .int)) (.cons (.lst a2 (x.at h3) ?_ (.map _ fun _ _ => .int)) (.cons (.lst a3 (x.at h4) ?_ (.map _ fun q hq => ((h5 q hq).ext x).alk)) .nil)))))
    · rw [List.length_map]
      omega
    · rw [List.length_map]
      omega
    · rw [List.length_map]
      omega
end
section
variable {P : Program} {w : World} {K : PySem.W.Frag} {mg : Str → Option Value} {base : Heap} {aG : Addr}
def spAlk (K : PySem.W.Frag) (n : Nat) : Sp := fun vs H Q _ => ∃ u v, vs = [u, v] ∧ Alk K H n u v ∧ ∀ H', Ext K H H' → Q (.bl true) H'
theorem isI {H : Hp} {v : V} {t : Value} {n : String} {b : Bool} {R : Bool → Prop} (h : TyQ K H v t) (e : PySem.W.kitOne K t (.type n) = some b) (r : R b) : ∃ x, TyQ K H v x ∧ ∃ y, PySem.W.kitOne K x (.type n) = some y ∧ R y := ⟨t, h, b, e, r⟩
theorem no_if {a b : Prop} (h : b) : if false = true then a else b := by rw [if_neg (by decide)]; exact h
theorem yes_if {a b : Prop} (h : a) : if true = true then a else b := by rw [if_pos rfl]; exact h
theorem not_if {a b : Prop} (h : a) : if (!false) = true then a else b := by rw [Bool.not_false, if_pos rfl]; exact h
theorem same_if {x : Bool} {a b : Prop} (h : b) : if (!decide (x = x)) = true then a else b := by rw [decide_eq_true rfl]; exact no_if h
theorem trues (n : Nat) : (List.replicate n true).map V.bl = List.replicate n (.bl true) := by rw [List.map_replicate]
theorem all_trues (n : Nat) : (List.replicate n true).all id = true := by
  rw [List.all_eq_true]
  intro b hb
  rw [(List.mem_replicate.1 hb).2]
  rfl
theorem alk_turn {n : Nat} {H H' : Hp} {D T : Addr} {i : Nat} {x y : V} {R : List V → St → Hp → Prop} {Z : St → Hp → Prop} {v0 v1 : Option V} (hn : Alk K H n x y) (xH : Ext K H H') (hD : H' D = some (.lst (List.replicate i (.bl true)))) (hi : i < 1000) (nT : new K H' T)
    (r : ∀ H2, Kp K D H' H2 → H2 D = some (.lst (List.replicate (i + 1) (.bl true))) → R (List.replicate i (.bl true) ++ [.bl true]) [some x, some y] H2) :
    gTupQ K 2 (gCons (gName 0) (gCons (gName 1) gNil)) (.ref T) [v0, v1] (upd H' T (.tup [x, y])) fun σ2 H2 => tYes σ2 H2 fun b H3 => if b = true then tCall (spAlk K n) [] E0 (tCons (tVar 0) (tCons (tVar 1) tNil)) σ2 H3 fun v H4 => H4 D = some (.lst (List.replicate i (.bl true))) ∧ (List.replicate i (V.bl true)).length < sizeLine ∧ R (List.replicate i (.bl true) ++ [v]) σ2 (upd H4 D (.lst (List.replicate i (.bl true) ++ [v]))) else Z σ2 H3 := by
  simp only [tSeq, tNext, tIfS, tAsg, gName, gSub, tRet, tRetN, tDrop, tVar, tC, tOp, tUn, rI0, rI, rU, tTest, tB, tAndV, tOrV, tNotV, tAnd, tOr, tNot, tIf, tChain, tCB, tCons, tNil, tLst, tTup, tCallC, List.getElem?_cons_zero, List.getElem?_cons_succ, List.set_cons_zero, List.set_cons_succ, Option.some.injEq, V.int.injEq, V.bl.injEq, V.ref.injEq, V.ty.injEq, V.str.injEq, List.cons.injEq, exists_eq_left', exists_eq_left, exists_and_left, and_true, true_and, and_assoc, cxK, rIxF, rSetL, rEq, rNe, scal, HO.lst.injEq, HO.tup.injEq, upd_none, ixN_10, ixN_20, ixN_21, ixN_30, ixN_31, ixN_32, upd_same, seqAt_updL, seqAt_updT, atI_0, atI_1, atI_2, atI_3, decide_eq_true_eq, L2.start, List.map_cons, List.map_nil, List.length_cons, List.length_nil, Nat.reduceAdd, Nat.reduceSub, List.replicate_succ, List.replicate_zero, List.cons_append, List.nil_append, List.append_nil, tFor_rng1, tFor_rng2, tFor_list, tFor_tup, CDv, CMul, CPow, sizeLine_eq, Int.reduceLE, Int.reduceLT, Int.reducePow, Int.reduceToNat, Int.reduceAdd, Int.reduceSub, Int.reduceMul, Int.reduceNeg, Nat.reduceLeDiff, Nat.reducePow, Nat.reduceLT, Int.reduceEq, true_or, or_true, ite_true, ite_false, if_true, if_false, Bool.not_true, Bool.not_false, Bool.false_eq_true, decide_true, decide_false, rIxQ, seqQ_updL, seqQ_updT, tupQ_updT, tSl, tNoPart, tPart, rSlQ, rCatQ, tTupQ, tLstQ, tNever, rEqD, rInQ, gTupQ, gCons, gNil, tBM, tBM0, rAppend, rClear, rExtend, rPart, rSlS, rJoin, rIxS, tLRange, tDisp1, tyV, tDGet, rDClear, tRev, tFor_rng3, tLc_rng1, tLc_rng2, tLc_list, tLc_tup, pick_nil, pick_own, pick_cap, join_some, tYes, tCallKC, gk_11, gk_31, tSortDown, tDNewQ, sDPut, tLc_zipS, tLcD, tYes]
  have xT := Ext.new (K := K) (o := .tup [x, y]) nT
  refine ⟨x, y, rfl, hn.ext (xH.trans xT), fun H2 x2 => ?_⟩
  have hD2 := (xT.trans x2).at hD
  have er : List.replicate i (V.bl true) ++ [.bl true] = List.replicate (i + 1) (.bl true) := (List.replicate_succ' ..).symm
  refine ⟨hD2, by rw [List.length_replicate]; omega, r _ ((xT.trans x2).kp.trans (Kp.upd hD2)) (by rw [upd_same, er])⟩
theorem alk_lists {n : Nat} {H : Hp} {a b D : Addr} {xs ys : List V} {R : Hp → Prop} (h1 : H a = some (.lst xs)) (h2 : H b = some (.lst ys)) (l1 : xs.length = ys.length) (l2 : xs.length ≤ 1000) (h : ∀ (i : Nat) x y, xs[i]? = some x → ys[i]? = some y → Alk K H n x y) (nD : new K H D)
    (fin : ∀ H', H' D = some (.lst ((List.replicate xs.length true).map V.bl)) → Ext K H H' → R H') : LcLoop (Itz K a b) (gTupQ K 2 (gCons (gName 0) (gCons (gName 1) gNil))) tYes (tCall (spAlk K n) [] E0 (tCons (tVar 0) (tCons (tVar 1) tNil))) D R [none, none] (upd H D (.lst [])) := by
  refine lc_zip (xs := xs) (ys := ys) (fun i acc σ' H' => ∃ v0 v1 : Option V, σ' = [v0, v1] ∧ acc = List.replicate i (.bl true) ∧ H' D = some (.lst acc) ∧ Kp K D (upd H D (.lst [])) H') l1 ⟨_, _, rfl, rfl, upd_same, Kp.refl⟩ ?_ ?_ ?_
  · rintro i acc σ' H' _ ⟨_, _, rfl, rfl, hD, k⟩
    exact ⟨SqL.of ((k.ext nD).at h1), SqL.of ((k.ext nD).at h2)⟩
  · rintro i x y acc σ' H' T hx hy ⟨_, _, rfl, rfl, hD, k⟩ nT
    have hi := (List.getElem?_eq_some_iff.1 hx).1
    exact alk_turn (R := fun acc σ H2 => ∃ v0 v1 : Option V, σ = [v0, v1] ∧ acc = List.replicate (i + 1) (.bl true) ∧ H2 D = some (.lst acc) ∧ Kp K D (upd H D (.lst [])) H2) (h i x y hx hy) (k.ext nD) hD (by omega) nT fun H2 k2 e2 => ⟨_, _, rfl, (List.replicate_succ' ..).symm, by rw [e2, List.replicate_succ'], k.trans k2⟩
  · rintro acc σ' H' ⟨_, _, rfl, rfl, hD, k⟩
    rw [← trues] at hD
    exact fin H' hD (k.ext nD)
theorem alk_tuples {n : Nat} {H : Hp} {a b D : Addr} {xs ys : List V} {R : Hp → Prop} (h1 : tupQ K H a = some xs) (h2 : tupQ K H b = some ys) (l1 : xs.length = ys.length) (l2 : xs.length ≤ 1000) (h : ∀ (i : Nat) x y, xs[i]? = some x → ys[i]? = some y → Alk K H n x y) (nD : new K H D)
    (fin : ∀ H', H' D = some (.lst ((List.replicate xs.length true).map V.bl)) → Ext K H H' → R H') : LcLoop (ItzT K a b) (gTupQ K 2 (gCons (gName 0) (gCons (gName 1) gNil))) tYes (tCall (spAlk K n) [] E0 (tCons (tVar 0) (tCons (tVar 1) tNil))) D R [none, none] (upd H D (.lst [])) := by
  refine lc_zipT (xs := xs) (ys := ys) (fun i acc σ' H' => ∃ v0 v1 : Option V, σ' = [v0, v1] ∧ acc = List.replicate i (.bl true) ∧ H' D = some (.lst acc) ∧ Kp K D (upd H D (.lst [])) H') l1 ⟨_, _, rfl, rfl, upd_same, Kp.refl⟩ ?_ ?_ ?_
  · rintro i acc σ' H' _ ⟨_, _, rfl, rfl, hD, k⟩
    exact ⟨tupQ_sq ((k.ext nD).tup h1), tupQ_sq ((k.ext nD).tup h2)⟩
  · rintro i x y acc σ' H' T hx hy ⟨_, _, rfl, rfl, hD, k⟩ nT
    have hi := (List.getElem?_eq_some_iff.1 hx).1
    exact alk_turn (R := fun acc σ H2 => ∃ v0 v1 : Option V, σ = [v0, v1] ∧ acc = List.replicate (i + 1) (.bl true) ∧ H2 D = some (.lst acc) ∧ Kp K D (upd H D (.lst [])) H2) (h i x y hx hy) (k.ext nD) hD (by omega) nT fun H2 k2 e2 => ⟨_, _, rfl, (List.replicate_succ' ..).symm, by rw [e2, List.replicate_succ'], k.trans k2⟩
  · rintro acc σ' H' ⟨_, _, rfl, rfl, hD, k⟩
    rw [← trues] at hD
    exact fin H' hD (k.ext nD)
theorem same_if' {i : Int} {a b : Prop} (h : b) : if (!decide (i = i)) = true then a else b := by rw [decide_eq_true rfl]; exact no_if h
theorem sc__law_alike : FnScope ["_law_found", "_law_due"] ["_law_found", "_law_due"] (defScope s__law_alike) := ⟨rfl, rfl, rfl, by decide +kernel, rfl, by decide +kernel, by decide +kernel⟩
theorem step__law_alike {n : Nat} {f : Addr} {fd : FuncData} (F : Fun K "_law_alike" "_law_alike" s__law_alike f fd) (B : B K mg aG) (C__law_alike : Callee P w K mg base "_law_alike" n ["_law_found", "_law_due"] (spAlk K n)) : FnOk P w K mg base CX0 (n + 1) f fd ["_law_found", "_law_due"] (spAlk K (n + 1)) := by
  refine F.okJ sc__law_alike (fun vs H Q E h => ?_) (fun cdv A outer s H vs Q E hr h => ?_)
  · obtain ⟨u, v, rfl, _⟩ := h
    rfl
  obtain ⟨u, v, rfl, h, q⟩ := h
  refine ⟨_, (bcons (sif (tw (wor (tval (ecallB call_isinstQ rfl B.isinstance bt_isinstance (acons (ev 1) (acons (etyp rfl B.list bt_list) anil)))) (wor1 (tval (ecallB call_isinstQ rfl B.isinstance bt_isinstance (acons (ev 1) (acons (etyp rfl B.tuple bt_tuple) anil))))))) (bcons (sif (tw (wor (tcmp op_ne (ecallB call_isinstQ rfl B.isinstance bt_isinstance (acons (ev 0) (acons (etyp rfl B.list bt_list) anil))) (ecallB call_isinstQ rfl B.isinstance bt_isinstance (acons (ev 1) (acons (etyp rfl B.list bt_list) anil))) (nomark _)) (wor1 (tcmp op_ne (ecallB call_isinstQ rfl B.isinstance bt_isinstance (acons (ev 0) (acons (etyp rfl B.tuple bt_tuple) anil))) (ecallB call_isinstQ rfl B.isinstance bt_isinstance (acons (ev 1) (acons (etyp rfl B.tuple bt_tuple) anil))) (nomark _))))) (bone (sret ebl)) bnil)
      (bone (sret (eand (ecmp op_eq (ecallB call_lenA rfl B.len bt_len (acons (ev 0) anil)) (ecallB call_lenA rfl B.len bt_len (acons (ev 1) anil)) (nomark _)) (eone (ecallB (call_allL rfl) rfl B.all bt_all (acons (elc (Cap.mk (N := ["_law_one", "_law_other"]) (src := [none, none]) rfl rfl) rfl (izipS rfl B.zip (acons (ev 0) (acons (ev 1) anil))) (fun _ _ _ _ => (gtupQK K (n := 2) rfl (gcons (gname (i := 0) (show (["_law_one", "_law_other"] : List Str).Nodup from by decide +kernel) rfl (Or.inl rfl)) (gcons (gname (i := 1) (show (["_law_one", "_law_other"] : List Str).Nodup from by decide +kernel) rfl (Or.inl rfl)) gnil)))) (fun _ _ _ _ => fnone) (fun _ _ _ _ => (ecall C__law_alike (hr.mono (by omega)) rfl (acons (ev 0) (acons (ev 1) anil))))) anil))))))) bnil)
      (bcons (sif (tval (ecallB call_isinstQ rfl B.isinstance bt_isinstance (acons (ev 1) (acons (etyp rfl B.dict bt_dict) anil)))) (bcons (sif (tw (wor (tnot (tval (ecallB call_isinstQ rfl B.isinstance bt_isinstance (acons (ev 0) (acons (etyp rfl B.dict bt_dict) anil))))) (wor1 (tcmp op_ne (ecallB call_lenA rfl B.len bt_len (acons (ev 0) anil)) (ecallB call_lenA rfl B.len bt_len (acons (ev 1) anil)) (nomark _))))) (bone (sret ebl)) bnil)
      (bone (sret (ecallB (call_allL rfl) rfl B.all bt_all (acons (elcD (Cap.mk (N := ["_law_key", "_law_found", "_law_due"]) (src := [none, some 0, some 1]) rfl rfl) rfl (ev 1) (fun _ _ _ _ => (gname (i := 0) (show (["_law_key", "_law_found", "_law_due"] : List Str).Nodup from by decide +kernel) rfl (Or.inl rfl))) (fun _ _ _ _ => fnone) (fun _ _ _ _ => (eand (ecmp (op_inD hr.units) (ev 0) (ev 1) (by with_unfolding_all rfl)) (eone (ecall C__law_alike (hr.mono (by omega)) rfl (acons (edget hr.units (ev 1) (ev 0) (fun _ _ => rfl)) (acons (edget hr.units (ev 2) (ev 0) (fun _ _ => rfl)) anil))))))) anil))))) bnil)
      (bcons (sif (tw (wor (tcmp op_isN (ev 1) enon (nomark _)) (wor1 (tval (ecallB call_isinstQ rfl B.isinstance bt_isinstance (acons (ev 1) (acons (etyp rfl B.str bt_str) anil))))))) (bone (sret (eand (ecmp op_eq (ev 0) (ev 1) (nomark _)) (eone (ecmp op_eq (ecallB call_isinstQ rfl B.isinstance bt_isinstance (acons (ev 0) (acons (etyp rfl B.str bt_str) anil))) (ecallB call_isinstQ rfl B.isinstance bt_isinstance (acons (ev 1) (acons (etyp rfl B.str bt_str) anil))) (nomark _)))))) bnil)
      (bone (sret (eand (ecallB call_isinstQ rfl B.isinstance bt_isinstance (acons (ev 0) (acons (etyp rfl B.int bt_int) anil))) (eand (enot (ecallB call_isinstQ rfl B.isinstance bt_isinstance (acons (ev 0) (acons (etyp rfl B.bool bt_bool) anil)))) (eone (ecmp op_eq (ev 0) (ev 1) (nomark _)))))))))), ?_⟩
  try walk_at "rn"
  rcases h with ⟨rfl, ⟨i, rfl⟩ | rfl | ⟨s', rfl⟩⟩ | ⟨a, b, xs, ys, rfl, rfl, h1, h2, l1, l2, h⟩ | ⟨a, b, xs, ys, rfl, rfl, h1, h2, l1, l2, h⟩ | ⟨a, b, kvs, rfl, rfl, ne, h1, h2, l⟩
  · have ty : TyQ K H (.int i) (.type "int") := .inl (.int i)
    refine isI ty rfl (no_if (isI ty rfl (no_if (isI ty rfl (no_if ?_)))))
    rw [if_neg (fun e => by cases e)]
    refine isI ty rfl (no_if (isI ty rfl (yes_if (isI (b := false) ty rfl (not_if ⟨rfl, ?_⟩)))))
    rw [decide_eq_true rfl]
    exact q _ Ext.refl
  · have ty : TyQ K H .non (.type "NoneType") := .inl .non
    refine isI ty rfl (no_if (isI ty rfl (no_if (isI ty rfl (no_if ?_)))))
    rw [if_pos rfl]
    refine ⟨rfl, ?_⟩
    rw [if_pos rfl]
    refine isI ty rfl (isI ty rfl ?_)
    exact q _ Ext.refl
  · have ty : TyQ K H (.str s') (.type "str") := .inl (.str s')
    refine isI ty rfl (no_if (isI ty rfl (no_if (isI ty rfl (no_if ?_)))))
    rw [if_neg (fun e => by cases e)]
    refine isI ty rfl (yes_if ⟨rfl, ?_⟩)
    rw [if_pos rfl]
    refine isI ty rfl (isI ty rfl ?_)
    exact q _ Ext.refl
  · have ta : TyQ K H (.ref a) (.type "list") := .inl (.lst h1)
    have tb : TyQ K H (.ref b) (.type "list") := .inl (.lst h2)
    refine isI tb rfl (yes_if (isI ta rfl (isI tb rfl (same_if (isI ta rfl (isI tb rfl (same_if (.inl ⟨a, rfl, xs, seqQ_lst h1, .inl ⟨b, rfl, ys, seqQ_lst h2, ?_⟩⟩))))))))
    rw [if_pos (by rw [l1])]
    refine ⟨a, rfl, b, rfl, .inl ⟨⟨_, SqL.of h1⟩, ⟨_, SqL.of h2⟩, fun D nD => alk_lists h1 h2 l1 l2 h nD fun H' hD x => ⟨_, SqL.of hD, ?_⟩⟩⟩
    rw [all_trues]
    exact q _ x
  · have ta : TyQ K H (.ref a) (.type "tuple") := .tup h1
    have tb : TyQ K H (.ref b) (.type "tuple") := .tup h2
    refine isI tb rfl (no_if (isI tb rfl (yes_if (isI ta rfl (isI tb rfl (same_if (isI ta rfl (isI tb rfl (same_if (.inl ⟨a, rfl, xs, seqQ_T h1, .inl ⟨b, rfl, ys, seqQ_T h2, ?_⟩⟩))))))))))
    rw [if_pos (by rw [l1])]
    refine ⟨a, rfl, b, rfl, .inr ⟨⟨_, tupQ_sq h1⟩, ⟨_, tupQ_sq h2⟩, fun D nD => alk_tuples h1 h2 l1 l2 h nD fun H' hD x => ⟨_, SqL.of hD, ?_⟩⟩⟩
    rw [all_trues]
    exact q _ x
  · have ta : TyQ K H (.ref a) (.type "dict") := .inl (.dK h1.at_)
    have tb : TyQ K H (.ref b) (.type "dict") := .inl (.dK h2.at_)
    refine isI tb rfl (no_if (isI tb rfl (no_if (isI tb rfl (yes_if (isI ta rfl ?_))))))
    refine no_if (.inr ⟨a, rfl, kvs, h1.at_, .inr ⟨b, rfl, kvs, h2.at_, same_if' ⟨b, rfl, kvs, h2.at_, fun od D nD => ?_⟩⟩⟩)
    have bD : b ≠ D := fun e => by
      have := nD.1
      rw [← e, upd_same] at this
      cases this
    have aD : a ≠ D := fun e => by
      have := nD.1
      rw [upd_ne (fun z => ne (e.trans z)), ← e, h1.at_] at this
      cases this
    have ha0 : (upd H b (.frz od (.dK kvs))) a = some (.dK kvs) := by rw [upd_ne ne]; exact h1.at_
    have hb0 : (upd H b (.frz od (.dK kvs))) b = some (.frz od (.dK kvs)) := upd_same
    refine lc_run (n := kvs.length) (fun i acc σ' H' => ∃ v0 : Option V, σ' = [v0, some (.ref a), some (.ref b)] ∧ acc = List.replicate i (.bl true) ∧ H' D = some (.lst acc) ∧ Kp K D (upd (upd H b (.frz od (.dK kvs))) D (.lst [])) H') ⟨_, rfl, rfl, upd_same, Kp.refl⟩ ?_ ?_ ?_ ?_
    · rintro i acc σ' H' hi ⟨_, rfl, rfl, hD, k⟩
      exact ⟨(k.ext nD).at hb0, hi⟩
    · rintro acc σ' H' ⟨_, rfl, rfl, hD, k⟩
      exact ⟨(k.ext nD).at hb0, Nat.le_refl _⟩
    · rintro i acc σ' H' x H'' hi ⟨_, rfl, rfl, hD, k⟩ ⟨rfl, p, ep, rfl⟩
      obtain ⟨k', i', rfl, ev⟩ := h1.whole p (List.mem_of_getElem? ep)
      have x1 := k.ext nD
      simp only [tSeq, tNext, tIfS, tAsg, gName, gSub, tRet, tRetN, tDrop, tVar, tC, tOp, tUn, rI0, rI, rU, tTest, tB, tAndV, tOrV, tNotV, tAnd, tOr, tNot, tIf, tChain, tCB, tCons, tNil, tLst, tTup, tCallC, List.getElem?_cons_zero, List.getElem?_cons_succ, List.set_cons_zero, List.set_cons_succ, Option.some.injEq, V.int.injEq, V.bl.injEq, V.ref.injEq, V.ty.injEq, V.str.injEq, List.cons.injEq, exists_eq_left', exists_eq_left, exists_and_left, and_true, true_and, and_assoc, cxK, rIxF, rSetL, rEq, rNe, scal, HO.lst.injEq, HO.tup.injEq, upd_none, ixN_10, ixN_20, ixN_21, ixN_30, ixN_31, ixN_32, upd_same, seqAt_updL, seqAt_updT, atI_0, atI_1, atI_2, atI_3, decide_eq_true_eq, L2.start, List.map_cons, List.map_nil, List.length_cons, List.length_nil, Nat.reduceAdd, Nat.reduceSub, List.replicate_succ, List.replicate_zero, List.cons_append, List.nil_append, List.append_nil, tFor_rng1, tFor_rng2, tFor_list, tFor_tup, CDv, CMul, CPow, sizeLine_eq, Int.reduceLE, Int.reduceLT, Int.reducePow, Int.reduceToNat, Int.reduceAdd, Int.reduceSub, Int.reduceMul, Int.reduceNeg, Nat.reduceLeDiff, Nat.reducePow, Nat.reduceLT, Int.reduceEq, true_or, or_true, ite_true, ite_false, if_true, if_false, Bool.not_true, Bool.not_false, Bool.false_eq_true, decide_true, decide_false, rIxQ, seqQ_updL, seqQ_updT, tupQ_updT, tSl, tNoPart, tPart, rSlQ, rCatQ, tTupQ, tLstQ, tNever, rEqD, rInQ, gTupQ, gCons, gNil, tBM, tBM0, rAppend, rClear, rExtend, rPart, rSlS, rJoin, rIxS, tLRange, tDisp1, tyV, tDGet, rDClear, tRev, tFor_rng3, tLc_rng1, tLc_rng2, tLc_list, tLc_tup, pick_nil, pick_own, pick_cap, join_some, tYes, tCallKC, gk_11, gk_31, tSortDown, tDNewQ, sDPut, tLc_zipS, tLcD, tYes,  kV]
      have ga : DGet H'' a (V.int k') (some (.int i')) := by
        rw [← ev]
        exact DGet.k (k := .inl k') (x1.at ha0)
      have gb : DGet H'' b (V.int k') (some (.int i')) := by
        rw [← ev]
        exact .inl ⟨kvs, .inl k', .inr ⟨od, x1.at hb0⟩, rfl, rfl⟩
      refine ⟨kvs, x1.at ha0, ?_⟩
      rw [ev]
      refine yes_if ⟨_, ga, _, gb, _, _, rfl, ?_, fun H2 x2 => ⟨x2.at hD, ?_, ?_, k.trans (x2.kp.trans (Kp.upd (x2.at hD)))⟩⟩
      · obtain ⟨m, rfl⟩ : ∃ m, n = m + 1 := ⟨n - 1, by omega⟩
        exact .int
      · have := h1.few
        rw [List.length_replicate]
        omega
      · exact (List.replicate_succ' ..).symm
    · rintro acc σ' H' ⟨_, rfl, rfl, hD, k⟩
      have x1 := k.ext nD
      refine ⟨x1.at hb0, _, SqL.of (xs := (List.replicate kvs.length true).map V.bl) (by rw [upd_ne bD.symm, hD, trues]), ?_⟩
      rw [all_trues]
      refine q _ ⟨fun r o e => ?_, fun r xs e kk => ?_⟩
      · by_cases z : r = b
        · subst z
          rw [upd_same, ← h2.at_]
          exact e
        · rw [upd_ne z]
          exact x1.same r o (by rw [upd_ne z]; exact e)
      · have z : r ≠ b := fun z => by rw [z, h2.at_] at e; cases e
        rw [upd_ne z]
        exact x1.mod r xs (by rw [upd_ne z]; exact e) kk
theorem base__law_alike {f : Addr} {fd : FuncData} : FnOk P w K mg base CX0 0 f fd ["_law_found", "_law_due"] (spAlk K 0) :=
  ⟨fun _ _ _ _ h => let ⟨_, _, _, h, _⟩ := h; h.elim, fun _ _ _ _ _ _ _ _ _ _ _ _ _ h => let ⟨_, _, _, h, _⟩ := h; h.elim⟩
theorem rec__law_alike {f : Addr} {fd : FuncData} (F : Fun K "_law_alike" "_law_alike" s__law_alike f fd) (B : B K mg aG) (b : Binds K fd ["_law_found", "_law_due"] []) (kp : PySem.W.keepIn K (.ref f) = true) (m : mg "_law_alike" = some (.ref f)) : ∀ n : Nat, FnOk P w K mg base CX0 n f fd ["_law_found", "_law_due"] (spAlk K n)
  | 0 => base__law_alike
  | n + 1 => step__law_alike F B ⟨f, fd, rec__law_alike F B b kp m n, b, kp, m⟩
theorem ok__law_alike {f : Addr} {fd : FuncData} (F : Fun K "_law_alike" "_law_alike" s__law_alike f fd) (B : B K mg aG) (b : Binds K fd ["_law_found", "_law_due"] []) (kp : PySem.W.keepIn K (.ref f) = true) (m : mg "_law_alike" = some (.ref f)) : FnOk P w K mg base CX0 6 f fd ["_law_found", "_law_due"] (spAlk K 6) := rec__law_alike F B b kp m 6
end
section
variable {P : Program} {w : World} {K : PySem.W.Frag} {mg : Str → Option Value} {base : Heap} {aG : Addr}
theorem Rm.at.ext {H H' : Hp} {a : Addr} {r : Rm} (h : r.at K H a) (x : Ext K H H') : r.at K H' a := by
  cases r with
  | leaf n ra rows => exact ⟨x.tup h.1, x.at h.2.1, fun q hq => (h.2.2 q hq).ext x⟩
  | inner n pa piv ca ch ta tray => exact ⟨x.tup h.1, x.at h.2.1, x.at h.2.2.1, x.at h.2.2.2.1, fun q hq => (h.2.2.2.2 q hq).ext x⟩
theorem Rm.at.third {H : Hp} {a : Addr} {r : Rm} (h : r.at K H a) : ∃ u v rest xs, tupQ K H a = some (u :: v :: .ref r.third :: rest) ∧ H r.third = some (.lst xs) := by
  cases r with
  | leaf n ra rows => exact ⟨_, _, _, _, h.1, h.2.1⟩
  | inner n pa piv ca ch ta tray => exact ⟨_, _, _, _, h.1, h.2.1⟩
theorem nnot_if {a b : Prop} (h : b) : if (!true) = true then a else b := by rw [Bool.not_true]; exact no_if h
theorem same_ifV {v : V} {a b : Prop} (h : b) : if (!decide (v = v)) = true then a else b := by rw [decide_eq_true rfl]; exact nnot_if h
def spWrites (K : PySem.W.Frag) : Sp := fun vs H Q _ => ∃ (p : Addr) (m : Int), vs = [.ref p, .int m] ∧ Wl H p ∧ 3 ≤ m ∧ m ≤ 40 ∧ ∀ H', Kp K p H H' → Q (.bl true) H'
theorem sc__law_writes : FnScope ["_law_state", "_law_most", "_law_room_here", "_law_places", "_law_due", "_law_handed", "_law_given", "_law_found"] ["_law_state", "_law_most"] (defScope s__law_writes) := ⟨rfl, rfl, rfl, by decide +kernel, rfl, by decide +kernel, by decide +kernel⟩
theorem ok__law_writes {f : Addr} {fd : FuncData} (F : Fun K "_law_writes" "_law_writes" s__law_writes f fd) (B : B K mg aG) (C__law_room : Callee P w K mg base "_law_room" 4 ["_law_state", "_law_most"] (spDRoom K)) (C__law_room_text : Callee P w K mg base "_law_room_text" 3 ["_law_room_here", "_law_places"] (spLRoom K)) (C__law_copy : Callee P w K mg base "_law_copy" 1 ["_law_room_here"] (spCopy K)) (C_room_text : Callee P w K mg base "room_text" 4 ["room", "places"] (spRoom K)) (C__law_alike : Callee P w K mg base "_law_alike" 6 ["_law_found", "_law_due"] (spAlk K 6)) : FnOk P w K mg base CX0 7 f fd ["_law_state", "_law_most"] (spWrites K) := by
  refine F.okJ sc__law_writes (fun vs H Q E h => ?_) (fun cdv A outer s H vs Q E hr h => ?_)
  · obtain ⟨p, m, rfl, _⟩ := h
    rfl
  obtain ⟨p, m, rfl, hp, m0, m1, q⟩ := h
  refine ⟨_, (bcons (sasg (ecall C__law_room (hr.mono (by decide)) rfl (acons (ev 0) (acons (ev 1) anil))) (gtupQ (n := 2) rfl (gcons (gname (i := 2) sc__law_writes.nd rfl (Or.inl rfl)) (gcons (gname (i := 3) sc__law_writes.nd rfl (Or.inl rfl)) gnil))))
      (bcons (sset (i := 4) sc__law_writes.nd rfl (Or.inl rfl) (ecall C__law_room_text (hr.mono (by decide)) rfl (acons (ev 2) (acons (ev 3) anil))))
      (bcons (sset (i := 5) sc__law_writes.nd rfl (Or.inl rfl) (ecall C__law_copy (hr.mono (by decide)) rfl (acons (ev 2) anil)))
      (bcons (sset (i := 6) sc__law_writes.nd rfl (Or.inl rfl) (ecallTy call_dictC rfl B.dict bt_dict (acons (ev 3) anil)))
      (bcons (sset (i := 7) sc__law_writes.nd rfl (Or.inl rfl) (ecall C_room_text (hr.mono (by decide)) rfl (acons (ev 5) (acons (ev 6) anil))))
      (bcons (sif (tw (wor (tnot (tval (ecallB call_isinstQ rfl B.isinstance bt_isinstance (acons (ev 7) (acons (etyp rfl B.str bt_str) anil))))) (wor1 (tcmp op_ne (ev 7) (ev 4) (nomark _))))) (bone (sret ebl)) bnil)
      (bcons (sif (tw (wor (tnot (tval (ecall C__law_alike (hr.mono (by decide)) rfl (acons (ev 5) (acons (ev 2) anil))))) (wor1 (tnot (tval (ecall C__law_alike (hr.mono (by decide)) rfl (acons (ev 6) (acons (ev 3) anil)))))))) (bone (sret ebl)) bnil)
      (bcons (sexpr (ebm0 PySem.F.plainAttrs_list PySem.F.slot_list_clear PySem.F.type_list_clear mt_clear (eix ix_Q (ev 5) ei (fun _ _ => rfl))))
      (bcons (sexpr (ebm0 PySem.F.plainAttrs_dict PySem.F.slot_dict_clear PySem.F.type_dict_clear mt_dclear (ev 6)))
      (bone (sret (ecmp op_eq (ecall C_room_text (hr.mono (by decide)) rfl (acons (ecall C__law_copy (hr.mono (by decide)) rfl (acons (ev 2) anil)) (acons (ecallTy call_dictC rfl B.dict bt_dict (acons (ev 3) anil)) anil))) (ev 4) (nomark _))))))))))))), ?_⟩
  try walk_at "rn"
  refine ⟨p, m, rfl, hp, m0, m1, fun t a d r pl kvs H1 ht hr1 hd hpl ok fu k1 => ?_⟩
  simp only [tSeq, tNext, tIfS, tAsg, gName, gSub, tRet, tRetN, tDrop, tVar, tC, tOp, tUn, rI0, rI, rU, tTest, tB, tAndV, tOrV, tNotV, tAnd, tOr, tNot, tIf, tChain, tCB, tCons, tNil, tLst, tTup, tCallC, List.getElem?_cons_zero, List.getElem?_cons_succ, List.set_cons_zero, List.set_cons_succ, Option.some.injEq, V.int.injEq, V.bl.injEq, V.ref.injEq, V.ty.injEq, V.str.injEq, List.cons.injEq, exists_eq_left', exists_eq_left, exists_and_left, and_true, true_and, and_assoc, cxK, rIxF, rSetL, rEq, rNe, scal, HO.lst.injEq, HO.tup.injEq, upd_none, ixN_10, ixN_20, ixN_21, ixN_30, ixN_31, ixN_32, upd_same, seqAt_updL, seqAt_updT, atI_0, atI_1, atI_2, atI_3, decide_eq_true_eq, L2.start, List.map_cons, List.map_nil, List.length_cons, List.length_nil, Nat.reduceAdd, Nat.reduceSub, List.replicate_succ, List.replicate_zero, List.cons_append, List.nil_append, List.append_nil, tFor_rng1, tFor_rng2, tFor_list, tFor_tup, CDv, CMul, CPow, sizeLine_eq, Int.reduceLE, Int.reduceLT, Int.reducePow, Int.reduceToNat, Int.reduceAdd, Int.reduceSub, Int.reduceMul, Int.reduceNeg, Nat.reduceLeDiff, Nat.reducePow, Nat.reduceLT, Int.reduceEq, true_or, or_true, ite_true, ite_false, if_true, if_false, Bool.not_true, Bool.not_false, Bool.false_eq_true, decide_true, decide_false, rIxQ, seqQ_updL, seqQ_updT, tupQ_updT, tSl, tNoPart, tPart, rSlQ, rCatQ, tTupQ, tLstQ, tNever, rEqD, rInQ, gTupQ, gCons, gNil, tBM, tBM0, rAppend, rClear, rExtend, rPart, rSlS, rJoin, rIxS, tLRange, tDisp1, tyV, tDGet, rDClear, tRev, tFor_rng3, tLc_rng1, tLc_rng2, tLc_list, tLc_tup, pick_nil, pick_own, pick_cap, join_some, tYes, tCallKC, gk_11, gk_31, tSortDown, tDNewQ, sDPut, tLc_zipS, tLcD, ht]
  refine ⟨a, d, r, pl, rfl, hr1, ⟨kvs, hd.at_, hpl⟩, ok, fu, fun H2 x2 => ?_⟩
  refine ⟨a, r, pl, rfl, hr1.ext x2, ok, fun a' r' H3 at' ech eok ex nt kt alk x3 => ?_⟩
  refine ⟨d, rfl, kvs, .inl ((x2.trans x3).at hd.at_), fun D nD => ?_⟩
  have yD := Ext.new (K := K) (o := .dK kvs) nD
  refine ⟨a', D, r', pl, rfl, at'.ext yD, ⟨kvs, upd_same, by rw [ech]; exact hpl⟩, eok pl ok, fun H4 x4 => ?_⟩
  rw [ex pl]
  refine isI (b := true) (.inl (.str _)) rfl (nnot_if ⟨rfl, same_ifV ?_⟩)
  refine ⟨_, _, rfl, alk.ext (yD.trans x4), fun H5 x5 => ⟨true, rfl, nnot_if ?_⟩⟩
  have hd5 : H5 d = some (.dK kvs) := (x2.trans (x3.trans (yD.trans (x4.trans x5)))).at hd.at_
  have hD5 : H5 D = some (.dK kvs) := (x4.trans x5).at upd_same
  have neD : D ≠ d := (ne_of_none ((x2.trans x3).at hd.at_) nD.1).symm
  refine ⟨_, _, rfl, .inr (.inr (.inr ⟨D, d, kvs, rfl, rfl, neD, ⟨hD5, hd.whole, hd.few⟩, ⟨hd5, hd.whole, hd.few⟩, by decide⟩)), fun H6 x6 => ⟨true, rfl, nnot_if ?_⟩⟩
  obtain ⟨u, v, rest, xs, e1, e2⟩ := at'.third
  have x36 := yD.trans (x4.trans (x5.trans x6))
  refine ⟨a', rfl, _, seqQ_T (x36.tup e1), .ref r'.third, atI_2, .inl ⟨_, SqL.of (x36.at e2)⟩, r'.third, rfl, xs, x36.at e2, ?_⟩
  have Dt : D ≠ r'.third := (ne_of_none e2 nD.1).symm
  have hD6 : upd H6 r'.third (.lst []) D = some (.dK kvs) := by rw [upd_ne Dt]; exact x6.at hD5
  refine ⟨.inr (.inr (.inl (.inl ⟨kvs, hD6⟩))), kvs, hD6, ?_⟩
  have x26 := x3.trans x36
  have x27 : Ext K H2 (upd (upd H6 r'.third (.lst [])) D (.dK [])) := by
    refine ⟨fun b o e => ?_, fun b ys e kk => ?_⟩
    · rw [upd_ne (fun z => ?_), upd_ne (fun z => ?_)]
      · exact x26.same b o e
      · rw [z, nt] at e
        cases e
      · have := x3.at e
        rw [z, nD.1] at this
        cases this
    · rw [upd_ne (fun z => ?_), upd_ne (fun z => ?_)]
      · exact x26.mod b ys e kk
      · rw [z, kt] at kk
        cases kk
      · rw [z, nD.2] at kk
        cases kk
  refine ⟨a, r, pl, rfl, hr1.ext (x2.trans x27), ok, fun a2 r2 H8 at2 ech2 eok2 ex2 _ _ _ x8 => ?_⟩
  refine ⟨d, rfl, kvs, .inl ((x2.trans (x27.trans x8)).at hd.at_), fun D2 nD2 => ?_⟩
  have yD2 := Ext.new (K := K) (o := .dK kvs) nD2
  refine ⟨a2, D2, r2, pl, rfl, at2.ext yD2, ⟨kvs, upd_same, by rw [ech2]; exact hpl⟩, eok2 pl ok, fun H9 x9 => ⟨rfl, ?_⟩⟩
  rw [ex2 pl, decide_eq_true rfl]
  exact q _ (k1.trans (x2.trans (x27.trans (x8.trans (yD2.trans x9)))).kp)
def spLaw (K : PySem.W.Frag) : Sp := fun vs H Q _ => ∃ (a : Addr) (ns : List Int), vs = [.ref a] ∧ SqL K H a (ns.map V.int) ∧ ns.length ≤ 63 ∧ Only H ∧ ∀ H', Q (.bl true) H'
theorem sc_law : FnScope ["_law_script", "_law_k"] ["_law_script"] (defScope s_law) := ⟨rfl, rfl, rfl, by decide +kernel, rfl, by decide +kernel, by decide +kernel⟩
theorem ok_law {f : Addr} {fd : FuncData} (F : Fun K "law" "law" s_law f fd) (B : B K mg aG)
    (C__law_cell_at : Callee P w K mg base "_law_cell_at" 1 ["_law_script", "_law_k"] (spCell K))
    (C__law_writes : Callee P w K mg base "_law_writes" 7 ["_law_state", "_law_most"] (spWrites K)) : FnOk P w K mg base CX0 8 f fd ["_law_script"] (spLaw K) := by
  refine F.okJ sc_law (fun vs H Q E h => ?_) (fun cdv A outer s H vs Q E hr h => ?_)
  · obtain ⟨a, ns, rfl, _⟩ := h
    rfl
  obtain ⟨a, ns, rfl, hS, h63, ho, q⟩ := h
  refine ⟨_, (bcons (sfor PassesOwn.never rfl (irange1 rfl B.range (acons (ecallB (call_max2 rfl) rfl B.max bt_max (acons ei (acons (ecallB (call_min2 rfl) rfl B.min bt_min (acons ei (acons (ecallB call_len_seq rfl B.len bt_len (acons (ev 0) anil)) anil))) anil))) anil)) (gname (i := 1) sc_law.nd rfl (Or.inl rfl))
        (bone (sif (tnot (tval (ecall C__law_writes (hr.mono (by decide)) rfl (acons (elstQ (acons (eop op_add (ecall C__law_cell_at (hr.mono (by decide)) rfl (acons (ev 0) (acons (ev 1) anil))) (ev 1)) anil)) (acons (eix ix_Q (elstQ (acons ei (acons ei anil))) (ecallTy call_intB rfl B.int bt_int (acons (ecmp op_gt (ev 1) ei (nomark _)) anil)) (fun _ _ => rfl)) anil))))) (bone (sret ebl)) bnil)))
      (bone (sret ebl))), ?_⟩
  try walk_at "rn"
  refine ⟨_, .inl hS, by split <;> (try split) <;> omega, by split <;> (try split) <;> omega, ?_⟩
  refine loop_range (fun i σ H2 => ∃ v1, σ = [some (.ref a), v1] ∧ Ext K H H2) ⟨_, rfl, Ext.refl⟩ ?_ ?_
  · rintro i σ H0 hi ⟨v1, rfl, x0⟩
    try walk_at "rn"
    refine ⟨a, ns, _, rfl, x0.same.seq hS, by omega, fun n => ?_⟩
    try walk_at "rn"
    intro D nD D2 nD2
    have x2 := Ext.new (K := K) (o := .lst [V.int 26, V.int 7]) nD2
    obtain ⟨m, em, m0, m1⟩ : ∃ m : Int, atI [V.int 26, V.int 7] (if 0 < (0 : Int) + i then 1 else 0) = some (.int m) ∧ 3 ≤ m ∧ m ≤ 40 := by
      split
      · exact ⟨7, rfl, by decide, by decide⟩
      · exact ⟨26, rfl, by decide, by decide⟩
    refine ⟨_, em, D, m, rfl, .inl ⟨_, x2.at upd_same⟩, m0, m1, fun H1 k1 => ⟨true, rfl, nnot_if ?_⟩⟩
    exact x0.trans ((x2.kp.trans k1).ext nD)
  · rintro σ H2 ⟨_, rfl, _⟩
    exact q H2
end
theorem all_mk {l : PySem.W.OpenLaw} {w : World} {K : PySem.W.Frag} {h : Heap} {mg : Str → Option Value} {fa f1 f2 f3 f4 f5 f6 f7 f8 f9 f10 f11 f12 f13 f14 f15 f16 f17 f18 f19 f20 f21 f22 f23 f24 f25 f26 f27 : Addr} {od1 an1 od2 an2 od3 an3 od4 an4 od5 an5 od6 an6 od7 an7 od8 an8 od9 an9 od10 an10 od11 an11 od12 an12 od13 an13 od14 an14 od15 an15 od16 an16 od17 an17 od18 an18 od19 an19 od20 an20 od21 an21 od22 an22 od23 an23 od24 an24 od25 an25 od26 an26 od27 an27 : Option Addr} {sl1 sl2 sl3 sl4 sl5 sl6 sl7 sl8 sl9 sl10 sl11 sl12 sl13 sl14 sl15 sl16 sl17 sl18 sl19 sl20 sl21 sl22 sl23 sl24 sl25 sl26 sl27 : Array (Option Value)} {oc1 kV1 dc1 pm1 cd1 ct1 oc2 kV2 dc2 pm2 cd2 ct2 oc3 kV3 dc3 pm3 cd3 ct3 oc4 kV4 dc4 pm4 cd4 ct4 oc5 kV5 dc5 pm5 cd5 ct5 oc6 kV6 dc6 pm6 cd6 ct6 oc7 kV7 dc7 pm7 cd7 ct7 oc8 kV8 dc8 pm8 cd8 ct8 oc9 kV9 dc9 pm9 cd9 ct9 oc10 kV10 dc10 pm10 cd10 ct10 oc11 kV11 dc11 pm11 cd11 ct11 oc12 kV12 dc12 pm12 cd12 ct12 oc13 kV13 dc13 pm13 cd13 ct13 oc14 kV14 dc14 pm14 cd14 ct14 oc15 kV15 dc15 pm15 cd15 ct15 oc16 kV16 dc16 pm16 cd16 ct16 oc17 kV17 dc17 pm17 cd17 ct17 oc18 kV18 dc18 pm18 cd18 ct18 oc19 kV19 dc19 pm19 cd19 ct19 oc20 kV20 dc20 pm20 cd20 ct20 oc21 kV21 dc21 pm21 cd21 ct21 oc22 kV22 dc22 pm22 cd22 ct22 oc23 kV23 dc23 pm23 cd23 ct23 oc24 kV24 dc24 pm24 cd24 ct24 oc25 kV25 dc25 pm25 cd25 ct25 oc26 kV26 dc26 pm26 cd26 ct26 oc27 kV27 dc27 pm27 cd27 ct27 : Value} {aG : Addr} {dG : Option Addr} {tG : Tok} {nG : Nat} {slG : Array (Option Value)} (X : K.In h) (G : h.Ns mainGlobals mg) (hfa : mg "law" = some (.ref fa))
    (a1 : PySem.W.nsIn K mainGlobals "figures_of" = some (some (.ref f1))) (l1 : K.lookup f1 = some ⟨oc1, od1, .func (PySem.W.fnOf "figures_of" "figures_of" (defArgs s_figures_of) (defBody s_figures_of) (defScope s_figures_of) .none kV1 dc1 pm1 an1 cd1 ct1), sl1⟩) (c1 : PySem.W.codeIn K cd1 "figures_of" = true) (k1 : PySem.W.keepIn K (.ref f1) = true)
    (a2 : PySem.W.nsIn K mainGlobals "list_text" = some (some (.ref f2))) (l2 : K.lookup f2 = some ⟨oc2, od2, .func (PySem.W.fnOf "list_text" "list_text" (defArgs s_list_text) (defBody s_list_text) (defScope s_list_text) .none kV2 dc2 pm2 an2 cd2 ct2), sl2⟩) (c2 : PySem.W.codeIn K cd2 "list_text" = true) (k2 : PySem.W.keepIn K (.ref f2) = true)
    (a3 : PySem.W.nsIn K mainGlobals "numbers_text" = some (some (.ref f3))) (l3 : K.lookup f3 = some ⟨oc3, od3, .func (PySem.W.fnOf "numbers_text" "numbers_text" (defArgs s_numbers_text) (defBody s_numbers_text) (defScope s_numbers_text) .none kV3 dc3 pm3 an3 cd3 ct3), sl3⟩) (c3 : PySem.W.codeIn K cd3 "numbers_text" = true) (k3 : PySem.W.keepIn K (.ref f3) = true)
    (a4 : PySem.W.nsIn K mainGlobals "version_text" = some (some (.ref f4))) (l4 : K.lookup f4 = some ⟨oc4, od4, .func (PySem.W.fnOf "version_text" "version_text" (defArgs s_version_text) (defBody s_version_text) (defScope s_version_text) .none kV4 dc4 pm4 an4 cd4 ct4), sl4⟩) (c4 : PySem.W.codeIn K cd4 "version_text" = true) (k4 : PySem.W.keepIn K (.ref f4) = true)
    (a5 : PySem.W.nsIn K mainGlobals "row_text" = some (some (.ref f5))) (l5 : K.lookup f5 = some ⟨oc5, od5, .func (PySem.W.fnOf "row_text" "row_text" (defArgs s_row_text) (defBody s_row_text) (defScope s_row_text) .none kV5 dc5 pm5 an5 cd5 ct5), sl5⟩) (c5 : PySem.W.codeIn K cd5 "row_text" = true) (k5 : PySem.W.keepIn K (.ref f5) = true)
    (a6 : PySem.W.nsIn K mainGlobals "half_text" = some (some (.ref f6))) (l6 : K.lookup f6 = some ⟨oc6, od6, .func (PySem.W.fnOf "half_text" "half_text" (defArgs s_half_text) (defBody s_half_text) (defScope s_half_text) .none kV6 dc6 pm6 an6 cd6 ct6), sl6⟩) (c6 : PySem.W.codeIn K cd6 "half_text" = true) (k6 : PySem.W.keepIn K (.ref f6) = true)
    (a7 : PySem.W.nsIn K mainGlobals "note_text" = some (some (.ref f7))) (l7 : K.lookup f7 = some ⟨oc7, od7, .func (PySem.W.fnOf "note_text" "note_text" (defArgs s_note_text) (defBody s_note_text) (defScope s_note_text) .none kV7 dc7 pm7 an7 cd7 ct7), sl7⟩) (c7 : PySem.W.codeIn K cd7 "note_text" = true) (k7 : PySem.W.keepIn K (.ref f7) = true)
    (a8 : PySem.W.nsIn K mainGlobals "room_text" = some (some (.ref f8))) (l8 : K.lookup f8 = some ⟨oc8, od8, .func (PySem.W.fnOf "room_text" "room_text" (defArgs s_room_text) (defBody s_room_text) (defScope s_room_text) .none kV8 dc8 pm8 an8 cd8 ct8), sl8⟩) (c8 : PySem.W.codeIn K cd8 "room_text" = true) (k8 : PySem.W.keepIn K (.ref f8) = true)
    (a9 : PySem.W.nsIn K mainGlobals "_law_cell_at" = some (some (.ref f9))) (l9 : K.lookup f9 = some ⟨oc9, od9, .func (PySem.W.fnOf "_law_cell_at" "_law_cell_at" (defArgs s__law_cell_at) (defBody s__law_cell_at) (defScope s__law_cell_at) .none kV9 dc9 pm9 an9 cd9 ct9), sl9⟩) (c9 : PySem.W.codeIn K cd9 "_law_cell_at" = true) (k9 : PySem.W.keepIn K (.ref f9) = true)
    (a10 : PySem.W.nsIn K mainGlobals "_law_digit" = some (some (.ref f10))) (l10 : K.lookup f10 = some ⟨oc10, od10, .func (PySem.W.fnOf "_law_digit" "_law_digit" (defArgs s__law_digit) (defBody s__law_digit) (defScope s__law_digit) .none kV10 dc10 pm10 an10 cd10 ct10), sl10⟩) (c10 : PySem.W.codeIn K cd10 "_law_digit" = true) (k10 : PySem.W.keepIn K (.ref f10) = true)
    (a11 : PySem.W.nsIn K mainGlobals "_law_alike" = some (some (.ref f11))) (l11 : K.lookup f11 = some ⟨oc11, od11, .func (PySem.W.fnOf "_law_alike" "_law_alike" (defArgs s__law_alike) (defBody s__law_alike) (defScope s__law_alike) .none kV11 dc11 pm11 an11 cd11 ct11), sl11⟩) (c11 : PySem.W.codeIn K cd11 "_law_alike" = true) (k11 : PySem.W.keepIn K (.ref f11) = true)
    (a12 : PySem.W.nsIn K mainGlobals "_law_number" = some (some (.ref f12))) (l12 : K.lookup f12 = some ⟨oc12, od12, .func (PySem.W.fnOf "_law_number" "_law_number" (defArgs s__law_number) (defBody s__law_number) (defScope s__law_number) .none kV12 dc12 pm12 an12 cd12 ct12), sl12⟩) (c12 : PySem.W.codeIn K cd12 "_law_number" = true) (k12 : PySem.W.keepIn K (.ref f12) = true)
    (a13 : PySem.W.nsIn K mainGlobals "_law_first" = some (some (.ref f13))) (l13 : K.lookup f13 = some ⟨oc13, od13, .func (PySem.W.fnOf "_law_first" "_law_first" (defArgs s__law_first) (defBody s__law_first) (defScope s__law_first) .none kV13 dc13 pm13 an13 cd13 ct13), sl13⟩) (c13 : PySem.W.codeIn K cd13 "_law_first" = true) (k13 : PySem.W.keepIn K (.ref f13) = true)
    (a14 : PySem.W.nsIn K mainGlobals "_law_rising" = some (some (.ref f14))) (l14 : K.lookup f14 = some ⟨oc14, od14, .func (PySem.W.fnOf "_law_rising" "_law_rising" (defArgs s__law_rising) (defBody s__law_rising) (defScope s__law_rising) .none kV14 dc14 pm14 an14 cd14 ct14), sl14⟩) (c14 : PySem.W.codeIn K cd14 "_law_rising" = true) (k14 : PySem.W.keepIn K (.ref f14) = true)
    (a15 : PySem.W.nsIn K mainGlobals "_law_keys" = some (some (.ref f15))) (l15 : K.lookup f15 = some ⟨oc15, od15, .func (PySem.W.fnOf "_law_keys" "_law_keys" (defArgs s__law_keys) (defBody s__law_keys) (defScope s__law_keys) .none kV15 dc15 pm15 an15 cd15 ct15), sl15⟩) (c15 : PySem.W.codeIn K cd15 "_law_keys" = true) (k15 : PySem.W.keepIn K (.ref f15) = true)
    (a16 : PySem.W.nsIn K mainGlobals "_law_versions" = some (some (.ref f16))) (l16 : K.lookup f16 = some ⟨oc16, od16, .func (PySem.W.fnOf "_law_versions" "_law_versions" (defArgs s__law_versions) (defBody s__law_versions) (defScope s__law_versions) .none kV16 dc16 pm16 an16 cd16 ct16), sl16⟩) (c16 : PySem.W.codeIn K cd16 "_law_versions" = true) (k16 : PySem.W.keepIn K (.ref f16) = true)
    (a17 : PySem.W.nsIn K mainGlobals "_law_some" = some (some (.ref f17))) (l17 : K.lookup f17 = some ⟨oc17, od17, .func (PySem.W.fnOf "_law_some" "_law_some" (defArgs s__law_some) (defBody s__law_some) (defScope s__law_some) .none kV17 dc17 pm17 an17 cd17 ct17), sl17⟩) (c17 : PySem.W.codeIn K cd17 "_law_some" = true) (k17 : PySem.W.keepIn K (.ref f17) = true)
    (a18 : PySem.W.nsIn K mainGlobals "_law_note" = some (some (.ref f18))) (l18 : K.lookup f18 = some ⟨oc18, od18, .func (PySem.W.fnOf "_law_note" "_law_note" (defArgs s__law_note) (defBody s__law_note) (defScope s__law_note) .none kV18 dc18 pm18 an18 cd18 ct18), sl18⟩) (c18 : PySem.W.codeIn K cd18 "_law_note" = true) (k18 : PySem.W.keepIn K (.ref f18) = true)
    (a19 : PySem.W.nsIn K mainGlobals "_law_room" = some (some (.ref f19))) (l19 : K.lookup f19 = some ⟨oc19, od19, .func (PySem.W.fnOf "_law_room" "_law_room" (defArgs s__law_room) (defBody s__law_room) (defScope s__law_room) .none kV19 dc19 pm19 an19 cd19 ct19), sl19⟩) (c19 : PySem.W.codeIn K cd19 "_law_room" = true) (k19 : PySem.W.keepIn K (.ref f19) = true)
    (a20 : PySem.W.nsIn K mainGlobals "_law_half" = some (some (.ref f20))) (l20 : K.lookup f20 = some ⟨oc20, od20, .func (PySem.W.fnOf "_law_half" "_law_half" (defArgs s__law_half) (defBody s__law_half) (defScope s__law_half) .none kV20 dc20 pm20 an20 cd20 ct20), sl20⟩) (c20 : PySem.W.codeIn K cd20 "_law_half" = true) (k20 : PySem.W.keepIn K (.ref f20) = true)
    (a21 : PySem.W.nsIn K mainGlobals "_law_line" = some (some (.ref f21))) (l21 : K.lookup f21 = some ⟨oc21, od21, .func (PySem.W.fnOf "_law_line" "_law_line" (defArgs s__law_line) (defBody s__law_line) (defScope s__law_line) .none kV21 dc21 pm21 an21 cd21 ct21), sl21⟩) (c21 : PySem.W.codeIn K cd21 "_law_line" = true) (k21 : PySem.W.keepIn K (.ref f21) = true)
    (a22 : PySem.W.nsIn K mainGlobals "_law_row_text" = some (some (.ref f22))) (l22 : K.lookup f22 = some ⟨oc22, od22, .func (PySem.W.fnOf "_law_row_text" "_law_row_text" (defArgs s__law_row_text) (defBody s__law_row_text) (defScope s__law_row_text) .none kV22 dc22 pm22 an22 cd22 ct22), sl22⟩) (c22 : PySem.W.codeIn K cd22 "_law_row_text" = true) (k22 : PySem.W.keepIn K (.ref f22) = true)
    (a23 : PySem.W.nsIn K mainGlobals "_law_note_text" = some (some (.ref f23))) (l23 : K.lookup f23 = some ⟨oc23, od23, .func (PySem.W.fnOf "_law_note_text" "_law_note_text" (defArgs s__law_note_text) (defBody s__law_note_text) (defScope s__law_note_text) .none kV23 dc23 pm23 an23 cd23 ct23), sl23⟩) (c23 : PySem.W.codeIn K cd23 "_law_note_text" = true) (k23 : PySem.W.keepIn K (.ref f23) = true)
    (a24 : PySem.W.nsIn K mainGlobals "_law_room_text" = some (some (.ref f24))) (l24 : K.lookup f24 = some ⟨oc24, od24, .func (PySem.W.fnOf "_law_room_text" "_law_room_text" (defArgs s__law_room_text) (defBody s__law_room_text) (defScope s__law_room_text) .none kV24 dc24 pm24 an24 cd24 ct24), sl24⟩) (c24 : PySem.W.codeIn K cd24 "_law_room_text" = true) (k24 : PySem.W.keepIn K (.ref f24) = true)
    (a25 : PySem.W.nsIn K mainGlobals "_law_copy" = some (some (.ref f25))) (l25 : K.lookup f25 = some ⟨oc25, od25, .func (PySem.W.fnOf "_law_copy" "_law_copy" (defArgs s__law_copy) (defBody s__law_copy) (defScope s__law_copy) .none kV25 dc25 pm25 an25 cd25 ct25), sl25⟩) (c25 : PySem.W.codeIn K cd25 "_law_copy" = true) (k25 : PySem.W.keepIn K (.ref f25) = true)
    (a26 : PySem.W.nsIn K mainGlobals "_law_writes" = some (some (.ref f26))) (l26 : K.lookup f26 = some ⟨oc26, od26, .func (PySem.W.fnOf "_law_writes" "_law_writes" (defArgs s__law_writes) (defBody s__law_writes) (defScope s__law_writes) .none kV26 dc26 pm26 an26 cd26 ct26), sl26⟩) (c26 : PySem.W.codeIn K cd26 "_law_writes" = true) (k26 : PySem.W.keepIn K (.ref f26) = true)
    (a27 : PySem.W.nsIn K mainGlobals "law" = some (some (.ref f27))) (l27 : K.lookup f27 = some ⟨oc27, od27, .func (PySem.W.fnOf "law" "law" (defArgs s_law) (defBody s_law) (defScope s_law) .none kV27 dc27 pm27 an27 cd27 ct27), sl27⟩) (c27 : PySem.W.codeIn K cd27 "law" = true) (k27 : PySem.W.keepIn K (.ref f27) = true)
    (z_len : PySem.W.nsIn K mainGlobals "len" = some none)
    (z_isinstance : PySem.W.nsIn K mainGlobals "isinstance" = some none)
    (z_int : PySem.W.nsIn K mainGlobals "int" = some none)
    (z_str : PySem.W.nsIn K mainGlobals "str" = some none)
    (z_range : PySem.W.nsIn K mainGlobals "range" = some none)
    (z_list : PySem.W.nsIn K mainGlobals "list" = some none)
    (z_dict : PySem.W.nsIn K mainGlobals "dict" = some none)
    (z_max : PySem.W.nsIn K mainGlobals "max" = some none)
    (z_min : PySem.W.nsIn K mainGlobals "min" = some none)
    (z_all : PySem.W.nsIn K mainGlobals "all" = some none)
    (z_zip : PySem.W.nsIn K mainGlobals "zip" = some none)
    (z_tuple : PySem.W.nsIn K mainGlobals "tuple" = some none)
    (z_bool : PySem.W.nsIn K mainGlobals "bool" = some none)
    (z_GONE : PySem.W.nsIn K mainGlobals "GONE" = some (some (.ref aG)))
    (z_kG : K.lookup aG = some ⟨.type "tuple", dG, .seq #[.str "gone" tG] nG, slG⟩) :
    ∃ fd : FuncData, (∀ (s : Shared) (v : Value), BindsTo s fd ⟨[v], []⟩ [("_law_script", v)]) ∧ ∀ base : Heap, K.In base → base.Ns mainGlobals mg → FnOk l.prog w K mg base CX0 8 fa fd ["_law_script"] (spLaw K) := by
  have e := hfa.symm.trans (PySem.W.mg_of X G a27)
  cases e
  have B := (B.mk (PySem.W.mg_none_of X G z_len) (PySem.W.mg_none_of X G z_isinstance) (PySem.W.mg_none_of X G z_int) (PySem.W.mg_none_of X G z_str) (PySem.W.mg_none_of X G z_range) (PySem.W.mg_none_of X G z_list) (PySem.W.mg_none_of X G z_dict) (PySem.W.mg_none_of X G z_max) (PySem.W.mg_none_of X G z_min) (PySem.W.mg_none_of X G z_all) (PySem.W.mg_none_of X G z_zip) (PySem.W.mg_none_of X G z_tuple) (PySem.W.mg_none_of X G z_bool) (PySem.W.mg_of X G z_GONE) (kTup_of z_kG (by simp) rfl) : B K mg aG)
  have F1 := fun_mk (st := s_figures_of) l1 c1 k1
  have b1 := F1.binds (ps := ["number"]) fun _ _ _ _ _ _ us hl => match us, hl with | [_], _ => rfl
  have F2 := fun_mk (st := s_list_text) l2 c2 k2
  have b2 := F2.binds (ps := ["texts", "sign"]) fun _ _ _ _ _ _ us hl => match us, hl with | [_, _], _ => rfl
  have F3 := fun_mk (st := s_numbers_text) l3 c3 k3
  have b3 := F3.binds (ps := ["numbers"]) fun _ _ _ _ _ _ us hl => match us, hl with | [_], _ => rfl
  have F4 := fun_mk (st := s_version_text) l4 c4 k4
  have b4 := F4.binds (ps := ["version"]) fun _ _ _ _ _ _ us hl => match us, hl with | [_], _ => rfl
  have F5 := fun_mk (st := s_row_text) l5 c5 k5
  have b5 := F5.binds (ps := ["row"]) fun _ _ _ _ _ _ us hl => match us, hl with | [_], _ => rfl
  have F6 := fun_mk (st := s_half_text) l6 c6 k6
  have b6 := F6.binds (ps := ["half"]) fun _ _ _ _ _ _ us hl => match us, hl with | [_], _ => rfl
  have F7 := fun_mk (st := s_note_text) l7 c7 k7
  have b7 := F7.binds (ps := ["note"]) fun _ _ _ _ _ _ us hl => match us, hl with | [_], _ => rfl
  have F8 := fun_mk (st := s_room_text) l8 c8 k8
  have b8 := F8.binds (ps := ["room", "places"]) fun _ _ _ _ _ _ us hl => match us, hl with | [_, _], _ => rfl
  have F9 := fun_mk (st := s__law_cell_at) l9 c9 k9
  have b9 := F9.binds (ps := ["_law_script", "_law_k"]) fun _ _ _ _ _ _ us hl => match us, hl with | [_, _], _ => rfl
  have F10 := fun_mk (st := s__law_digit) l10 c10 k10
  have b10 := F10.binds (ps := ["_law_state", "_law_base"]) fun _ _ _ _ _ _ us hl => match us, hl with | [_, _], _ => rfl
  have F11 := fun_mk (st := s__law_alike) l11 c11 k11
  have b11 := F11.binds (ps := ["_law_found", "_law_due"]) fun _ _ _ _ _ _ us hl => match us, hl with | [_, _], _ => rfl
  have F12 := fun_mk (st := s__law_number) l12 c12 k12
  have b12 := F12.binds (ps := ["_law_state"]) fun _ _ _ _ _ _ us hl => match us, hl with | [_], _ => rfl
  have F13 := fun_mk (st := s__law_first) l13 c13 k13
  have b13 := F13.binds (ps := ["_law_state"]) fun _ _ _ _ _ _ us hl => match us, hl with | [_], _ => rfl
  have F14 := fun_mk (st := s__law_rising) l14 c14 k14
  have b14 := F14.binds (ps := ["_law_state", "_law_many", "_law_first_here"]) fun _ _ _ _ _ _ us hl => match us, hl with | [_, _, _], _ => rfl
  have F15 := fun_mk (st := s__law_keys) l15 c15 k15
  have b15 := F15.binds (ps := ["_law_state", "_law_many"]) fun _ _ _ _ _ _ us hl => match us, hl with | [_, _], _ => rfl
  have F16 := fun_mk (st := s__law_versions) l16 c16 k16
  have b16 := F16.binds (ps := ["_law_state", "_law_most"]) fun _ _ _ _ _ _ us hl => match us, hl with | [_, _], _ => rfl
  have F17 := fun_mk (st := s__law_some) l17 c17 k17
  have b17 := F17.binds (ps := ["_law_state", "_law_most"]) fun _ _ _ _ _ _ us hl => match us, hl with | [_, _], _ => rfl
  have F18 := fun_mk (st := s__law_note) l18 c18 k18
  have b18 := F18.binds (ps := ["_law_state"]) fun _ _ _ _ _ _ us hl => match us, hl with | [_], _ => rfl
  have F19 := fun_mk (st := s__law_room) l19 c19 k19
  have b19 := F19.binds (ps := ["_law_state", "_law_most"]) fun _ _ _ _ _ _ us hl => match us, hl with | [_, _], _ => rfl
  have F20 := fun_mk (st := s__law_half) l20 c20 k20
  have b20 := F20.binds (ps := ["_law_half_here"]) fun _ _ _ _ _ _ us hl => match us, hl with | [_], _ => rfl
  have F21 := fun_mk (st := s__law_line) l21 c21 k21
  have b21 := F21.binds (ps := ["_law_parts", "_law_sign"]) fun _ _ _ _ _ _ us hl => match us, hl with | [_, _], _ => rfl
  have F22 := fun_mk (st := s__law_row_text) l22 c22 k22
  have b22 := F22.binds (ps := ["_law_row"]) fun _ _ _ _ _ _ us hl => match us, hl with | [_], _ => rfl
  have F23 := fun_mk (st := s__law_note_text) l23 c23 k23
  have b23 := F23.binds (ps := ["_law_note_here"]) fun _ _ _ _ _ _ us hl => match us, hl with | [_], _ => rfl
  have F24 := fun_mk (st := s__law_room_text) l24 c24 k24
  have b24 := F24.binds (ps := ["_law_room_here", "_law_places"]) fun _ _ _ _ _ _ us hl => match us, hl with | [_, _], _ => rfl
  have F25 := fun_mk (st := s__law_copy) l25 c25 k25
  have b25 := F25.binds (ps := ["_law_room_here"]) fun _ _ _ _ _ _ us hl => match us, hl with | [_], _ => rfl
  have F26 := fun_mk (st := s__law_writes) l26 c26 k26
  have b26 := F26.binds (ps := ["_law_state", "_law_most"]) fun _ _ _ _ _ _ us hl => match us, hl with | [_, _], _ => rfl
  have F27 := fun_mk (st := s_law) l27 c27 k27
  refine ⟨PySem.W.fnOf "law" "law" (defArgs s_law) (defBody s_law) (defScope s_law) .none kV27 dc27 pm27 an27 cd27 ct27, fun s v => .of_eq rfl, fun base _ _ => ?_⟩
  have C_figures_of : Callee l.prog w K mg base "figures_of" 1 ["number"] spFig := ⟨f1, _, ok_figures_of F1 B , b1, k1, PySem.W.mg_of X G a1⟩
  have C_list_text : Callee l.prog w K mg base "list_text" 1 ["texts", "sign"] (spListText K) := ⟨f2, _, ok_list_text F2 B , b2, k2, PySem.W.mg_of X G a2⟩
  have C_numbers_text : Callee l.prog w K mg base "numbers_text" 2 ["numbers"] (spNumbers K) := ⟨f3, _, ok_numbers_text F3 B (C_list_text := C_list_text) (C_figures_of := C_figures_of), b3, k3, PySem.W.mg_of X G a3⟩
  have C_version_text : Callee l.prog w K mg base "version_text" 2 ["version"] (spVer K) := ⟨f4, _, ok_version_text F4 B (C_figures_of := C_figures_of), b4, k4, PySem.W.mg_of X G a4⟩
  have C_row_text : Callee l.prog w K mg base "row_text" 3 ["row"] (spRow K) := ⟨f5, _, ok_row_text F5 B (C_list_text := C_list_text) (C_figures_of := C_figures_of) (C_version_text := C_version_text), b5, k5, PySem.W.mg_of X G a5⟩
  have C_half_text : Callee l.prog w K mg base "half_text" 2 ["half"] (spHalf K) := ⟨f6, _, ok_half_text F6 B (C_figures_of := C_figures_of), b6, k6, PySem.W.mg_of X G a6⟩
  have C_note_text : Callee l.prog w K mg base "note_text" 3 ["note"] (spNote K) := ⟨f7, _, ok_note_text F7 B (C_figures_of := C_figures_of) (C_half_text := C_half_text), b7, k7, PySem.W.mg_of X G a7⟩
  have C_room_text : Callee l.prog w K mg base "room_text" 4 ["room", "places"] (spRoom K) := ⟨f8, _, ok_room_text F8 B (C_list_text := C_list_text) (C_note_text := C_note_text) (C_figures_of := C_figures_of) (C_numbers_text := C_numbers_text) (C_row_text := C_row_text), b8, k8, PySem.W.mg_of X G a8⟩
  have C__law_cell_at : Callee l.prog w K mg base "_law_cell_at" 1 ["_law_script", "_law_k"] (spCell K) := ⟨f9, _, ok__law_cell_at F9 B , b9, k9, PySem.W.mg_of X G a9⟩
  have C__law_digit : Callee l.prog w K mg base "_law_digit" 1 ["_law_state", "_law_base"] (spDigit K) := ⟨f10, _, ok__law_digit F10 B , b10, k10, PySem.W.mg_of X G a10⟩
  have C__law_alike : Callee l.prog w K mg base "_law_alike" 6 ["_law_found", "_law_due"] (spAlk K 6) := ⟨f11, _, ok__law_alike F11 B b11 k11 (PySem.W.mg_of X G a11) , b11, k11, PySem.W.mg_of X G a11⟩
  have C__law_number : Callee l.prog w K mg base "_law_number" 2 ["_law_state"] (spNumber K) := ⟨f12, _, ok__law_number F12 B (C__law_digit := C__law_digit), b12, k12, PySem.W.mg_of X G a12⟩
  have C__law_first : Callee l.prog w K mg base "_law_first" 2 ["_law_state"] (spFirst K) := ⟨f13, _, ok__law_first F13 B (C__law_digit := C__law_digit), b13, k13, PySem.W.mg_of X G a13⟩
  have C__law_rising : Callee l.prog w K mg base "_law_rising" 2 ["_law_state", "_law_many", "_law_first_here"] (spRising K) := ⟨f14, _, ok__law_rising F14 B (C__law_digit := C__law_digit), b14, k14, PySem.W.mg_of X G a14⟩
  have C__law_keys : Callee l.prog w K mg base "_law_keys" 3 ["_law_state", "_law_many"] (spKeys K) := ⟨f15, _, ok__law_keys F15 B (C__law_digit := C__law_digit) (C__law_rising := C__law_rising), b15, k15, PySem.W.mg_of X G a15⟩
  have C__law_versions : Callee l.prog w K mg base "_law_versions" 3 ["_law_state", "_law_most"] (spVersions K) := ⟨f16, _, ok__law_versions F16 B (C__law_rising := C__law_rising) (C__law_digit := C__law_digit) (C__law_first := C__law_first) (C__law_number := C__law_number), b16, k16, PySem.W.mg_of X G a16⟩
  have C__law_some : Callee l.prog w K mg base "_law_some" 2 ["_law_state", "_law_most"] (spSome K) := ⟨f17, _, ok__law_some F17 B (C__law_digit := C__law_digit), b17, k17, PySem.W.mg_of X G a17⟩
  have C__law_note : Callee l.prog w K mg base "_law_note" 3 ["_law_state"] (spLNote K) := ⟨f18, _, ok__law_note F18 B (C__law_digit := C__law_digit) (C__law_number := C__law_number) (C__law_first := C__law_first), b18, k18, PySem.W.mg_of X G a18⟩
  have C__law_room : Callee l.prog w K mg base "_law_room" 4 ["_law_state", "_law_most"] (spDRoom K) := ⟨f19, _, ok__law_room F19 B (C__law_rising := C__law_rising) (C__law_digit := C__law_digit) (C__law_keys := C__law_keys) (C__law_first := C__law_first) (C__law_number := C__law_number) (C__law_note := C__law_note) (C__law_some := C__law_some) (C__law_versions := C__law_versions), b19, k19, PySem.W.mg_of X G a19⟩
  have C__law_half : Callee l.prog w K mg base "_law_half" 1 ["_law_half_here"] (spLHalf K) := ⟨f20, _, ok__law_half F20 B , b20, k20, PySem.W.mg_of X G a20⟩
  have C__law_line : Callee l.prog w K mg base "_law_line" 1 ["_law_parts", "_law_sign"] (spLLine K) := ⟨f21, _, ok__law_line F21 B , b21, k21, PySem.W.mg_of X G a21⟩
  have C__law_row_text : Callee l.prog w K mg base "_law_row_text" 1 ["_law_row"] (spLRow K) := ⟨f22, _, ok__law_row_text F22 B , b22, k22, PySem.W.mg_of X G a22⟩
  have C__law_note_text : Callee l.prog w K mg base "_law_note_text" 2 ["_law_note_here"] (spLNoteT K) := ⟨f23, _, ok__law_note_text F23 B (C__law_half := C__law_half), b23, k23, PySem.W.mg_of X G a23⟩
  have C__law_room_text : Callee l.prog w K mg base "_law_room_text" 3 ["_law_room_here", "_law_places"] (spLRoom K) := ⟨f24, _, ok__law_room_text F24 B (C__law_line := C__law_line) (C__law_note_text := C__law_note_text) (C__law_row_text := C__law_row_text), b24, k24, PySem.W.mg_of X G a24⟩
  have C__law_copy : Callee l.prog w K mg base "_law_copy" 1 ["_law_room_here"] (spCopy K) := ⟨f25, _, ok__law_copy F25 B , b25, k25, PySem.W.mg_of X G a25⟩
  have C__law_writes : Callee l.prog w K mg base "_law_writes" 7 ["_law_state", "_law_most"] (spWrites K) := ⟨f26, _, ok__law_writes F26 B (C__law_room := C__law_room) (C__law_room_text := C__law_room_text) (C__law_copy := C__law_copy) (C_room_text := C_room_text) (C__law_alike := C__law_alike), b26, k26, PySem.W.mg_of X G a26⟩
  exact ok_law F27 B (C__law_writes := C__law_writes) (C__law_cell_at := C__law_cell_at)
theorem walk {l : PySem.W.OpenLaw} {q : Program} {loose : List Str} {XP : (Str → Option Value) → Heap → Prop} {YP : World → Heap → Prop} {d : DefRec} {K : Params → PySem.W.Frag} (hn : l.most = some 63) (hdf : d.params.defaults = [])
    (hY : ∀ (w : World) (h : Heap), YP w h → (K w.params).In h)
    (F : ∀ (w : World) (mg : Str → Option Value) (fa : Addr) (h : Heap), (K w.params).In h → h.Ns mainGlobals mg → mg d.name = some (.ref fa) →
      ∃ fd : FuncData, (∀ (s : Shared) (u : Value), BindsTo s fd ⟨[u], []⟩ [("_law_script", u)]) ∧ ∀ base : Heap, (K w.params).In base → base.Ns mainGlobals mg → FnOk l.prog w (K w.params) mg base CX0 8 fa fd ["_law_script"] (spLaw (K w.params))) :
    PySem.W.WalkO q loose XP YP l.row.toRowW d [] (fun f vs => PySem.call f vs) :=
  L2.walk_of (n := 63) (k := 8) (x := "_law_script") (CX := fun _ => CX0) (sp := fun w => spLaw (K w.params)) hn (by decide) hdf ⟨rfl, by decide, by decide, rfl⟩ hY F (fun _ _ a ns hl ho hS => ⟨a, ns, rfl, hS, hl, ho, fun _ => rfl⟩) fun _ _ _ _ _ z => z
end K71
open PySem PySem.W PyProof.Rows
set_option maxRecDepth 100000 in
set_option maxHeartbeats 0 in
theorem PySem.Challenge.cw_notefall_k71_rooms_written_holds : PySem.Challenge.rw_notefall_k71_rooms_written.Holds := by
  w_on; o_law; k_head; (case hw => w_witness2)
  k_fill
  refine K71.walk (l := PySem.Challenge.rw_notefall_k71_rooms_written) rfl rfl (fun w h Y => PySem.W.kIn_of Y) ?F
  case F =>
    intro w mg fa h KX G hmg
    refine' K71.all_mk KX G hmg ?a1 ?l1 ?c1 ?k1 ?a2 ?l2 ?c2 ?k2 ?a3 ?l3 ?c3 ?k3 ?a4 ?l4 ?c4 ?k4 ?a5 ?l5 ?c5 ?k5 ?a6 ?l6 ?c6 ?k6 ?a7 ?l7 ?c7 ?k7 ?a8 ?l8 ?c8 ?k8 ?a9 ?l9 ?c9 ?k9 ?a10 ?l10 ?c10 ?k10 ?a11 ?l11 ?c11 ?k11 ?a12 ?l12 ?c12 ?k12 ?a13 ?l13 ?c13 ?k13 ?a14 ?l14 ?c14 ?k14 ?a15 ?l15 ?c15 ?k15 ?a16 ?l16 ?c16 ?k16 ?a17 ?l17 ?c17 ?k17 ?a18 ?l18 ?c18 ?k18 ?a19 ?l19 ?c19 ?k19 ?a20 ?l20 ?c20 ?k20 ?a21 ?l21 ?c21 ?k21 ?a22 ?l22 ?c22 ?k22 ?a23 ?l23 ?c23 ?k23 ?a24 ?l24 ?c24 ?k24 ?a25 ?l25 ?c25 ?k25 ?a26 ?l26 ?c26 ?k26 ?a27 ?l27 ?c27 ?k27 ?z_len ?z_isinstance ?z_int ?z_str ?z_range ?z_list ?z_dict ?z_max ?z_min ?z_all ?z_zip ?z_tuple ?z_bool ?z_GONE ?z_kG
    (case a1 => k_is)
    (case l1 => k_is)
    (case c1 => k_is)
    (case k1 => k_is)
    (case a2 => k_is)
    (case l2 => k_is)
    (case c2 => k_is)
    (case k2 => k_is)
    (case a3 => k_is)
    (case l3 => k_is)
    (case c3 => k_is)
    (case k3 => k_is)
    (case a4 => k_is)
    (case l4 => k_is)
    (case c4 => k_is)
    (case k4 => k_is)
    (case a5 => k_is)
    (case l5 => k_is)
    (case c5 => k_is)
    (case k5 => k_is)
    (case a6 => k_is)
    (case l6 => k_is)
    (case c6 => k_is)
    (case k6 => k_is)
    (case a7 => k_is)
    (case l7 => k_is)
    (case c7 => k_is)
    (case k7 => k_is)
    (case a8 => k_is)
    (case l8 => k_is)
    (case c8 => k_is)
    (case k8 => k_is)
    (case a9 => k_is)
    (case l9 => k_is)
    (case c9 => k_is)
    (case k9 => k_is)
    (case a10 => k_is)
    (case l10 => k_is)
    (case c10 => k_is)
    (case k10 => k_is)
    (case a11 => k_is)
    (case l11 => k_is)
    (case c11 => k_is)
    (case k11 => k_is)
    (case a12 => k_is)
    (case l12 => k_is)
    (case c12 => k_is)
    (case k12 => k_is)
    (case a13 => k_is)
    (case l13 => k_is)
    (case c13 => k_is)
    (case k13 => k_is)
    (case a14 => k_is)
    (case l14 => k_is)
    (case c14 => k_is)
    (case k14 => k_is)
    (case a15 => k_is)
    (case l15 => k_is)
    (case c15 => k_is)
    (case k15 => k_is)
    (case a16 => k_is)
    (case l16 => k_is)
    (case c16 => k_is)
    (case k16 => k_is)
    (case a17 => k_is)
    (case l17 => k_is)
    (case c17 => k_is)
    (case k17 => k_is)
    (case a18 => k_is)
    (case l18 => k_is)
    (case c18 => k_is)
    (case k18 => k_is)
    (case a19 => k_is)
    (case l19 => k_is)
    (case c19 => k_is)
    (case k19 => k_is)
    (case a20 => k_is)
    (case l20 => k_is)
    (case c20 => k_is)
    (case k20 => k_is)
    (case a21 => k_is)
    (case l21 => k_is)
    (case c21 => k_is)
    (case k21 => k_is)
    (case a22 => k_is)
    (case l22 => k_is)
    (case c22 => k_is)
    (case k22 => k_is)
    (case a23 => k_is)
    (case l23 => k_is)
    (case c23 => k_is)
    (case k23 => k_is)
    (case a24 => k_is)
    (case l24 => k_is)
    (case c24 => k_is)
    (case k24 => k_is)
    (case a25 => k_is)
    (case l25 => k_is)
    (case c25 => k_is)
    (case k25 => k_is)
    (case a26 => k_is)
    (case l26 => k_is)
    (case c26 => k_is)
    (case k26 => k_is)
    (case a27 => k_is)
    (case l27 => k_is)
    (case c27 => k_is)
    (case k27 => k_is)
    (case z_len => k_is)
    (case z_isinstance => k_is)
    (case z_int => k_is)
    (case z_str => k_is)
    (case z_range => k_is)
    (case z_list => k_is)
    (case z_dict => k_is)
    (case z_max => k_is)
    (case z_min => k_is)
    (case z_all => k_is)
    (case z_zip => k_is)
    (case z_tuple => k_is)
    (case z_bool => k_is)
    (case z_GONE => k_is)
    (case z_kG => k_is)
