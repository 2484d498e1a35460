import PyProof.Rows.All
import Wide.All
import OpenK.AllK
import Wide.FinOn
import Lean
import PyProof.EqAt
import PyProof.EqKinds
import PyProof.TupleCall
import PySem.Challenge.RW_notefall_k02_rules
set_option Elab.async false
set_option linter.all false
set_option maxRecDepth 100000
namespace L2
open PySem PySem.Spec PyProof.Rows
abbrev Key := Sum Int Str
def keyIs : Key → Value → Bool
  | .inl k, v => Value.isInt k v
  | .inr x, v => Value.isStrOf x v
def keyH (w : World) : Key → Int
  | .inl k => hashInt k
  | .inr x => hashStr w x
theorem keyIs_shape : ∀ {k : Key} {v : Value}, keyIs k v = true → (∃ i t, k = Sum.inl i ∧ v = Value.int i t) ∨ (∃ x t, k = Sum.inr x ∧ v = Value.str x t)
  | .inl i, v, h => by
    obtain ⟨t, e⟩ := Value.isInt_shape (k := i) (v := v) h
    exact .inl ⟨i, t, rfl, e⟩
  | .inr x, v, h => by
    obtain ⟨t, e⟩ := Value.isStrOf_shape (x := x) (v := v) h
    exact .inr ⟨x, t, rfl, e⟩
theorem keyIs_int (i : Int) (t : Tok) : keyIs (.inl i) (.int i t) = true := by simp [keyIs, Value.isInt]
theorem keyIs_str (x : Str) (t : Tok) : keyIs (.inr x) (.str x t) = true := by simp [keyIs, Value.isStrOf]
theorem key_ll (a b : Int) : decide ((Sum.inl a : Key) = Sum.inl b) = (a == b) := by
  by_cases e : a = b
  · subst e; simp
  · have h : ¬ (Sum.inl a : Key) = Sum.inl b := fun q => e (Sum.inl.inj q)
    rw [decide_eq_false h]
    exact (beq_eq_false_iff_ne.mpr e).symm
theorem key_rr (a b : Str) : decide ((Sum.inr a : Key) = Sum.inr b) = decide (a = b) := by
  by_cases e : a = b
  · subst e; simp
  · have h : ¬ (Sum.inr a : Key) = Sum.inr b := fun q => e (Sum.inr.inj q)
    rw [decide_eq_false h, decide_eq_false e]
theorem key_lr (a : Int) (b : Str) : decide ((Sum.inl a : Key) = Sum.inr b) = false := decide_eq_false (fun q => nomatch q)
theorem key_rl (a : Str) (b : Int) : decide ((Sum.inr a : Key) = Sum.inl b) = false := decide_eq_false (fun q => nomatch q)
def mixKind (prog : Program) (w : World) : PySem.KeyKind prog w Key where
  is := keyIs
  hash := keyH w
  inj := fun v a b ha hb => by
    rcases keyIs_shape ha with ⟨i, t, rfl, rfl⟩ | ⟨x, t, rfl, rfl⟩
    · rcases keyIs_shape hb with ⟨j, u, rfl, e⟩ | ⟨y, u, rfl, e⟩
      · injection e with e1 _; rw [e1]
      · exact nomatch e
    · rcases keyIs_shape hb with ⟨j, u, rfl, e⟩ | ⟨y, u, rfl, e⟩
      · exact nomatch e
      · injection e with e1 _; rw [e1]
  byValue := fun k v h => by
    rcases keyIs_shape h with ⟨i, t, rfl, rfl⟩ | ⟨x, t, rfl, rfl⟩ <;> rfl
  pyHash := fun hv h => by
    rcases keyIs_shape hv with ⟨i, t, rfl, rfl⟩ | ⟨x, t, rfl, rfl⟩
    · exact wpAny_pyHash_int h
    · exact wpAny_pyHash_str h
  eqBool := fun hu hv h => by
    rcases keyIs_shape hu with ⟨i, t, rfl, rfl⟩ | ⟨x, t, rfl, rfl⟩
    · rcases keyIs_shape hv with ⟨j, u, rfl, rfl⟩ | ⟨y, u, rfl, rfl⟩
      · rw [key_ll] at h; exact wpAny_eqBool_int h
      · rw [key_lr] at h; exact SeqAt.EqAt.int_str i t y u _ _ _ _ h
    · rcases keyIs_shape hv with ⟨j, u, rfl, rfl⟩ | ⟨y, u, rfl, rfl⟩
      · rw [key_rl] at h; exact SeqAt.EqAt.str_int x t j u _ _ _ _ h
      · rw [key_rr] at h; exact wpAny_eqBool_str h
  «strs» := fun k x t v h => by
    rcases keyIs_shape h with ⟨i, u, rfl, e⟩ | ⟨y, u, rfl, e⟩
    · exact nomatch e
    · injection e with e1 _
      subst e1
      cases v <;> rfl
theorem mixKind_int (prog : Program) (w : World) (i : Int) (t : Tok) : (mixKind prog w).is (.inl i) (.int i t) = true := keyIs_int i t
theorem mixKind_str (prog : Program) (w : World) (x : Str) (t : Tok) : (mixKind prog w).is (.inr x) (.str x t) = true := keyIs_str x t
end L2
namespace L2
open PySem PySem.Spec PyProof.Rows
inductive V where
  | non | bl (b : Bool) | int (i : Int) | str (x : Str) | byt (b : Array UInt8) | flt (b : UInt64) | ref (a : Addr) | ty (n : String)
  deriving DecidableEq
def RelV : V → Value → Prop
  | .non, u => u = Value.none
  | .bl b, u => u = Value.bool b
  | .int i, u => ∃ t, u = Value.int i t
  | .str x, u => ∃ t, u = Value.str x t
  | .byt b, u => ∃ t, u = Value.bytes b t
  | .flt b, u => ∃ t, u = Value.float b t
  | .ref a, u => u = Value.ref a
  | .ty n, u => u = Value.type n
abbrev Vals : List V → List Value → Prop := Paired RelV
theorem Vals.length {xs : List V} {us : List Value} (r : Vals xs us) : xs.length = us.length := Paired.length r
theorem Vals.get : ∀ {xs : List V} {us : List Value} {i : Nat} {x : V}, Vals xs us → xs[i]? = some x → ∃ u, us[i]? = some u ∧ RelV x u
  | _, _, _, _, .nil, e => by simp at e
  | _, _, 0, _, .cons r _, e => by simp at e; subst e; exact ⟨_, rfl, r⟩
  | _, _, i + 1, x, .cons _ t, e => by
    obtain ⟨u, h1, h2⟩ := Vals.get (i := i) (x := x) t (by simpa using e)
    exact ⟨u, by simpa using h1, h2⟩
theorem Vals.set {x : V} {u : Value} (r : RelV x u) : ∀ {xs : List V} {us : List Value} (i : Nat), Vals xs us → Vals (xs.set i x) (us.set i u)
  | _, _, _, .nil => .nil
  | _, _, 0, .cons _ t => .cons r t
  | _, _, i + 1, .cons q t => .cons q (Vals.set r i t)
theorem Vals.append : ∀ {xs ys : List V} {us ws : List Value}, Vals xs us → Vals ys ws → Vals (xs ++ ys) (us ++ ws)
  | _, _, _, _, .nil, s => s
  | _, _, _, _, .cons r t, s => .cons r (Vals.append t s)
theorem Vals.take : ∀ {xs : List V} {us : List Value} (n : Nat), Vals xs us → Vals (xs.take n) (us.take n)
  | _, _, 0, _ => .nil
  | _, _, _ + 1, .nil => .nil
  | _, _, n + 1, .cons r t => .cons r (Vals.take n t)
theorem Vals.drop : ∀ {xs : List V} {us : List Value} (n : Nat), Vals xs us → Vals (xs.drop n) (us.drop n)
  | _, _, 0, r => r
  | _, _, _ + 1, .nil => .nil
  | _, _, n + 1, .cons _ t => Vals.drop n t
theorem Vals.none_of : ∀ {xs : List V} {us : List Value} {i : Nat}, Vals xs us → xs[i]? = none → us[i]? = none := fun {xs us i} r e => by
  have h1 := r.length
  have h2 : xs.length ≤ i := List.getElem?_eq_none_iff.mp e
  exact List.getElem?_eq_none_iff.mpr (by omega)
def RelO : Option V → Option Value → Prop
  | some v, some u => RelV v u
  | none, none => True
  | _, _ => False
def KV {κ : Type} : List (κ × V) → List (κ × Value) → Prop := Paired fun (p : κ × V) (q : κ × Value) => p.1 = q.1 ∧ RelV p.2 q.2
def kV : Key → V
  | .inl i => .int i
  | .inr x => .str x
inductive HO where
  | lst (xs : List V)
  | tup (xs : List V)
  | dK (kvs : List (Key × V)) | dT (kvs : List (List Key × V))
  | set (S : Int → Bool) (n : Nat)
  | ins (C dx : Addr) (fs : List (Str × V))
  | own (x : Addr)
  | xd (fs : List (Str × V))
  | met (f x : Addr)
  | rng (lo hi : Int)
  | frz (o : Obj) (u : HO)
  | tbl (ps : Array Value)
  | ext (φ : Heap → Prop)
abbrev Hp := Addr → Option HO
def upd (H : Hp) (a : Addr) (o : HO) : Hp := fun b => if b = a then some o else H b
theorem upd_same {H : Hp} {a : Addr} {o : HO} : upd H a o a = some o := by unfold upd; rw [if_pos rfl]
theorem upd_ne {H : Hp} {a b : Addr} {o : HO} (h : b ≠ a) : upd H a o b = H b := by unfold upd; rw [if_neg h]
theorem upd_upd {H : Hp} {a : Addr} {o u : HO} : upd (upd H a o) a u = upd H a u := by
  funext b; unfold upd; split <;> rfl
theorem ne_of {H : Hp} {a b : Addr} {o u : HO} (h : H a = some o) (h' : H b = some u) (d : o ≠ u) : a ≠ b := by
  intro e; subst e; rw [h] at h'; exact d (Option.some.inj h')
theorem ne_of_none {H : Hp} {a b : Addr} {o : HO} (h : H a = some o) (h' : H b = none) : a ≠ b := by
  intro e; subst e; rw [h] at h'; cases h'
section
variable (P : Program) (w : World)
def ObjOk (H : Hp) (h : Heap) (a : Addr) : HO → Prop
  | .lst xs => xs.length ≤ sizeLine ∧ ∃ (its : List Value) (n : Nat), Vals xs its ∧ h.get? a = some { cls := .type "list", data := .seq its.toArray n }
  | .tup xs => xs.length ≤ sizeLine ∧ ∃ its : List Value, Vals xs its ∧ IsTup h a its.toArray
  | .dK kvs => kvs.length ≤ sizeLine ∧ (a == sysModules) = false ∧ ∃ vs, KV kvs vs ∧ h.DictOf (mixKind P w) a vs
  | .dT kvs => kvs.length ≤ sizeLine ∧ (a == sysModules) = false ∧ ∃ xs : List (List Key × Addr × Value),
      Paired (fun (p : List Key × V) (q : List Key × Addr × Value) => p.1 = q.1 ∧ H q.2.1 = some (.tup (p.1.map kV)) ∧ RelV p.2 q.2.2) kvs xs ∧
      ∃ o es ep, h.get? a = some o ∧ o.ExactDict ∧ o.data = .dict es ep ∧ es.toList = xs.map (entryOfKey (tupleKind (mixKind P w))) ∧ (xs.map (·.1)).Nodup
  | .set S n => h.SetOf (intKind P w) a S n
  | .ins C dx fs => H dx = some (.own a) ∧ fs.length ≤ 1000 ∧ dx ≠ a ∧ h.get? a = some (PySem.W.instObj C dx) ∧
      ∃ mA, h.Ns1 dx mA ∧ (∀ f, RelO (fs.lookup f) (mA f)) ∧ PySem.Within mA (fs.map (·.1))
  | .own _ => ∃ o, h.get? a = some o
  | .xd fs => ∃ mA, h.Ns1 a mA ∧ ∀ f, RelO (fs.lookup f) (mA f)
  | .rng lo hi => ∃ t u v, h.get? a = some { cls := .type "range", data := .fields #[.int lo t, .int hi u, .int 1 v] }
  | .frz o u => h.get? a = some o ∧ ObjOk H h a u
  | .tbl ps => h.get? a = some { cls := .none, data := .fields ps }
  | .met f x => h.get? a = some (PySem.W.methodObj (.ref f) (.ref x))
  | .ext φ => φ h ∧ (∃ o, h.get? a = some o) ∧ ∀ h1 h2 : Heap, φ h1 → (∀ o, h1.get? a = some o → h2.get? a = some o) → φ h2
def HOk (H : Hp) (h : Heap) : Prop := ∀ a o, H a = some o → ObjOk P w H h a o
end
section
variable {P : Program} {w : World} {H H' : Hp} {h h' : Heap} {a : Addr} {o : HO}
theorem ObjOk.lt (x : ObjOk P w H h a o) : a < h.objs.size := by
  cases o with
  | lst xs => obtain ⟨_, _, _, _, e⟩ := x; exact Heap.lt_size e
  | tup xs => obtain ⟨_, _, _, p⟩ := x; exact p.lt
  | dK kvs => obtain ⟨_, _, _, _, o, _, _, e, _⟩ := x; exact Heap.lt_size e
  | dT kvs => obtain ⟨_, _, _, _, o, _, _, e, _⟩ := x; exact Heap.lt_size e
  | set S n => obtain ⟨o, _, _, _, e, _⟩ := x; exact Heap.lt_size e
  | ins C dx fs => obtain ⟨_, _, _, e, _⟩ := x; exact Heap.lt_size e
  | own y => obtain ⟨_, e⟩ := x; exact Heap.lt_size e
  | xd fs => obtain ⟨_, ⟨_, _, _, e, _⟩, _⟩ := x; exact Heap.lt_size e
  | rng lo hi => obtain ⟨_, _, _, e⟩ := x; exact Heap.lt_size e
  | frz ob u => obtain ⟨e, _⟩ := x; exact Heap.lt_size e
  | tbl ps => exact Heap.lt_size (show h.get? a = some _ from x)
  | met f y => exact Heap.lt_size (show h.get? a = some _ from x)
  | ext φ => obtain ⟨_, ⟨_, e⟩, _⟩ := x; exact Heap.lt_size e
theorem Paired.mapP {α β : Type} {F G : α → β → Prop} : ∀ {l₁ : List α} {l₂ : List β}, Paired F l₁ l₂ → (∀ a b, F a b → G a b) → Paired G l₁ l₂
  | _, _, .nil, _ => .nil
  | _, _, .cons r t, f => .cons (f _ _ r) (Paired.mapP t f)
theorem ObjOk.stay (x : ObjOk P w H h a o) (k : ∀ b u, (b = a ∨ H b = some (.own a)) → h.get? b = some u → h'.get? b = some u)
    (ho : ∀ b, H b = some (.own a) → H' b = some (.own a)) (ht : ∀ b xs, H b = some (.tup xs) → H' b = some (.tup xs)) : ObjOk P w H' h' a o := by
  induction o with
  | lst xs => obtain ⟨z, its, n, r, e⟩ := x; exact ⟨z, its, n, r, k _ _ (.inl rfl) e⟩
  | tup xs => obtain ⟨z, its, r, ob, e, c⟩ := x; exact ⟨z, its, r, ob, k _ _ (.inl rfl) e, c⟩
  | dK kvs => obtain ⟨z, y, vs, r, ob, es, ep, e, c⟩ := x; exact ⟨z, y, vs, r, ob, es, ep, k _ _ (.inl rfl) e, c⟩
  | dT kvs =>
    obtain ⟨z, y, xs, r, ob, es, ep, e, c⟩ := x
    exact ⟨z, y, xs, Paired.mapP r fun p q z => ⟨z.1, ht _ _ z.2.1, z.2.2⟩, ob, es, ep, k _ _ (.inl rfl) e, c⟩
  | set S n => obtain ⟨ob, es, ep, t, e, c⟩ := x; exact ⟨ob, es, ep, t, k _ _ (.inl rfl) e, c⟩
  | ins C dx fs =>
    obtain ⟨d, z, ne, e, mA, ⟨od, es, ep, e2, c⟩, r⟩ := x
    exact ⟨ho _ d, z, ne, k _ _ (.inl rfl) e, mA, ⟨od, es, ep, k _ _ (.inr d) e2, c⟩, r⟩
  | own y => obtain ⟨ob, e⟩ := x; exact ⟨ob, k _ _ (.inl rfl) e⟩
  | xd fs => obtain ⟨mA, ⟨od, es, ep, e, c⟩, r⟩ := x; exact ⟨mA, ⟨od, es, ep, k _ _ (.inl rfl) e, c⟩, r⟩
  | rng lo hi => obtain ⟨t, u, v, e⟩ := x; exact ⟨t, u, v, k _ _ (.inl rfl) e⟩
  | frz ob u ih => obtain ⟨e, q⟩ := x; exact ⟨k _ _ (.inl rfl) e, ih q⟩
  | tbl ps =>
    have e : h.get? a = some { cls := .none, data := .fields ps } := x
    show h'.get? a = some { cls := .none, data := .fields ps }
    exact k a _ (.inl rfl) e
  | met f y =>
    have e : h.get? a = some (PySem.W.methodObj (.ref f) (.ref y)) := x
    show h'.get? a = some (PySem.W.methodObj (.ref f) (.ref y))
    exact k a _ (.inl rfl) e
  | ext φ => obtain ⟨p, ⟨o, e⟩, st⟩ := x; exact ⟨st _ _ p fun o q => k _ _ (.inl rfl) q, ⟨o, k _ _ (.inl rfl) e⟩, st⟩
theorem HOk.lt (x : HOk P w H h) (e : H a = some o) : a < h.objs.size := (x a o e).lt
theorem HOk.fresh (x : HOk P w H h) (e : h.objs.size ≤ a) : H a = none := by
  cases q : H a with
  | none => rfl
  | some u => exact absurd (Nat.lt_of_lt_of_le (x.lt q) e) (Nat.lt_irrefl _)
theorem HOk.kept (x : HOk P w H h) (k : ∀ b u, h.get? b = some u → h'.get? b = some u) : HOk P w H h' := fun a o e =>
  (x a o e).stay (fun b u _ q => k b u q) (fun _ q => q) fun _ _ q => q
theorem HOk.laid (x : HOk P w H h) (k : ∀ b u, h.get? b = some u → h'.get? b = some u) (hp : h.objs.size ≤ a) (new : ObjOk P w (upd H a o) h' a o) : HOk P w (upd H a o) h' := fun b u e => by
  have hn := x.fresh hp
  by_cases hb : b = a
  · subst hb; rw [upd_same] at e; cases e; exact new
  · rw [upd_ne hb] at e
    exact (x b u e).stay (fun c v _ q => k c v q) (fun c q => by rw [upd_ne (ne_of_none q hn)]; exact q) fun c xs q => by rw [upd_ne (ne_of_none q hn)]; exact q
end
def Rd (H : Hp) (a : Addr) (u : HO) : Prop := H a = some u ∨ ∃ o, H a = some (.frz o u)
theorem Rd.of {H : Hp} {a : Addr} {u : HO} (h : H a = some u) : Rd H a u := .inl h
theorem Rd.ok {P : Program} {w : World} {H : Hp} {h : Heap} {a : Addr} {u : HO} (r : Rd H a u) (x : HOk P w H h) : ObjOk P w H h a u := by
  rcases r with r | ⟨o, r⟩
  · exact x a u r
  · obtain ⟨_, q⟩ := x a _ r
    exact q
def Mut : Option HO → Prop
  | some (.lst _) => True
  | some (.dK _) => True
  | some (.dT _) => True
  | some (.set _ _) => True
  | some (.ins _ _ _) => True
  | some (.ext _) => True
  | _ => False
section
variable {P : Program} {w : World} {H : Hp} {h h' : Heap} {x e : Addr} {o' : HO}
theorem HOk.write (ok : HOk P w H h) (mu : Mut (H x)) (he : e = x ∨ H e = some (.own x)) (k : ∀ b u, b ≠ e → h.get? b = some u → h'.get? b = some u) (heo : ∃ u, h'.get? e = some u)
    (new : ObjOk P w (upd H x o') h' x o') : HOk P w (upd H x o') h' := fun b u q => by
  have nown : ∀ c y, H c = some (.own y) → c ≠ x := fun c y r z => by subst z; rw [r] at mu; exact mu
  have ntup : ∀ c xs, H c = some (.tup xs) → c ≠ x := fun c xs r z => by subst z; rw [r] at mu; exact mu
  by_cases hb : b = x
  · subst hb; rw [upd_same] at q; cases q; exact new
  · rw [upd_ne hb] at q
    by_cases hbe : b = e
    · have q' : H b = some (.own x) := by
        rcases he with z | z
        · exact absurd (hbe.trans z) hb
        · rw [hbe]; exact z
      rw [q] at q'; cases q'
      obtain ⟨v, hv⟩ := heo
      exact ⟨v, by rw [hbe]; exact hv⟩
    · refine (ok b u q).stay (fun c v hc r => k c v ?_ r) (fun c r => by rw [upd_ne (nown c b r)]; exact r) fun c xs r => by rw [upd_ne (ntup c xs r)]; exact r
      rcases hc with rfl | hc
      · exact hbe
      · rintro rfl
        rcases he with z | z
        · exact nown c b hc z
        · rw [hc] at z; cases z; exact hb rfl
end
structure Un (fs ex : List Addr) (H H' : Hp) (h h' : Heap) : Prop where
  keep : ∀ b o, h.get? b = some o → H b = none → b ∉ fs → b ∉ ex → h'.get? b = some o
  slot : ∀ b o, h.get? b = some o → H b = none → b ∈ fs → b ∉ ex → ∃ sl, h'.get? b = some { o with slots := sl }
  free : ∀ b o, h.get? b = some o → H b = none → b ∉ ex → H' b = none
  there : ∀ b o, h.get? b = some o → b ∉ ex → ∃ o', h'.get? b = some o'
  tups : ∀ b xs, H b = some (.tup xs) → H' b = some (.tup xs)
  frzs : ∀ b o u, H b = some (.frz o u) → H' b = some (.frz o u)
  tbls : ∀ b ps, H b = some (.tbl ps) → ∃ more, H' b = some (.tbl (ps ++ more))
section
variable {fs fs' ex ex' : List Addr} {H H1 H2 : Hp} {h h1 h2 h' : Heap} {a x e : Addr} {o : HO}
theorem Un.any (u : Un fs ex H H1 h h1) {b : Addr} {ob : Obj} (q : h.get? b = some ob) (n : H b = none) (hx : b ∉ ex) : ∃ sl, h1.get? b = some { ob with slots := sl } := by
  by_cases hb : b ∈ fs
  · exact u.slot b ob q n hb hx
  · exact ⟨ob.slots, u.keep b ob q n hb hx⟩
theorem Un.trans (a : Un fs ex H H1 h h1) (b : Un fs ex H1 H2 h1 h2) : Un fs ex H H2 h h2 where
  keep := fun c ob q n hc hx => b.keep c ob (a.keep c ob q n hc hx) (a.free c ob q n hx) hc hx
  slot := fun c ob q n hc hx => by
    obtain ⟨sl, e1⟩ := a.slot c ob q n hc hx
    obtain ⟨sl', e2⟩ := b.slot c _ e1 (a.free c ob q n hx) hc hx
    exact ⟨sl', e2⟩
  free := fun c ob q n hx => by
    obtain ⟨o', e1⟩ := a.there c ob q hx
    exact b.free c o' e1 (a.free c ob q n hx) hx
  there := fun c ob q hx => by
    obtain ⟨o', e1⟩ := a.there c ob q hx
    exact b.there c o' e1 hx
  tups := fun c xs q => b.tups c xs (a.tups c xs q)
  frzs := fun c ob xs q => b.frzs c ob xs (a.frzs c ob xs q)
  tbls := fun c ps q => by
    obtain ⟨m1, e1⟩ := a.tbls c ps q
    obtain ⟨m2, e2⟩ := b.tbls c _ e1
    exact ⟨m1 ++ m2, by rw [e2, Array.append_assoc]⟩
theorem Un.kept (k : ∀ b u, h.get? b = some u → h'.get? b = some u) : Un fs ex H H h h' :=
  ⟨fun b ob q _ _ _ => k b ob q, fun b ob q _ _ _ => ⟨ob.slots, k b ob q⟩, fun _ _ _ n _ => n, fun b ob q _ => ⟨ob, k b ob q⟩, fun _ _ q => q, fun _ _ _ q => q, fun _ ps q => ⟨#[], by rw [q]; simp⟩⟩
theorem Un.refl : Un fs ex H H h h := Un.kept fun _ _ q => q
theorem Un.laid (k : ∀ b u, h.get? b = some u → h'.get? b = some u) (hp : h.objs.size ≤ a) (hn : H a = none) : Un fs ex H (upd H a o) h h' where
  keep := fun b u q _ _ _ => k b u q
  slot := fun b u q _ _ _ => ⟨u.slots, k b u q⟩
  free := fun b u q n _ => by rw [upd_ne (Nat.ne_of_lt (Nat.lt_of_lt_of_le (Heap.lt_size q) hp))]; exact n
  there := fun b u q _ => ⟨u, k b u q⟩
  tups := fun b xs q => by rw [upd_ne (ne_of_none q hn)]; exact q
  frzs := fun b u xs q => by rw [upd_ne (ne_of_none q hn)]; exact q
  tbls := fun b ps q => ⟨#[], by rw [upd_ne (ne_of_none q hn), q]; simp⟩
theorem Un.write (mu : Mut (H x)) (he : e = x ∨ H e = some (.own x)) (k : ∀ b u, b ≠ e → h.get? b = some u → h'.get? b = some u) (heo : ∃ u, h'.get? e = some u) : Un fs ex H (upd H x o) h h' := by
  have hx : ∀ b, H b = none → b ≠ x := fun b n z => by subst z; rw [n] at mu; exact mu
  have hb : ∀ b, H b = none → b ≠ e := fun b n z => by
    subst z
    rcases he with r | r
    · exact hx b n r
    · rw [n] at r; cases r
  have hm : ∀ b u, H b = some u → ¬ Mut (some u) → b ≠ x := fun b u q nm z => by subst z; rw [q] at mu; exact nm mu
  refine ⟨fun b u q n _ _ => k b u (hb b n) q, fun b u q n _ _ => ⟨u.slots, k b u (hb b n) q⟩, fun b u q n _ => by rw [upd_ne (hx b n)]; exact n, fun b u q _ => ?_,
    fun b xs q => by rw [upd_ne (hm b _ q fun z => z)]; exact q, fun b u xs q => by rw [upd_ne (hm b _ q fun z => z)]; exact q, fun b ps q => ⟨#[], by rw [upd_ne (hm b _ q fun z => z), q]; simp⟩⟩
  by_cases hbe : b = e
  · subst hbe; exact heo
  · exact ⟨u, k b u hbe q⟩
theorem Un.mono (u : Un fs ex H H1 h h1) (hs : ∀ b ∈ fs, b ∈ fs') (hx : ∀ b ∈ ex, b ∈ ex') : Un fs' ex' H H1 h h1 :=
  ⟨fun b ob q n hb he => u.keep b ob q n (fun z => hb (hs b z)) fun z => he (hx b z), fun _ _ q n _ he => u.any q n fun z => he (hx _ z), fun b ob q n he => u.free b ob q n fun z => he (hx b z), fun b ob q he => u.there b ob q fun z => he (hx b z), u.tups, u.frzs, u.tbls⟩
end
def trk (h : Heap) (H : Hp) : List Addr := (List.range h.objs.size).filter fun a => (H a).isSome
def hidT (h : Heap) (H : Hp) : Heap := PySem.W.hideAll h (trk h H)
theorem hidT_size (h : Heap) (H : Hp) : (hidT h H).objs.size = h.objs.size := PySem.W.hideAll_size _ _
theorem hidT_get {h : Heap} {H : Hp} {b : Addr} {o : Obj} (e : h.get? b = some o) (n : H b = none) : (hidT h H).get? b = some o :=
  PySem.W.hideAll_get _ e fun hm => by
    have q : (H b).isSome = true := (List.mem_filter.mp hm).2
    rw [n] at q; simp at q
theorem of_hidT {h : Heap} {H : Hp} {b : Addr} {o : Obj} (e : (hidT h H).get? b = some o) : h.get? b = some o ∧ H b = none := by
  have e' : h.get? b = some o := PySem.W.of_hideAll (trk h H) e
  refine ⟨e', ?_⟩
  cases q : H b with
  | none => rfl
  | some x =>
    have hm : b ∈ trk h H := List.mem_filter.mpr ⟨List.mem_range.mpr (Heap.lt_size e'), by simp [q]⟩
    have z : (hidT h H).get? b = none := PySem.W.hideAll_none (trk h H) hm
    rw [z] at e; cases e
def allNews (g h : Heap) (L : Addr) : List (Addr × Obj) := (List.range h.objs.size).filterMap fun a => if a = L ∨ (g.get? a).isSome = true then none else (h.get? a).map fun o => (a, o)
def rest (g h : Heap) (L d : Addr) : List (Addr × Obj) := (allNews g h L).filter fun p => decide (p.1 ≠ d)
end L2
namespace L2
open PySem PySem.Spec PyProof.Rows
structure Mod (K : PySem.W.Frag) (mg : Str → Option Value) (base : Heap) : Prop where
  kin : K.In base
  glob : base.Ns mainGlobals mg
  blt : ∃ mb, base.Ns builtinsNs mb ∧ ∀ x : Str, x ≠ "__name__" → mb x = bootBuiltins x
  nolimit : base.NoLimit
structure Cx where
  prog : Program
  w : World
  K : PySem.W.Frag
  mg : Str → Option Value
  base : Heap
  A : Around
  N : List Str
  s₀ : Shared
  H₀ : Hp
  env : Env
  outer : List Env
  stack : List Env
  ex : List Addr
  fn : Str → Bool
  calm : Bool
  pn : List (Addr × Obj)
  xe : Value → Shared → Prop
def frs (l : List Env) : List Addr := l.filterMap (·.frame)
abbrev Cx.fs (X : Cx) : List Addr := frs X.outer
def Vis (sc : Scope) (x : Str) : Prop := sc.names.lookup x = some .local ∨ sc.names.lookup x = some .cell ∨ sc.names.lookup x = some .free
def Loc (sc : Scope) (x : Str) : Prop := sc.names.lookup x = some .local ∨ sc.names.lookup x = some .cell
def Look (env : Env) (h : Heap) (m : Str → Option Value) (x : Str) (u : Value) : Prop :=
  (env.kindOf x = some .local ∧ m x = some u) ∨ ((env.kindOf x = some .cell ∨ env.kindOf x = some .free) ∧ ∃ c, env.cells.lookup x = some c ∧ h.IsCell c (some u))
structure Cx.Ok (X : Cx) : Prop where
  mod : Mod X.K X.mg X.base
  kind : X.env.scope.kind = .function
  glob : X.env.globals = mainGlobals
  blt : X.env.builtins = builtinsNs
  above : X.s₀.heap.objs.size ≤ X.env.locals
  inj : ∀ x y c, X.env.cells.lookup x = some c → X.env.cells.lookup y = some c → x = y
  has : ∀ x, (X.env.kindOf x = some .cell ∨ X.env.kindOf x = some .free) → ∃ c, X.env.cells.lookup x = some c
  cab : ∀ x c, X.fn x = true → X.env.cells.lookup x = some c → X.s₀.heap.objs.size ≤ c
  hd : X.calm = true → X.A.handled = none
  frames : X.A.frames = some X.stack
  stk : X.stack = X.outer ∨ (X.stack = X.env :: X.outer ∧ X.env.frame = some X.env.locals)
  exf : ∀ b ∈ X.ex, b ≠ X.env.locals ∧ ∀ x c, X.env.cells.lookup x = some c → c ≠ b
  bs : ∀ b o, X.base.get? b = some o → X.s₀.heap.get? b = some o ∧ X.H₀ b = none
  bsz : X.base.objs.size ≤ X.s₀.heap.objs.size
  noex : ∀ b o, X.base.get? b = some o → b ∉ X.ex
  exfs : ∀ b ∈ X.ex, b ∉ X.fs
  funs : X.s₀.heap.FunFrames X.base X.outer
  frf : ∀ b ∈ X.fs, X.H₀ b = none
structure Inv (X : Cx) (pins : List (Addr × Obj)) (σ : List (Option V)) (H : Hp) (s : Shared) : Prop where
  ok : X.Ok
  os : s.os = X.s₀.os
  bare : AllBare s.gens
  base : Un X.fs X.ex X.H₀ H X.s₀.heap s.heap
  loc : ∃ m, s.heap.Ns X.env.locals m ∧ ∀ (i : Nat) (x : Str) (v : V), X.N[i]? = some x → σ[i]? = some (some v) → Vis X.env.scope x → ∃ u, RelV v u ∧ Look X.env s.heap m x u
  cell : ∀ x c, X.env.cells.lookup x = some c → ∃ v, s.heap.IsCell c v
  free : H X.env.locals = none
  freeC : ∀ x c, X.env.cells.lookup x = some c → H c = none
  pin : ∀ p ∈ X.pn ++ pins, s.heap.get? p.1 = some p.2 ∧ H p.1 = none ∧ p.1 ≠ X.env.locals ∧ p.1 ∉ X.fs ∧ ∀ v, p.2.data ≠ .cell v
  hok : HOk X.prog X.w H s.heap
  len : σ.length = X.N.length
section
variable {X : Cx} {pins : List (Addr × Obj)} {σ : List (Option V)} {H H' : Hp} {s : Shared} {h' : Heap}
theorem Cx.Ok.nofr (ok : X.Ok) {b : Addr} {o : Obj} (e : X.base.get? b = some o) : b ∉ X.fs := fun hb => by
  have := (ok.funs.mem hb).1
  rw [e] at this; cases this
theorem Inv.bs (I : Inv X pins σ H s) : ∀ b o, X.base.get? b = some o → s.heap.get? b = some o ∧ H b = none := fun b o e =>
  ⟨I.base.keep b o (I.ok.bs b o e).1 (I.ok.bs b o e).2 (I.ok.nofr e) (I.ok.noex b o e), I.base.free b o (I.ok.bs b o e).1 (I.ok.bs b o e).2 (I.ok.noex b o e)⟩
theorem Inv.bk (I : Inv X pins σ H s) : ∀ b o, X.base.get? b = some o → s.heap.get? b = some o := fun b o e => (I.bs b o e).1
theorem Inv.mod (I : Inv X pins σ H s) : Mod X.K X.mg X.base := I.ok.mod
theorem Inv.kIn (I : Inv X pins σ H s) : X.K.In s.heap := I.ok.mod.kin.keeps I.bk
theorem Inv.nolimit (I : Inv X pins σ H s) : s.heap.NoLimit := I.ok.mod.nolimit.keeps I.bk
theorem Inv.fr (I : Inv X pins σ H s) : ∃ m, Fr X.base X.env.locals s.heap m :=
  let ⟨m, hn, _⟩ := I.loc
  ⟨m, hn, I.bk, Nat.le_trans I.ok.bsz I.ok.above⟩
theorem Inv.lt (I : Inv X pins σ H s) : X.env.locals < s.heap.objs.size := let ⟨_, hn, _⟩ := I.loc; hn.lt
theorem Inv.sz (I : Inv X pins σ H s) : X.s₀.heap.objs.size ≤ s.heap.objs.size := Nat.le_trans I.ok.above (Nat.le_of_lt I.lt)
theorem Inv.nofs (I : Inv X pins σ H s) {a : Addr} (h : s.heap.objs.size ≤ a) : a ∉ X.fs := fun hb => by
  obtain ⟨_, o, ho, _⟩ := I.ok.funs.mem hb
  exact absurd (Nat.lt_of_lt_of_le (Heap.lt_size ho) (Nat.le_trans I.sz h)) (Nat.lt_irrefl _)
theorem Inv.cne (I : Inv X pins σ H s) : ∀ x c, X.env.cells.lookup x = some c → c ≠ X.env.locals := fun x c e z => by
  obtain ⟨v, o, ho, hd⟩ := I.cell x c e
  obtain ⟨m, ⟨o', es, ep, ho', hd', _⟩, _⟩ := I.loc
  rw [z, ho'] at ho; cases ho; rw [hd'] at hd; cases hd
theorem Inv.funs (I : Inv X pins σ H s) : s.heap.FunFrames X.base X.outer := by
  have all : ∀ (l : List Env), (∀ b ∈ frs l, b ∈ X.fs) → X.s₀.heap.FunFrames X.base l → s.heap.FunFrames X.base l := by
    intro l
    induction l with
    | nil => intro _ _; trivial
    | cons env r ih =>
      intro hs hl
      obtain ⟨hk, ⟨L, o, hf, hn, ho, hd⟩, hr⟩ := hl
      have hL : L ∈ X.fs := hs L (by unfold frs; rw [List.filterMap_cons, hf]; exact List.mem_cons_self)
      obtain ⟨sl, e⟩ := I.base.slot L o ho (I.ok.frf L hL) hL fun z => I.ok.exfs L z hL
      exact ⟨hk, ⟨L, _, hf, hn, e, hd⟩, ih (fun b hb => hs b (by unfold frs; rw [List.filterMap_cons, hf]; exact List.mem_cons_of_mem _ hb)) hr⟩
  exact all X.outer (fun _ hb => hb) I.ok.funs
theorem Inv.stack (I : Inv X pins σ H s) : s.heap.FunFrames X.base X.stack := by
  rcases I.ok.stk with e | ⟨e, hf⟩
  · rw [e]; exact I.funs
  · rw [e]
    obtain ⟨m, hn, _⟩ := I.loc
    refine .cons (by rw [I.ok.kind]; decide) hf hn ?_ I.funs
    exact Heap.get?_none_of_le (Nat.le_trans I.ok.bsz I.ok.above)
theorem Inv.stkSub (I : Inv X pins σ H s) : ∀ b ∈ frs X.stack, b ∈ X.env.locals :: X.fs := fun b hb => by
  rcases I.ok.stk with e | ⟨e, hf⟩
  · rw [e] at hb; exact List.mem_cons_of_mem _ hb
  · rw [e] at hb
    unfold frs at hb
    rw [List.filterMap_cons, hf] at hb
    exact hb
theorem Inv.stkFree (I : Inv X pins σ H s) : ∀ b ∈ frs X.stack, H b = none := fun b hb => by
  rcases List.mem_cons.mp (I.stkSub b hb) with e | hb
  · rw [e]; exact I.free
  · obtain ⟨_, o, ho, _⟩ := I.ok.funs.mem hb
    exact I.base.free b o ho (I.ok.frf b hb) fun z => I.ok.exfs b z hb
theorem Inv.step {g' : Array GenState} {t' : Nat} {d' : Drawn} {ch : List Addr} (I : Inv X pins σ H s)
    (hch : ∀ b ∈ ch, (b ∈ X.ex ∨ X.s₀.heap.objs.size ≤ b) ∧ b ≠ X.env.locals ∧ (∀ x c, X.env.cells.lookup x = some c → c ≠ b) ∧ ∀ p ∈ X.pn ++ pins, p.1 ≠ b)
    (keep : ∀ b o, b ≠ X.env.locals → b ∉ X.fs → b ∉ ch → s.heap.get? b = some o → H b = none → h'.get? b = some o)
    (slot : ∀ b o, b ≠ X.env.locals → b ∈ X.fs → b ∉ ch → s.heap.get? b = some o → H b = none → ∃ sl, h'.get? b = some { o with slots := sl }) (free : ∀ b o, b ∉ ch → s.heap.get? b = some o → H b = none → H' b = none)
    (there : ∀ b o, b ∉ ch → s.heap.get? b = some o → ∃ o', h'.get? b = some o')
    (tups : ∀ b xs, H b = some (.tup xs) → H' b = some (.tup xs)) (frzs : ∀ b o u, H b = some (.frz o u) → H' b = some (.frz o u)) (tbls : ∀ b ps, H b = some (.tbl ps) → ∃ more, H' b = some (.tbl (ps ++ more)))
    (ns : ∀ m, s.heap.Ns X.env.locals m → h'.Ns X.env.locals m) (hok : HOk X.prog X.w H' h') (hg : AllBare g') :
    Inv X pins σ H' { s with heap := h', gens := g', drawn := d', toks := t' } := by
  have neL : ∀ b o, X.s₀.heap.get? b = some o → b ≠ X.env.locals := fun b o e => Nat.ne_of_lt (Nat.lt_of_lt_of_le (Heap.lt_size e) I.ok.above)
  have neC : ∀ b o, X.s₀.heap.get? b = some o → b ∉ X.ex → b ∉ ch := fun b o e hx hb => by
    rcases (hch b hb).1 with z | z
    · exact hx z
    · exact absurd (Nat.lt_of_lt_of_le (Heap.lt_size e) z) (Nat.lt_irrefl _)
  have cellK : ∀ x c, X.env.cells.lookup x = some c → ∀ v, s.heap.IsCell c v → h'.IsCell c v := fun x c e v ⟨o, ho, hd⟩ => by
    have nch : c ∉ ch := fun z => (hch c z).2.2.1 x c e rfl
    by_cases hc : c ∈ X.fs
    · obtain ⟨sl, q⟩ := slot c o (I.cne x c e) hc nch ho (I.freeC x c e)
      exact ⟨_, q, hd⟩
    · exact ⟨o, keep c o (I.cne x c e) hc nch ho (I.freeC x c e), hd⟩
  refine ⟨I.ok, I.os, hg, ⟨fun b o e n hb hx => ?_, fun b o e n hb hx => ?_, fun b o e n hx => ?_, fun b o e hx => ?_, fun b xs e => tups b xs (I.base.tups b xs e), fun b o xs e => frzs b o xs (I.base.frzs b o xs e), fun b ps e => ?_⟩, ?_, fun x c e => ?_, ?_, fun x c e => ?_, fun p hp => ?_, hok, I.len⟩
  · exact keep b o (neL b o e) hb (neC b o e hx) (I.base.keep b o e n hb hx) (I.base.free b o e n hx)
  · obtain ⟨sl, e1⟩ := I.base.slot b o e n hb hx
    obtain ⟨sl', e2⟩ := slot b _ (neL b o e) hb (neC b o e hx) e1 (I.base.free b o e n hx)
    exact ⟨sl', e2⟩
  · obtain ⟨o', e1⟩ := I.base.there b o e hx
    exact free b o' (neC b o e hx) e1 (I.base.free b o e n hx)
  · obtain ⟨o', e1⟩ := I.base.there b o e hx
    exact there b o' (neC b o e hx) e1
  · obtain ⟨m1, e1⟩ := I.base.tbls b ps e
    obtain ⟨m2, e2⟩ := tbls b _ e1
    exact ⟨m1 ++ m2, by rw [e2, Array.append_assoc]⟩
  · obtain ⟨m, hn, hl⟩ := I.loc
    refine ⟨m, ns m hn, fun i x v e1 e2 e3 => ?_⟩
    obtain ⟨u, r, l⟩ := hl i x v e1 e2 e3
    refine ⟨u, r, ?_⟩
    rcases l with l | ⟨k, c, e, z⟩
    · exact .inl l
    · exact .inr ⟨k, c, e, cellK x c e _ z⟩
  · obtain ⟨v, z⟩ := I.cell x c e
    exact ⟨v, cellK x c e v z⟩
  · obtain ⟨m, ⟨o, _, _, ho, _⟩, _⟩ := I.loc
    exact free _ o (fun z => (hch _ z).2.1 rfl) ho I.free
  · obtain ⟨v, o, ho, hd⟩ := I.cell x c e
    exact free c o (fun z => (hch c z).2.2.1 x c e rfl) ho (I.freeC x c e)
  · obtain ⟨e, n, ne, nf, d⟩ := I.pin p hp
    have nch : p.1 ∉ ch := fun z => (hch p.1 z).2.2.2 p hp rfl
    exact ⟨keep p.1 p.2 ne nf nch e n, free p.1 p.2 nch e n, ne, nf, d⟩
theorem Inv.un {t' : Nat} (I : Inv X pins σ H s) (u : Un X.fs [] H H' s.heap h') (hok : HOk X.prog X.w H' h') : Inv X pins σ H' { s with heap := h', toks := t' } := by
  obtain ⟨m, ⟨o, es, ep, ho, r⟩, _⟩ := id I.loc
  obtain ⟨sl, hL⟩ := u.any ho I.free (by simp)
  exact I.step (g' := s.gens) (d' := s.drawn) (ch := []) (fun _ z => nomatch z) (fun b o _ hb _ e n => u.keep b o e n hb (by simp)) (fun b o _ hb _ e n => u.slot b o e n hb (by simp)) (fun b o _ e n => u.free b o e n (by simp)) (fun b o _ e => u.there b o e (by simp)) u.tups u.frzs u.tbls (fun m' hm => by
    obtain ⟨o', es', ep', ho', r'⟩ := hm
    rw [ho] at ho'; cases ho'
    exact ⟨_, es', ep', hL, r'⟩) hok I.bare
theorem Inv.call {g' : Array GenState} {t' : Nat} {d' : Drawn} {ch : List Addr} (I : Inv X pins σ H s) (u : Un (frs X.stack) ch H H' s.heap h') (hok : HOk X.prog X.w H' h') (hg : AllBare g')
    (hch : ∀ b ∈ ch, (b ∈ X.ex ∨ X.s₀.heap.objs.size ≤ b) ∧ b ≠ X.env.locals ∧ (∀ x c, X.env.cells.lookup x = some c → c ≠ b) ∧ ∀ p ∈ X.pn ++ pins, p.1 ≠ b) :
    Inv X pins σ H' { s with heap := h', gens := g', drawn := d', toks := t' } := by
  obtain ⟨m, ⟨o, es, ep, ho, r⟩, _⟩ := id I.loc
  obtain ⟨sl, hL⟩ := u.any ho I.free fun z => (hch _ z).2.1 rfl
  exact I.step (ch := ch) hch (fun b o hL hb hc e n => u.keep b o e n (fun z => (List.mem_cons.mp (I.stkSub b z)).elim hL hb) hc) (fun b o _ _ hc e n => u.any e n hc) (fun b o hc e n => u.free b o e n hc) (fun b o hc e => u.there b o e hc) u.tups u.frzs u.tbls (fun m' hm => by
    obtain ⟨o', es', ep', ho', r'⟩ := hm
    rw [ho] at ho'; cases ho'
    exact ⟨_, es', ep', hL, r'⟩) hok hg
theorem Inv.turned {t' : Nat} {it : Addr} (I : Inv X pins σ H s) (k : ∀ b o, b ≠ it → s.heap.get? b = some o → h'.get? b = some o) (hn : H it = none) (hL : it ≠ X.env.locals)
    (h1 : it ∈ X.ex ∨ X.s₀.heap.objs.size ≤ it) (h2 : ∀ x c, X.env.cells.lookup x = some c → c ≠ it) (h3 : ∀ p ∈ X.pn ++ pins, p.1 ≠ it) : Inv X pins σ H { s with heap := h', toks := t' } := by
  have nit : ∀ b u, H b = some u → b ≠ it := fun b u e z => by rw [z, hn] at e; cases e
  refine I.step (g' := s.gens) (d' := s.drawn) (ch := [it]) (fun b hb => ?_) (fun b o _ _ hc e _ => k b o (fun z => hc (by simp [z])) e) (fun b o _ _ hc e _ => ⟨o.slots, k b o (fun z => hc (by simp [z])) e⟩) (fun _ _ _ _ n => n)
    (fun b o hc e => ⟨o, k b o (fun z => hc (by simp [z])) e⟩) (fun _ _ e => e) (fun _ _ _ e => e) (fun b ps e => ⟨#[], by rw [e]; simp⟩) (fun m hm => ?_) (fun b u e => ?_) I.bare
  · have e : b = it := by simpa using hb
    subst e
    exact ⟨h1, hL, h2, h3⟩
  · obtain ⟨o, es, ep, ho, r⟩ := hm
    exact ⟨o, es, ep, k _ o (Ne.symm hL) ho, r⟩
  · refine (I.hok b u e).stay (fun c v hc q => k c v ?_ q) (fun _ q => q) fun _ _ q => q
    rcases hc with z | z
    · rw [z]; exact nit b u e
    · exact nit c _ z
theorem Inv.tok (I : Inv X pins σ H s) (t : Nat) : Inv X pins σ H { s with toks := t } := I.un (h' := s.heap) (t' := t) Un.refl I.hok
theorem Inv.kept {t' : Nat} (I : Inv X pins σ H s) (k : ∀ b u, s.heap.get? b = some u → h'.get? b = some u) : Inv X pins σ H { s with heap := h', toks := t' } := I.un (Un.kept k) (I.hok.kept k)
theorem Inv.laid {a : Addr} {o : HO} {t' : Nat} (I : Inv X pins σ H s) (k : ∀ b u, s.heap.get? b = some u → h'.get? b = some u) (hp : s.heap.objs.size ≤ a) (new : ObjOk X.prog X.w (upd H a o) h' a o) :
    Inv X pins σ (upd H a o) { s with heap := h', toks := t' } := I.un (Un.laid k hp (I.hok.fresh hp)) (I.hok.laid k hp new)
theorem Inv.write {x e : Addr} {o : HO} {t' : Nat} (I : Inv X pins σ H s) (mu : Mut (H x)) (he : e = x ∨ H e = some (.own x)) (k : ∀ b u, b ≠ e → s.heap.get? b = some u → h'.get? b = some u) (heo : ∃ u, h'.get? e = some u)
    (new : ObjOk X.prog X.w (upd H x o) h' x o) : Inv X pins σ (upd H x o) { s with heap := h', toks := t' } := I.un (Un.write mu he k heo) (I.hok.write mu he k heo new)
theorem Inv.weak {σ' : List (Option V)} (I : Inv X pins σ H s) (hl : σ'.length = σ.length) (w : ∀ (i : Nat) v, σ'[i]? = some (some v) → σ[i]? = some (some v)) : Inv X pins σ' H s :=
  ⟨I.ok, I.os, I.bare, I.base, let ⟨m, hn, hl'⟩ := I.loc; ⟨m, hn, fun i x v e1 e2 e3 => hl' i x v e1 (w i v e2) e3⟩, I.cell, I.free, I.freeC, I.pin, I.hok, hl.trans I.len⟩
theorem Inv.pins_of {pins' : List (Addr × Obj)} (I : Inv X pins σ H s) (h : ∀ p ∈ pins', s.heap.get? p.1 = some p.2 ∧ H p.1 = none ∧ p.1 ≠ X.env.locals ∧ p.1 ∉ X.fs ∧ ∀ v, p.2.data ≠ .cell v) : Inv X pins' σ H s :=
  ⟨I.ok, I.os, I.bare, I.base, I.loc, I.cell, I.free, I.freeC, fun p hp => (List.mem_append.mp hp).elim (fun z => I.pin p (List.mem_append_left _ z)) (h p), I.hok, I.len⟩
theorem nodup_ix {N : List Str} (hN : N.Nodup) {i j : Nat} {x : Str} (a : N[i]? = some x) (b : N[j]? = some x) : i = j := by
  obtain ⟨h1, e1⟩ := List.getElem?_eq_some_iff.mp a
  obtain ⟨h2, e2⟩ := List.getElem?_eq_some_iff.mp b
  exact (List.getElem_inj hN).mp (e1.trans e2.symm)
theorem store_ok2 {M : Model} {A : Around} {E : Value → Shared → Prop} {i : Nat} {x : Str} {v : V} {u : Value} {Q : Unit → Shared → Prop} (I : Inv X pins σ H s) (hN : X.N.Nodup) (hi : X.N[i]? = some x) (hx : Loc X.env.scope x) (r : RelV v u)
    (h : ∀ s', Inv X pins (σ.set i (some v)) H s' → (∃ a, Heap.SameBut a s.heap s'.heap ∧ (a = X.env.locals ∨ X.env.cells.lookup x = some a)) → Q () s') (hf : X.fn x = true ∨ X.env.scope.names.lookup x = some .local := by first | exact .inl rfl | exact .inr rfl | assumption) : wpAny M A (storeName X.env x u) Q E s := by
  obtain ⟨m, hn, hl⟩ := id I.loc
  have hcls : (X.env.scope.kind == .class || (X.env.scope.kind == .module && X.env.locals != X.env.globals)) = false := by rw [I.ok.kind]; rfl
  have hiσ : i < σ.length := by rw [I.len]; exact (List.getElem?_eq_some_iff.mp hi).1
  have cne := I.cne
  have tracked : ∀ {a : Addr} {h' : Heap}, (∃ o, s.heap.get? a = some o ∧ H a = none) → Heap.SameBut a s.heap h' → HOk X.prog X.w H h' := fun {a h'} ha hs b ob e => by
    obtain ⟨_, _, hfree⟩ := ha
    refine (I.hok b ob e).stay (fun c w' hc q => (hs.2 c ?_).trans q) (fun _ q => q) fun _ _ q => q
    rintro rfl
    rcases hc with rfl | hc
    · rw [hfree] at e; cases e
    · rw [hfree] at hc; cases hc
  rcases hx with hk | hk
  · refine wpAny_storeName_local hk hn (fun h' hn' hs => ?_) hcls
    obtain ⟨oL, _, _, hoL, _⟩ := id hn
    refine h _ ⟨I.ok, I.os, I.bare, ⟨fun b o e n hb hx => ?_, fun b o e n hb hx => ?_, I.base.free, fun b o e hx => ?_, I.base.tups, I.base.frzs, I.base.tbls⟩, ⟨_, hn', fun j y v' e1 e2 e3 => ?_⟩, fun y c e => ?_, I.free, I.freeC, fun p hp => ?_, tracked ⟨oL, hoL, I.free⟩ hs, by simpa using I.len⟩ ⟨_, hs, .inl rfl⟩
    · exact (hs.2 b (Nat.ne_of_lt (Nat.lt_of_lt_of_le (Heap.lt_size e) I.ok.above))).trans (I.base.keep b o e n hb hx)
    · obtain ⟨sl, e1⟩ := I.base.slot b o e n hb hx
      exact ⟨sl, (hs.2 b (Nat.ne_of_lt (Nat.lt_of_lt_of_le (Heap.lt_size e) I.ok.above))).trans e1⟩
    · obtain ⟨o', e1⟩ := I.base.there b o e hx
      exact ⟨o', (hs.2 b (Nat.ne_of_lt (Nat.lt_of_lt_of_le (Heap.lt_size e) I.ok.above))).trans e1⟩
    · by_cases hj : j = i
      · subst hj
        rw [hi] at e1; cases e1
        rw [List.getElem?_set_self hiσ] at e2
        cases e2
        exact ⟨u, r, .inl ⟨hk, by simp⟩⟩
      · rw [List.getElem?_set_ne (Ne.symm hj)] at e2
        obtain ⟨u', r', q⟩ := hl j y v' e1 e2 e3
        refine ⟨u', r', ?_⟩
        rcases q with ⟨k, e⟩ | ⟨k, c, e, z⟩
        · refine .inl ⟨k, ?_⟩
          have : y ≠ x := fun e => hj (nodup_ix hN e1 (e ▸ hi))
          simp [this, e]
        · exact .inr ⟨k, c, e, z.sameBut hs (cne y c e)⟩
    · obtain ⟨w', z⟩ := I.cell y c e
      exact ⟨w', z.sameBut hs (cne y c e)⟩
    · obtain ⟨e, n, ne, nf, d⟩ := I.pin p hp
      exact ⟨(hs.2 p.1 ne).trans e, n, ne, nf, d⟩
  · have hfn : X.fn x = true := by
      rcases hf with z | z
      · exact z
      · rw [z] at hk; cases hk
    obtain ⟨c, hc⟩ := I.ok.has x (.inl hk)
    obtain ⟨w', z⟩ := I.cell x c hc
    refine wpAny_storeName_cell I.ok.kind hk hc z (fun h' hc' hs => ?_)
    obtain ⟨oc, hoc, hocd⟩ := id z
    refine h { s with heap := h' } ⟨I.ok, I.os, I.bare, ⟨fun b o e n hb hx => ?_, fun b o e n hb hx => ?_, I.base.free, fun b o e hx => ?_, I.base.tups, I.base.frzs, I.base.tbls⟩, ⟨m, hn.sameBut hs (Ne.symm (cne x c hc)), fun j y v' e1 e2 e3 => ?_⟩, fun y c' e => ?_, I.free, I.freeC, fun p hp => ?_, tracked ⟨oc, hoc, I.freeC x c hc⟩ hs, by simpa using I.len⟩ ⟨c, hs, .inr hc⟩
    · exact (hs.2 b (Nat.ne_of_lt (Nat.lt_of_lt_of_le (Heap.lt_size e) (I.ok.cab x c hfn hc)))).trans (I.base.keep b o e n hb hx)
    · obtain ⟨sl, e1⟩ := I.base.slot b o e n hb hx
      exact ⟨sl, (hs.2 b (Nat.ne_of_lt (Nat.lt_of_lt_of_le (Heap.lt_size e) (I.ok.cab x c hfn hc)))).trans e1⟩
    · obtain ⟨o', e1⟩ := I.base.there b o e hx
      exact ⟨o', (hs.2 b (Nat.ne_of_lt (Nat.lt_of_lt_of_le (Heap.lt_size e) (I.ok.cab x c hfn hc)))).trans e1⟩
    · by_cases hj : j = i
      · subst hj
        rw [hi] at e1; cases e1
        rw [List.getElem?_set_self hiσ] at e2
        cases e2
        exact ⟨u, r, .inr ⟨.inl hk, c, hc, hc'⟩⟩
      · rw [List.getElem?_set_ne (Ne.symm hj)] at e2
        obtain ⟨u', r', q⟩ := hl j y v' e1 e2 e3
        refine ⟨u', r', ?_⟩
        rcases q with q | ⟨k, c', e, z'⟩
        · exact .inl q
        · refine .inr ⟨k, c', e, z'.sameBut hs ?_⟩
          rintro rfl
          exact hj (nodup_ix hN e1 (I.ok.inj _ _ _ e hc ▸ hi))
    · by_cases hcc : c' = c
      · subst hcc; exact ⟨_, hc'⟩
      · obtain ⟨w2, z2⟩ := I.cell y c' e
        exact ⟨w2, z2.sameBut hs hcc⟩
    · obtain ⟨e, n, ne, nf, d⟩ := I.pin p hp
      refine ⟨(hs.2 p.1 ?_).trans e, n, ne, nf, d⟩
      intro q
      rw [q, hoc] at e
      have q' : oc = p.2 := Option.some.inj e
      exact d w' (by rw [← q']; exact hocd)
theorem store_ok {M : Model} {A : Around} {E : Value → Shared → Prop} {i : Nat} {x : Str} {v : V} {u : Value} {Q : Unit → Shared → Prop} (I : Inv X pins σ H s) (hN : X.N.Nodup) (hi : X.N[i]? = some x) (hx : Loc X.env.scope x) (r : RelV v u)
    (h : ∀ s', Inv X pins (σ.set i (some v)) H s' → Q () s') (hf : X.fn x = true ∨ X.env.scope.names.lookup x = some .local := by first | exact .inl rfl | exact .inr rfl | assumption) : wpAny M A (storeName X.env x u) Q E s :=
  store_ok2 I hN hi hx r (fun s' I' _ => h s' I') hf
theorem Inv.call' {s' : Shared} {ch : List Addr} (I : Inv X pins σ H s) (ho : s'.os = s.os) (u : Un (frs X.stack) ch H H' s.heap s'.heap) (hok : HOk X.prog X.w H' s'.heap) (hg : AllBare s'.gens)
    (hch : ∀ b ∈ ch, (b ∈ X.ex ∨ X.s₀.heap.objs.size ≤ b) ∧ b ≠ X.env.locals ∧ (∀ x c, X.env.cells.lookup x = some c → c ≠ b) ∧ ∀ p ∈ X.pn ++ pins, p.1 ≠ b) : Inv X pins σ H' s' := by
  obtain ⟨h', g', d', t', o'⟩ := s'
  have e : o' = s.os := ho
  subst e
  exact I.call (g' := g') (t' := t') (d' := d') u hok hg hch
end
abbrev XK := Value → Option Addr → Hp → Prop
abbrev St := List (Option V)
abbrev VK := V → Hp → Prop
abbrev TE := St → Hp → VK → Prop
abbrev TT := St → Hp → (Bool → Hp → Prop) → Prop
abbrev TA := St → Hp → (List V → Hp → Prop) → Prop
structure Ends where
  nx : St → Hp → Prop
  rt : VK
  bk : St → Hp → Prop := fun _ _ => False
  ct : St → Hp → Prop := fun _ _ => False
abbrev TS := Ends → St → Hp → Prop
def EP (X : Cx) (pins : List (Addr × Obj)) (σ : St) (Q : VK) (u : Value) (s' : Shared) : Prop := ∃ v H', Inv X pins σ H' s' ∧ RelV v u ∧ Q v H'
def TP (X : Cx) (pins : List (Addr × Obj)) (σ : St) (Q : Bool → Hp → Prop) (b : Bool) (s' : Shared) : Prop := ∃ H', Inv X pins σ H' s' ∧ Q b H'
def AP (X : Cx) (pins : List (Addr × Obj)) (σ : St) (Q : List V → Hp → Prop) (us : List Value) (s' : Shared) : Prop := ∃ vs H', Inv X pins σ H' s' ∧ Vals vs us ∧ Q vs H'
def SP (X : Cx) (pins : List (Addr × Obj)) (D : Ends) (f : Flow) (s' : Shared) : Prop :=
  match f with
  | .next => ∃ σ' H', Inv X pins σ' H' s' ∧ D.nx σ' H'
  | .brk => ∃ σ' H', Inv X pins σ' H' s' ∧ D.bk σ' H'
  | .cont => ∃ σ' H', Inv X pins σ' H' s' ∧ D.ct σ' H'
  | .ret u => ∃ v σ' H', Inv X pins σ' H' s' ∧ RelV v u ∧ D.rt v H'
def PE (X : Cx) (e : Expr) (t : TE) : Prop :=
  ∀ (pins : List (Addr × Obj)) (s : Shared) (σ : St) (H : Hp) (Q : VK), Inv X pins σ H s → t σ H Q → wpAny (model X.prog X.w) X.A (eval e X.env) (EP X pins σ Q) X.xe s
def PT (X : Cx) (e : Expr) (t : TT) : Prop :=
  ∀ (pins : List (Addr × Obj)) (s : Shared) (σ : St) (H : Hp) (Q : Bool → Hp → Prop), Inv X pins σ H s → t σ H Q → wpAny (model X.prog X.w) X.A (isTrue e X.env (eval e X.env)) (TP X pins σ Q) X.xe s
def PW (X : Cx) (e : Expr) (t : TT) : Prop :=
  ∀ (whole : Sem Value) (pins : List (Addr × Obj)) (s : Shared) (σ : St) (H : Hp) (Q : Bool → Hp → Prop), Inv X pins σ H s → t σ H Q → wpAny (model X.prog X.w) X.A (isTrue e X.env whole) (TP X pins σ Q) X.xe s
theorem PW.pt {X : Cx} {e : Expr} {t : TT} (h : PW X e t) : PT X e t := h _
def PA (X : Cx) (es : List Expr) (t : TA) : Prop :=
  ∀ (pos : Pos) (pins : List (Addr × Obj)) (s : Shared) (σ : St) (H : Hp) (Q : List V → Hp → Prop), Inv X pins σ H s → t σ H Q → wpAny (model X.prog X.w) X.A (spliced (backTo pos (starEach es X.env))) (AP X pins σ Q) X.xe s
def PS (X : Cx) (st : Stmt) (t : TS) : Prop :=
  ∀ (pins : List (Addr × Obj)) (s : Shared) (σ : St) (H : Hp) (D : Ends), Inv X pins σ H s → t D σ H → wpAny (model X.prog X.w) X.A (exec st X.env) (SP X pins D) X.xe s
def PSs (X : Cx) (st : List Stmt) (t : TS) : Prop :=
  ∀ (pins : List (Addr × Obj)) (s : Shared) (σ : St) (H : Hp) (D : Ends), Inv X pins σ H s → t D σ H → wpAny (model X.prog X.w) X.A (execs st X.env) (SP X pins D) X.xe s
theorem thn {α : Type} {t : Sem α} {Q Q' : α → Shared → Prop} {M : Model} {A : Around} {E : Value → Shared → Prop} {s : Shared} (h : wpAny M A t Q E s) (hQ : ∀ a s, Q a s → Q' a s) : wpAny M A t Q' E s := wpAny_mono h hQ fun _ _ x => x
end L2
namespace L2
open PySem PySem.Spec PyProof.Rows
section
variable {X : Cx}
def tVar (i : Nat) : TE := fun σ H Q => ∃ v, σ[i]? = some (some v) ∧ Q v H
def tC (v : V) : TE := fun _ H Q => Q v H
theorem pe_var {i : Nat} {x : Str} {pos : Pos} (hN : X.N[i]? = some x) (hv : Vis X.env.scope x) (hd : (x == ("__debug__" : Str)) = false := by decide) (hcd : (x == ("__classdict__" : Str)) = false := by decide) : PE X (.Name x pos) (tVar i) := by
  intro pins s σ H Q I h
  obtain ⟨v, e, h⟩ := h
  obtain ⟨m, hn, hl⟩ := I.loc
  obtain ⟨u, r, l⟩ := hl i x v hN e hv
  have fin : EP X pins σ Q u s := ⟨v, H, I, r, h⟩
  rcases l with ⟨hk, hm⟩ | ⟨hk, c, hc, hcell⟩
  · exact wpAny_Name (wpAny_loadName_local I.ok.kind hk hn hm fin) hd
  · rcases hk with hk | hk
    · exact wpAny_Name (wpAny_loadName_cell I.ok.kind hk hc hcell fin) hd
    · exact wpAny_Name (wpAny_loadName_free I.ok.kind hk hc hcell fin hcd) hd
theorem pe_int {i j pos} : PE X (.Constant (.int i) j pos) (tC (.int i)) := fun _ _ _ H _ I h => wpAny_Constant_int ⟨.int i, H, I.tok _, ⟨_, rfl⟩, h⟩
theorem pe_bl {b j pos} : PE X (.Constant (.bool b) j pos) (tC (.bl b)) := fun _ _ _ H _ I h => Constant_bool ⟨.bl b, H, I, rfl, h⟩
theorem pe_non {j pos} : PE X (.Constant .none j pos) (tC .non) := fun _ _ _ H _ I h => Constant_none ⟨.non, H, I, rfl, h⟩
theorem pe_str {x j pos} : PE X (.Constant (.str x) j pos) (tC (.str x)) := fun _ _ _ H _ I h => Calls.Constant_str ⟨.str x, H, I.tok _, ⟨_, rfl⟩, h⟩
def Gl (X : Cx) (x : Str) : Prop := X.env.kindOf x = some .globalImplicit
theorem ld_glob {E : Value → Shared → Prop} {pins : List (Addr × Obj)} {s : Shared} {σ : St} {H : Hp} {x : Str} {u : Value} {pos : Pos} {Q : Value → Shared → Prop} (I : Inv X pins σ H s) (hg : Gl X x) (hm : X.mg x = some u) (h : Q u s)
    (hd : (x == ("__debug__" : Str)) = false := by decide) : wpAny (model X.prog X.w) X.A (eval (.Name x pos) X.env) Q E s :=
  Calls.Name_function_global I.ok.kind hg (Calls.loadGlobal_global (by rw [I.ok.glob]; exact I.mod.glob.keeps I.bk) hm h) hd
theorem ld_blt {E : Value → Shared → Prop} {pins : List (Addr × Obj)} {s : Shared} {σ : St} {H : Hp} {x : Str} {u : Value} {pos : Pos} {Q : Value → Shared → Prop} (I : Inv X pins σ H s) (hg : Gl X x) (hm : X.mg x = none) (hv : bootBuiltins x = some u) (h : Q u s)
    (hn : x ≠ "__name__" := by decide) (hd : (x == ("__debug__" : Str)) = false := by decide) : wpAny (model X.prog X.w) X.A (eval (.Name x pos) X.env) Q E s := by
  obtain ⟨mb, h1, h2⟩ := I.mod.blt
  exact Calls.Name_function_global I.ok.kind hg (Calls.loadGlobal_builtin (by rw [I.ok.glob]; exact I.mod.glob.keeps I.bk) hm (by rw [I.ok.blt]; exact h1.keeps I.bk) ((h2 x hn).trans hv) h) hd
theorem pe_glob {x : Str} {v : V} {u : Value} {pos : Pos} (hg : Gl X x) (hm : X.mg x = some u) (r : RelV v u) (hd : (x == ("__debug__" : Str)) = false := by decide) : PE X (.Name x pos) (tC v) :=
  fun _ _ _ H _ I h => ld_glob I hg hm ⟨v, H, I, r, h⟩ hd
theorem pe_bltn {x : Str} {v : V} {u : Value} {pos : Pos} (hg : Gl X x) (hm : X.mg x = none) (hv : bootBuiltins x = some u) (r : RelV v u) (hn : x ≠ "__name__" := by decide) (hd : (x == ("__debug__" : Str)) = false := by decide) : PE X (.Name x pos) (tC v) :=
  fun _ _ _ H _ I h => ld_blt I hg hm hv ⟨v, H, I, r, h⟩ hn hd
variable {a b : Expr} {ta tb : TE} {pos : Pos}
def tB (t : TE) : TT := fun σ H Q => t σ H fun x H1 => ∃ c, x = .bl c ∧ Q c H1
theorem pt_val {e : Expr} {t : TE} (h : PE X e t) (he : ∀ whole, isTrue e X.env whole = (do let v ← whole; standAt e.pos; holding [v] (truthy v)) := by intro _; rfl) : PT X e (tB t) := by
  intro pins s σ H Q I hw
  refine isTrue_plain (thn (h pins s σ H _ I hw) fun v s1 ⟨x, H1, I1, r1, q1⟩ => ?_) (he _)
  obtain ⟨d, rfl, q⟩ := q1
  cases r1
  exact wpAny_truthy_bool ⟨H1, I1, q⟩
variable {tA tB' : TT} {rest : List Expr}
def tAnd (t u : TT) : TT := fun σ H Q => t σ H fun c H1 => if c = true then u σ H1 Q else Q false H1
def tOr (t u : TT) : TT := fun σ H Q => t σ H fun c H1 => if c = true then Q true H1 else u σ H1 Q
def tNot (t : TT) : TT := fun σ H Q => t σ H fun c H1 => Q (!c) H1
theorem pw_and1 (ha : PT X a tA) : PW X (.BoolOp .And [a] pos) tA := by
  intro wh pins s σ H Q I h
  refine isTrue_and (thn (ha pins s σ H Q I h) fun c s1 e => ?_)
  cases c with
  | true => exact isTrue_and_nil e
  | false => exact e
theorem pw_or1 (ha : PT X a tA) : PW X (.BoolOp .Or [a] pos) tA := by
  intro wh pins s σ H Q I h
  refine isTrue_or (thn (ha pins s σ H Q I h) fun c s1 e => ?_)
  cases c with
  | false => exact isTrue_or_nil e
  | true => exact e
theorem pw_and (ha : PT X a tA) (hb : PW X (.BoolOp .And (b :: rest) pos) tB') : PW X (.BoolOp .And (a :: b :: rest) pos) (tAnd tA tB') := by
  intro wh pins s σ H Q I h
  refine isTrue_and (thn (ha pins s σ H _ I h) fun c s1 ⟨H1, I1, q1⟩ => ?_)
  cases c with
  | true => exact hb wh pins s1 σ H1 Q I1 q1
  | false => exact ⟨H1, I1, q1⟩
theorem pw_or (ha : PT X a tA) (hb : PW X (.BoolOp .Or (b :: rest) pos) tB') : PW X (.BoolOp .Or (a :: b :: rest) pos) (tOr tA tB') := by
  intro wh pins s σ H Q I h
  refine isTrue_or (thn (ha pins s σ H _ I h) fun c s1 ⟨H1, I1, q1⟩ => ?_)
  cases c with
  | true => exact ⟨H1, I1, q1⟩
  | false => exact hb wh pins s1 σ H1 Q I1 q1
theorem pt_not (ha : PT X a tA) : PT X (.UnaryOp .Not a pos) (tNot tA) := by
  intro pins s σ H Q I h
  exact isTrue_not (ha pins s σ H (fun c H1 => Q (!c) H1) I h)
def tAndV (ta tb : TE) : TE := fun σ H Q => ta σ H fun x H1 => ∃ c, x = .bl c ∧ if c = true then tb σ H1 Q else Q (.bl false) H1
def tOrV (ta tb : TE) : TE := fun σ H Q => ta σ H fun x H1 => ∃ c, x = .bl c ∧ if c = true then Q (.bl true) H1 else tb σ H1 Q
def tNotV (ta : TE) : TE := fun σ H Q => ta σ H fun x H1 => ∃ c, x = .bl c ∧ Q (.bl (!c)) H1
theorem pe_one {op} {t : TE} (h : PE X a t) : PE X (.BoolOp op [a] pos) t := fun pins s σ H Q I hw => BoolOp_one (h pins s σ H Q I hw)
theorem pe_and (ha : PE X a ta) (hb : PE X (.BoolOp .And (b :: rest) pos) tb) : PE X (.BoolOp .And (a :: b :: rest) pos) (tAndV ta tb) := by
  intro pins s σ H Q I h
  refine BoolOp_and (thn (ha pins s σ H _ I h) fun v s1 ⟨x, H1, I1, r1, q1⟩ => ?_)
  obtain ⟨c, rfl, q1⟩ := q1
  cases r1
  refine wpAny_truthy_bool ?_
  cases c with
  | true => exact hb pins s1 σ H1 Q I1 q1
  | false => exact ⟨.bl false, H1, I1, rfl, q1⟩
theorem pe_not (ha : PE X a ta) : PE X (.UnaryOp .Not a pos) (tNotV ta) := by
  intro pins s σ H Q I h
  refine UnaryOp_ (thn (ha pins s σ H _ I h) fun v s1 ⟨x, H1, I1, r1, q1⟩ => ?_)
  obtain ⟨c, rfl, q1⟩ := q1
  cases r1
  exact not_of (wpAny_truthy_bool ⟨.bl (!c), H1, I1, rfl, q1⟩)
def tIf (t : TT) (ta tb : TE) : TE := fun σ H Q => t σ H fun c H1 => if c = true then ta σ H1 Q else tb σ H1 Q
theorem pe_ifExp {c : Expr} (hc : PT X c tA) (ha : PE X a ta) (hb : PE X b tb) : PE X (.IfExp c a b pos) (tIf tA ta tb) := by
  intro pins s σ H Q I h
  refine wpAny_IfExp (thn (hc pins s σ H _ I h) fun d s1 ⟨H1, I1, q1⟩ => ?_)
  cases d with
  | true => exact ha pins s1 σ H1 Q I1 q1
  | false => exact hb pins s1 σ H1 Q I1 q1
end
end L2
namespace L2
open PySem PySem.Spec PyProof.Rows
def SqL (K : PySem.W.Frag) (H : Hp) (a : Addr) (xs : List V) : Prop :=
  Rd H a (.lst xs) ∨
    ∃ (o : Obj) (its : Array Value) (n : Nat), K.lookup a = some o ∧ o.cls = .type "list" ∧ o.dict = none ∧ o.data = .seq its n ∧ its.size ≤ sizeLine ∧ Vals xs its.toList
def SqT (K : PySem.W.Frag) (H : Hp) (a : Addr) (xs : List V) : Prop :=
  Rd H a (.tup xs) ∨
    ∃ (o : Obj) (its : Array Value) (n : Nat), K.lookup a = some o ∧ o.cls = .type "tuple" ∧ o.data = .seq its n ∧ its.size ≤ sizeLine ∧ Vals xs its.toList
def absV : Value → Option V
  | .none => some .non
  | .bool b => some (.bl b)
  | .int i _ => some (.int i)
  | .str x _ => some (.str x)
  | .bytes b _ => some (.byt b)
  | .float b _ => some (.flt b)
  | .ref a => some (.ref a)
  | .type n => some (.ty n)
  | _ => none
theorem RelV.abs {x : V} {u : Value} (r : RelV x u) : absV u = some x := by
  cases x with
  | non => cases r; rfl
  | bl _ => cases r; rfl
  | int _ => obtain ⟨t, rfl⟩ := r; rfl
  | str _ => obtain ⟨t, rfl⟩ := r; rfl
  | byt _ => obtain ⟨t, rfl⟩ := r; rfl
  | flt _ => obtain ⟨t, rfl⟩ := r; rfl
  | ref _ => cases r; rfl
  | ty _ => cases r; rfl
theorem RelV.inj {x y : V} {u : Value} (r : RelV x u) (q : RelV y u) : x = y := Option.some.inj (r.abs.symm.trans q.abs)
theorem Vals.inj : ∀ {xs ys : List V} {us : List Value}, Vals xs us → Vals ys us → xs = ys
  | _, _, _, .nil, .nil => rfl
  | _, _, _, .cons r t, .cons r' t' => by rw [r.inj r', Vals.inj t t']
section
variable {X : Cx} {pins : List (Addr × Obj)} {σ : St} {H : Hp} {s : Shared} {a : Addr} {xs ys : List V}
theorem SqL.of {K : PySem.W.Frag} (h : H a = some (.lst xs)) : SqL K H a xs := .inl (.inl h)
theorem SqT.of {K : PySem.W.Frag} (h : H a = some (.tup xs)) : SqT K H a xs := .inl (.inl h)
theorem Inv.list (I : Inv X pins σ H s) (h : SqL X.K H a xs) : ∃ its : List Value, Vals xs its ∧ PlainL s.heap a its.toArray ∧ xs.length ≤ sizeLine := by
  rcases h with h | ⟨o, its, n, hk, hc, hd, hs, hz, r⟩
  · obtain ⟨z, its, n, r, e⟩ := h.ok I.hok
    exact ⟨its, r, ⟨_, n, e, rfl, rfl, rfl⟩, z⟩
  · refine ⟨its.toList, r, ⟨o, n, I.kIn a o hk, hc, hd, by simpa using hs⟩, ?_⟩
    have e := r.length
    simp only [Array.length_toList] at e
    omega
theorem Inv.tuple (I : Inv X pins σ H s) (h : SqT X.K H a xs) : ∃ its : List Value, Vals xs its ∧ IsTup s.heap a its.toArray ∧ xs.length ≤ sizeLine := by
  rcases h with h | ⟨o, its, n, hk, hc, hs, hz, r⟩
  · obtain ⟨z, its, r, p⟩ := h.ok I.hok
    exact ⟨its, r, p, z⟩
  · refine ⟨its.toList, r, ⟨o, I.kIn a o hk, hc, n, by simpa using hs⟩, ?_⟩
    have e := r.length
    simp only [Array.length_toList] at e
    omega
theorem Inv.list_inj (I : Inv X pins σ H s) (h : SqL X.K H a xs) (h' : SqL X.K H a ys) : xs = ys := by
  obtain ⟨its, r, ⟨o, n, e, _, _, d⟩, _⟩ := I.list h
  obtain ⟨its', r', ⟨o', n', e', _, _, d'⟩, _⟩ := I.list h'
  rw [e] at e'; cases e'
  rw [d] at d'
  injection d' with d1 _
  have : its = its' := by simpa using congrArg Array.toList d1
  subst this
  exact r.inj r'
end
abbrev Cx.wish (X : Cx) (E : Value → Shared → Prop) : Cx := { X with xe := E }
abbrev Cx.nox (X : Cx) : Cx := X.wish fun _ _ => False
theorem Cx.Ok.wish {X : Cx} (ok : X.Ok) (E : Value → Shared → Prop) : (X.wish E).Ok :=
  ⟨ok.mod, ok.kind, ok.glob, ok.blt, ok.above, ok.inj, ok.has, ok.cab, ok.hd, ok.frames, ok.stk, ok.exf, ok.bs, ok.bsz, ok.noex, ok.exfs, ok.funs, ok.frf⟩
theorem Cx.Ok.unwish {X : Cx} {E : Value → Shared → Prop} (ok : (X.wish E).Ok) : X.Ok :=
  ⟨ok.mod, ok.kind, ok.glob, ok.blt, ok.above, ok.inj, ok.has, ok.cab, ok.hd, ok.frames, ok.stk, ok.exf, ok.bs, ok.bsz, ok.noex, ok.exfs, ok.funs, ok.frf⟩
section
variable {X : Cx} {pins : List (Addr × Obj)} {σ : St} {H : Hp} {s : Shared} {E : Value → Shared → Prop}
theorem Inv.wish (I : Inv X pins σ H s) (E : Value → Shared → Prop) : Inv (X.wish E) pins σ H s := ⟨I.ok.wish E, I.os, I.bare, I.base, I.loc, I.cell, I.free, I.freeC, I.pin, I.hok, I.len⟩
theorem Inv.unwish (I : Inv (X.wish E) pins σ H s) : Inv X pins σ H s := ⟨I.ok.unwish, I.os, I.bare, I.base, I.loc, I.cell, I.free, I.freeC, I.pin, I.hok, I.len⟩
theorem SP.unwish {D : Ends} {f : Flow} {s' : Shared} (h : SP (X.wish E) pins D f s') : SP X pins D f s' := by
  cases f with
  | next => obtain ⟨σ', H', I, q⟩ := h; exact ⟨σ', H', I.unwish, q⟩
  | brk => obtain ⟨σ', H', I, q⟩ := h; exact ⟨σ', H', I.unwish, q⟩
  | cont => obtain ⟨σ', H', I, q⟩ := h; exact ⟨σ', H', I.unwish, q⟩
  | ret u => obtain ⟨v, σ', H', I, r, q⟩ := h; exact ⟨v, σ', H', I.unwish, r, q⟩
theorem PE.nox {e : Expr} {t : TE} (h : PE X.nox e t) : PE X e t := fun pins s σ H Q I hw =>
  wpAny_mono (h pins s σ H Q (I.wish _) hw) (fun _ _ ⟨v, H', I', r, q⟩ => ⟨v, H', I'.unwish, r, q⟩) fun _ _ z => False.elim z
theorem PT.nox {e : Expr} {t : TT} (h : PT X.nox e t) : PT X e t := fun pins s σ H Q I hw =>
  wpAny_mono (h pins s σ H Q (I.wish _) hw) (fun _ _ ⟨H', I', q⟩ => ⟨H', I'.unwish, q⟩) fun _ _ z => False.elim z
theorem PSs.nox {st : List Stmt} {t : TS} (h : PSs X.nox st t) : PSs X st t := fun pins s σ H D I hw =>
  wpAny_mono (h pins s σ H D (I.wish _) hw) (fun _ _ q => q.unwish) fun _ _ z => False.elim z
end
section
variable {X : Cx} {st : Stmt} {rest : List Stmt} {t u : TS} {e : Expr} {te : TE} {pos : Pos}
def tNext : TS := fun D σ H => D.nx σ H
def tSeq (t u : TS) : TS := fun D σ H => t { D with nx := u D } σ H
theorem pss_nil : PSs X [] tNext := fun _ _ σ H _ I h => wpAny_execs_nil ⟨σ, H, I, h⟩
theorem pss_cons (h1 : PS X st t) (h2 : PSs X rest u) : PSs X (st :: rest) (tSeq t u) := by
  intro pins s σ H D I h
  refine wpAny_execs_cons (thn (h1 pins s σ H { D with nx := u D } I h) fun f s1 q => ?_)
  cases f with
  | next =>
    obtain ⟨σ', H', I', q⟩ := q
    exact h2 pins s1 σ' H' D I' q
  | ret v => exact q
  | brk => exact q
  | cont => exact q
theorem pss_one (h1 : PS X st t) : PSs X [st] t := by
  intro pins s σ H D I h
  refine wpAny_execs_cons (thn (h1 pins s σ H D I h) fun f s1 q => ?_)
  cases f with
  | next => exact wpAny_execs_nil q
  | ret v => exact q
  | brk => exact q
  | cont => exact q
theorem Inv.quiet {pins : List (Addr × Obj)} {σ : St} {H : Hp} {s : Shared} (I : Inv X pins σ H s) : interactive X.env = false := by simp [interactive, I.ok.kind]
def tDrop (te : TE) : TS := fun D σ H => te σ H fun _ H1 => D.nx σ H1
theorem ps_expr (he : PE X e te) (hs : swapsWith e none pos.line X.env = pure false := by rfl) : PS X (.Expr e pos) (tDrop te) := by
  intro pins s σ H D I h
  exact wpAny_Expr_any (thn (he pins s σ H _ I h) fun v s1 ⟨x, H1, I1, r1, q1⟩ => ⟨σ, H1, I1, q1⟩) I.quiet hs
def tRet (te : TE) : TS := fun D σ H => te σ H D.rt
theorem ps_ret (he : PE X e te) : PS X (.Return (some e) pos) (tRet te) := by
  intro pins s σ H D I h
  exact wpAny_Return_some (thn (he pins s σ H _ I h) fun v s1 ⟨x, H1, I1, r1, q1⟩ => ⟨x, σ, H1, I1, r1, q1⟩)
def tRetN : TS := fun D _ H => D.rt .non H
def tIfS (c : TT) (t u : TS) : TS := fun D σ H => c σ H fun b H1 => if b = true then t D σ H1 else u D σ H1
theorem ps_if {c : Expr} {a b : List Stmt} {tc : TT} (hc : PT X c tc) (ha : PSs X a t) (hb : PSs X b u) : PS X (.If c a b pos) (tIfS tc t u) := by
  intro pins s σ H D I h
  refine wpAny_If (thn (hc pins s σ H _ I h) fun d s1 ⟨H1, I1, q1⟩ => ?_)
  cases d with
  | true => exact ha pins s1 σ H1 D I1 q1
  | false => exact hb pins s1 σ H1 D I1 q1
def tNever : TS := fun _ _ _ => False
theorem ps_never : PS X st tNever := fun _ _ _ _ _ _ h => h.elim
end
abbrev TG := V → St → Hp → (St → Hp → Prop) → Prop
abbrev TGs := List V → St → Hp → (St → Hp → Prop) → Prop
def PG (X : Cx) (target : Expr) (t : TG) : Prop :=
  ∀ (pins : List (Addr × Obj)) (s : Shared) (σ : St) (H : Hp) (v : V) (u : Value) (Q : St → Hp → Prop), Inv X pins σ H s → RelV v u → t v σ H Q →
    wpAny (model X.prog X.w) X.A (assign target X.env u) (fun _ s' => ∃ σ' H', Inv X pins σ' H' s' ∧ Q σ' H') X.xe s
def PGs (X : Cx) (ts : List Expr) (t : TGs) : Prop :=
  ∀ (pins : List (Addr × Obj)) (s : Shared) (σ : St) (H : Hp) (vs : List V) (us : List Value) (Q : St → Hp → Prop), Inv X pins σ H s → Vals vs us → t vs σ H Q →
    wpAny (model X.prog X.w) X.A (assignInOrder ((assignEach ts X.env).map (·.2)) us) (fun _ s' => ∃ σ' H', Inv X pins σ' H' s' ∧ Q σ' H') X.xe s
abbrev TSet := V → V → V → Hp → (Hp → Prop) → Prop
def PSet (X : Cx) (t : TSet) : Prop :=
  ∀ (pins : List (Addr × Obj)) (s : Shared) (σ : St) (H : Hp) (o i v : V) (ov iv u : Value) (Q : Hp → Prop), Inv X pins σ H s → RelV o ov → RelV i iv → RelV v u → t o i v H Q →
    wpAny (model X.prog X.w) X.A (setItem ov iv u) (fun _ s' => ∃ H', Inv X pins σ H' s' ∧ Q H') X.xe s
section
variable {X : Cx} {pos : Pos}
def gName (i : Nat) : TG := fun v σ H Q => Q (σ.set i (some v)) H
theorem pg_name {i : Nat} {x : Str} (hN : X.N.Nodup) (hi : X.N[i]? = some x) (hx : Loc X.env.scope x) (hf : X.fn x = true ∨ X.env.scope.names.lookup x = some .local := by first | exact .inl rfl | exact .inr rfl | assumption) : PG X (.Name x pos) (gName i) := by
  intro pins s σ H v u Q I r h
  exact wpAny_assign_Name (store_ok I hN hi hx r (fun s' I' => ⟨_, H, I', h⟩) hf)
def gNil : TGs := fun vs σ H Q => vs = [] ∧ Q σ H
def gCons (t : TG) (u : TGs) : TGs := fun vs σ H Q => ∃ v r, vs = v :: r ∧ t v σ H fun σ' H' => u r σ' H' Q
theorem pgs_nil : PGs X [] gNil := by
  intro pins s σ H vs us Q I r h
  obtain ⟨e, h⟩ := h
  subst e
  cases r
  exact assignInOrder_nil ⟨σ, H, I, h⟩
theorem pgs_cons {e : Expr} {es : List Expr} {t : TG} {u : TGs} (h1 : PG X e t) (h2 : PGs X es u)
    (hs : (assignEach (e :: es) X.env).map (·.2) = assign e X.env :: (assignEach es X.env).map (·.2) := by rfl) : PGs X (e :: es) (gCons t u) := by
  intro pins s σ H vs us Q I r h
  obtain ⟨v, vr, e1, h⟩ := h
  subst e1
  cases r with
  | cons r rr =>
    rw [hs]
    refine assignInOrder_cons (thn (h1 pins s σ H _ _ _ I r h) fun _ s1 ⟨σ1, H1, I1, q1⟩ => ?_)
    exact h2 pins s1 σ1 H1 _ _ Q I1 rr q1
def gTup (K : PySem.W.Frag) (n : Nat) (t : TGs) : TG := fun v σ H Q => ∃ a xs, v = .ref a ∧ SqT K H a xs ∧ xs.length = n ∧ t xs σ H Q
theorem pg_tup {es : List Expr} {k : Nat} {t : TGs} {n : Nat} (hc : X.calm = true) (h : PGs X es t)
    (hn : (assignEach es X.env).length = n := by rfl) (hst : (assignEach es X.env).findIdx? (·.1) = none := by rfl) : PG X (.Tuple es k pos) (gTup X.K n t) := by
  intro pins s σ H v u Q I r hw
  obtain ⟨a, xs, e1, hq, hl, hw⟩ := hw
  subst e1
  cases r
  obtain ⟨its, rv, ht, hz⟩ := I.tuple hq
  refine assign_Tuple_tuple (I.ok.hd hc) ht (by simp [hn, ← hl, rv.length]) hst fun h' hx => ?_
  have I1 : Inv X pins σ H { s with heap := h' } := I.kept (t' := s.toks) fun b o e => hx b o (Nat.ne_of_lt (Heap.lt_size e)) e
  exact h pins _ σ H xs _ Q I1 (by simpa using rv) hw
def gSub (to ti : TE) (t : TSet) : TG := fun v σ H Q => to σ H fun o H1 => ti σ H1 fun i H2 => t o i v H2 fun H3 => Q σ H3
theorem pg_sub {o i : Expr} {to ti : TE} {t : TSet} (ho : PE X o to) (hi : PE X i ti) (hs : PSet X t)
    (ha : ∀ v, assign (.Subscript o i pos) X.env v = (do
      let ov ← holding [v] (eval o X.env)
      let iv ← holding [v, ov] (eval i X.env)
      standAt pos
      holding [v, ov, iv] (setItem ov iv v)
      release [v, ov, iv] []) := by intro _; rfl) : PG X (.Subscript o i pos) (gSub to ti t) := by
  intro pins s σ H v u Q I r h
  rw [ha]
  refine wpAny_bind (wpAny_holding (thn (ho pins s σ H _ I h) fun ov s1 ⟨x, H1, I1, r1, q1⟩ => ?_))
  refine wpAny_bind (wpAny_holding (thn (hi pins s1 σ H1 _ I1 q1) fun iv s2 ⟨y, H2, I2, r2, q2⟩ => ?_))
  refine wpAny_bind (wpAny_standAt (wpAny_bind (wpAny_holding (thn (hs pins s2 σ H2 x y v ov iv u _ I2 r1 r2 r q2) fun _ s3 ⟨H3, I3, q3⟩ => ?_))))
  exact wpAny_release ⟨σ, H3, I3, q3⟩
def tAsg (te : TE) (g : TG) : TS := fun D σ H => te σ H fun x H1 => g x σ H1 D.nx
theorem ps_asg {tg e : Expr} {te : TE} {g : TG} (he : PE X e te) (hg : PG X tg g) (hs : swapsWithSole [tg] e pos.line X.env = pure false := by rfl) (hw : swappedStores [tg] e X.env = pure none := by rfl)
    (h1 : (assignEach [tg] X.env).map (·.2) = [assign tg X.env] := by rfl) : PS X (.Assign [tg] e pos) (tAsg te g) := by
  intro pins s σ H D I h
  refine wpAny_Assign_stores (thn (he pins s σ H _ I h) fun v s1 ⟨x, H1, I1, r1, q1⟩ => ?_) hs hw
  rw [h1]
  exact thn (hg pins s1 σ H1 x v _ I1 r1 q1) fun _ s2 q => q
theorem ps_set {i : Nat} {x : Str} {e : Expr} {te : TE} {pos' : Pos} (hN : X.N.Nodup) (hi : X.N[i]? = some x) (hx : Loc X.env.scope x) (he : PE X e te) (hs : swapsWith e (some (.Name x pos')) pos.line X.env = pure false := by rfl) (hf : X.fn x = true ∨ X.env.scope.names.lookup x = some .local := by first | exact .inl rfl | exact .inr rfl | assumption) :
    PS X (.Assign [.Name x pos'] e pos) (tAsg te (gName i)) := by
  intro pins s σ H D I h
  refine wpAny_Assign_Name (thn (he pins s σ H _ I h) fun v s1 ⟨y, H1, I1, r1, q1⟩ => ?_) hs
  exact store_ok I1 hN hi hx r1 (fun s2 I2 => ⟨_, H1, I2, q1⟩) hf
end
section
variable {X : Cx} {pos : Pos}
end
structure It where
  go : Nat → Hp → Prop
  yld : Nat → Hp → V → Hp → Prop
  stop : Nat → Hp → Prop
def FpOk (X : Cx) (pins : List (Addr × Obj)) (H : Hp) (b : Addr) : Prop :=
  H b = none ∧ b ≠ X.env.locals ∧ b ∉ X.fs ∧ (b ∈ X.ex ∨ X.s₀.heap.objs.size ≤ b) ∧ (∀ x c, X.env.cells.lookup x = some c → c ≠ b) ∧ ∀ p ∈ X.pn ++ pins, p.1 ≠ b
theorem Inv.fpOk {X : Cx} {pins : List (Addr × Obj)} {σ : St} {H H' : Hp} {s : Shared} {b : Addr} (I : Inv X pins σ H s) (hb : s.heap.objs.size ≤ b) (hn : H' b = none) : FpOk X pins H' b := by
  refine ⟨hn, Nat.ne_of_gt (Nat.lt_of_lt_of_le I.lt hb), I.nofs hb, .inr (Nat.le_trans I.sz hb), fun x c e z => ?_, fun p hp z => ?_⟩
  · obtain ⟨v, q⟩ := I.cell x c e
    exact absurd (Nat.lt_of_lt_of_le q.lt (by rw [z]; exact hb)) (Nat.lt_irrefl _)
  · exact absurd (Nat.lt_of_lt_of_le (Heap.lt_size (I.pin p hp).1) (by rw [z]; exact hb)) (Nat.lt_irrefl _)
structure Turn (P : Program) (w : World) (K : PySem.W.Frag) (tg : Expr) (J : It) (fp : List Addr) (it : Addr) (tn : Nat → Heap → Prop) : Prop where
  mem : it ∈ fp
  obj : ∀ i h, tn i h → ∀ b ∈ fp, ∃ o, h.get? b = some o ∧ ∀ v, o.data ≠ .cell v
  keep : ∀ i h h', tn i h → (∀ b ∈ fp, ∀ o, h.get? b = some o → h'.get? b = some o) → tn i h'
  item : ∀ (X : Cx), X.prog = P → X.w = w → X.K = K → X.calm = true → ∀ (i : Nat) (pins : List (Addr × Obj)) (s : Shared) (σ : St) (H : Hp) (E : Value → Shared → Prop), Inv X pins σ H s → (∀ b ∈ fp, FpOk X pins H b) → tn i s.heap → J.go i H →
    wpAny (model P w) X.A (pyNext (.ref it)) (fun r s1 => ∃ u, r = some u ∧
      wpAny (model P w) X.A (letOwnedTupleGo tg (.ref it) u) (fun _ s2 => ∃ x H', Inv X pins σ H' s2 ∧ RelV x u ∧ J.yld i H x H' ∧ tn (i + 1) s2.heap ∧ ∀ b ∈ fp, H' b = none) E s1) E s
  done : ∀ (X : Cx), X.prog = P → X.w = w → X.K = K → X.calm = true → ∀ (i : Nat) (pins : List (Addr × Obj)) (s : Shared) (σ : St) (H : Hp) (E : Value → Shared → Prop), Inv X pins σ H s → (∀ b ∈ fp, FpOk X pins H b) → tn i s.heap → J.stop i H →
    wpAny (model P w) X.A (pyNext (.ref it)) (fun r s1 => r = none ∧ Inv X pins σ H s1) E s
  self : ∀ (A : Around) (i : Nat) (s : Shared) (Q : Value → Shared → Prop) (E : Value → Shared → Prop), tn i s.heap → Q (.ref it) s → wpAny (model P w) A (pyIter (.ref it)) Q E s
abbrev TI := St → Hp → (It → Hp → Prop) → Prop
def PIE (X : Cx) (pins : List (Addr × Obj)) (σ : St) (tg : Expr) (R : It → Hp → Prop) (itv : Value) (s2 : Shared) : Prop :=
  ∃ (it : Addr) (fp : List Addr) (tn : Nat → Heap → Prop) (J : It) (H' : Hp), itv = .ref it ∧ Inv X pins σ H' s2 ∧ Turn X.prog X.w X.K tg J fp it tn ∧ tn 0 s2.heap ∧ (∀ b ∈ fp, FpOk X pins H' b) ∧ R J H'
def PI (X : Cx) (tg iter : Expr) (wi : TI) : Prop :=
  ∀ (pins : List (Addr × Obj)) (s : Shared) (σ : St) (H : Hp) (R : It → Hp → Prop), Inv X pins σ H s → wi σ H R →
    wpAny (model X.prog X.w) X.A (eval iter X.env) (fun v s1 => wpAny (model X.prog X.w) X.A (pyIter v) (PIE X pins σ tg R) X.xe s1) X.xe s
theorem go_of {M : Model} {A : Around} {E : Value → Shared → Prop} {s : Shared} {tg : Expr} {it : Addr} {u : Value} {o : Obj} {n : String} {vs : Array Value} {Q : Unit → Shared → Prop} (ho : s.heap.get? it = some o) (hc : o.cls = .type n) (hd : o.data = .fields vs)
    (hn : ["enumerate", "zip", "dict_itemiterator", "dict_reverseitemiterator", "odict_iterator", "itertools.zip_longest", "itertools.pairwise"].contains n = false) (hQ : Q () s) : wpAny M A (letOwnedTupleGo tg (.ref it) u) Q E s := by
  unfold letOwnedTupleGo
  cases tg <;> first
    | exact wpAny_pure hQ
    | (cases u <;> first
        | exact wpAny_pure hQ
        | (refine wpAny_bind (wpAny_load ho ?_)
           rw [hc, hd]
           show wpAny M A (if (["enumerate", "zip", "dict_itemiterator", "dict_reverseitemiterator", "odict_iterator", "itertools.zip_longest", "itertools.pairwise"].contains n && vs[0]? == some (rawInt _)) = true then _ else _) Q E s
           rw [if_neg (by intro h; rw [hn, Bool.false_and] at h; cases h)]
           exact wpAny_pure hQ))
def Itl (K : PySem.W.Frag) (a : Addr) : It :=
  ⟨fun i H => ∃ xs x, SqL K H a xs ∧ xs[i]? = some x, fun i H x H' => H' = H ∧ ∀ xs, SqL K H a xs → xs[i]? = some x, fun i H => ∃ xs, SqL K H a xs ∧ xs.length ≤ i⟩
def Itt (K : PySem.W.Frag) (a : Addr) : It :=
  ⟨fun i H => ∃ xs x, SqT K H a xs ∧ xs[i]? = some x, fun i H x H' => H' = H ∧ ∀ xs, SqT K H a xs → xs[i]? = some x, fun i H => ∃ xs, SqT K H a xs ∧ xs.length ≤ i⟩
def Itr (lo : Int) (n : Nat) : It := ⟨fun i _ => i < n, fun i H x H' => H' = H ∧ x = .int (lo + i), fun i _ => n ≤ i⟩
theorem turn_list {P : Program} {w : World} {K : PySem.W.Frag} {tg : Expr} (a it : Addr) : Turn P w K tg (Itl K a) [it] it (fun i h => h.IsListIter it a i) where
  mem := by simp
  obj := fun i h st b hb => by
    have e : b = it := by simpa using hb
    subst e
    obtain ⟨o, e, c, d⟩ := st
    exact ⟨o, e, fun v z => by rw [d] at z; cases z⟩
  keep := fun i h h' st k => st.at fun o e => k it (by simp) o e
  item := by
    intro X hP hw hK hc i pins s σ H E I hf st hg
    subst hP hw hK
    obtain ⟨xs, x, hq, hx⟩ := hg
    obtain ⟨its, rv, p, hz⟩ := I.list hq
    obtain ⟨u, hu, ru⟩ := rv.get hx
    obtain ⟨f0, f1, f2, f3, f4, f5⟩ := hf it (by simp)
    refine wpAny_pyNext_list_item st p.isList (x := u) (by simpa using hu) fun h' st' sb => ?_
    have I1 : Inv X pins σ H { s with heap := h' } := I.turned (t' := s.toks) (fun b o hb e => (sb.2 b hb).trans e) f0 f1 f3 f4 f5
    obtain ⟨o, e, c, d⟩ := id st'
    exact ⟨u, rfl, go_of (s := { s with heap := h' }) e c d (by decide) ⟨x, H, I1, ru, ⟨rfl, fun ys hy => by rw [I.list_inj hy hq]; exact hx⟩, st', fun b hb => (hf b hb).1⟩⟩
  done := by
    intro X hP hw hK hc i pins s σ H E I hf st hg
    subst hP hw hK
    obtain ⟨xs, hq, hx⟩ := hg
    obtain ⟨its, rv, p, hz⟩ := I.list hq
    obtain ⟨f0, f1, f2, f3, f4, f5⟩ := hf it (by simp)
    have hl := rv.length
    exact wpAny_pyNext_list_end (I.ok.hd hc) st p.isList (by simp; omega) fun h' eb => ⟨rfl, I.turned (t' := s.toks) (fun b o hb e => eb b o hb e) f0 f1 f3 f4 f5⟩
  self := fun _ _ _ _ _ st h => wpAny_pyIter_listiter st h
theorem turn_range {P : Program} {w : World} {K : PySem.W.Frag} {tg : Expr} (it : Addr) (lo : Int) (n : Nat) : Turn P w K tg (Itr lo n) [it] it (fun i h => IsRangeIter h it (lo + (i : Nat) * 1) ((n : Int) - (i : Nat)) 1) where
  mem := by simp
  obj := fun i h st b hb => by
    have e : b = it := by simpa using hb
    subst e
    exact ⟨_, st, fun v z => by
      have z' : Data.fields _ = Data.cell v := z
      cases z'⟩
  keep := fun i h h' st k => k it (by simp) _ st
  item := by
    intro X hP hw hK hc i pins s σ H E I hf st hg
    subst hP hw hK
    obtain ⟨f0, f1, f2, f3, f4, f5⟩ := hf it (by simp)
    have W := Walks.range (prog := X.prog) (w := X.w) (I.ok.hd hc) it lo 1 n
    refine W.item i s _ _ hg st fun v h' tk hv st' kk => ?_
    obtain ⟨t, rfl⟩ := hv
    have I1 : Inv X pins σ H { s with heap := h', toks := tk } := I.turned (fun b o hb e => kk b o (by simpa using hb) e) f0 f1 f3 f4 f5
    refine ⟨_, rfl, go_of (s := { s with heap := h', toks := tk }) (n := "range_iterator") st' rfl rfl (by decide) ⟨.int (lo + i), H, I1, ⟨t, ?_⟩, ⟨rfl, rfl⟩, st', fun b hb => (hf b hb).1⟩⟩
    rw [Int.mul_one]
  done := by
    intro X hP hw hK hc i pins s σ H E I hf st hg
    subst hP hw hK
    obtain ⟨f0, f1, f2, f3, f4, f5⟩ := hf it (by simp)
    exact wpAny_pyNext_range_end (I.ok.hd hc) st (by have : n ≤ i := hg; omega) fun h' eb => ⟨rfl, I.turned (t' := s.toks) (fun b o hb e => eb b o hb e) f0 f1 f3 f4 f5⟩
  self := fun _ _ _ _ _ st h => wpAny_pyIter_rangeiter st h
end L2
namespace L2
open PySem PySem.Spec PyProof.Rows
section
variable {X : Cx} {tg : Expr}
def iList (K : PySem.W.Frag) (tl : TE) : TI := fun σ H R => tl σ H fun x H1 => ∃ a, x = .ref a ∧ (∃ xs, SqL K H1 a xs) ∧ R (Itl K a) H1
def iTup (K : PySem.W.Frag) (tl : TE) : TI := fun σ H R => tl σ H fun x H1 => ∃ a, x = .ref a ∧ (∃ xs, SqT K H1 a xs) ∧ R (Itt K a) H1
theorem pi_list {l : Expr} {tl : TE} (hl : PE X l tl) : PI X tg l (iList X.K tl) := by
  intro pins s σ H R I h
  refine thn (hl pins s σ H _ I h) fun v s1 ⟨x, H1, I1, r1, q1⟩ => ?_
  obtain ⟨a, e, ⟨xs, hq⟩, q⟩ := q1
  subst e
  cases r1
  obtain ⟨its, rv, p, hz⟩ := I1.list hq
  refine wpAny_pyIter_list p.isList ?_
  refine ⟨s1.heap.objs.size, [s1.heap.objs.size], _, _, H1, rfl, I1.kept (t' := s1.toks) fun b o e => Heap.get?_push_of_some _ e, turn_list a _, ⟨_, Heap.get?_push_size _ rfl, rfl, rfl⟩, fun b hb => ?_, q⟩
  have e : b = s1.heap.objs.size := by simpa using hb
  subst e
  exact I1.fpOk (Nat.le_refl _) (I1.hok.fresh (Nat.le_refl _))
theorem range_it {pins : List (Addr × Obj)} {σ : St} {H : Hp} {s : Shared} {R : It → Hp → Prop} {E : Value → Shared → Prop} {lo hi : Int} {t u v : Tok} {tk : Nat} (I : Inv X pins σ H s) (h1 : -(2 ^ 62) ≤ lo) (h2 : lo < 2 ^ 62) (h3 : -(2 ^ 62) ≤ hi) (h4 : hi < 2 ^ 62)
    (q : R (Itr lo (hi - lo).toNat) H) : wpAny (model X.prog X.w) X.A (pyIter (.ref s.heap.objs.size)) (PIE X pins σ tg R) E { s with heap := s.heap.push { cls := .type "range", data := .fields #[.int lo t, .int hi u, .int 1 v] }, toks := tk } := by
  refine wpAny_pyIter_range (IsRange.new ..) (small_one h1 h2 h3 h4) ?_
  have I1 : Inv X pins σ H { s with heap := s.heap.push { cls := .type "range", data := .fields #[.int lo t, .int hi u, .int 1 v] }, toks := tk } := I.kept fun b o e => Heap.get?_push_of_some _ e
  refine ⟨(s.heap.push { cls := .type "range", data := .fields #[.int lo t, .int hi u, .int 1 v] }).objs.size, [(s.heap.push { cls := .type "range", data := .fields #[.int lo t, .int hi u, .int 1 v] }).objs.size], _, _, H, rfl,
    I1.kept (t' := tk) fun b o e => Heap.get?_push_of_some _ e, turn_range _ lo (hi - lo).toNat, ?_, fun b hb => ?_, q⟩
  · have e1 : lo + ((0 : Nat) : Int) * 1 = lo := by simp
    have e2 : (((hi - lo).toNat : Nat) : Int) - ((0 : Nat) : Int) = Builtin.Range.rangeSize lo hi 1 := by rw [rangeSize_one]; split <;> omega
    show IsRangeIter _ _ (lo + ((0 : Nat) : Int) * 1) ((((hi - lo).toNat : Nat) : Int) - ((0 : Nat) : Int)) 1
    rw [e1, e2]
    exact Heap.get?_push_size _ rfl
  · have e : b = (s.heap.push { cls := .type "range", data := .fields #[.int lo t, .int hi u, .int 1 v] }).objs.size := by simpa using hb
    subst e
    exact I1.fpOk (Nat.le_refl _) (I1.hok.fresh (Nat.le_refl _))
def iRng1 (ta : TA) : TI := fun σ H R => ta σ H fun vs H1 => ∃ j : Int, vs = [.int j] ∧ -(2 ^ 62) ≤ j ∧ j < 2 ^ 62 ∧ R (Itr 0 j.toNat) H1
def iRng2 (ta : TA) : TI := fun σ H R => ta σ H fun vs H1 => ∃ i j : Int, vs = [.int i, .int j] ∧ (-(2 ^ 62) ≤ i ∧ i < 2 ^ 62 ∧ -(2 ^ 62) ≤ j ∧ j < 2 ^ 62) ∧ R (Itr i (j - i).toNat) H1
theorem pi_range1 {a : Expr} {ta : TA} {p pos : Pos} (hg : Gl X "range") (hm : X.mg "range" = none) (ha : PA X [a] ta) (hs : starEach [a] X.env = [(false, eval a X.env)] := by rfl) : PI X tg (.Call (.Name "range" p) [a] [] pos) (iRng1 ta) := by
  intro pins s σ H R I h
  refine Call_ (ld_blt I hg hm boot_range (PyProof.Rows.callWith_type1 (thn (ha pos pins s σ H _ I h) fun us s1 ⟨vs, H1, I1, r1, q1⟩ => ?_) hs rfl))
  obtain ⟨j, e, q1, q2, q⟩ := q1
  subst e
  cases r1 with
  | cons r rr =>
    cases rr
    obtain ⟨t, rfl⟩ := r
    exact call_range_1 (range_it I1 (by omega) (by omega) q1 q2 (by simpa using q))
def tFor (wi : TI) (g : TG) (tb : TS) : TS := fun D σ H => wi σ H fun J H1 => ∃ W : Nat → Nat → St → Hp → Prop, (∃ m, W 0 m σ H1) ∧ ∀ i m σ H, W i m σ H →
  (J.stop i H ∧ D.nx σ H) ∨ (J.go i H ∧ ∃ N : St → Hp → Prop, (∀ σ' H', N σ' H' → ∃ m', m' < m ∧ W (i + 1) m' σ' H') ∧ ∀ x H', J.yld i H x H' → g x σ H' fun σ2 H2 => tb { D with nx := N, ct := N, bk := D.nx } σ2 H2)
def pinsAt (fp : List Addr) (h : Heap) : List (Addr × Obj) := fp.filterMap fun b => (h.get? b).map fun o => (b, o)
theorem mem_pinsAt {fp : List Addr} {h : Heap} {b : Addr} {o : Obj} (hb : b ∈ fp) (e : h.get? b = some o) : (b, o) ∈ pinsAt fp h := List.mem_filterMap.mpr ⟨b, hb, by rw [e]; rfl⟩
theorem of_pinsAt {fp : List Addr} {h : Heap} {p : Addr × Obj} (hp : p ∈ pinsAt fp h) : p.1 ∈ fp ∧ h.get? p.1 = some p.2 := by
  obtain ⟨b, hb, e⟩ := List.mem_filterMap.mp hp
  cases q : h.get? b with
  | none => rw [q] at e; cases e
  | some o =>
    rw [q] at e
    have e' : (b, o) = p := Option.some.inj e
    subst e'
    exact ⟨hb, q⟩
theorem Inv.pinned {pins : List (Addr × Obj)} {σ : St} {H : Hp} {s : Shared} {fp : List Addr} (I : Inv X pins σ H s) (hf : ∀ b ∈ fp, FpOk X pins H b) (ho : ∀ b ∈ fp, ∃ o, s.heap.get? b = some o ∧ ∀ v, o.data ≠ .cell v) : Inv X (pins ++ pinsAt fp s.heap) σ H s :=
  I.pins_of fun p hp => (List.mem_append.mp hp).elim (fun z => I.pin p (List.mem_append_right _ z)) fun z => by
    obtain ⟨hb, e⟩ := of_pinsAt z
    obtain ⟨f0, f1, f2, _⟩ := hf p.1 hb
    obtain ⟨o, e', d⟩ := ho p.1 hb
    rw [e] at e'; cases e'
    exact ⟨e, f0, f1, f2, d⟩
theorem Inv.unpinned {pins pl : List (Addr × Obj)} {σ : St} {H : Hp} {s : Shared} (I : Inv X (pins ++ pl) σ H s) : Inv X pins σ H s := I.pins_of fun p hp => I.pin p (List.mem_append_right _ (List.mem_append_left _ hp))
theorem ps_for {iter : Expr} {body : List Stmt} {wi : TI} {g : TG} {tb : TS} {pos : Pos} (hp : PassesOwn (model X.prog X.w) X.A X.env X.xe) (hc : X.calm = true) (hi : PI X tg iter wi) (hg : PG X tg g) (hb : PSs X body tb)
    (hs : ∀ x, foldedSetIterable iter X.env x = pure x := by intro _; rfl) : PS X (.For tg iter body [] pos) (tFor wi g tb) := by
  intro pins s σ H D I h
  refine wpAny_For (thn (hi pins s σ H _ I h) fun v s1 h1 => thn h1 fun itv s2 h2 => ?_) hs
  obtain ⟨it, fp, tn, J, H2, e, I2, T, st2, f2, W, ⟨m0, w0⟩, turn⟩ := h2
  subst e
  have stat : ∀ {H' : Hp}, (∀ b ∈ fp, H' b = none) → ∀ b ∈ fp, FpOk X pins H' b := fun hn b hb => ⟨hn b hb, (f2 b hb).2⟩
  refine codeAny_forLoop_any (fun n s' => ∃ i σ' H', Inv X pins σ' H' s' ∧ tn i s'.heap ∧ (∀ b ∈ fp, H' b = none) ∧ W i n σ' H') ?_ m0 ⟨0, σ, H2, I2, st2, fun b hb => (f2 b hb).1, w0⟩
  rintro n s3 ⟨i, σ3, H3, I3, st3, fr3, w3⟩
  rcases turn i n σ3 H3 w3 with ⟨stop, qn⟩ | ⟨go, N, hN, step⟩
  · refine wpAny_passesOwn hp (thn (T.done X rfl rfl rfl hc i pins s3 σ3 H3 X.xe I3 (stat fr3) st3 stop) fun r s4 ⟨hr, I4⟩ => ?_)
    subst hr
    exact wpAny_execs_nil ⟨σ3, H3, I4, qn⟩
  · refine wpAny_passesOwn hp (thn (T.item X rfl rfl rfl hc i pins s3 σ3 H3 X.xe I3 (stat fr3) st3 go) fun r s4 ⟨u, hr, h4⟩ => ?_)
    subst hr
    refine wpAny_passesOwn hp (thn h4 fun _ s5 ⟨x, H5, I5, r5, y5, st5, fr5⟩ => ?_)
    have I5' := I5.pinned (stat fr5) (T.obj _ _ st5)
    refine wpAny_passesOwn hp (thn (hg _ s5 σ3 H5 x u _ I5' r5 (step x H5 y5)) fun _ s6 ⟨σ6, H6, I6, q6⟩ => ?_)
    refine wpAny_passesOwn hp (thn (hb _ s6 σ6 H6 _ I6 q6) fun f s7 q7 => ?_)
    have again : ∀ {σ7 : St} {H7 : Hp}, Inv X (pins ++ pinsAt fp s5.heap) σ7 H7 s7 → N σ7 H7 → ∃ m, m < n ∧ ∃ i σ' H', Inv X pins σ' H' s7 ∧ tn i s7.heap ∧ (∀ b ∈ fp, H' b = none) ∧ W i m σ' H' := fun {σ7 H7} I7 n7 => by
      obtain ⟨m', hm, w7⟩ := hN σ7 H7 n7
      refine ⟨m', hm, i + 1, σ7, H7, I7.unpinned, T.keep _ _ _ st5 fun b hb o e => (I7.pin (b, o) (List.mem_append_right _ (List.mem_append_right _ (mem_pinsAt hb e)))).1, fun b hb => ?_, w7⟩
      obtain ⟨o, e, d⟩ := T.obj _ _ st5 b hb
      exact (I7.pin (b, o) (List.mem_append_right _ (List.mem_append_right _ (mem_pinsAt hb e)))).2.1
    cases f with
    | next => obtain ⟨σ7, H7, I7, n7⟩ := q7; exact again I7 n7
    | cont => obtain ⟨σ7, H7, I7, n7⟩ := q7; exact again I7 n7
    | brk => obtain ⟨σ7, H7, I7, q7⟩ := q7; exact ⟨σ7, H7, I7.unpinned, q7⟩
    | ret v => obtain ⟨x7, σ7, H7, I7, r7, q7⟩ := q7; exact ⟨x7, σ7, H7, I7.unpinned, r7, q7⟩
end
theorem for_list {K : PySem.W.Frag} {a : Addr} {xs : List V} {g : TG} {tb : TS} {D : Ends} {σ : St} {H : Hp} (Pv : Nat → St → Hp → Prop) (h0 : Pv 0 σ H) (hl : ∀ i σ H, i ≤ xs.length → Pv i σ H → SqL K H a xs)
    (hs : ∀ i x σ H, xs[i]? = some x → Pv i σ H → g x σ H fun σ2 H2 => tb { D with nx := Pv (i + 1), ct := Pv (i + 1), bk := D.nx } σ2 H2) (hd : ∀ σ H, Pv xs.length σ H → D.nx σ H) :
    ∃ W : Nat → Nat → St → Hp → Prop, (∃ m, W 0 m σ H) ∧ ∀ i m σ H, W i m σ H →
      ((Itl K a).stop i H ∧ D.nx σ H) ∨ ((Itl K a).go i H ∧ ∃ N : St → Hp → Prop, (∀ σ' H', N σ' H' → ∃ m', m' < m ∧ W (i + 1) m' σ' H') ∧ ∀ x H', (Itl K a).yld i H x H' → g x σ H' fun σ2 H2 => tb { D with nx := N, ct := N, bk := D.nx } σ2 H2) := by
  refine ⟨fun i m σ H => m = xs.length - i ∧ i ≤ xs.length ∧ Pv i σ H, ⟨xs.length, by simp, Nat.zero_le _, h0⟩, ?_⟩
  rintro i m σ H ⟨rfl, hi, p⟩
  have q := hl i σ H hi p
  by_cases hlt : i < xs.length
  · refine .inr ⟨⟨xs, xs[i], q, by simp [hlt]⟩, Pv (i + 1), fun σ' H' p' => ⟨xs.length - (i + 1), by omega, rfl, hlt, p'⟩, fun x H' y => ?_⟩
    obtain ⟨e, y⟩ := y
    subst e
    exact hs i x σ _ (y xs q) p
  · have e : i = xs.length := by omega
    subst e
    exact .inl ⟨⟨xs, q, Nat.le_refl _⟩, hd σ H p⟩
theorem for_range {lo : Int} {n : Nat} {g : TG} {tb : TS} {D : Ends} {σ : St} {H : Hp} (Pv : Nat → St → Hp → Prop) (h0 : Pv 0 σ H)
    (hs : ∀ i σ H, i < n → Pv i σ H → g (.int (lo + i)) σ H fun σ2 H2 => tb { D with nx := Pv (i + 1), ct := Pv (i + 1), bk := D.nx } σ2 H2) (hd : ∀ σ H, Pv n σ H → D.nx σ H) :
    ∃ W : Nat → Nat → St → Hp → Prop, (∃ m, W 0 m σ H) ∧ ∀ i m σ H, W i m σ H →
      ((Itr lo n).stop i H ∧ D.nx σ H) ∨ ((Itr lo n).go i H ∧ ∃ N : St → Hp → Prop, (∀ σ' H', N σ' H' → ∃ m', m' < m ∧ W (i + 1) m' σ' H') ∧ ∀ x H', (Itr lo n).yld i H x H' → g x σ H' fun σ2 H2 => tb { D with nx := N, ct := N, bk := D.nx } σ2 H2) := by
  refine ⟨fun i m σ H => m = n - i ∧ i ≤ n ∧ Pv i σ H, ⟨n, by simp, Nat.zero_le _, h0⟩, ?_⟩
  rintro i m σ H ⟨rfl, hi, p⟩
  by_cases hlt : i < n
  · refine .inr ⟨hlt, Pv (i + 1), fun σ' H' p' => ⟨n - (i + 1), by omega, rfl, hlt, p'⟩, fun x H' y => ?_⟩
    obtain ⟨e, y⟩ := y
    subst e y
    exact hs i σ _ hlt p
  · have e : i = n := by omega
    subst e
    exact .inl ⟨Nat.le_refl _, hd σ H p⟩
end L2
namespace L2
open PySem PySem.Spec PyProof.Rows
abbrev R2 := V → V → Hp → VK → Prop
def OpR (X : Cx) (f : Value → Value → Sem Value) (r : R2) : Prop :=
  ∀ (pins : List (Addr × Obj)) (s : Shared) (σ : St) (H : Hp) (x y : V) (v u : Value) (Q : VK), Inv X pins σ H s → RelV x v → RelV y u → r x y H Q →
    wpAny (model X.prog X.w) X.A (f v u) (EP X pins σ Q) X.xe s
def UnR (X : Cx) (f : Value → Sem Value) (r : V → Hp → VK → Prop) : Prop :=
  ∀ (pins : List (Addr × Obj)) (s : Shared) (σ : St) (H : Hp) (x : V) (v : Value) (Q : VK), Inv X pins σ H s → RelV x v → r x H Q →
    wpAny (model X.prog X.w) X.A (f v) (EP X pins σ Q) X.xe s
def CallR (X : Cx) (f : Value) (r : List V → Hp → VK → Prop) : Prop :=
  ∀ (pins : List (Addr × Obj)) (s : Shared) (σ : St) (H : Hp) (xs : List V) (us : List Value) (Q : VK), Inv X pins σ H s → Vals xs us → r xs H Q →
    wpAny (model X.prog X.w) X.A (call f us) (EP X pins σ Q) X.xe s
def TruR (X : Cx) (r : V → Hp → (Bool → Hp → Prop) → Prop) : Prop :=
  ∀ (pins : List (Addr × Obj)) (s : Shared) (σ : St) (H : Hp) (x : V) (v : Value) (Q : Bool → Hp → Prop), Inv X pins σ H s → RelV x v → r x H Q →
    wpAny (model X.prog X.w) X.A (truthy v) (TP X pins σ Q) X.xe s
def tOp (r : R2) (ta tb : TE) : TE := fun σ H Q => ta σ H fun x H1 => tb σ H1 fun y H2 => r x y H2 Q
def tUn (r : V → Hp → VK → Prop) (ta : TE) : TE := fun σ H Q => ta σ H fun x H1 => r x H1 Q
def rI (C : Int → Int → Prop) (g : Int → Int → V) : R2 := fun x y H Q => ∃ i j, x = .int i ∧ y = .int j ∧ C i j ∧ Q (g i j) H
def rI0 (g : Int → Int → V) : R2 := fun x y H Q => ∃ i j, x = .int i ∧ y = .int j ∧ Q (g i j) H
def rU (g : Int → V) : V → Hp → VK → Prop := fun x H Q => ∃ i, x = .int i ∧ Q (g i) H
section
variable {X : Cx} {a b c : Expr} {ta tb tc : TE} {pos : Pos}
theorem binT (ha : PE X a ta) (hb : PE X b tb) {pins : List (Addr × Obj)} {s : Shared} {σ : St} {H : Hp} {R : V → V → Hp → Prop} (I : Inv X pins σ H s)
    (h : ta σ H fun x H1 => tb σ H1 fun y H2 => R x y H2) {Q : Value → Shared → Prop} {f : Value → Value → Sem Value}
    (hf : ∀ v u s2 x y H2, Inv X pins σ H2 s2 → RelV x v → RelV y u → R x y H2 → wpAny (model X.prog X.w) X.A (f v u) Q X.xe s2) :
    wpAny (model X.prog X.w) X.A (eval a X.env) (fun v s₁ => wpAny (model X.prog X.w) X.A (eval b X.env) (fun u s₂ => wpAny (model X.prog X.w) X.A (f v u) Q X.xe s₂) X.xe s₁) X.xe s := by
  refine thn (ha pins s σ H _ I h) fun v s1 ⟨x, H1, I1, r1, q1⟩ => ?_
  refine thn (hb pins s1 σ H1 _ I1 q1) fun u s2 ⟨y, H2, I2, r2, q2⟩ => ?_
  exact hf v u s2 x y H2 I2 r1 r2 q2
theorem pe_op {op : Operator} {r : R2} (ho : OpR X (binaryOp op) r) (ha : PE X a ta) (hb : PE X b tb) : PE X (.BinOp a op b pos) (tOp r ta tb) := by
  intro pins s σ H Q I h
  exact wpAny_BinOp (binT ha hb I h fun v u s2 x y H2 I2 rx ry q => ho pins s2 σ H2 x y v u Q I2 rx ry q)
theorem pe_un {op : UnaryOp} {r : V → Hp → VK → Prop} (ho : UnR X (unaryOp op) r) (ha : PE X a ta) : PE X (.UnaryOp op a pos) (tUn r ta) := by
  intro pins s σ H Q I h
  exact UnaryOp_ (thn (ha pins s σ H _ I h) fun v s1 ⟨x, H1, I1, r1, q1⟩ => ho pins s1 σ H1 x v Q I1 r1 q1)
theorem opI {f : Value → Value → Sem Value} {C : Int → Int → Prop} {g : Int → Int → Int}
    (rule : ∀ (i j : Int) (t u : Tok) (s : Shared) (Q : Value → Shared → Prop) (E : Value → Shared → Prop), C i j → Q (.int (g i j) s.toks) { s with toks := s.toks + 1 } → wpAny (model X.prog X.w) X.A (f (.int i t) (.int j u)) Q E s) :
    OpR X f (rI C fun i j => .int (g i j)) := by
  intro pins s σ H x y v u Q I rx ry h
  obtain ⟨i, j, rfl, rfl, hc, q⟩ := h
  obtain ⟨t, rfl⟩ := rx
  obtain ⟨t', rfl⟩ := ry
  exact rule i j t t' s _ _ hc ⟨.int (g i j), H, I.tok _, ⟨_, rfl⟩, q⟩
theorem opI0 {f : Value → Value → Sem Value} {g : Int → Int → Int}
    (rule : ∀ (i j : Int) (t u : Tok) (s : Shared) (Q : Value → Shared → Prop) (E : Value → Shared → Prop), Q (.int (g i j) s.toks) { s with toks := s.toks + 1 } → wpAny (model X.prog X.w) X.A (f (.int i t) (.int j u)) Q E s) :
    OpR X f (rI0 fun i j => .int (g i j)) := by
  intro pins s σ H x y v u Q I rx ry h
  obtain ⟨i, j, rfl, rfl, q⟩ := h
  obtain ⟨t, rfl⟩ := rx
  obtain ⟨t', rfl⟩ := ry
  exact rule i j t t' s _ _ ⟨.int (g i j), H, I.tok _, ⟨_, rfl⟩, q⟩
theorem opB0 {f : Value → Value → Sem Value} {g : Int → Int → Bool}
    (rule : ∀ (i j : Int) (t u : Tok) (s : Shared) (Q : Value → Shared → Prop) (E : Value → Shared → Prop), Q (.bool (g i j)) s → wpAny (model X.prog X.w) X.A (f (.int i t) (.int j u)) Q E s) :
    OpR X f (rI0 fun i j => .bl (g i j)) := by
  intro pins s σ H x y v u Q I rx ry h
  obtain ⟨i, j, rfl, rfl, q⟩ := h
  obtain ⟨t, rfl⟩ := rx
  obtain ⟨t', rfl⟩ := ry
  exact rule i j t t' s _ _ ⟨.bl (g i j), H, I, rfl, q⟩
def CPow (i j : Int) : Prop := 0 ≤ j ∧ j ≤ 1000000 ∧ i.natAbs < 2 ^ 64
def CMul (i j : Int) : Prop := (-(2 ^ 64) < i ∧ i < 2 ^ 64) ∨ (-(2 ^ 64) < j ∧ j < 2 ^ 64)
theorem CMul.ok {i j : Int} (h : CMul i j) : IntMulOk i j := by
  rcases h with ⟨h1, h2⟩ | ⟨h1, h2⟩
  · exact .of_left (intBits_le_64 h1 h2)
  · exact .of_right (intBits_le_64 h1 h2)
theorem op_add : OpR X (binaryOp .Add) (rI0 fun i j => .int (i + j)) := opI0 fun _ _ _ _ _ _ _ q => add_int q
theorem op_mul : OpR X (binaryOp .Mult) (rI CMul fun i j => .int (i * j)) := opI fun _ _ _ _ _ _ _ hc q => mul_int q hc.ok
theorem op_mod : OpR X (binaryOp .Mod) (rI (fun _ j => 0 < j) fun i j => .int (i % j)) := opI fun i j _ _ _ _ _ hc q => by
  have h1 : (0 : Int) < j := hc
  exact mod_int' (by omega) (by rw [Int.fmod_eq_emod_of_nonneg i (by omega)]; exact q)
theorem op_pow : OpR X (binaryOp .Pow) (rI CPow fun i j => .int (i ^ j.toNat)) := opI fun _ _ _ _ _ _ _ hc q => pow_int_small hc.1 hc.2.1 hc.2.2 q
theorem unI {f : Value → Sem Value} {g : Int → Int}
    (rule : ∀ (i : Int) (t : Tok) (s : Shared) (Q : Value → Shared → Prop) (E : Value → Shared → Prop), Q (.int (g i) s.toks) { s with toks := s.toks + 1 } → wpAny (model X.prog X.w) X.A (f (.int i t)) Q E s) :
    UnR X f (rU fun i => .int (g i)) := by
  intro pins s σ H x v Q I rx h
  obtain ⟨i, rfl, q⟩ := h
  obtain ⟨t, rfl⟩ := rx
  exact rule i t s _ _ ⟨.int (g i), H, I.tok _, ⟨_, rfl⟩, q⟩
theorem un_neg : UnR X (unaryOp .USub) (rU fun i => .int (-i)) := unI fun _ _ _ _ _ q => neg_int q
end
def scal : V → V → Bool
  | .non, .non => true | .non, .int _ => true | .int _, .non => true | .non, .bl _ => true | .bl _, .non => true | .non, .str _ => true | .str _, .non => true
  | .int _, .int _ => true | .bl _, .bl _ => true | .str _, .str _ => true | .byt _, .byt _ => true
  | .int _, .str _ => true | .str _, .int _ => true | .bl _, .str _ => true | .str _, .bl _ => true
  | _, _ => false
def rEq : R2 := fun x y H Q => scal x y = true ∧ Q (.bl (decide (x = y))) H
def rNe : R2 := fun x y H Q => scal x y = true ∧ Q (.bl (!decide (x = y))) H
theorem dec_int {i j : Int} : decide (V.int i = V.int j) = (i == j) := by
  rw [Bool.eq_iff_iff]
  simp
theorem dec_bl {i j : Bool} : decide (V.bl i = V.bl j) = (i == j) := by
  rw [Bool.eq_iff_iff]
  simp
theorem dec_str {i j : Str} : decide (V.str i = V.str j) = (i == j) := by
  rw [Bool.eq_iff_iff]
  simp
theorem dec_byt {i j : Array UInt8} : decide (V.byt i = V.byt j) = (i.toList == j.toList) := by
  rw [Bool.eq_iff_iff]
  cases i
  cases j
  simp
section
variable {X : Cx} {a b c : Expr} {ta tb tc : TE} {pos : Pos}
theorem fin_bl {pins : List (Addr × Obj)} {σ : St} {H : Hp} {s : Shared} {Q : VK} {k k' : Bool} (I : Inv X pins σ H s) (q : Q (.bl k) H) (e : k = k') : EP X pins σ Q (.bool k') s := by
  subst e
  exact ⟨.bl k, H, I, rfl, q⟩
theorem op_eq : OpR X (compareOp .Eq) rEq := by
  intro pins s σ H x y v u Q I rx ry h
  obtain ⟨hs, q⟩ := h
  cases x with
  | non =>
    cases rx
    cases y with
    | non => cases ry; exact PySem.EqNone.eq_none_none (fin_bl I q (by simp))
    | bl j => cases ry; exact PySem.EqNone.eq_none_bool (fin_bl I q (by simp))
    | int j => obtain ⟨t', rfl⟩ := ry; exact PySem.EqNone.eq_none_int (fin_bl I q (by simp))
    | str j => obtain ⟨t', rfl⟩ := ry; exact PySem.EqNone.eq_none_str (fin_bl I q (by simp))
    | _ => exact absurd (show false = true from hs) Bool.false_ne_true
  | bl i =>
    cases rx
    cases y with
    | non => cases ry; exact PySem.EqNone.eq_bool_none (fin_bl I q (by simp))
    | bl j => cases ry; exact eq_bool (fin_bl I q dec_bl)
    | str j => obtain ⟨t', rfl⟩ := ry; exact PySem.EqMixed.eq_bool_str (fin_bl I q (by simp))
    | _ => exact absurd (show false = true from hs) Bool.false_ne_true
  | int i =>
    obtain ⟨t, rfl⟩ := rx
    cases y with
    | non => cases ry; exact PySem.EqNone.eq_int_none (fin_bl I q (by simp))
    | int j => obtain ⟨t', rfl⟩ := ry; exact eq_int (fin_bl I q dec_int)
    | str j => obtain ⟨t', rfl⟩ := ry; exact PySem.EqMixed.eq_int_str (fin_bl I q (by simp))
    | _ => exact absurd (show false = true from hs) Bool.false_ne_true
  | str i =>
    obtain ⟨t, rfl⟩ := rx
    cases y with
    | non => cases ry; exact PySem.EqNone.eq_str_none (fin_bl I q (by simp))
    | bl j => cases ry; exact PySem.EqMixed.eq_str_bool (fin_bl I q (by simp))
    | int j => obtain ⟨t', rfl⟩ := ry; exact PySem.EqMixed.eq_str_int (fin_bl I q (by simp))
    | str j => obtain ⟨t', rfl⟩ := ry; exact eq_str (fin_bl I q dec_str)
    | _ => exact absurd (show false = true from hs) Bool.false_ne_true
  | byt i =>
    obtain ⟨t, rfl⟩ := rx
    cases y with
    | byt j => obtain ⟨t', rfl⟩ := ry; exact PySem.W.eq_bytes (fin_bl I q dec_byt)
    | _ => exact absurd (show false = true from hs) Bool.false_ne_true
  | _ => cases y <;> exact absurd (show false = true from hs) Bool.false_ne_true
theorem op_ne : OpR X (compareOp .NotEq) rNe := by
  intro pins s σ H x y v u Q I rx ry h
  obtain ⟨hs, q⟩ := h
  cases x with
  | non =>
    cases rx
    cases y with
    | non => cases ry; exact PySem.EqNone.ne_none_none (fin_bl I q (by simp))
    | bl j => cases ry; exact PySem.EqNone.ne_none_bool (fin_bl I q (by simp))
    | int j => obtain ⟨t', rfl⟩ := ry; exact PySem.EqNone.ne_none_int (fin_bl I q (by simp))
    | str j => obtain ⟨t', rfl⟩ := ry; exact PySem.EqNone.ne_none_str (fin_bl I q (by simp))
    | _ => exact absurd (show false = true from hs) Bool.false_ne_true
  | bl i =>
    cases rx
    cases y with
    | non => cases ry; exact PySem.EqNone.ne_bool_none (fin_bl I q (by simp))
    | bl j => cases ry; exact ne_bool (fin_bl I q (congrArg not dec_bl))
    | str j => obtain ⟨t', rfl⟩ := ry; exact PySem.EqMixed.ne_bool_str (fin_bl I q (by simp))
    | _ => exact absurd (show false = true from hs) Bool.false_ne_true
  | int i =>
    obtain ⟨t, rfl⟩ := rx
    cases y with
    | non => cases ry; exact PySem.EqNone.ne_int_none (fin_bl I q (by simp))
    | int j => obtain ⟨t', rfl⟩ := ry; exact ne_int (fin_bl I q (congrArg not dec_int))
    | str j => obtain ⟨t', rfl⟩ := ry; exact PySem.EqMixed.ne_int_str (fin_bl I q (by simp))
    | _ => exact absurd (show false = true from hs) Bool.false_ne_true
  | str i =>
    obtain ⟨t, rfl⟩ := rx
    cases y with
    | non => cases ry; exact PySem.EqNone.ne_str_none (fin_bl I q (by simp))
    | bl j => cases ry; exact PySem.EqMixed.ne_str_bool (fin_bl I q (by simp))
    | int j => obtain ⟨t', rfl⟩ := ry; exact PySem.EqMixed.ne_str_int (fin_bl I q (by simp))
    | str j => obtain ⟨t', rfl⟩ := ry; exact ne_str (fin_bl I q (congrArg not dec_str))
    | _ => exact absurd (show false = true from hs) Bool.false_ne_true
  | byt i =>
    obtain ⟨t, rfl⟩ := rx
    cases y with
    | byt j => obtain ⟨t', rfl⟩ := ry; exact PySem.W.ne_bytes (fin_bl I q (congrArg not dec_byt))
    | _ => exact absurd (show false = true from hs) Bool.false_ne_true
  | _ => cases y <;> exact absurd (show false = true from hs) Bool.false_ne_true
theorem op_lt : OpR X (compareOp .Lt) (rI0 fun i j => .bl (decide (i < j))) := opB0 fun _ _ _ _ _ _ _ q => lt_int q
theorem op_le : OpR X (compareOp .LtE) (rI0 fun i j => .bl (decide (i ≤ j))) := opB0 fun _ _ _ _ _ _ _ q => le_int q
theorem op_gt : OpR X (compareOp .Gt) (rI0 fun i j => .bl (decide (j < i))) := opB0 fun _ _ _ _ _ _ _ q => gt_int q
theorem op_ge : OpR X (compareOp .GtE) (rI0 fun i j => .bl (decide (j ≤ i))) := opB0 fun _ _ _ _ _ _ _ q => ge_int q
theorem op_isN : OpR X (compareOp .Is) (fun x y H Q => y = .non ∧ Q (.bl (decide (x = .non))) H) := by
  intro pins s σ H x y v u Q I rx ry h
  obtain ⟨rfl, q⟩ := h
  cases ry
  refine is_none_gen (fin_bl I q ?_)
  cases x <;> first
    | (cases rx; rfl)
    | (obtain ⟨t, rfl⟩ := rx; rfl)
theorem op_notN : OpR X (compareOp .IsNot) (fun x y H Q => y = .non ∧ Q (.bl (!decide (x = .non))) H) := by
  intro pins s σ H x y v u Q I rx ry h
  obtain ⟨rfl, q⟩ := h
  cases ry
  refine isnot_none_gen (fin_bl I q ?_)
  cases x <;> first
    | (cases rx; rfl)
    | (obtain ⟨t, rfl⟩ := rx; rfl)
theorem OpR.or {f : Value → Value → Sem Value} {r r' : R2} (h : OpR X f r) (h' : OpR X f r') : OpR X f (fun x y H Q => r x y H Q ∨ r' x y H Q) := by
  intro pins s σ H x y v u Q I rx ry q
  rcases q with q | q
  · exact h pins s σ H x y v u Q I rx ry q
  · exact h' pins s σ H x y v u Q I rx ry q
theorem nomark (b : Expr) {op : CmpOp} (h : op ≠ .In := by decide) (h2 : op ≠ .NotIn := by decide) : behindInMarks op b = false := by
  have e1 : (op == CmpOp.In) = false := by cases op <;> first | rfl | exact absurd rfl h
  have e2 : (op == CmpOp.NotIn) = false := by cases op <;> first | rfl | exact absurd rfl h2
  cases b <;> simp [behindInMarks, e1, e2]
theorem pe_cmpR {op : CmpOp} {r : R2} (ho : OpR X (compareOp op) r) (ha : PE X a ta) (hb : PE X b tb) (hm : behindInMarks op b = false) : PE X (.Compare a [op] [b] pos) (tOp r ta tb) := by
  intro pins s σ H Q I h
  exact wpAny_Compare1 (binT ha hb I h fun v u s2 x y H2 I2 rx ry q => ho pins s2 σ H2 x y v u Q I2 rx ry q) hm
def tTest (t : TE) : TT := fun σ H Q => t σ H fun x H' => ∃ k, x = .bl k ∧ Q k H'
theorem pt_cmpR {op : CmpOp} {r : R2} (ho : OpR X (compareOp op) r) (ha : PE X a ta) (hb : PE X b tb) (hm : behindInMarks op b = false) : PT X (.Compare a [op] [b] pos) (tTest (tOp r ta tb)) := by
  intro pins s σ H Q I h
  refine wpAny_isTrue_Compare1 (thn (ha pins s σ H _ I h) fun v s1 ⟨x, H1, I1, r1, q1⟩ => thn (hb pins s1 σ H1 _ I1 q1) fun u s2 ⟨y, H2, I2, r2, q2⟩ =>
    thn (ho pins s2 σ H2 x y v u _ I2 r1 r2 q2) fun c s3 ⟨z, H3, I3, r3, k, e, q3⟩ => ?_) hm
  subst e
  cases r3
  exact wpAny_truthy_bool ⟨H3, I3, q3⟩
def tChain (r r' : R2) (ta tb tc : TE) : TE := fun σ H Q => ta σ H fun x H1 => tb σ H1 fun y H2 => r x y H2 fun z H3 => ∃ k, z = .bl k ∧
  (if k = true then tc σ H3 fun w' H4 => r' y w' H4 Q else Q (.bl false) H3)
theorem pe_chain {op op' : CmpOp} {r r' : R2} (ho : OpR X (compareOp op) r) (ho' : OpR X (compareOp op') r') (ha : PE X a ta) (hb : PE X b tb) (hc : PE X c tc)
    (hm : lastMarks [op, op'] [b, c] = false := by with_unfolding_all rfl) : PE X (.Compare a [op, op'] [b, c] pos) (tChain r r' ta tb tc) := by
  intro pins s σ H Q I h
  refine Compare_chain (thn (ha pins s σ H _ I h) fun v s1 ⟨x, H1, I1, r1, q1⟩ => chain_link (thn (hb pins s1 σ H1 _ I1 q1) fun u s2 ⟨y, H2, I2, r2, q2⟩ =>
    thn (ho pins s2 σ H2 x y v u _ I2 r1 r2 q2) fun d s3 ⟨z, H3, I3, r3, k, e, q3⟩ => ?_)) hm
  subst e
  cases r3
  refine wpAny_truthy_bool ?_
  cases k with
  | false => exact ite_ff ⟨.bl false, H3, I3, rfl, q3⟩
  | true => exact ite_tt (chain_last (thn (hc pins s3 σ H3 _ I3 q3) fun w' s4 ⟨z', H4, I4, r4, q4⟩ => ho' pins s4 σ H4 y z' u w' Q I4 r2 r4 q4))
theorem pt_chain {op op' : CmpOp} {r r' : R2} (ho : OpR X (compareOp op) r) (ho' : OpR X (compareOp op') r') (ha : PE X a ta) (hb : PE X b tb) (hc : PE X c tc)
    (hm : lastMarks [op, op'] [b, c] = false := by with_unfolding_all rfl) : PT X (.Compare a [op, op'] [b, c] pos) (tTest (tChain r r' ta tb tc)) := by
  intro pins s σ H Q I h
  refine isTrue_chain (thn (ha pins s σ H _ I h) fun v s1 ⟨x, H1, I1, r1, q1⟩ => test_link (thn (hb pins s1 σ H1 _ I1 q1) fun u s2 ⟨y, H2, I2, r2, q2⟩ =>
    thn (ho pins s2 σ H2 x y v u _ I2 r1 r2 q2) fun d s3 ⟨z, H3, I3, r3, k, e, q3⟩ => ?_)) hm
  subst e
  cases r3
  refine wpAny_truthy_bool ?_
  cases k with
  | false =>
    obtain ⟨k', e', q'⟩ := q3
    cases e'
    exact ite_ff ⟨H3, I3, q'⟩
  | true =>
    refine ite_tt (test_last (thn (hc pins s3 σ H3 _ I3 q3) fun w' s4 ⟨z', H4, I4, r4, q4⟩ => thn (ho' pins s4 σ H4 y z' u w' _ I4 r2 r4 q4) fun d' s5 ⟨z2, H5, I5, r5, k2, e2, q5⟩ => ?_))
    subst e2
    cases r5
    exact wpAny_truthy_bool ⟨H5, I5, q5⟩
def TruV (K : PySem.W.Frag) (x : V) (H : Hp) (k : Bool) : Prop :=
  match x with
  | .non => k = false
  | .bl b => k = b
  | .int i => k = (i != 0)
  | .str y => y.length ≤ sizeLine ∧ k = ((y.length : Int) != 0)
  | .byt y => y.size ≤ sizeLine ∧ k = ((y.size : Int) != 0)
  | .ref p => (∃ xs, SqL K H p xs ∧ k = !xs.isEmpty) ∨ (∃ xs, SqT K H p xs ∧ k = !xs.isEmpty) ∨ ∃ kvs, H p = some (.dK kvs) ∧ k = !kvs.isEmpty
  | _ => False
theorem isEmpty_kv {κ : Type} {kvs : List (κ × V)} {vs : List (κ × Value)} (r : KV kvs vs) : (!vs.isEmpty) = !kvs.isEmpty := by
  cases r <;> rfl
theorem isEmpty_of {xs : List V} {its : List Value} (r : Vals xs its) : (!its.toArray.isEmpty) = !xs.isEmpty := by
  cases r <;> simp
theorem line63 : (sizeLine : Nat) < 2 ^ 63 := by rw [sizeLine_eq]; decide
theorem tru_ok : TruR X (fun x H Q => ∃ k, TruV X.K x H k ∧ Q k H) := by
  intro pins s σ H x v Q I rx h
  obtain ⟨k, e, q⟩ := h
  have hl := line63
  have hs : sizeLine = 16777216 := sizeLine_eq
  cases x with
  | non =>
    cases rx
    have e' : k = false := e
    subst e'
    exact truthy_none ⟨H, I, q⟩
  | bl b =>
    cases rx
    have e' : k = b := e
    subst e'
    exact wpAny_truthy_bool ⟨H, I, q⟩
  | int i =>
    obtain ⟨t, rfl⟩ := rx
    have e' : k = (i != 0) := e
    subst e'
    exact PySem.P.truthy_int ⟨H, I, q⟩
  | str y =>
    obtain ⟨t, rfl⟩ := rx
    obtain ⟨hy, e'⟩ : y.length ≤ sizeLine ∧ k = ((y.length : Int) != 0) := e
    subst e'
    exact PySem.P.truthy_str (by omega) ⟨H, I.tok _, q⟩
  | byt y =>
    obtain ⟨t, rfl⟩ := rx
    obtain ⟨hy, e'⟩ : y.size ≤ sizeLine ∧ k = ((y.size : Int) != 0) := e
    subst e'
    exact PySem.W.truthy_bytes (by omega) ⟨H, I.tok _, q⟩
  | ref p =>
    cases rx
    have e' : (∃ xs, SqL X.K H p xs ∧ k = !xs.isEmpty) ∨ (∃ xs, SqT X.K H p xs ∧ k = !xs.isEmpty) ∨ ∃ kvs, H p = some (.dK kvs) ∧ k = !kvs.isEmpty := e
    rcases e' with ⟨xs, hx, e'⟩ | ⟨xs, hx, e'⟩ | ⟨kvs, hx, e'⟩
    · subst e'
      obtain ⟨its, r, pl, hz⟩ := I.list hx
      have hlen := r.length
      exact wpAny_truthy_list pl.isList (by simp only [List.size_toArray]; omega) ⟨H, I.tok _, by rw [isEmpty_of r]; exact q⟩
    · subst e'
      obtain ⟨its, r, pl, hz⟩ := I.tuple hx
      have hlen := r.length
      exact truthy_tuple pl (by simp only [List.size_toArray]; omega) ⟨H, I.tok _, by rw [isEmpty_of r]; exact q⟩
    · subst e'
      obtain ⟨hz, hS, vs, r, m⟩ : kvs.length ≤ sizeLine ∧ (p == sysModules) = false ∧ ∃ vs, KV kvs vs ∧ s.heap.DictOf (mixKind X.prog X.w) p vs := I.hok p _ hx
      have hlen : kvs.length = vs.length := Paired.length r
      exact wpAny_truthy_dict hS m (by omega) ⟨H, I.tok _, by rw [isEmpty_kv r]; exact q⟩
  | _ => exact (show False from e).elim
theorem pt_truth (ha : PE X a ta) (he : ∀ whole, isTrue a X.env whole = (do let v ← whole; standAt a.pos; holding [v] (truthy v))) :
    PT X a (fun σ H Q => ta σ H fun x H' => ∃ k, TruV X.K x H' k ∧ Q k H') := by
  intro pins s σ H Q I h
  exact isTrue_plain (thn (ha pins s σ H _ I h) fun v s1 ⟨x, H1, I1, r1, q1⟩ => tru_ok pins s1 σ H1 x v Q I1 r1 q1) (he _)
theorem vals1 {x : V} {us : List Value} (r : Vals [x] us) : ∃ u, us = [u] ∧ RelV x u := by
  cases r with
  | cons r1 r2 => cases r2; exact ⟨_, rfl, r1⟩
theorem vals2 {x y : V} {us : List Value} (r : Vals [x, y] us) : ∃ u w', us = [u, w'] ∧ RelV x u ∧ RelV y w' := by
  cases r with
  | cons r1 r2 =>
    cases r2 with
    | cons r3 r4 => cases r4; exact ⟨_, _, rfl, r1, r3⟩
theorem call_max2 (hc : X.calm = true) : CallR X (.builtin "max") (fun xs H Q => ∃ i j, xs = [.int i, .int j] ∧ Q (.int (if j > i then j else i)) H) := by
  intro pins s σ H xs us Q I r h
  obtain ⟨i, j, rfl, q⟩ := h
  obtain ⟨u, w', rfl, ⟨t, rfl⟩, ⟨t', rfl⟩⟩ := vals2 r
  refine max_two_ints (I.ok.hd hc) fun h' tk k => ⟨_, H, I.kept k, ?_, q⟩
  by_cases hj : j > i
  · rw [if_pos hj, if_pos hj]; exact ⟨_, rfl⟩
  · rw [if_neg hj, if_neg hj]; exact ⟨_, rfl⟩
theorem call_min2 (hc : X.calm = true) : CallR X (.builtin "min") (fun xs H Q => ∃ i j, xs = [.int i, .int j] ∧ Q (.int (if j < i then j else i)) H) := by
  intro pins s σ H xs us Q I r h
  obtain ⟨i, j, rfl, q⟩ := h
  obtain ⟨u, w', rfl, ⟨t, rfl⟩, ⟨t', rfl⟩⟩ := vals2 r
  refine min_two_ints (I.ok.hd hc) fun h' tk k => ⟨_, H, I.kept k, ?_, q⟩
  by_cases hj : j < i
  · rw [if_pos hj, if_pos hj]; exact ⟨_, rfl⟩
  · rw [if_neg hj, if_neg hj]; exact ⟨_, rfl⟩
theorem call_int1 : CallR X (.type "int") (fun xs H Q => (∃ i, xs = [.int i] ∧ Q (.int i) H) ∨ ∃ k, xs = [.bl k] ∧ Q (.int (if k then 1 else 0)) H) := by
  intro pins s σ H xs us Q I r h
  rcases h with ⟨i, rfl, q⟩ | ⟨k, rfl, q⟩
  · obtain ⟨u, rfl, t, rfl⟩ := vals1 r
    exact call_int_int ⟨.int i, H, I, ⟨_, rfl⟩, q⟩
  · obtain ⟨u, rfl, r1⟩ := vals1 r
    cases r1
    exact call_int_bool ⟨.int (if k then 1 else 0), H, I.tok _, ⟨_, rfl⟩, q⟩
end
end L2
namespace L2
open PySem PySem.Spec PyProof.Rows
structure ObjM (h : Heap) (x dx C : Addr) (mA : Str → Option Value) : Prop where
  obj : h.get? x = some (PySem.W.instObj C dx)
  ns : h.Ns1 dx mA
  ne : dx ≠ x
theorem lookIn_ns {h : Heap} {dx : Addr} {mA : Str → Option Value} (n : h.Ns1 dx mA) : ∃ od, h.get? dx = some od ∧ ∀ name, PySem.W.lookIn name od = some (mA name) := by
  obtain ⟨o, es, ep, ho, hd, hk, _, hm⟩ := n
  refine ⟨o, ho, fun name => ?_⟩
  have e := hm name
  unfold nsFind findBy at e
  rw [← Array.find?_toList] at e
  unfold PySem.W.lookIn
  rw [hd]
  dsimp only
  split
  · rename_i y q
    rw [q] at e
    exact congrArg some e
  · rename_i q
    rw [q] at e
    have a : es.toList.any (·.refKey) = false := by
      rw [List.any_eq_false]
      intro y hy
      obtain ⟨z, t, hkey⟩ := hk y (Array.mem_toList_iff.mp hy)
      simp [DictEntry.refKey, hkey]
    have a' : ¬ es.toList.any (·.refKey) = true := by rw [a]; exact Bool.false_ne_true
    rw [if_neg a']
    exact congrArg some e
theorem ObjM.look {h : Heap} {x dx C : Addr} {mA : Str → Option Value} (I : ObjM h x dx C mA) : ∃ od, PySem.W.InstAt h x (PySem.W.instObj C dx) C (some od) ∧ ∀ name, PySem.W.lookIn name od = some (mA name) :=
  let ⟨od, ho, hl⟩ := lookIn_ns I.ns
  ⟨od, ⟨I.obj, rfl, rfl, ho⟩, hl⟩
section
variable {prog : Program} {w : World} {A : Around} {E : Value → Shared → Prop} {s : Shared} {K : PySem.W.Frag} {x dx C f : Addr} {mA : Str → Option Value} {name : Str} {v : Value}
theorem get_map {expr : Bool} {Q : Value → Shared → Prop} (X : K.In s.heap) (I : ObjM s.heap x dx C mA) (hg : PySem.W.plainGet K C name = true) (hh : PySem.W.hasDictIn K C = true)
    (ha : PySem.W.findIn K (.ref C) name = some none) (hv : mA name = some v) (hv' : PySem.W.handedIn v = true) (h : Q v { s with toks := s.toks + 1 }) :
    wpAny (model prog w) A (getAttr (.ref x) name expr) Q E s := by
  obtain ⟨od, J, hl⟩ := I.look
  exact PySem.W.get_value X J (PySem.W.plainGet_of hg).1 (PySem.W.findObj_own hh ha rfl (by rw [hl, hv])) hv' h
theorem get_meth {pl : Sem Bool} {Q : Value × List Value → Shared → Prop} (X : K.In s.heap) (I : ObjM s.heap x dx C mA) (hg : PySem.W.plainGet K C name = true)
    (hf : PySem.W.findIn K (.ref C) name = some (some (.ref f))) (ht : PySem.W.isFn K (.ref f) = true) (hv : mA name = none) (h : Q (.ref f, [.ref x]) s) :
    wpAny (model prog w) A (getMethod (.ref x) name pl) Q E s := by
  obtain ⟨od, J, hl⟩ := I.look
  exact PySem.W.method_fn X J (PySem.W.plainGet_of hg).1 (PySem.W.plainGet_of hg).2 hf (beq_iff_eq.mp ht) (by show (PySem.W.lookIn name od).map (·.isSome) = some false; rw [hl, hv]; rfl) h
theorem set_map {ns : List Str} {Q : Unit → Shared → Prop} (X : K.In s.heap) (I : ObjM s.heap x dx C mA)
    (hs : PySem.W.findIn K (.ref C) "__setattr__" = some (some (.builtin "object.__setattr__"))) (hp : PySem.W.plainOver K C = true) (ht : PySem.W.takerIn K C name = some none) (hh : PySem.W.hasDictIn K C = true)
    (hw : PySem.Within mA ns) (hsz : ns.length ≤ sizeLine)
    (h : ∀ h', ObjM h' x dx C (fun y => if y = name then some v else mA y) → Heap.SameBut dx s.heap h' → Q () { s with heap := h', toks := s.toks + 2 }) :
    wpAny (model prog w) A (setAttr (.ref x) name v) Q E s := by
  obtain ⟨od, J, hl⟩ := I.look
  refine PySem.W.set_plain X J hs (PySem.W.osa_open (s := { s with toks := s.toks + 1 }) (r := none) X J hp ht fun b => ?_)
  obtain ⟨cd, hc, hd'⟩ := PySem.W.any_some hh
  have hx : s.heap.get? x = some ⟨.ref C, some dx, .plain, #[]⟩ := I.obj
  refine wpAny_bind (wpAny_pure (wpAny_bind (wpAny_bind (wpAny_loadPart hx (wpAny_bind (PySem.W.Looks.here (s := { s with toks := s.toks + 1 }) (PySem.W.looks_clsIn X hc) ?_))))))
  rw [hd']
  refine wpAny_pure (a := some dx) (wpAny_bind (wpAny_pure (wpAny_bind ?_)))
  refine wpAny_nsSet1 (s := { s with toks := s.toks + 1 }) I.ns fun h' hn2 hs2 => ?_
  obtain ⟨oD, esD, epD, hoD, hdD, hcD⟩ := hn2.count (PySem.Within.cons name v hw)
  refine wpAny_bind (wpAny_lookBehind hoD (by rw [hdD]; exact pastItsLine_dict (Nat.le_trans hcD (by rw [List.length_cons]; omega))) ?_)
  exact wpAny_pure (h _ ⟨(hs2.2 _ (Ne.symm I.ne)).trans I.obj, hn2, I.ne⟩ hs2)
theorem make_map {R : Result → Shared → Prop} {vs : List Value} {kw : List (Str × Value)} (X : K.In s.heap) (hm : PySem.W.makesIn K C = true)
    (hi : PySem.W.findIn K (.ref C) "__init__" = some (some (.ref f))) (hf : PySem.W.typeIn K (.ref f) = some (.type "function"))
    (h : codeAny (model prog w) (A.under (.builtin "type.__call__" ⟨.ref C :: vs, kw⟩)) (.call (.ref f) ⟨.ref (s.heap.objs.size + 1) :: vs, kw⟩) (PySem.W.InitBack (s.heap.objs.size + 1) R)
      { s with heap := (s.heap.push PySem.W.emptyDict).push (PySem.W.instObj C s.heap.objs.size) }) :
    codeAny (model prog w) A (.call (.ref C) ⟨vs, kw⟩) R s := by
  obtain ⟨hh, g, d, t, os⟩ := s
  exact PySem.W.make_core (PySem.W.makes_of X hm) (PySem.W.looks_findIn X hi) (fun self => PySem.W.bind_fn X self hf) (.inl rfl) h
end
def putF (f : Str) (v : V) : List (Str × V) → List (Str × V)
  | [] => [(f, v)]
  | (g, x) :: r => if g = f then (g, v) :: r else (g, x) :: putF f v r
theorem lookup_putF (f g : Str) (v : V) : ∀ fs : List (Str × V), (putF f v fs).lookup g = if g = f then some v else fs.lookup g
  | [] => by
    show List.lookup g [(f, v)] = _
    by_cases h : g = f
    · have hb : (g == f) = true := beq_iff_eq.mpr h
      simp only [List.lookup, hb, if_pos h]
    · have hb : (g == f) = false := beq_eq_false_iff_ne.mpr h
      simp only [List.lookup, hb, if_neg h]
  | (k, x) :: r => by
    have ih := lookup_putF f g v r
    rw [show putF f v ((k, x) :: r) = (if k = f then (k, v) :: r else (k, x) :: putF f v r) from rfl]
    by_cases hk : k = f
    · rw [if_pos hk]
      by_cases h : g = k
      · have hb : (g == k) = true := beq_iff_eq.mpr h
        simp only [List.lookup, hb, if_pos (h.trans hk)]
      · have hb : (g == k) = false := beq_eq_false_iff_ne.mpr h
        simp only [List.lookup, hb, if_neg (fun e : g = f => h (e.trans hk.symm))]
    · rw [if_neg hk]
      by_cases h : g = k
      · have hb : (g == k) = true := beq_iff_eq.mpr h
        simp only [List.lookup, hb, if_neg (fun e : g = f => hk (h.symm.trans e))]
      · have hb : (g == k) = false := beq_eq_false_iff_ne.mpr h
        simp only [List.lookup, hb]
        exact ih
theorem keys_putF (f : Str) (v : V) : ∀ fs : List (Str × V), f ∈ (putF f v fs).map (·.1) ∧ ∀ g, g ∈ fs.map (·.1) → g ∈ (putF f v fs).map (·.1)
  | [] => ⟨by simp [putF], fun g h => by simp at h⟩
  | (k, x) :: r => by
    obtain ⟨i1, i2⟩ := keys_putF f v r
    rw [show putF f v ((k, x) :: r) = (if k = f then (k, v) :: r else (k, x) :: putF f v r) from rfl]
    by_cases hk : k = f
    · rw [if_pos hk]
      subst hk
      exact ⟨by simp, fun g h => by simpa using h⟩
    · rw [if_neg hk]
      refine ⟨?_, fun g h => ?_⟩
      · rw [List.map_cons]
        exact List.mem_cons_of_mem _ i1
      · rw [List.map_cons] at h ⊢
        rcases List.mem_cons.mp h with e | e
        · exact List.mem_cons.mpr (.inl e)
        · exact List.mem_cons_of_mem _ (i2 g e)
theorem length_putF (f : Str) (v : V) : ∀ fs : List (Str × V), (putF f v fs).length ≤ fs.length + 1
  | [] => by simp [putF]
  | (k, x) :: r => by
    have ih := length_putF f v r
    rw [show putF f v ((k, x) :: r) = (if k = f then (k, v) :: r else (k, x) :: putF f v r) from rfl]
    by_cases hk : k = f
    · rw [if_pos hk, List.length_cons, List.length_cons]; omega
    · rw [if_neg hk, List.length_cons, List.length_cons]; omega
theorem RelO.some_of {v : V} {o : Option Value} (r : RelO (some v) o) : ∃ u, o = some u ∧ RelV v u := by
  cases o with
  | none => exact (show False from r).elim
  | some u => exact ⟨u, rfl, r⟩
theorem RelO.none_of {o : Option Value} (r : RelO none o) : o = none := by
  cases o with
  | none => rfl
  | some u => exact (show False from r).elim
theorem handed_of {v : V} {u : Value} (r : RelV v u) : PySem.W.handedIn u = true := by
  cases v with
  | non => cases (show u = Value.none from r); rfl
  | bl b => cases (show u = Value.bool b from r); rfl
  | int i => obtain ⟨t, e⟩ := (show ∃ t, u = Value.int i t from r); cases e; rfl
  | str x => obtain ⟨t, e⟩ := (show ∃ t, u = Value.str x t from r); cases e; rfl
  | byt b => obtain ⟨t, e⟩ := (show ∃ t, u = Value.bytes b t from r); cases e; rfl
  | flt b => obtain ⟨t, e⟩ := (show ∃ t, u = Value.float b t from r); cases e; rfl
  | ref a => cases (show u = Value.ref a from r); rfl
  | ty n => cases (show u = Value.type n from r); rfl
section
variable {P : Program} {w : World} {H H' : Hp} {h h' : Heap} {a C dx : Addr} {fs fs' : List (Str × V)}
theorem ins_get (hok : HOk P w H h) (e : H a = some (.ins C dx fs)) : ∃ mA, ObjM h a dx C mA ∧ (∀ f, RelO (fs.lookup f) (mA f)) ∧ PySem.Within mA (fs.map (·.1)) ∧ fs.length ≤ 1000 ∧ H dx = some (.own a) := by
  obtain ⟨d, z, ne, ob, mA, n, r, q⟩ := (show ObjOk P w H h a (.ins C dx fs) from hok a _ e)
  exact ⟨mA, ⟨ob, n, ne⟩, r, q, z, d⟩
end
structure Cls (K : PySem.W.Frag) (C : Addr) : Prop where
  pg : PySem.W.plainGet K C Str.empty = true
  hd : PySem.W.hasDictIn K C = true
  po : PySem.W.plainOver K C = true
  sa : PySem.W.findIn K (.ref C) "__setattr__" = some (some (.builtin "object.__setattr__"))
theorem Cls.get {K : PySem.W.Frag} {C : Addr} (c : Cls K C) (f : Str) : PySem.W.plainGet K C f = true := c.pg
def NoAttr (K : PySem.W.Frag) (C : Addr) (f : Str) : Prop := PySem.W.findIn K (.ref C) f = some none
theorem NoAttr.taker {K : PySem.W.Frag} {C : Addr} {f : Str} (n : NoAttr K C f) : PySem.W.takerIn K C f = some none := by
  unfold PySem.W.takerIn
  rw [show PySem.W.findIn K (.ref C) f = some none from n]
  rfl
structure Con (K : PySem.W.Frag) (C : Addr) (f : Str) (v : V) (u : Value) : Prop where
  at_ : PySem.W.findIn K (.ref C) f = some (some u)
  rel : RelV v u
  get : PySem.W.specialIn K u "__get__" = some none
  cp : PySem.W.copiedNames.contains f = false
structure Meth (K : PySem.W.Frag) (C : Addr) (m : Str) (f : Addr) : Prop where
  at_ : PySem.W.findIn K (.ref C) m = some (some (.ref f))
  fn : PySem.W.isFn K (.ref f) = true
  kp : PySem.W.keepIn K (.ref f) = true
section
variable {X : Cx} {pins : List (Addr × Obj)} {σ : St} {H : Hp} {s : Shared} {a C dx : Addr} {fs : List (Str × V)} {f : Str} {v : V} {A : Around} {E : Value → Shared → Prop}
theorem getattr_ok {b : Bool} {Q : Value → Shared → Prop} (I : Inv X pins σ H s) (e : H a = some (.ins C dx fs)) (c : Cls X.K C) (n : NoAttr X.K C f) (l : fs.lookup f = some v)
    (h : ∀ u s', Inv X pins σ H s' → RelV v u → Q u s') : wpAny (model X.prog X.w) A (getAttr (.ref a) f b) Q E s := by
  obtain ⟨mA, O, r, _, _, _⟩ := ins_get I.hok e
  obtain ⟨u, hu, ru⟩ := RelO.some_of (v := v) (o := mA f) (by rw [← l]; exact r f)
  exact get_map I.kIn O (c.get f) c.hd n hu (handed_of ru) (h u _ (I.tok _) ru)
theorem getmeth_ok {m : Str} {g : Addr} {pl : Sem Bool} {Q : Value × List Value → Shared → Prop} (I : Inv X pins σ H s) (e : H a = some (.ins C dx fs)) (c : Cls X.K C) (k : Meth X.K C m g) (l : fs.lookup m = none)
    (h : Q (.ref g, [.ref a]) s) : wpAny (model X.prog X.w) A (getMethod (.ref a) m pl) Q E s := by
  obtain ⟨mA, O, r, _, _, _⟩ := ins_get I.hok e
  have hn : mA m = none := RelO.none_of (by rw [← l]; exact r m)
  exact get_meth I.kIn O (c.get m) k.at_ k.fn hn h
theorem setattr_ok {y : V} {u : Value} {Q : Unit → Shared → Prop} (I : Inv X pins σ H s) (e : H a = some (.ins C dx fs)) (c : Cls X.K C) (n : NoAttr X.K C f) (hl : fs.length < 1000) (ry : RelV y u)
    (h : ∀ s', Inv X pins σ (upd H a (.ins C dx (putF f y fs))) s' → Q () s') : wpAny (model X.prog X.w) A (setAttr (.ref a) f u) Q E s := by
  obtain ⟨mA, O, r, wi, _, ho⟩ := ins_get I.hok e
  have hz : (fs.map (·.1)).length ≤ sizeLine := by rw [List.length_map, sizeLine_eq]; omega
  refine set_map I.kIn O c.sa c.po n.taker c.hd wi hz fun h' O' sb => h _ ?_
  have hd : ∃ o, h'.get? dx = some o := let ⟨o, _, _, e', _⟩ := O'.ns; ⟨o, e'⟩
  refine I.write (x := a) (e := dx) (by rw [e]; exact True.intro) (.inr ho) (fun b q hb z => (sb.2 b hb).trans z) hd ?_
  refine ⟨by rw [upd_ne O.ne]; exact ho, ?_, O.ne, O'.obj, _, O'.ns, fun g => ?_, fun g hg => ?_⟩
  · have := length_putF f y fs; omega
  · show RelO ((putF f y fs).lookup g) (if g = f then some u else mA g)
    rw [lookup_putF]
    by_cases q : g = f
    · rw [if_pos q, if_pos q]; exact ry
    · rw [if_neg q, if_neg q]; exact r g
  · by_cases q : g = f
    · rw [q]; exact (keys_putF f y fs).1
    · refine (keys_putF f y fs).2 g (wi g fun z => hg ?_)
      show (if g = f then some u else mA g) = none
      rw [if_neg q]; exact z
theorem Inv.made (I : Inv X pins σ H s) : Inv X pins σ (upd (upd H s.heap.objs.size (.own (s.heap.objs.size + 1))) (s.heap.objs.size + 1) (.ins C s.heap.objs.size []))
    { s with heap := (s.heap.push PySem.W.emptyDict).push (PySem.W.instObj C s.heap.objs.size) } := by
  have e1 : (s.heap.push PySem.W.emptyDict).get? s.heap.objs.size = some PySem.W.emptyDict := Heap.get?_push_size s.heap rfl
  have e2 : ((s.heap.push PySem.W.emptyDict).push (PySem.W.instObj C s.heap.objs.size)).get? (s.heap.objs.size + 1) = some (PySem.W.instObj C s.heap.objs.size) := by
    have := Heap.get?_push_size (s.heap.push PySem.W.emptyDict) (o := PySem.W.instObj C s.heap.objs.size) rfl
    rwa [Heap.size_push] at this
  have e3 : (s.heap.push PySem.W.emptyDict).Ns s.heap.objs.size (fun _ => none) := ⟨PySem.W.emptyDict, #[], _, e1, rfl, (fun e he => absurd he (by simp)), fun _ => rfl⟩
  have I1 := I.laid (a := s.heap.objs.size) (o := .own (s.heap.objs.size + 1)) (h' := s.heap.push PySem.W.emptyDict) (t' := s.toks) (fun b u q => Heap.get?_push_of_some _ q) (Nat.le_refl _) ⟨_, e1⟩
  refine I1.laid (a := s.heap.objs.size + 1) (o := .ins C s.heap.objs.size []) (t' := s.toks) (fun b u q => Heap.get?_push_of_some _ q) (Nat.le_of_eq (Heap.size_push _ _)) ?_
  have ne : s.heap.objs.size ≠ s.heap.objs.size + 1 := Nat.ne_of_lt (Nat.lt_succ_self _)
  refine ⟨by rw [upd_ne ne, upd_same], Nat.zero_le _, ne, e2, fun _ => none, (Heap.Ns1.of_empty e3).at fun o q => Heap.get?_push_of_some _ q, fun _ => True.intro, fun y hy => absurd rfl hy⟩
theorem attr_of {prog : Program} {w : World} {env : Env} {e : Expr} {f : Str} {pos : Pos} {s : Shared} {Q : Value → Shared → Prop} (hb : attributeBase e f env (eval e env) = eval e env)
    (h : wpAny (model prog w) A (eval e env) (fun o s₁ => wpAny (model prog w) A (getAttr o f true) Q E s₁) E s) : wpAny (model prog w) A (eval (.Attribute e f pos) env) Q E s :=
  Attribute_any_ h (by rw [arm_eval_Attribute, hb])
end
def tFld (K : PySem.W.Frag) (ta : TE) (f : Str) : TE := fun σ H Q => ta σ H fun x H1 => ∃ a C dx fs v, x = .ref a ∧ H1 a = some (.ins C dx fs) ∧ Cls K C ∧ NoAttr K C f ∧ fs.lookup f = some v ∧ Q v H1
def sFld (K : PySem.W.Frag) (ta tv : TE) (f : Str) : TS := fun D σ H => tv σ H fun y H1 => ta σ H1 fun x H2 => ∃ a C dx fs, x = .ref a ∧ H2 a = some (.ins C dx fs) ∧ Cls K C ∧ NoAttr K C f ∧ fs.length < 1000 ∧
  D.nx σ (upd H2 a (.ins C dx (putF f y fs)))
section
variable {X : Cx} {o e value : Expr} {f : Str} {pos pos' tpos : Pos} {ta tv : TE}
theorem pe_fld (he : PE X e ta) (hb : attributeBase e f X.env (eval e X.env) = eval e X.env) : PE X (.Attribute e f pos) (tFld X.K ta f) := by
  intro pins s σ H Q I h
  refine attr_of hb (thn (he pins s σ H _ I h) fun u s1 ⟨x, H1, I1, rx, a, C, dx, fs, v, ex, ea, c, n, l, q⟩ => ?_)
  subst ex
  obtain rfl : u = Value.ref a := rx
  exact getattr_ok I1 ea c n l fun u' s2 I2 ru => ⟨v, H1, I2, ru, q⟩
theorem ps_fld (ha : PE X o ta) (hv : PE X value tv) (hs : swapsWith value (some (.Attribute o f pos')) pos.line X.env = pure false) : PS X (.Assign [.Attribute o f pos'] value pos) (sFld X.K ta tv f) := by
  intro pins s σ H D I h
  refine plainObj_wpAny_Assign_Attribute (thn (hv pins s σ H _ I h) fun u s1 ⟨y, H1, I1, ry, q⟩ => thn (ha pins s1 σ H1 _ I1 q) fun ov s2 ⟨x, H2, I2, rx, a, C, dx, fs, ex, ea, c, n, l, q2⟩ => ?_) hs
  subst ex
  obtain rfl : ov = Value.ref a := rx
  exact setattr_ok I2 ea c n l ry fun s3 I3 => ⟨σ, _, I3, q2⟩
end
section
variable {X : Cx} {pins : List (Addr × Obj)} {σ : St} {H : Hp} {s : Shared} {A : Around} {E : Value → Shared → Prop} {Q : Value → Shared → Prop} {c : Value} {b : Bool}
inductive TyOf (K : PySem.W.Frag) (H : Hp) : V → Value → Prop where
  | non : TyOf K H .non (.type "NoneType")
  | bl (x : Bool) : TyOf K H (.bl x) (.type "bool")
  | int (i : Int) : TyOf K H (.int i) (.type "int")
  | str (x : Str) : TyOf K H (.str x) (.type "str")
  | flt (x : UInt64) : TyOf K H (.flt x) (.type "float")
  | lst {a : Addr} {xs : List V} (e : H a = some (.lst xs)) : TyOf K H (.ref a) (.type "list")
  | frz {a : Addr} {o : Obj} {xs : List V} (e : H a = some (.frz o (.lst xs))) : TyOf K H (.ref a) (.type "list")
  | tup {a : Addr} {xs : List V} (e : H a = some (.tup xs)) : TyOf K H (.ref a) (.type "tuple")
  | dK {a : Addr} {kvs : List (Key × V)} (e : H a = some (.dK kvs)) : TyOf K H (.ref a) (.type "dict")
  | dT {a : Addr} {kvs : List (List Key × V)} (e : H a = some (.dT kvs)) : TyOf K H (.ref a) (.type "dict")
  | ins {a C dx : Addr} {fs : List (Str × V)} (e : H a = some (.ins C dx fs)) (cl : Cls K C) (ha : PySem.W.findIn K (.ref C) "__class__" = some (some (.builtin "object.__class__")))
      (hn : PySem.W.specialIn K (.builtin "object.__class__") "__get__" = some (some (.builtin "getset_descriptor.__get__"))) (htk : PySem.W.takesIn K (.builtin "object.__class__") = some true)
      (hm : PySem.W.mroIn K C (.type "object") = some true) : TyOf K H (.ref a) (.ref C)
theorem isinst_ok {x : V} {u t : Value} (I : Inv X pins σ H s) (rx : RelV x u) (ty : TyOf X.K H x t) (e : PySem.W.kitOne X.K t c = some b) (h : ∀ tk, Q (.bool b) { s with toks := tk }) :
    wpAny (model X.prog X.w) A (call (.builtin "isinstance") [u, c]) Q E s := by
  cases ty with
  | non => cases (show u = Value.none from rx); exact PySem.W.kia_one PySem.W.kitx_none I.kIn True.intro e (fun z => nomatch z) h
  | bl y => cases (show u = Value.bool y from rx); exact PySem.W.kia_one PySem.W.kitx_bool I.kIn True.intro e (fun z => nomatch z) h
  | int i => obtain ⟨t, q⟩ := (show ∃ t, u = Value.int i t from rx); cases q; exact PySem.W.kia_one PySem.W.kitx_int I.kIn True.intro e (fun z => nomatch z) h
  | str y => obtain ⟨t, q⟩ := (show ∃ t, u = Value.str y t from rx); cases q; exact PySem.W.kia_one PySem.W.kitx_str I.kIn True.intro e (fun z => nomatch z) h
  | flt y => obtain ⟨t, q⟩ := (show ∃ t, u = Value.float y t from rx); cases q; exact PySem.W.kia_one PySem.W.kitx_float I.kIn True.intro e (fun z => nomatch z) h
  | @lst a xs ea =>
    cases (show u = Value.ref a from rx)
    obtain ⟨_, _, n, _, h1⟩ := (show ObjOk X.prog X.w H s.heap a (.lst xs) from I.hok a _ ea)
    exact PySem.W.kia_one PySem.W.kitx_list I.kIn ⟨_, h1, rfl⟩ e (fun z => nomatch z) h
  | @frz a ob xs ea =>
    cases (show u = Value.ref a from rx)
    obtain ⟨_, _, _, n, _, h1⟩ := (show ObjOk X.prog X.w H s.heap a (.frz ob (.lst xs)) from I.hok a _ ea)
    exact PySem.W.kia_one PySem.W.kitx_list I.kIn ⟨_, h1, rfl⟩ e (fun z => nomatch z) h
  | @tup a xs ea =>
    cases (show u = Value.ref a from rx)
    obtain ⟨_, _, _, p⟩ := (show ObjOk X.prog X.w H s.heap a (.tup xs) from I.hok a _ ea)
    obtain ⟨o, h1, h2, _⟩ := p
    exact PySem.W.kia_one PySem.W.kitx_tuple I.kIn ⟨o, h1, h2⟩ e (fun z => nomatch z) h
  | @dK a kvs ea =>
    cases (show u = Value.ref a from rx)
    obtain ⟨_, _, vs, _, p⟩ := (show ObjOk X.prog X.w H s.heap a (.dK kvs) from I.hok a _ ea)
    obtain ⟨o, es, ep, h1, h2, _⟩ := p
    exact PySem.W.kia_one PySem.W.kitx_dict I.kIn ⟨o, h1, h2.1⟩ e (fun z => nomatch z) h
  | @dT a kvs ea =>
    cases (show u = Value.ref a from rx)
    obtain ⟨_, _, xs, _, o, es, ep, h1, h2, _⟩ := (show ObjOk X.prog X.w H s.heap a (.dT kvs) from I.hok a _ ea)
    exact PySem.W.kia_one PySem.W.kitx_dict I.kIn ⟨o, h1, h2.1⟩ e (fun z => nomatch z) h
  | @ins a C dx fs ea cl ha hn htk hm =>
    cases (show u = Value.ref a from rx)
    obtain ⟨mA, O, _⟩ := ins_get I.hok ea
    obtain ⟨od, J, _⟩ := O.look
    exact PySem.W.kia_one (PySem.W.kitx_own (cl.get _) cl.hd ha hn htk hm) I.kIn J e (fun z => nomatch z) h
end
end L2
namespace L2
open PySem PySem.Spec PyProof.Rows
structure Room (k : Nat) (A : Around) : Prop where
  hd : A.handled = none
  dp : A.depth + 3 * k + 5 < recursionLimit
  un : A.units + 16 * k + 200 < cLine
  gd : A.guards = some []
theorem Room.mono {j k : Nat} {A : Around} (r : Room k A) (h : j ≤ k) : Room j A := ⟨r.hd, by have := r.dp; omega, by have := r.un; omega, r.gd⟩
theorem Room.deeper {k : Nat} {A : Around} (r : Room (k + 1) A) (env : Env) : Room k (A.deeper env) :=
  ⟨r.hd, by have := r.dp; show A.depth + 1 + 3 * k + 5 < _; omega, by have := r.un; show A.units + 3 + 16 * k + 200 < _; omega, r.gd⟩
theorem Room.in1 {k : Nat} {A : Around} (r : Room (k + 1) A) : Room k A.in1 :=
  ⟨r.hd, by have := r.dp; show A.depth + 3 * k + 5 < _; omega, by have := r.un; show A.units + 1 + 16 * k + 200 < _; omega, r.gd⟩
theorem make_depth {A : Around} {C : Addr} {us : List Value} {kw : List (Str × Value)} : (A.under (.builtin "type.__call__" ⟨.ref C :: us, kw⟩)).depth = A.depth + 1 := by
  first | rfl | simp [Around.under, Code.weight, Code.isCreation, Code.isGuard, Code.isCaller, Code.frames, Code.isFrame, guardIds]
theorem make_units {A : Around} {C : Addr} {us : List Value} {kw : List (Str × Value)} : (A.under (.builtin "type.__call__" ⟨.ref C :: us, kw⟩)).units = A.units + 1 := by
  first | rfl | simp [Around.under, Code.cUnits, Code.frames, Code.isFrame]
theorem Room.make {k : Nat} {A : Around} (r : Room (k + 1) A) (C : Addr) (us : List Value) (kw : List (Str × Value)) : Room k (A.under (.builtin "type.__call__" ⟨.ref C :: us, kw⟩)) :=
  ⟨r.hd, by have := r.dp; rw [make_depth]; omega, by have := r.un; rw [make_units]; omega, by have := r.gd; first | exact this | simpa [Around.under, Code.guards, Code.isGuard, pushGuards, guardIds] using this⟩
theorem Room.depth {k : Nat} {A : Around} (r : Room k A) : A.depth < recursionLimit := by have := r.dp; omega
theorem Room.units {k : Nat} {A : Around} (r : Room k A) : A.units + 64 < cLine := by have := r.un; omega
def tNil : TA := fun _ H Q => Q [] H
def tCons (ta : TE) (tr : TA) : TA := fun σ H Q => ta σ H fun x H1 => tr σ H1 fun xs H2 => Q (x :: xs) H2
section
variable {X : Cx} {e : Expr} {es : List Expr} {te : TE} {t : TA} {pos : Pos}
theorem pa_nil : PA X [] tNil := fun _ _ _ _ H Q I h => Calls.spliced_nil ⟨[], H, I, .nil, h⟩
theorem pa_cons (ha : PE X e te) (hr : PA X es t) (hs : starEach (e :: es) X.env = (false, eval e X.env) :: starEach es X.env := by rfl) : PA X (e :: es) (tCons te t) := by
  intro pos pins s σ H Q I h
  rw [hs]
  show wpAny _ _ (spliced ((false, eval e X.env) :: backTo pos (starEach es X.env))) _ _ s
  refine Calls.spliced_cons (thn (ha pins s σ H _ I h) fun u s1 ⟨x, H1, I1, r1, q1⟩ => ?_)
  exact thn (hr pos pins s1 σ H1 _ I1 q1) fun us s2 ⟨xs, H2, I2, r2, q2⟩ => ⟨x :: xs, H2, I2, .cons r1 r2, q2⟩
def tTup (t : TA) : TE := fun σ H Q => t σ H fun xs H1 => xs.length ≤ sizeLine ∧ ∀ p, H1 p = none → Q (.ref p) (upd H1 p (.tup xs))
def tLst (t : TA) : TE := fun σ H Q => t σ H fun xs H1 => xs.length ≤ sizeLine ∧ ∀ p, H1 p = none → Q (.ref p) (upd H1 p (.lst xs))
end
abbrev Sp := List V → Hp → VK → XK → Prop
abbrev CXT := List Env → Hp → Shared → XK → Value → Shared → Prop
structure Env0 (P : Program) (w : World) (K : PySem.W.Frag) (mg : Str → Option Value) (base : Heap) (A : Around) (outer : List Env) (s : Shared) (H : Hp) : Prop where
  frames : A.frames = some outer
  mod : Mod K mg base
  bs : ∀ b o, base.get? b = some o → s.heap.get? b = some o ∧ H b = none
  bsz : base.objs.size ≤ s.heap.objs.size
  funs : s.heap.FunFrames base outer
  frf : ∀ b ∈ frs outer, H b = none
  hok : HOk P w H s.heap
  bare : AllBare s.gens
def CE (outer : List Env) (P : Program) (w : World) (H : Hp) (s : Shared) (Q : VK) (u : Value) (s' : Shared) : Prop :=
  ∃ v H', s'.os = s.os ∧ AllBare s'.gens ∧ Un (frs outer) [] H H' s.heap s'.heap ∧ HOk P w H' s'.heap ∧ RelV v u ∧ Q v H'
def CR (CX : CXT) (outer : List Env) (P : Program) (w : World) (H : Hp) (s : Shared) (Q : VK) (E : XK) (r : Result) (s' : Shared) : Prop :=
  match r with
  | .ok (.ret u) => CE outer P w H s Q u s'
  | .ok _ => False
  | .error e => CX outer H s E e s'
structure FnOk (P : Program) (w : World) (K : PySem.W.Frag) (mg : Str → Option Value) (base : Heap) (CX : CXT) (k : Nat) (f : Addr) (fd : FuncData) (ps : List Str) (sp : Sp) : Prop where
  len : ∀ vs H Q E, sp vs H Q E → vs.length = ps.length
  run : ∀ (A : Around) (outer : List Env) (s : Shared) (H : Hp) (args : Args) (us : List Value) (vs : List V) (Q : VK) (E : XK), Room k A → Env0 P w K mg base A outer s H → BindsTo s fd args (ps.zip us) → Vals vs us → sp vs H Q E →
    codeAny (model P w) A (.call (.ref f) args) (CR CX outer P w H s Q E) s
theorem FnOk.mono {P : Program} {w : World} {K : PySem.W.Frag} {mg : Str → Option Value} {base : Heap} {CX : CXT} {j k : Nat} {f : Addr} {fd : FuncData} {ps : List Str} {sp : Sp} (F : FnOk P w K mg base CX j f fd ps sp) (h : j ≤ k) :
    FnOk P w K mg base CX k f fd ps sp := ⟨F.len, fun A outer s H args us vs Q E hr => F.run A outer s H args us vs Q E (hr.mono h)⟩
theorem FnOk.imp {P : Program} {w : World} {K : PySem.W.Frag} {mg : Str → Option Value} {base : Heap} {CX : CXT} {k : Nat} {f : Addr} {fd : FuncData} {ps : List Str} {sp sp' : Sp} (F : FnOk P w K mg base CX k f fd ps sp)
    (h : ∀ vs H Q E, sp' vs H Q E → sp vs H Q E) : FnOk P w K mg base CX k f fd ps sp' :=
  ⟨fun vs H Q E q => F.len vs H Q E (h _ _ _ _ q), fun A outer s H args us vs Q E hr he hb hv hs => F.run A outer s H args us vs Q E hr he hb hv (h _ _ _ _ hs)⟩
theorem Env0.make {P : Program} {w : World} {K : PySem.W.Frag} {mg : Str → Option Value} {base : Heap} {A : Around} {outer : List Env} {s : Shared} {H : Hp} (e : Env0 P w K mg base A outer s H) (C : Addr) (us : List Value) (kw : List (Str × Value)) :
    Env0 P w K mg base (A.under (.builtin "type.__call__" ⟨.ref C :: us, kw⟩)) outer s H := ⟨by first | exact e.frames | (simpa [Around.under, Code.envs, Code.isFrame, pushEnvs] using e.frames), e.mod, e.bs, e.bsz, e.funs, e.frf, e.hok, e.bare⟩
theorem Env0.in1 {P : Program} {w : World} {K : PySem.W.Frag} {mg : Str → Option Value} {base : Heap} {A : Around} {outer : List Env} {s : Shared} {H : Hp} (e : Env0 P w K mg base A outer s H) :
    Env0 P w K mg base A.in1 outer s H := ⟨e.frames, e.mod, e.bs, e.bsz, e.funs, e.frf, e.hok, e.bare⟩
section
variable {X : Cx} {pins : List (Addr × Obj)} {σ : St} {H : Hp} {s s' : Shared}
theorem Inv.env0 (I : Inv X pins σ H s) : Env0 X.prog X.w X.K X.mg X.base X.A X.stack s H :=
  ⟨I.ok.frames, I.ok.mod, I.bs, Nat.le_trans I.ok.bsz I.sz, I.stack, I.stkFree, I.hok, I.bare⟩
theorem Inv.after {Q : VK} {u : Value} (I : Inv X pins σ H s) (h : CE X.stack X.prog X.w H s Q u s') : EP X pins σ Q u s' := by
  obtain ⟨v, H', os, bare, un, hok, r, q⟩ := h
  obtain ⟨hh, g, d, t, os'⟩ := s'
  obtain rfl : os' = s.os := os
  exact ⟨v, H', I.call (h' := hh) (g' := g) (d' := d) (t' := t) (ch := []) un hok bare (fun b z => absurd z (by simp)), r, q⟩
end
def tCall (sp : Sp) (dvs : List V) (E : XK) (t : TA) : TE := fun σ H Q => t σ H fun vs H1 => sp (vs ++ dvs) H1 Q E
def tMeth (C : Addr) (m : Str) (sp : Sp) (dvs : List V) (E : XK) (ta : TE) (t : TA) : TE := fun σ H Q => ta σ H fun x H1 => ∃ a dx fs, x = .ref a ∧ H1 a = some (.ins C dx fs) ∧ fs.lookup m = none ∧
  t σ H1 fun vs H2 => sp (x :: (vs ++ dvs)) H2 Q E
def Binds (K : PySem.W.Frag) (fd : FuncData) (ps : List Str) (ds : List Value) : Prop :=
  ∀ (s : Shared) (us : List Value), K.In s.heap → (us ++ ds).length = ps.length → BindsTo s fd ⟨us, []⟩ (ps.zip (us ++ ds))
theorem Binds.all {K : PySem.W.Frag} {fd : FuncData} {ps : List Str} (h : ∀ us : List Value, us.length = ps.length → bindArgs fd ⟨us, []⟩ = pure (ps.zip us)) : Binds K fd ps [] := fun s us _ hl => by
  rw [List.append_nil] at hl ⊢
  exact .of_eq (h us hl)
def Passes (CX : CXT) (X : Cx) (E : XK) : Prop := ∀ (pins : List (Addr × Obj)) (σ : St) (H : Hp) (s : Shared) (e : Value) (s' : Shared), Inv X pins σ H s → CX X.stack H s E e s' → X.xe e s'
section
variable {X : Cx} {CX : CXT} {k : Nat} {f C : Addr} {fd : FuncData} {ps : List Str} {sp : Sp} {dvs : List V} {ds : List Value} {E : XK} {x m : Str} {p pos apos : Pos} {e o : Expr} {es : List Expr} {ta : TE} {t : TA}
theorem run_fn {pins : List (Addr × Obj)} {σ : St} {H : Hp} {s : Shared} {Q : VK} {us : List Value} {vs : List V} (F : FnOk X.prog X.w X.K X.mg X.base CX k f fd ps sp) (hr : Room k X.A) (hb : Binds X.K fd ps ds) (hd : Vals dvs ds) (hx : Passes CX X E)
    (I : Inv X pins σ H s) (r : Vals vs us) (h : sp (vs ++ dvs) H Q E) : wpAny (model X.prog X.w) X.A (call (.ref f) us) (EP X pins σ Q) X.xe s := by
  have r2 : Vals (vs ++ dvs) (us ++ ds) := r.append hd
  have hl : (us ++ ds).length = ps.length := by rw [← r2.length]; exact F.len _ _ _ _ h
  refine wpAny_call (codeAny_mono (F.run X.A X.stack s H ⟨us, []⟩ (us ++ ds) (vs ++ dvs) Q E hr I.env0 (hb s us I.kIn hl) r2 h) fun r s' hq => ?_)
  cases r with
  | error e => exact hx pins σ H s e s' I hq
  | ok fl =>
    cases fl with
    | ret u => exact I.after hq
    | next => exact False.elim hq
    | brk => exact False.elim hq
    | cont => exact False.elim hq
theorem pe_call (F : FnOk X.prog X.w X.K X.mg X.base CX k f fd ps sp) (hr : Room k X.A) (hg : Gl X x) (hm : X.mg x = some (.ref f)) (hk : PySem.W.keepIn X.K (.ref f) = true) (hb : Binds X.K fd ps ds) (hd : Vals dvs ds) (hx : Passes CX X E)
    (ha : PA X (e :: es) t) (hdb : (x == ("__debug__" : Str)) = false := by decide) (he : starEach (e :: es) X.env = (false, eval e X.env) :: starEach es X.env := by rfl) (hpl : (backTo pos (starEach es X.env)).any (·.1) = false := by rfl) :
    PE X (.Call (.Name x p) (e :: es) [] pos) (tCall sp dvs E t) := by
  intro pins s σ H Q I h
  refine wpAny_Call_Name_kw (ld_glob I hg hm ?_ hdb)
  refine PySem.W.callWith_K (h₀ := X.base) I.ok.mod.kin hk (thn (ha pos pins s σ H _ I h) fun us s1 ⟨vs, H1, I1, r, q⟩ => ⟨I1.kIn, ?_⟩) he hpl
  exact run_fn F hr hb hd hx I1 r q
theorem pe_meth0 {pl : Sem Bool} (he : PE X o ta) (c : Cls X.K C) (hm : Meth X.K C m f) (F : FnOk X.prog X.w X.K X.mg X.base CX k f fd ps sp) (hr : Room k X.A) (hb : Binds X.K fd ps ds) (hd : Vals dvs ds) (hx : Passes CX X E)
    (ht : eval (.Call (.Attribute o m apos) [] [] pos) X.env = (do
      let ov ← eval o X.env
      standAt apos.atName
      let (f, first) ← holding [ov] (getMethod ov m pl)
      callWith pos f first (backTo pos (starEach [] X.env)) (backToKw pos (keywordEach [] X.env))) := by rfl) :
    PE X (.Call (.Attribute o m apos) [] [] pos) (tMeth C m sp dvs E ta tNil) := by
  intro pins s σ H Q I h
  refine PySem.W.methodCall_KW (pl := pl) (thn (he pins s σ H _ I h) fun u s1 ⟨x, H1, I1, rx, a, dx, fs, ex, ea, l, q⟩ => ?_) ht
  subst ex
  obtain rfl : u = Value.ref a := rx
  refine getmeth_ok I1 ea c hm l ?_
  exact PySem.W.callWith_K0 (first := [.ref a]) I1.kIn hm.kp (run_fn (us := [.ref a]) (vs := [.ref a]) F hr hb hd hx I1 (.cons rfl .nil) q)
structure Mk (K : PySem.W.Frag) (C f : Addr) : Prop where
  makes : PySem.W.makesIn K C = true
  init : PySem.W.findIn K (.ref C) "__init__" = some (some (.ref f))
  fn : PySem.W.isFn K (.ref f) = true
  kp : PySem.W.keepIn K (.ref C) = true
end
def PK (X : Cx) (kws : List Keyword) (t : TA) : Prop :=
  ∀ (pos : Pos) (pins : List (Addr × Obj)) (s : Shared) (σ : St) (H : Hp) (Q : List V → Hp → Prop), Inv X pins σ H s → t σ H Q → wpAny (model X.prog X.w) X.A (evalAll ((backToKw pos (keywordEach kws X.env)).map (·.2))) (AP X pins σ Q) X.xe s
section
variable {X : Cx} {CX : CXT} {k : Nat} {f C : Addr} {fd : FuncData} {ps ks : List Str} {sp : Sp} {E : XK} {x m : Str} {p pos apos kpos : Pos} {e o : Expr} {es : List Expr} {kws : List Keyword} {te ta : TE} {t tk : TA} {nm : Option Str}
theorem pk_nil : PK X [] tNil := fun _ _ _ _ H Q I h => wpAny_evalAll_nil ⟨[], H, I, .nil, h⟩
theorem pk_cons (ha : PE X e te) (hr : PK X kws t) : PK X (⟨nm, e, kpos⟩ :: kws) (tCons te t) := by
  intro pos pins s σ H Q I h
  show wpAny _ _ (evalAll ((do let v ← eval e X.env; standAt pos; pure v) :: (backToKw pos (keywordEach kws X.env)).map (·.2))) _ _ s
  refine wpAny_evalAll_cons (wpAny_bind (thn (ha pins s σ H _ I h) fun u s1 ⟨x, H1, I1, r1, q1⟩ => wpAny_bind (wpAny_standAt (wpAny_pure ?_))))
  exact thn (hr pos pins s1 σ H1 _ I1 q1) fun us s2 ⟨xs, H2, I2, r2, q2⟩ => ⟨x :: xs, H2, I2, .cons r1 r2, q2⟩
structure KBinds (K : PySem.W.Frag) (fd : FuncData) (ps ks : List Str) (g : List Value → List Value → List Value) (gV : List V → List V → List V) : Prop where
  to : ∀ (s : Shared) (us ws : List Value), K.In s.heap → (g us ws).length = ps.length → BindsTo s fd ⟨us, ks.zip ws⟩ (ps.zip (g us ws))
  rel : ∀ {vs : List V} {us : List Value} {zs : List V} {ws : List Value}, Vals vs us → Vals zs ws → Vals (gV vs zs) (g us ws)
def tCallK (sp : Sp) (gV : List V → List V → List V) (E : XK) (t tk : TA) : TE := fun σ H Q => t σ H fun vs H1 => tk σ H1 fun zs H2 => sp (gV vs zs) H2 Q E
variable {g : List Value → List Value → List Value} {gV : List V → List V → List V}
theorem run_fnk {pins : List (Addr × Obj)} {σ : St} {H : Hp} {s : Shared} {Q : VK} {us ws : List Value} {vs zs : List V} (F : FnOk X.prog X.w X.K X.mg X.base CX k f fd ps sp) (hr : Room k X.A) (hb : KBinds X.K fd ps ks g gV) (hx : Passes CX X E)
    (I : Inv X pins σ H s) (r : Vals vs us) (rz : Vals zs ws) (h : sp (gV vs zs) H Q E) : wpAny (model X.prog X.w) X.A (call (.ref f) us (ks.zip ws)) (EP X pins σ Q) X.xe s := by
  have r2 := hb.rel r rz
  have hl : (g us ws).length = ps.length := by rw [← r2.length]; exact F.len _ _ _ _ h
  refine wpAny_call (codeAny_mono (F.run X.A X.stack s H ⟨us, ks.zip ws⟩ (g us ws) (gV vs zs) Q E hr I.env0 (hb.to s us ws I.kIn hl) r2 h) fun r s' hq => ?_)
  cases r with
  | error e => exact hx pins σ H s e s' I hq
  | ok fl =>
    cases fl with
    | ret u => exact I.after hq
    | next => exact False.elim hq
    | brk => exact False.elim hq
    | cont => exact False.elim hq
theorem pe_callK (F : FnOk X.prog X.w X.K X.mg X.base CX k f fd ps sp) (hr : Room k X.A) (hg : Gl X x) (hm : X.mg x = some (.ref f)) (hk : PySem.W.keepIn X.K (.ref f) = true) (hb : KBinds X.K fd ps ks g gV) (hx : Passes CX X E)
    (ha : PA X (e :: es) t) (hkw : PK X kws tk) (hall : (backToKw pos (keywordEach kws X.env)).all (·.1.isSome) = true := by rfl) (hks : (backToKw pos (keywordEach kws X.env)).filterMap (·.1) = ks := by rfl)
    (hdb : (x == ("__debug__" : Str)) = false := by decide) (he : starEach (e :: es) X.env = (false, eval e X.env) :: starEach es X.env := by rfl)
    (hpl : ((backTo pos (starEach (e :: es) X.env)).any (·.1) || (backToKw pos (keywordEach kws X.env)).any (·.1.isNone)) = false := by rfl) :
    PE X (.Call (.Name x p) (e :: es) kws pos) (tCallK sp gV E t tk) := by
  intro pins s σ H Q I h
  refine wpAny_Call_Name_kw (ld_glob I hg hm ?_ hdb)
  refine PySem.W.callWith_KW (h₀ := X.base) I.ok.mod.kin hk hall (thn (ha pos pins s σ H _ I h) fun us s1 ⟨vs, H1, I1, r, q⟩ => ?_) hpl he
  refine thn (hkw pos pins s1 σ H1 _ I1 q) fun ws s2 ⟨zs, H2, I2, rz, q2⟩ => ⟨I2.kIn, ?_⟩
  rw [hks]
  exact run_fnk F hr hb hx I2 r rz q2
end
structure FnScope (N P : List Str) (sc : Scope) : Prop where
  kind : sc.kind = .function
  co : sc.isCoroutine = false
  gen : sc.isGenerator = false
  nd : N.Nodup
  pre : N.take P.length = P
  par : ∀ x ∈ P, sc.names.lookup x = some .local ∨ sc.names.lookup x = some .cell
  nofree : ∀ y ∈ sc.names, y.2 ≠ .free
theorem bindL_out {kindOf : Str → Option NameKind} {x : Str} : ∀ {binds : List (Str × Value)} {m : Str → Option Value}, (∀ v, (x, v) ∉ binds) → bindL kindOf binds m x = m x
  | [], _, _ => rfl
  | (n, v) :: r, m, h => by
    unfold bindL
    rw [bindL_out fun w hw => h w (List.mem_cons_of_mem _ hw)]
    split
    · have : x ≠ n := by rintro rfl; exact h v List.mem_cons_self
      simp [this]
    · rfl
theorem bindC_out {kindOf : Str → Option NameKind} {x : Str} : ∀ {binds : List (Str × Value)} {m : Str → Option Value}, (∀ v, (x, v) ∉ binds) → bindC kindOf binds m x = m x
  | [], _, _ => rfl
  | (n, v) :: r, m, h => by
    unfold bindC
    rw [bindC_out fun w hw => h w (List.mem_cons_of_mem _ hw)]
    split
    · rfl
    · have : x ≠ n := by rintro rfl; exact h v List.mem_cons_self
      simp [this]
theorem bindL_get {kindOf : Str → Option NameKind} {x : Str} {v : Value} : ∀ {P : List Str} {vs : List Value} {i : Nat} {m : Str → Option Value}, P.Nodup → P[i]? = some x → vs[i]? = some v → kindOf x = some .local →
    bindL kindOf (P.zip vs) m x = some v
  | [], _, _, _, _, h, _, _ => by simp at h
  | _ :: _, [], _, _, _, _, h, _ => by simp at h
  | p :: P, w :: vs, 0, m, nd, h1, h2, hk => by
    simp at h1 h2; subst h1; subst h2
    show bindL kindOf ((p, w) :: P.zip vs) m p = _
    unfold bindL
    rw [bindL_out fun v hv => (List.nodup_cons.mp nd).1 (List.of_mem_zip hv).1, if_pos hk]
    simp
  | p :: P, w :: vs, i + 1, m, nd, h1, h2, hk => by
    show bindL kindOf ((p, w) :: P.zip vs) m x = _
    unfold bindL
    exact bindL_get (i := i) (List.nodup_cons.mp nd).2 (by simpa using h1) (by simpa using h2) hk
theorem bindC_get {kindOf : Str → Option NameKind} {x : Str} {v : Value} : ∀ {P : List Str} {vs : List Value} {i : Nat} {m : Str → Option Value}, P.Nodup → P[i]? = some x → vs[i]? = some v → kindOf x ≠ some .local →
    bindC kindOf (P.zip vs) m x = some v
  | [], _, _, _, _, h, _, _ => by simp at h
  | _ :: _, [], _, _, _, _, h, _ => by simp at h
  | p :: P, w :: vs, 0, m, nd, h1, h2, hk => by
    simp at h1 h2; subst h1; subst h2
    show bindC kindOf ((p, w) :: P.zip vs) m p = _
    unfold bindC
    rw [bindC_out fun v hv => (List.nodup_cons.mp nd).1 (List.of_mem_zip hv).1, if_neg hk]
    simp
  | p :: P, w :: vs, i + 1, m, nd, h1, h2, hk => by
    show bindC kindOf ((p, w) :: P.zip vs) m x = _
    unfold bindC
    exact bindC_get (i := i) (List.nodup_cons.mp nd).2 (by simpa using h1) (by simpa using h2) hk
def start (N : List Str) (vs : List V) : St := vs.map some ++ List.replicate (N.length - vs.length) none
def cxOf (CX : CXT) (P : Program) (w : World) (K : PySem.W.Frag) (mg : Str → Option Value) (base : Heap) (N : List Str) (qual : Str) (scope : Scope) (f : Addr) (cd : Value) (A : Around) (outer : List Env) (s : Shared) (H : Hp) (E : XK) : Cx where
  prog := P
  w := w
  K := K
  mg := mg
  base := base
  A := A.deeper (envOfC qual scope s.heap.objs.size f cd)
  N := N
  s₀ := s
  H₀ := H
  env := envOfC qual scope s.heap.objs.size f cd
  outer := outer
  stack := envOfC qual scope s.heap.objs.size f cd :: outer
  ex := []
  calm := true
  fn := fun _ => true
  pn := []
  xe := fun e s' => wpAny (model P w) (A.deeper (envOfC qual scope s.heap.objs.size f cd)) (leaving (envOfC qual scope s.heap.objs.size f cd) e) (fun _ s'' => CX outer H s E e s'') (fun e' s'' => CX outer H s E e' s'') s'
theorem cell_has {sc : Scope} {n : Nat} {x : Str} (h : sc.names.lookup x = some .cell) : ∃ c, (cellsFrom n sc.names []).lookup x = some c := by
  have q := PySem.W.cellsFrom_some sc.names n [] (.inl h)
  exact Option.isSome_iff_exists.mp q
theorem inv_start {CX : CXT} {P : Program} {w : World} {K : PySem.W.Frag} {mg : Str → Option Value} {base : Heap} {N ps : List Str} {qual : Str} {scope : Scope} {f : Addr} {cd : Value} {A : Around} {outer : List Env} {s s1 : Shared} {H : Hp} {E : XK} {us : List Value} {vs : List V}
    (S : FnScope N ps scope) (hd : A.handled = none) (e0 : Env0 P w K mg base A outer s H) (hl : vs.length = ps.length) (r : Vals vs us)
    (x : InCallC s s.heap.objs.size (bindL (envOfC qual scope s.heap.objs.size f cd).kindOf (ps.zip us) fun _ => none) (cellsFrom (s.heap.objs.size + 1) scope.names []) (bindC (envOfC qual scope s.heap.objs.size f cd).kindOf (ps.zip us) fun _ => none) s1) :
    Inv (cxOf CX P w K mg base N qual scope f cd A outer s H E) [] (start N vs) H s1 := by
  have hpl : ps.length ≤ N.length := by have := congrArg List.length S.pre; rw [List.length_take] at this; omega
  obtain ⟨h1, tk, rfl, hk⟩ := x.done
  have noA : ∀ b : Addr, b ∉ (cxOf CX P w K mg base N qual scope f cd A outer s H E).ex := fun b z => absurd (show b ∈ ([] : List Addr) from z) (by simp)
  refine ⟨⟨e0.mod, S.kind, rfl, rfl, Nat.le_refl _, fun y z c h1 h2 => ?_, fun y hy => ?_, fun y c _ h => ?_, fun _ => hd, Around.frames_deeper e0.frames, .inr ⟨rfl, rfl⟩, fun b z => absurd z (noA b), e0.bs, e0.bsz, fun b _ _ => noA b, fun b z => absurd z (noA b), e0.funs, e0.frf⟩,
    rfl, e0.bare, Un.kept hk, ⟨_, x.toInCall.ns, fun i y v h1 h2 h3 => ?_⟩, fun y c h => ⟨_, x.cell y c h⟩, e0.hok.fresh (Nat.le_refl _), fun y c h => ?_, fun p hp => absurd (show p ∈ ([] : List (Addr × Obj)) from hp) (by simp), e0.hok.kept hk, ?_⟩
  · exact name_of_addr x.apart (PySem.mem_of_lookup h1) (PySem.mem_of_lookup h2)
  · have hy : scope.names.lookup y = some .cell ∨ scope.names.lookup y = some .free := hy
    rcases hy with hy | hy
    · exact cell_has hy
    · exact absurd rfl (S.nofree _ (PySem.mem_of_lookup hy))
  · exact Nat.le_of_lt (x.above y c (PySem.mem_of_lookup h))
  · have hi : i < vs.length := by
      unfold start at h2
      by_cases hi : i < vs.length
      · exact hi
      · rw [List.getElem?_append_right (by simpa using hi)] at h2
        rw [List.getElem?_replicate] at h2
        split at h2 <;> cases h2
    have ha : vs[i]? = some v := by
      unfold start at h2
      rw [List.getElem?_append_left (by simpa using hi), List.getElem?_map] at h2
      cases e : vs[i]? with
      | none => rw [e] at h2; cases h2
      | some a => rw [e] at h2; cases h2; rfl
    obtain ⟨u, hu, rv⟩ := r.get ha
    have hp : ps[i]? = some y := by
      rw [← S.pre, List.getElem?_take_of_lt (by omega)]; exact h1
    have ndP : ps.Nodup := by rw [← S.pre]; exact S.nd.sublist (List.take_sublist _ _)
    refine ⟨u, rv, ?_⟩
    rcases S.par y (List.mem_of_getElem? hp) with k | k
    · exact .inl ⟨k, bindL_get ndP hp hu k⟩
    · obtain ⟨c, e⟩ := cell_has (n := s.heap.objs.size + 1) k
      refine .inr ⟨.inl k, c, e, ?_⟩
      have q := x.cell y c e
      rw [bindC_get ndP hp hu (by show scope.names.lookup y ≠ _; rw [k]; decide)] at q
      exact q
  · exact e0.hok.fresh (Nat.le_of_lt (x.above y c (PySem.mem_of_lookup h)))
  · unfold start
    show _ = N.length
    rw [List.length_append, List.length_map, List.length_replicate]
    omega
theorem fn_of {CX : CXT} {P : Program} {w : World} {K : PySem.W.Frag} {mg : Str → Option Value} {base : Heap} {k : Nat} {f : Addr} {name qual : Str} {params : Arguments} {body : List Stmt} {scope : Scope} {dV kV doc pm cdv ct oc : Value} {an od : Option Addr}
    {osl : Array (Option Value)} {N ps : List Str} {sp : Sp} (lk : K.lookup f = some ⟨oc, od, .func (PySem.W.fnOf name qual params body scope dV kV doc pm an cdv ct), osl⟩) (hcd : PySem.W.codeIn K cdv qual = true) (S : FnScope N ps scope)
    (len : ∀ vs H Q E, sp vs H Q E → vs.length = ps.length)
    (hbody : ∀ (A : Around) (outer : List Env) (s : Shared) (H : Hp) (vs : List V) (Q : VK) (E : XK), Room k (A.deeper (envOfC qual scope s.heap.objs.size f cdv)) → sp vs H Q E →
      ∃ t, PSs (cxOf CX P w K mg base N qual scope f cdv A outer s H E) body t ∧ t { nx := fun _ H' => Q .non H', rt := Q } (start N vs) H) :
    FnOk P w K mg base CX (k + 1) f (PySem.W.fnOf name qual params body scope dV kV doc pm an cdv ct) ps sp := by
  refine ⟨len, fun A outer s H args us vs Q E hr e0 hb r hsp => ?_⟩
  have hl := len _ _ _ _ hsp
  have KX : K.In s.heap := e0.mod.kin.keeps fun b o e => (e0.bs b o e).1
  have lim : s.heap.NoLimit := e0.mod.nolimit.keeps fun b o e => (e0.bs b o e).1
  have hkind : ∀ y ∈ ps.zip us, scope.names.lookup y.1 = some .local ∨ (scope.names.lookup y.1 = some .cell ∧ ((cellsFrom (s.heap.objs.size + 1) scope.names []).lookup y.1).isSome = true) := fun ⟨n, v⟩ hy => by
    rcases S.par n (List.of_mem_zip hy).1 with q | q
    · exact .inl q
    · exact .inr ⟨q, PySem.W.cellsFrom_some _ _ _ (.inl q)⟩
  refine codeAny_call_function hr.depth (KX _ _ lk) rfl S.co S.gen rfl (PySem.W.codeRec_of KX hcd) (hb _ _ _ _ ?_)
  refine wpAny_newFunctionEnv_cells S.kind hkind fun env he s1 x => ?_
  subst he
  refine ⟨lim.keeps x.toInCall.keep, codeAny_func ?_⟩
  obtain ⟨t, ht, hq⟩ := hbody A outer s H vs Q E (hr.deeper _) hsp
  have I : Inv (cxOf CX P w K mg base N qual scope f cdv A outer s H E) [] (start N vs) H s1 := inv_start S hr.hd e0 hl r x
  refine wpAny_mono (ht [] s1 (start N vs) H _ I hq) (fun fl s' hs => ?_) fun e s' hs => hs
  have fin : ∀ {σ' : St} {H' : Hp} {v : V} {u : Value}, Inv (cxOf CX P w K mg base N qual scope f cdv A outer s H E) [] σ' H' s' → RelV v u → Q v H' → CE outer P w H s Q u s' :=
    fun {σ' H' v u} J rv q => ⟨v, H', J.os, J.bare, J.base, J.hok, rv, q⟩
  cases fl with
  | ret u =>
    obtain ⟨v, σ', H', J, rv, q⟩ := hs
    exact fin J rv q
  | next =>
    obtain ⟨σ', H', J, q⟩ := hs
    exact fin (v := V.non) (u := Value.none) J rfl q
  | brk =>
    obtain ⟨_, _, _, q⟩ := hs
    exact False.elim q
  | cont =>
    obtain ⟨_, _, _, q⟩ := hs
    exact False.elim q
end L2
namespace L2
open PySem PySem.Spec PyProof.Rows
section
variable {X : Cx} {x : Str} {p pos : Pos} {e : Expr} {es : List Expr} {t : TA} {id T : String} {r : List V → Hp → VK → Prop}
def tCB (r : List V → Hp → VK → Prop) (t : TA) : TE := fun σ H Q => t σ H fun vs H1 => r vs H1 Q
theorem pe_callB (hc : CallR X (.builtin id) r) (hg : Gl X x) (hm : X.mg x = none) (hv : bootBuiltins x = some (.builtin id)) (ha : PA X (e :: es) t) (hn : x ≠ "__name__" := by decide) (hdb : (x == ("__debug__" : Str)) = false := by decide)
    (he : starEach (e :: es) X.env = (false, eval e X.env) :: starEach es X.env := by rfl) (hpl : (backTo pos (starEach es X.env)).any (·.1) = false := by rfl) : PE X (.Call (.Name x p) (e :: es) [] pos) (tCB r t) := by
  intro pins s σ H Q I h
  refine wpAny_Call_Name_kw (ld_blt I hg hm hv ?_ hn hdb)
  exact PyProof.Rows.callWith_builtin1 (thn (ha pos pins s σ H _ I h) fun us s1 ⟨vs, H1, I1, r1, q1⟩ => hc pins s1 σ H1 vs us Q I1 r1 q1) he hpl
theorem pe_callTy (hc : CallR X (.type T) r) (hg : Gl X x) (hm : X.mg x = none) (hv : bootBuiltins x = some (.type T)) (ha : PA X (e :: es) t) (hn : x ≠ "__name__" := by decide) (hdb : (x == ("__debug__" : Str)) = false := by decide)
    (he : starEach (e :: es) X.env = (false, eval e X.env) :: starEach es X.env := by rfl) (hpl : (backTo pos (starEach es X.env)).any (·.1) = false := by rfl) : PE X (.Call (.Name x p) (e :: es) [] pos) (tCB r t) := by
  intro pins s σ H Q I h
  refine wpAny_Call_Name_kw (ld_blt I hg hm hv ?_ hn hdb)
  exact PyProof.Rows.callWith_type1 (thn (ha pos pins s σ H _ I h) fun us s1 ⟨vs, H1, I1, r1, q1⟩ => hc pins s1 σ H1 vs us Q I1 r1 q1) he hpl
end
end L2
namespace HT
open PySem PyProof.Rows
section
open PySem.SeqAt
open PySem.AutoSeq1 (wpAny_loadPart')
open PySem.MeetsSeq PySem.MeetsSeq2 PySem.MeetsSeq3
end
section
variable {prog : Program} {w : World} {A : Around} {E : Value → Shared → Prop} {s : Shared}
theorem cat_tup {t b : Addr} {vs ws : List Value} {Q : Value → Shared → Prop} (ht : IsTup s.heap t vs.toArray) (hb : IsTup s.heap b ws.toArray) (hv : vs ≠ [])
    (h1 : ws = [] → Q (.ref t) s) (h2 : ws ≠ [] → Q (.ref s.heap.objs.size) { s with heap := s.heap.push { cls := .type "tuple", data := .seq (vs ++ ws).toArray } })
    (hsz : vs.length + ws.length ≤ sizeLine) : wpAny (model prog w) A (binaryOp .Add (.ref t) (.ref b)) Q E s := by
  obtain ⟨⟨cls, dd, data, sl⟩, ho, hc, n, hd⟩ := id ht
  obtain ⟨⟨cls2, dd2, data2, sl2⟩, ho2, hc2, n2, hd2⟩ := id hb
  simp only at hc hd hc2 hd2
  subst hc hd hc2 hd2
  have e : vs.toArray ++ ws.toArray = (vs ++ ws).toArray := by simp
  by_cases hw : ws = []
  · exact concat_meets ⟨_, ho, rfl⟩ ⟨_, ho2, rfl⟩ noFill_tuple_add seq_tuple_add PySem.F.slot_tuple_add PySem.F.entry_tuple_add (PySem.F.args_tuple_add_2 _ _)
      (tuple_addW1 t b vs.toArray ws.toArray n n2 dd dd2 sl sl2 (by simpa using hv) (by simp [hw])) ⟨ho, ho2, h1 hw⟩
  · refine concat_meets ⟨_, ho, rfl⟩ ⟨_, ho2, rfl⟩ noFill_tuple_add seq_tuple_add PySem.F.slot_tuple_add PySem.F.entry_tuple_add (PySem.F.args_tuple_add_2 _ _)
      (tuple_addW2 t b vs.toArray ws.toArray n n2 dd dd2 sl sl2 (by simpa using hv) (by simpa using hw) (by rw [List.size_toArray, List.size_toArray]; exact hsz)) ⟨ho, ho2, ?_⟩
    rw [e]
    exact h2 hw
def sIx (n d : Nat) : Option Int → Nat
  | none => d
  | some v => if v < 0 then (v + (n : Int)).toNat else min v.toNat n
theorem sIx_none (n d : Nat) : sIx n d none = d := rfl
theorem sIx_nat (n d k : Nat) : sIx n d (some (k : Int)) = min k n := by
  show (if (k : Int) < 0 then ((k : Int) + (n : Int)).toNat else min (k : Int).toNat n) = min k n
  rw [if_neg (by omega), Int.toNat_natCast]
theorem sIx_le (n d : Nat) (hd : d ≤ n) (o : Option Int) : sIx n d o ≤ n := by
  cases o with
  | none => exact hd
  | some v =>
    show (if v < 0 then (v + (n : Int)).toNat else min v.toNat n) ≤ n
    by_cases hv : v < 0
    · rw [if_pos hv]; omega
    · rw [if_neg hv]; exact Nat.min_le_right _ _
theorem clip_eq (v : Int) (n d : Nat) : (if v < 0 then max (v + (n : Int)) 0 else min v (n : Int)) = ((sIx n d (some v) : Nat) : Int) := by
  show (if v < 0 then max (v + (n : Int)) 0 else min v (n : Int)) = (((if v < 0 then (v + (n : Int)).toNat else min v.toNat n) : Nat) : Int)
  by_cases hv : v < 0
  · simp only [if_pos hv]; omega
  · simp only [if_neg hv]; omega
theorem adjust_gen (lo hi : Option Int) (n : Nat) : Builtin.Slice.sliceAdjust lo hi 1 (n : Int) = (((sIx n 0 lo : Nat) : Int), ((sIx n n hi : Nat) : Int)) := by
  have h1 : ¬ ((1 : Int) < 0) := by omega
  unfold Builtin.Slice.sliceAdjust
  simp only [h1, if_false]
  refine Prod.ext ?_ ?_
  · cases lo with
    | none => rfl
    | some v => exact clip_eq v n 0
  · cases hi with
    | none => rfl
    | some v => exact clip_eq v n n
theorem places_gen (i j : Nat) : Builtin.Slice.slicePlaces (i : Int) (j : Int) 1 = j - i := by
  unfold Builtin.Slice.slicePlaces
  have h1 : (1 : Int) > 0 := by omega
  simp only [h1, if_true, Int.ediv_one]
  split <;> omega
theorem slicePart_ {v : Value} {o : Option Int} {Q : Option Int → Shared → Prop} (p : IsPart v o) (h : Q o s) : wpAny (model prog w) A (Builtin.Slice.slicePartIndex v) Q E s := by
  cases p with
  | none => exact slicePart_none h
  | int i t => exact slicePart_int h
theorem sliceApplied_gen {sl : Addr} {vl vu : Value} {lo hi : Option Int} {n : Nat} {Q : Int × Int × Nat → Shared → Prop} (hs : s.heap.IsSliceOf sl vl vu .none) (pl : IsPart vl lo) (pu : IsPart vu hi)
    (h : Q (((sIx n 0 lo : Nat) : Int), 1, sIx n n hi - sIx n 0 lo) s) : wpAny (model prog w) A (Builtin.Slice.sliceApplied (.ref sl) (pure (n : Int))) Q E s := by
  obtain ⟨os, hos, hcs, hds⟩ := id hs
  unfold Builtin.Slice.sliceApplied Builtin.Slice.sliceFields
  refine wpAny_bind (wpAny_bind (wpAny_field hos hds (x := vl) rfl (wpAny_bind (wpAny_field hos hds (x := vu) rfl (wpAny_bind (wpAny_field hos hds (x := .none) rfl (wpAny_pure ?_)))))))
  refine wpAny_bind (slicePart_none ?_)
  show wpAny _ _ (if ((1 : Int) == 0) = true then _ else _) _ _ s
  rw [if_neg (by decide)]
  refine wpAny_bind (slicePart_ pl (wpAny_bind (slicePart_ pu (wpAny_bind (wpAny_pure ?_)))))
  show wpAny _ _ (match Builtin.Slice.sliceAdjust lo hi 1 (n : Int) with | (lo, hi) => pure (lo, (1 : Int), Builtin.Slice.slicePlaces lo hi 1)) _ _ s
  rw [adjust_gen lo hi n]
  show wpAny _ _ (pure (((sIx n 0 lo : Nat) : Int), (1 : Int), Builtin.Slice.slicePlaces ((sIx n 0 lo : Nat) : Int) ((sIx n n hi : Nat) : Int) 1)) _ _ s
  rw [places_gen]
  exact wpAny_pure h
theorem pick_gen (xs : Array Value) (i k : Nat) : ((List.range k).filterMap fun (m : Nat) => xs[((i : Int) + (m : Int) * 1).toNat]?).toArray = ((xs.toList.drop i).take k).toArray := by
  have e : (fun (m : Nat) => xs[((i : Int) + (m : Int) * 1).toNat]?) = fun m => xs[i + m]? := by
    funext m
    have : ((i : Int) + (m : Int) * 1).toNat = i + m := by omega
    rw [this]
  rw [e]
  have := pick_run xs i k
  rw [List.filterMap_map] at this
  have e2 : ((fun x => xs[x]?) ∘ fun x => i + x) = fun m => xs[i + m]? := rfl
  rw [e2] at this
  rw [this]
theorem getItem_tuple_cut {t sl : Addr} {items : Array Value} {vl vu : Value} {lo hi : Option Int} {Q : Value → Shared → Prop} (ht : IsTup s.heap t items) (hs : s.heap.IsSliceOf sl vl vu .none) (pl : IsPart vl lo) (pu : IsPart vu hi)
    (hw : ¬ (sIx items.size 0 lo = 0 ∧ sIx items.size items.size hi = items.size))
    (h : Q (.ref s.heap.objs.size) { s with heap := s.heap.push { cls := .type "tuple", data := .seq ((items.toList.drop (sIx items.size 0 lo)).take (sIx items.size items.size hi - sIx items.size 0 lo)).toArray } })
    (hsz : items.size ≤ sizeLine) : wpAny (model prog w) A (getItem (.ref t) (.ref sl)) Q E s := by
  have htake : sizeOk (.seq ((items.toList.drop (sIx items.size 0 lo)).take (sIx items.size items.size hi - sIx items.size 0 lo)).toArray) := by
    show ((items.toList.drop (sIx items.size 0 lo)).take (sIx items.size items.size hi - sIx items.size 0 lo)).toArray.size ≤ sizeLine
    rw [List.size_toArray, List.length_take, List.length_drop, Array.length_toList]
    omega
  have hj : sIx items.size items.size hi ≤ items.size := sIx_le _ _ (Nat.le_refl _) hi
  obtain ⟨os, hos, hcs, hds⟩ := id hs
  have hTs : s.TypeIs (.ref sl) "slice" := ⟨os, hos, hcs⟩
  unfold getItem
  try with_reducible refine wpAny_holding ?_
  first | refine wpAny_bind (wpAny_pure ?_) | skip
  refine wpAny_bind (wpAny_sequenceKey ht.typeIs (by decide) ?_)
  refine wpAny_bind (wpAny_callSpecial?_slot (name := Str.ofString "__getitem__") ht.typeIs PyProof.Rows.slot_tuple_getitem
    (wpAny_call_entry PyProof.Rows.slot_tuple_getitem ht.typeIs entry_tuple_getitem ?_ (args_tuple_getitem _ _)))
  show wpAny _ _ (Builtin.Tuple.tupleItemsOf (.ref t) >>= _) _ _ s
  refine wpAny_bind (tupleItemsOf_ ht ?_)
  refine wpAny_bind (wpAny_typeOf hTs ?_)
  rw [if_pos (by decide)]
  refine wpAny_bind (sliceApplied_gen hs pl pu ?_)
  have hno : ¬ ((((sIx items.size 0 lo : Nat) : Int) == 0 && (1 : Int) == 1 && (sIx items.size items.size hi - sIx items.size 0 lo) == items.size) = true) := by
    intro q
    rw [Bool.and_eq_true, Bool.and_eq_true] at q
    have q1 : ((sIx items.size 0 lo : Nat) : Int) = 0 := eq_of_beq q.1.1
    have q2 : sIx items.size items.size hi - sIx items.size 0 lo = items.size := eq_of_beq q.2
    exact hw ⟨by omega, by omega⟩
  show wpAny _ _ (if (((sIx items.size 0 lo : Nat) : Int) == 0 && (1 : Int) == 1 && (sIx items.size items.size hi - sIx items.size 0 lo) == items.size) = true then _ else _) _ _ s
  rw [if_neg hno, pick_gen]
  first
    | exact wpAny_bind (m := Builtin.Tuple.tupleExact _) (wpAny_newObj_type (wpAny_pure ⟨_, rfl, wpAny_pure h⟩) htake)
    | exact wpAny_bind (m := Builtin.Tuple.tupleExact _) (wpAny_newObj_type (wpAny_bind (wpAny_pure (wpAny_pure ⟨_, rfl, wpAny_pure h⟩))) htake)
    | exact wpAny_bind (wpAny_bind (m := Builtin.Tuple.tupleExact _) (wpAny_newObj_type (wpAny_pure (wpAny_pure ⟨_, rfl, wpAny_pure h⟩)) htake))
    | exact wpAny_bind (wpAny_bind (m := Builtin.Tuple.tupleExact _) (wpAny_newObj_type (wpAny_pure ⟨_, rfl, wpAny_pure h⟩) htake))
end
end HT
namespace L2
open PySem PySem.Spec PyProof.Rows
abbrev TO := St → Hp → (Option Int → Hp → Prop) → Prop
def PO (X : Cx) (e : Option Expr) (t : TO) : Prop :=
  ∀ (pins : List (Addr × Obj)) (s : Shared) (σ : St) (H : Hp) (Q : Option Int → Hp → Prop), Inv X pins σ H s → t σ H Q →
    wpAny (model X.prog X.w) X.A (evalPart e X.env) (fun u s' => ∃ o H', Inv X pins σ H' s' ∧ IsPart u o ∧ Q o H') X.xe s
def tNoPart : TO := fun _ H Q => Q none H
def tPart (t : TE) : TO := fun σ H Q => t σ H fun x H1 => ∃ i, x = .int i ∧ Q (some i) H1
section
variable {X : Cx} {e : Expr} {te : TE} {lo hi : Option Expr} {tl th : TO} {pos p2 : Pos}
theorem po_none : PO X none tNoPart := by
  intro pins s σ H Q I h
  rw [evalPart_none]
  exact wpAny_pure ⟨none, H, I, .none, h⟩
theorem po_some (h : PE X e te) : PO X (some e) (tPart te) := by
  intro pins s σ H Q I hw
  rw [evalPart_some]
  refine thn (h pins s σ H _ I hw) fun u s1 ⟨x, H1, I1, r1, q1⟩ => ?_
  obtain ⟨i, rfl, q⟩ := q1
  obtain ⟨t, rfl⟩ := r1
  exact ⟨some i, H1, I1, .int i t, q⟩
def SlR (X : Cx) (r : V → Option Int → Option Int → Hp → VK → Prop) : Prop :=
  ∀ (pins : List (Addr × Obj)) (s : Shared) (σ : St) (H : Hp) (x : V) (v vl vu : Value) (lo hi : Option Int) (sl : Addr) (Q : VK), Inv X pins σ H s → RelV x v → s.heap.IsSliceOf sl vl vu .none → IsPart vl lo → IsPart vu hi → r x lo hi H Q →
    ∃ T id, typeLookup (.type T) "__getitem__" = pure (some (.builtin id)) ∧ s.TypeIs v T ∧ wpAny (model X.prog X.w) X.A (getItem v (.ref sl)) (EP X pins σ Q) X.xe s
theorem SlR.or {r r' : V → Option Int → Option Int → Hp → VK → Prop} (h : SlR X r) (h' : SlR X r') : SlR X (fun x lo hi H Q => r x lo hi H Q ∨ r' x lo hi H Q) := by
  intro pins s σ H x v vl vu lo hi sl Q I rx hs pl pu q
  rcases q with q | q
  · exact h pins s σ H x v vl vu lo hi sl Q I rx hs pl pu q
  · exact h' pins s σ H x v vl vu lo hi sl Q I rx hs pl pu q
def tSl (r : V → Option Int → Option Int → Hp → VK → Prop) (te : TE) (tl th : TO) : TE := fun σ H Q => te σ H fun x H1 => tl σ H1 fun l H2 => th σ H2 fun u H3 => r x l u H3 Q
theorem pe_slice {r : V → Option Int → Option Int → Hp → VK → Prop} (hr : SlR X r) (he : PE X e te) (hl : PO X lo tl) (hu : PO X hi th) : PE X (.Subscript e (.Slice lo hi none p2) pos) (tSl r te tl th) := by
  intro pins s σ H Q I h
  refine Subscript_ (thn (he pins s σ H _ I h) fun v s1 ⟨x, H1, I1, r1, q1⟩ => ?_)
  refine wpAny_Slice (thn (hl pins s1 σ H1 _ I1 q1) fun vl s2 ⟨l, H2, I2, pl, q2⟩ => thn (hu pins s2 σ H2 _ I2 q2) fun vu s3 ⟨u, H3, I3, pu, q3⟩ => ?_)
  rw [evalPart_none]
  refine wpAny_pure ?_
  have I4 : Inv X pins σ H3 { s3 with heap := s3.heap.push { cls := .type "slice", data := .fields #[vl, vu, .none] } } := I3.kept (t' := s3.toks) fun b ob q => Heap.get?_push_of_some _ q
  obtain ⟨T, id, hT, ht, hg⟩ := hr pins { s3 with heap := s3.heap.push { cls := .type "slice", data := .fields #[vl, vu, .none] } } σ H3 x v vl vu l u s3.heap.objs.size Q I4 r1 (Heap.IsSliceOf.new ..) pl pu q3
  show wpAny (model X.prog X.w) X.A (subscriptTail e (.Slice lo hi none p2) v (.ref s3.heap.objs.size)) (EP X pins σ Q) X.xe { s3 with heap := s3.heap.push { cls := .type "slice", data := .fields #[vl, vu, .none] } }
  exact tail_any (ops := [.ref s3.heap.objs.size, v]) ht hT hg (by with_unfolding_all rfl)
def cutV (xs : List V) (lo hi : Option Int) : List V := (xs.drop (HT.sIx xs.length 0 lo)).take (HT.sIx xs.length xs.length hi - HT.sIx xs.length 0 lo)
theorem cutV_length (xs : List V) (lo hi : Option Int) : (cutV xs lo hi).length ≤ xs.length := by
  unfold cutV
  rw [List.length_take, List.length_drop]
  omega
def rSlT (K : PySem.W.Frag) : V → Option Int → Option Int → Hp → VK → Prop := fun x lo hi H Q => ∃ a xs, x = .ref a ∧ SqT K H a xs ∧
  ¬ (HT.sIx xs.length 0 lo = 0 ∧ HT.sIx xs.length xs.length hi = xs.length) ∧ ∀ p, H p = none → Q (.ref p) (upd H p (.tup (cutV xs lo hi)))
theorem sl_tup : SlR X (rSlT X.K) := by
  intro pins s σ H x v vl vu lo hi sl Q I rx hs pl pu h
  obtain ⟨a, xs, rfl, hx, hw, q⟩ := h
  cases rx
  obtain ⟨its, r, ht, hz⟩ := I.tuple hx
  have hlen : its.toArray.size = xs.length := by rw [List.size_toArray]; exact r.length.symm
  refine ⟨"tuple", _, PyProof.Rows.slot_tuple_getitem.lookup, ht.typeIs, ?_⟩
  refine HT.getItem_tuple_cut ht hs pl pu (by rw [hlen]; exact hw) ?_ (by rw [hlen]; exact hz)
  rw [hlen]
  refine ⟨.ref s.heap.objs.size, _, I.laid (t' := s.toks) (o := .tup (cutV xs lo hi)) (fun b ob q => Heap.get?_push_of_some _ q) (Nat.le_refl _) ?_, rfl, q _ (I.hok.fresh (Nat.le_refl _))⟩
  exact ⟨Nat.le_trans (cutV_length xs lo hi) hz, _, (r.drop (HT.sIx xs.length 0 lo)).take (HT.sIx xs.length xs.length hi - HT.sIx xs.length 0 lo), IsTup.new _ _⟩
def rCatT (K : PySem.W.Frag) : R2 := fun x y H Q => ∃ a b xs ys, x = .ref a ∧ y = .ref b ∧ SqT K H a xs ∧ SqT K H b ys ∧ xs ≠ [] ∧ xs.length + ys.length ≤ sizeLine ∧
  (ys = [] → Q (.ref a) H) ∧ (ys ≠ [] → ∀ p, H p = none → Q (.ref p) (upd H p (.tup (xs ++ ys))))
theorem Vals.nil_iff {xs : List V} {us : List Value} (r : Vals xs us) : us = [] ↔ xs = [] := by
  cases r with
  | nil => simp
  | cons _ _ => simp
theorem op_catT : OpR X (binaryOp .Add) (rCatT X.K) := by
  intro pins s σ H x y v u Q I rx ry h
  obtain ⟨a, b, xs, ys, rfl, rfl, ha, hb, hx, hz, q1, q2⟩ := h
  cases rx
  cases ry
  obtain ⟨its, r1, p1, _⟩ := I.tuple ha
  obtain ⟨its2, r2, p2, _⟩ := I.tuple hb
  refine HT.cat_tup p1 p2 (fun z => hx (r1.nil_iff.mp z)) (fun z => ⟨.ref a, H, I, rfl, q1 (r2.nil_iff.mp z)⟩) (fun z => ?_) (by rw [← r1.length, ← r2.length]; exact hz)
  refine ⟨.ref s.heap.objs.size, _, I.laid (t' := s.toks) (o := .tup (xs ++ ys)) (fun b ob q => Heap.get?_push_of_some _ q) (Nat.le_refl _) ?_, rfl, q2 (fun w => z (r2.nil_iff.mpr w)) _ (I.hok.fresh (Nat.le_refl _))⟩
  exact ⟨by rw [List.length_append]; exact hz, _, r1.append r2, IsTup.new _ _⟩
end
end L2
namespace L2
open PySem PySem.Spec PyProof.Rows
def ixN (n : Nat) (i : Int) : Option Nat := if 0 ≤ i then (if i < n then some i.toNat else none) else if -(n : Int) ≤ i then some (i + n).toNat else none
def atI {α : Type} (xs : List α) (i : Int) : Option α := (ixN xs.length i).bind fun j => xs[j]?
theorem ixN_seq {n : Nat} {i : Int} {j : Nat} (h : ixN n i = some j) : seqIndex? i n = some j ∧ j < n ∧ -(n : Int) ≤ i ∧ i < n := by
  unfold ixN at h
  by_cases h0 : 0 ≤ i
  · rw [if_pos h0] at h
    by_cases h1 : i < n
    · rw [if_pos h1] at h
      have e : i.toNat = j := Option.some.inj h
      exact ⟨by rw [seqIndex_of h0 h1, e], by omega, by omega, h1⟩
    · rw [if_neg h1] at h; cases h
  · rw [if_neg h0] at h
    by_cases h1 : -(n : Int) ≤ i
    · rw [if_pos h1] at h
      have e : (i + n).toNat = j := Option.some.inj h
      exact ⟨by rw [seqIndex_neg (by omega) h1, e], by omega, h1, by omega⟩
    · rw [if_neg h1] at h; cases h
theorem atI_get {α : Type} {xs : List α} {i : Int} {v : α} (h : atI xs i = some v) : ∃ j, seqIndex? i xs.length = some j ∧ xs[j]? = some v ∧ j < xs.length ∧ -(xs.length : Int) ≤ i ∧ i < xs.length := by
  unfold atI at h
  cases e : ixN xs.length i with
  | none => rw [e] at h; cases h
  | some j =>
    rw [e] at h
    obtain ⟨h1, h2, h3, h4⟩ := ixN_seq e
    exact ⟨j, h1, h, h2, h3, h4⟩
theorem atI_nat {α : Type} {xs : List α} {j : Nat} {v : α} (h : xs[j]? = some v) : atI xs (j : Int) = some v := by
  have hj : j < xs.length := (List.getElem?_eq_some_iff.mp h).1
  have e : ixN xs.length (j : Int) = some j := by
    unfold ixN
    rw [if_pos (by omega), if_pos (by omega)]; simp
  unfold atI; rw [e]; exact h
def PlainIx (b : Expr) : Prop := ∀ o i, subscripted b false o i = operate [o, i] (getItem o i)
def IxR (X : Cx) (r : R2) : Prop :=
  ∀ (value slice : Expr) (pins : List (Addr × Obj)) (s : Shared) (σ : St) (H : Hp) (x y : V) (v u : Value) (Q : VK), Inv X pins σ H s → RelV x v → RelV y u → r x y H Q →
    subscripted slice false v u = operate [v, u] (getItem v u) → wpAny (model X.prog X.w) X.A (subscriptTail value slice v u) (EP X pins σ Q) X.xe s
def MtR (X : Cx) (id : String) (r : V → List V → Hp → VK → Prop) : Prop :=
  ∀ (pins : List (Addr × Obj)) (s : Shared) (σ : St) (H : Hp) (x : V) (xs : List V) (v : Value) (us : List Value) (Q : VK), Inv X pins σ H s → RelV x v → Vals xs us → r x xs H Q →
    wpAny (model X.prog X.w) X.A (call (.builtin id) (v :: us)) (EP X pins σ Q) X.xe s
section
variable {X : Cx} {a b : Expr} {ta tb : TE} {pos : Pos}
theorem IxR.or {r r' : R2} (h : IxR X r) (h' : IxR X r') : IxR X (fun x y H Q => r x y H Q ∨ r' x y H Q) := by
  intro value slice pins s σ H x y v u Q I rx ry q hs
  rcases q with q | q
  · exact h value slice pins s σ H x y v u Q I rx ry q hs
  · exact h' value slice pins s σ H x y v u Q I rx ry q hs
theorem MtR.or {id : String} {r r' : V → List V → Hp → VK → Prop} (h : MtR X id r) (h' : MtR X id r') : MtR X id (fun x xs H Q => r x xs H Q ∨ r' x xs H Q) := by
  intro pins s σ H x xs v us Q I rx rs q
  rcases q with q | q
  · exact h pins s σ H x xs v us Q I rx rs q
  · exact h' pins s σ H x xs v us Q I rx rs q
theorem pe_ix {r : R2} (hr : IxR X r) (ha : PE X a ta) (hb : PE X b tb) (hs : PlainIx b) : PE X (.Subscript a b pos) (tOp r ta tb) := by
  intro pins s σ H Q I h
  exact Subscript_ (binT ha hb I h fun v u s2 x y H2 I2 rx ry q => hr a b pins s2 σ H2 x y v u Q I2 rx ry q (hs _ _))
def rIxL (K : PySem.W.Frag) : R2 := fun x y H Q => ∃ p xs i v, x = .ref p ∧ y = .int i ∧ SqL K H p xs ∧ atI xs i = some v ∧ Q v H
def rIxT (K : PySem.W.Frag) : R2 := fun x y H Q => ∃ p xs i v, x = .ref p ∧ y = .int i ∧ SqT K H p xs ∧ atI xs i = some v ∧ Q v H
theorem ix_list : IxR X (rIxL X.K) := by
  intro value slice pins s σ H x y v u Q I rx ry h hs
  obtain ⟨p, xs, i, z, rfl, rfl, hq, he, q⟩ := h
  cases rx
  obtain ⟨t, rfl⟩ := ry
  obtain ⟨its, r, pl, hz⟩ := I.list hq
  obtain ⟨j, h1, h2, h3, h4, h5⟩ := atI_get he
  obtain ⟨w, ew, rw'⟩ := r.get h2
  have hl := r.length
  have hn := line63
  have fin : EP X pins σ Q w s := ⟨z, H, I, rw', q⟩
  by_cases h0 : 0 ≤ i
  · have hj : i.toNat = j := by
      rw [seqIndex_of h0 h5] at h1
      exact Option.some.inj h1
    exact item_listR pl.isList h0 (by omega) (by rw [hj]; simpa using ew) fin hs
  · have hj : (i + (its.toArray.size : Int)).toNat = j := by
      rw [seqIndex_neg (by omega) h4] at h1
      rw [List.size_toArray, ← hl]
      exact Option.some.inj h1
    exact subscriptTail_builtinR (x := w) pl.isList.typeIs slot_list_getitem.lookup
      (wpAny_getItem_list_neg (Q := fun r s' => r = w ∧ EP X pins σ Q r s') pl.isList (by omega) (by rw [List.size_toArray] <;> omega) (by omega) (by rw [hj]; simpa using ew) ⟨rfl, fin⟩) hs
theorem ix_tup : IxR X (rIxT X.K) := by
  intro value slice pins s σ H x y v u Q I rx ry h hs
  obtain ⟨p, xs, i, z, rfl, rfl, hq, he, q⟩ := h
  cases rx
  obtain ⟨t, rfl⟩ := ry
  obtain ⟨its, r, pl, hz⟩ := I.tuple hq
  obtain ⟨j, h1, h2, h3, h4, h5⟩ := atI_get he
  obtain ⟨w, ew, rw'⟩ := r.get h2
  have hl := r.length
  have hn := line63
  have fin : EP X pins σ Q w s := ⟨z, H, I, rw', q⟩
  exact subscriptTail_builtinR (x := w) pl.typeIs slot_tuple_getitem.lookup
    (getItem_tuple (j := j) (Q := fun r s' => r = w ∧ EP X pins σ Q r s') pl (by omega) (by omega) (by rw [List.size_toArray, ← hl]; exact h1) (by simpa using ew) ⟨rfl, fin⟩) hs
theorem mapSeq_set (its : List Value) (n j : Nat) (u : Value) : Obj.mapSeq (·.setIfInBounds j u) { cls := .type "list", data := .seq its.toArray n } = { cls := .type "list", data := .seq (its.set j u).toArray n } := by
  simp [Obj.mapSeq]
theorem Inv.lst {pins : List (Addr × Obj)} {σ : St} {H : Hp} {s : Shared} {p : Addr} {xs : List V} (I : Inv X pins σ H s) (h : H p = some (.lst xs)) :
    ∃ (its : List Value) (n : Nat), Vals xs its ∧ s.heap.get? p = some { cls := .type "list", data := .seq its.toArray n } ∧ xs.length ≤ sizeLine := by
  obtain ⟨z, its, n, r, e⟩ := I.hok p _ h
  exact ⟨its, n, r, e, z⟩
theorem Inv.lstUpd {pins : List (Addr × Obj)} {σ : St} {H : Hp} {s : Shared} {p : Addr} {xs ys : List V} {its its' : List Value} {n n' : Nat} {f : Obj → Obj} (I : Inv X pins σ H s) (h : H p = some (.lst xs))
    (ho : s.heap.get? p = some { cls := .type "list", data := .seq its.toArray n }) (hf : f { cls := .type "list", data := .seq its.toArray n } = { cls := .type "list", data := .seq its'.toArray n' }) (r : Vals ys its') (hz : ys.length ≤ sizeLine) (t : Nat) :
    Inv X pins σ (upd H p (.lst ys)) { s with heap := s.heap.update p f, toks := t } := by
  have e : (s.heap.update p f).get? p = some { cls := .type "list", data := .seq its'.toArray n' } := by
    rw [Heap.get?_update_self f ho (by rw [hf] <;> rfl), hf]
  refine I.write (x := p) (e := p) (by rw [h]; trivial) (.inl rfl) (fun b u hb q => (Heap.get?_update_other _ _ (Ne.symm hb)).trans q) ⟨_, e⟩ ?_
  exact ⟨hz, its', n', r, e⟩
def rSetL : V → V → V → Hp → (Hp → Prop) → Prop := fun o i v H Q => ∃ p xs k j, o = .ref p ∧ i = .int k ∧ H p = some (.lst xs) ∧ ixN xs.length k = some j ∧ Q (upd H p (.lst (xs.set j v)))
theorem set_list : PSet X rSetL := by
  intro pins s σ H o i v ov iv u Q I ro ri rv h
  obtain ⟨p, xs, k, j, rfl, rfl, hp, hj, q⟩ := h
  cases ro
  obtain ⟨t, rfl⟩ := ri
  obtain ⟨its, n, r, ho, hz⟩ := I.lst hp
  obtain ⟨h1, h2, h3, h4⟩ := ixN_seq hj
  have hl := r.length
  have hn := line63
  have I' : Inv X pins σ (upd H p (.lst (xs.set j v))) { s with heap := s.heap.update p (Obj.mapSeq (·.setIfInBounds j u)) } :=
    I.lstUpd hp ho (mapSeq_set its n j u) (r.set rv j) (by rw [List.length_set]; exact hz) s.toks
  by_cases h0 : 0 ≤ k
  · have hk : k.toNat = j := by
      rw [seqIndex_of h0 h4] at h1
      exact Option.some.inj h1
    exact PySem.W.ki_setAt ho h0 (by omega) (by rw [List.size_toArray, ← hl]; exact h4) (by rw [hk]; exact ⟨_, I', q⟩)
  · have hk : (k + (its.toArray.size : Int)).toNat = j := by
      rw [seqIndex_neg (by omega) h3] at h1
      rw [List.size_toArray, ← hl]
      exact Option.some.inj h1
    exact PySem.W.ki_setBack ho (by omega) (by rw [List.size_toArray, ← hl]; exact h3) (by omega) (by rw [hk]; exact ⟨_, I', q⟩)
theorem slice_bounds (lo hi : Option Int) (n : Nat) : (sliceBounds lo hi none n).1 = ((HT.sIx n 0 lo : Nat) : Int) ∧ (sliceBounds lo hi none n).2.1 = ((HT.sIx n n hi : Nat) : Int) ∧ (sliceBounds lo hi none n).2.2 = 1 := by
  refine ⟨?_, ?_, rfl⟩
  · cases lo with
    | none => simp [sliceBounds, HT.sIx]
    | some i =>
      simp only [sliceBounds, HT.sIx, Option.getD_none, show (1 : Int) > 0 by decide, if_true]
      by_cases h : i < 0
      · simp only [h, if_true] <;> omega
      · simp only [h, if_false] <;> omega
  · cases hi with
    | none => simp [sliceBounds, HT.sIx]
    | some i =>
      simp only [sliceBounds, HT.sIx, Option.getD_none, show (1 : Int) > 0 by decide, if_true]
      by_cases h : i < 0
      · simp only [h, if_true] <;> omega
      · simp only [h, if_false] <;> omega
theorem slicePick_cut (its : List Value) (lo hi : Option Int) : slicePick its.toArray lo hi none = ((its.drop (HT.sIx its.length 0 lo)).take (HT.sIx its.length its.length hi - HT.sIx its.length 0 lo)).toArray := by
  obtain ⟨h1, h2, h3⟩ := slice_bounds lo hi its.toArray.size
  unfold slicePick
  rw [h1, h2, h3]
  simp only [sliceRange_one, pick_run, List.size_toArray] <;> rfl
def flatV : V → Bool
  | .non => true
  | .bl _ => true
  | .int _ => true
  | .str _ => true
  | _ => false
def eqV : V → V → Bool
  | .non, .non => true
  | .bl a, .bl b => a == b
  | .bl a, .int b => (if a then 1 else 0) == b
  | .int a, .bl b => a == (if b then 1 else 0)
  | .int a, .int b => a == b
  | .str a, .str b => a == b
  | _, _ => false
theorem eqAt_V {A : Around} {s : Shared} {y x : V} {u v : Value} (ry : RelV y u) (rx : RelV x v) (fy : flatV y = true) (fx : flatV x = true) : SeqAt.EqAt A s u v (eqV y x) := by
  cases y with
  | non =>
    cases ry
    cases x with
    | non => cases rx; exact SeqAt.EqAt.same _
    | bl b => cases rx; exact SeqAt.EqAt.none_bool b
    | int b => obtain ⟨t, rfl⟩ := rx; exact SeqAt.EqAt.none_int b t
    | str b => obtain ⟨t, rfl⟩ := rx; exact SeqAt.EqAt.none_str b t
    | _ => exact absurd (show false = true from fx) Bool.false_ne_true
  | bl a =>
    cases ry
    cases x with
    | non => cases rx; exact SeqAt.EqAt.bool_none a
    | bl b => cases rx; exact SeqAt.EqAt.bool_bool a b
    | int b => obtain ⟨t, rfl⟩ := rx; exact SeqAt.EqAt.bool_int a b t
    | str b => obtain ⟨t, rfl⟩ := rx; exact SeqAt.EqAt.bool_str a b t
    | _ => exact absurd (show false = true from fx) Bool.false_ne_true
  | int a =>
    obtain ⟨t', rfl⟩ := ry
    cases x with
    | non => cases rx; exact SeqAt.EqAt.int_none a t'
    | bl b => cases rx; exact SeqAt.EqAt.int_bool a t' b
    | int b => obtain ⟨t, rfl⟩ := rx; exact SeqAt.EqAt.int_int a t' b t
    | str b => obtain ⟨t, rfl⟩ := rx; exact SeqAt.EqAt.int_str a t' b t
    | _ => exact absurd (show false = true from fx) Bool.false_ne_true
  | str a =>
    obtain ⟨t', rfl⟩ := ry
    cases x with
    | non => cases rx; exact SeqAt.EqAt.str_none a t'
    | bl b => cases rx; exact SeqAt.EqAt.str_bool a t' b
    | int b => obtain ⟨t, rfl⟩ := rx; exact SeqAt.EqAt.str_int a t' b t
    | str b => obtain ⟨t, rfl⟩ := rx; exact SeqAt.EqAt.str_str a t' b t
    | _ => exact absurd (show false = true from fx) Bool.false_ne_true
  | _ => exact absurd (show false = true from fy) Bool.false_ne_true
def eqU (x : V) (u : Value) : Bool := match u with
  | .none => eqV .non x
  | .bool b => eqV (.bl b) x
  | .int i _ => eqV (.int i) x
  | .str z _ => eqV (.str z) x
  | _ => false
theorem eqU_of {x y : V} {u : Value} (r : RelV y u) (f : flatV y = true) : eqU x u = eqV y x := by
  cases y with
  | non => cases r; rfl
  | bl b => cases r; rfl
  | int i => obtain ⟨t, rfl⟩ := r; rfl
  | str z => obtain ⟨t, rfl⟩ := r; rfl
  | _ => exact absurd (show false = true from f) Bool.false_ne_true
theorem any_eqU {x : V} : ∀ {xs : List V} {us : List Value}, Vals xs us → xs.all flatV = true → us.any (eqU x) = xs.any fun y => eqV y x
  | _, _, .nil, _ => rfl
  | y :: xs, u :: us, .cons r t, f => by
    rw [List.all_cons, Bool.and_eq_true] at f
    rw [List.any_cons, List.any_cons, eqU_of r f.1, any_eqU t f.2]
theorem mem_eqAt {A : Around} {s : Shared} {x : V} {v : Value} (rx : RelV x v) (fx : flatV x = true) : ∀ {xs : List V} {us : List Value}, Vals xs us → xs.all flatV = true → ∀ u ∈ us, SeqAt.EqAt A s u v (eqU x u)
  | _, _, .nil, _ => fun u hu => by cases hu
  | y :: xs, u :: us, .cons r t, f => fun u' hu => by
    rw [List.all_cons, Bool.and_eq_true] at f
    rcases List.mem_cons.mp hu with rfl | hu
    · rw [eqU_of r f.1]; exact eqAt_V r rx f.1 fx
    · exact mem_eqAt rx fx t f.2 u' hu
def inV (x : V) (xs : List V) : Bool := xs.any fun y => eqV y x
def rIn (K : PySem.W.Frag) (neg : Bool) : R2 := fun x y H Q => ∃ p xs, y = .ref p ∧ (SqL K H p xs ∨ SqT K H p xs) ∧ flatV x = true ∧ xs.all flatV = true ∧ Q (.bl (if neg then !inV x xs else inV x xs)) H
theorem op_in_seq : OpR X (compareOp .In) (rIn X.K false) := by
  intro pins s σ H x y v u Q I rx ry h
  obtain ⟨p, xs, rfl, hq, fx, fs, q⟩ := h
  cases ry
  rcases hq with hq | hq
  · obtain ⟨its, r, pl, hz⟩ := I.list hq
    refine SeqAt.in_listAt (eqU x) pl.isList (fun w hw => mem_eqAt rx fx r fs w (by simpa using hw)) ⟨.bl _, H, I, rfl, ?_⟩
    rw [show its.toArray.any (eqU x) = its.any (eqU x) by simp, any_eqU r fs]
    exact q
  · obtain ⟨its, r, pl, hz⟩ := I.tuple hq
    refine SeqAt.in_tupleAt (eqU x) pl (fun w hw => mem_eqAt rx fx r fs w (by simpa using hw)) ⟨.bl _, H, I, rfl, ?_⟩
    rw [show its.toArray.any (eqU x) = its.any (eqU x) by simp, any_eqU r fs]
    exact q
theorem op_notIn_seq : OpR X (compareOp .NotIn) (rIn X.K true) := by
  intro pins s σ H x y v u Q I rx ry h
  obtain ⟨p, xs, rfl, hq, fx, fs, q⟩ := h
  cases ry
  rcases hq with hq | hq
  · obtain ⟨its, r, pl, hz⟩ := I.list hq
    refine SeqAt.notIn_listAt (eqU x) pl.isList (fun w hw => mem_eqAt rx fx r fs w (by simpa using hw)) ⟨.bl _, H, I, rfl, ?_⟩
    rw [show its.toArray.any (eqU x) = its.any (eqU x) by simp, any_eqU r fs]
    exact q
  · obtain ⟨its, r, pl, hz⟩ := I.tuple hq
    refine SeqAt.notIn_tupleAt (eqU x) pl (fun w hw => mem_eqAt rx fx r fs w (by simpa using hw)) ⟨.bl _, H, I, rfl, ?_⟩
    rw [show its.toArray.any (eqU x) = its.any (eqU x) by simp, any_eqU r fs]
    exact q
theorem call_len_seq : CallR X (.builtin "len") (fun xs H Q => ∃ p ys, xs = [.ref p] ∧ (SqL X.K H p ys ∨ SqT X.K H p ys) ∧ Q (.int ys.length) H) := by
  intro pins s σ H xs us Q I r h
  obtain ⟨p, ys, rfl, hq, q⟩ := h
  obtain ⟨u, rfl, rx⟩ := vals1 r
  cases rx
  have hn := line63
  rcases hq with hq | hq
  · obtain ⟨its, r', pl, hz⟩ := I.list hq
    have hlen := r'.length
    exact Calls.call_len_list pl.isList (by simp only [List.size_toArray] <;> omega) ⟨.int ys.length, H, I.tok _, ⟨s.toks + 1, by rw [List.size_toArray, hlen]⟩, q⟩
  · obtain ⟨its, r', pl, hz⟩ := I.tuple hq
    have hlen := r'.length
    exact len_tuple pl (by simp only [List.size_toArray] <;> omega) ⟨.int ys.length, H, I.tok _, ⟨s.toks + 1, by rw [List.size_toArray, hlen]⟩, q⟩
theorem CallR.or {f : Value} {r r' : List V → Hp → VK → Prop} (h : CallR X f r) (h' : CallR X f r') : CallR X f (fun xs H Q => r xs H Q ∨ r' xs H Q) := by
  intro pins s σ H xs us Q I rs q
  rcases q with q | q
  · exact h pins s σ H xs us Q I rs q
  · exact h' pins s σ H xs us Q I rs q
theorem call_list_of : CallR X (.type "list") (fun xs H Q => ∃ p ys, xs = [.ref p] ∧ (SqL X.K H p ys ∨ SqT X.K H p ys) ∧ ∀ l, H l = none → Q (.ref l) (upd H l (.lst ys))) := by
  intro pins s σ H xs us Q I r h
  obtain ⟨p, ys, rfl, hq, q⟩ := h
  obtain ⟨u, rfl, rx⟩ := vals1 r
  cases rx
  have fin : ∀ (its : List Value), Vals ys its → ys.length ≤ sizeLine → ∀ (h' : Heap) (c' : Nat), (∀ b o', s.heap.get? b = some o' → h'.get? b = some o') →
      h'.get? s.heap.objs.size = some { cls := .type "list", dict := none, data := .seq its.toArray c', slots := #[] } → EP X pins σ Q (.ref s.heap.objs.size) { s with heap := h' } := fun its r' hz h' c' kp e =>
    ⟨.ref s.heap.objs.size, _, I.laid (t' := s.toks) kp (Nat.le_refl _) (show ObjOk X.prog X.w _ h' _ (.lst ys) from ⟨hz, its, c', r', e⟩), rfl, q _ (I.hok.fresh (Nat.le_refl _))⟩
  rcases hq with hq | hq
  · obtain ⟨its, r', pl, hz⟩ := I.list hq
    have hlen := r'.length
    obtain ⟨o, ho, hc, n, hd⟩ := pl.isList
    exact call_list_seq p (.inl rfl) ho hc hd (fun h' c' kp e => fin its r' hz h' c' kp e) (by simp only [List.size_toArray] <;> omega)
  · obtain ⟨its, r', pl, hz⟩ := I.tuple hq
    have hlen := r'.length
    obtain ⟨o, ho, hc, n, hd⟩ := pl
    exact call_list_seq p (.inr rfl) ho hc hd (fun h' c' kp e => fin its r' hz h' c' kp e) (by simp only [List.size_toArray] <;> omega)
def tyV (K : PySem.W.Frag) (T : String) (x : V) (H : Hp) : Prop := match x with
  | .str _ => T = "str"
  | .int _ => T = "int"
  | .ref p => (T = "list" ∧ ∃ xs, SqL K H p xs) ∨ (T = "tuple" ∧ ∃ o, K.lookup p = some o ∧ o.cls = .type "tuple" ∧ o.dict = none) ∨
      (T = "dict" ∧ ((∃ kvs, H p = some (.dK kvs)) ∨ ∃ kvs, H p = some (.dT kvs))) ∨ (T = "set" ∧ ∃ S n, H p = some (.set S n))
  | _ => False
theorem tyV_is {pins : List (Addr × Obj)} {σ : St} {H : Hp} {s : Shared} {T : String} {x : V} {v : Value} (I : Inv X pins σ H s) (r : RelV x v) (ty : tyV X.K T x H) :
    s.TypeIs v T ∧ ∀ a, v = .ref a → ∃ ob, s.heap.get? a = some ob ∧ ob.dict = none := by
  cases x with
  | str z =>
    obtain ⟨t, rfl⟩ := r
    cases (show T = "str" from ty)
    exact ⟨typeIs_str s z t, fun _ e => nomatch e⟩
  | int i =>
    obtain ⟨t, rfl⟩ := r
    cases (show T = "int" from ty)
    exact ⟨typeIs_int s i t, fun _ e => nomatch e⟩
  | ref p =>
    cases r
    rcases ty with ⟨rfl, xs, hq⟩ | ⟨rfl, o, hk, hc, hd⟩ | ⟨rfl, hk⟩ | ⟨rfl, S, n, hk⟩
    · obtain ⟨its, _, pl, _⟩ := I.list hq
      refine ⟨pl.isList.typeIs, fun a e => ?_⟩
      cases e
      obtain ⟨o, n, e, c, hd, _⟩ := pl
      exact ⟨o, e, hd⟩
    · refine ⟨⟨o, I.kIn p o hk, hc⟩, fun a e => ?_⟩
      cases e
      exact ⟨o, I.kIn _ o hk, hd⟩
    · have z : ∃ o, s.heap.get? p = some o ∧ o.ExactDict := by
        rcases hk with ⟨kvs, hk⟩ | ⟨kvs, hk⟩
        · obtain ⟨_, _, _, _, o, _, _, e, ex, _⟩ := I.hok p _ hk
          exact ⟨o, e, ex⟩
        · obtain ⟨_, _, _, _, o, _, _, e, ex, _⟩ := I.hok p _ hk
          exact ⟨o, e, ex⟩
      obtain ⟨o, e, ex⟩ := z
      refine ⟨⟨o, e, ex.1⟩, fun a e2 => ?_⟩
      cases e2
      exact ⟨o, e, ex.2.1⟩
    · obtain ⟨o, _, _, _, e, ex, _⟩ := I.hok p _ hk
      refine ⟨⟨o, e, ex.1⟩, fun a e2 => ?_⟩
      cases e2
      exact ⟨o, e, ex.2.1⟩
  | _ => exact False.elim ty
def tBM0 (K : PySem.W.Frag) (T : String) (r : V → List V → Hp → VK → Prop) (to : TE) : TE := fun σ H Q => to σ H fun x H1 => tyV K T x H1 ∧ r x [] H1 Q
def tBM (K : PySem.W.Frag) (T : String) (r : V → List V → Hp → VK → Prop) (to : TE) (t : TA) : TE := fun σ H Q => to σ H fun x H1 => tyV K T x H1 ∧ t σ H1 fun xs H2 => r x xs H2 Q
variable {o e : Expr} {es : List Expr} {to : TE} {t : TA} {name : Str} {apos cpos : Pos} {T id : String} {r : V → List V → Hp → VK → Prop}
theorem pe_bm (pa : PlainAttrs T) (slot : Slot T name id) (hty : typeOf (.builtin id) = pure (.type "method_descriptor")) (hm : MtR X id r) (ho : PE X o to) (ha : PA X (e :: es) t)
    (hbase : attributeBase o name X.env (eval o X.env) = eval o X.env := by rfl)
    (hfew : ((backTo cpos (starEach (e :: es) X.env)).all (fun x => !x.1) && (backToKw cpos (keywordEach [] X.env)).all (fun x => x.1.isSome)
      && decide ((e :: es).length + ([] : List Keyword).length + (if ([] : List Keyword).isEmpty then 0 else 1) < 30)) = true := by rfl)
    (hline : (apos.endLine == cpos.line) = true := by rfl) (hs : starEach (e :: es) X.env = (false, eval e X.env) :: starEach es X.env := by rfl) (hplain : (backTo cpos (starEach es X.env)).any (·.1) = false := by rfl) :
    PE X (.Call (.Attribute o name apos) (e :: es) [] cpos) (tBM X.K T r to t) := by
  intro pins s σ H Q I h
  refine wpAny_Call_method_late hbase hfew hline rfl (thn (ho pins s σ H _ I h) fun v s1 ⟨x, H1, I1, r1, ty, q1⟩ => ?_)
  obtain ⟨h1, h2⟩ := tyV_is I1 r1 ty
  refine ⟨T, id, pa, slot, hty, h1, h2, ?_⟩
  have hA := ha cpos pins s1 σ H1 _ I1 q1
  rw [hs] at hA ⊢
  refine Calls.callWith_builtin (by show (false || (backTo cpos (starEach es X.env)).any (·.1)) = false; rw [hplain] <;> rfl) (Calls.evalArgs_plain ?_)
  exact thn hA fun us s2 ⟨vs, H2, I2, r2, q2⟩ => hm pins s2 σ H2 x vs v us Q I2 r1 r2 q2
end
end L2
namespace L2
open PySem PySem.Spec PyProof.Rows
def MtM (X : Cx) (id : String) (r : V → List V → Hp → VK → Prop) : Prop :=
  ∀ (pins : List (Addr × Obj)) (s : Shared) (σ : St) (H : Hp) (x : V) (xs : List V) (v : Value) (us : List Value) (Q : VK), Inv X pins σ H s → RelV x v → Vals xs us → r x xs H Q →
    wpAny (model X.prog X.w) X.A (call (.builtin id) (v :: us)) (EP X pins σ Q) X.xe s
theorem Vals.one : ∀ {x : V} {us : List Value}, Vals [x] us → ∃ u, us = [u] ∧ RelV x u
  | _, _, .cons r .nil => ⟨_, rfl, r⟩
theorem Vals.two : ∀ {x y : V} {us : List Value}, Vals [x, y] us → ∃ u v, us = [u, v] ∧ RelV x u ∧ RelV y v
  | _, _, _, .cons r (.cons q .nil) => ⟨_, _, rfl, r, q⟩
section
variable {X : Cx} {pins : List (Addr × Obj)} {σ : St} {H : Hp} {s : Shared} {l b : Addr} {xs ys zs : List V}
theorem Inv.lset {its its' : List Value} {n : Nat} {f : Array Value → Array Value} {t' : Nat} (I : Inv X pins σ H s) (hH : H l = some (.lst xs))
    (e : s.heap.get? l = some { cls := .type "list", data := .seq its.toArray n }) (hf : f its.toArray = its'.toArray) (hv : Vals ys its') (hz : ys.length ≤ sizeLine) :
    Inv X pins σ (upd H l (.lst ys)) { s with heap := s.heap.update l (Obj.mapSeq f), toks := t' } := by
  have q := PySem.IsL.update e f
  rw [hf] at q
  refine I.write (x := l) (e := l) (by rw [hH]; exact trivial) (.inl rfl) (fun b' u hb hu => (Heap.get?_update_other s.heap (Obj.mapSeq f) (Ne.symm hb)).trans hu) ⟨_, q⟩ ?_
  exact ⟨hz, its', _, hv, q⟩
theorem Inv.fresh (I : Inv X pins σ H s) : H s.heap.objs.size = none := I.hok.fresh (Nat.le_refl _)
theorem Inv.lstM (I : Inv X pins σ H s) (hH : H l = some (.lst xs)) : xs.length ≤ sizeLine ∧ ∃ (its : List Value) (n : Nat), Vals xs its ∧ xs.length = its.length ∧ s.heap.get? l = some { cls := .type "list", data := .seq its.toArray n } := by
  obtain ⟨z, its, n, r, e⟩ := I.hok l _ hH
  exact ⟨z, its, n, r, r.length, e⟩
theorem notLongL {n : Nat} (h : n ≤ sizeLine) : Builtin.List.listTooLong n = false := by
  unfold Builtin.List.listTooLong
  exact decide_eq_false (by omega)
end
section
variable {X : Cx}
def rAppend : V → List V → Hp → VK → Prop := fun x vs H Q => ∃ l xs y, x = .ref l ∧ vs = [y] ∧ H l = some (.lst xs) ∧ xs.length < sizeLine ∧ Q .non (upd H l (.lst (xs ++ [y])))
theorem mt_append : MtM X "list.append" rAppend := by
  intro pins s σ H x vs v us Q I rx rv h
  obtain ⟨l, xs, y, rfl, rfl, hH, hz, q⟩ := h
  cases rx
  obtain ⟨u, rfl, ru⟩ := rv.one
  obtain ⟨z, its, n, r, hl, e⟩ := I.lstM hH
  refine call_meets F.slot_list_append ⟨_, e, rfl⟩ F.entry_list_append (F.args_list_append_2 _ _) (PySem.list_append l its.toArray n u (by rw [List.size_toArray]; omega)) ⟨e, ?_⟩
  refine ⟨.non, _, I.lset (its' := its ++ [u]) hH e (by simp) (r.append (.cons ru .nil)) ?_, rfl, q⟩
  rw [List.length_append, List.length_singleton]
  omega
def rExtend : V → List V → Hp → VK → Prop := fun x vs H Q => ∃ l b xs zs, x = .ref l ∧ vs = [.ref b] ∧ H l = some (.lst xs) ∧ H b = some (.lst zs) ∧ xs.length + zs.length ≤ sizeLine ∧ Q .non (upd H l (.lst (xs ++ zs)))
theorem mt_extend : MtM X "list.extend" rExtend := by
  intro pins s σ H x vs v us Q I rx rv h
  obtain ⟨l, b, xs, zs, rfl, rfl, hH, hB, hz, q⟩ := h
  cases rx
  obtain ⟨u, rfl, ru⟩ := rv.one
  cases ru
  obtain ⟨z, its, n, r, hl, e⟩ := I.lstM hH
  obtain ⟨z2, its2, n2, r2, hl2, e2⟩ := I.lstM hB
  have hsz : its.toArray.size + its2.toArray.size ≤ sizeLine := by rw [List.size_toArray, List.size_toArray]; omega
  have hlong : ¬ (!its.toArray.isEmpty && Builtin.List.listTooLong (its.toArray.size + its2.toArray.size)) = true := by
    rw [notLongL hsz, Bool.and_false]
    exact Bool.false_ne_true
  refine call_meets F.slot_list_extend ⟨_, e, rfl⟩ F.entry_list_extend (F.args_list_extend_2 _ _)
    (AutoSeq1.list_extend_list_list_0 l its.toArray n b its2.toArray n2 hlong (by rw [List.size_toArray]; omega) (by omega)) ⟨e, e2, ?_⟩
  refine ⟨.non, _, I.lset (its' := its ++ its2) hH e (by simp) (r.append r2) ?_, rfl, q⟩
  rw [List.length_append]
  omega
end
section
variable {prog : Program} {w : World} {A : Around} {E : Value → Shared → Prop} {s : Shared}
end
section
variable {X : Cx}
end
end L2
namespace L2
open PySem PySem.Spec PyProof.Rows
section
variable {κ : Type} [DecidableEq κ]
def valV (kvs : List (κ × V)) (k : κ) : Option V := (kvs.find? fun kv => decide (kv.1 = k)).map (·.2)
def putK (kvs : List (κ × V)) (k : κ) (v : V) : List (κ × V) :=
  if (kvs.any fun kv => decide (kv.1 = k)) = true then kvs.map (fun kv => if kv.1 = k then (kv.1, v) else kv) else kvs ++ [(k, v)]
def dropK (kvs : List (κ × V)) (k : κ) : List (κ × V) := kvs.filter fun kv => decide (kv.1 ≠ k)
theorem valV_pos {p : κ × V} {r : List (κ × V)} {k : κ} (e : p.1 = k) : valV (p :: r) k = some p.2 := by simp [valV, List.find?_cons, e]
theorem valV_neg {p : κ × V} {r : List (κ × V)} {k : κ} (e : ¬ p.1 = k) : valV (p :: r) k = valV r k := by simp [valV, List.find?_cons, e]
theorem valV_any (k : κ) : ∀ kvs : List (κ × V), (kvs.any fun kv => decide (kv.1 = k)) = (valV kvs k).isSome
  | [] => rfl
  | p :: r => by
    rw [List.any_cons]
    by_cases e : p.1 = k
    · simp only [valV_pos e, decide_eq_true e, Bool.true_or, Option.isSome_some]
    · rw [valV_neg e, decide_eq_false e, Bool.false_or]; exact valV_any k r
theorem length_putK (kvs : List (κ × V)) (k : κ) (v : V) : (putK kvs k v).length ≤ kvs.length + 1 := by
  unfold putK
  split
  · rw [List.length_map]; omega
  · rw [List.length_append, List.length_cons, List.length_nil]; omega
theorem RelO.isSome_eq {o : Option V} {u : Option Value} (r : RelO o u) : o.isSome = u.isSome := by
  cases o with
  | none => cases u with
    | none => rfl
    | some _ => exact (show False from r).elim
  | some _ => cases u with
    | none => exact (show False from r).elim
    | some _ => rfl
theorem RelO.getD {o : Option V} {u : Option Value} {d : V} {d' : Value} (r : RelO o u) (rd : RelV d d') : RelV (o.getD d) (u.getD d') := by
  cases o with
  | none => cases u with
    | none => exact rd
    | some _ => exact (show False from r).elim
  | some _ => cases u with
    | none => exact (show False from r).elim
    | some _ => exact r
theorem KV.val {kvs : List (κ × V)} {vs : List (κ × Value)} (r : KV kvs vs) (k : κ) : RelO (valV kvs k) (valueAt vs k) := by
  unfold KV at r
  induction r with
  | nil => exact True.intro
  | @cons p q ps qs h t ih =>
    obtain ⟨h1, h2⟩ := h
    by_cases e : p.1 = k
    · have e' : q.1 = k := h1.symm.trans e
      have b : valueAt (q :: qs) k = some q.2 := by simp [valueAt, List.find?_cons, e']
      rw [valV_pos e, b]; exact h2
    · have e' : ¬ q.1 = k := fun z => e (h1.trans z)
      have b : valueAt (q :: qs) k = valueAt qs k := by simp [valueAt, List.find?_cons, e']
      rw [valV_neg e, b]; exact ih
theorem KV.any {kvs : List (κ × V)} {vs : List (κ × Value)} (r : KV kvs vs) (k : κ) : (kvs.any fun kv => decide (kv.1 = k)) = vs.any fun kv => decide (kv.1 = k) := by
  unfold KV at r
  induction r with
  | nil => rfl
  | cons h t ih => rw [List.any_cons, List.any_cons, ih, h.1]
theorem KV.repl {kvs : List (κ × V)} {vs : List (κ × Value)} (r : KV kvs vs) (k : κ) {y : V} {u : Value} (ry : RelV y u) :
    KV (kvs.map fun kv => if kv.1 = k then (kv.1, y) else kv) (vs.map fun kv => if kv.1 = k then (kv.1, u) else kv) := by
  unfold KV at r ⊢
  induction r with
  | nil => exact .nil
  | @cons p q ps qs h t ih =>
    rw [List.map_cons, List.map_cons]
    refine .cons ?_ ih
    obtain ⟨h1, h2⟩ := h
    by_cases e : p.1 = k
    · rw [if_pos e, if_pos (h1.symm.trans e)]; exact ⟨h1, ry⟩
    · rw [if_neg e, if_neg (fun z => e (h1.trans z))]; exact ⟨h1, h2⟩
theorem KV.put {kvs : List (κ × V)} {vs : List (κ × Value)} (r : KV kvs vs) (k : κ) {y : V} {u : Value} (ry : RelV y u) : KV (putK kvs k y) (stored vs k u) := by
  unfold putK stored
  rw [r.any k]
  by_cases e : (vs.any fun kv => decide (kv.1 = k)) = true
  · rw [if_pos e, if_pos e]; exact r.repl k ry
  · rw [if_neg e, if_neg e]; exact Paired.snoc r ⟨rfl, ry⟩
theorem KV.drop {kvs : List (κ × V)} {vs : List (κ × Value)} (r : KV kvs vs) (k : κ) : KV (dropK kvs k) (without vs k) := by
  unfold KV at r ⊢
  unfold dropK without
  induction r with
  | nil => exact .nil
  | @cons p q ps qs h t ih =>
    obtain ⟨h1, h2⟩ := h
    rw [List.filter_cons, List.filter_cons]
    by_cases e : p.1 = k
    · have a : ¬ decide (p.1 ≠ k) = true := by simp [e]
      have b : ¬ decide (q.1 ≠ k) = true := by simp [h1.symm.trans e]
      rw [if_neg a, if_neg b]; exact ih
    · have e' : ¬ q.1 = k := fun z => e (h1.trans z)
      have a : decide (p.1 ≠ k) = true := by simp [e]
      have b : decide (q.1 ≠ k) = true := by simp [e']
      rw [if_pos a, if_pos b]; exact .cons ⟨h1, h2⟩ ih
theorem KV.keys {kvs : List (κ × V)} {vs : List (κ × Value)} (r : KV kvs vs) : kvs.map (·.1) = vs.map (·.1) := by
  unfold KV at r
  induction r with
  | nil => rfl
  | cons h t ih => rw [List.map_cons, List.map_cons, ih, h.1]
theorem KV.length {kvs : List (κ × V)} {vs : List (κ × Value)} (r : KV kvs vs) : kvs.length = vs.length := Paired.length r
end
theorem kV_is {P : Program} {w : World} {k : Key} {u : Value} (r : RelV (kV k) u) : (mixKind P w).is k u = true := by
  cases k with
  | inl i => obtain ⟨t, e⟩ := (show ∃ t, u = Value.int i t from r); subst e; exact mixKind_int P w i t
  | inr x => obtain ⟨t, e⟩ := (show ∃ t, u = Value.str x t from r); subst e; exact mixKind_str P w x t
theorem items_are {P : Program} {w : World} : ∀ {ks : List Key} {us : List Value}, Vals (ks.map kV) us → ItemsAre (mixKind P w) ks us
  | [], _, r => by rw [List.map_nil] at r; cases r; exact .nil
  | k :: ks, _, r => by
    rw [List.map_cons] at r
    cases r with
    | cons h t => exact .cons (kV_is h) (items_are t)
abbrev KT (H : Hp) : List (List Key × V) → List (List Key × Addr × Value) → Prop := Paired fun p q => p.1 = q.1 ∧ H q.2.1 = some (.tup (p.1.map kV)) ∧ RelV p.2 q.2.2
theorem KT.val {H : Hp} {kvs : List (List Key × V)} {xs : List (List Key × Addr × Value)} (r : KT H kvs xs) (k : List Key) : RelO (valV kvs k) ((atKey xs k).map (·.2)) := by
  induction r with
  | nil => exact True.intro
  | @cons p q ps qs h t ih =>
    obtain ⟨h1, _, h2⟩ := h
    by_cases e : p.1 = k
    · have e' : q.1 = k := h1.symm.trans e
      have b : atKey (q :: qs) k = some q.2 := by simp [atKey, List.find?_cons, e']
      rw [valV_pos e, b]; exact h2
    · have e' : ¬ q.1 = k := fun z => e (h1.trans z)
      have b : atKey (q :: qs) k = atKey qs k := by simp [atKey, List.find?_cons, e']
      rw [valV_neg e, b]; exact ih
theorem KT.repl {H : Hp} {kvs : List (List Key × V)} {xs : List (List Key × Addr × Value)} (r : KT H kvs xs) (k : List Key) {y : V} {u : Value} (ry : RelV y u) :
    KT H (kvs.map fun kv => if kv.1 = k then (kv.1, y) else kv) (xs.map (putAt k u)) := by
  induction r with
  | nil => exact .nil
  | @cons p q ps qs h t ih =>
    rw [List.map_cons, List.map_cons]
    refine .cons ?_ ih
    obtain ⟨h1, h2, h3⟩ := h
    unfold putAt
    by_cases e : p.1 = k
    · rw [if_pos e, if_pos (h1.symm.trans e)]; exact ⟨h1, h2, ry⟩
    · rw [if_neg e, if_neg (fun z => e (h1.trans z))]; exact ⟨h1, h2, h3⟩
theorem KT.put {H : Hp} {kvs : List (List Key × V)} {xs : List (List Key × Addr × Value)} (r : KT H kvs xs) (k : List Key) {b : Addr} {y : V} {u : Value} (hb : H b = some (.tup (k.map kV))) (ry : RelV y u) :
    KT H (putK kvs k y) (storedH xs k b u) := by
  have e : (kvs.any fun kv => decide (kv.1 = k)) = (atKey xs k).isSome := by
    rw [valV_any, (r.val k).isSome_eq, Option.isSome_map]
  unfold putK storedH
  rw [e]
  by_cases q : (atKey xs k).isSome = true
  · rw [if_pos q, if_pos q]; exact r.repl k ry
  · rw [if_neg q, if_neg q]; exact Paired.snoc r ⟨rfl, hb, ry⟩
theorem KT.keeps {H H' : Hp} {kvs : List (List Key × V)} {xs : List (List Key × Addr × Value)} (r : KT H kvs xs) (ht : ∀ b ys, H b = some (.tup ys) → H' b = some (.tup ys)) : KT H' kvs xs :=
  Paired.mapP r fun _ _ z => ⟨z.1, ht _ _ z.2.1, z.2.2⟩
section
variable {P : Program} {w : World} {H : Hp} {h : Heap} {a : Addr}
theorem rd_of {u : HO} (ok : HOk P w H h) (e : Rd H a u) : ObjOk P w H h a u := e.ok ok
theorem dk_rd {kvs : List (Key × V)} (ok : HOk P w H h) (e : Rd H a (.dK kvs)) : kvs.length ≤ sizeLine ∧ (a == sysModules) = false ∧ ∃ vs, KV kvs vs ∧ h.DictOf (mixKind P w) a vs :=
  show ObjOk P w H h a (.dK kvs) from rd_of ok e
theorem dk_of {kvs : List (Key × V)} (ok : HOk P w H h) (e : H a = some (.dK kvs)) : kvs.length ≤ sizeLine ∧ (a == sysModules) = false ∧ ∃ vs, KV kvs vs ∧ h.DictOf (mixKind P w) a vs := dk_rd ok (.inl e)
theorem key_of {ks : List Key} (ok : HOk P w H h) (e : H a = some (.tup (ks.map kV))) : (tupleKind (mixKind P w)).is h ks a := by
  obtain ⟨_, its, r, o, h1, h2, n, h3⟩ := (show ObjOk P w H h a (.tup (ks.map kV)) from ok a _ e)
  exact ⟨o, its.toArray, n, h1, h2, h3, by simpa using items_are r⟩
theorem dt_rd {kvs : List (List Key × V)} (ok : HOk P w H h) (e : Rd H a (.dT kvs)) : kvs.length ≤ sizeLine ∧ (a == sysModules) = false ∧
    ∃ xs, KT H kvs xs ∧ h.DictOfH (tupleKind (mixKind P w)) a xs := by
  obtain ⟨z, y, xs, r, o, es, ep, h1, h2, h3, h4, h5⟩ := (show ObjOk P w H h a (.dT kvs) from rd_of ok e)
  refine ⟨z, y, xs, r, o, es, ep, h1, h2, h3, h4, fun x hx => ?_, h5⟩
  have all : ∀ {l : List (List Key × V)} {m : List (List Key × Addr × Value)}, KT H l m → ∀ x ∈ m, (tupleKind (mixKind P w)).is h x.1 x.2.1 := by
    intro l m q
    induction q with
    | nil => intro x hx; exact nomatch hx
    | @cons p q ps qs hq t ih =>
      intro x hx
      rcases List.mem_cons.mp hx with e | hx
      · subst e
        exact key_of ok (by rw [← hq.1]; exact hq.2.1)
      · exact ih x hx
  exact all r x hx
end
def DGet (H : Hp) (a : Addr) (y : V) (r : Option V) : Prop :=
  (∃ kvs k, Rd H a (.dK kvs) ∧ y = kV k ∧ r = valV kvs k) ∨ ∃ kvs k b, Rd H a (.dT kvs) ∧ y = .ref b ∧ H b = some (.tup (k.map kV)) ∧ r = valV kvs k
def DPut (H : Hp) (a : Addr) (y v : V) (H' : Hp) : Prop :=
  (∃ kvs k, H a = some (.dK kvs) ∧ y = kV k ∧ kvs.length < sizeLine ∧ H' = upd H a (.dK (putK kvs k v))) ∨
  ∃ kvs k b, H a = some (.dT kvs) ∧ y = .ref b ∧ H b = some (.tup (k.map kV)) ∧ kvs.length < sizeLine ∧ H' = upd H a (.dT (putK kvs k v))
theorem DGet.k {H : Hp} {a : Addr} {kvs : List (Key × V)} {k : Key} (e : H a = some (.dK kvs)) : DGet H a (kV k) (valV kvs k) := .inl ⟨kvs, k, .inl e, rfl, rfl⟩
theorem DGet.t {H : Hp} {a b : Addr} {kvs : List (List Key × V)} {k : List Key} (e : H a = some (.dT kvs)) (eb : H b = some (.tup (k.map kV))) : DGet H a (.ref b) (valV kvs k) := .inr ⟨kvs, k, b, .inl e, rfl, eb, rfl⟩
theorem DPut.k {H : Hp} {a : Addr} {kvs : List (Key × V)} {k : Key} {v : V} (e : H a = some (.dK kvs)) (hl : kvs.length < sizeLine) : DPut H a (kV k) v (upd H a (.dK (putK kvs k v))) := .inl ⟨kvs, k, e, rfl, hl, rfl⟩
theorem DPut.t {H : Hp} {a b : Addr} {kvs : List (List Key × V)} {k : List Key} {v : V} (e : H a = some (.dT kvs)) (eb : H b = some (.tup (k.map kV))) (hl : kvs.length < sizeLine) :
    DPut H a (.ref b) v (upd H a (.dT (putK kvs k v))) := .inr ⟨kvs, k, b, e, rfl, eb, hl, rfl⟩
section
variable {X : Cx} {pins : List (Addr × Obj)} {σ : St} {H : Hp} {s : Shared} {a : Addr} {y v : V} {u r : Value} {o : Option V} {A : Around} {E : Value → Shared → Prop}
theorem Inv.big (I : Inv X pins σ H s) : sysModules < s.heap.objs.size := by
  have h : mainGlobals < s.heap.objs.size := (I.mod.glob.keeps I.bk).lt
  exact Nat.lt_trans (by decide) h
theorem d_getItem {Q : Value → Shared → Prop} (hu : A.units + 1 < cLine) (I : Inv X pins σ H s) (g : DGet H a y (some v)) (ry : RelV y u) (h : ∀ w' s', Inv X pins σ H s' → RelV v w' → Q w' s') :
    wpAny (model X.prog X.w) A (getItem (.ref a) u) Q E s := by
  rcases g with ⟨kvs, k, e, ey, l⟩ | ⟨kvs, k, b, e, ey, eb, l⟩
  · subst ey
    obtain ⟨z, hd, vs, rel, dd⟩ := dk_rd I.hok e
    obtain ⟨w', hw, rw'⟩ := RelO.some_of (v := v) (o := valueAt vs k) (by rw [l]; exact rel.val k)
    exact wpAny_getItem_of (kV_is ry) dd.mapOf hw (h w' _ (I.tok _) rw')
  · subst ey
    cases (show u = Value.ref b from ry)
    obtain ⟨z, hd, xs, rel, dd⟩ := dt_rd I.hok e
    obtain ⟨w', hw, rw'⟩ := RelO.some_of (v := v) (o := (atKey xs k).map (·.2)) (by rw [l]; exact rel.val k)
    obtain ⟨p, hp, hp2⟩ := Option.map_eq_some_iff.mp hw
    refine wpAny_getItem_heap (tupleKind_room_in1 hu) (key_of I.hok eb) dd hp ?_
    rw [hp2]
    exact h w' _ (I.tok _) rw'
theorem d_write {h' : Heap} {t' : Nat} {ob : HO} (I : Inv X pins σ H s) (mu : Mut (H a)) (hs : Heap.SameBut a s.heap h') (he : ∃ q, h'.get? a = some q) (new : ObjOk X.prog X.w (upd H a ob) h' a ob) :
    Inv X pins σ (upd H a ob) { s with heap := h', toks := t' } :=
  I.write (x := a) (e := a) mu (.inl rfl) (fun b q hb z => (hs.2 b hb).trans z) he new
theorem dk_new {P : Program} {w : World} {H' : Hp} {h' : Heap} {kvs : List (Key × V)} {vs : List (Key × Value)} (z : kvs.length ≤ sizeLine) (hd : (a == sysModules) = false) (rel : KV kvs vs) (dd : h'.DictOf (mixKind P w) a vs) :
    ObjOk P w H' h' a (.dK kvs) := ⟨z, hd, vs, rel, dd⟩
end
section
variable {X : Cx} {pins : List (Addr × Obj)} {σ : St} {H : Hp} {s : Shared} {a : Addr} {kvs : List (Key × V)} {k : Key} {u : Value} {A : Around} {E : Value → Shared → Prop}
end
def NoSl (i : Expr) : Prop := ∀ ov iv, subscripted i false ov iv = operate [ov, iv] (getItem ov iv)
theorem subD_of {prog : Program} {w : World} {A : Around} {E : Value → Shared → Prop} {s : Shared} {env : Env} {value slice : Expr} {pos : Pos} {T id : String} {Q : Value → Shared → Prop}
    (hl : typeLookup (.type T) "__getitem__" = pure (some (.builtin id))) (hs : NoSl slice)
    (h : wpAny (model prog w) A (eval value env) (fun o s₁ => wpAny (model prog w) A (eval slice env) (fun i s₂ => s₂.TypeIs o T ∧ wpAny (model prog w) A (getItem o i) Q E s₂) E s₁) E s) :
    wpAny (model prog w) A (eval (.Subscript value slice pos) env) Q E s := by
  refine Subscript_ (wpAny_mono h (fun o s₁ h₁ => wpAny_mono h₁ (fun i s₂ h₂ => ?_) fun _ _ x => x) fun _ _ x => x)
  obtain ⟨hT, h₂⟩ := h₂
  unfold subscriptTail
  refine wpAny_bind ?_
  rw [getitemInPython_of_ne hT.not_modules]
  refine wpAny_bind (wpAny_specialOf hT hl ?_)
  have fin : wpAny (model prog w) A (subscripted slice false o i) (fun r s₃ => wpAny (model prog w) A (letTemporaryGo value o r >>= fun _ => pure r) Q E s₃) E s₂ := by
    rw [hs o i]
    exact wpAny_operating (wpAny_mono h₂ (fun r s₃ h₃ => wpAny_bind (wpAny_letTemporaryGo (wpAny_pure h₃))) fun _ _ x => x)
  first
    | exact wpAny_pure (wpAny_bind fin)
    | exact wpAny_bind (wpAny_pure (wpAny_bind fin))
    | exact wpAny_bind fin
theorem dict_typeIs {X : Cx} {pins : List (Addr × Obj)} {σ : St} {H : Hp} {s : Shared} {a : Addr} {y : V} {o : Option V} (I : Inv X pins σ H s) (g : DGet H a y o) : s.TypeIs (.ref a) "dict" := by
  rcases g with ⟨kvs, k, e, _, _⟩ | ⟨kvs, k, b, e, _, _, _⟩
  · obtain ⟨_, _, vs, _, dd⟩ := dk_rd I.hok e
    exact dd.typeIs
  · obtain ⟨_, _, xs, _, dd⟩ := dt_rd I.hok e
    exact dd.typeIs
def tDGet (td ty : TE) : TE := fun σ H Q => td σ H fun x H1 => ty σ H1 fun y H2 => ∃ a v, x = .ref a ∧ DGet H2 a y (some v) ∧ Q v H2
section
variable {X : Cx} {o i e value : Expr} {pos pos' tpos : Pos} {td ty tv : TE}
theorem pe_dget (hu : X.A.units + 1 < cLine) (ho : PE X o td) (hi : PE X i ty) (hs : NoSl i) : PE X (.Subscript o i pos) (tDGet td ty) := by
  intro pins s σ H Q I h
  refine subD_of PySem.F.slot_dict_getitem.lookup hs (thn (ho pins s σ H _ I h) fun u s1 ⟨x, H1, I1, rx, q1⟩ => thn (hi pins s1 σ H1 _ I1 q1) fun iv s2 ⟨y, H2, I2, ry, a, v, ex, g, q2⟩ => ?_)
  subst ex
  obtain rfl : u = Value.ref a := rx
  exact ⟨dict_typeIs I2 g, d_getItem hu I2 g ry fun w' s3 I3 rw' => ⟨v, H2, I3, rw', q2⟩⟩
end
section
variable {X : Cx} {pos : Pos}
end
structure M1 (X : Cx) (o : Expr) (m : Str) (apos : Pos) (e : Expr) (cpos : Pos) : Prop where
  base : attributeBase o m X.env (eval o X.env) = eval o X.env
  few : ((backTo cpos (starEach [e] X.env)).all (fun x => !x.1) && (backToKw cpos (keywordEach [] X.env)).all (fun x => x.1.isSome)
    && decide (([e] : List Expr).length + ([] : List Keyword).length + (if ([] : List Keyword).isEmpty then 0 else 1) < 30)) = true
  line : (apos.endLine == cpos.line) = true
  trees : backTo cpos (starEach [e] X.env) = [(false, eval e X.env)]
structure M2 (X : Cx) (o : Expr) (m : Str) (apos : Pos) (e f : Expr) (cpos : Pos) : Prop where
  base : attributeBase o m X.env (eval o X.env) = eval o X.env
  few : ((backTo cpos (starEach [e, f] X.env)).all (fun x => !x.1) && (backToKw cpos (keywordEach [] X.env)).all (fun x => x.1.isSome)
    && decide (([e, f] : List Expr).length + ([] : List Keyword).length + (if ([] : List Keyword).isEmpty then 0 else 1) < 30)) = true
  line : (apos.endLine == cpos.line) = true
  trees : backTo cpos (starEach [e, f] X.env) = [(false, eval e X.env), (false, eval f X.env)]
section
variable {X : Cx} {pins : List (Addr × Obj)} {σ : St} {H : Hp} {s : Shared} {a : Addr} {y d : V} {u r : Value} {o : Option V} {A : Around} {E : Value → Shared → Prop}
end
section
variable {X : Cx} {o e f : Expr} {apos cpos : Pos} {td ty tx : TE}
end
section
variable {X : Cx} {pins : List (Addr × Obj)} {σ : St} {H : Hp} {s : Shared} {a : Addr} {kvs : List (Key × V)} {A : Around} {E : Value → Shared → Prop}
end
section
variable {X : Cx} {pins : List (Addr × Obj)} {σ : St} {H : Hp} {s : Shared} {a : Addr} {y : V} {u : Value} {A : Around} {E : Value → Shared → Prop}
end
end L2
namespace Att
open PySem PySem.W PySem.Calls PyProof.Rows
theorem ints_of_wellAll {P : Params} {h : Heap} : ∀ (ns : List Int) (vs : List Value), WellAll P h vs (ns.map WData.int) → IntsAre vs ns := by
  intro ns
  induction ns with
  | nil =>
    intro vs w
    rw [List.map_nil] at w
    cases w
    exact .nil
  | cons n ns ih =>
    intro vs w
    rw [List.map_cons] at w
    cases w with
    | cons a b =>
      cases a
      exact .cons _ _ (ih _ b)
theorem script_of {l : OpenLaw} {n : Nat} (hn : l.most = some n) {P : Params} {h : Heap} {args : List WData} {vals : List Value}
    (hpre : l.row.toRowW.claim.pre args = true) (hwl : WellAll P h vals args) :
    ∃ a vs ns, vals = [Value.ref a] ∧ args = [WData.list (ns.map WData.int)] ∧ h.get? a = some { cls := .type "list", data := .seq vs.toArray } ∧ IntsAre vs ns ∧ ns.length ≤ n := by
  have hsh : WShape.hasAll [] args [.list .int] = true := (pre_splitW hpre).1
  have hc : l.pre.holds [] { args := args } = true := (pre_splitW hpre).2
  obtain ⟨d, r, rfl, h1, h2⟩ := hasAllW_cons hsh
  obtain rfl := hasAllW_nil h2
  obtain ⟨xs, rfl, h3⟩ := hasW_list h1
  obtain ⟨ns, rfl⟩ := items_int h3
  have hlen : ns.length ≤ n := by
    unfold OpenLaw.pre at hc
    have h4 : (WTm.not (.lt (.lit (.int (n : Int))) (.len (.arg 0)))).holds [] { args := [.list (ns.map .int)] } = true := by
      have h4 := (holds_andW hc).1
      rw [hn] at h4
      exact h4
    have h5 := condW_of h4 (w_not (w_lt w_lit (w_len_list (w_arg rfl))))
    rw [List.length_map] at h5
    refine Nat.le_of_not_lt fun q => ?_
    have q' : (n : Int) < ((ns.length : Nat) : Int) := by omega
    first
      | (rw [decide_eq_true q'] at h5; exact absurd h5 (by decide))
      | (simp at h5; omega)
  cases hwl with
  | cons w1 w2 =>
    cases w2
    cases w1 with
    | list ho hall => exact ⟨_, _, ns, rfl, rfl, ho, ints_of_wellAll ns _ hall, hlen⟩
theorem post_true (l : OpenLaw) (args : List WData) : l.row.toRowW.claim.post args (.bool true) args = true :=
  postW_of (r := l.row.toRowW) (X := (true == true))
    (show WShape.has [] (.bool true) .bool = true by first | rfl | decide | simp [WShape.has, WShape.arms, WShape.armsAll])
    (show (WTm.eq .res (.lit (.bool true))).value [] { args := args, res := some (.bool true), after := args } = some (.bool (true == true)) from w_eq_bool (w_res rfl) w_lit) rfl
theorem attach_call {l : OpenLaw} {n : Nat} {q : Program} {loose : List Str} {XP : (Str → Option Value) → Heap → Prop} {YP : World → Heap → Prop} {d : DefRec}
    (hn : l.most = some n) (hdf : d.params.defaults = [])
    (call : ∀ (w : World) (s₀ s₁ : Shared) (mg mb : Str → Option Value) (fa : Addr) (o : Obj) (pm cd doc : Value) (a : Addr) (vs : List Value) (ns : List Int),
      Ground q loose [] XP w s₀ mg mb s₁.heap → YP w s₁.heap →
      s₁.heap.get? fa = some o → o.data = .func (docDef d.name d.params d.body d.scope pm cd doc) → s₁.heap.CodeRec cd d.name → mg d.name = some (.ref fa) →
      s₁.heap.get? a = some { cls := .type "list", data := .seq vs.toArray } → IntsAre vs ns → ns.length ≤ n → s₁.gens = #[] →
      codeAny (model l.prog w) callerA (.call (.ref fa) ⟨[.ref a], []⟩) (fun r s' => r = .ok (.ret (.bool true)) ∧ OldK s₁.heap s'.heap ∧ s'.os = s₁.os ∧ AllBare s'.gens) s₁) :
    WalkO q loose XP YP l.row.toRowW d [] (fun f vs => PySem.call f vs) := by
  intro w s₀ s₁ mg mb G Y fa o pm cd doc dV kV ho hd hcd hD hmg hg args vals as hpre hlay hrd hwl hlo
  obtain rfl : dV = .none := Dflts.none hD hdf
  obtain rfl : kV = .none := Dflts.noKw hD
  obtain ⟨a, vs, ns, rfl, rfl, hobj, hints, hlen⟩ := script_of hn hpre hwl
  refine enter_call (codeAny_mono (call w s₀ s₁ mg mb fa o pm cd doc a vs ns G Y ho (fd_plain hd) hcd hmg hobj hints hlen hg) fun r s' hq => ?_)
  obtain ⟨rfl, h2, h3, h4⟩ := hq
  exact ⟨.inl ⟨.bool true, .bool true, [], rfl, fun _ => rfl, .bool true, post_true l _, fun _ => ⟨List.Pairwise.nil, fun _ hm => (nomatch hm)⟩⟩, h2, h3, h4⟩
section
variable {prog : Program} {w : World} {A : Around} {E : Value → Shared → Prop} {s : Shared} {K : Frag}
end
end Att
namespace L2
open PySem PySem.Spec PyProof.Rows
theorem vals_ints : ∀ {vs : List Value} {ns : List Int}, IntsAre vs ns → Vals (ns.map V.int) vs
  | _, _, .nil => .nil
  | _, _, .cons n t h => .cons ⟨t, rfl⟩ (vals_ints h)
def Only (H : Hp) : Prop := ∀ b, H b = none ∨ ∃ o xs, H b = some (.frz o (.lst xs))
theorem law_call {P : Program} {w : World} {K : PySem.W.Frag} {mg mb : Str → Option Value} {CX : CXT} {k : Nat} {fa a : Addr} {fd : FuncData} {x : Str} {sp : Sp} {s₁ : Shared} {vs : List Value} {ns : List Int}
    (KX : K.In s₁.heap) (hns : s₁.heap.Ns mainGlobals mg) (hb : s₁.heap.Ns builtinsNs mb) (hbb : ∀ x : Str, x ≠ "__name__" → mb x = bootBuiltins x) (hlim : s₁.heap.NoLimit) (hg : s₁.gens = #[])
    (ha : s₁.heap.get? a = some { cls := .type "list", data := .seq vs.toArray }) (hi : IntsAre vs ns) (hl : ns.length ≤ sizeLine) (hr : Room k callerA)
    (F : ∀ base : Heap, K.In base → base.Ns mainGlobals mg → FnOk P w K mg base CX k fa fd [x] sp) (hbind : ∀ (s : Shared) (u : Value), BindsTo s fd ⟨[u], []⟩ [(x, u)])
    (hsp : ∀ H : Hp, Only H → SqL K H a (ns.map V.int) → sp [.ref a] H (fun v _ => v = .bl true) fun _ _ _ => False)
    (hCX : ∀ H e s', CX [] H s₁ (fun _ _ _ => False) e s' → False) :
    codeAny (model P w) callerA (.call (.ref fa) ⟨[.ref a], []⟩) (fun r s' => r = .ok (.ret (.bool true)) ∧ OldK s₁.heap s'.heap ∧ s'.os = s₁.os ∧ AllBare s'.gens) s₁ := by
  have rv := vals_ints hi
  have lenV := hi.length
  have core : ∀ H : Hp, Only H → SqL K H a (ns.map V.int) → HOk P w H s₁.heap → (∀ b, H b ≠ none → b = a) → (H a ≠ none → K.lookup a = none) →
      codeAny (model P w) callerA (.call (.ref fa) ⟨[.ref a], []⟩) (fun r s' => r = .ok (.ret (.bool true)) ∧ OldK s₁.heap s'.heap ∧ s'.os = s₁.os ∧ AllBare s'.gens) s₁ := by
    intro H hO hS hok hA hK
    have base_of : ∀ {b : Addr} {o : Obj}, s₁.heap.get? b = some o → H b = none → (hidT s₁.heap H).get? b = some o := fun e n => hidT_get e n
    have noA : ∀ {b : Addr} {o : Obj} {es : Array DictEntry} {ep : Nat}, s₁.heap.get? b = some o → o.data = .dict es ep → H b = none := fun {b o es ep} e d => by
      cases q : H b with
      | none => rfl
      | some u =>
        have e' : b = a := hA b (by rw [q]; simp)
        subst e'
        rw [ha] at e; cases e
        have d' : Data.seq vs.toArray _ = Data.dict es ep := d
        cases d'
    have nsK : ∀ {b : Addr} {m : Str → Option Value}, s₁.heap.Ns b m → (hidT s₁.heap H).Ns b m := fun {b m} ⟨o, es, ep, e, d, r⟩ => ⟨o, es, ep, base_of e (noA e d), d, r⟩
    have hKb : K.In (hidT s₁.heap H) := fun b o e => base_of (KX b o e) (by
      cases q : H b with
      | none => rfl
      | some u =>
        have e' : b = a := hA b (by rw [q]; simp)
        subst e'
        rw [hK (by rw [q]; simp)] at e; cases e)
    have hM : Mod K mg (hidT s₁.heap H) := ⟨hKb, nsK hns, ⟨mb, nsK hb, hbb⟩, let ⟨mc, h1, h2⟩ := hlim; ⟨mc, nsK h1, h2⟩⟩
    have e0 : Env0 P w K mg (hidT s₁.heap H) callerA [] s₁ H := ⟨rfl, hM, fun b o e => of_hidT e, Nat.le_of_eq (hidT_size _ _), trivial, fun b hb => absurd (show b ∈ ([] : List Addr) from hb) (by simp), hok, .of_eq hg⟩
    refine codeAny_mono ((F _ hKb (nsK hns)).run callerA [] s₁ H ⟨[.ref a], []⟩ [.ref a] [.ref a] _ _ hr e0 (hbind s₁ (.ref a)) (.cons rfl .nil) (hsp H hO hS)) fun r s' h => ?_
    cases r with
    | error e => exact (hCX H e s' h).elim
    | ok fl =>
      cases fl with
      | next => exact False.elim h
      | brk => exact False.elim h
      | cont => exact False.elim h
      | ret u =>
        obtain ⟨v, H', os, bare, un, hok', r', q⟩ := h
        have q' : v = .bl true := q
        subst q'
        obtain rfl : u = Value.bool true := r'
        refine ⟨rfl, OldK.of_keep fun b o e => ?_, os, bare⟩
        cases q : H b with
        | none => exact un.keep b o e q (by intro z; exact absurd (show b ∈ ([] : List Addr) from z) (by simp)) (by simp)
        | some u =>
          rcases hO b with z | ⟨ob, xs, z⟩
          · rw [q] at z; cases z
          · have z2 := un.frzs b ob _ z
            obtain ⟨e1, _⟩ := hok b _ z
            obtain ⟨e2, _⟩ := hok' b _ z2
            rw [e] at e1; cases e1
            exact e2
  cases hk : K.lookup a with
  | some o =>
    have e := KX a o hk
    rw [ha] at e
    cases e
    refine core (fun _ => none) (fun _ => .inl rfl) (.inr ⟨_, vs.toArray, _, hk, rfl, rfl, rfl, by rw [List.size_toArray, lenV]; exact hl, by simpa using rv⟩) (fun b u z => by have z' : (none : Option HO) = some u := z; cases z') (fun b z => absurd rfl z) fun z => absurd rfl z
  | none =>
    refine core (fun b => if b = a then some (.frz { cls := .type "list", data := .seq vs.toArray } (.lst (ns.map V.int))) else none) (fun b => ?_) (.inl (.inr ⟨{ cls := .type "list", data := .seq vs.toArray }, if_pos rfl⟩)) (fun b u z => ?_) (fun b z => ?_) fun _ => hk
    · by_cases hb : b = a
      · exact .inr ⟨_, _, if_pos hb⟩
      · exact .inl (if_neg hb)
    · by_cases hb : b = a
      · have z' := (if_pos hb).symm.trans z
        cases z'
        subst hb
        exact ⟨ha, by rw [List.length_map]; exact hl, vs, _, rv, ha⟩
      · have z' := (if_neg hb).symm.trans z
        cases z'
    · by_cases hb : b = a
      · exact hb
      · exact absurd (if_neg hb) z
end L2
namespace L2
open PySem PySem.Spec PyProof.Rows
theorem walk_of {l : PySem.W.OpenLaw} {n k : Nat} {q : Program} {loose : List Str} {XP : (Str → Option Value) → Heap → Prop} {YP : World → Heap → Prop} {d : DefRec} {K : Params → PySem.W.Frag} {CX : World → CXT} {sp : World → Sp} {x : Str}
    (hn : l.most = some n) (hn2 : n ≤ sizeLine) (hdf : d.params.defaults = []) (hr : Room k callerA)
    (hY : ∀ (w : World) (h : Heap), YP w h → (K w.params).In h)
    (F : ∀ (w : World) (mg : Str → Option Value) (fa : Addr) (h : Heap), (K w.params).In h → h.Ns mainGlobals mg → mg d.name = some (.ref fa) →
      ∃ fd : FuncData, (∀ (s : Shared) (u : Value), BindsTo s fd ⟨[u], []⟩ [(x, u)]) ∧
        ∀ base : Heap, (K w.params).In base → base.Ns mainGlobals mg → FnOk l.prog w (K w.params) mg base (CX w) k fa fd [x] (sp w))
    (hsp : ∀ (w : World) (H : Hp) (a : Addr) (ns : List Int), ns.length ≤ n → Only H → SqL (K w.params) H a (ns.map V.int) → sp w [.ref a] H (fun v _ => v = .bl true) fun _ _ _ => False)
    (hCX : ∀ (w : World) (H : Hp) (s : Shared) (e : Value) (s' : Shared), CX w [] H s (fun _ _ _ => False) e s' → False) :
    PySem.W.WalkO q loose XP YP l.row.toRowW d [] (fun f vs => PySem.call f vs) := by
  refine Att.attach_call hn hdf fun w s₀ s₁ mg mb fa o pm cd doc a vs ns G Y ho hd hcd hmg hobj hints hlen hg => ?_
  have KX := hY w _ Y
  obtain ⟨fd, hb, hF⟩ := F w mg fa _ KX G.T.g hmg
  exact law_call KX G.T.g G.T.b G.T.builtins G.T.nolimit hg hobj hints (Nat.le_trans hlen hn2) hr hF hb (fun H hO hS => hsp w H a ns hlen hO hS) fun H e s' => hCX w H s₁ e s'
end L2
namespace L2
open PySem PySem.Spec PyProof.Rows
def inClass (s : Stmt) (j : Nat) : Stmt := match s with
  | .ClassDef _ _ _ body _ _ _ _ _ _ _ => body.getD j (.Pass ⟨0, 0, 0, 0⟩)
  | _ => .Pass ⟨0, 0, 0, 0⟩
def defArgs (s : Stmt) : Arguments := match s with
  | .FunctionDef _ a _ _ _ _ _ _ _ _ => a
  | _ => { posonlyargs := [], args := [], vararg := none, kwonlyargs := [], kw_defaults := [], kwarg := none, defaults := [] }
def defBody (s : Stmt) : List Stmt := match s with
  | .FunctionDef _ _ b _ _ _ _ _ _ _ => b
  | _ => []
def defScope (s : Stmt) : Scope := match s with
  | .FunctionDef _ _ _ _ _ _ sc _ _ _ => sc
  | _ => { kind := .function, names := [], isGenerator := false, isCoroutine := false }
abbrev CX0 : CXT := fun _ _ _ _ _ _ => False
abbrev E0 : XK := fun _ _ _ => False
theorem pass0 {X : Cx} : Passes CX0 X E0 := fun _ _ _ _ _ _ _ h => h.elim
structure Fun (K : PySem.W.Frag) (x qual : Str) (st : Stmt) (f : Addr) (fd : FuncData) : Prop where
  ex : ∃ (oc : Value) (od : Option Addr) (kV doc pm : Value) (an : Option Addr) (cdv ct : Value) (osl : Array (Option Value)),
    fd = PySem.W.fnOf x qual (defArgs st) (defBody st) (defScope st) .none kV doc pm an cdv ct ∧ K.lookup f = some ⟨oc, od, .func fd, osl⟩ ∧ PySem.W.codeIn K cdv qual = true
  kp : PySem.W.keepIn K (.ref f) = true
section
variable {P : Program} {w : World} {K : PySem.W.Frag} {mg : Str → Option Value} {base : Heap}
theorem Fun.ok {x qual : Str} {st : Stmt} {f : Addr} {fd : FuncData} {N ps : List Str} {k : Nat} {sp : Sp} (F : Fun K x qual st f fd) (S : FnScope N ps (defScope st)) (len : ∀ vs H Q E, sp vs H Q E → vs.length = ps.length)
    (hbody : ∀ (cdv : Value) (A : Around) (outer : List Env) (s : Shared) (H : Hp) (vs : List V) (Q : VK) (E : XK), Room k (A.deeper (envOfC qual (defScope st) s.heap.objs.size f cdv)) → sp vs H Q E →
      ∃ t, PSs (cxOf CX0 P w K mg base N qual (defScope st) f cdv A outer s H E).nox (defBody st) t ∧ t { nx := fun _ H' => Q .non H', rt := Q } (start N vs) H) : FnOk P w K mg base CX0 (k + 1) f fd ps sp := by
  obtain ⟨oc, od, kV, doc, pm, an, cdv, ct, osl, rfl, lk, hcd⟩ := F.ex
  refine fn_of lk hcd S len fun A outer s H vs Q E hr hsp => ?_
  obtain ⟨t, h, q⟩ := hbody cdv A outer s H vs Q E hr hsp
  exact ⟨t, h.nox, q⟩
theorem Fun.binds {x qual : Str} {st : Stmt} {f : Addr} {fd : FuncData} {ps : List Str} (F : Fun K x qual st f fd)
    (h : ∀ (kV doc pm : Value) (an : Option Addr) (cdv ct : Value) (us : List Value), us.length = ps.length → bindArgs (PySem.W.fnOf x qual (defArgs st) (defBody st) (defScope st) .none kV doc pm an cdv ct) ⟨us, []⟩ = pure (ps.zip us)) : Binds K fd ps [] := by
  obtain ⟨oc, od, kV, doc, pm, an, cdv, ct, osl, rfl, lk, hcd⟩ := F.ex
  exact .all (h kV doc pm an cdv ct)
theorem fun_mk {x qual : Str} {st : Stmt} {f : Addr} {oc : Value} {od an : Option Addr} {osl : Array (Option Value)} {kV doc pm cdv ct : Value} (l : K.lookup f = some ⟨oc, od, .func (PySem.W.fnOf x qual (defArgs st) (defBody st) (defScope st) .none kV doc pm an cdv ct), osl⟩)
    (c : PySem.W.codeIn K cdv qual = true) (k : PySem.W.keepIn K (.ref f) = true) : Fun K x qual st f (PySem.W.fnOf x qual (defArgs st) (defBody st) (defScope st) .none kV doc pm an cdv ct) := ⟨⟨oc, od, kV, doc, pm, an, cdv, ct, osl, rfl, l, c⟩, k⟩
end
theorem small1000 {n : Nat} (h : n ≤ 1000) : n < sizeLine := Nat.lt_of_le_of_lt h (by decide)
section
variable {X : Cx}
end
theorem ite2 {c A B : Prop} [Decidable c] (h1 : c → A) (h2 : ¬ c → B) : if c then A else B := by
  by_cases h : c
  · rw [if_pos h]
    exact h1 h
  · rw [if_neg h]
    exact h2 h
def Same (H H' : Hp) : Prop := ∀ b o, H b = some o → H' b = some o
theorem Same.refl (H : Hp) : Same H H := fun _ _ h => h
theorem Same.trans {H H1 H2 : Hp} (a : Same H H1) (b : Same H1 H2) : Same H H2 := fun c o h => b c o (a c o h)
theorem Same.free {H H' : Hp} (e : Same H H') {l : Addr} (h : H' l = Option.none) : H l = Option.none := by
  cases q : H l with
  | none => rfl
  | some o =>
    rw [e l o q] at h
    cases h
theorem Same.seq {K : PySem.W.Frag} {H H' : Hp} {a : Addr} {xs : List V} (e : Same H H') (h : SqL K H a xs) : SqL K H' a xs := by
  rcases h with (h | ⟨o, h⟩) | h
  · exact .inl (.inl (e _ _ h))
  · exact .inl (.inr ⟨o, e _ _ h⟩)
  · exact .inr h
section
variable {X : Cx}
end
section
variable {κ : Type} [DecidableEq κ]
end
end L2
set_option Elab.async false
set_option linter.all false
set_option maxRecDepth 100000
namespace L2
open PySem PySem.Spec PyProof.Rows
section
variable {X : Cx}
def CDv (_ j : Int) : Prop := 0 < j ∧ j < 10 ^ 100
theorem op_fdivP : OpR X (binaryOp .FloorDiv) (rI CDv fun i j => .int (i / j)) := opI fun i j _ _ _ _ _ hc q => by
  have h0 : 0 < j := hc.1
  have h1 : j < 10 ^ 100 := hc.2
  refine floordiv_int (by omega) ?_ (.inl (PyProof.noPylong_of_log2 ?_))
  · rw [Int.fdiv_eq_ediv_of_nonneg _ (by omega)]
    exact q
  · have h2 : j.natAbs < 10 ^ 100 := by omega
    have h3 : (10 : Nat) ^ 100 ≤ 2 ^ 9000 := by decide +kernel
    exact (Nat.log2_lt (by omega)).mpr (Nat.lt_of_lt_of_le h2 h3)
end
structure Callee (P : Program) (w : World) (K : PySem.W.Frag) (mg : Str → Option Value) (base : Heap) (x : Str) (k : Nat) (ps : List Str) (sp : Sp) : Prop where
  ex : ∃ (f : Addr) (fd : FuncData), FnOk P w K mg base CX0 k f fd ps sp ∧ Binds K fd ps [] ∧ PySem.W.keepIn K (.ref f) = true ∧ mg x = some (.ref f)
section
variable {X : Cx} {x : Str} {k : Nat} {ps : List Str} {sp : Sp} {e : Expr} {es : List Expr} {t : TA} {p pos : Pos}
theorem pe_callF (C : Callee X.prog X.w X.K X.mg X.base x k ps sp) (hr : Room k X.A) (hg : Gl X x) (ha : PA X (e :: es) t)
    (hdb : (x == ("__debug__" : Str)) = false := by decide) (he : starEach (e :: es) X.env = (false, eval e X.env) :: starEach es X.env := by rfl) (hpl : (backTo pos (starEach es X.env)).any (·.1) = false := by rfl) :
    PE X (.Call (.Name x p) (e :: es) [] pos) (tCall sp [] E0 t) := by
  intro pins s σ H Q I h
  obtain ⟨f, fd, F, b, kp, m⟩ := C.ex
  have G : FnOk X.prog X.w X.K X.mg X.base (fun _ _ _ _ _ _ => False) k f fd ps sp := F
  exact pe_call F hr hg m kp b .nil pass0 ha hdb he hpl pins s σ H Q I h
end
end L2
namespace L2
open PySem PySem.Spec PyProof.Rows
def tCut (t u : TS) : TS := fun D σ H => ∃ J : St → Hp → Prop, t { D with nx := J } σ H ∧ ∀ σ1 H1, J σ1 H1 → u D σ1 H1
section
variable {X : Cx} {st : Stmt} {rest : List Stmt} {t u : TS}
theorem pss_cut (h1 : PS X st t) (h2 : PSs X rest u) : PSs X (st :: rest) (tCut t u) := by
  intro pins s σ H D I h
  obtain ⟨J, h, hJ⟩ := h
  refine wpAny_execs_cons (thn (h1 pins s σ H { D with nx := J } I h) fun f s1 q => ?_)
  cases f with
  | next =>
    obtain ⟨σ', H', I', q⟩ := q
    exact h2 pins s1 σ' H' D I' (hJ _ _ q)
  | ret v => exact q
  | brk => exact q
  | cont => exact q
end
section
variable {α : Type} {a b c d : α} {r : List α}
theorem atI_0 : atI (a :: r) 0 = some a := atI_nat (j := 0) rfl
theorem atI_1 : atI (a :: b :: r) 1 = some b := atI_nat (j := 1) rfl
theorem atI_2 : atI (a :: b :: c :: r) 2 = some c := atI_nat (j := 2) rfl
theorem atI_3 : atI (a :: b :: c :: d :: r) 3 = some d := atI_nat (j := 3) rfl
end
def seqAt (H : Hp) (p : Addr) : Option (List V) := match H p with
  | some (.lst xs) => some xs
  | some (.tup xs) => some xs
  | some (.frz _ (.lst xs)) => some xs
  | _ => none
theorem seqAt_lst {H : Hp} {p : Addr} {xs : List V} (h : H p = some (.lst xs)) : seqAt H p = some xs := by unfold seqAt; rw [h]
theorem seqAt_tup {H : Hp} {p : Addr} {xs : List V} (h : H p = some (.tup xs)) : seqAt H p = some xs := by unfold seqAt; rw [h]
section
variable {X : Cx}
def rIxF : R2 := fun x y H Q => ∃ p i xs v, x = .ref p ∧ y = .int i ∧ seqAt H p = some xs ∧ atI xs i = some v ∧ Q v H
theorem call_intB : CallR X (.type "int") (fun xs H Q => ∃ k, xs = [.bl k] ∧ Q (.int (if k = true then 1 else 0)) H) := by
  intro pins s σ H xs us Q I r h
  obtain ⟨k, rfl, q⟩ := h
  exact call_int1 pins s σ H _ us Q I r (.inr ⟨k, rfl, q⟩)
end
end L2
namespace L2
open PySem PySem.Spec PyProof.Rows
theorem bt_len : bootBuiltins "len" = some (.builtin "len") := by decide +kernel
theorem bt_isinstance : bootBuiltins "isinstance" = some (.builtin "isinstance") := by decide +kernel
theorem bt_max : bootBuiltins "max" = some (.builtin "max") := by decide +kernel
theorem bt_min : bootBuiltins "min" = some (.builtin "min") := by decide +kernel
theorem bt_sorted : bootBuiltins "sorted" = some (.builtin "sorted") := by decide +kernel
theorem bt_int : bootBuiltins "int" = some (.type "int") := by decide +kernel
theorem bt_bool : bootBuiltins "bool" = some (.type "bool") := by decide +kernel
theorem bt_str : bootBuiltins "str" = some (.type "str") := by decide +kernel
theorem bt_list : bootBuiltins "list" = some (.type "list") := by decide +kernel
theorem bt_tuple : bootBuiltins "tuple" = some (.type "tuple") := by decide +kernel
end L2
namespace L2
open PySem PySem.Spec PyProof.Rows
theorem cxK {CX : CXT} {P : Program} {w : World} {K : PySem.W.Frag} {mg : Str → Option Value} {base : Heap} {N : List Str} {qual : Str} {scope : Scope} {f : Addr} {cd : Value} {A : Around} {outer : List Env} {s : Shared} {H : Hp} {E : XK} :
    (cxOf CX P w K mg base N qual scope f cd A outer s H E).K = K := rfl
end L2
namespace L2
open PySem PySem.Spec PyProof.Rows
theorem ixN_10 : ixN 1 0 = some 0 := rfl
theorem ixN_20 : ixN 2 0 = some 0 := rfl
theorem ixN_21 : ixN 2 1 = some 1 := rfl
theorem ixN_30 : ixN 3 0 = some 0 := rfl
theorem ixN_31 : ixN 3 1 = some 1 := rfl
theorem ixN_32 : ixN 3 2 = some 2 := rfl
theorem seqAt_updL {H : Hp} {p : Addr} {xs : List V} : seqAt (upd H p (.lst xs)) p = some xs := seqAt_lst upd_same
theorem seqAt_updT {H : Hp} {p : Addr} {xs : List V} : seqAt (upd H p (.tup xs)) p = some xs := seqAt_tup upd_same
theorem atI_in {α : Type} {xs : List α} {k : Int} (h0 : 0 ≤ k) (h1 : k < (xs.length : Int)) : ∃ v, atI xs k = some v ∧ v ∈ xs := by
  have hk : k.toNat < xs.length := by omega
  have e : k = ((k.toNat : Nat) : Int) := by omega
  have q : atI xs ((k.toNat : Nat) : Int) = some xs[k.toNat] := atI_nat (List.getElem?_eq_getElem hk)
  rw [← e] at q
  exact ⟨_, q, List.getElem_mem hk⟩
theorem small_le {n : Nat} (h : n ≤ 1000) : n ≤ sizeLine := Nat.le_of_lt (small1000 h)
end L2
namespace L2
open PySem PySem.Spec PyProof.Rows
structure Shut (Q : VK) : Type where
  n : Nat
def Cal (sp : Sp) (vs : List V) (H : Hp) (Q : VK) (_ : Shut Q) (E : XK) : Prop := sp vs H Q E
theorem tCallC {sp : Sp} {dvs : List V} {E : XK} {t : TA} {σ : St} {H : Hp} {Q : VK} : tCall sp dvs E t σ H Q = t σ H (fun vs H1 => Cal sp (vs ++ dvs) H1 Q ⟨0⟩ E) := rfl
section
variable {X : Cx} {pos p1 p2 : Pos} {j1 j2 : Nat}
theorem pe_powc {a b : Int} (v : Int) (h : decide (0 ≤ b ∧ b ≤ 1000000 ∧ a.natAbs < 2 ^ 64 ∧ a ^ b.toNat = v) = true := by decide +kernel) : PE X (.BinOp (.Constant (.int a) j1 p1) .Pow (.Constant (.int b) j2 p2) pos) (tC (.int v)) := by
  intro pins s σ H Q I q
  obtain ⟨h1, h2, h3, h4⟩ := of_decide_eq_true h
  refine pe_op op_pow pe_int pe_int pins s σ H Q I ⟨a, b, rfl, rfl, ⟨h1, h2, h3⟩, ?_⟩
  show Q (V.int (a ^ b.toNat)) H
  rw [h4]
  exact q
end
end L2
namespace L2
open PySem PySem.Spec PyProof.Rows
theorem upd_none {H : Hp} {a b : Addr} {o : HO} : upd H a o b = none ↔ b ≠ a ∧ H b = none := by
  unfold upd
  by_cases h : b = a
  · simp [h]
  · simp [h]
end L2
namespace L2
open PySem PySem.Spec PyProof.Rows
def Loop (J : It) (g : TG) (tb : TS) (D : Ends) (σ : St) (H : Hp) : Prop := ∃ W : Nat → Nat → St → Hp → Prop, (∃ m, W 0 m σ H) ∧ ∀ i m σ H, W i m σ H →
  (J.stop i H ∧ D.nx σ H) ∨ (J.go i H ∧ ∃ N : St → Hp → Prop, (∀ σ' H', N σ' H' → ∃ m', m' < m ∧ W (i + 1) m' σ' H') ∧ ∀ x H', J.yld i H x H' → g x σ H' fun σ2 H2 => tb { D with nx := N, ct := N, bk := D.nx } σ2 H2)
section
variable {K : PySem.W.Frag} {ta : TA} {tl : TE} {g : TG} {tb : TS} {D : Ends} {σ : St} {H : Hp} {a : Addr} {xs : List V} {lo : Int} {n : Nat}
theorem tFor_rng1 : tFor (iRng1 ta) g tb D σ H = ta σ H (fun vs H1 => ∃ j : Int, vs = [.int j] ∧ -(2 ^ 62) ≤ j ∧ j < 2 ^ 62 ∧ Loop (Itr 0 j.toNat) g tb D σ H1) := rfl
theorem tFor_rng2 : tFor (iRng2 ta) g tb D σ H = ta σ H (fun vs H1 => ∃ i j : Int, vs = [.int i, .int j] ∧ (-(2 ^ 62) ≤ i ∧ i < 2 ^ 62 ∧ -(2 ^ 62) ≤ j ∧ j < 2 ^ 62) ∧ Loop (Itr i (j - i).toNat) g tb D σ H1) := rfl
theorem tFor_list : tFor (iList K tl) g tb D σ H = tl σ H (fun x H1 => ∃ a, x = .ref a ∧ (∃ xs, SqL K H1 a xs) ∧ Loop (Itl K a) g tb D σ H1) := rfl
theorem tFor_tup : tFor (iTup K tl) g tb D σ H = tl σ H (fun x H1 => ∃ a, x = .ref a ∧ (∃ xs, SqT K H1 a xs) ∧ Loop (Itt K a) g tb D σ H1) := rfl
theorem loop_range (Pv : Nat → St → Hp → Prop) (h0 : Pv 0 σ H)
    (hs : ∀ i σ H, i < n → Pv i σ H → g (.int (lo + i)) σ H fun σ2 H2 => tb { D with nx := Pv (i + 1), ct := Pv (i + 1), bk := D.nx } σ2 H2) (hd : ∀ σ H, Pv n σ H → D.nx σ H) : Loop (Itr lo n) g tb D σ H := for_range Pv h0 hs hd
theorem loop_list (Pv : Nat → St → Hp → Prop) (h0 : Pv 0 σ H) (hl : ∀ i σ H, i ≤ xs.length → Pv i σ H → SqL K H a xs)
    (hs : ∀ i x σ H, xs[i]? = some x → Pv i σ H → g x σ H fun σ2 H2 => tb { D with nx := Pv (i + 1), ct := Pv (i + 1), bk := D.nx } σ2 H2) (hd : ∀ σ H, Pv xs.length σ H → D.nx σ H) : Loop (Itl K a) g tb D σ H := for_list Pv h0 hl hs hd
end
end L2
set_option Elab.async false
set_option linter.all false
set_option maxRecDepth 100000
namespace L2
open PySem PySem.Spec PyProof.Rows
structure JE (X : Cx) (e : Expr) (t : TE) : Prop where h : PE X e t
structure JT (X : Cx) (e : Expr) (t : TT) : Prop where h : PT X e t
structure JW (X : Cx) (e : Expr) (t : TT) : Prop where h : PW X e t
structure JA (X : Cx) (es : List Expr) (t : TA) : Prop where h : PA X es t
structure JS (X : Cx) (st : Stmt) (t : TS) : Prop where h : PS X st t
structure JB (X : Cx) (st : List Stmt) (t : TS) : Prop where h : PSs X st t
structure JG (X : Cx) (e : Expr) (t : TG) : Prop where h : PG X e t
structure JGs (X : Cx) (es : List Expr) (t : TGs) : Prop where h : PGs X es t
structure JI (X : Cx) (tg e : Expr) (t : TI) : Prop where h : PI X tg e t
structure JO (X : Cx) (e : Option Expr) (t : TO) : Prop where h : PO X e t
section
variable {X : Cx} {a b c e o : Expr} {es rest : List Expr} {ta tb tc te to : TE} {t tl : TA} {tA tB' : TT} {pos p p' : Pos} {st : Stmt} {sts sts' : List Stmt} {u v : TS}
theorem ev (i : Nat) {x : Str} (hN : X.N[i]? = some x := by rfl) (hv : Vis X.env.scope x := by first | exact Or.inl rfl | exact Or.inr (Or.inl rfl) | exact Or.inr (Or.inr rfl)) (hd : (x == ("__debug__" : Str)) = false := by decide)
    (hcd : (x == ("__classdict__" : Str)) = false := by decide) : JE X (.Name x pos) (tVar i) := ⟨pe_var hN hv hd hcd⟩
theorem ei {i j} : JE X (.Constant (.int i) j pos) (tC (.int i)) := ⟨pe_int⟩
theorem ebl {b j} : JE X (.Constant (.bool b) j pos) (tC (.bl b)) := ⟨pe_bl⟩
theorem enon {j} : JE X (.Constant .none j pos) (tC .non) := ⟨pe_non⟩
theorem estr {x j} : JE X (.Constant (.str x) j pos) (tC (.str x)) := ⟨pe_str⟩
theorem eglob {x : Str} {v : V} {u : Value} (hg : Gl X x) (hm : X.mg x = some u) (r : RelV v u) (hd : (x == ("__debug__" : Str)) = false := by decide) : JE X (.Name x pos) (tC v) := ⟨pe_glob hg hm r hd⟩
theorem etyp {x : Str} {n : String} (hg : Gl X x) (hm : X.mg x = none) (hv : bootBuiltins x = some (.type n)) (hn : x ≠ "__name__" := by decide) (hd : (x == ("__debug__" : Str)) = false := by decide) : JE X (.Name x pos) (tC (.ty n)) := ⟨pe_bltn hg hm hv rfl hn hd⟩
theorem eop {op : Operator} {r : R2} (ho : OpR X (binaryOp op) r) (ha : JE X a ta) (hb : JE X b tb) : JE X (.BinOp a op b pos) (tOp r ta tb) := ⟨pe_op ho ha.h hb.h⟩
theorem epowc {a b : Int} {j1 j2 : Nat} {p1 p2 : Pos} (v : Int) (h : decide (0 ≤ b ∧ b ≤ 1000000 ∧ a.natAbs < 2 ^ 64 ∧ a ^ b.toNat = v) = true := by decide +kernel) : JE X (.BinOp (.Constant (.int a) j1 p1) .Pow (.Constant (.int b) j2 p2) pos) (tC (.int v)) := ⟨pe_powc v h⟩
theorem eun {op : UnaryOp} {r : V → Hp → VK → Prop} (ho : UnR X (unaryOp op) r) (ha : JE X a ta) : JE X (.UnaryOp op a pos) (tUn r ta) := ⟨pe_un ho ha.h⟩
theorem enot (ha : JE X a ta) : JE X (.UnaryOp .Not a pos) (tNotV ta) := ⟨pe_not ha.h⟩
theorem eone {op} (h : JE X a ta) : JE X (.BoolOp op [a] pos) ta := ⟨pe_one h.h⟩
theorem eand (ha : JE X a ta) (hb : JE X (.BoolOp .And (b :: rest) pos) tb) : JE X (.BoolOp .And (a :: b :: rest) pos) (tAndV ta tb) := ⟨pe_and ha.h hb.h⟩
theorem eif (hc : JT X c tA) (ha : JE X a ta) (hb : JE X b tb) : JE X (.IfExp c a b pos) (tIf tA ta tb) := ⟨pe_ifExp hc.h ha.h hb.h⟩
theorem ecmp {op : CmpOp} {r : R2} (ho : OpR X (compareOp op) r) (ha : JE X a ta) (hb : JE X b tb) (hm : behindInMarks op b = false) : JE X (.Compare a [op] [b] pos) (tOp r ta tb) := ⟨pe_cmpR ho ha.h hb.h hm⟩
theorem echain {op op' : CmpOp} {r r' : R2} (ho : OpR X (compareOp op) r) (ho' : OpR X (compareOp op') r') (ha : JE X a ta) (hb : JE X b tb) (hc : JE X c tc)
    (hm : lastMarks [op, op'] [b, c] = false := by with_unfolding_all rfl) : JE X (.Compare a [op, op'] [b, c] pos) (tChain r r' ta tb tc) := ⟨pe_chain ho ho' ha.h hb.h hc.h hm⟩
theorem eix {r : R2} (hr : IxR X r) (ha : JE X a ta) (hb : JE X b tb) (hs : PlainIx b) : JE X (.Subscript a b pos) (tOp r ta tb) := ⟨pe_ix hr ha.h hb.h hs⟩
theorem eslice {r : V → Option Int → Option Int → Hp → VK → Prop} {lo hi : Option Expr} {tl th : TO} (hr : SlR X r) (he : JE X e te) (hl : JO X lo tl) (hu : JO X hi th) : JE X (.Subscript e (.Slice lo hi none p) pos) (tSl r te tl th) := ⟨pe_slice hr he.h hl.h hu.h⟩
theorem ecall {x : Str} {k : Nat} {ps : List Str} {sp : Sp} (C : Callee X.prog X.w X.K X.mg X.base x k ps sp) (hr : Room k X.A) (hg : Gl X x) (ha : JA X (e :: es) t)
    (hdb : (x == ("__debug__" : Str)) = false := by decide) (he : starEach (e :: es) X.env = (false, eval e X.env) :: starEach es X.env := by rfl) (hpl : (backTo pos (starEach es X.env)).any (·.1) = false := by rfl) :
    JE X (.Call (.Name x p) (e :: es) [] pos) (tCall sp [] E0 t) := ⟨pe_callF C hr hg ha.h hdb he hpl⟩
theorem ecallB {x : Str} {id : String} {r : List V → Hp → VK → Prop} (hc : CallR X (.builtin id) r) (hg : Gl X x) (hm : X.mg x = none) (hv : bootBuiltins x = some (.builtin id)) (ha : JA X (e :: es) t) (hn : x ≠ "__name__" := by decide) (hdb : (x == ("__debug__" : Str)) = false := by decide)
    (he : starEach (e :: es) X.env = (false, eval e X.env) :: starEach es X.env := by rfl) (hpl : (backTo pos (starEach es X.env)).any (·.1) = false := by rfl) : JE X (.Call (.Name x p) (e :: es) [] pos) (tCB r t) := ⟨pe_callB hc hg hm hv ha.h hn hdb he hpl⟩
theorem ecallTy {x : Str} {T : String} {r : List V → Hp → VK → Prop} (hc : CallR X (.type T) r) (hg : Gl X x) (hm : X.mg x = none) (hv : bootBuiltins x = some (.type T)) (ha : JA X (e :: es) t) (hn : x ≠ "__name__" := by decide) (hdb : (x == ("__debug__" : Str)) = false := by decide)
    (he : starEach (e :: es) X.env = (false, eval e X.env) :: starEach es X.env := by rfl) (hpl : (backTo pos (starEach es X.env)).any (·.1) = false := by rfl) : JE X (.Call (.Name x p) (e :: es) [] pos) (tCB r t) := ⟨pe_callTy hc hg hm hv ha.h hn hdb he hpl⟩
theorem ebm {T id : String} {name : Str} {r : V → List V → Hp → VK → Prop} {apos cpos : Pos} (pa : PlainAttrs T) (slot : Slot T name id) (hty : typeOf (.builtin id) = pure (.type "method_descriptor")) (hm : MtR X id r) (ho : JE X o to) (ha : JA X (e :: es) t)
    (hbase : attributeBase o name X.env (eval o X.env) = eval o X.env := by rfl)
    (hfew : ((backTo cpos (starEach (e :: es) X.env)).all (fun x => !x.1) && (backToKw cpos (keywordEach [] X.env)).all (fun x => x.1.isSome)
      && decide ((e :: es).length + ([] : List Keyword).length + (if ([] : List Keyword).isEmpty then 0 else 1) < 30)) = true := by rfl)
    (hline : (apos.endLine == cpos.line) = true := by rfl) (hs : starEach (e :: es) X.env = (false, eval e X.env) :: starEach es X.env := by rfl) (hplain : (backTo cpos (starEach es X.env)).any (·.1) = false := by rfl) :
    JE X (.Call (.Attribute o name apos) (e :: es) [] cpos) (tBM X.K T r to t) := ⟨pe_bm pa slot hty hm ho.h ha.h hbase hfew hline hs hplain⟩
theorem anil : JA X [] tNil := ⟨pa_nil⟩
theorem acons (ha : JE X e te) (hr : JA X es t) (hs : starEach (e :: es) X.env = (false, eval e X.env) :: starEach es X.env := by rfl) : JA X (e :: es) (tCons te t) := ⟨pa_cons ha.h hr.h hs⟩
theorem tcmp {op : CmpOp} {r : R2} (ho : OpR X (compareOp op) r) (ha : JE X a ta) (hb : JE X b tb) (hm : behindInMarks op b = false) : JT X (.Compare a [op] [b] pos) (tTest (tOp r ta tb)) := ⟨pt_cmpR ho ha.h hb.h hm⟩
theorem tchain {op op' : CmpOp} {r r' : R2} (ho : OpR X (compareOp op) r) (ho' : OpR X (compareOp op') r') (ha : JE X a ta) (hb : JE X b tb) (hc : JE X c tc)
    (hm : lastMarks [op, op'] [b, c] = false := by with_unfolding_all rfl) : JT X (.Compare a [op, op'] [b, c] pos) (tTest (tChain r r' ta tb tc)) := ⟨pt_chain ho ho' ha.h hb.h hc.h hm⟩
theorem tval (h : JE X e te) (he : ∀ whole, isTrue e X.env whole = (do let v ← whole; standAt e.pos; holding [v] (truthy v)) := by intro _; rfl) : JT X e (tB te) := ⟨pt_val h.h he⟩
theorem ttruth (ha : JE X a ta) (he : ∀ whole, isTrue a X.env whole = (do let v ← whole; standAt a.pos; holding [v] (truthy v))) :
    JT X a (fun σ H Q => ta σ H fun x H' => ∃ k, TruV X.K x H' k ∧ Q k H') := ⟨pt_truth ha.h he⟩
theorem tnot (ha : JT X a tA) : JT X (.UnaryOp .Not a pos) (tNot tA) := ⟨pt_not ha.h⟩
theorem tw (h : JW X e tA) : JT X e tA := ⟨PW.pt h.h⟩
theorem wand1 (ha : JT X a tA) : JW X (.BoolOp .And [a] pos) tA := ⟨pw_and1 ha.h⟩
theorem wor1 (ha : JT X a tA) : JW X (.BoolOp .Or [a] pos) tA := ⟨pw_or1 ha.h⟩
theorem wand (ha : JT X a tA) (hb : JW X (.BoolOp .And (b :: rest) pos) tB') : JW X (.BoolOp .And (a :: b :: rest) pos) (tAnd tA tB') := ⟨pw_and ha.h hb.h⟩
theorem wor (ha : JT X a tA) (hb : JW X (.BoolOp .Or (b :: rest) pos) tB') : JW X (.BoolOp .Or (a :: b :: rest) pos) (tOr tA tB') := ⟨pw_or ha.h hb.h⟩
theorem bnil : JB X [] tNext := ⟨pss_nil⟩
theorem bcons (h1 : JS X st u) (h2 : JB X sts v) : JB X (st :: sts) (tSeq u v) := ⟨pss_cons h1.h h2.h⟩
theorem bone (h1 : JS X st u) : JB X [st] u := ⟨pss_one h1.h⟩
theorem bcut (h1 : JS X st u) (h2 : JB X sts v) : JB X (st :: sts) (tCut u v) := ⟨pss_cut h1.h h2.h⟩
theorem sexpr (he : JE X e te) (hs : swapsWith e none pos.line X.env = pure false := by rfl) : JS X (.Expr e pos) (tDrop te) := ⟨ps_expr he.h hs⟩
theorem sret (he : JE X e te) : JS X (.Return (some e) pos) (tRet te) := ⟨ps_ret he.h⟩
theorem sif (hc : JT X c tA) (ha : JB X sts u) (hb : JB X sts' v) : JS X (.If c sts sts' pos) (tIfS tA u v) := ⟨ps_if hc.h ha.h hb.h⟩
theorem sset {i : Nat} {x : Str} (hN : X.N.Nodup) (hi : X.N[i]? = some x) (hx : Loc X.env.scope x) (he : JE X e te) (hs : swapsWith e (some (.Name x p)) pos.line X.env = pure false := by rfl) (hf : X.fn x = true ∨ X.env.scope.names.lookup x = some .local := by first | exact .inl rfl | exact .inr rfl | assumption) :
    JS X (.Assign [.Name x p] e pos) (tAsg te (gName i)) := ⟨ps_set hN hi hx he.h hs hf⟩
theorem sasg {tg : Expr} {g : TG} (he : JE X e te) (hg : JG X tg g) (hs : swapsWithSole [tg] e pos.line X.env = pure false := by rfl) (hw : swappedStores [tg] e X.env = pure none := by rfl)
    (h1 : (assignEach [tg] X.env).map (·.2) = [assign tg X.env] := by rfl) : JS X (.Assign [tg] e pos) (tAsg te g) := ⟨ps_asg he.h hg.h hs hw h1⟩
theorem sfor {tg iter : Expr} {wi : TI} {g : TG} (hp : PassesOwn (model X.prog X.w) X.A X.env X.xe) (hc : X.calm = true) (hi : JI X tg iter wi) (hg : JG X tg g) (hb : JB X sts u)
    (hs : ∀ x, foldedSetIterable iter X.env x = pure x := by intro _; rfl) : JS X (.For tg iter sts [] pos) (tFor wi g u) := ⟨ps_for hp hc hi.h hg.h hb.h hs⟩
theorem gname {i : Nat} {x : Str} (hN : X.N.Nodup) (hi : X.N[i]? = some x) (hx : Loc X.env.scope x) (hf : X.fn x = true ∨ X.env.scope.names.lookup x = some .local := by first | exact .inl rfl | exact .inr rfl | assumption) : JG X (.Name x pos) (gName i) := ⟨pg_name hN hi hx hf⟩
theorem gsub {i : Expr} {ti : TE} {t : TSet} (ho : JE X o to) (hi : JE X i ti) (hs : PSet X t)
    (ha : ∀ v, assign (.Subscript o i pos) X.env v = (do
      let ov ← holding [v] (eval o X.env)
      let iv ← holding [v, ov] (eval i X.env)
      standAt pos
      holding [v, ov, iv] (setItem ov iv v)
      release [v, ov, iv] []) := by intro _; rfl) : JG X (.Subscript o i pos) (gSub to ti t) := ⟨pg_sub ho.h hi.h hs ha⟩
theorem gnil : JGs X [] gNil := ⟨pgs_nil⟩
theorem gcons {t : TG} {u : TGs} (h1 : JG X e t) (h2 : JGs X es u) (hs : (assignEach (e :: es) X.env).map (·.2) = assign e X.env :: (assignEach es X.env).map (·.2) := by rfl) : JGs X (e :: es) (gCons t u) := ⟨pgs_cons h1.h h2.h hs⟩
theorem irange1 {tg : Expr} (hg : Gl X "range") (hm : X.mg "range" = none) (ha : JA X [a] t) (hs : starEach [a] X.env = [(false, eval a X.env)] := by rfl) : JI X tg (.Call (.Name "range" p) [a] [] pos) (iRng1 t) := ⟨pi_range1 hg hm ha.h hs⟩
theorem ilist {tg l : Expr} (hl : JE X l te) : JI X tg l (iList X.K te) := ⟨pi_list hl.h⟩
theorem onone : JO X none tNoPart := ⟨po_none⟩
theorem osome (h : JE X e te) : JO X (some e) (tPart te) := ⟨po_some h.h⟩
end
section
variable {P : Program} {w : World} {K : PySem.W.Frag} {mg : Str → Option Value} {base : Heap}
theorem Fun.okJ {x qual : Str} {st : Stmt} {f : Addr} {fd : FuncData} {N ps : List Str} {k : Nat} {sp : Sp} (F : Fun K x qual st f fd) (S : FnScope N ps (defScope st)) (len : ∀ vs H Q E, sp vs H Q E → vs.length = ps.length)
    (hbody : ∀ (cdv : Value) (A : Around) (outer : List Env) (s : Shared) (H : Hp) (vs : List V) (Q : VK) (E : XK), Room k (A.deeper (envOfC qual (defScope st) s.heap.objs.size f cdv)) → sp vs H Q E →
      ∃ t, JB (cxOf CX0 P w K mg base N qual (defScope st) f cdv A outer s H E).nox (defBody st) t ∧ t { nx := fun _ H' => Q .non H', rt := Q } (start N vs) H) : FnOk P w K mg base CX0 (k + 1) f fd ps sp :=
  F.ok S len fun cdv A outer s H vs Q E hr h => let ⟨t, a, b⟩ := hbody cdv A outer s H vs Q E hr h; ⟨t, a.h, b⟩
end
end L2
set_option Elab.async false
set_option linter.all false
set_option maxRecDepth 100000
namespace L2
open PySem PySem.Spec PyProof.Rows
mutual
def Is (K : PySem.W.Frag) (H : Hp) : PyData → V → Prop
  | .none, v => v = .non
  | .bool b, v => v = .bl b
  | .int i, v => v = .int i
  | .str x, v => v = .str x
  | .list ds, v => ∃ a vs, v = .ref a ∧ SqL K H a vs ∧ IsAll K H ds vs
  | .tuple ds, v => ∃ a vs, v = .ref a ∧ SqT K H a vs ∧ IsAll K H ds vs
  | .dict _, _ => False
def IsAll (K : PySem.W.Frag) (H : Hp) : List PyData → List V → Prop
  | [], vs => vs = []
  | d :: ds, vs => ∃ v r, vs = v :: r ∧ Is K H d v ∧ IsAll K H ds r
end
section
variable {X : Cx} {pins : List (Addr × Obj)} {σ : St} {H : Hp} {s : Shared}
mutual
theorem Is.reads (I : Inv X pins σ H s) : ∀ {d : PyData} {v : V} {u : Value}, Is X.K H d v → RelV v u → ∃ as, Reads s.heap u d as
  | .none, v, u, h, r => by unfold Is at h; subst h; cases r; exact ⟨_, .none⟩
  | .bool b, v, u, h, r => by unfold Is at h; subst h; cases r; exact ⟨_, .bool b⟩
  | .int i, v, u, h, r => by unfold Is at h; subst h; obtain ⟨t, rfl⟩ := r; exact ⟨_, .int i t⟩
  | .str x, v, u, h, r => by unfold Is at h; subst h; obtain ⟨t, rfl⟩ := r; exact ⟨_, .str x t⟩
  | .list ds, v, u, h, r => by
    unfold Is at h
    obtain ⟨a, vs, rfl, hs, ha⟩ := h
    cases r
    obtain ⟨its, rv, ⟨o, n, e, hc, _, hd⟩, _⟩ := I.list hs
    obtain ⟨as, q⟩ := IsAll.reads I ha rv
    exact ⟨_, .list e hc hd (by simpa using q)⟩
  | .tuple ds, v, u, h, r => by
    unfold Is at h
    obtain ⟨a, vs, rfl, hs, ha⟩ := h
    cases r
    obtain ⟨its, rv, ⟨o, e, hc, n, hd⟩, _⟩ := I.tuple hs
    obtain ⟨as, q⟩ := IsAll.reads I ha rv
    exact ⟨_, .tuple e hc hd (by simpa using q)⟩
  | .dict _, v, u, h, r => by unfold Is at h; exact h.elim
theorem IsAll.reads (I : Inv X pins σ H s) : ∀ {ds : List PyData} {vs : List V} {us : List Value}, IsAll X.K H ds vs → Vals vs us → ∃ as, ReadsAll s.heap us ds as
  | [], vs, us, h, r => by unfold IsAll at h; subst h; cases r; exact ⟨_, .nil⟩
  | d :: ds, vs, us, h, r => by
    unfold IsAll at h
    obtain ⟨v, rs, rfl, h1, h2⟩ := h
    cases r with
    | cons r1 r2 =>
      obtain ⟨as, q1⟩ := Is.reads I h1 r1
      obtain ⟨bs, q2⟩ := IsAll.reads I h2 r2
      exact ⟨_, .cons q1 q2⟩
end
end
section
variable {X : Cx}
def rEqD (K : PySem.W.Frag) (neg : Bool) : R2 := fun x y H Q => ∃ d e, Is K H d x ∧ Is K H e y ∧ SeqAt.shaped d = true ∧ SeqAt.shaped e = true ∧ Q (.bl (if neg = true then !PyData.eqv d e else PyData.eqv d e)) H
theorem op_eqD (hu : X.A.units + 64 < cLine) : OpR X (compareOp .Eq) (rEqD X.K false) := by
  intro pins s σ H x y v u Q I rx ry h
  obtain ⟨d, e, hd, he, sd, se, q⟩ := h
  obtain ⟨as, ra⟩ := hd.reads I rx
  obtain ⟨bs, rb⟩ := he.reads I ry
  exact SeqAt.compareEq_shaped ra rb sd se hu ⟨.bl _, H, I, rfl, q⟩
theorem op_neD (hu : X.A.units + 64 < cLine) : OpR X (compareOp .NotEq) (rEqD X.K true) := by
  intro pins s σ H x y v u Q I rx ry h
  obtain ⟨d, e, hd, he, sd, se, q⟩ := h
  obtain ⟨as, ra⟩ := hd.reads I rx
  obtain ⟨bs, rb⟩ := he.reads I ry
  exact SeqAt.compareNe_shaped ra rb sd se hu ⟨.bl _, H, I, rfl, q⟩
end
mutual
def nob : PyData → Bool
  | .none => true
  | .bool _ => false
  | .int _ => true
  | .str _ => true
  | .list ds => nobAll ds
  | .tuple ds => nobAll ds
  | .dict _ => false
def nobAll : List PyData → Bool
  | [] => true
  | d :: ds => nob d && nobAll ds
end
mutual
theorem eqv_iff : ∀ {d e : PyData}, nob d = true → nob e = true → (PyData.eqv d e = true ↔ d = e)
  | .none, e, hd, he => by cases e <;> simp [PyData.eqv]
  | .bool _, e, hd, he => by simp [nob] at hd
  | .int i, e, hd, he => by cases e <;> simp [PyData.eqv, nob] at *
  | .str x, e, hd, he => by cases e <;> simp [PyData.eqv, nob] at *
  | .list ds, e, hd, he => by
    cases e with
    | list es =>
      simp only [nob] at hd he
      simp only [PyData.eqv, PyData.list.injEq]
      exact eqvAll_iff hd he
    | _ => simp [PyData.eqv]
  | .tuple ds, e, hd, he => by
    cases e with
    | tuple es =>
      simp only [nob] at hd he
      simp only [PyData.eqv, PyData.tuple.injEq]
      exact eqvAll_iff hd he
    | _ => simp [PyData.eqv]
  | .dict _, e, hd, he => by simp [nob] at hd
theorem eqvAll_iff : ∀ {ds es : List PyData}, nobAll ds = true → nobAll es = true → (PyData.eqvAll ds es = true ↔ ds = es)
  | [], es, _, _ => by cases es <;> simp [PyData.eqvAll]
  | d :: ds, es, hd, he => by
    cases es with
    | nil => simp [PyData.eqvAll]
    | cons e es =>
      simp only [nobAll, Bool.and_eq_true] at hd he
      simp only [PyData.eqvAll, Bool.and_eq_true, List.cons.injEq]
      rw [eqv_iff hd.1 he.1, eqvAll_iff hd.2 he.2]
end
mutual
theorem Is.same {K : PySem.W.Frag} {H H' : Hp} (h : Same H H') : ∀ {d : PyData} {v : V}, Is K H d v → Is K H' d v
  | .none, v, q => by unfold Is at q ⊢; exact q
  | .bool b, v, q => by unfold Is at q ⊢; exact q
  | .int i, v, q => by unfold Is at q ⊢; exact q
  | .str x, v, q => by unfold Is at q ⊢; exact q
  | .list ds, v, q => by
    unfold Is at q ⊢
    obtain ⟨a, vs, e, hs, ha⟩ := q
    exact ⟨a, vs, e, h.seq hs, IsAll.same h ha⟩
  | .tuple ds, v, q => by
    unfold Is at q ⊢
    obtain ⟨a, vs, e, hs, ha⟩ := q
    refine ⟨a, vs, e, ?_, IsAll.same h ha⟩
    rcases hs with (hs | ⟨o, hs⟩) | hs
    · exact .inl (.inl (h _ _ hs))
    · exact .inl (.inr ⟨o, h _ _ hs⟩)
    · exact .inr hs
  | .dict _, v, q => by unfold Is at q; exact q.elim
theorem IsAll.same {K : PySem.W.Frag} {H H' : Hp} (h : Same H H') : ∀ {ds : List PyData} {vs : List V}, IsAll K H ds vs → IsAll K H' ds vs
  | [], vs, q => by unfold IsAll at q ⊢; exact q
  | d :: ds, vs, q => by
    unfold IsAll at q ⊢
    obtain ⟨v, r, e, h1, h2⟩ := q
    exact ⟨v, r, e, Is.same h h1, IsAll.same h h2⟩
end
end L2
set_option Elab.async false
set_option linter.all false
set_option maxRecDepth 100000
namespace L2
open PySem PySem.Spec PyProof.Rows
theorem absV_rel : ∀ {u : Value} {x : V}, absV u = some x → RelV x u := by
  intro u x h
  cases u <;> simp only [absV, Option.some.injEq] at h <;> first | (subst h; first | rfl | exact ⟨_, rfl⟩) | cases h
theorem absV_all : ∀ {us : List Value} {xs : List V}, us.mapM absV = some xs → Vals xs us := by
  intro us
  induction us with
  | nil => intro xs h; simp at h; subst h; exact .nil
  | cons u us ih =>
    intro xs h
    rw [List.mapM_cons] at h
    cases e1 : absV u with
    | none => rw [e1] at h; simp at h
    | some x =>
      cases e2 : us.mapM absV with
      | none => rw [e1, e2] at h; simp at h
      | some ys =>
        rw [e1, e2] at h
        simp at h
        subst h
        exact .cons (absV_rel e1) (ih e2)
def kTup (K : PySem.W.Frag) (a : Addr) : Option (List V) := match K.lookup a with
  | some ⟨.type n, _, .seq its _, _⟩ => if n = "tuple" then (if its.size ≤ sizeLine then its.toList.mapM absV else none) else none
  | _ => none
theorem kTup_sq {K : PySem.W.Frag} {H : Hp} {a : Addr} {xs : List V} (h : kTup K a = some xs) : SqT K H a xs := by
  unfold kTup at h
  split at h
  · next n dd its k sl e =>
    by_cases h1 : n = "tuple"
    · rw [if_pos h1] at h
      by_cases h2 : its.size ≤ sizeLine
      · rw [if_pos h2] at h
        subst h1
        exact .inr ⟨_, its, k, e, rfl, rfl, h2, absV_all h⟩
      · rw [if_neg h2] at h; cases h
    · rw [if_neg h1] at h; cases h
  · cases h
def tupQ (K : PySem.W.Frag) (H : Hp) (a : Addr) : Option (List V) := match H a with
  | some (.tup xs) => some xs
  | some _ => none
  | none => kTup K a
def seqQ (K : PySem.W.Frag) (H : Hp) (a : Addr) : Option (List V) := match H a with
  | some (.lst xs) => some xs
  | some (.tup xs) => some xs
  | some (.frz _ (.lst xs)) => some xs
  | some _ => none
  | none => kTup K a
section
variable {K : PySem.W.Frag} {H H' : Hp} {a b : Addr} {xs : List V} {o : HO}
theorem tupQ_sq (h : tupQ K H a = some xs) : SqT K H a xs := by
  unfold tupQ at h
  split at h
  · next e => cases h; exact .inl (.inl e)
  · cases h
  · exact kTup_sq h
theorem seqQ_sq (h : seqQ K H a = some xs) : SqL K H a xs ∨ SqT K H a xs := by
  unfold seqQ at h
  split at h
  · next e => cases h; exact .inl (.inl (.inl e))
  · next e => cases h; exact .inr (.inl (.inl e))
  · next e => cases h; exact .inl (.inl (.inr ⟨_, e⟩))
  · cases h
  · exact .inr (kTup_sq h)
theorem seqQ_T (h : tupQ K H a = some xs) : seqQ K H a = some xs := by
  unfold tupQ at h
  unfold seqQ
  split at h
  · next e => rw [e]; exact h
  · cases h
  · next e => rw [e]; exact h
theorem seqQ_lst (h : H a = some (.lst xs)) : seqQ K H a = some xs := by unfold seqQ; rw [h]
theorem seqQ_tup (h : H a = some (.tup xs)) : seqQ K H a = some xs := by unfold seqQ; rw [h]
theorem tupQ_tup (h : H a = some (.tup xs)) : tupQ K H a = some xs := by unfold tupQ; rw [h]
theorem seqQ_updL : seqQ K (upd H a (.lst xs)) a = some xs := seqQ_lst upd_same
theorem seqQ_updT : seqQ K (upd H a (.tup xs)) a = some xs := seqQ_tup upd_same
theorem tupQ_updT : tupQ K (upd H a (.tup xs)) a = some xs := tupQ_tup upd_same
structure Ext (K : PySem.W.Frag) (H H' : Hp) : Prop where
  same : Same H H'
  mod : ∀ a xs, H a = none → kTup K a = some xs → H' a = none
theorem Ext.refl : Ext K H H := ⟨Same.refl H, fun _ _ h _ => h⟩
theorem Ext.trans {H1 H2 : Hp} (x : Ext K H H1) (y : Ext K H1 H2) : Ext K H H2 := ⟨x.same.trans y.same, fun a xs h k => y.mod a xs (x.mod a xs h k) k⟩
theorem Ext.tup (x : Ext K H H') (h : tupQ K H a = some xs) : tupQ K H' a = some xs := by
  unfold tupQ at h ⊢
  split at h
  · next e => rw [x.same _ _ e]; exact h
  · cases h
  · next e => rw [x.mod a xs e h]; exact h
end
section
variable {X : Cx}
def rIxQ (K : PySem.W.Frag) : R2 := fun x y H Q => ∃ p i xs v, x = .ref p ∧ y = .int i ∧ seqQ K H p = some xs ∧ atI xs i = some v ∧ Q v H
theorem ix_Q : IxR X (rIxQ X.K) := by
  intro value slice pins s σ H x y v u Q I rx ry h hs
  obtain ⟨p, i, xs, z, rfl, rfl, hq, he, q⟩ := h
  rcases seqQ_sq (K := X.K) hq with h1 | h1
  · exact ix_list value slice pins s σ H _ _ v u Q I rx ry ⟨p, xs, i, z, rfl, rfl, h1, he, q⟩ hs
  · exact ix_tup value slice pins s σ H _ _ v u Q I rx ry ⟨p, xs, i, z, rfl, rfl, h1, he, q⟩ hs
theorem call_lenQ : CallR X (.builtin "len") (fun xs H Q => ∃ p ys, xs = [.ref p] ∧ seqQ X.K H p = some ys ∧ Q (.int ys.length) H) := by
  intro pins s σ H xs us Q I r h
  obtain ⟨p, ys, rfl, hq, q⟩ := h
  exact call_len_seq pins s σ H _ us Q I r ⟨p, ys, rfl, seqQ_sq hq, q⟩
end
end L2
namespace L2
open PySem PySem.Spec PyProof.Rows
def new (K : PySem.W.Frag) (H : Hp) (p : Addr) : Prop := H p = none ∧ kTup K p = none
theorem new_upd {K : PySem.W.Frag} {H : Hp} {a p : Addr} {o : HO} : new K (upd H a o) p ↔ p ≠ a ∧ new K H p := by
  unfold new
  rw [upd_none, and_assoc]
theorem kTup_none {K : PySem.W.Frag} {a : Addr} (h : K.lookup a = none) : kTup K a = none := by unfold kTup; rw [h]
section
variable {X : Cx} {es : List Expr} {t : TA} {pos : Pos} {pins : List (Addr × Obj)} {σ : St} {H : Hp} {s : Shared}
theorem Inv.new (I : Inv X pins σ H s) : L2.new X.K H s.heap.objs.size := by
  refine ⟨I.hok.fresh (Nat.le_refl _), kTup_none ?_⟩
  cases e : X.K.lookup s.heap.objs.size with
  | none => rfl
  | some o => exact absurd (Heap.lt_size (I.kIn _ o e)) (Nat.lt_irrefl _)
def tTupQ (K : PySem.W.Frag) (t : TA) : TE := fun σ H Q => t σ H fun xs H1 => xs.length ≤ sizeLine ∧ ∀ p, L2.new K H1 p → Q (.ref p) (upd H1 p (.tup xs))
def tLstQ (K : PySem.W.Frag) (t : TA) : TE := fun σ H Q => t σ H fun xs H1 => xs.length ≤ sizeLine ∧ ∀ p, L2.new K H1 p → Q (.ref p) (upd H1 p (.lst xs))
theorem etupQ {k} (h : JA X es t) : JE X (.Tuple es k pos) (tTupQ X.K t) := ⟨by
  intro pins s σ H Q I hq
  refine wpAny_Tuple_spliced (thn (h.h pos pins s σ H _ I hq) fun us s1 ⟨xs, H1, I1, r, z, q⟩ => ⟨by rw [← r.length]; exact z, ?_⟩)
  refine ⟨.ref s1.heap.objs.size, upd H1 s1.heap.objs.size (.tup xs), I1.laid (t' := s1.toks) (fun b u e => Heap.get?_push_of_some _ e) (Nat.le_refl _) ?_, rfl, q _ I1.new⟩
  exact ⟨z, us, r, ⟨_, Heap.get?_push_size _ rfl, rfl, _, rfl⟩⟩⟩
theorem elstQ (h : JA X es t) : JE X (.List es pos) (tLstQ X.K t) := ⟨by
  intro pins s σ H Q I hq
  refine wpAny_List_spliced (thn (h.h pos pins s σ H _ I hq) fun us s1 ⟨xs, H1, I1, r, z, q⟩ => ⟨by rw [← r.length]; exact z, ?_⟩)
  refine ⟨.ref s1.heap.objs.size, upd H1 s1.heap.objs.size (.lst xs), I1.laid (t' := s1.toks) (fun b u e => Heap.get?_push_of_some _ e) (Nat.le_refl _) ?_, rfl, q _ I1.new⟩
  exact ⟨z, us, 0, r, Heap.get?_push_size _ rfl⟩⟩
theorem snever {st : Stmt} : JS X st tNever := ⟨ps_never⟩
def rCatQ (K : PySem.W.Frag) : R2 := fun x y H Q => ∃ l b xs zs, x = .ref l ∧ y = .ref b ∧ H l = some (.lst xs) ∧ H b = some (.lst zs) ∧ xs.length + zs.length ≤ sizeLine ∧ ∀ p, L2.new K H p → Q (.ref p) (upd H p (.lst (xs ++ zs)))
end
structure Kp (K : PySem.W.Frag) (p : Addr) (H H' : Hp) : Prop where
  keep : ∀ q o, H q = some o → q ≠ p → H' q = some o
  mod : ∀ a xs, H a = none → kTup K a = some xs → H' a = none
section
variable {K : PySem.W.Frag} {p a : Addr} {H H' H1 H2 : Hp} {xs ys : List V} {o : HO}
theorem Kp.refl : Kp K p H H := ⟨fun _ _ h _ => h, fun _ _ h _ => h⟩
theorem Kp.trans (x : Kp K p H H1) (y : Kp K p H1 H2) : Kp K p H H2 := ⟨fun q o h n => y.keep q o (x.keep q o h n) n, fun a xs h k => y.mod a xs (x.mod a xs h k) k⟩
theorem Kp.upd (h : H p = some (.lst xs)) : Kp K p H (upd H p o) := ⟨fun q u e n => by rw [upd_ne n]; exact e, fun b ys e _ => by rw [upd_ne (fun z => by rw [z, h] at e; cases e)]; exact e⟩
theorem Kp.new {q : Addr} (h : L2.new K H q) : Kp K p H (L2.upd H q o) := ⟨fun r u e _ => by rw [upd_ne (ne_of_none e h.1)]; exact e, fun b ys e k => by rw [upd_ne (fun z => by rw [z, h.2] at k; cases k)]; exact e⟩
theorem Kp.tup (x : Kp K p H H') (hp : H p = some (.lst ys)) (h : tupQ K H a = some xs) : tupQ K H' a = some xs := by
  unfold tupQ at h ⊢
  split at h
  · next e => rw [x.keep _ _ e (ne_of e hp (by intro z; cases z))]; exact h
  · cases h
  · next e => rw [x.mod a xs e h]; exact h
theorem Ext.new {q : Addr} (h : L2.new K H q) : Ext K H (L2.upd H q o) := ⟨fun b u e => by rw [upd_ne (ne_of_none e h.1)]; exact e, fun b ys e k => by rw [upd_ne (fun z => by rw [z, h.2] at k; cases k)]; exact e⟩
theorem Kp.ext (x : Kp K p (L2.upd H p o) H') (h : L2.new K H p) : Ext K H H' := by
  refine ⟨fun b u e => ?_, fun b ys e k => ?_⟩
  · have n : b ≠ p := ne_of_none e h.1
    exact x.keep b u (by rw [upd_ne n]; exact e) n
  · exact x.mod b ys (by rw [upd_ne (fun z => by rw [z, h.2] at k; cases k)]; exact e) k
theorem Ext.kp (x : Ext K H H') : Kp K p H H' := ⟨fun q o e _ => x.same q o e, x.mod⟩
end
end L2
namespace L2
open PySem PySem.Spec PyProof.Rows
section
variable {K : PySem.W.Frag} {p a : Addr} {H H' : Hp} {xs : List V}
end
end L2
namespace L2
open PySem PySem.Spec PyProof.Rows
def TyQ (K : PySem.W.Frag) (H : Hp) (x : V) (t : Value) : Prop := TyOf K H x t ∨ ∃ a xs, x = .ref a ∧ tupQ K H a = some xs ∧ t = .type "tuple"
theorem TyQ.tup {K : PySem.W.Frag} {H : Hp} {a : Addr} {xs : List V} (h : tupQ K H a = some xs) : TyQ K H (.ref a) (.type "tuple") := .inr ⟨a, xs, rfl, h, rfl⟩
section
variable {X : Cx}
theorem call_isinstQ : CallR X (.builtin "isinstance") (fun xs H Q => ∃ x n t b, xs = [x, .ty n] ∧ TyQ X.K H x t ∧ PySem.W.kitOne X.K t (.type n) = some b ∧ Q (.bl b) H) := by
  intro pins s σ H xs us Q I r h
  obtain ⟨x, n, t, b, rfl, ty, e, q⟩ := h
  obtain ⟨u, w', rfl, ru, rw'⟩ := vals2 r
  cases rw'
  rcases ty with ty | ⟨a, ys, rfl, hq, rfl⟩
  · exact isinst_ok I ru ty e fun tk => ⟨.bl b, H, I.tok tk, rfl, q⟩
  · cases (show u = Value.ref a from ru)
    obtain ⟨its, _, ⟨o, h1, h2, _⟩, _⟩ := I.tuple (tupQ_sq hq)
    exact PySem.W.kia_one PySem.W.kitx_tuple I.kIn ⟨o, h1, h2⟩ e (fun z => nomatch z) fun tk => ⟨.bl b, H, I.tok tk, rfl, q⟩
end
end L2
namespace L2
open PySem PySem.Spec PyProof.Rows
section
variable {X : Cx}
theorem op_isB : OpR X (compareOp .Is) (fun x y H Q => ∃ c d, x = .bl c ∧ y = .bl d ∧ Q (.bl (c == d)) H) := by
  intro pins s σ H x y v u Q I rx ry h
  obtain ⟨c, d, rfl, rfl, q⟩ := h
  cases rx
  cases ry
  exact is_bool ⟨.bl _, H, I, rfl, q⟩
def rInQ (K : PySem.W.Frag) (neg : Bool) : R2 := fun x y H Q => ∃ p xs, y = .ref p ∧ seqQ K H p = some xs ∧ flatV x = true ∧ xs.all flatV = true ∧ Q (.bl (if neg = true then !inV x xs else inV x xs)) H
theorem op_inQ : OpR X (compareOp .In) (rInQ X.K false) := by
  intro pins s σ H x y v u Q I rx ry h
  obtain ⟨p, xs, rfl, hq, fx, fs, q⟩ := h
  exact op_in_seq pins s σ H x _ v u Q I rx ry ⟨p, xs, rfl, seqQ_sq hq, fx, fs, q⟩
theorem op_notInQ : OpR X (compareOp .NotIn) (rInQ X.K true) := by
  intro pins s σ H x y v u Q I rx ry h
  obtain ⟨p, xs, rfl, hq, fx, fs, q⟩ := h
  exact op_notIn_seq pins s σ H x _ v u Q I rx ry ⟨p, xs, rfl, seqQ_sq hq, fx, fs, q⟩
end
end L2
namespace L2
open PySem PySem.Spec PyProof.Rows
def ModFree (K : PySem.W.Frag) (H : Hp) : Prop := ∀ b xs, kTup K b = some xs → H b = none
theorem kTup_look {K : PySem.W.Frag} {a : Addr} {xs : List V} (h : kTup K a = some xs) : ∃ o, K.lookup a = some o := by
  cases e : K.lookup a with
  | none => rw [kTup_none e] at h; cases h
  | some o => exact ⟨o, rfl⟩
theorem FnOk.mod {P : Program} {w : World} {K : PySem.W.Frag} {mg : Str → Option Value} {base : Heap} {CX : CXT} {k : Nat} {f : Addr} {fd : FuncData} {ps : List Str} {sp : Sp} (len : ∀ vs H Q E, sp vs H Q E → vs.length = ps.length)
    (F : FnOk P w K mg base CX k f fd ps (fun vs H Q E => sp vs H Q E ∧ ModFree K H)) : FnOk P w K mg base CX k f fd ps sp :=
  ⟨len, fun A outer s H args us vs Q E hr e0 hb r h => F.run A outer s H args us vs Q E hr e0 hb r ⟨h, fun b xs hk => by
    obtain ⟨o, e⟩ := kTup_look hk
    exact (e0.bs b o (e0.mod.kin b o e)).2⟩⟩
section
variable {P : Program} {w : World} {K : PySem.W.Frag} {mg : Str → Option Value} {base : Heap}
theorem Fun.okM {x qual : Str} {st : Stmt} {f : Addr} {fd : FuncData} {N ps : List Str} {k : Nat} {sp : Sp} (F : Fun K x qual st f fd) (S : FnScope N ps (defScope st)) (len : ∀ vs H Q E, sp vs H Q E → vs.length = ps.length)
    (hbody : ∀ (cdv : Value) (A : Around) (outer : List Env) (s : Shared) (H : Hp) (vs : List V) (Q : VK) (E : XK), Room k (A.deeper (envOfC qual (defScope st) s.heap.objs.size f cdv)) → ModFree K H → sp vs H Q E →
      ∃ t, JB (cxOf CX0 P w K mg base N qual (defScope st) f cdv A outer s H E).nox (defBody st) t ∧ t { nx := fun _ H' => Q .non H', rt := Q } (start N vs) H) : FnOk P w K mg base CX0 (k + 1) f fd ps sp :=
  FnOk.mod len (F.okJ S (fun vs H Q E h => len vs H Q E h.1) fun cdv A outer s H vs Q E hr h => hbody cdv A outer s H vs Q E hr h.2 h.1)
end
theorem ModFree.tup {K : PySem.W.Frag} {H : Hp} {a : Addr} {xs : List V} (m : ModFree K H) (h : kTup K a = some xs) : tupQ K H a = some xs := by
  unfold tupQ
  rw [m a xs h]
  exact h
theorem ModFree.ext {K : PySem.W.Frag} {H H' : Hp} (m : ModFree K H) (x : Ext K H H') : ModFree K H' := fun b xs h => x.mod b xs (m b xs h) h
end L2
namespace L2
open PySem PySem.Spec PyProof.Rows
section
variable {X : Cx} {tg : Expr}
end
section
variable {K : PySem.W.Frag} {ta : TA} {g : TG} {tb : TS} {D : Ends} {σ : St} {H : Hp} {lo stp : Int} {n : Nat}
end
end L2
namespace L2
open PySem PySem.Spec PyProof.Rows
section
variable {X : Cx}
def rSlQ (K : PySem.W.Frag) : V → Option Int → Option Int → Hp → VK → Prop := fun x lo hi H Q => ∃ a xs, x = .ref a ∧ SqL K H a xs ∧ ∀ p, L2.new K H p → Q (.ref p) (upd H p (.lst (cutV xs lo hi)))
theorem sl_listQ : SlR X (rSlQ X.K) := by
  intro pins s σ H x v vl vu lo hi sl Q I rx hs pl pu h
  obtain ⟨a, xs, rfl, hx, q⟩ := h
  cases rx
  obtain ⟨its, r, ht, hz⟩ := I.list hx
  have hlen := r.length
  refine ⟨"list", _, slot_list_getitem.lookup, ht.isList.typeIs, ?_⟩
  refine wpAny_getItem_list_slice ht.isList hs pl pu .none (by simp) ?_ (by rw [List.size_toArray] <;> omega)
  rw [slicePick_cut, ← hlen]
  refine ⟨.ref s.heap.objs.size, _, I.laid (t' := s.toks) (o := .lst (cutV xs lo hi)) (fun b ob q => Heap.get?_push_of_some _ q) (Nat.le_refl _) ?_, rfl, q _ I.new⟩
  exact ⟨Nat.le_trans (cutV_length xs lo hi) hz, _, 0, (r.drop (HT.sIx xs.length 0 lo)).take (HT.sIx xs.length xs.length hi - HT.sIx xs.length 0 lo), Heap.get?_push_size _ rfl⟩
end
end L2
set_option Elab.async false
set_option linter.all false
set_option maxRecDepth 100000
namespace L2
open PySem PySem.Spec PyProof.Rows
section
variable {X : Cx} {es : List Expr} {pos : Pos}
def gTupQ (K : PySem.W.Frag) (n : Nat) (t : TGs) : TG := fun v σ H Q => ∃ a xs, v = .ref a ∧ tupQ K H a = some xs ∧ xs.length = n ∧ t xs σ H Q
theorem gtupQ {k : Nat} {t : TGs} {n : Nat} (hc : X.calm = true) (h : JGs X es t) (hn : (assignEach es X.env).length = n := by rfl) (hst : (assignEach es X.env).findIdx? (·.1) = none := by rfl) : JG X (.Tuple es k pos) (gTupQ X.K n t) :=
  ⟨fun pins s σ H v u Q I r ⟨a, xs, e, h1, h2, h3⟩ => pg_tup hc h.h hn hst pins s σ H v u Q I r ⟨a, xs, e, tupQ_sq h1, h2, h3⟩⟩
end
theorem kTup_of {K : PySem.W.Frag} {a : Addr} {d : Option Addr} {its : Array Value} {k : Nat} {sl : Array (Option Value)} {xs : List V} (h : K.lookup a = some ⟨.type "tuple", d, .seq its k, sl⟩) (hz : its.size ≤ 1000) (e : its.toList.mapM absV = some xs) : kTup K a = some xs := by
  unfold kTup
  rw [h]
  simp only [if_true]
  rw [if_pos (small_le hz)]
  exact e
end L2
namespace L2
open PySem PySem.Spec PyProof.Rows
theorem cutV_to (xs : List V) (k : Nat) : cutV xs none (some (k : Int)) = xs.take k := by
  unfold cutV
  rw [HT.sIx_none, HT.sIx_nat, List.drop_zero, Nat.sub_zero]
  by_cases h : k ≤ xs.length
  · rw [Nat.min_eq_left h]
  · rw [Nat.min_eq_right (by omega), List.take_of_length_le (Nat.le_refl _), List.take_of_length_le (by omega)]
theorem cutV_from (xs : List V) (k : Nat) : cutV xs (some (k : Int)) none = xs.drop k := by
  unfold cutV
  rw [HT.sIx_none, HT.sIx_nat]
  by_cases h : k ≤ xs.length
  · rw [Nat.min_eq_left h, List.take_of_length_le (by rw [List.length_drop]; exact Nat.le_refl _)]
  · rw [Nat.min_eq_right (by omega), List.drop_of_length_le (Nat.le_refl _), List.drop_of_length_le (by omega)]; simp
end L2
namespace L2
open PySem PySem.Spec PyProof.Rows
theorem Ext.at {K : PySem.W.Frag} {H H' : Hp} {a : Addr} {o : HO} (x : Ext K H H') (h : H a = some o) : H' a = some o := x.same _ _ h
theorem Ext.seqQ {K : PySem.W.Frag} {H H' : Hp} {a : Addr} {xs : List V} (x : Ext K H H') (h : seqQ K H a = some xs) : seqQ K H' a = some xs := by
  unfold L2.seqQ at h ⊢
  split at h
  · next e => rw [x.same _ _ e]; exact h
  · next e => rw [x.same _ _ e]; exact h
  · next e => rw [x.same _ _ e]; exact h
  · cases h
  · next e => rw [x.mod a xs e h]; exact h
end L2
namespace L2
open PySem PySem.Spec PyProof.Rows
structure Kp2 (K : PySem.W.Frag) (p q : Addr) (H H' : Hp) : Prop where
  keep : ∀ r o, H r = some o → r ≠ p → r ≠ q → H' r = some o
  mod : ∀ a xs, H a = none → kTup K a = some xs → H' a = none
section
variable {K : PySem.W.Frag} {p q : Addr} {H H' H1 H2 : Hp} {o o' : HO}
theorem Kp.l (x : Kp K p H H') : Kp2 K p q H H' := ⟨fun r o h n _ => x.keep r o h n, x.mod⟩
theorem Kp.r (x : Kp K q H H') : Kp2 K p q H H' := ⟨fun r o h _ n => x.keep r o h n, x.mod⟩
theorem Ext.kp2 (x : Ext K H H') : Kp2 K p q H H' := ⟨fun r o h _ _ => x.same r o h, x.mod⟩
theorem Kp2.trans (x : Kp2 K p q H H1) (y : Kp2 K p q H1 H2) : Kp2 K p q H H2 := ⟨fun r o h n m => y.keep r o (x.keep r o h n m) n m, fun a xs h k => y.mod a xs (x.mod a xs h k) k⟩
theorem Kp2.ext (x : Kp2 K p q (L2.upd (L2.upd H p o) q o') H') (hp : L2.new K H p) (hq : L2.new K (L2.upd H p o) q) : Ext K H H' := by
  have y : Ext K H (L2.upd (L2.upd H p o) q o') := (Ext.new hp).trans (Ext.new hq)
  refine ⟨fun b u e => ?_, fun b ys e k => x.mod b ys (y.mod b ys e k) k⟩
  have n : b ≠ p := ne_of_none e hp.1
  have m : b ≠ q := ne_of_none ((Ext.new hp).at e) hq.1
  exact x.keep b u (y.at e) n m
end
end L2
set_option Elab.async false
set_option linter.all false
set_option maxRecDepth 100000
namespace L2
open PySem PySem.Spec PyProof.Rows
def closL (env : Env) : List (Str × NameKind) → List (Str × Addr) → List (Str × Addr)
  | [], cs => cs
  | (n, k) :: r, cs => closL env r (if (k == NameKind.free) = true then (match env.cells.lookup n with | some a => (n, a) :: cs | none => cs) else cs)
theorem closureFor_eq {scope : Scope} {env : Env} (h : ∀ x ∈ scope.names, x.2 = .free → ∃ c, env.cells.lookup x.1 = some c) : closureFor scope env = pure (closL env scope.names []) := by
  unfold closureFor
  generalize scope.names = names at h ⊢
  generalize ([] : List (Str × Addr)) = cs
  induction names generalizing cs with
  | nil => rfl
  | cons x r ih =>
    obtain ⟨n, k⟩ := x
    have ih' := fun cs => ih (cs := cs) fun x hx => h x (List.mem_cons_of_mem _ hx)
    simp only [List.forIn_cons]
    cases hk : (k == NameKind.free) with
    | false =>
      simp only [closL, hk]
      exact ih' cs
    | true =>
      obtain ⟨c, hc⟩ := h (n, k) (List.mem_cons_self) (by simpa using hk)
      simp only [closL, hk, hc, cellOf]
      exact ih' _
theorem closL_mem {env : Env} : ∀ {names : List (Str × NameKind)} {cs : List (Str × Addr)} {n : Str} {c : Addr}, (n, c) ∈ closL env names cs → (n, c) ∈ cs ∨ env.cells.lookup n = some c
  | [], cs, n, c, h => .inl h
  | (m, k) :: r, cs, n, c, h => by
    rw [closL] at h
    rcases closL_mem h with h | h
    · split at h
      · split at h
        · next a e =>
          rcases List.mem_cons.mp h with z | z
          · cases z; exact .inr e
          · exact .inl z
        · exact .inl h
      · exact .inl h
    · exact .inr h
theorem closL_sub {env : Env} : ∀ {names : List (Str × NameKind)} {cs : List (Str × Addr)} {p : Str × Addr}, p ∈ cs → p ∈ closL env names cs
  | [], cs, p, h => h
  | (m, k) :: r, cs, p, h => by
    rw [closL]
    refine closL_sub ?_
    split
    · split
      · exact List.mem_cons_of_mem _ h
      · exact h
    · exact h
theorem closL_has {env : Env} : ∀ {names : List (Str × NameKind)} {cs : List (Str × Addr)} {n : Str} {c : Addr}, (n, NameKind.free) ∈ names → env.cells.lookup n = some c → (n, c) ∈ closL env names cs
  | (m, k) :: r, cs, n, c, h, e => by
    rw [closL]
    rcases List.mem_cons.mp h with z | z
    · cases z
      rw [if_pos (by decide), e]
      exact closL_sub List.mem_cons_self
    · exact closL_has z e
theorem lookup_mem {α : Type} : ∀ {l : List (Str × α)} {n : Str} {c : α}, l.lookup n = some c → (n, c) ∈ l
  | (m, d) :: r, n, c, h => by
    rw [List.lookup_cons] at h
    cases e : n == m with
    | true =>
      rw [e] at h
      cases h
      rw [eq_of_beq e]
      exact List.mem_cons_self
    | false =>
      rw [e] at h
      exact List.mem_cons_of_mem _ (lookup_mem h)
theorem mem_lookup {α : Type} : ∀ {l : List (Str × α)} {n : Str} {c : α}, (n, c) ∈ l → ∃ d, l.lookup n = some d
  | (m, d) :: r, n, c, h => by
    rw [List.lookup_cons]
    cases e : n == m with
    | true => exact ⟨d, rfl⟩
    | false =>
      rcases List.mem_cons.mp h with z | z
      · cases z
        rw [beq_self_eq_true] at e; cases e
      · exact mem_lookup z
theorem clos_look {env : Env} {names : List (Str × NameKind)} {n : Str} {c : Addr} (h : (closL env names []).lookup n = some c) : env.cells.lookup n = some c := by
  rcases closL_mem (lookup_mem h) with z | z
  · cases z
  · exact z
theorem clos_has {env : Env} {names : List (Str × NameKind)} {n : Str} {c : Addr} (h : (n, NameKind.free) ∈ names) (e : env.cells.lookup n = some c) : (closL env names []).lookup n = some c := by
  obtain ⟨d, hd⟩ := mem_lookup (closL_has (cs := []) h e)
  rw [hd]
  exact (clos_look hd).symm.trans e ▸ rfl
theorem relabel_free {env : Env} : ∀ {names : List (Str × NameKind)} {x : Str}, names.lookup x = some .free →
    (names.map fun (n, k) => if (k == NameKind.free && env.scope.kind == .function && env.kindOf n == some .cell) then (n, NameKind.cell) else (n, k)).lookup x = some .cell ∨
    (names.map fun (n, k) => if (k == NameKind.free && env.scope.kind == .function && env.kindOf n == some .cell) then (n, NameKind.cell) else (n, k)).lookup x = some .free
  | [], _, h => by simp at h
  | (n, k) :: r, x, h => by
    have ih := @relabel_free env r x
    show List.lookup x ((if (k == NameKind.free && env.scope.kind == .function && env.kindOf n == some .cell) = true then (n, NameKind.cell) else (n, k)) :: _) = _ ∨ List.lookup x ((if (k == NameKind.free && env.scope.kind == .function && env.kindOf n == some .cell) = true then (n, NameKind.cell) else (n, k)) :: _) = _
    cases hx : x == n with
    | true =>
      simp only [List.lookup_cons, hx] at h
      cases h
      split
      · simp [List.lookup_cons, hx]
      · simp [List.lookup_cons, hx]
    | false =>
      simp only [List.lookup_cons, hx] at h
      split
      · simp only [List.lookup_cons, hx]; exact ih h
      · simp only [List.lookup_cons, hx]; exact ih h
theorem relabel_mem {env : Env} : ∀ {names : List (Str × NameKind)} {x : Str} {kk : NameKind}, (∀ y ∈ names, y.2 ≠ .cell) →
    (names.map fun (n, k) => if (k == NameKind.free && env.scope.kind == .function && env.kindOf n == some .cell) then (n, NameKind.cell) else (n, k)).lookup x = some kk → kk = .cell ∨ kk = .free → (x, NameKind.free) ∈ names
  | [], _, _, _, h, _ => by simp at h
  | (n, k) :: r, x, kk, hc, h, hk => by
    have ih := @relabel_mem env r x kk fun y hy => hc y (List.mem_cons_of_mem _ hy)
    change List.lookup x ((if (k == NameKind.free && env.scope.kind == .function && env.kindOf n == some .cell) = true then (n, NameKind.cell) else (n, k)) :: _) = _ at h
    cases hx : x == n with
    | true =>
      have e := eq_of_beq hx
      subst e
      split at h
      · next q =>
        simp only [Bool.and_eq_true, beq_iff_eq] at q
        rw [q.1.1]
        exact List.mem_cons_self
      · simp only [List.lookup_cons, hx] at h
        cases h
        rcases hk with z | z
        · exact absurd z (hc _ List.mem_cons_self)
        · rw [z]; exact List.mem_cons_self
    | false =>
      refine List.mem_cons_of_mem _ (ih ?_ hk)
      split at h
      · simp only [List.lookup_cons, hx] at h; exact h
      · simp only [List.lookup_cons, hx] at h; exact h
def Cx.comp (X : Cx) (N : List Str) (scope : Scope) (C : Addr) (s : Shared) (H : Hp) (fp : List Addr) : Cx :=
  { X with N := N, s₀ := s, H₀ := H, env := compEnvC scope (closL X.env scope.names []) C X.env, outer := X.stack, ex := fp, fn := fun _ => false, pn := [], xe := fun _ _ => False }
def pick (σ : St) (src : List (Option Nat)) : St := src.map fun o => match o with | none => none | some j => (σ[j]?).join
def capOk (NX : List Str) (scX sc : Scope) (N : List Str) (src : List (Option Nat)) : Bool :=
  sc.names.all (fun x => x.2 != .cell) && sc.names.all (fun x => x.2 != .local || sc.names.lookup x.1 == some .local) &&
  sc.names.all (fun x => x.2 != .free || (scX.names.lookup x.1 == some .cell || scX.names.lookup x.1 == some .free)) && N.length == src.length &&
  (N.zip src).all (fun p => match p.2 with | none => true | some j => NX[j]? == some p.1 && (scX.names.lookup p.1 == some .cell || scX.names.lookup p.1 == some .free) && sc.names.lookup p.1 == some .free)
structure Cap (X : Cx) (sc : Scope) (N : List Str) (src : List (Option Nat)) : Prop where
  kind : sc.kind = .function
  ok : capOk X.N X.env.scope sc N src = true
section
variable {X : Cx} {sc : Scope} {N : List Str} {src : List (Option Nat)}
theorem Cap.cell (c : Cap X sc N src) : ∀ y ∈ sc.names, y.2 ≠ .cell := fun y hy => by
  have h := c.ok
  simp only [capOk, Bool.and_eq_true, List.all_eq_true] at h
  simpa using h.1.1.1.1 y hy
theorem Cap.names (c : Cap X sc N src) : ∀ y ∈ sc.names, y.2 = .local → sc.names.lookup y.1 = some .local := fun y hy e => by
  have h := c.ok
  simp only [capOk, Bool.and_eq_true, List.all_eq_true] at h
  have q := h.1.1.1.2 y hy
  rw [e] at q
  simpa using q
theorem Cap.free (c : Cap X sc N src) {x : Str} (hx : (x, NameKind.free) ∈ sc.names) : X.env.kindOf x = some .cell ∨ X.env.kindOf x = some .free := by
  have h := c.ok
  simp only [capOk, Bool.and_eq_true, List.all_eq_true] at h
  have q := h.1.1.2 _ hx
  simpa [Env.kindOf] using q
theorem Cap.len (c : Cap X sc N src) : N.length = src.length := by
  have h := c.ok
  simp only [capOk, Bool.and_eq_true, List.all_eq_true] at h
  simpa using h.1.2
theorem Cap.at_ (c : Cap X sc N src) {i j : Nat} {x : Str} (h1 : N[i]? = some x) (h2 : src[i]? = some (some j)) : X.N[j]? = some x ∧ (X.env.kindOf x = some .cell ∨ X.env.kindOf x = some .free) ∧ sc.names.lookup x = some .free := by
  have h := c.ok
  simp only [capOk, Bool.and_eq_true, List.all_eq_true] at h
  have m : (x, some j) ∈ N.zip src := by
    refine List.mem_of_getElem? (i := i) ?_
    rw [List.getElem?_zip_eq_some]
    exact ⟨h1, h2⟩
  have q := h.2 _ m
  simp only [Bool.and_eq_true, Bool.or_eq_true, beq_iff_eq] at q
  exact ⟨q.1.1, q.1.2, q.2⟩
theorem pick_some {σ : St} {i : Nat} {v : V} (h : (pick σ src)[i]? = some (some v)) : ∃ j, src[i]? = some (some j) ∧ σ[j]? = some (some v) := by
  unfold pick at h
  rw [List.getElem?_map] at h
  cases e : src[i]? with
  | none => rw [e] at h; cases h
  | some o =>
    rw [e] at h
    cases o with
    | none => simp at h
    | some j =>
      refine ⟨j, rfl, ?_⟩
      simp only [Option.map_some, Option.some.injEq] at h
      cases e2 : σ[j]? with
      | none => rw [e2] at h; cases h
      | some w =>
        rw [e2] at h
        simp only [Option.join] at h
        exact congrArg some h
theorem Cx.Ok.comp {pins : List (Addr × Obj)} {σ : St} {H : Hp} {s : Shared} {fp : List Addr} {C : Addr} (I : Inv X pins σ H s) (c : Cap X sc N src) (hf : ∀ b ∈ fp, FpOk X pins H b) (ho : ∀ b ∈ fp, ∃ o, s.heap.get? b = some o) (hC : s.heap.objs.size ≤ C) : (X.comp N sc C s H fp).Ok where
  mod := I.ok.mod
  kind := c.kind
  glob := I.ok.glob
  blt := I.ok.blt
  above := hC
  inj := fun x y a h h' => I.ok.inj x y a (clos_look h) (clos_look h')
  has := fun x h => by
    have m : (x, NameKind.free) ∈ sc.names := by
      rcases h with h | h
      · exact relabel_mem c.cell h (.inl rfl)
      · exact relabel_mem c.cell h (.inr rfl)
    obtain ⟨a, ha⟩ := I.ok.has x (c.free m)
    exact ⟨a, clos_has m ha⟩
  cab := fun _ _ h => nomatch h
  hd := I.ok.hd
  frames := I.ok.frames
  stk := .inl rfl
  exf := fun b hb => by
    obtain ⟨o, e⟩ := ho b hb
    exact ⟨Nat.ne_of_lt (Nat.lt_of_lt_of_le (Heap.lt_size e) hC), fun x a h => (hf b hb).2.2.2.2.1 x a (clos_look h)⟩
  bs := I.bs
  bsz := Nat.le_trans I.ok.bsz I.sz
  noex := fun b o e hb => by
    rcases (hf b hb).2.2.2.1 with z | z
    · exact I.ok.noex b o e z
    · exact absurd (Nat.lt_of_lt_of_le (Heap.lt_size e) (Nat.le_trans I.ok.bsz z)) (Nat.lt_irrefl _)
  exfs := fun b hb z => by
    rcases List.mem_cons.mp (I.stkSub b z) with q | q
    · exact (hf b hb).2.1 q
    · exact (hf b hb).2.2.1 q
  funs := I.stack
  frf := I.stkFree
theorem Inv.block {pins : List (Addr × Obj)} {σ : St} {H : Hp} {s : Shared} {fp : List Addr} {C D : Addr} {h1 : Heap} {t' : Nat} (I : Inv X pins σ H s) (c : Cap X sc N src) (hf : ∀ b ∈ fp, FpOk X pins H b) (ho : ∀ b ∈ fp, ∃ o, s.heap.get? b = some o)
    (hD : s.heap.objs.size ≤ D) (hC : s.heap.objs.size ≤ C) (hDC : D ≠ C) (k : ∀ b u, s.heap.get? b = some u → h1.get? b = some u) (hn : h1.Ns C fun _ => none) (new : ObjOk X.prog X.w (upd H D (.lst [])) h1 D (.lst [])) :
    Inv (X.comp N sc C s H fp) [] (pick σ src) (upd H D (.lst [])) { s with heap := h1, toks := t' } where
  ok := Cx.Ok.comp I c hf ho hC
  os := rfl
  bare := I.bare
  base := Un.laid k hD (I.hok.fresh hD)
  loc := by
    refine ⟨_, hn, fun i x v e1 e2 e3 => ?_⟩
    obtain ⟨j, ej, es⟩ := pick_some e2
    obtain ⟨n1, n2, n3⟩ := c.at_ e1 ej
    obtain ⟨m, _, hl⟩ := I.loc
    have vis : Vis X.env.scope x := n2.elim (fun z => .inr (.inl z)) fun z => .inr (.inr z)
    obtain ⟨u, r, q⟩ := hl j x v n1 es vis
    refine ⟨u, r, .inr ⟨relabel_free n3, ?_⟩⟩
    rcases q with ⟨z, _⟩ | ⟨_, a, ha, z⟩
    · rcases n2 with n2 | n2 <;> rw [n2] at z <;> cases z
    · obtain ⟨o, e, d⟩ := z
      exact ⟨a, clos_has (lookup_mem n3) ha, o, k _ _ e, d⟩
  cell := fun x a e => by
    obtain ⟨v, o, e, d⟩ := I.cell x a (clos_look e)
    exact ⟨v, o, k _ _ e, d⟩
  free := by
    show upd H D (.lst []) C = none
    rw [upd_ne hDC.symm]
    exact I.hok.fresh hC
  freeC := fun x a e => by
    obtain ⟨v, o, e', d⟩ := I.cell x a (clos_look e)
    rw [upd_ne (Nat.ne_of_lt (Nat.lt_of_lt_of_le (Heap.lt_size e') hD))]
    exact I.freeC x a (clos_look e)
  pin := fun p hp => nomatch hp
  hok := I.hok.laid k hD new
  len := by
    show (pick σ src).length = N.length
    rw [c.len, pick, List.length_map]
theorem Inv.unblock {pins : List (Addr × Obj)} {σ σ' : St} {H H' : Hp} {s s' : Shared} {fp : List Addr} {C : Addr} {h' : Heap} (I : Inv X pins σ H s) (hf : ∀ b ∈ fp, FpOk X pins H b) (hC : s.heap.objs.size ≤ C)
    (J : Inv (X.comp N sc C s H fp) [] σ' H' s') (hs : ∀ b, b ≠ C → h'.get? b = s'.heap.get? b) : Inv X pins σ H' { s' with heap := h' } := by
  have ne : ∀ b o, s.heap.get? b = some o → b ≠ C := fun b o e => Nat.ne_of_lt (Nat.lt_of_lt_of_le (Heap.lt_size e) hC)
  have u : Un (frs X.stack) fp H H' s.heap s'.heap := J.base
  have u' : Un (frs X.stack) fp H H' s.heap h' := ⟨fun b o e n a x => (hs b (ne b o e)).trans (u.keep b o e n a x), fun b o e n a x => by
      obtain ⟨sl, q⟩ := u.slot b o e n a x
      exact ⟨sl, (hs b (ne b o e)).trans q⟩, u.free, fun b o e x => by
      obtain ⟨o', q⟩ := u.there b o e x
      exact ⟨o', (hs b (ne b o e)).trans q⟩, u.tups, u.frzs, u.tbls⟩
  refine I.call' (s' := { s' with heap := h' }) J.os u' (fun b ob e => ?_) J.bare fun b hb => ⟨(hf b hb).2.2.2.1, (hf b hb).2.1, (hf b hb).2.2.2.2.1, (hf b hb).2.2.2.2.2⟩
  have fr : H' C = none := J.free
  refine (J.hok b ob e).stay (fun a w' ha q => (hs a ?_).trans q) (fun _ q => q) fun _ _ q => q
  rintro rfl
  rcases ha with rfl | ha
  · rw [fr] at e; cases e
  · rw [fr] at ha; cases ha
end
abbrev F0 : Value → Shared → Prop := fun _ _ => False
section
variable {prog : Program} {w : World} {A : Around} {R : Result → Shared → Prop} {s : Shared}
theorem compLoop_any {elt target iter : Expr} {ifs : List Expr} {scope : Scope} {pos : Pos} {it acc : Value} {env : Env} (I : Nat → Shared → Prop)
    (turn : ∀ n s, I n s → wpAny (model prog w) A (pyNext it) (fun r s₁ => match r with
      | none => R (.ok .next) s₁
      | some v => wpAny (model prog w) A (letOwnedTupleGo target it v) (fun _ s₁' => wpAny (model prog w) A (assign target env v) (fun _ s₂ =>
          wpAny (model prog w) A (forIn ifs true fun c r => if r = true then do let ok ← isTrue c env (eval c env); pure (ForInStep.yield ok) else pure (ForInStep.yield r)) (fun ok s₃ =>
            if ok = true then wpAny (model prog w) A (eval elt env) (fun x s₄ =>
              wpAny (model prog w) A (call (.builtin "list.append") [acc, x]) (fun _ s₅ => ∃ m, m < n ∧ I m s₅) F0 s₄) F0 s₃
            else ∃ m, m < n ∧ I m s₃) F0 s₂) F0 s₁') F0 s₁) F0 s)
    (n : Nat) (h : I n s) :
    codeAny (model prog w) A (.compLoop (.ListComp elt [⟨target, iter, ifs, 0⟩] scope pos) 0 it acc env) R s := by
  refine codeAny_loop rfl I (fun n s hI => ?_) n h
  show wpAny _ A ((compTurn (.ListComp elt [⟨target, iter, ifs, 0⟩] scope pos) 0 it acc env).onRaise (fun x => do noteFrame x env; theTreesLotGoes x)) _ _ s
  refine wpAny_noted ?_
  rw [compTurn_list]
  refine wpAny_bind (wpAny_standAt (wpAny_bind (wpAny_mono (turn n s hI) (fun r s₁ h₁ => ?_) fun _ _ h' => h'.elim)))
  cases r with
  | none => exact wpAny_pure h₁
  | some v =>
    refine wpAny_bind (wpAny_mono h₁ (fun _ s₁' h₁' => ?_) fun _ _ h' => h'.elim)
    refine wpAny_bind (wpAny_mono h₁' (fun _ s₂ h₂ => wpAny_bind (wpAny_mono h₂ (fun ok s₃ h₃ => ?_) fun _ _ h' => h'.elim)) fun _ _ h' => h'.elim)
    cases ok with
    | false => exact wpAny_pure ⟨rfl, h₃⟩
    | true =>
      exact wpAny_bind (wpAny_bind (wpAny_mono h₃ (fun x s₄ h₄ => wpAny_bind (wpAny_mono h₄ (fun _ s₅ h₅ => wpAny_pure (wpAny_pure ⟨rfl, h₅⟩)) fun _ _ h' => h'.elim)) fun _ _ h' => h'.elim))
end
def PF (X : Cx) (ifs : List Expr) (t : TT) : Prop :=
  ∀ (pins : List (Addr × Obj)) (s : Shared) (σ : St) (H : Hp) (Q : Bool → Hp → Prop), Inv X pins σ H s → t σ H Q →
    wpAny (model X.prog X.w) X.A (forIn ifs true fun c r => if r = true then do let ok ← isTrue c X.env (eval c X.env); pure (ForInStep.yield ok) else pure (ForInStep.yield r)) (TP X pins σ Q) X.xe s
structure JF (X : Cx) (ifs : List Expr) (t : TT) : Prop where h : PF X ifs t
def tYes : TT := fun _ H Q => Q true H
theorem fnone {X : Cx} : JF X [] tYes := ⟨fun _ _ _ H _ I h => wpAny_tests_nil ⟨H, I, h⟩⟩
theorem fone {X : Cx} {c : Expr} {t : TT} (h : JT X c t) : JF X [c] t := ⟨fun pins s σ H Q I q => wpAny_tests_one (h.h pins s σ H Q I q)⟩
def LcLoop (J : It) (g : TG) (tt : TT) (te : TE) (D : Addr) (Q : Hp → Prop) (σ : St) (H : Hp) : Prop := ∃ W : Nat → Nat → List V → St → Hp → Prop, (∃ m, W 0 m [] σ H) ∧ ∀ i m acc σ H, W i m acc σ H →
  (J.stop i H ∧ Q H) ∨ (J.go i H ∧ ∃ N : List V → St → Hp → Prop, (∀ acc' σ' H', N acc' σ' H' → ∃ m', m' < m ∧ W (i + 1) m' acc' σ' H') ∧ ∀ x H', J.yld i H x H' → g x σ H' fun σ2 H2 => tt σ2 H2 fun b H3 =>
    if b = true then te σ2 H3 fun v H4 => H4 D = some (.lst acc) ∧ acc.length < sizeLine ∧ N (acc ++ [v]) σ2 (upd H4 D (.lst (acc ++ [v])))
    else N acc σ2 H3)
def tLc (K : PySem.W.Frag) (wi : TI) (src : List (Option Nat)) (g : TG) (tt : TT) (te : TE) : TE := fun σ H Q => wi σ H fun J H1 => ∀ D, L2.new K H1 D → LcLoop J g tt te D (fun H' => Q (.ref D) H') (pick σ src) (upd H1 D (.lst []))
section
variable {X : Cx} {sc : Scope} {N : List Str} {src : List (Option Nat)} {tg iter elt : Expr} {ifs : List Expr} {wi : TI} {g : TG} {tt : TT} {te : TE} {pos : Pos}
theorem comp_run {R : Value → Addr → Result → Shared → Prop} {E : Value → Shared → Prop} (c : Cap X sc N src) (hc : X.calm = true)
    (hg : ∀ C s H fp, JG (X.comp N sc C s H fp) tg g) (ht : ∀ C s H fp, JF (X.comp N sc C s H fp) ifs tt) (he : ∀ C s H fp, JE (X.comp N sc C s H fp) elt te)
    {pins : List (Addr × Obj)} {σ : St} {H : Hp} {s : Shared} {it : Addr} {fp : List Addr} {tn : Nat → Heap → Prop} {J : It} {Q : V → Hp → Prop} (I : Inv X pins σ H s) (T : Turn X.prog X.w X.K tg J fp it tn) (st : tn 0 s.heap) (hf : ∀ b ∈ fp, FpOk X pins H b)
    (h : ∀ D, L2.new X.K H D → LcLoop J g tt te D (fun H' => Q (.ref D) H') (pick σ src) (upd H D (.lst [])))
    (hR : ∀ D C s' σ' H', s.heap.objs.size ≤ C → Inv (X.comp N sc C s H fp) [] σ' H' s' → Q (.ref D) H' → R (.ref D) C (.ok .next) s') :
    wpAny (model X.prog X.w) X.A (newList []) (fun acc s₃ => wpAny (model X.prog X.w) X.A (newFunctionEnv sc X.env.globals (closL X.env sc.names []) [] X.env.qual none .none (some X.env)) (fun cenv s₄ =>
      codeAny (model X.prog X.w) X.A (.compStart (.ListComp elt [⟨tg, iter, ifs, 0⟩] sc pos) 0 (.ref it) acc { cenv with scope := relabel sc X.env }) (R acc cenv.locals) s₄) E s₃) E s := by
  refine wpAny_newObj_type (wpAny_newFunctionEnv c.cell (by intro y hy; simp at hy) (fun h₁ hns₁ hsb₁ => ?_) c.kind)
  dsimp only at hns₁ hsb₁ ⊢
  generalize hH2 : s.heap.push { cls := .type "list", dict := none, data := .seq ([] : List Value).toArray } = H2 at hns₁ hsb₁ ⊢
  have hC : H2.objs.size = s.heap.objs.size + 1 := by rw [← hH2, Heap.size_push]
  have hDC : s.heap.objs.size ≠ H2.objs.size := by rw [hC]; exact Nat.ne_of_lt (Nat.lt_succ_self _)
  have hCle : s.heap.objs.size ≤ H2.objs.size := by rw [hC]; exact Nat.le_succ _
  have below : ∀ b, b < s.heap.objs.size → b ≠ H2.objs.size := fun b hb => by rw [hC]; exact Nat.ne_of_lt (Nat.lt_succ_of_lt hb)
  have old : ∀ b o, s.heap.get? b = some o → h₁.get? b = some o := fun b o e => hsb₁.extBut b o (below b (Heap.lt_size e)) (Heap.get?_push_of_some _ (hH2 ▸ Heap.get?_push_of_some _ e))
  have hacc : h₁.get? s.heap.objs.size = some { cls := .type "list", dict := none, data := .seq ([] : List Value).toArray } := hsb₁.extBut _ _ hDC (Heap.get?_push_of_some _ (hH2 ▸ Heap.get?_push_size _ rfl))
  have ho : ∀ b ∈ fp, ∃ o, s.heap.get? b = some o := fun b hb => let ⟨o, e, _⟩ := T.obj _ _ st b hb; ⟨o, e⟩
  have I0 := I.block (t' := s.toks + ([] : List (Str × Value)).length) c hf ho (Nat.le_refl _) hCle hDC old hns₁ ⟨Nat.zero_le _, [], 0, .nil, hacc⟩
  have st0 : tn 0 h₁ := T.keep _ _ _ st fun b hb o e => old b o e
  obtain ⟨W, ⟨m0, w0⟩, turn⟩ := h _ I.new
  have stat : ∀ {H' : Hp}, (∀ b ∈ fp, H' b = none) → ∀ b ∈ fp, FpOk (X.comp N sc H2.objs.size s H fp) [] H' b := fun hn b hb => by
    obtain ⟨f0, f1, f2, f3, f4, f5⟩ := hf b hb
    obtain ⟨o, e⟩ := ho b hb
    refine ⟨hn b hb, below b (Heap.lt_size e), fun z => ?_, .inl hb, fun x a q => f4 x a (clos_look q), fun p hp => nomatch hp⟩
    rcases List.mem_cons.mp (I.stkSub b z) with q | q
    · exact f1 q
    · exact f2 q
  have fr0 : ∀ b ∈ fp, (upd H s.heap.objs.size (.lst [])) b = none := fun b hb => by
    obtain ⟨o, e⟩ := ho b hb
    rw [upd_ne (Nat.ne_of_lt (Heap.lt_size e))]
    exact (hf b hb).1
  have loop : ∀ s₃ : Shared, s₃ = { s with heap := h₁, toks := s.toks + ([] : List (Str × Value)).length } →
      codeAny (model X.prog X.w) X.A (.compLoop (.ListComp elt [⟨tg, iter, ifs, 0⟩] sc pos) 0 (.ref it) (.ref s.heap.objs.size) (compEnvC sc (closL X.env sc.names []) H2.objs.size X.env)) (R (.ref s.heap.objs.size) H2.objs.size) s₃ := by
    rintro s₃ rfl
    refine compLoop_any (fun n s' => ∃ i acc σ' H', Inv (X.comp N sc H2.objs.size s H fp) [] σ' H' s' ∧ tn i s'.heap ∧ (∀ b ∈ fp, H' b = none) ∧ W i n acc σ' H') ?_ m0 ⟨0, _, _, _, I0, st0, fr0, w0⟩
    rintro n s3 ⟨i, acc, σ3, H3, I3, st3, fr3, w3⟩
    rcases turn i n acc σ3 H3 w3 with ⟨stop, qn⟩ | ⟨go, NN, hNN, step⟩
    · refine thn (T.done (X.comp N sc H2.objs.size s H fp) rfl rfl rfl hc i [] s3 σ3 H3 F0 I3 (stat fr3) st3 stop) fun r s4 ⟨hr, I4⟩ => ?_
      subst hr
      exact hR _ _ _ _ _ hCle I4 qn
    · refine thn (T.item (X.comp N sc H2.objs.size s H fp) rfl rfl rfl hc i [] s3 σ3 H3 F0 I3 (stat fr3) st3 go) fun r s4 ⟨u, hr, h4⟩ => ?_
      subst hr
      refine thn h4 fun _ s5 ⟨x, H5, I5, r5, y5, st5, fr5⟩ => ?_
      have I5' := I5.pinned (stat fr5) (T.obj _ _ st5)
      refine thn ((hg _ _ _ _).h _ s5 σ3 H5 x u _ I5' r5 (step x H5 y5)) fun _ s6 ⟨σ6, H6, I6, q6⟩ => ?_
      refine thn ((ht _ _ _ _).h _ s6 σ6 H6 _ I6 q6) fun b s7 ⟨H7, I7, q7⟩ => ?_
      have again : ∀ {acc8 : List V} {s8 : Shared} {H8 : Hp}, Inv (X.comp N sc H2.objs.size s H fp) ([] ++ pinsAt fp s5.heap) σ6 H8 s8 → NN acc8 σ6 H8 → ∃ m, m < n ∧ ∃ i acc σ' H', Inv (X.comp N sc H2.objs.size s H fp) [] σ' H' s8 ∧ tn i s8.heap ∧ (∀ b ∈ fp, H' b = none) ∧ W i m acc σ' H' := fun {acc8 s8 H8} I8 w => by
        obtain ⟨m', hm, w8⟩ := hNN _ _ _ w
        refine ⟨m', hm, i + 1, acc8, σ6, H8, I8.unpinned, T.keep _ _ _ st5 fun b hb o e => (I8.pin (b, o) (List.mem_append_right _ (List.mem_append_right _ (mem_pinsAt hb e)))).1, fun b hb => ?_, w8⟩
        obtain ⟨o, e, d⟩ := T.obj _ _ st5 b hb
        exact (I8.pin (b, o) (List.mem_append_right _ (List.mem_append_right _ (mem_pinsAt hb e)))).2.1
      cases b with
      | false => exact again I7 q7
      | true =>
        refine thn ((he _ _ _ _).h _ s7 σ6 H7 _ I7 q7) fun y s8 ⟨v, H8, I8, r8, q8⟩ => ?_
        obtain ⟨hx, hz, w8⟩ := q8
        refine thn (mt_append (X := X.comp N sc H2.objs.size s H fp) _ s8 σ6 H8 (.ref s.heap.objs.size) [v] (.ref s.heap.objs.size) [y] (fun _ H9 => H9 = upd H8 s.heap.objs.size (.lst (acc ++ [v]))) I8 rfl (.cons r8 .nil) ⟨_, acc, v, rfl, rfl, hx, hz, rfl⟩) fun _ s9 ⟨_, H9, I9, _, q9⟩ => ?_
        subst q9
        exact again I9 w8
  exact codeAny_compStart_list (loop _ rfl) (T.self _ 0 _ _ _ st0 (loop _ rfl))
theorem elc (c : Cap X sc N src) (hc : X.calm = true) (hi : JI X tg iter wi)
    (hg : ∀ C s H fp, JG (X.comp N sc C s H fp) tg g) (ht : ∀ C s H fp, JF (X.comp N sc C s H fp) ifs tt) (he : ∀ C s H fp, JE (X.comp N sc C s H fp) elt te)
    (hs : ∀ x, foldedSetIterable iter X.env x = pure x := by intro _; rfl) : JE X (.ListComp elt [⟨tg, iter, ifs, 0⟩] sc pos) (tLc X.K wi src g tt te) := ⟨by
  intro pins s σ H Q I h
  rw [eval_ListComp]
  refine wpAny_comprehension_free (use := none) rfl hs (closureFor_eq fun x hx hk => ?_) c.kind c.names ?_
  · obtain ⟨n, k⟩ := x
    cases hk
    exact I.ok.has _ (c.free hx)
  refine thn (hi.h pins s σ H _ I h) fun v s1 h1 => thn h1 fun itv s2 h2 => ?_
  obtain ⟨it, fp, tn, J, H2, e, I2, T, st2, f2, h2⟩ := h2
  subst e
  refine comp_run (R := fun acc C => compPost (model X.prog X.w) X.A X.xe none (EP X pins σ Q) acc C) (Q := Q) c hc hg ht he I2 T st2 f2 h2 fun D C s' σ' H' hC I' q => ?_
  obtain ⟨m, hn, _⟩ := id I'.loc
  refine ⟨m, hn, fun h' sb => ?_⟩
  exact ⟨.ref D, H', I2.unblock f2 hC I' fun b hb => sb.2 b hb, rfl, q⟩⟩
end
end L2
namespace L2
open PySem PySem.Spec PyProof.Rows
theorem pick_nil {σ : St} : pick σ [] = [] := rfl
theorem pick_own {σ : St} {r : List (Option Nat)} : pick σ (none :: r) = none :: pick σ r := rfl
theorem pick_cap {σ : St} {j : Nat} {r : List (Option Nat)} : pick σ (some j :: r) = (σ[j]?).join :: pick σ r := rfl
theorem join_some {α : Type} {o : Option α} : (some o).join = o := rfl
section
variable {K : PySem.W.Frag} {g : TG} {tt : TT} {te : TE} {D a : Addr} {Q : Hp → Prop} {σ : St} {H : Hp} {xs : List V} {lo : Int} {n : Nat}
theorem tLc_list {tl : TE} {src : List (Option Nat)} {Q : VK} : tLc K (iList K tl) src g tt te σ H Q = tl σ H (fun x H1 => ∃ a, x = .ref a ∧ (∃ xs, SqL K H1 a xs) ∧ ∀ D, L2.new K H1 D → LcLoop (Itl K a) g tt te D (fun H' => Q (.ref D) H') (pick σ src) (upd H1 D (.lst []))) := rfl
end
end L2
namespace L2
open PySem PySem.Spec PyProof.Rows
section
variable {X : Cx} {es : List Expr} {t : TA} {pos : Pos} (K : PySem.W.Frag)
theorem etupQK {k} (h : JA X es t) (hk : X.K = K := by rfl) : JE X (.Tuple es k pos) (tTupQ K t) := by subst hk; exact etupQ h
theorem gtupQK {k : Nat} {t : TGs} {n : Nat} (hc : X.calm = true) (h : JGs X es t) (hn : (assignEach es X.env).length = n := by rfl) (hst : (assignEach es X.env).findIdx? (·.1) = none := by rfl) (hk : X.K = K := by rfl) : JG X (.Tuple es k pos) (gTupQ K n t) := by subst hk; exact gtupQ hc h hn hst
end
end L2
namespace L2
open PySem PySem.Spec PyProof.Rows
section
variable {X : Cx} {pins : List (Addr × Obj)} {σ : St} {H : Hp} {s : Shared}
theorem Inv.notMod (I : Inv X pins σ H s) {a : Addr} {o : HO} (h : H a = some o) : kTup X.K a = none := by
  cases e : kTup X.K a with
  | none => rfl
  | some xs =>
    obtain ⟨ob, q⟩ := kTup_look e
    rw [(I.bs a ob (I.ok.mod.kin a ob q)).2] at h
    cases h
theorem call_list_ofQ : CallR X (.type "list") (fun xs H Q => ∃ p ys, xs = [.ref p] ∧ seqQ X.K H p = some ys ∧ ∀ l, L2.new X.K H l → Q (.ref l) (upd H l (.lst ys))) := by
  intro pins s σ H xs us Q I r h
  obtain ⟨p, ys, e, hq, q⟩ := h
  refine thn (call_list_of pins s σ H xs us (fun v H' => ∃ l, H l = none ∧ v = .ref l ∧ H' = upd H l (.lst ys)) I r ⟨p, ys, e, seqQ_sq hq, fun l hl => ⟨l, hl, rfl, rfl⟩⟩) fun u s' ⟨v, H', I', rv, l, hl, e1, e2⟩ => ?_
  subst e1 e2
  exact ⟨_, _, I', rv, q l ⟨hl, I'.notMod upd_same⟩⟩
theorem call_list_ofQK (K : PySem.W.Frag) (hk : X.K = K := by rfl) : CallR X (.type "list") (fun xs H Q => ∃ p ys, xs = [.ref p] ∧ seqQ K H p = some ys ∧ ∀ l, L2.new K H l → Q (.ref l) (upd H l (.lst ys))) := by subst hk; exact call_list_ofQ
end
theorem Kp2.kp {K : PySem.W.Frag} {p D : Addr} {H H' : Hp} {o : HO} (k : Kp2 K p D (upd H D o) H') (n : L2.new K H D) : Kp K p H H' := by
  refine ⟨fun q u e m => ?_, fun b ys e m => k.mod b ys ((Ext.new n).mod b ys e m) m⟩
  have d : q ≠ D := ne_of_none e n.1
  exact k.keep q u (by rw [upd_ne d]; exact e) m d
theorem Kp2.refl {K : PySem.W.Frag} {p D : Addr} {H : Hp} : Kp2 K p D H H := ⟨fun _ _ h _ _ => h, fun _ _ h _ => h⟩
end L2
set_option Elab.async false
set_option linter.all false
set_option maxRecDepth 100000
namespace L2
open PySem PySem.Spec PyProof.Rows
def strKeysB (es : Array DictEntry) : Bool := es.toList.all fun e => match e.key with | .str _ _ => true | _ => false
theorem strKeys_of {es : Array DictEntry} (h : strKeysB es = true) : StrKeys es := fun e he => by
  have q := List.all_eq_true.mp h e (by simpa using he)
  cases k : e.key <;> rw [k] at q <;> first | exact ⟨_, _, rfl⟩ | cases q
theorem binds_kw {K : PySem.W.Frag} {s : Shared} {fd : FuncData} {args : Args} {binds : List (Str × Value)} {d : Addr} {name : Str} {v cls : Value} {es : Array DictEntry} {ep : Nat} {od : Option Addr} {sl : Array (Option Value)} {k : Option Value → Sem (List (Str × Value))}
    (hK : K.In s.heap) (l : K.lookup d = some ⟨cls, od, .dict es ep, sl⟩) (hs : strKeysB es = true) (hf : nsFind es name = some v) (h₁ : bindArgs fd args = nsGet d name >>= k) (h₂ : k (some v) = pure binds) : BindsTo s fd args binds :=
  fun M A E Q hq => by
    rw [h₁]
    have hn : s.heap.Ns d (fun n => nsFind es n) := ⟨_, es, ep, hK d _ l, rfl, strKeys_of hs, fun _ => rfl⟩
    refine wpAny_bind (wpAny_nsGet hn ?_)
    rw [hf, h₂]
    exact wpAny_pure hq
def gk {α : Type} (n m : Nat) (us ws : List α) : List α := if us.length = n ∧ ws.length = m then us ++ ws else []
theorem gk_rel {n m : Nat} {vs : List V} {us : List Value} {zs : List V} {ws : List Value} (r : Vals vs us) (r' : Vals zs ws) : Vals (gk n m vs zs) (gk n m us ws) := by
  unfold gk
  rw [r.length, r'.length]
  split
  · exact r.append r'
  · exact .nil
theorem kbinds {K : PySem.W.Frag} {fd : FuncData} {ps ks : List Str} {n m : Nat} (hn : ps.length = n + m) (hp : 0 < n + m) (h : ∀ (s : Shared) (us ws : List Value), us.length = n → ws.length = m → BindsTo s fd ⟨us, ks.zip ws⟩ (ps.zip (us ++ ws))) : KBinds K fd ps ks (gk n m) (gk n m) where
  to := fun s us ws _ hl => by
    unfold gk at hl ⊢
    split
    · next c => exact h s us ws c.1 c.2
    · next c => rw [if_neg c] at hl; simp only [List.length_nil] at hl; omega
  rel := gk_rel
structure JK (X : Cx) (kws : List Keyword) (t : TA) : Prop where h : PK X kws t
structure CalleeK (P : Program) (w : World) (K : PySem.W.Frag) (mg : Str → Option Value) (base : Heap) (x : Str) (k : Nat) (ps : List Str) (ks : List Str) (n m : Nat) (sp : Sp) : Prop where
  ex : ∃ (f : Addr) (fd : FuncData), FnOk P w K mg base CX0 k f fd ps sp ∧ KBinds K fd ps ks (gk n m) (gk n m) ∧ PySem.W.keepIn K (.ref f) = true ∧ mg x = some (.ref f)
structure CalleeD (P : Program) (w : World) (K : PySem.W.Frag) (mg : Str → Option Value) (base : Heap) (x : Str) (k : Nat) (ps : List Str) (dvs : List V) (sp : Sp) : Prop where
  ex : ∃ (f : Addr) (fd : FuncData) (ds : List Value), FnOk P w K mg base CX0 k f fd ps sp ∧ Binds K fd ps ds ∧ Vals dvs ds ∧ PySem.W.keepIn K (.ref f) = true ∧ mg x = some (.ref f)
section
variable {X : Cx} {x : Str} {k n m : Nat} {ps ks : List Str} {dvs : List V} {sp : Sp} {e : Expr} {es : List Expr} {kws : List Keyword} {t tk : TA} {te : TE} {p pos kpos : Pos} {nm : Option Str}
theorem knil : JK X [] tNil := ⟨pk_nil⟩
theorem kcons (ha : JE X e te) (hr : JK X kws t) : JK X (⟨nm, e, kpos⟩ :: kws) (tCons te t) := ⟨pk_cons ha.h hr.h⟩
theorem ecallK (C : CalleeK X.prog X.w X.K X.mg X.base x k ps ks n m sp) (hr : Room k X.A) (hg : Gl X x) (ha : JA X (e :: es) t) (hkw : JK X kws tk) (hall : (backToKw pos (keywordEach kws X.env)).all (·.1.isSome) = true := by rfl) (hks : (backToKw pos (keywordEach kws X.env)).filterMap (·.1) = ks := by rfl)
    (hdb : (x == ("__debug__" : Str)) = false := by decide) (he : starEach (e :: es) X.env = (false, eval e X.env) :: starEach es X.env := by rfl)
    (hpl : ((backTo pos (starEach (e :: es) X.env)).any (·.1) || (backToKw pos (keywordEach kws X.env)).any (·.1.isNone)) = false := by rfl) :
    JE X (.Call (.Name x p) (e :: es) kws pos) (tCallK sp (gk n m) E0 t tk) := ⟨by
  intro pins s σ H Q I h
  obtain ⟨f, fd, F, b, kp, mm⟩ := C.ex
  exact pe_callK F hr hg mm kp b pass0 ha.h hkw.h hall hks hdb he hpl pins s σ H Q I h⟩
theorem tCallKC {gV : List V → List V → List V} {E : XK} {σ : St} {H : Hp} {Q : VK} : tCallK sp gV E t tk σ H Q = t σ H (fun vs H1 => tk σ H1 fun zs H2 => Cal sp (gV vs zs) H2 Q ⟨0⟩ E) := rfl
end
end L2
namespace L2
open PySem PySem.Spec PyProof.Rows
end L2
namespace L2
open PySem PySem.Spec PyProof.Rows
section
variable {K : PySem.W.Frag} {s : Shared} {fd : FuncData} {args : Args} {binds : List (Str × Value)} {d : Addr} {name : Str} {v cls : Value} {es : Array DictEntry} {ep : Nat} {od : Option Addr} {sl : Array (Option Value)} {α β : Type}
theorem binds_kw2 {f : Option Value → Sem α} {g : α → Sem (List (Str × Value))}
    (hK : K.In s.heap) (l : K.lookup d = some ⟨cls, od, .dict es ep, sl⟩) (hs : strKeysB es = true) (hf : nsFind es name = some v) (h₁ : bindArgs fd args = (nsGet d name >>= f) >>= g) (h₂ : (f (some v) >>= g) = pure binds) : BindsTo s fd args binds :=
  binds_kw (k := fun x => f x >>= g) hK l hs hf (by rw [h₁, bind_assoc]) h₂
theorem binds_kw3 {f : Option Value → Sem α} {g : α → Sem β} {k : β → Sem (List (Str × Value))}
    (hK : K.In s.heap) (l : K.lookup d = some ⟨cls, od, .dict es ep, sl⟩) (hs : strKeysB es = true) (hf : nsFind es name = some v) (h₁ : bindArgs fd args = ((nsGet d name >>= f) >>= g) >>= k) (h₂ : ((f (some v) >>= g) >>= k) = pure binds) : BindsTo s fd args binds :=
  binds_kw2 (f := f) (g := fun x => g x >>= k) hK l hs hf (by rw [h₁, bind_assoc]) (by rw [← h₂, bind_assoc])
end
end L2
set_option Elab.async false
set_option linter.all false
set_option maxRecDepth 100000
namespace L2
open PySem PySem.Spec PyProof.Rows
section
variable {X : Cx} {o lo hi e : Expr} {to tl th te : TE} {p pos : Pos}
end
end L2
namespace L2
open PySem PySem.Spec PyProof.Rows
section
variable {X : Cx}
def rSlTQ (K : PySem.W.Frag) : V → Option Int → Option Int → Hp → VK → Prop := fun x lo hi H Q => ∃ a xs, x = .ref a ∧ tupQ K H a = some xs ∧
  ¬ (HT.sIx xs.length 0 lo = 0 ∧ HT.sIx xs.length xs.length hi = xs.length) ∧ ∀ p, L2.new K H p → Q (.ref p) (upd H p (.tup (cutV xs lo hi)))
theorem sl_tupQ : SlR X (rSlTQ X.K) := by
  intro pins s σ H x v vl vu lo hi sl Q I rx hs pl pu h
  obtain ⟨a, xs, rfl, hx, hw, q⟩ := h
  obtain ⟨T, id, h1, h2, h3⟩ := sl_tup pins s σ H (.ref a) v vl vu lo hi sl (fun v' H' => ∃ l, H l = none ∧ v' = .ref l ∧ H' = upd H l (.tup (cutV xs lo hi))) I rx hs pl pu ⟨a, xs, rfl, tupQ_sq hx, hw, fun l hl => ⟨l, hl, rfl, rfl⟩⟩
  refine ⟨T, id, h1, h2, thn h3 fun u s' ⟨v', H', I', rv, l, hl, e1, e2⟩ => ?_⟩
  subst e1 e2
  exact ⟨_, _, I', rv, q l ⟨hl, I'.notMod upd_same⟩⟩
end
end L2
set_option Elab.async false
set_option linter.all false
set_option maxRecDepth 100000
namespace L2
open PySem PySem.Spec PyProof.Rows
abbrev TBd := List V → St → Hp → (List V → St → Hp → Prop) → Prop
section
variable {elt tg iter tg1 iter1 : Expr} {ifs ifs1 : List Expr} {scope : Scope} {pos : Pos} {it acc : Value} {env : Env}
variable {prog : Program} {w : World} {A : Around} {R : Result → Shared → Prop} {s : Shared}
end
section
variable {Y : Cx} {elt tg iter tg1 iter1 : Expr} {ifs ifs1 : List Expr} {scope : Scope} {pos : Pos} {g : TG} {tt : TT} {te : TE}
end
section
variable {X : Cx} {sc : Scope} {N : List Str} {src : List (Option Nat)} {tg iter tg1 iter1 elt : Expr} {ifs ifs1 : List Expr} {wi wi1 : TI} {g g1 : TG} {tt tt1 : TT} {te : TE} {pos : Pos}
end
section
variable {K : PySem.W.Frag} {g : TG} {tt : TT} {body : TBd} {a : Addr} {acc0 : List V} {F : List V → St → Hp → Prop} {σ : St} {H : Hp} {xs : List V} {n : Nat}
end
end L2
set_option Elab.async false
set_option linter.all false
set_option maxRecDepth 100000
namespace L2
open PySem PySem.Spec PyProof.Rows
theorem ints_vals : ∀ {us : List Value} {ns : List Int}, IntsAre us ns → Vals (ns.map V.int) us
  | _, _, .nil => .nil
  | _, _, .cons n t h => .cons ⟨t, rfl⟩ (ints_vals h)
section
variable {X : Cx}
end
section
variable {P : Program} {w : World} {A : Around} {E : Value → Shared → Prop} {s : Shared} {b0 : Array Keyed}
end
section
variable {X : Cx}
end
end L2
set_option Elab.async false
set_option linter.all false
set_option maxRecDepth 100000
namespace L2
open PySem PySem.Spec PyProof.Rows
def Rise (xs : Array Nat) : Prop := xs.toList.Pairwise (· < ·)
structure TabOk (t : SetTable) : Prop where
  bare : t.dummies = #[]
  rise : Rise t.place
section
variable {xs : Array Nat} {j : Nat}
theorem Rise.lt (h : Rise xs) {i k : Nat} (ik : i < k) (hk : k < xs.size) : xs.getD i j < xs.getD k j := by
  have hi : i < xs.size := Nat.lt_trans ik hk
  rw [Array.getD_eq_getD_getElem?, Array.getD_eq_getD_getElem?, Array.getElem?_eq_getElem hi, Array.getElem?_eq_getElem hk]
  have q := List.pairwise_iff_getElem.mp h i k (by simpa using hi) (by simpa using hk) ik
  simpa using q
theorem low_lt (h : Rise xs) {m : Nat} (hm : xs.getD m j < j) {i : Nat} (hi : i ≤ m) : xs.getD i j < j := by
  by_cases c : m < xs.size
  · by_cases e : i = m
    · rw [e]; exact hm
    · have := h.lt (j := j) (show i < m by omega) c
      omega
  · rw [Array.getD_eq_getD_getElem?, Array.getElem?_eq_none (by omega)] at hm
    exact absurd hm (Nat.lt_irrefl _)
theorem high_ge (h : Rise xs) {m : Nat} (hm : ¬ xs.getD m j < j) {i : Nat} (hi : m ≤ i) : ¬ xs.getD i j < j := fun c => hm (low_lt h c hi)
theorem below_go (h : Rise xs) : ∀ fuel lo hi, lo ≤ hi → hi ≤ xs.size → hi - lo ≤ fuel → (∀ i, i < lo → xs.getD i j < j) → (∀ i, hi ≤ i → ¬ xs.getD i j < j) →
    SetTable.below.go xs j fuel lo hi ≤ xs.size ∧ (∀ i, i < SetTable.below.go xs j fuel lo hi → xs.getD i j < j) ∧ ∀ i, SetTable.below.go xs j fuel lo hi ≤ i → ¬ xs.getD i j < j
  | 0, lo, hi, h1, h2, h3, h4, h5 => by
    have e : lo = hi := by omega
    unfold SetTable.below.go
    exact ⟨by omega, h4, fun i hi' => h5 i (by omega)⟩
  | fuel + 1, lo, hi, h1, h2, h3, h4, h5 => by
    unfold SetTable.below.go
    by_cases c : lo < hi
    · rw [if_pos c]
      dsimp only
      by_cases d : xs.getD ((lo + hi) / 2) j < j
      · rw [if_pos d]
        exact below_go h fuel _ _ (by omega) h2 (by omega) (fun i hi' => low_lt h d (by omega)) h5
      · rw [if_neg d]
        exact below_go h fuel _ _ (by omega) (by omega) (by omega) h4 (fun i hi' => high_ge h d hi')
    · rw [if_neg c]
      exact ⟨by omega, h4, fun i hi' => h5 i (by omega)⟩
theorem below_spec (h : Rise xs) (j : Nat) : SetTable.below xs j ≤ xs.size ∧ (∀ i, i < SetTable.below xs j → xs.getD i j < j) ∧ ∀ i, SetTable.below xs j ≤ i → ¬ xs.getD i j < j := by
  unfold SetTable.below
  refine below_go h _ _ _ (Nat.zero_le _) (Nat.le_refl _) (by omega) (fun i hi => absurd hi (Nat.not_lt_zero _)) (fun i hi => ?_)
  rw [Array.getD_eq_getD_getElem?, Array.getElem?_eq_none hi]
  exact Nat.lt_irrefl _
theorem Rise.insert (h : Rise xs) {j : Nat} (free : xs[SetTable.below xs j]? ≠ some j) : Rise (SetTable.insertAt xs (SetTable.below xs j) j) := by
  obtain ⟨b1, b2, b3⟩ := below_spec h j
  generalize SetTable.below xs j = p at *
  have at_ : ∀ i (hi : i < xs.size), xs.getD i j = xs.toList[i]'(by simpa using hi) := fun i hi => by
    rw [Array.getD_eq_getD_getElem?, Array.getElem?_eq_getElem hi]; simp
  unfold Rise SetTable.insertAt
  rw [Array.toList_append, Array.toList_push, Array.toList_extract, Array.toList_extract]
  simp only [List.extract_eq_drop_take, Nat.sub_zero, List.drop_zero]
  have e1 : List.take (xs.size - p) (List.drop p xs.toList) = xs.toList.drop p := List.take_of_length_le (by rw [List.length_drop]; simp)
  rw [e1, List.append_assoc]
  refine List.pairwise_append.mpr ⟨h.sublist (List.take_sublist _ _), ?_, ?_⟩
  · refine List.pairwise_append.mpr ⟨List.pairwise_singleton _ _, h.sublist (List.drop_sublist _ _), fun a ha c hc => ?_⟩
    have ea : a = j := by simpa using ha
    subst ea
    obtain ⟨i, hi, rfl⟩ := List.mem_iff_getElem.mp hc
    rw [List.length_drop] at hi
    rw [List.getElem_drop]
    have hlt : p + i < xs.size := by simp at hi; omega
    have q := b3 (p + i) (by omega)
    rw [at_ _ hlt] at q
    by_cases z : i = 0
    · subst z
      have ne : xs.toList[p + 0]'(by simpa using hlt) ≠ a := fun e => free (by
        rw [Array.getElem?_eq_getElem (by simpa using hlt)]
        simpa using e)
      omega
    · have hp : p < xs.size := by omega
      have q0 := b3 p (Nat.le_refl _)
      have q1 := h.lt (j := a) (show p < p + i by omega) hlt
      rw [at_ _ hlt] at q1
      omega
  · intro a ha c hc
    obtain ⟨i, hi, rfl⟩ := List.mem_iff_getElem.mp ha
    rw [List.length_take] at hi
    rw [List.getElem_take]
    have hlt : i < xs.size := by simp at hi; omega
    have qa := b2 i (by omega)
    rw [at_ _ hlt] at qa
    rcases List.mem_append.mp hc with z | z
    · have e : c = j := by simpa using z
      rw [e]; exact qa
    · obtain ⟨k, hk, rfl⟩ := List.mem_iff_getElem.mp z
      rw [List.length_drop] at hk
      rw [List.getElem_drop]
      exact List.pairwise_iff_getElem.mp h i (p + k) _ _ (by omega)
end
theorem has_none (j : Nat) : SetTable.has #[] j = false := by simp [SetTable.has]
theorem TabOk.slot {t : SetTable} (h : TabOk t) {j : Nat} (e : t.slot j = .empty) : t.place[SetTable.below t.place j]? ≠ some j := by
  intro c
  unfold SetTable.slot at e
  simp only [c, beq_self_eq_true, if_true] at e
  cases e
theorem probe_free {t : SetTable} (h : TabOk t) {f : Nat → Int} {x : Int} : ∀ (fuel : Nat) (p : SetTable.Probe) {j : Nat} {d : Option Nat}, p.dummy = none → SetTable.probe.go t f x fuel p = some (.empty j d) → d = none ∧ t.slot j = .empty
  | 0, p, j, d, hp, e => by unfold SetTable.probe.go at e; cases e
  | fuel + 1, p, j, d, hp, e => by
    unfold SetTable.probe.go at e
    have adv : (t.advance p).dummy = none := by unfold SetTable.advance; split <;> exact hp
    cases c : t.slot p.j with
    | empty =>
      rw [c] at e
      dsimp only at e
      cases e
      exact ⟨hp, c⟩
    | dummy =>
      exfalso
      unfold SetTable.slot at c
      dsimp only at c
      split at c
      · cases c
      · rw [h.bare, has_none] at c
        simp at c
    | live i =>
      rw [c] at e
      dsimp only at e
      split at e
      · cases e
      · exact probe_free h fuel _ adv e
theorem TabOk.standIn {t : SetTable} (n : Nat) : TabOk (t.standIn n) := ⟨rfl, by
  show (Array.range n).toList.Pairwise (· < ·)
  rw [Array.toList_range]
  exact List.pairwise_lt_range⟩
theorem TabOk.orStandIn {t : SetTable} (h : TabOk t) (n : Nat) : TabOk (t.orStandIn n) := by
  unfold SetTable.orStandIn
  split
  · exact h
  · exact .standIn n
theorem TabOk.put {t : SetTable} (h : TabOk t) {j : Nat} (e : t.slot j = .empty) : TabOk (t.put j).1 := ⟨by
  show (if SetTable.has t.dummies j then _ else t.dummies) = #[]
  rw [h.bare, has_none]
  rfl, h.rise.insert (h.slot e)⟩
theorem layNew_tab {t : SetTable} (h : TabOk t) (es : Array (Int × Value)) (hv : Int) (x : Value) : TabOk (layNew t es hv x).2.1 ∧ (layNew t es hv x).2.1.led = t.led := by
  unfold layNew
  cases c : t.freeSlot hv with
  | none => exact ⟨.standIn _, rfl⟩
  | some q =>
    obtain ⟨sl, wd⟩ := q
    have free : t.slot sl = .empty := by
      unfold SetTable.freeSlot at c
      split at c
      · next j d e =>
        unfold SetTable.probe at e
        obtain ⟨rfl, z⟩ := probe_free h _ _ rfl e
        simp only [Option.getD_none, Option.isSome_none, Option.some.injEq, Prod.mk.injEq] at c
        rw [← c.1]; exact z
      · cases c
    dsimp only
    refine ⟨(h.put free).orStandIn _, ?_⟩
    unfold SetTable.orStandIn
    split
    · rfl
    · rfl
theorem laid_rise (f : Nat → Option Nat) : ∀ l : List Nat, l.Pairwise (· < ·) → ((l.filterMap fun j => (f j).map (j, ·)).map (·.1)).Pairwise (· < ·) ∧ ∀ a ∈ (l.filterMap fun j => (f j).map (j, ·)).map (·.1), a ∈ l
  | [], _ => ⟨List.Pairwise.nil, fun a h => nomatch h⟩
  | j :: l, h => by
    obtain ⟨i1, i2⟩ := laid_rise f l (List.pairwise_cons.mp h).2
    cases c : f j with
    | none =>
      rw [List.filterMap_cons_none (by rw [c]; rfl)]
      exact ⟨i1, fun a ha => List.mem_cons_of_mem _ (i2 a ha)⟩
    | some k =>
      rw [List.filterMap_cons_some (b := (j, k)) (by rw [c]; rfl)]
      refine ⟨List.pairwise_cons.mpr ⟨fun a ha => (List.pairwise_cons.mp h).1 a (i2 a ha), i1⟩, fun a ha => ?_⟩
      rcases List.mem_cons.mp ha with z | z
      · exact z ▸ List.mem_cons_self
      · exact List.mem_cons_of_mem _ (i2 a z)
theorem relayAll_tab {t : SetTable} (es : Array (Int × Value)) (n : Nat) : TabOk (relayAll t es n).2.1 ∧ (relayAll t es n).2.1.led = t.led := by
  unfold relayAll
  cases c : t.relaid (es.map (·.1)) n with
  | none => exact ⟨.standIn _, rfl⟩
  | some q =>
    obtain ⟨t', order⟩ := q
    dsimp only
    split
    · unfold SetTable.relaid SetTable.laid at c
      cases d : SetTable.layClean (SetTable.sizeAbove n - 1) (es.map (·.1)) with
      | none => rw [d] at c; cases c
      | some owner =>
        rw [d] at c
        simp only [Option.bind_eq_bind, Option.bind_some, Option.pure_def, Option.some.injEq, Prod.mk.injEq] at c
        rw [← c.1]
        refine ⟨⟨rfl, ?_⟩, rfl⟩
        exact (laid_rise (fun j => owner.getD j none) _ List.pairwise_lt_range).1
    · exact ⟨.standIn _, rfl⟩
def ksOf (es : Array (Int × Value)) : List Int := es.toList.map fun e => numOf e.2
structure SetAt (P : Program) (w : World) (h : Heap) (a : Addr) (L : Bool) (M : Int → Prop) (n : Nat) (es : Array (Int × Value)) (ep : Nat) (t : SetTable) : Prop where
  at_ : ∃ o, h.get? a = some o ∧ o.ExactSet ∧ o.data = .set es ep t
  elems : ElemsOf (intKind P w) es.toList
  nd : (ksOf es).Nodup
  mem : ∀ k, k ∈ ksOf es ↔ M k
  len : es.size ≤ n
  fits : t.fits es.size = true
  tab : TabOk t
  led : t.led = L
def SetI (P : Program) (w : World) (h : Heap) (a : Addr) (L : Bool) (M : Int → Prop) (n : Nat) : Prop := ∃ es ep t, SetAt P w h a L M n es ep t
section
variable {P : Program} {w : World} {A : Around} {E : Value → Shared → Prop} {s : Shared}
theorem SetI.keep {h h' : Heap} {a : Addr} {L : Bool} {M : Int → Prop} {n : Nat} (q : SetI P w h a L M n) (k : ∀ o, h.get? a = some o → h'.get? a = some o) : SetI P w h' a L M n := by
  obtain ⟨es, ep, t, x⟩ := q
  obtain ⟨o, h1, h2⟩ := x.at_
  exact ⟨es, ep, t, ⟨⟨o, k o h1, h2⟩, x.elems, x.nd, x.mem, x.len, x.fits, x.tab, x.led⟩⟩
theorem is_num {k : Int} {v : Value} (h : (intKind P w).is k v = true) : numOf v = k ∧ ∃ t, v = .int k t := by
  obtain ⟨t, rfl⟩ := Value.isInt_shape h
  exact ⟨rfl, t, rfl⟩
theorem set_stored {h : Heap} {a : Addr} {o : Obj} {es0 es : Array (Int × Value)} {ep : Nat} {t0 t : SetTable} (ho : h.get? a = some o) (hx : o.ExactSet) (hd : o.data = .set es0 ep t0) :
    ∃ o', (h.update a (Obj.putSet es t)).get? a = some o' ∧ o'.ExactSet ∧ o'.data = .set es (ep + 1) t := by
  refine ⟨{ o with data := .set es (ep + 1) t }, ?_, hx, rfl⟩
  have g := Heap.get?_update_self (Obj.putSet es t) ho (by rw [putSet_of es t hd]; rfl)
  rwa [putSet_of es t hd] at g
theorem add_end {g : Bool → Sem Unit} (hg : ∀ (b : Bool) (s1 : Shared) (R : Unit → Shared → Prop), R () s1 → wpAny (model P w) A (g b) R E s1) {a : Addr} {o : Obj} {es0 es : Array (Int × Value)} {ep : Nat} {t0 t : SetTable} {L : Bool} {M : Int → Prop} {n : Nat} {wd : Bool} {R : Option Bool → Shared → Prop}
    (ho : s.heap.get? a = some o) (hx : o.ExactSet) (hd : o.data = .set es0 ep t0) (h1 : ElemsOf (intKind P w) es.toList) (h2 : (ksOf es).Nodup) (h3 : ∀ k, k ∈ ksOf es ↔ M k) (h4 : es.size ≤ n) (h5 : t.fits es.size = true) (h6 : TabOk t) (h7 : t.led = L) (hn : n < scanBound)
    (q : ∀ h', Heap.SameBut a s.heap h' → SetI P w h' a L M n → R (some true) { s with heap := h' }) :
    wpAny (model P w) A (do
      storeSet a es t
      if (!wd && t.tooFull) = true then do
        g (relayAll t es (SetTable.grown es.size)).2.2
        storeSet a (relayAll t es (SetTable.grown es.size)).1 (relayAll t es (SetTable.grown es.size)).2.1
        pure (some true)
      else pure (some true)) R E s := by
  refine wpAny_bind (wpAny_storeSet_of ho hd ?_ (fits_of_scanBound (Nat.lt_of_le_of_lt h4 hn)))
  obtain ⟨o1, g1, x1, d1⟩ := set_stored (es := es) (t := t) ho hx hd
  have sb := Heap.SameBut.update s.heap a (Obj.putSet es t)
  split
  · have pm := relayAll_perm t es (SetTable.grown es.size)
    have ft := relayAll_fits t es (SetTable.grown es.size)
    obtain ⟨tb, ld⟩ := relayAll_tab (t := t) es (SetTable.grown es.size)
    generalize relayAll t es (SetTable.grown es.size) = W at pm ft tb ld ⊢
    have kp : (ksOf W.1).Perm (ksOf es) := pm.map _
    have sz : W.1.size = es.size := by rw [← Array.length_toList, pm.length_eq, Array.length_toList]
    refine wpAny_bind (hg _ _ _ ?_)
    refine wpAny_bind (wpAny_storeSet_of g1 d1 ?_ (fits_of_scanBound (by omega)))
    obtain ⟨o2, g2, x2, d2⟩ := set_stored (es := W.1) (t := W.2.1) g1 x1 d1
    exact wpAny_pure (q _ (sb.trans (Heap.SameBut.update _ a _)) ⟨W.1, _, W.2.1, ⟨⟨o2, g2, x2, d2⟩, h1.perm pm, kp.nodup_iff.mpr h2, fun k => kp.mem_iff.trans (h3 k), by omega, ft, tb, ld.trans h7⟩⟩)
  · exact wpAny_pure (q _ sb ⟨es, _, t, ⟨⟨o1, g1, x1, d1⟩, h1, h2, h3, h4, h5, h6, h7⟩⟩)
theorem add_int {a : Addr} {L : Bool} {M : Int → Prop} {n : Nat} {k : Int} {tk : Tok} {R : Bool → Shared → Prop} (h : SetI P w s.heap a L M n) (hn : n + 1 < scanBound)
    (q : ∀ h' b, Heap.SameBut a s.heap h' → SetI P w h' a L (fun j => M j ∨ j = k) (n + 1) → R b { s with heap := h' }) : wpAny (model P w) A (setAddHashed a (.int k tk) (hashInt k)) R E s := by
  obtain ⟨es, ep, t, x⟩ := h
  obtain ⟨o, ho, hx, hd⟩ := x.at_
  have lt : es.size < scanBound := Nat.lt_of_le_of_lt x.len (by omega)
  unfold setAddHashed setAddHashedIn
  refine wpAny_holding (wpAny_bind (wpAny_setState_of ho hd x.fits ?_))
  dsimp only
  rw [byScan_of (knd := intKind P w) (x := .int k tk) rfl lt x.elems]
  simp only [↓reduceIte]
  unfold setAddByScan
  refine wpAny_bind (wpAny_bind (wpAny_rule (wpAny_bind (wpAny_setScan_of (intKind_is P w k tk) ho hd x.fits x.elems ?_))))
  cases c : es.toList.findIdx? (fun e => (intKind P w).is k e.2) with
  | some i =>
    obtain ⟨hi, p, _⟩ := List.findIdx?_eq_some_iff_getElem.mp c
    have there : M k := (x.mem k).mp (List.mem_map.mpr ⟨_, List.getElem_mem hi, (is_num p).1⟩)
    exact wpAny_pure (wpAny_pure (q s.heap false (Heap.SameBut.refl a s.heap) ⟨es, ep, t, ⟨⟨o, ho, hx, hd⟩, x.elems, x.nd, fun j => (x.mem j).trans ⟨.inl, fun z => z.elim id fun e => e ▸ there⟩, Nat.le_succ_of_le x.len, x.fits, x.tab, x.led⟩⟩))
  | none =>
    have fresh : k ∉ ksOf es := fun m => by
      obtain ⟨e, he, ek⟩ := List.mem_map.mp m
      have no := List.findIdx?_eq_none_iff.mp c e he
      obtain ⟨⟨k', hk', _⟩, _⟩ := x.elems e he
      rw [(is_num hk').1] at ek
      subst ek
      rw [hk'] at no
      cases no
    have giving : ∀ (b : Bool) {s1 : Shared} {R' : Unit → Shared → Prop}, R' () s1 → wpAny (model P w) A (match b with | true => rule "set.scan.the-table-gave-way" | false => pure ()) R' E s1 := fun b {s1 R'} z => by
      cases b with
      | true => exact wpAny_rule z
      | false => exact wpAny_pure z
    have pm := layNew_perm t es (hashInt k) (.int k tk)
    have ft := layNew_fits t es (hashInt k) (.int k tk)
    obtain ⟨tb, ld⟩ := layNew_tab x.tab es (hashInt k) (.int k tk)
    dsimp only
    generalize layNew t es (hashInt k) (.int k tk) = W at pm ft tb ld ⊢
    obtain ⟨es1, t1, wd, gv⟩ := W
    dsimp only at pm ft tb ld ⊢
    rw [Array.toList_push] at pm
    have e1 : ElemsOf (intKind P w) es1.toList := (x.elems.push (intKind_is P w k tk) rfl).perm pm
    have kp : (ksOf es1).Perm (ksOf es ++ [k]) := by
      have z := pm.map fun e => numOf e.2
      rwa [List.map_append] at z
    have n1 : (ksOf es1).Nodup := kp.nodup_iff.mpr (List.nodup_append.mpr ⟨x.nd, by simp, fun a ha b hb => by
      have e : b = k := by simpa using hb
      subst e
      exact fun z => fresh (z ▸ ha)⟩)
    have m1 : ∀ j, j ∈ ksOf es1 ↔ (M j ∨ j = k) := fun j => by
      rw [kp.mem_iff, List.mem_append, x.mem j]
      simp
    have s1 : es1.size ≤ n + 1 := by
      rw [← Array.length_toList, pm.length_eq, List.length_append, Array.length_toList]
      exact Nat.succ_le_succ x.len
    refine wpAny_bind (giving _ ?_)
    have led1 : t1.led = L := ld.trans x.led
    split
    · refine wpAny_bind ?_
      rw [hashByValue_scannable 8 (x := .int k tk) rfl]
      refine wpAny_pure ?_
      refine add_end ?_ ho hx hd e1 n1 m1 s1 ft tb led1 hn fun h' z1 z2 => ?_
      · intro b s2 R' z
        exact giving b z
      · exact wpAny_pure (q h' true z1 z2)
    · refine wpAny_bind (wpAny_pure ?_)
      refine add_end ?_ ho hx hd e1 n1 m1 s1 ft tb led1 hn fun h' z1 z2 => ?_
      · intro b s2 R' z
        exact giving b z
      · exact wpAny_pure (q h' true z1 z2)
end
theorem SetI.to {P : Program} {w : World} {h : Heap} {a : Addr} {L : Bool} {M M' : Int → Prop} {n n' : Nat} (q : SetI P w h a L M n) (e : ∀ k, M k ↔ M' k) (le : n ≤ n') : SetI P w h a L M' n' := by
  obtain ⟨es, ep, t, x⟩ := q
  exact ⟨es, ep, t, ⟨x.at_, x.elems, x.nd, fun k => (x.mem k).trans (e k), Nat.le_trans x.len le, x.fits, x.tab, x.led⟩⟩
section
variable {P : Program} {w : World} {A : Around} {R : Result → Shared → Prop} {I S : Addr} {fp wr : List Addr} {G : Array GenState → Array GenState → Prop} {n : Nat} {Pv : Nat → Value → Prop} {St : Nat → Shared → Prop} {L : Bool}
end
section
variable {P : Program} {w : World} {A : Around} {E : Value → Shared → Prop} {s : Shared}
end
end L2
set_option Elab.async false
set_option linter.all false
set_option maxRecDepth 100000
namespace L2
open PySem PySem.Spec PyProof.Rows
def SObj (h : Heap) (S : Addr) (es : Array (Int × Value)) (ep : Nat) (t : SetTable) : Prop := ∃ o, h.get? S = some o ∧ o.data = .set es ep t
section
variable {P : Program} {w : World} {A : Around} {E : Value → Shared → Prop} {s : Shared} {it S : Addr} {es : Array (Int × Value)} {ep i n : Nat} {t : SetTable} {R : Option Value → Shared → Prop}
end
section
variable {P : Program} {w : World} {A : Around} {it S T : Addr} {es : Array (Int × Value)} {ep : Nat} {t : SetTable}
theorem SObj.keep {h h' : Heap} (x : SObj h S es ep t) (k : ∀ o, h.get? S = some o → h'.get? S = some o) : SObj h' S es ep t := by
  obtain ⟨o, g, d⟩ := x
  exact ⟨o, k o g, d⟩
end
structure SetWalk (P : Program) (w : World) (A : Around) (s s' : Shared) (S it : Addr) (fp : List Addr) (vals : Array Value) (St : Nat → Heap → Prop) : Prop where
  walk : Walks P w A it fp [it] vals.size (fun i v => vals[i]? = some v) St
  st : St 0 s'.heap
  below : ∀ b ∈ fp, b < s'.heap.objs.size
  new : ∀ b ∈ fp, b = S ∨ s.heap.objs.size ≤ b
  old : s.heap.objs.size ≤ it
  gens : s'.gens = s.gens
  os : s'.os = s.os
  keep : ∀ b o, s.heap.get? b = some o → s'.heap.get? b = some o
section
variable {P : Program} {w : World} {A : Around} {E : Value → Shared → Prop} {s : Shared} {S : Addr} {L : Bool} {M : Int → Prop} {n : Nat} {es : Array (Int × Value)} {ep : Nat} {t : SetTable}
end
end L2
set_option Elab.async false
set_option linter.all false
set_option maxRecDepth 100000
namespace L2
open PySem PySem.Spec PyProof.Rows
section
variable {P : Program} {w : World} {A : Around} {E : Value → Shared → Prop} {s : Shared} {S : Addr} {M : Int → Prop} {n : Nat}
end
section
variable {X : Cx} {pins : List (Addr × Obj)} {σ : St} {H : Hp} {s : Shared}
theorem Inv.like (I : Inv X pins σ H s) {s' : Shared} (e1 : s'.gens = s.gens) (e2 : s'.os = s.os) (e3 : s'.heap = s.heap) : Inv X pins σ H s' := by
  obtain ⟨hp, g, d, tk, os⟩ := s
  obtain ⟨hp', g', d', tk', os'⟩ := s'
  dsimp only at e1 e2 e3
  subst e1 e2 e3
  exact ⟨I.ok, I.os, I.bare, I.base, I.loc, I.cell, I.free, I.freeC, I.pin, I.hok, I.len⟩
end
end L2
set_option Elab.async false
set_option linter.all false
set_option maxRecDepth 100000
namespace L2
open PySem PySem.Spec PyProof.Rows
section
variable {X : Cx}
end
section
variable {K : PySem.W.Frag} {g : TG} {tt : TT} {te : TE} {D a : Addr} {Q : Hp → Prop} {σ : St} {H : Hp} {xs : List V}
end
section
variable {X : Cx}
end
end L2
set_option Elab.async false
set_option linter.all false
set_option maxRecDepth 100000
namespace L2
open PySem PySem.Spec PyProof.Rows
section
variable {X : Cx}
end
section
variable {K : PySem.W.Frag} {ta : TA} {g : TG} {tb : TS} {D : Ends} {σ : St} {H : Hp} {a b : Addr} {xs ys : List V}
end
section
variable {X : Cx}
end
mutual
def wt : PyData → Nat
  | .none => 1
  | .bool _ => 1
  | .int _ => 1
  | .str _ => 1
  | .list ds => wtAll ds + 1
  | .tuple ds => wtAll ds + 1
  | .dict _ => 1
def wtAll : List PyData → Nat
  | [] => 0
  | d :: ds => wt d + wtAll ds
end
mutual
def bare : PyData → Bool
  | .none => true
  | .int i => decide (i.natAbs.log2 < 1920)
  | .list ds => bareAll ds
  | .tuple ds => bareAll ds
  | _ => false
def bareAll : List PyData → Bool
  | [] => true
  | d :: ds => bare d && bareAll ds
end
theorem listText_le (ts : List Str) : (listText ts).length ≤ piled ts + 2 := by
  cases ts with
  | nil => exact Nat.le_of_eq rfl
  | cons t r =>
    have h := textFrom_length_pos r 1 (("[" : Str) ++ (if (0 : Nat) > 0 then ", " else "" : String) ++ t) (Nat.succ_pos 0)
    have e : ((("[" : Str) ++ (if (0 : Nat) > 0 then ", " else "" : String) ++ t)).length = 1 + t.length := by
      rw [strLen_append, strLen_append]; rfl
    have hX : (listText (t :: r)).length = (textFrom 0 "[" (t :: r)).length + 1 := by
      show (textFrom 0 "[" (t :: r) ++ "]").length = _
      rw [strLen_append]; rfl
    have hY : (textFrom 0 "[" (t :: r)).length = (textFrom 1 (("[" : Str) ++ (if (0 : Nat) > 0 then ", " else "" : String) ++ t) r).length := rfl
    rw [hX, hY, h, e, piled_cons]; omega
theorem tupleText_le (ts : List Str) : (tupleText ts).length ≤ piled ts + 3 := by
  unfold tupleText
  rw [strLen_append, strLen_append]
  have e1 : ((("(" : String) : Str)).length = 1 := rfl
  have e3 : (((if ts.length == 1 then ",)" else ")" : String) : Str)).length ≤ 2 := by split <;> decide
  rw [e1]
  by_cases h : ts = []
  · subst h
    have : (Str.join ", " []).length = 0 := rfl
    omega
  · have := join_length_add ts h
    omega
mutual
theorem shown_le : ∀ {d : PyData}, bare d = true → d.shown.length + 4 ≤ 1930 * wt d
  | .none, _ => by simp only [PyData.shown, wt]; decide
  | .int i, h => by
    simp only [bare, decide_eq_true_eq] at h
    have := int_text_len_1921 h
    simp only [PyData.shown, wt]
    omega
  | .list ds, h => by
    simp only [bare] at h
    have := shownAll_le h
    have l := listText_le (PyData.shownAll ds)
    simp only [PyData.shown, wt]
    omega
  | .tuple ds, h => by
    simp only [bare] at h
    have := shownAll_le h
    have l := tupleText_le (PyData.shownAll ds)
    simp only [PyData.shown, wt]
    omega
  | .bool _, h => by simp [bare] at h
  | .str _, h => by simp [bare] at h
  | .dict _, h => by simp [bare] at h
theorem shownAll_le : ∀ {ds : List PyData}, bareAll ds = true → piled (PyData.shownAll ds) ≤ 1930 * wtAll ds
  | [], _ => by simp [PyData.shownAll, piled, wtAll]
  | d :: ds, h => by
    simp only [bareAll, Bool.and_eq_true] at h
    have h1 := shown_le h.1
    have h2 := shownAll_le h.2
    simp only [PyData.shownAll, piled_cons, wtAll]
    omega
end
mutual
theorem bare_show : ∀ {d : PyData}, bare d = true → d.showable = true ∧ d.hasDict = false
  | .none, _ => by simp only [PyData.showable, PyData.hasDict]; exact ⟨trivial, trivial⟩
  | .int i, h => by
    simp only [bare] at h
    simp only [PyData.showable, PyData.hasDict]
    exact ⟨h, trivial⟩
  | .list ds, h => by
    simp only [bare] at h
    simp only [PyData.showable, PyData.hasDict]
    exact bareAll_show h
  | .tuple ds, h => by
    simp only [bare] at h
    simp only [PyData.showable, PyData.hasDict]
    exact bareAll_show h
  | .bool _, h => by simp [bare] at h
  | .str _, h => by simp [bare] at h
  | .dict _, h => by simp [bare] at h
theorem bareAll_show : ∀ {ds : List PyData}, bareAll ds = true → PyData.showableAll ds = true ∧ PyData.hasDictAll ds = false
  | [], _ => by simp [PyData.showableAll, PyData.hasDictAll]
  | d :: ds, h => by
    simp only [bareAll, Bool.and_eq_true] at h
    have h1 := bare_show h.1
    have h2 := bareAll_show h.2
    simp only [PyData.showableAll, PyData.hasDictAll, h1.1, h1.2, h2.1, h2.2, Bool.and_self, Bool.or_self]
    exact ⟨trivial, trivial⟩
end
section
variable {X : Cx}
end
end L2
set_option Elab.async false
set_option linter.all false
set_option maxRecDepth 100000
namespace PySem
open Sem (wp)
end PySem
namespace PySem
namespace F
end F
section
variable {prog : Program} {w : World} {A : Around} {E : Value → Shared → Prop} {s : Shared}
end
section
variable {prog : Program} {w : World} {A : Around} {R : Result → Shared → Prop} {I : Addr} {fp wr : List Addr} {G : Array GenState → Array GenState → Prop} {n : Nat} {P : Nat → Value → Prop} {St : Nat → Shared → Prop} {K : Type} [DecidableEq K] {knd : KeyKind prog w K}
end
end PySem
namespace PySem
section
variable {prog : Program} {w : World} {K : Type} [DecidableEq K] {knd : KeyKind prog w K} {A : Around} {E : Value → Shared → Prop} {s : Shared}
end
end PySem
namespace L2
open PySem PySem.Spec PyProof.Rows
section
variable {X : Cx}
theorem edget {o i : Expr} {td ty : TE} {pos : Pos} (hu : X.A.units + 64 < cLine) (ho : JE X o td) (hi : JE X i ty) (hs : NoSl i) : JE X (.Subscript o i pos) (tDGet td ty) := ⟨pe_dget (by omega) ho.h hi.h hs⟩
end
end L2
set_option Elab.async false
set_option linter.all false
set_option maxRecDepth 100000
namespace L2
open PySem PySem.Spec PyProof.Rows
theorem is_kV {P : Program} {w : World} {k : Key} {u : Value} (h : (mixKind P w).is k u = true) : RelV (kV k) u := by
  rcases keyIs_shape h with ⟨i, t, rfl, rfl⟩ | ⟨x, t, rfl, rfl⟩
  · exact ⟨t, rfl⟩
  · exact ⟨t, rfl⟩
section
variable {X : Cx} {pins : List (Addr × Obj)} {σ : St} {H : Hp} {s : Shared}
end
section
variable {X : Cx} {sc : Scope} {N : List Str} {src : List (Option Nat)} {tg iter elt : Expr} {ifs : List Expr} {td : TE} {g : TG} {tt : TT} {te : TE} {pos : Pos}
end
section
variable {prog : Program} {w : World} {A : Around} {R : Result → Shared → Prop} {s : Shared}
theorem compLoop_anyD {kx vx target iter : Expr} {ifs : List Expr} {scope : Scope} {pos : Pos} {it : Value} {D : Addr} {env : Env} (I : Nat → Shared → Prop)
    (turn : ∀ n s, I n s → wpAny (model prog w) A (pyNext it) (fun r s₁ => match r with
      | none => R (.ok .next) s₁
      | some v => wpAny (model prog w) A (letOwnedTupleGo target it v) (fun _ s₁' => wpAny (model prog w) A (assign target env v) (fun _ s₂ =>
          wpAny (model prog w) A (forIn ifs true fun c r => if r = true then do let ok ← isTrue c env (eval c env); pure (ForInStep.yield ok) else pure (ForInStep.yield r)) (fun ok s₃ =>
            if ok = true then wpAny (model prog w) A (eval kx env) (fun kv s₄ => wpAny (model prog w) A (eval vx env) (fun vv s₅ =>
              wpAny (model prog w) A (dictSet D kv vv) (fun _ s₆ => ∃ m, m < n ∧ I m s₆) F0 s₅) F0 s₄) F0 s₃
            else ∃ m, m < n ∧ I m s₃) F0 s₂) F0 s₁') F0 s₁) F0 s)
    (n : Nat) (h : I n s) :
    codeAny (model prog w) A (.compLoop (.DictComp kx vx [⟨target, iter, ifs, 0⟩] scope pos) 0 it (.ref D) env) R s := by
  refine codeAny_loop rfl I (fun n s hI => ?_) n h
  show wpAny _ A ((compTurn (.DictComp kx vx [⟨target, iter, ifs, 0⟩] scope pos) 0 it (.ref D) env).onRaise (fun x => do noteFrame x env; theTreesLotGoes x)) _ _ s
  refine wpAny_noted ?_
  rw [compTurn_dict]
  refine wpAny_bind (wpAny_standAt (wpAny_bind (wpAny_mono (turn n s hI) (fun r s₁ h₁ => ?_) fun _ _ h' => h'.elim)))
  cases r with
  | none => exact wpAny_pure h₁
  | some v =>
    refine wpAny_bind (wpAny_mono h₁ (fun _ s₁' h₁' => ?_) fun _ _ h' => h'.elim)
    refine wpAny_bind (wpAny_mono h₁' (fun _ s₂ h₂ => wpAny_bind (wpAny_mono h₂ (fun ok s₃ h₃ => ?_) fun _ _ h' => h'.elim)) fun _ _ h' => h'.elim)
    cases ok with
    | false => exact wpAny_pure ⟨rfl, h₃⟩
    | true =>
      exact wpAny_bind (wpAny_bind (wpAny_mono h₃ (fun kv s₄ h₄ => wpAny_bind (wpAny_holding (wpAny_mono h₄ (fun vv s₅ h₅ => wpAny_bind (wpAny_standAt (wpAny_holding (wpAny_mono h₅ (fun _ s₆ h₆ => wpAny_pure ⟨rfl, h₆⟩) fun _ _ h' => h'.elim)))) fun _ _ h' => h'.elim))) fun _ _ h' => h'.elim))
end
def DcLoop (J : It) (g : TG) (tt : TT) (tk tv : TE) (D : Addr) (Q : Hp → Prop) (σ : St) (H : Hp) : Prop := ∃ W : Nat → Nat → List (Key × V) → St → Hp → Prop, (∃ m, W 0 m [] σ H) ∧ ∀ i m acc σ H, W i m acc σ H →
  (J.stop i H ∧ Q H) ∨ (J.go i H ∧ ∃ N : List (Key × V) → St → Hp → Prop, (∀ acc' σ' H', N acc' σ' H' → ∃ m', m' < m ∧ W (i + 1) m' acc' σ' H') ∧ ∀ x H', J.yld i H x H' → g x σ H' fun σ2 H2 => tt σ2 H2 fun b H3 =>
    if b = true then tk σ2 H3 fun y H4 => tv σ2 H4 fun v H5 => ∃ k : Key, y = kV k ∧ H5 D = some (.dK acc) ∧ acc.length < sizeLine ∧ N (putK acc k v) σ2 (upd H5 D (.dK (putK acc k v)))
    else N acc σ2 H3)
def tDc (K : PySem.W.Frag) (wi : TI) (src : List (Option Nat)) (g : TG) (tt : TT) (tk tv : TE) : TE := fun σ H Q => wi σ H fun J H1 => ∀ D, L2.new K H1 D → DcLoop J g tt tk tv D (fun H' => Q (.ref D) H') (pick σ src) (upd H1 D (.dK []))
section
variable {X : Cx} {sc : Scope} {N : List Str} {src : List (Option Nat)} {tg iter kx vx : Expr} {ifs : List Expr} {wi : TI} {g : TG} {tt : TT} {tk tv : TE} {pos : Pos}
theorem Inv.blockO {ob : HO} {pins : List (Addr × Obj)} {σ : St} {H : Hp} {s : Shared} {fp : List Addr} {C D : Addr} {h1 : Heap} {t' : Nat} (I : Inv X pins σ H s) (c : Cap X sc N src) (hf : ∀ b ∈ fp, FpOk X pins H b) (ho : ∀ b ∈ fp, ∃ o, s.heap.get? b = some o)
    (hD : s.heap.objs.size ≤ D) (hC : s.heap.objs.size ≤ C) (hDC : D ≠ C) (k : ∀ b u, s.heap.get? b = some u → h1.get? b = some u) (hn : h1.Ns C fun _ => none) (new : ObjOk X.prog X.w (upd H D ob) h1 D ob) :
    Inv (X.comp N sc C s H fp) [] (pick σ src) (upd H D ob) { s with heap := h1, toks := t' } where
  ok := Cx.Ok.comp I c hf ho hC
  os := rfl
  bare := I.bare
  base := Un.laid k hD (I.hok.fresh hD)
  loc := by
    refine ⟨_, hn, fun i x v e1 e2 e3 => ?_⟩
    obtain ⟨j, ej, es⟩ := pick_some e2
    obtain ⟨n1, n2, n3⟩ := c.at_ e1 ej
    obtain ⟨m, _, hl⟩ := I.loc
    have vis : Vis X.env.scope x := n2.elim (fun z => .inr (.inl z)) fun z => .inr (.inr z)
    obtain ⟨u, r, q⟩ := hl j x v n1 es vis
    refine ⟨u, r, .inr ⟨relabel_free n3, ?_⟩⟩
    rcases q with ⟨z, _⟩ | ⟨_, a, ha, z⟩
    · rcases n2 with n2 | n2 <;> rw [n2] at z <;> cases z
    · obtain ⟨o, e, d⟩ := z
      exact ⟨a, clos_has (lookup_mem n3) ha, o, k _ _ e, d⟩
  cell := fun x a e => by
    obtain ⟨v, o, e, d⟩ := I.cell x a (clos_look e)
    exact ⟨v, o, k _ _ e, d⟩
  free := by
    show upd H D ob C = none
    rw [upd_ne hDC.symm]
    exact I.hok.fresh hC
  freeC := fun x a e => by
    obtain ⟨v, o, e', d⟩ := I.cell x a (clos_look e)
    rw [upd_ne (Nat.ne_of_lt (Nat.lt_of_lt_of_le (Heap.lt_size e') hD))]
    exact I.freeC x a (clos_look e)
  pin := fun p hp => nomatch hp
  hok := I.hok.laid k hD new
  len := by
    show (pick σ src).length = N.length
    rw [c.len, pick, List.length_map]
theorem d_dictSet {pins : List (Addr × Obj)} {σ : St} {H : Hp} {s : Shared} {a : Addr} {v : V} {u r : Value} {kvs : List (Key × V)} {k : Key} {A : Around} {E : Value → Shared → Prop} {Q : Unit → Shared → Prop} (I : Inv X pins σ H s) (e : H a = some (.dK kvs)) (l : kvs.length < sizeLine) (ry : RelV (kV k) u) (rv : RelV v r) (h : ∀ s', Inv X pins σ (upd H a (.dK (putK kvs k v))) s' → Q () s') :
    wpAny (model X.prog X.w) A (dictSet a u r) Q E s := by
  obtain ⟨z, hd, vs, rel, dd⟩ := dk_of I.hok e
  have hz : vs.length ≤ sizeLine := by rw [← rel.length]; exact z
  have hl : (putK kvs k v).length ≤ sizeLine := by have := length_putK kvs k v; omega
  refine wpAny_dictSet_pairs (kV_is ry) dd (fun h' dd' hs => h _ ?_) hz
  have he : ∃ q, h'.get? a = some q := let ⟨q, _, _, hq, _⟩ := dd'; ⟨q, hq⟩
  exact d_write I (by rw [e]; exact True.intro) hs he (dk_new hl hd (rel.put k rv) dd')
theorem dcomp_run {R : Value → Addr → Result → Shared → Prop} {E : Value → Shared → Prop} (c : Cap X sc N src) (hc : X.calm = true)
    (hg : ∀ C s H fp, JG (X.comp N sc C s H fp) tg g) (ht : ∀ C s H fp, JF (X.comp N sc C s H fp) ifs tt) (hk : ∀ C s H fp, JE (X.comp N sc C s H fp) kx tk) (hv : ∀ C s H fp, JE (X.comp N sc C s H fp) vx tv)
    {pins : List (Addr × Obj)} {σ : St} {H : Hp} {s : Shared} {it : Addr} {fp : List Addr} {tn : Nat → Heap → Prop} {J : It} {Q : V → Hp → Prop} (I : Inv X pins σ H s) (T : Turn X.prog X.w X.K tg J fp it tn) (st : tn 0 s.heap) (hf : ∀ b ∈ fp, FpOk X pins H b)
    (h : ∀ D, L2.new X.K H D → DcLoop J g tt tk tv D (fun H' => Q (.ref D) H') (pick σ src) (upd H D (.dK [])))
    (hR : ∀ D C s' σ' H', s.heap.objs.size ≤ C → Inv (X.comp N sc C s H fp) [] σ' H' s' → Q (.ref D) H' → R (.ref D) C (.ok .next) s') :
    wpAny (model X.prog X.w) X.A newDict (fun acc s₃ => wpAny (model X.prog X.w) X.A (newFunctionEnv sc X.env.globals (closL X.env sc.names []) [] X.env.qual none .none (some X.env)) (fun cenv s₄ =>
      codeAny (model X.prog X.w) X.A (.compStart (.DictComp kx vx [⟨tg, iter, ifs, 0⟩] sc pos) 0 (.ref it) acc { cenv with scope := relabel sc X.env }) (R acc cenv.locals) s₄) E s₃) E s := by
  refine wpAny_newObj_type (wpAny_newFunctionEnv c.cell (by intro y hy; simp at hy) (fun h₁ hns₁ hsb₁ => ?_) c.kind)
  dsimp only at hns₁ hsb₁ ⊢
  have hD0 : (s.heap.push { cls := .type "dict", dict := none, data := .dict #[] }).DictOf (mixKind X.prog X.w) s.heap.objs.size [] := Heap.DictOf.new s.heap
  generalize hH2 : s.heap.push { cls := .type "dict", dict := none, data := .dict #[] } = H2 at hns₁ hsb₁ hD0 ⊢
  have hC : H2.objs.size = s.heap.objs.size + 1 := by rw [← hH2, Heap.size_push]
  have hDC : s.heap.objs.size ≠ H2.objs.size := by rw [hC]; exact Nat.ne_of_lt (Nat.lt_succ_self _)
  have hCle : s.heap.objs.size ≤ H2.objs.size := by rw [hC]; exact Nat.le_succ _
  have below : ∀ b, b < s.heap.objs.size → b ≠ H2.objs.size := fun b hb => by rw [hC]; exact Nat.ne_of_lt (Nat.lt_succ_of_lt hb)
  have old : ∀ b o, s.heap.get? b = some o → h₁.get? b = some o := fun b o e => hsb₁.extBut b o (below b (Heap.lt_size e)) (Heap.get?_push_of_some _ (hH2 ▸ Heap.get?_push_of_some _ e))
  have hacc : h₁.DictOf (mixKind X.prog X.w) s.heap.objs.size [] := hD0.at fun o e => hsb₁.extBut _ _ hDC (Heap.get?_push_of_some _ e)
  have ho : ∀ b ∈ fp, ∃ o, s.heap.get? b = some o := fun b hb => let ⟨o, e, _⟩ := T.obj _ _ st b hb; ⟨o, e⟩
  have I0 := I.blockO (ob := .dK []) (t' := s.toks + ([] : List (Str × Value)).length) c hf ho (Nat.le_refl _) hCle hDC old hns₁ (dk_new (Nat.zero_le _) (beq_eq_false_iff_ne.mpr (Ne.symm (Nat.ne_of_lt I.big))) (show KV [] [] from .nil) hacc)
  have st0 : tn 0 h₁ := T.keep _ _ _ st fun b hb o e => old b o e
  have nD : L2.new X.K H s.heap.objs.size := I.new
  obtain ⟨W, ⟨m0, w0⟩, turn⟩ := h _ nD
  have stat : ∀ {H' : Hp}, (∀ b ∈ fp, H' b = none) → ∀ b ∈ fp, FpOk (X.comp N sc H2.objs.size s H fp) [] H' b := fun hn b hb => by
    obtain ⟨f0, f1, f2, f3, f4, f5⟩ := hf b hb
    obtain ⟨o, e⟩ := ho b hb
    refine ⟨hn b hb, below b (Heap.lt_size e), fun z => ?_, .inl hb, fun x a q => f4 x a (clos_look q), fun p hp => nomatch hp⟩
    rcases List.mem_cons.mp (I.stkSub b z) with q | q
    · exact f1 q
    · exact f2 q
  have fr0 : ∀ b ∈ fp, (upd H s.heap.objs.size (.dK [])) b = none := fun b hb => by
    obtain ⟨o, e⟩ := ho b hb
    rw [upd_ne (Nat.ne_of_lt (Heap.lt_size e))]
    exact (hf b hb).1
  have loop : ∀ s₃ : Shared, s₃ = { s with heap := h₁, toks := s.toks + ([] : List (Str × Value)).length } →
      codeAny (model X.prog X.w) X.A (.compLoop (.DictComp kx vx [⟨tg, iter, ifs, 0⟩] sc pos) 0 (.ref it) (.ref s.heap.objs.size) (compEnvC sc (closL X.env sc.names []) H2.objs.size X.env)) (R (.ref s.heap.objs.size) H2.objs.size) s₃ := by
    rintro s₃ rfl
    refine compLoop_anyD (fun n s' => ∃ i acc σ' H', Inv (X.comp N sc H2.objs.size s H fp) [] σ' H' s' ∧ tn i s'.heap ∧ (∀ b ∈ fp, H' b = none) ∧ W i n acc σ' H') ?_ m0 ⟨0, _, _, _, I0, st0, fr0, w0⟩
    rintro n s3 ⟨i, acc, σ3, H3, I3, st3, fr3, w3⟩
    rcases turn i n acc σ3 H3 w3 with ⟨stop, qn⟩ | ⟨go, NN, hNN, step⟩
    · refine thn (T.done (X.comp N sc H2.objs.size s H fp) rfl rfl rfl hc i [] s3 σ3 H3 F0 I3 (stat fr3) st3 stop) fun r s4 ⟨hr, I4⟩ => ?_
      subst hr
      exact hR _ _ _ _ _ hCle I4 qn
    · refine thn (T.item (X.comp N sc H2.objs.size s H fp) rfl rfl rfl hc i [] s3 σ3 H3 F0 I3 (stat fr3) st3 go) fun r s4 ⟨u, hr, h4⟩ => ?_
      subst hr
      refine thn h4 fun _ s5 ⟨x, H5, I5, r5, y5, st5, fr5⟩ => ?_
      have I5' := I5.pinned (stat fr5) (T.obj _ _ st5)
      refine thn ((hg _ _ _ _).h _ s5 σ3 H5 x u _ I5' r5 (step x H5 y5)) fun _ s6 ⟨σ6, H6, I6, q6⟩ => ?_
      refine thn ((ht _ _ _ _).h _ s6 σ6 H6 _ I6 q6) fun b s7 ⟨H7, I7, q7⟩ => ?_
      have again : ∀ {acc8 : List (Key × V)} {s8 : Shared} {H8 : Hp}, Inv (X.comp N sc H2.objs.size s H fp) ([] ++ pinsAt fp s5.heap) σ6 H8 s8 → NN acc8 σ6 H8 → ∃ m, m < n ∧ ∃ i acc σ' H', Inv (X.comp N sc H2.objs.size s H fp) [] σ' H' s8 ∧ tn i s8.heap ∧ (∀ b ∈ fp, H' b = none) ∧ W i m acc σ' H' := fun {acc8 s8 H8} I8 w => by
        obtain ⟨m', hm, w8⟩ := hNN _ _ _ w
        refine ⟨m', hm, i + 1, acc8, σ6, H8, I8.unpinned, T.keep _ _ _ st5 fun b hb o e => (I8.pin (b, o) (List.mem_append_right _ (List.mem_append_right _ (mem_pinsAt hb e)))).1, fun b hb => ?_, w8⟩
        obtain ⟨o, e, d⟩ := T.obj _ _ st5 b hb
        exact (I8.pin (b, o) (List.mem_append_right _ (List.mem_append_right _ (mem_pinsAt hb e)))).2.1
      cases b with
      | false => exact again I7 q7
      | true =>
        refine thn ((hk _ _ _ _).h _ s7 σ6 H7 _ I7 q7) fun yk s8 ⟨y, H8, I8, r8, q8⟩ => ?_
        refine thn ((hv _ _ _ _).h _ s8 σ6 H8 _ I8 q8) fun yv s9 ⟨v, H9, I9, r9, q9⟩ => ?_
        obtain ⟨k, rfl, hx, hz, w9⟩ := q9
        exact d_dictSet (X := X.comp N sc H2.objs.size s H fp) I9 hx hz r8 r9 fun s10 I10 => again I10 w9
  exact codeAny_compStart_dict (loop _ rfl) (T.self _ 0 _ _ _ st0 (loop _ rfl))
theorem eval_DictComp {env : Env} (k v gens scope pos) : eval (.DictComp k v gens scope pos) env =
    comprehension (.DictComp k v gens scope pos) scope env (firstIterPos gens pos) newDict (firstAsync gens) (firstIter gens env) := rfl
theorem edc (c : Cap X sc N src) (hc : X.calm = true) (hi : JI X tg iter wi)
    (hg : ∀ C s H fp, JG (X.comp N sc C s H fp) tg g) (ht : ∀ C s H fp, JF (X.comp N sc C s H fp) ifs tt) (hk : ∀ C s H fp, JE (X.comp N sc C s H fp) kx tk) (hv : ∀ C s H fp, JE (X.comp N sc C s H fp) vx tv)
    (hs : ∀ x, foldedSetIterable iter X.env x = pure x := by intro _; rfl) : JE X (.DictComp kx vx [⟨tg, iter, ifs, 0⟩] sc pos) (tDc X.K wi src g tt tk tv) := ⟨by
  intro pins s σ H Q I h
  rw [eval_DictComp]
  refine wpAny_comprehension_free (use := none) rfl hs (closureFor_eq fun x hx hk => ?_) c.kind c.names ?_
  · obtain ⟨n, k⟩ := x
    cases hk
    exact I.ok.has _ (c.free hx)
  refine thn (hi.h pins s σ H _ I h) fun v s1 h1 => thn h1 fun itv s2 h2 => ?_
  obtain ⟨it, fp, tn, J, H2, e, I2, T, st2, f2, h2⟩ := h2
  subst e
  refine dcomp_run (R := fun acc C => compPost (model X.prog X.w) X.A X.xe none (EP X pins σ Q) acc C) (Q := Q) c hc hg ht hk hv I2 T st2 f2 h2 fun D C s' σ' H' hC I' q => ?_
  obtain ⟨m, hn, _⟩ := id I'.loc
  refine ⟨m, hn, fun h' sb => ?_⟩
  exact ⟨.ref D, H', I2.unblock f2 hC I' fun b hb => sb.2 b hb, rfl, q⟩⟩
end
end L2
set_option Elab.async false
set_option linter.all false
set_option maxRecDepth 100000
set_option maxHeartbeats 4000000
namespace L2
open PySem PySem.Spec PyProof.Rows
section
variable {P : Program} {w : World} {A : Around} {E : Value → Shared → Prop} {s : Shared} {S : Addr} {vs : List (Key × Value)} {ep : Nat}
theorem collect_dict (calm : A.handled = none) (hsys : (S == sysModules) = false) (da : s.heap.DictAt (mixKind P w) S vs ep) (few : vs.length ≤ 1000) {Q : List Value → Shared → Prop}
    (q : ∀ (us : List Value) (s' : Shared), us.length = vs.length → (∀ (i : Nat) (u : Value), us[i]? = some u → ∃ k v, vs[i]? = some (k, v) ∧ (mixKind P w).is k u = true) → s'.gens = s.gens → s'.os = s.os → (∀ b o, s.heap.get? b = some o → s'.heap.get? b = some o) → s.heap.objs.size ≤ s'.heap.objs.size → Q us s') :
    wpAny (model P w) A (collect (.ref S)) Q E s := by
  obtain ⟨o, es, g, ex, d⟩ := id da
  have ltS : S < s.heap.objs.size := Heap.lt_size g
  have line : vs.length ≤ sizeLine := Nat.le_trans few (by decide)
  unfold collect
  refine wpAny_bind (wpAny_runValue (codeAny_builtin PySem.F.entry_proto_collect ?_))
  rw [Around.under_plainId PySem.F.plain_proto_collect _]
  show wpAny _ A.in1 (newList [] >>= fun l => again (.builtin "list.__iadd__" ⟨[l, .ref S], []⟩)) _ _ s
  refine wpAny_bind (wpAny_newObj_type (wpAny_pure ⟨plainId_quiet PySem.F.plain_list_iadd _, codeAny_builtin PySem.F.entry_list_iadd ?_⟩))
  rw [Around.under_plainId PySem.F.plain_list_iadd _]
  have gD : (s.heap.push { cls := .type "list", data := .seq ([] : List Value).toArray }).get? s.heap.objs.size = some { cls := .type "list", data := .seq ([] : List Value).toArray } := Heap.get?_push_size _ rfl
  have da1 : (s.heap.push { cls := .type "list", data := .seq ([] : List Value).toArray }).DictAt (mixKind P w) S vs ep := da.push _
  have szD : (s.heap.push { cls := .type "list", data := .seq ([] : List Value).toArray }).objs.size = s.heap.objs.size + 1 := Heap.size_push ..
  show wpAny _ A.in1 (Builtin.List.listExtendWith (.ref s.heap.objs.size) (.ref S) (.ref s.heap.objs.size)) _ _ { s with heap := s.heap.push { cls := .type "list", data := .seq ([] : List Value).toArray } }
  have ty1 : Shared.TypeIs { s with heap := s.heap.push { cls := .type "list", data := .seq ([] : List Value).toArray } } (.ref S) "dict" := da1.dictOf.typeIs
  have apart : Builtin.List.listSameRef (.ref s.heap.objs.size) (.ref S) = false := by
    simp only [Builtin.List.listSameRef, beq_eq_false_iff_ne]
    exact Nat.ne_of_gt ltS
  unfold Builtin.List.listExtendWith
  refine wpAny_bind (wpAny_typeOf ty1 ?_)
  rw [if_neg (by rw [apart]; decide)]
  refine wpAny_bind (wpAny_pyIter_dict hsys da1 ?_)
  generalize hH : (s.heap.push { cls := .type "list", data := .seq ([] : List Value).toArray }) = h1 at gD da1 szD ty1 ⊢
  have da2 : (h1.push { cls := .type "dict_keyiterator", data := .fields #[.ref S, .int 0 0, .int vs.length 0, .int ep 0] }).DictAt (mixKind P w) S vs ep := da1.push _
  have gD2 : (h1.push { cls := .type "dict_keyiterator", data := .fields #[.ref S, .int 0 0, .int vs.length 0, .int ep 0] }).get? s.heap.objs.size = some { cls := .type "list", data := .seq ([] : List Value).toArray } := Heap.get?_push_of_some _ gD
  have gI : (h1.push { cls := .type "dict_keyiterator", data := .fields #[.ref S, .int 0 0, .int vs.length 0, .int ep 0] }).IsKeyIter h1.objs.size S 0 vs.length ep := ⟨_, Heap.get?_push_size _ rfl, rfl, rfl⟩
  have ty2 : Shared.TypeIs { s with heap := h1.push { cls := .type "dict_keyiterator", data := .fields #[.ref S, .int 0 0, .int vs.length 0, .int ep 0] } } (.ref S) "dict" := da2.dictOf.typeIs
  have kp2 : ∀ b o, s.heap.get? b = some o → (h1.push { cls := .type "dict_keyiterator", data := .fields #[.ref S, .int 0 0, .int vs.length 0, .int ep 0] }).get? b = some o := fun b o e => Heap.get?_push_of_some _ (hH ▸ Heap.get?_push_of_some _ e)
  show wpAny _ _ _ _ _ { s with heap := h1.push { cls := .type "dict_keyiterator", data := .fields #[.ref S, .int 0 0, .int vs.length 0, .int ep 0] } }
  generalize (h1.push { cls := .type "dict_keyiterator", data := .fields #[.ref S, .int 0 0, .int vs.length 0, .int ep 0] }) = h2 at da2 gD2 gI ty2 kp2 ⊢
  refine wpAny_bind (wpAny_holding ?_)
  unfold Builtin.List.listLengthHint
  refine wpAny_bind (wpAny_specialOf (name := Str.ofString "__len__") ty2 PySem.F.slot_dict_len.lookup ?_)
  wp_delta
  refine wpAny_bind (wpAny_isInstance (T := "dict") (b := true) ty2 (by rw [isSubtype_type]; kernel_rfl) ?_)
  show wpAny _ _ (typeOf (Value.ref S) >>= _) _ _ _
  refine wpAny_bind (wpAny_typeOf ty2 ?_)
  refine wpAny_pure ?_
  rw [if_pos (by decide)]
  refine wpAny_bind (wpAny_rule ?_)
  have nDS : s.heap.objs.size ≠ S := Nat.ne_of_gt ltS
  have nDI : s.heap.objs.size ≠ h1.objs.size := by rw [szD]; exact Nat.ne_of_lt (Nat.lt_succ_self _)
  refine wpAny_bind ?_
  show wpAny _ A.in1 (updateSeq s.heap.objs.size (·.push .none) >>= fun _ => updateSeq s.heap.objs.size (·.pop)) _ _ _
  refine wpAny_bind (wpAny_updateSeq gD2 rfl ?_)
  have gD3 := Heap.get?_update_self (Obj.mapSeq (·.push Value.none)) gD2 rfl
  refine wpAny_updateSeq gD3 rfl ?_
  have gD4 := Heap.get?_update_self (Obj.mapSeq (·.pop)) gD3 rfl
  have other : ∀ b o, b ≠ s.heap.objs.size → h2.get? b = some o → ((h2.update s.heap.objs.size (Obj.mapSeq (·.push Value.none))).update s.heap.objs.size (Obj.mapSeq (·.pop))).get? b = some o :=
    fun b o hb e => (Heap.get?_update_other _ _ (Ne.symm hb)).trans ((Heap.get?_update_other _ _ (Ne.symm hb)).trans e)
  have neI : S ≠ h1.objs.size := Nat.ne_of_lt (by rw [szD]; exact Nat.lt_succ_of_lt ltS)
  refine wpAny_pure ⟨plainId_quiet PySem.F.plain_extend_loop _, codeAny_extend_loopS ((Walks.dictKeys (knd := mixKind P w) (A := A.in1) (by simpa using calm) h1.objs.size S neI vs ep).toS) line _ (by simp only [List.mem_cons, List.not_mem_nil, or_false, not_or]; exact ⟨nDI, nDS⟩) _ vs.length 0 _ _ _ rfl (Nat.zero_le _) ⟨gI.at fun o e => other _ o (Ne.symm nDI) e, da2.at' fun o e => other _ o (Ne.symm nDS) e⟩ gD4 (ItemsOf.nil _) fun s3 acc c mv gD5 its => ?_⟩
  show wpAny _ A (load s.heap.objs.size >>= _) _ _ s3
  refine wpAny_bind (wpAny_load gD5 ?_)
  refine wpAny_pure (q _ _ (by rw [Array.length_toList]; exact its.1) (fun i u e => ?_) mv.gens mv.os (fun b ob e => ?_) (Nat.le_of_lt (Heap.lt_size gD5)))
  · rw [Array.getElem?_toList] at e
    exact its.2 i u e
  · have lt : b < s.heap.objs.size := Heap.lt_size e
    refine mv.heap b ob (fun z => ?_) (other b ob (Nat.ne_of_lt lt) (kp2 b ob e))
    rcases List.mem_cons.mp z with z | z
    · exact Nat.ne_of_lt lt z
    · have zi : b = h1.objs.size := by simpa using z
      subst zi
      rw [szD] at lt
      exact Nat.lt_irrefl _ (Nat.lt_of_succ_lt lt)
theorem ints_of : ∀ {us : List Value} {ns : List Int}, us.length = ns.length → (∀ (i : Nat) (u : Value), us[i]? = some u → ∃ n t, ns[i]? = some n ∧ u = .int n t) → IntsAre us ns
  | [], [], _, _ => .nil
  | [], _ :: _, h, _ => by simp at h
  | _ :: _, [], h, _ => by simp at h
  | u :: us, n :: ns, h, f => by
    obtain ⟨n', t, e, rfl⟩ := f 0 u rfl
    cases e
    exact .cons n t (ints_of (by simpa using h) fun i u e => f (i + 1) u (by simpa using e))
theorem sorted_dict (calm : A.handled = none) (hsys : (S == sysModules) = false) (da : s.heap.DictAt (mixKind P w) S vs ep) {ns : List Int} (hk : vs.map (·.1) = ns.map Sum.inl) (few : ns.length < 64) {R : Value → Shared → Prop}
    (q : ∀ (D : Addr) (out : List Value) (ks : List Int) (m : Nat) (s' : Shared), IntsAre out ks → ks.Pairwise (· < ·) → (∀ k, k ∈ ks ↔ k ∈ ns) → ks.length = ns.length → s'.gens = s.gens → s'.os = s.os → (∀ b o, s.heap.get? b = some o → s'.heap.get? b = some o) → s.heap.objs.size ≤ D → s'.heap.get? D = some (seqObj "list" out.toArray m) → R (.ref D) s') :
    wpAny (model P w) A (call (.builtin "sorted") [.ref S]) R E s := by
  have lv : vs.length = ns.length := by have := congrArg List.length hk; simpa using this
  have nd : ns.Nodup := by
    have := da.nodup
    rw [hk] at this
    exact (List.pairwise_map.mp this).imp fun z e => z (by rw [e])
  refine Calls.call_function_entry kind_sorted plain_sorted entry_sorted (args_sorted1 _) ?_
  unfold Builtin.«sorted»
  refine wpAny_bind (m := checkCount "sorted" 1 1 _) (wpAny_pure ?_)
  refine wpAny_bind (collect_dict (A := A.in1) (by simpa using calm) hsys da (by omega) fun us s2 lu hu e1 e2 kp big => ?_)
  have i1 : IntsAre us ns := ints_of (by omega) fun i u e => by
    obtain ⟨k, v, ev, hk'⟩ := hu i u e
    have z : (vs.map (·.1))[i]? = some k := by rw [List.getElem?_map, ev]; rfl
    rw [hk, List.getElem?_map] at z
    obtain ⟨n, en, rfl⟩ := Option.map_eq_some_iff.mp z
    obtain ⟨t, rfl⟩ := (show ∃ t, u = Value.int n t from is_kV hk')
    exact ⟨n, t, en, rfl⟩
  have fU : us.length ≤ sizeLine := by rw [lu, lv]; exact Nat.le_trans (Nat.le_of_lt few) (by decide)
  refine wpAny_bind (wpAny_newList ?_ fU)
  have g2 : (s2.heap.push (seqObj "list" us.toArray 0)).get? s2.heap.objs.size = some (seqObj "list" us.toArray 0) := Heap.get?_push_size _ rfl
  show wpAny _ _ _ _ _ { s2 with heap := s2.heap.push (seqObj "list" us.toArray 0) }
  refine wpAny_bind (wpAny_holding (wpAny_call_entry slot_list_sort ⟨_, g2, rfl⟩ entry_list_sort (list_sort_tree g2 i1 (by omega) fun out ks' a1 a2 a3 => ⟨_, rfl, ?_⟩) (args_list_sort _)))
  obtain ⟨m, g3⟩ := sortedHeap_at (out := out) g2
  refine wpAny_pure ⟨_, rfl, q s2.heap.objs.size out.toList ks' m _ a1 ?_ (fun k => a2.mem_iff) a2.length_eq e1 e2 (fun b o z => ?_) big (by simpa using g3)⟩
  · have nd' : ks'.Nodup := a2.nodup_iff.mpr nd
    have both := List.Pairwise.and a3 nd'
    exact both.imp fun z => by omega
  · have lt : b < s2.heap.objs.size := Heap.lt_size (kp b o z)
    have lt' : b < (s2.heap.push (seqObj "list" us.toArray 0)).objs.size := by rw [Heap.size_push]; exact Nat.lt_succ_of_lt lt
    exact (sortedHeap_old (Nat.ne_of_lt lt) lt').trans (Heap.get?_push_of_some _ (kp b o z))
end
section
variable {X : Cx}
def dI (L : List (Int × V)) : List (Key × V) := L.map fun q => (.inl q.1, q.2)
theorem call_sortedD (hc : X.calm = true) : CallR X (.builtin "sorted") (fun xs H Q => ∃ (a : Addr) (L : List (Int × V)), xs = [.ref a] ∧ H a = some (.dK (dI L)) ∧ L.length < 64 ∧
    ∀ (D : Addr) (ks : List Int), L2.new X.K H D → ks.Pairwise (· < ·) → (∀ k, k ∈ ks ↔ k ∈ L.map (·.1)) → ks.length = L.length → Q (.ref D) (upd H D (.lst (ks.map V.int)))) := by
  intro pins s σ H xs us Q I r h
  obtain ⟨a, L, rfl, e, few, q⟩ := h
  obtain ⟨u, rfl, ru⟩ := vals1 r
  cases ru
  obtain ⟨z, hsys, vs, rel, dd⟩ := dk_of I.hok e
  obtain ⟨ep, da⟩ := dd.dictAt
  have hk : vs.map (·.1) = (L.map (·.1)).map Sum.inl := by
    rw [← rel.keys, dI, List.map_map, List.map_map]
    rfl
  refine sorted_dict (I.ok.hd hc) hsys da hk (by simpa using few) fun D out ks m s3 i1 up mem len e1 e2 kp3 big g => ?_
  rw [List.length_map] at len
  have lk : ks.length ≤ sizeLine := by rw [len]; exact Nat.le_trans (Nat.le_of_lt few) (by decide)
  have I3 : Inv X pins σ (upd H D (.lst (ks.map V.int))) { s with heap := s3.heap, toks := s3.toks } := I.laid (t' := s3.toks) (o := .lst (ks.map V.int)) kp3 big ⟨by rw [List.length_map]; exact lk, out, m, ints_vals i1, by simpa [seqObj] using g⟩
  have I4 := I3.like (s' := s3) e1 e2 rfl
  exact ⟨.ref D, _, I4, rfl, q D ks ⟨I.hok.fresh big, I4.notMod upd_same⟩ up mem len⟩
end
end L2
set_option Elab.async false
set_option linter.all false
set_option maxRecDepth 100000
set_option maxHeartbeats 4000000
namespace L2
open PySem PySem.Spec PyProof.Rows
section
variable {X : Cx}
end
end L2
set_option Elab.async false
set_option linter.all false
set_option maxRecDepth 100000
set_option maxHeartbeats 4000000
namespace L2
open PySem PySem.Spec PyProof.Rows
section
variable {X : Cx}
end
end L2
set_option Elab.async false
set_option linter.all false
set_option maxRecDepth 100000
set_option maxHeartbeats 4000000
namespace L2
open PySem PySem.Spec PyProof.Rows
section
variable {X : Cx}
end
end L2
set_option Elab.async false
set_option linter.all false
set_option maxRecDepth 100000
set_option maxHeartbeats 4000000
namespace L2
open PySem PySem.Spec PyProof.Rows
def tDNewQ (K : PySem.W.Frag) : TE := fun _ H Q => ∀ p, L2.new K H p → Q (.ref p) (upd H p (.dK []))
end L2
namespace L2
open PySem PySem.Spec PyProof.Rows
section
variable {prog : Program} {w : World} {A : Around} {E : Value → Shared → Prop} {s : Shared}
structure ZT (g : Heap) (z ti to p1 p2 t1 t2 : Addr) (out : Value) (k1 k2 : Nat) : Prop where
  zip : IsZip g z ti to out
  its : IsPair g ti (.ref p1) (.ref p2)
  fst : IsTupIter g p1 t1 k1
  snd : IsTupIter g p2 t2 k2
abbrev tpIt (t : Addr) : Obj := { cls := .type "tuple_iterator", data := .fields #[.ref t, .int 0 0] }
abbrev zt2 (h : Heap) (t1 t2 : Addr) : Heap := (h.push (tpIt t1)).push (tpIt t2)
end
section
variable {X : Cx}
end
section
variable {K : PySem.W.Frag} {g : TG} {tt : TT} {te : TE} {D : Addr} {σ : St} {H : Hp} {Q : Hp → Prop} {a b : Addr} {xs ys : List V}
end
section
variable {X : Cx}
end
end L2
set_option Elab.async false
set_option linter.all false
set_option maxRecDepth 100000
set_option maxHeartbeats 4000000
namespace L2
open PySem PySem.Spec PyProof.Rows
def CXO (P : Program) (w : World) : CXT := fun outer H s E e s' => ∃ (a : Addr) (cls a0 : Value) (B : Heap) (H' : Hp), e = .ref a ∧ s'.os = s.os ∧ AllBare s'.gens ∧ Heap.FlyingW B outer a cls a0 s'.heap ∧ Un (frs outer) [] H H' s.heap s'.heap ∧
  (∀ b o, s.heap.get? b = some o → H b = none → b ∉ frs outer → B.get? b = some o) ∧ (∀ b o, s.heap.get? b = some o → b ∉ frs outer → ∃ o', B.get? b = some o') ∧ HOk P w H' B ∧ s.heap.get? a = none ∧ E cls none H'
theorem no_obj {P : Program} {w : World} {H : Hp} {h : Heap} {a : Addr} {o : HO} (x : ObjOk P w H h a o) : ∃ u, h.get? a = some u := by
  cases o with
  | lst xs => obtain ⟨_, _, _, _, e⟩ := x; exact ⟨_, e⟩
  | tup xs => obtain ⟨_, _, _, u, e, _⟩ := x; exact ⟨_, e⟩
  | dK kvs => obtain ⟨_, _, _, _, o, _, _, e, _⟩ := x; exact ⟨_, e⟩
  | dT kvs => obtain ⟨_, _, _, _, o, _, _, e, _⟩ := x; exact ⟨_, e⟩
  | set S n => obtain ⟨o, _, _, _, e, _⟩ := x; exact ⟨_, e⟩
  | ins C dx fs => obtain ⟨_, _, _, e, _⟩ := x; exact ⟨_, e⟩
  | own y => exact x
  | xd fs => obtain ⟨_, ⟨_, _, _, e, _⟩, _⟩ := x; exact ⟨_, e⟩
  | rng lo hi => obtain ⟨_, _, _, e⟩ := x; exact ⟨_, e⟩
  | frz ob u => obtain ⟨e, _⟩ := x; exact ⟨_, e⟩
  | tbl ps => exact ⟨_, (show h.get? a = some _ from x)⟩
  | met f y => exact ⟨_, (show h.get? a = some _ from x)⟩
  | ext φ => exact x.2.1
section
variable {X : Cx} {E : XK}
theorem cxo_out {pins : List (Addr × Obj)} {σ : St} {H H' : Hp} {s : Shared} {h1 h2 B : Heap} {a : Addr} {cls a0 : Value} {os : OsState} {g : Array GenState} {d : Drawn} {t : Nat} (hst : X.stack = X.env :: X.outer) (hex : X.ex = [])
    (I : Inv X pins σ H s) (ho : os = s.os) (hg : AllBare g) (fl : Heap.FlyingW B X.outer a cls a0 h2) (up : h1.UpToSlots h2)
    (un : Un (frs X.stack) [] H H' s.heap h1) (kb : ∀ b o, s.heap.get? b = some o → H b = none → b ∉ frs X.stack → B.get? b = some o)
    (tb : ∀ b o, s.heap.get? b = some o → b ∉ frs X.stack → ∃ o', B.get? b = some o') (hok : HOk X.prog X.w H' B) (na : s.heap.get? a = none) (hE : E cls none H') :
    CXO X.prog X.w X.outer X.H₀ X.s₀ E (.ref a) ⟨h2, g, d, t, os⟩ := by
  have nx : ∀ b : Addr, b ∉ X.ex := fun b => by rw [hex]; simp
  have ne : ∀ b o, X.s₀.heap.get? b = some o → b ∉ frs X.outer → b ∉ frs X.stack := fun b o e n z => by
    rcases List.mem_cons.mp (I.stkSub b z) with q | q
    · have h1 := I.ok.above
      rw [← q] at h1
      exact absurd (Nat.lt_of_lt_of_le (Heap.lt_size e) h1) (Nat.lt_irrefl _)
    · exact n q
  have inS : ∀ b, b ∈ frs X.outer → b ∈ frs X.stack := fun b hb => by
    rw [hst]
    unfold frs at hb ⊢
    rw [List.filterMap_cons]
    split
    · exact hb
    · exact List.mem_cons_of_mem _ hb
  refine ⟨a, cls, a0, B, H', rfl, ho.trans I.os, hg, fl, ⟨fun b o e n hb _ => ?_, fun b o e n hb _ => ?_, fun b o e n _ => ?_, fun b o e _ => ?_, fun b xs e => un.tups b xs (I.base.tups b xs e), fun b o xs e => un.frzs b o xs (I.base.frzs b o xs e), fun b ps e => ?_⟩,
    fun b o e n hb => kb b o (I.base.keep b o e n hb (nx b)) (I.base.free b o e n (nx b)) (ne b o e hb), fun b o e hb => ?_, hok, ?_, hE⟩
  · exact fl.1 b o (kb b o (I.base.keep b o e n hb (nx b)) (I.base.free b o e n (nx b)) (ne b o e hb))
  · obtain ⟨sl, e1⟩ := I.base.slot b o e n hb (nx b)
    obtain ⟨sl', e2⟩ := un.slot b _ e1 (I.base.free b o e n (nx b)) (inS b hb) (by simp)
    obtain ⟨_, o', e3, nf⟩ := I.funs.mem hb
    rw [e1] at e3
    cases e3
    obtain ⟨sl'', e4⟩ := up b _ e2 nf
    exact ⟨sl'', e4⟩
  · obtain ⟨o', e1⟩ := I.base.there b o e (nx b)
    exact un.free b o' e1 (I.base.free b o e n (nx b)) (by simp)
  · by_cases hb : b ∈ frs X.outer
    · have n : X.H₀ b = none := I.ok.frf b hb
      obtain ⟨sl, e1⟩ := I.base.slot b o e n hb (nx b)
      obtain ⟨sl', e2⟩ := un.slot b _ e1 (I.base.free b o e n (nx b)) (inS b hb) (by simp)
      obtain ⟨_, o', e3, nf⟩ := I.funs.mem hb
      rw [e1] at e3
      cases e3
      obtain ⟨sl'', e4⟩ := up b _ e2 nf
      exact ⟨_, e4⟩
    · obtain ⟨o1, e1⟩ := I.base.there b o e (nx b)
      obtain ⟨o2, e2⟩ := tb b o1 e1 (ne b o e hb)
      exact ⟨o2, fl.1 b o2 e2⟩
  · obtain ⟨m1, e1⟩ := I.base.tbls b ps e
    obtain ⟨m2, e2⟩ := un.tbls b _ e1
    exact ⟨m1 ++ m2, by rw [e2, Array.append_assoc]⟩
  · obtain ⟨o1, e1⟩ := I.base.there b o e (nx b)
    exact tb b o1 e1 (ne b o e hb)
  · cases q : X.s₀.heap.get? a with
    | none => rfl
    | some o =>
      obtain ⟨o1, e1⟩ := I.base.there a o q (nx a)
      rw [na] at e1
      cases e1
def Cx.leaves (X : Cx) (E : XK) : Prop := X.xe = fun e s' => wpAny (model X.prog X.w) X.A (leaving X.env e) (fun _ s'' => CXO X.prog X.w X.outer X.H₀ X.s₀ E e s'') (fun e' s'' => CXO X.prog X.w X.outer X.H₀ X.s₀ E e' s'') s'
end
section
variable {P : Program} {w : World} {K : PySem.W.Frag} {mg : Str → Option Value} {base : Heap} {N : List Str} {qual : Str} {scope : Scope} {f : Addr} {cd : Value} {A : Around} {outer : List Env} {s0 : Shared} {H0 : Hp} {E : XK} {CX : CXT}
def tRaise (E : XK) (c : Value) : TS := fun _ _ H => E c none H
structure Exc (K : PySem.W.Frag) (C : Addr) : Prop where
  is : PySem.W.excIn K C [.type "ValueError", .type "Exception", .type "BaseException", .type "object"] "ValueError.__new__" = true
theorem Exc.obj {h : Heap} {C : Addr} (X : K.In h) (e : Exc K C) : ∃ bm Nn nm q bs hdct sn sub ab col dd k0 k1 k2 k3 k5 mN, h.get? C = some (excClassObj nm q C Nn bs bm hdct sn sub ab col dd k0 k1 k2 k3 k5 "ValueError.__new__") ∧ h.Ns Nn mN ∧ mN "__init__" = none ∧ OwnTail h [.type "ValueError", .type "Exception", .type "BaseException", .type "object"] bm := by
  have q := e.is
  unfold PySem.W.excIn at q
  split at q
  · rename_i dd cd sl ho
    split at q
    · rename_i C' bm k0 k1 k2 k3 n k5 hm hs
      simp only [Bool.and_eq_true, beq_iff_eq, Bool.not_eq_true'] at q
      obtain ⟨⟨⟨⟨⟨rfl, rfl⟩, hdel⟩, ht⟩, hok⟩, hni⟩ := q
      obtain ⟨nm, bs, mro, ns, qn, hd, sn, sub, ab, col, del⟩ := cd
      have e1 : mro = .ref C' :: bm := hm
      have e2 : del = false := hdel
      subst e1 e2
      obtain ⟨l⟩ := sl
      have e3 : l = [k0, k1, k2, k3, some (.builtin "ValueError.__new__"), k5] := hs
      subst e3
      exact ⟨bm, ns, nm, qn, bs, hd, sn, sub, ab, col, dd, k0, k1, k2, k3, k5, _, X _ _ ho, .of_isNs (PySem.W.isNs_of_in X hok), PySem.W.nsMap_none_of_in X hok hni, PySem.W.tail_of_in X ht⟩
    · cases q
  · cases q
theorem sraise {C : Addr} {x y : Str} {np cpos pos sp : Pos} {j : Nat} (hC : Exc K C) (hm : mg x = some (.ref C)) (hd : A.handled = none) (hg : Gl (cxOf (CXO P w) P w K mg base N qual scope f cd A outer s0 H0 E) x) (hdb : (x == ("__debug__" : Str)) = false := by decide) :
    JS (cxOf (CXO P w) P w K mg base N qual scope f cd A outer s0 H0 E) (.Raise (some (.Call (.Name x np) [.Constant (.str y) j sp] [] cpos)) none pos) (tRaise E (.ref C)) := ⟨by
  intro pins s σ H D I h
  obtain ⟨bm, Nn, nm, q, bs, hdct, sn, sub, ab, col, dd, k0, k1, k2, k3, k5, mN, hCo, hN, hni, T⟩ := hC.obj I.mod.kin
  refine wpAny_Raise_call_subT (C := C) (nm := nm) (q := q) (N := Nn) (bs := bs) (bm := bm) (hdct := hdct) (sn := sn) (sub := sub) (ab := ab) (col := col) (dd := dd) (k0 := k0) (k1 := k1) (k2 := k2) (k3 := k3) (k5 := k5) PySem.F.excBase_ValueError (mN := mN) (T.hasType PySem.F.excBase_ValueError.hasBase) hd rfl hni (ld_glob I hg hm ⟨rfl, ?_⟩ hdb)
  have pa := pa_cons (X := cxOf (CXO P w) P w K mg base N qual scope f cd A outer s0 H0 E) (pe_str (x := y) (j := j) (pos := sp)) pa_nil
  refine Calls.evalArgs_plain (wpAny_mono (pa cpos pins s σ H (fun vs H2 => vs.length = 1 ∧ H2 = H) I ⟨rfl, rfl⟩) (fun us s2 z => ?_) fun _ _ z => z)
  obtain ⟨vs, H2, I2, r2, l2, rfl⟩ := z
  refine ⟨rfl, ?_, I2.bk _ _ hCo, hN.keeps I2.bk, T.keeps I2.bk, fun h' e hx => ?_⟩
  · show us.length ≤ _
    rw [← r2.length, l2]
    decide
  have nf : ∀ b u, H2 b = some u → b ∉ frs (cxOf (CXO P w) P w K mg base N qual scope f cd A outer s0 H0 E).stack := fun b u e z => by
    rw [I2.stkFree b z] at e
    cases e
  refine wpAny_leaves_madeW (base := PySem.W.hideAll s2.heap (frs (cxOf (CXO P w) P w K mg base N qual scope f cd A outer s0 H0 E).stack)) (h := s2.heap) I2.ok.frames rfl (fun b o q => PySem.W.of_hideAll _ q) (PySem.W.funFrames_hide I2.stack fun env he b hb => List.mem_filterMap.mpr ⟨env, he, hb⟩) hx fun h2 t fl _ _ up => ?_
  refine cxo_out (X := cxOf (CXO P w) P w K mg base N qual scope f cd A outer s0 H0 E) (H' := H2) (h1 := h') (s := s2) rfl rfl I2 rfl I2.bare fl up (Un.kept hx.keeps) (fun b o e _ n => PySem.W.hideAll_get _ e n) (fun b o e n => ⟨o, PySem.W.hideAll_get _ e n⟩) (fun b o e => (I2.hok b o e).stay (fun c u hc q => PySem.W.hideAll_get _ q ?_) (fun _ q => q) fun _ _ q => q) hx.new h
  rcases hc with z | z
  · subst z
    exact nf _ _ e
  · exact nf _ _ z⟩
end
end L2
namespace L2
open PySem PySem.Spec PyProof.Rows PySem.W PySem.Calls PySem.Builtin PySem.Builtin.ObjectAttr PySem.Builtin.Getset_descriptor
structure ExcI (K : PySem.W.Frag) (C : Addr) : Prop where
  ga : findIn K (.ref C) "__getattribute__" = some (some (.builtin "BaseException.__getattribute__"))
  gh : findIn K (.ref C) "__getattr__" = some none
  cl : findIn K (.ref C) "__class__" = some (some (.builtin "object.__class__"))
  mo : mroIn K C (.type "object") = some true
  mb : mroIn K C (.type "BaseException") = some true
  gt : specialIn K (.builtin "object.__class__") "__get__" = some (some (.builtin "getset_descriptor.__get__"))
  tk : takesIn K (.builtin "object.__class__") = some true
  is : (clsIn K C).isSome = true
def XAt (a C : Addr) (h : Heap) : Prop := ∃ o, h.get? a = some o ∧ o.cls = .ref C
section
variable {K : PySem.W.Frag} {prog : Program} {w : World} {A : Around} {E : Value → Shared → Prop} {s : Shared} {a C : Addr}
theorem XAt.ty {M : Model} {h : Heap} (x : XAt a C h) : Looks M h (typeOf (.ref a)) (.ref C) := by
  obtain ⟨o, e, c⟩ := x
  exact c ▸ (Looks.ld e).andThen .now
theorem xcls_get {R : Result → Shared → Prop} {tp : Value} (X : K.In s.heap) (x : XAt a C s.heap) (F : ExcI K C) (h : R (.ok (.ret (.ref C))) s) : codeAny (model prog w) A (.call (.builtin "getset_descriptor.__get__") ⟨[.builtin "object.__class__", .ref a, tp], []⟩) R s := by
  obtain ⟨h0, gn, dr, tk, os⟩ := s
  have l0 := x.ty (M := model prog w)
  have l1 := looks_mroIn (M := model prog w) X F.mo
  refine codeAny_call_builtin KF.slot_gs.plain KF.entry_gs (KF.slot_gs.check _ _ _ _ _ _ _ _ KF.type_class (KF.args_gs _ _ _) ?_)
  unfold Builtin.«getset_descriptor.__get__»; unfold descrGet
  rw [dga_obj]
  refine wpAny_bind (wpAny_pure ?_)
  unfold descrGetter; unfold descrCheckInstance; unfold descrNameAndClass; unfold isInstance
  simp only [KF.owner_class]
  repeat lk
  refine ⟨Code.quiet_builtin _ (by decide +kernel), codeAny_builtin KF.entry_class ?_⟩
  unfold Builtin.«object.__class__»; unfold shownTypeOf
  repeat lk
  exact h
theorem xcls_find {M : Model} {h : Heap} (X : K.In h) (F : ExcI K C) : Looks M h (find (.ref a) (.ref C) "__class__") (.bind (.builtin "getset_descriptor.__get__") (.builtin "object.__class__")) := by
  have l1 := looks_findIn (M := M) X F.cl
  have l2 := looks_specialIn (M := M) X F.gt
  have l3 := looks_takesIn (M := M) X F.tk
  exact l1.andThen (Looks.andThen (a := some (Value.builtin "getset_descriptor.__get__")) l2 ((show Looks M h (dataDescriptor? (some (.builtin "object.__class__")) (some (.builtin "getset_descriptor.__get__"))) (some (.builtin "getset_descriptor.__get__", .builtin "object.__class__")) from l3.andThen .now).andThen (Looks.tag .now)))
theorem xcls_entry {tk : Tok} {Q : Fin → Shared → Prop} (X : K.In s.heap) (x : XAt a C s.heap) (F : ExcI K C) (h : Q (.done (.ret (.ref C))) s) : wpAny (model prog w) A (Builtin.«object.__getattribute__» ⟨[.ref a, .str "__class__" tk], []⟩) Q E s := by
  obtain ⟨h0, gn, dr, tk, os⟩ := s
  have l0 := x.ty (M := model prog w)
  have l1 := xcls_find (M := model prog w) (a := a) X F
  unfold Builtin.«object.__getattribute__»
  refine wpAny_bind (wpAny_pure ?_)
  refine wpAny_bind (wpAny_pure ?_)
  refine wpAny_bind (l0.at ?_)
  refine wpAny_bind (l1.at ?_)
  show wpAny (model prog w) A (bindTo (.builtin "getset_descriptor.__get__") (.builtin "object.__class__") (.ref a) (.ref C)) _ _ _
  unfold bindTo
  show wpAny (model prog w) A (holding [.builtin "object.__class__"] (call (.builtin "getset_descriptor.__get__") [.builtin "object.__class__", .ref a, .ref C]) >>= ret) _ _ _
  exact wpAny_bind (wpAny_holding (wpAny_call (xcls_get (s := ⟨h0, gn, dr, tk, os⟩) X x F (wpAny_pure h))))
theorem xcls_call {tk : Tok} {R : Result → Shared → Prop} (X : K.In s.heap) (x : XAt a C s.heap) (F : ExcI K C) (h : R (.ok (.ret (.ref C))) s) : codeAny (model prog w) A (.call (.builtin "BaseException.__getattribute__") ⟨[.ref a, .str "__class__" tk], []⟩) R s := by
  refine codeAny_call_builtin PySem.F.attr_ValueError.ga.plain PySem.F.entry_bexc_ga ?_
  have hk : builtinKind "BaseException.__getattribute__" = some .slot := by decide +kernel
  have hp : splitId "BaseException.__getattribute__" = some ("BaseException", "__getattribute__") := by decide +kernel
  have ha := PySem.F.args_bexc_ga (.ref a) (.str "__class__" tk)
  have l0 := x.ty (M := model prog w)
  have l1 := looks_mroIn (M := model prog w) X F.mb
  have l2 : Looks (model prog w) s.heap (isInstance (.ref a) (.type "BaseException")) true := l0.andThen l1
  simp only [checkBuiltinCall, hk, hp]
  refine wpAny_bind (l2.at ?_)
  rw [if_neg (by decide)]
  exact wpAny_of_eq ha (xcls_entry X x F h)
theorem xcls_by {tk : Tok} {Q : Value → Shared → Prop} (X : K.In s.heap) (x : XAt a C s.heap) (F : ExcI K C) (h : Q (.ref C) s) : wpAny (model prog w) A (getAttrBy (.ref a) (.str "__class__" tk) false) Q E s := by
  have l0 := x.ty (M := model prog w)
  have l1 := looks_findIn (M := model prog w) X F.ga
  have l2 := looks_findIn (M := model prog w) X F.gh
  have f3 := PySem.F.attr_ValueError.ga.bind (.ref a)
  unfold getAttrBy
  refine wpAny_holding (wpAny_bind (l0.at (wpAny_bind (l1.at ?_))))
  dsimp only
  have nb : (onTheHeap (Value.ref C) && Value.builtin "BaseException.__getattribute__" == Value.builtin "object.__getattribute__") = false := by
    rw [show (Value.builtin "BaseException.__getattribute__" == Value.builtin "object.__getattribute__") = false by decide +kernel, Bool.and_false]
  rw [nb, if_neg (by decide)]
  unfold getAttrByItsOwn
  refine wpAny_bind ?_
  show wpAny (model prog w) A (typeLookup (.ref C) "__getattr__") _ _ _
  refine l2.at (wpAny_bind (wpAny_attempt (wpAny_holding ?_)))
  show wpAny (model prog w) A (boundAndCalled (.builtin "BaseException.__getattribute__") (.ref a) (.str "__class__" tk)) _ _ _
  unfold boundAndCalled
  refine wpAny_bind (wpAny_of_eq f3 ?_)
  refine wpAny_call (xcls_call (s := s) X x F ?_)
  exact wpAny_pure h
theorem xcls_attr {Q : Option Value → Shared → Prop} (X : K.In s.heap) (x : XAt a C s.heap) (F : ExcI K C) (h : Q (some (.ref C)) { s with toks := s.toks + 1 }) : wpAny (model prog w) A (getAttr? (.ref a) "__class__") Q E s := by
  unfold getAttr?; unfold getAttrBy?
  exact wpAny_bind (wpAny_mkText (wpAny_bind (wpAny_attempt (xcls_by (s := { s with toks := s.toks + 1 }) X x F (wpAny_pure h)))))
theorem kitx_exc (F : ExcI K C) : KitX K (.ref a) (.ref C) (XAt a C) where
  ty := fun _ _ _ x => x.ty
  it := fun _ _ X _ => by
    have q := F.is
    unfold clsIn at q
    split at q
    · rename_i ho
      intro A' Q' E' s' k z
      unfold isType loadHead
      exact wpAny_bind (wpAny_loadPart (k _ _ (X _ _ ho)) (wpAny_pure z))
    · cases q
  ne := fun h tp dd its n sl X e => by
    have q := F.is
    refine Bool.eq_false_iff.mpr fun z => ?_
    cases beq_iff_eq.mp z
    unfold clsIn at q
    split at q
    · rename_i ho
      have z := (X _ _ ho).symm.trans e
      cases z
    · cases q
  ca := fun X x k => xcls_attr X x F k
end
end L2
set_option Elab.async false
set_option linter.all false
set_option maxRecDepth 100000
set_option maxHeartbeats 4000000
namespace L2
open PySem PySem.Spec PyProof.Rows
def Cx.tried (X : Cx) (xe : Value → Shared → Prop) (pn : List (Addr × Obj)) : Cx := { X with xe := xe, pn := pn }
def Cx.caught (X : Cx) (a : Addr) (xe : Value → Shared → Prop) (pn : List (Addr × Obj)) : Cx := { X with A := X.A.mark (some (.ref a)), calm := false, xe := xe, pn := pn }
section
variable {X : Cx} {pins pins1 : List (Addr × Obj)} {σ : St} {H H' : Hp} {s : Shared} {xe : Value → Shared → Prop}
theorem Inv.tried (I : Inv X pins σ H s) : Inv (X.tried xe (X.pn ++ pins)) [] σ H s :=
  ⟨⟨I.ok.mod, I.ok.kind, I.ok.glob, I.ok.blt, I.ok.above, I.ok.inj, I.ok.has, I.ok.cab, I.ok.hd, I.ok.frames, I.ok.stk, I.ok.exf, I.ok.bs, I.ok.bsz, I.ok.noex, I.ok.exfs, I.ok.funs, I.ok.frf⟩, I.os, I.bare, I.base, I.loc, I.cell, I.free, I.freeC, fun p hp => I.pin p (by rw [List.append_nil] at hp; exact hp), I.hok, I.len⟩
theorem Inv.untried (I : Inv (X.tried xe (X.pn ++ pins)) pins1 σ H s) : Inv X pins σ H s :=
  ⟨⟨I.ok.mod, I.ok.kind, I.ok.glob, I.ok.blt, I.ok.above, I.ok.inj, I.ok.has, I.ok.cab, I.ok.hd, I.ok.frames, I.ok.stk, I.ok.exf, I.ok.bs, I.ok.bsz, I.ok.noex, I.ok.exfs, I.ok.funs, I.ok.frf⟩, I.os, I.bare, I.base, I.loc, I.cell, I.free, I.freeC, fun p hp => I.pin p (List.mem_append_left _ hp), I.hok, I.len⟩
theorem Inv.caught {a : Addr} (I : Inv X pins σ H s) : Inv (X.caught a xe (X.pn ++ pins)) [] σ H s :=
  ⟨⟨I.ok.mod, I.ok.kind, I.ok.glob, I.ok.blt, I.ok.above, I.ok.inj, I.ok.has, I.ok.cab, (fun z => nomatch z), I.ok.frames, I.ok.stk, I.ok.exf, I.ok.bs, I.ok.bsz, I.ok.noex, I.ok.exfs, I.ok.funs, I.ok.frf⟩, I.os, I.bare, I.base, I.loc, I.cell, I.free, I.freeC, fun p hp => I.pin p (by rw [List.append_nil] at hp; exact hp), I.hok, I.len⟩
theorem Inv.uncaught {a : Addr} (ok : X.Ok) (I : Inv (X.caught a xe (X.pn ++ pins)) pins1 σ H s) : Inv X pins σ H s :=
  ⟨ok, I.os, I.bare, I.base, I.loc, I.cell, I.free, I.freeC, fun p hp => I.pin p (List.mem_append_left _ hp), I.hok, I.len⟩
theorem Inv.track {a : Addr} {o : HO} (I : Inv X pins σ H s) (hn : H a = none) (ha : X.s₀.heap.get? a = none) (hl : a ≠ X.env.locals) (hc : ∀ x c, X.env.cells.lookup x = some c → c ≠ a) (hp : ∀ p ∈ X.pn ++ pins, p.1 ≠ a) (ok : ObjOk X.prog X.w (upd H a o) s.heap a o) : Inv X pins σ (upd H a o) s := by
  have ne : ∀ b u, H b = some u → b ≠ a := fun b u e => ne_of_none e hn
  refine ⟨I.ok, I.os, I.bare, ⟨I.base.keep, I.base.slot, fun b u e n hx => ?_, I.base.there, fun b xs e => ?_, fun b u xs e => ?_, fun b ps e => ?_⟩, I.loc, I.cell, ?_, fun x c e => ?_, fun p q => ?_, fun b u e => ?_, I.len⟩
  · rw [upd_ne (fun z => by rw [z, ha] at e; cases e)]
    exact I.base.free b u e n hx
  · have := I.base.tups b xs e
    rw [upd_ne (ne _ _ this)]
    exact this
  · have := I.base.frzs b u xs e
    rw [upd_ne (ne _ _ this)]
    exact this
  · obtain ⟨m, this⟩ := I.base.tbls b ps e
    exact ⟨m, by rw [upd_ne (ne _ _ this)]; exact this⟩
  · rw [upd_ne hl.symm]
    exact I.free
  · rw [upd_ne (hc x c e)]
    exact I.freeC x c e
  · obtain ⟨e, n, r⟩ := I.pin p q
    exact ⟨e, by rw [upd_ne (hp p q)]; exact n, r⟩
  · by_cases z : b = a
    · subst z
      rw [upd_same] at e
      cases e
      exact ok
    · rw [upd_ne z] at e
      exact (I.hok b u e).stay (fun _ _ _ q => q) (fun c q => by rw [upd_ne (ne _ _ q)]; exact q) fun c xs q => by rw [upd_ne (ne _ _ q)]; exact q
end
theorem un_up {st : List Env} {base h h1 h2 B : Heap} {H H' : Hp} (ff : h.FunFrames base st) (fr : ∀ b ∈ frs st, H b = none) (un : Un (frs st) [] H H' h h1) (kb : ∀ b o, h.get? b = some o → H b = none → b ∉ frs st → B.get? b = some o)
    (tb : ∀ b o, h.get? b = some o → b ∉ frs st → ∃ o', B.get? b = some o') (ks : B.StaysIn h2) (up : h1.UpToSlots h2) : Un (frs st) [] H H' h h2 := by
  have sl : ∀ b o, h.get? b = some o → H b = none → b ∈ frs st → ∃ sl, h2.get? b = some { o with slots := sl } := fun b o e n hb => by
    obtain ⟨s1, e1⟩ := un.slot b o e n hb (by simp)
    obtain ⟨_, o', e3, nf⟩ := ff.mem hb
    rw [e] at e3
    cases e3
    obtain ⟨s2, e2⟩ := up b _ e1 nf
    exact ⟨s2, e2⟩
  refine ⟨fun b o e n hb _ => ks b o (kb b o e n hb), fun b o e n hb _ => sl b o e n hb, un.free, fun b o e _ => ?_, un.tups, un.frzs, un.tbls⟩
  by_cases hb : b ∈ frs st
  · obtain ⟨_, e1⟩ := sl b o e (fr b hb) hb
    exact ⟨_, e1⟩
  · obtain ⟨o', e1⟩ := tb b o e hb
    exact ⟨o', ks b o' e1⟩
def Ends.gone (D : Ends) (i : Nat) : Ends := { nx := fun σ H => D.nx (σ.set i none) H, rt := D.rt, bk := fun σ H => D.bk (σ.set i none) H, ct := fun σ H => D.ct (σ.set i none) H }
theorem name_goes {X : Cx} {pins : List (Addr × Obj)} {σ : St} {H : Hp} {s : Shared} {M : Model} {A : Around} {E : Value → Shared → Prop} {Q : Unit → Shared → Prop} {n : Str} {i : Nat} {pos : Pos} (I : Inv X pins σ H s) (hN : X.N.Nodup) (hi : X.N[i]? = some n) (hl : X.env.kindOf n = some .local)
    (h : ∀ s', Inv X pins (σ.set i none) H s' → Q () s') : wpAny M A (do bindName X.env n .none; unbindBehindTheSuite X.env n pos) Q E s := by
  obtain ⟨m, hn, hv⟩ := id I.loc
  obtain ⟨oL, _, _, hoL, _⟩ := id hn
  have ne : ∀ b o, X.s₀.heap.get? b = some o → b ≠ X.env.locals := fun b o e => Nat.ne_of_lt (Nat.lt_of_lt_of_le (Heap.lt_size e) I.ok.above)
  refine wpAny_nameGoes_keeps hl hn (by rw [I.ok.kind]; rfl) fun h' v hn' hs => ?_
  refine h _ ⟨I.ok, I.os, I.bare, ⟨fun b o e n hb hx => (hs.2 b (ne b o e)).trans (I.base.keep b o e n hb hx), fun b o e n hb hx => ?_, I.base.free, fun b o e hx => ?_, I.base.tups, I.base.frzs, I.base.tbls⟩, ⟨_, hn', fun j y u e1 e2 e3 => ?_⟩, fun y c e => ?_, I.free, I.freeC, fun p hp => ?_, fun b u e => ?_, by simpa using I.len⟩
  · obtain ⟨sl, e1⟩ := I.base.slot b o e n hb hx
    exact ⟨sl, (hs.2 b (ne b o e)).trans e1⟩
  · obtain ⟨o', e1⟩ := I.base.there b o e hx
    exact ⟨o', (hs.2 b (ne b o e)).trans e1⟩
  · by_cases hj : j = i
    · subst hj
      have : j < σ.length := by rw [I.len]; exact (List.getElem?_eq_some_iff.mp hi).1
      rw [List.getElem?_set_self this] at e2
      cases e2
    · rw [List.getElem?_set_ne (Ne.symm hj)] at e2
      obtain ⟨u', r', q⟩ := hv j y u e1 e2 e3
      refine ⟨u', r', ?_⟩
      rcases q with ⟨k, e⟩ | ⟨k, c, e, z⟩
      · refine .inl ⟨k, ?_⟩
        have : y ≠ n := fun e => hj (nodup_ix hN e1 (e ▸ hi))
        show (if y = n then v else m y) = _
        rw [if_neg this]
        exact e
      · exact .inr ⟨k, c, e, z.sameBut hs (I.cne y c e)⟩
  · obtain ⟨w', z⟩ := I.cell y c e
    exact ⟨w', z.sameBut hs (I.cne y c e)⟩
  · obtain ⟨e, n, ne, r⟩ := I.pin p hp
    exact ⟨(hs.2 p.1 ne).trans e, n, ne, r⟩
  · refine (I.hok b u e).stay (fun c w' hc q => (hs.2 c ?_).trans q) (fun _ q => q) fun _ _ q => q
    rintro rfl
    rcases hc with z | z
    · rw [← z, I.free] at e
      cases e
    · rw [I.free] at z
      cases z
section
variable {X : Cx}
def tTry (K : PySem.W.Frag) (CF : Addr) (len i : Nat) (tb : XK → TS) (ts : TS) : TS := fun D σ H =>
  tb (fun cls _ H' => ∃ C, cls = .ref C ∧ ExcI K C ∧ PySem.W.exmOne K (.ref C) (.ref CF) = some true ∧ ∀ a, L2.new K H' a → ts (D.gone i) ((List.replicate len none).set i (some (.ref a))) (upd H' a (.ext (XAt a C)))) D σ H
theorem stry {x n : Str} {CF : Addr} {i : Nat} {np hp pos : Pos} {body suite : List Stmt} {b0 : Stmt} {tb : XK → TS} {ts : TS} (hN : X.N.Nodup) (hi : X.N[i]? = some n) (hl : X.env.kindOf n = some .local) (hg : Gl X x) (hm : X.mg x = some (.ref CF)) (hst : X.stack = X.env :: X.outer ∧ X.env.frame = some X.env.locals) (hex : X.ex = [])
    (hb : ∀ (E1 : XK) (xe : Value → Shared → Prop) (pn : List (Addr × Obj)), Passes (CXO X.prog X.w) (X.tried xe pn) E1 → JB (X.tried xe pn) body (tb E1)) (hs : ∀ (a : Addr) (xe : Value → Shared → Prop) (pn : List (Addr × Obj)), JB (X.caught a xe pn) (b0 :: suite) ts) (hdb : (x == ("__debug__" : Str)) = false := by decide) :
    JS X (.Try body [.ExceptHandler (some (.Name x np)) (some n) (b0 :: suite) hp] [] [] pos) (tTry X.K CF X.N.length i tb ts) := ⟨by
  intro pins s σ H D I h
  refine wpAny_Try_except (wpAny_mono ((hb _ (fun e s₁ => wpAny (model X.prog X.w) X.A (noteFrame e X.env) (fun _ s₂ => wpAny (model X.prog X.w) X.A (setFlight e none) (fun _ s₃ => wpAny (model X.prog X.w) X.A (handleBy e X.env [.ExceptHandler (some (.Name x np)) (some n) (b0 :: suite) hp]) (SP X pins D) X.xe s₃) X.xe s₂) X.xe s₁) (X.pn ++ pins) ?_).h [] s σ H D (I.tried (pins := pins)) h) (fun f s1 q => ?_) fun _ _ z => z)
  · rintro pins1 σ1 H1 s1 e ⟨h', g', d', t', os'⟩ J ⟨a, cls, a0, B, H', rfl, os, bare, fl, un, kb, tb, hok, na, C, rfl, F, hx, k⟩
    have J := J.untried
    have fr : X.A.frames = some (X.env :: X.outer) := by rw [← hst.1]; exact J.ok.frames
    have fl : Heap.FlyingW B (X.env :: X.outer) a (.ref C) a0 h' := by rw [← hst.1]; exact fl
    refine wpAny_looks_onW fr hst.2 fl fun h4 held4 up4 => wpAny_landsW held4 fun h5 fl5 up5 => ?_
    have up45 := up4.trans up5
    have mk : ∀ {h6 : Heap}, Heap.FlyingW B (X.env :: X.outer) a (.ref C) a0 h6 → h'.UpToSlots h6 → Inv X pins σ1 H' ⟨h6, g', d', t', os'⟩ := fun {h6} fl6 up6 =>
      J.call' (s' := ⟨h6, g', d', t', os'⟩) (ch := []) os (un_up J.stack J.stkFree un kb tb fl6.1 up6) (hok.kept fl6.1) bare (fun b z => absurd z (by simp))
    have J5 := mk fl5 up45
    have xa : ∀ {h6 : Heap}, Heap.FlyingW B (X.env :: X.outer) a (.ref C) a0 h6 → XAt a C h6 := fun fl6 => fl6.there
    refine wpAny_handleBy_cons (codeAny_handlers_test (Calls.Name_function_global J5.ok.kind hg (Calls.loadGlobal_global (by rw [J5.ok.glob]; exact J5.mod.glob.keeps J5.bk) hm ?_) hdb)) (by intro q; cases q)
    refine (PySem.W.exm_one J5.kIn (xa fl5).ty hx).at ?_
    show codeAny _ _ _ _ _
    refine codeAny_handlers_suite_as ?_
    refine lands_againW fl5 fun h6 fl6 up6 => ?_
    have J6 := mk fl6 (up45.trans up6)
    have ex : ∀ b o, s1.heap.get? b = some o → b ≠ a := fun b o e z => by rw [z, na] at e; cases e
    have aL : X.env.locals ≠ a := by
      obtain ⟨m, ⟨o, _, _, e, _⟩, _⟩ := J.loc
      exact ex _ o e
    have aC : ∀ y c, X.env.cells.lookup y = some c → c ≠ a := fun y c e => by
      obtain ⟨v, o, q, _⟩ := J.cell y c e
      exact ex c o q
    have hH : H' a = none := by
      cases q : H' a with
      | none => rfl
      | some u =>
        obtain ⟨o, e⟩ := no_obj (hok a u q)
        have := fl.2.1
        rw [this] at e
        cases e
    refine store_ok2 J6 hN hi (.inl hl) (v := .ref a) rfl (fun s7 J7 sm => ?_) (.inr hl)
    have x7 : XAt a C s7.heap := by
      obtain ⟨b, sb, hb⟩ := sm
      obtain ⟨o, e, c⟩ := xa fl6
      refine ⟨o, (sb.2 a ?_).trans e, c⟩
      rcases hb with rfl | hb
      · exact aL.symm
      · exact (aC _ _ hb).symm
    have J8 : Inv X pins ((List.replicate X.N.length none).set i (some (.ref a))) H' s7 := by
      refine J7.weak (by simp [J7.len]) fun j v e => ?_
      by_cases z : j = i
      · subst z
        have lt : j < X.N.length := (List.getElem?_eq_some_iff.mp hi).1
        rw [List.getElem?_set_self (by rw [List.length_replicate]; exact lt)] at e
        rw [List.getElem?_set_self (by rw [J.len]; exact lt)]
        exact e
      · rw [List.getElem?_set_ne (Ne.symm z), List.getElem?_replicate] at e
        split at e <;> cases e
    have J9 := J8.track (a := a) (o := .ext (XAt a C)) hH (by
      cases q : X.s₀.heap.get? a with
      | none => rfl
      | some o =>
        obtain ⟨o', e⟩ := J.base.there a o q (by rw [hex]; simp)
        exact absurd rfl (ex a o' e)) aL.symm aC (fun p hp => ex p.1 p.2 (J.pin p hp).1) ⟨x7, (let ⟨o, e, _⟩ := x7; ⟨o, e⟩), fun h1 h2 ⟨o, e, c⟩ k => ⟨o, k o e, c⟩⟩
    have nw := k a ⟨hH, J9.notMod upd_same⟩
    refine wpAny_mono ((hs a _ (X.pn ++ pins)).h [] s7 _ _ (D.gone i) (J9.caught (a := a)) nw) (fun f s8 q => ?_) fun _ _ z => z
    cases f with
    | next =>
      obtain ⟨σ', H2, JA, q⟩ := q
      exact name_goes (JA.uncaught J.ok) hN hi hl fun s' JB => ⟨_, _, JB, q⟩
    | brk =>
      obtain ⟨σ', H2, JA, q⟩ := q
      exact name_goes (JA.uncaught J.ok) hN hi hl fun s' JB => ⟨_, _, JB, q⟩
    | cont =>
      obtain ⟨σ', H2, JA, q⟩ := q
      exact name_goes (JA.uncaught J.ok) hN hi hl fun s' JB => ⟨_, _, JB, q⟩
    | ret u =>
      obtain ⟨v, σ', H2, JA, r, q⟩ := q
      exact name_goes (JA.uncaught J.ok) hN hi hl fun s' JB => ⟨_, _, _, JB, r, q⟩
  · cases f with
    | next =>
      obtain ⟨σ', H', J, q⟩ := q
      exact wpAny_execs_nil ⟨σ', H', J.untried, q⟩
    | brk =>
      obtain ⟨σ', H', J, q⟩ := q
      exact ⟨σ', H', J.untried, q⟩
    | cont =>
      obtain ⟨σ', H', J, q⟩ := q
      exact ⟨σ', H', J.untried, q⟩
    | ret u =>
      obtain ⟨v, σ', H', J, r, q⟩ := q
      exact ⟨v, σ', H', J.untried, r, q⟩⟩
end
end L2
set_option Elab.async false
set_option linter.all false
set_option maxRecDepth 100000
set_option maxHeartbeats 4000000
namespace L2
open PySem PySem.Spec PyProof.Rows
def lamCx (P : Program) (w : World) (K : PySem.W.Frag) (mg : Str → Option Value) (base : Heap) (N : List Str) (qual : Str) (scope : Scope) (f : Addr) (cd : Value) (A : Around) (outer : List Env) (s : Shared) (H : Hp) (E : XK) (cl : List (Str × Addr)) : Cx where
  prog := P
  w := w
  K := K
  mg := mg
  base := base
  A := A.deeper (PySem.W.envX qual scope s.heap.objs.size f cd cl)
  N := N
  s₀ := s
  H₀ := H
  env := PySem.W.envX qual scope s.heap.objs.size f cd cl
  outer := outer
  stack := PySem.W.envX qual scope s.heap.objs.size f cd cl :: outer
  ex := []
  calm := true
  fn := fun _ => false
  pn := []
  xe := fun e s' => wpAny (model P w) (A.deeper (PySem.W.envX qual scope s.heap.objs.size f cd cl)) (leaving (PySem.W.envX qual scope s.heap.objs.size f cd cl) e) (fun _ s'' => CXO P w outer H s E e s'') (fun e' s'' => CXO P w outer H s E e' s'') s'
structure Lam (K : PySem.W.Frag) (H : Hp) (h : Heap) (f : Addr) (name qual : Str) (params : Arguments) (body : Expr) (scope : Scope) (cl : List (Str × Addr)) (pm ctv : Value) (c' : Addr) (N : List Str) (σ : St) : Prop where
  obj : h.get? f = some (PySem.W.kla_obj name qual params body scope cl pm c' ctv)
  code : h.CodeRec (.ref c') qual
  free : ∀ x c, cl.lookup x = some c → H c = none ∧ ∃ v, h.IsCell c v
  inj : ∀ x y c, cl.lookup x = some c → cl.lookup y = some c → x = y
  has : ∀ x, (scope.names.lookup x = some .cell ∨ scope.names.lookup x = some .free) → ∃ c, cl.lookup x = some c
  vals : ∀ (i : Nat) (x : Str) (v : V), N[i]? = some x → σ[i]? = some (some v) → ∃ u c, RelV v u ∧ cl.lookup x = some c ∧ h.IsCell c (some u) ∧ scope.names.lookup x = some .free
  len : σ.length = N.length
section
variable {P : Program} {w : World} {K : PySem.W.Frag} {mg : Str → Option Value} {base : Heap} {N : List Str} {name qual : Str} {scope : Scope} {f c' : Addr} {A : Around} {outer : List Env} {s : Shared} {H : Hp} {E : XK} {cl : List (Str × Addr)} {params : Arguments} {body : Expr} {pm ctv : Value} {σ : St} {Q : VK} {k : Nat} {te : TE}
end
section
variable {X : Cx} {N : List Str} {name qual : Str} {scope : Scope} {f c' : Addr} {E : XK} {cl : List (Str × Addr)} {params : Arguments} {body : Expr} {pm ctv : Value} {σl : St} {k i : Nat} {te : TE} {x : Str} {p pos : Pos}
end
end L2
set_option Elab.async false
set_option linter.all false
set_option maxRecDepth 100000
set_option maxHeartbeats 4000000
namespace L2
open PySem PySem.Spec PyProof.Rows
def CTab (H : Hp) (ps : Array Value) (qual : Str) : Prop := TriplesOk ps.toList ∧ ∀ q v, codeAmong q ps.toList = some v → ∃ c', v = .ref c' ∧ H c' = some (.ext fun h => h.CodeRec (.ref c') qual)
structure LawTab (X : Cx) (c P : Addr) : Prop where
  code : X.env.code = .ref c
  hd : PySem.W.CodeHd X.base c P
  bt : ∃ bm ob, X.mg "__builtins__" = some (.ref bm) ∧ bm ≠ builtinsNs ∧ X.base.get? bm = some ob ∧ ob.cls = .type "module" ∧ ob.dict = some builtinsNs ∧ ob.data = .plain
section
variable {X : Cx} {pins : List (Addr × Obj)} {σ : St} {H : Hp} {s : Shared} {c P : Addr} {ps : Array Value} {params : Arguments} {body : Expr} {scope : Scope} {pos : Pos} {A : Around} {E : Value → Shared → Prop} {Q : Value → Shared → Prop}
structure Made (X : Cx) (pins : List (Addr × Obj)) (σ : St) (H : Hp) (P : Addr) (qual : Str) (params : Arguments) (body : Expr) (scope : Scope) (H' : Hp) (s' : Shared) (f c' : Addr) (pm ctv : Value) : Prop where
  inv : Inv X pins σ H' s'
  tab : ∃ ps', H' P = some (.tbl ps') ∧ CTab H' ps' qual
  code : H' c' = some (.ext fun h => h.CodeRec (.ref c') qual)
  keep : ∀ b o, H b = some o → b ≠ P → H' b = some o
  mod : ∀ b xs, H b = none → kTup X.K b = some xs → H' b = none
  obj : s'.heap.get? f = some (PySem.W.kla_obj "<lambda>" qual params body scope (closL X.env scope.names []) pm c' ctv)
  free : H' f = none
  above : X.s₀.heap.objs.size ≤ f
end
section
variable {X : Cx} {pins : List (Addr × Obj)} {σ : St} {H H' : Hp} {s' : Shared} {P f c' : Addr} {qual : Str} {params : Arguments} {body : Expr} {scope : Scope} {pm ctv : Value} {N : List Str} {src : List (Option Nat)}
theorem Made.lam (M : Made X pins σ H P qual params body scope H' s' f c' pm ctv) (c : Cap X scope N src) : Lam X.K H' s'.heap f "<lambda>" qual params body scope (closL X.env scope.names []) pm ctv c' N (pick σ src) := by
  have I := M.inv
  refine ⟨M.obj, (I.hok c' _ M.code).1, fun x d e => ⟨I.freeC x d (clos_look e), I.cell x d (clos_look e)⟩, fun x y d e1 e2 => I.ok.inj x y d (clos_look e1) (clos_look e2), fun x h => ?_, fun i x v e1 e2 => ?_, by unfold pick; rw [List.length_map]; exact c.len.symm⟩
  · have m : (x, NameKind.free) ∈ scope.names := by
      rcases h with h | h
      · exact absurd rfl (c.cell _ (lookup_mem h))
      · exact lookup_mem h
    obtain ⟨d, hd⟩ := I.ok.has x (c.free m)
    exact ⟨d, clos_has m hd⟩
  · obtain ⟨j, e3, e4⟩ := pick_some e2
    obtain ⟨a1, a2, a3⟩ := c.at_ e1 e3
    obtain ⟨m, _, hl⟩ := I.loc
    have vis : Vis X.env.scope x := by
      rcases a2 with z | z
      · exact .inr (.inl z)
      · exact .inr (.inr z)
    obtain ⟨u, r, q⟩ := hl j x v a1 e4 vis
    rcases q with ⟨z, _⟩ | ⟨_, d, e, z⟩
    · rw [z] at a2
      rcases a2 with z | z <;> cases z
    · exact ⟨u, d, r, clos_has (lookup_mem a3) e, z, a3⟩
theorem Made.apart (M : Made X pins σ H P qual params body scope H' s' f c' pm ctv) (hfn : ∀ x, X.fn x = true) : f ∉ frs X.stack ∧ ∀ x d, (closL X.env scope.names []).lookup x = some d → d ∉ frs X.stack := by
  have I := M.inv
  have old : ∀ b, X.s₀.heap.objs.size ≤ b → b ∉ X.fs := fun b hb z => by
    obtain ⟨_, o, e, _⟩ := I.ok.funs.mem z
    exact absurd (Nat.lt_of_lt_of_le (Heap.lt_size e) hb) (Nat.lt_irrefl _)
  refine ⟨fun z => ?_, fun x d e z => ?_⟩
  · rcases List.mem_cons.mp (I.stkSub f z) with q | q
    · obtain ⟨m, ⟨o, es, ep, e, k, _⟩, _⟩ := I.loc
      rw [← q, M.obj] at e
      cases e
      cases k
    · exact old f M.above q
  · rcases List.mem_cons.mp (I.stkSub d z) with q | q
    · exact I.cne x d (clos_look e) q
    · exact old d (I.ok.cab x d (hfn x) (clos_look e)) q
end
section
variable {P : Program} {w : World} {K : PySem.W.Frag} {mg : Str → Option Value} {base : Heap} {x qual : Str} {st : Stmt} {f : Addr} {fd : FuncData} {N ps : List Str} {k : Nat}
theorem Fun.okX {sp : Sp} (F : Fun K x qual st f fd) (S : FnScope N ps (defScope st)) (len : ∀ vs H Q E, sp vs H Q E → vs.length = ps.length)
    (hbody : ∀ (cdv : Value) (A : Around) (outer : List Env) (s : Shared) (H : Hp) (vs : List V) (Q : VK) (E : XK), Room k (A.deeper (envOfC qual (defScope st) s.heap.objs.size f cdv)) → sp vs H Q E →
      ∃ t, JB (cxOf (CXO P w) P w K mg base N qual (defScope st) f cdv A outer s H E) (defBody st) t ∧ t { nx := fun _ H' => Q .non H', rt := Q } (start N vs) H) : FnOk P w K mg base (CXO P w) (k + 1) f fd ps sp := by
  obtain ⟨oc, od, kV, doc, pm, an, cdv, ct, osl, rfl, lk, hcd⟩ := F.ex
  refine fn_of lk hcd S len fun A outer s H vs Q E hr hsp => ?_
  obtain ⟨t, h, q⟩ := hbody cdv A outer s H vs Q E hr hsp
  exact ⟨t, h.h, q⟩
structure CalleeX (P : Program) (w : World) (K : PySem.W.Frag) (mg : Str → Option Value) (base : Heap) (x : Str) (k : Nat) (ps : List Str) (sp : Sp) : Prop where
  ex : ∃ (f : Addr) (fd : FuncData), FnOk P w K mg base (CXO P w) k f fd ps sp ∧ Binds K fd ps [] ∧ PySem.W.keepIn K (.ref f) = true ∧ mg x = some (.ref f)
end
end L2
set_option Elab.async false
set_option linter.all false
set_option maxRecDepth 100000
set_option maxHeartbeats 4000000
namespace L2
open PySem PySem.Spec PyProof.Rows
section
variable {X : Cx}
theorem call_isexc : CallR X (.builtin "isinstance") (fun xs H Q => ∃ a C D b, xs = [.ref a, .ref D] ∧ H a = some (.ext (XAt a C)) ∧ ExcI X.K C ∧ PySem.W.kitOne X.K (.ref C) (.ref D) = some b ∧ Q (.bl b) H) := by
  rintro pins s σ H xs us Q I r ⟨a, C, D, b, rfl, hx, F, e, q⟩
  obtain ⟨u, w', rfl, ru, rw'⟩ := vals2 r
  cases (show w' = Value.ref D from rw')
  cases (show u = Value.ref a from ru)
  exact PySem.W.kia_one (kitx_exc F) I.kIn (I.hok a _ hx).1 e (fun z => nomatch z) fun tk => ⟨.bl b, H, I.tok tk, rfl, q⟩
end
end L2
set_option Elab.async false
set_option linter.all false
set_option maxRecDepth 100000
set_option maxHeartbeats 4000000
namespace L2
open PySem PySem.Spec PyProof.Rows
structure LamSc (params : Arguments) (body : Expr) (scope : Scope) : Prop where
  kind : scope.kind = .function
  co : scope.isCoroutine = false
  gen : scope.isGenerator = false
  cell : ∀ x ∈ scope.names, x.2 ≠ .cell
  bind : ∀ (name qual : Str) (cl : List (Str × Addr)) (pm ctv : Value) (c' : Addr), bindArgs (PySem.W.kla_fn name qual params body scope cl pm (.ref c') ctv) ⟨[], []⟩ = pure []
structure LamAt (K : PySem.W.Frag) (outer : List Env) (s : Shared) (H : Hp) (f c' : Addr) (name qual : Str) (params : Arguments) (body : Expr) (scope : Scope) (cl : List (Str × Addr)) (pm ctv : Value) (N : List Str) (σl : St) : Prop where
  lam : Lam K H s.heap f name qual params body scope cl pm ctv c' N σl
  free : H f = none ∧ f ∉ frs outer
  code : H c' = some (.ext fun h => h.CodeRec (.ref c') qual)
  cls : ∀ x d, cl.lookup x = some d → d ∉ frs outer
  sc : LamSc params body scope
structure Asker (P : Program) (w : World) (K : PySem.W.Frag) (mg : Str → Option Value) (base : Heap) (y : Str) (k : Nat) (tw : (XK → TE) → St → Hp → VK → Prop) : Prop where
  up : ∀ te te' : XK → TE, (∀ E σ H Q, te E σ H Q → te' E σ H Q) → ∀ σ H Q, tw te σ H Q → tw te' σ H Q
  ex : ∃ fW, PySem.W.keepIn K (.ref fW) = true ∧ mg y = some (.ref fW) ∧ ∀ (A : Around) (outer : List Env) (s : Shared) (H : Hp) (f c' : Addr) (name qual : Str) (params : Arguments) (body : Expr) (scope : Scope) (cl : List (Str × Addr)) (pm ctv : Value) (N : List Str) (σl : St) (te : XK → TE) (Q : VK),
    (∀ E E' σ H Q Q', te E σ H Q → (∀ c x H', E c x H' → E' c x H') → (∀ v H', Q v H' → Q' v H') → te E' σ H Q') → Room (k + 2) A → Env0 P w K mg base A outer s H → LamAt K outer s H f c' name qual params body scope cl pm ctv N σl →
    (∀ (E : XK) (A' : Around) (outer' : List Env) (s1 : Shared), Room k (A'.deeper (PySem.W.envX qual scope s1.heap.objs.size f (.ref c') cl)) → JE (lamCx P w K mg base N qual scope f (.ref c') A' outer' s1 H E cl) body (te E)) → tw te σl H Q →
    codeAny (model P w) A (.call (.ref fW) ⟨[.ref f], []⟩) (CR CX0 outer P w H s Q fun _ _ _ => False) s
structure Tabd (K : PySem.W.Frag) (T : Addr) (qual : Str) (H H' : Hp) : Prop where
  tab : ∃ ps, H' T = some (.tbl ps) ∧ CTab H' ps qual
  keep : ∀ b o, H b = some o → b ≠ T → H' b = some o
  mod : ∀ b xs, H b = none → kTup K b = some xs → H' b = none
end L2
set_option Elab.async false
set_option linter.all false
set_option maxRecDepth 100000
set_option maxHeartbeats 4000000
namespace L2
open PySem PySem.Spec PyProof.Rows HT
section
variable {prog : Program} {w : World} {A : Around} {E : Value → Shared → Prop} {s : Shared}
theorem getItem_tuple_all {t sl : Addr} {items : Array Value} {vl vu : Value} {lo hi : Option Int} {Q : Value → Shared → Prop} (ht : IsTup s.heap t items) (hs : s.heap.IsSliceOf sl vl vu .none) (pl : IsPart vl lo) (pu : IsPart vu hi)
    (hw : sIx items.size 0 lo = 0 ∧ sIx items.size items.size hi = items.size) (h : Q (.ref t) s) : wpAny (model prog w) A (getItem (.ref t) (.ref sl)) Q E s := by
  obtain ⟨os, hos, hcs, hds⟩ := id hs
  have hTs : s.TypeIs (.ref sl) "slice" := ⟨os, hos, hcs⟩
  unfold getItem
  refine wpAny_holding ?_
  first | refine wpAny_bind (wpAny_pure ?_) | skip
  refine wpAny_bind (wpAny_sequenceKey ht.typeIs (by decide) ?_)
  refine wpAny_bind (wpAny_callSpecial?_slot (name := Str.ofString "__getitem__") ht.typeIs PyProof.Rows.slot_tuple_getitem
    (wpAny_call_entry PyProof.Rows.slot_tuple_getitem ht.typeIs entry_tuple_getitem ?_ (args_tuple_getitem _ _)))
  show wpAny _ _ (Builtin.Tuple.tupleItemsOf (.ref t) >>= _) _ _ s
  refine wpAny_bind (tupleItemsOf_ ht ?_)
  refine wpAny_bind (wpAny_typeOf hTs ?_)
  rw [if_pos (by decide)]
  refine wpAny_bind (sliceApplied_gen hs pl pu ?_)
  have hyes : ((((sIx items.size 0 lo : Nat) : Int) == 0 && (1 : Int) == 1 && (sIx items.size items.size hi - sIx items.size 0 lo) == items.size) = true) := by
    rw [hw.1, hw.2]
    simp
  show wpAny _ _ (if (((sIx items.size 0 lo : Nat) : Int) == 0 && (1 : Int) == 1 && (sIx items.size items.size hi - sIx items.size 0 lo) == items.size) = true then _ else _) _ _ s
  rw [if_pos hyes]
  unfold Builtin.Tuple.tupleIsExact
  refine wpAny_bind (wpAny_bind (wpAny_typeOf ht.typeIs (wpAny_pure ?_)))
  rw [if_pos (by decide)]
  exact wpAny_bind (wpAny_rule (wpAny_pure ⟨_, rfl, wpAny_pure h⟩))
end
theorem cxN {CX : CXT} {P : Program} {w : World} {K : PySem.W.Frag} {mg : Str → Option Value} {base : Heap} {N : List Str} {qual : Str} {scope : Scope} {f : Addr} {cd : Value} {A : Around} {outer : List Env} {s : Shared} {H : Hp} {E : XK} : (cxOf CX P w K mg base N qual scope f cd A outer s H E).N = N := rfl
section
variable {X : Cx}
def rSlTW (K : PySem.W.Frag) : V → Option Int → Option Int → Hp → VK → Prop := fun x lo hi H Q => ∃ a xs, x = .ref a ∧ tupQ K H a = some xs ∧
  (if HT.sIx xs.length 0 lo = 0 ∧ HT.sIx xs.length xs.length hi = xs.length then Q (.ref a) H else ∀ p, L2.new K H p → Q (.ref p) (upd H p (.tup (cutV xs lo hi))))
theorem sl_tupW : SlR X (rSlTW X.K) := by
  intro pins s σ H x v vl vu lo hi sl Q I rx hs pl pu h
  obtain ⟨a, xs, rfl, hx, h⟩ := h
  split at h
  · rename_i hw
    cases rx
    obtain ⟨its, r, ht, hz⟩ := I.tuple (tupQ_sq hx)
    have hlen : its.toArray.size = xs.length := by rw [List.size_toArray]; exact r.length.symm
    refine ⟨"tuple", _, PyProof.Rows.slot_tuple_getitem.lookup, ht.typeIs, ?_⟩
    exact getItem_tuple_all ht hs pl pu (by rw [hlen]; exact hw) ⟨.ref a, H, I, rfl, h⟩
  · rename_i hw
    exact sl_tupQ pins s σ H (.ref a) v vl vu lo hi sl Q I rx hs pl pu ⟨a, xs, rfl, hx, hw, h⟩
def rCatTQ (K : PySem.W.Frag) : R2 := fun x y H Q => ∃ a b xs ys, x = .ref a ∧ y = .ref b ∧ tupQ K H a = some xs ∧ tupQ K H b = some ys ∧ xs ≠ [] ∧ xs.length + ys.length ≤ sizeLine ∧
  (if ys = [] then Q (.ref a) H else ∀ p, L2.new K H p → Q (.ref p) (upd H p (.tup (xs ++ ys))))
theorem op_catTQ : OpR X (binaryOp .Add) (rCatTQ X.K) := by
  intro pins s σ H x y v u Q I rx ry h
  obtain ⟨a, b, xs, ys, rfl, rfl, ha, hb, hx, hz, h⟩ := h
  refine thn (op_catT pins s σ H _ _ v u (fun v' H' => (ys = [] ∧ v' = .ref a ∧ H' = H) ∨ (ys ≠ [] ∧ ∃ l, H l = none ∧ v' = .ref l ∧ H' = upd H l (.tup (xs ++ ys)))) I rx ry ⟨a, b, xs, ys, rfl, rfl, tupQ_sq ha, tupQ_sq hb, hx, hz, fun e => .inl ⟨e, rfl, rfl⟩, fun e l hl => .inr ⟨e, l, hl, rfl, rfl⟩⟩) fun u' s' ⟨v', H', I', rv, q⟩ => ?_
  rcases q with ⟨e, rfl, rfl⟩ | ⟨e, l, hl, rfl, rfl⟩
  · rw [if_pos e] at h
    exact ⟨_, _, I', rv, h⟩
  · rw [if_neg e] at h
    exact ⟨_, _, I', rv, h l ⟨hl, I'.notMod upd_same⟩⟩
def rSlTX (K : PySem.W.Frag) : V → Option Int → Option Int → Hp → VK → Prop := fun x lo hi H Q => ∃ a xs, x = .ref a ∧ tupQ K H a = some xs ∧ ∀ q H', tupQ K H' q = some (cutV xs lo hi) → Ext K H H' → Q (.ref q) H'
theorem sl_tupX : SlR X (rSlTX X.K) := by
  intro pins s σ H x v vl vu lo hi sl Q I rx hs pl pu h
  obtain ⟨a, xs, rfl, hx, h⟩ := h
  refine sl_tupW pins s σ H (.ref a) v vl vu lo hi sl Q I rx hs pl pu ⟨a, xs, rfl, hx, ?_⟩
  split
  · rename_i hw
    refine h a H ?_ Ext.refl
    have : cutV xs lo hi = xs := by
      unfold cutV
      rw [hw.1, hw.2]
      simp
    rw [this]
    exact hx
  · exact fun p np => h p _ tupQ_updT (Ext.new np)
def rCatTX (K : PySem.W.Frag) : R2 := fun x y H Q => ∃ a b xs ys, x = .ref a ∧ y = .ref b ∧ tupQ K H a = some xs ∧ tupQ K H b = some ys ∧ xs ≠ [] ∧ xs.length + ys.length ≤ sizeLine ∧ ∀ q H', tupQ K H' q = some (xs ++ ys) → Ext K H H' → Q (.ref q) H'
theorem op_catTX : OpR X (binaryOp .Add) (rCatTX X.K) := by
  intro pins s σ H x y v u Q I rx ry h
  obtain ⟨a, b, xs, ys, rfl, rfl, ha, hb, hx, hz, h⟩ := h
  refine op_catTQ pins s σ H _ _ v u Q I rx ry ⟨a, b, xs, ys, rfl, rfl, ha, hb, hx, hz, ?_⟩
  split
  · rename_i e
    refine h a H ?_ Ext.refl
    rw [e, List.append_nil]
    exact ha
  · exact fun p np => h p _ tupQ_updT (Ext.new np)
theorem call_isexcK (K : PySem.W.Frag) (hk : X.K = K := by rfl) : CallR X (.builtin "isinstance") (fun xs H Q => ∃ a C D b, xs = [.ref a, .ref D] ∧ H a = some (.ext (XAt a C)) ∧ ExcI K C ∧ PySem.W.kitOne K (.ref C) (.ref D) = some b ∧ Q (.bl b) H) := by subst hk; exact call_isexc
end
structure XT (K : PySem.W.Frag) (T : Addr) (q : Str) (H H' : Hp) : Prop where
  was : ∃ ps, H T = some (.tbl ps)
  tab : ∃ ps, H' T = some (.tbl ps) ∧ CTab H' ps q
  keep : ∀ b o, H b = some o → b ≠ T → H' b = some o
  mod : ∀ b xs, H b = none → kTup K b = some xs → H' b = none
section
variable {K : PySem.W.Frag} {T : Addr} {q : Str} {H H1 H2 : Hp}
theorem CTab.ext {ps : Array Value} (h : CTab H ps q) (x : ∀ b o, H b = some o → (∀ ps, o ≠ .tbl ps) → H1 b = some o) : CTab H1 ps q := ⟨h.1, fun p v e => by
  obtain ⟨c, rfl, hc⟩ := h.2 p v e
  exact ⟨c, rfl, x _ _ hc nofun⟩⟩
theorem XT.refl (h : ∃ ps, H T = some (.tbl ps) ∧ CTab H ps q) : XT K T q H H := ⟨let ⟨ps, e, _⟩ := h; ⟨ps, e⟩, h, fun _ _ e _ => e, fun _ _ e _ => e⟩
theorem XT.trans (x : XT K T q H H1) (y : XT K T q H1 H2) : XT K T q H H2 := ⟨x.was, y.tab, fun b o e n => y.keep b o (x.keep b o e n) n, fun b xs e k => y.mod b xs (x.mod b xs e k) k⟩
theorem XT.ext (x : XT K T q H H1) (y : Ext K H1 H2) : XT K T q H H2 := by
  obtain ⟨ps, e, c⟩ := x.tab
  exact ⟨x.was, ⟨ps, y.same _ _ e, c.ext fun b o h _ => y.same b o h⟩, fun b o e n => y.same _ _ (x.keep b o e n), fun b xs e k => y.mod b xs (x.mod b xs e k) k⟩
theorem XT.at (x : XT K T q H H1) {b : Addr} {o : HO} (h : H b = some o) (n : ∀ ps, o ≠ .tbl ps) : H1 b = some o := x.keep b o h fun z => by
  obtain ⟨ps, e⟩ := x.was
  rw [z, e] at h
  cases h
  exact n _ rfl
theorem XT.tup (x : XT K T q H H1) {a : Addr} {vs : List V} (h : tupQ K H a = some vs) : tupQ K H1 a = some vs := by
  unfold tupQ at h ⊢
  split at h
  · next e => rw [x.at e nofun]; exact h
  · cases h
  · next e => rw [x.mod a vs e h]; exact h
end
end L2
set_option Elab.async false
set_option linter.all false
set_option maxRecDepth 100000
set_option maxHeartbeats 4000000
namespace L2
open PySem PySem.Spec PyProof.Rows
section
variable {X : Cx}
end
section
variable {X : Cx}
def rCatTX0 (K : PySem.W.Frag) : R2 := fun x y H Q => ∃ a b xs ys, x = .ref a ∧ y = .ref b ∧ tupQ K H a = some xs ∧ tupQ K H b = some ys ∧ xs.length + ys.length ≤ sizeLine ∧ ∀ q H', tupQ K H' q = some (xs ++ ys) → Ext K H H' → Q (.ref q) H'
theorem op_catTX0 : OpR X (binaryOp .Add) (rCatTX0 X.K) := by
  intro pins s σ H x y v u Q I rx ry h
  obtain ⟨a, b, xs, ys, rfl, rfl, ha, hb, hz, h⟩ := h
  by_cases hx : xs = []
  · subst hx
    cases rx
    cases ry
    obtain ⟨its, r1, p1, _⟩ := I.tuple (tupQ_sq ha)
    obtain ⟨its2, r2, p2, _⟩ := I.tuple (tupQ_sq hb)
    have he : its = [] := by cases r1; rfl
    subst he
    obtain ⟨⟨cls, dd, data, sl⟩, ho, hc, n, hd⟩ := id p1
    obtain ⟨⟨cls2, dd2, data2, sl2⟩, ho2, hc2, n2, hd2⟩ := id p2
    simp only at hc hd hc2 hd2
    subst hc hd hc2 hd2
    exact concat_meets ⟨_, ho, rfl⟩ ⟨_, ho2, rfl⟩ noFill_tuple_add seq_tuple_add PySem.F.slot_tuple_add PySem.F.entry_tuple_add (PySem.F.args_tuple_add_2 _ _)
      (tuple_addW0 a b #[] its2.toArray n n2 dd dd2 sl sl2 rfl) ⟨ho, ho2, ⟨.ref b, H, I, rfl, h b H (by simpa using hb) Ext.refl⟩⟩
  · exact op_catTX pins s σ H _ _ v u Q I rx ry ⟨a, b, xs, ys, rfl, rfl, ha, hb, hx, hz, h⟩
end
mutual
theorem eqv_refl : ∀ (d : PyData), d.canLay0 = true → PyData.eqv d d = true
  | .none, _ => by simp [PyData.eqv]
  | .bool b, _ => by simp [PyData.eqv]
  | .int i, _ => by simp [PyData.eqv]
  | .str x, _ => by simp [PyData.eqv]
  | .list ds, h => by
    simp only [PyData.canLay0] at h
    simp only [PyData.eqv]
    exact eqvAll_refl ds h
  | .tuple ds, h => by
    simp only [PyData.canLay0] at h
    simp only [PyData.eqv]
    exact eqvAll_refl ds h
  | .dict _, h => by simp [PyData.canLay0] at h
theorem eqvAll_refl : ∀ (ds : List PyData), PyData.canLayAll0 ds = true → PyData.eqvAll ds ds = true
  | [], _ => by simp [PyData.eqvAll]
  | d :: ds, h => by
    simp only [PyData.canLayAll0, Bool.and_eq_true] at h
    simp only [PyData.eqvAll, Bool.and_eq_true]
    exact ⟨eqv_refl d h.1, eqvAll_refl ds h.2⟩
end
end L2
set_option Elab.async false
set_option linter.all false
set_option maxRecDepth 100000
set_option maxHeartbeats 4000000
namespace L2
open PySem PySem.Spec PyProof.Rows
section
variable {X : Cx} {o e value : Expr} {f : Str} {pos pos' tpos p : Pos} {ta tv te : TE}
theorem efld (he : JE X e ta) (hb : attributeBase e f X.env (eval e X.env) = eval e X.env := by rfl) : JE X (.Attribute e f pos) (tFld X.K ta f) := ⟨pe_fld he.h hb⟩
theorem sfld (ha : JE X o ta) (hv : JE X value tv) (hs : swapsWith value (some (.Attribute o f pos')) pos.line X.env = pure false := by rfl) : JS X (.Assign [.Attribute o f pos'] value pos) (sFld X.K ta tv f) := ⟨ps_fld ha.h hv.h hs⟩
end
structure FunD (K : PySem.W.Frag) (x qual : Str) (st : Stmt) (f : Addr) (fd : FuncData) : Prop where
  ex : ∃ (oc : Value) (od : Option Addr) (dV kV doc pm : Value) (an : Option Addr) (cdv ct : Value) (osl : Array (Option Value)),
    fd = PySem.W.fnOf x qual (defArgs st) (defBody st) (defScope st) dV kV doc pm an cdv ct ∧ K.lookup f = some ⟨oc, od, .func fd, osl⟩ ∧ PySem.W.codeIn K cdv qual = true
section
variable {P : Program} {w : World} {K : PySem.W.Frag} {mg : Str → Option Value} {base : Heap} {x qual : Str} {st : Stmt} {f : Addr} {fd : FuncData} {N ps : List Str} {k : Nat} {sp : Sp}
theorem fund_mk {oc : Value} {od an : Option Addr} {osl : Array (Option Value)} {dV kV doc pm cdv ct : Value} (l : K.lookup f = some ⟨oc, od, .func (PySem.W.fnOf x qual (defArgs st) (defBody st) (defScope st) dV kV doc pm an cdv ct), osl⟩)
    (c : PySem.W.codeIn K cdv qual = true) : FunD K x qual st f (PySem.W.fnOf x qual (defArgs st) (defBody st) (defScope st) dV kV doc pm an cdv ct) := ⟨oc, od, dV, kV, doc, pm, an, cdv, ct, osl, rfl, l, c⟩
theorem FunD.okX (F : FunD K x qual st f fd) (S : FnScope N ps (defScope st)) (len : ∀ vs H Q E, sp vs H Q E → vs.length = ps.length)
    (hbody : ∀ (cdv : Value) (A : Around) (outer : List Env) (s : Shared) (H : Hp) (vs : List V) (Q : VK) (E : XK), Room k (A.deeper (envOfC qual (defScope st) s.heap.objs.size f cdv)) → sp vs H Q E →
      ∃ t, JB (cxOf (CXO P w) P w K mg base N qual (defScope st) f cdv A outer s H E) (defBody st) t ∧ t { nx := fun _ H' => Q .non H', rt := Q } (start N vs) H) : FnOk P w K mg base (CXO P w) (k + 1) f fd ps sp := by
  obtain ⟨oc, od, dV, kV, doc, pm, an, cdv, ct, osl, rfl, lk, hcd⟩ := F.ex
  refine fn_of lk hcd S len fun A outer s H vs Q E hr hsp => ?_
  obtain ⟨t, h, q⟩ := hbody cdv A outer s H vs Q E hr hsp
  exact ⟨t, h.h, q⟩
end
def tMakeQ (K : PySem.W.Frag) (C : Addr) (sp : Sp) (dvs : List V) (E : XK) (t : TA) : TE := fun σ H Q => t σ H fun vs H1 => ∀ x dx, new K H1 x → new K H1 dx → dx ≠ x →
  sp (.ref x :: (vs ++ dvs)) (upd (upd H1 dx (.own x)) x (.ins C dx [])) (fun v H2 => v = .non ∧ Q (.ref x) H2) E
structure MakerX (P : Program) (w : World) (K : PySem.W.Frag) (mg : Str → Option Value) (base : Heap) (x : Str) (k : Nat) (ps : List Str) (dvs : List V) (C : Addr) (sp : Sp) : Prop where
  ex : ∃ (f : Addr) (fd : FuncData) (ds : List Value), Mk K C f ∧ FnOk P w K mg base (CXO P w) k f fd ps sp ∧ Binds K fd ps ds ∧ Vals dvs ds ∧ mg x = some (.ref C)
section
variable {X : Cx} {CX : CXT} {k : Nat} {f C : Addr} {fd : FuncData} {ps : List Str} {sp : Sp} {dvs : List V} {ds : List Value} {E : XK} {y : Str} {p pos : Pos} {e : Expr} {es : List Expr} {t : TA}
theorem run_makeQ {pins : List (Addr × Obj)} {σ : St} {H : Hp} {s : Shared} {Q : VK} {us : List Value} {vs : List V} (M : Mk X.K C f) (F : FnOk X.prog X.w X.K X.mg X.base CX k f fd ps sp) (hr : Room (k + 1) X.A) (hb : Binds X.K fd ps ds) (hd : Vals dvs ds)
    (hx : Passes CX X E) (I : Inv X pins σ H s) (r : Vals vs us)
    (h : ∀ x dx, new X.K H x → new X.K H dx → dx ≠ x → sp (.ref x :: (vs ++ dvs)) (upd (upd H dx (.own x)) x (.ins C dx [])) (fun v H2 => v = .non ∧ Q (.ref x) H2) E) :
    wpAny (model X.prog X.w) X.A (call (.ref C) us) (EP X pins σ Q) X.xe s := by
  have I2 := Inv.made (C := C) I
  have hq := h (s.heap.objs.size + 1) s.heap.objs.size ⟨I.hok.fresh (Nat.le_succ _), I2.notMod upd_same⟩ I.new (Nat.ne_of_lt (Nat.lt_succ_self _))
  have r2 : Vals (V.ref (s.heap.objs.size + 1) :: (vs ++ dvs)) (Value.ref (s.heap.objs.size + 1) :: (us ++ ds)) := .cons rfl (r.append hd)
  have hl : (Value.ref (s.heap.objs.size + 1) :: us ++ ds).length = ps.length := by
    have e := r2.length
    rw [F.len _ _ _ _ hq] at e
    exact e.symm
  refine wpAny_call (make_map (f := f) I.kIn M.makes M.init (beq_iff_eq.mp M.fn) (codeAny_mono (F.run _ X.stack _ _ ⟨Value.ref (s.heap.objs.size + 1) :: us, []⟩ (Value.ref (s.heap.objs.size + 1) :: (us ++ ds)) _ _ E (hr.make C us [])
    (I2.env0.make C us []) (hb _ (Value.ref (s.heap.objs.size + 1) :: us) I2.kIn hl) r2 hq) fun r s' hq' => ?_))
  cases r with
  | error e => exact hx pins σ _ _ e s' I2 hq'
  | ok fl =>
    cases fl with
    | ret u =>
      obtain ⟨v, H', I3, rv, ev, q3⟩ := I2.after hq'
      subst ev
      exact ⟨rv, ⟨V.ref (s.heap.objs.size + 1), H', I3, rfl, q3⟩⟩
    | next => exact False.elim hq'
    | brk => exact False.elim hq'
    | cont => exact False.elim hq'
theorem emakeX (M : MakerX X.prog X.w X.K X.mg X.base y k ps dvs C sp) (hx : Passes (CXO X.prog X.w) X E) (hr : Room (k + 1) X.A) (hg : Gl X y) (ha : JA X (e :: es) t)
    (hdb : (y == ("__debug__" : Str)) = false := by decide) (he : starEach (e :: es) X.env = (false, eval e X.env) :: starEach es X.env := by rfl) (hpl : (backTo pos (starEach es X.env)).any (·.1) = false := by rfl) :
    JE X (.Call (.Name y p) (e :: es) [] pos) (tMakeQ X.K C sp dvs E t) := ⟨by
  intro pins s σ H Q I h
  obtain ⟨f, fd, ds, M, F, b, vd, mm⟩ := M.ex
  refine wpAny_Call_Name_kw (ld_glob I hg mm ?_ hdb)
  refine PySem.W.callWith_K (h₀ := X.base) I.ok.mod.kin M.kp (thn (ha.h pos pins s σ H _ I h) fun us s1 ⟨vs, H1, I1, r, q⟩ => ⟨I1.kIn, ?_⟩) he hpl
  exact run_makeQ M F hr b vd hx I1 r q⟩
end
theorem Ext.made {K : PySem.W.Frag} {H : Hp} {x dx : Addr} {o o' : HO} (n : L2.new K H x) (m : L2.new K H dx) (ne : dx ≠ x) : Ext K H (upd (upd H dx o') x o) :=
  (Ext.new m).trans (Ext.new (new_upd.mpr ⟨ne.symm, n⟩))
structure KDict (P : Program) (w : World) (K : PySem.W.Frag) (a : Addr) (vs : List (Key × Value)) : Prop where
  of : ∀ h : Heap, K.In h → h.DictOf (mixKind P w) a vs
  ne : (a == sysModules) = false
section
variable {X : Cx} {a : Addr} {vs : List (Key × Value)} {o i : Expr} {to ti : TE} {pos : Pos}
end
section
variable {X : Cx}
end
section
variable {X : Cx}
end
end L2
set_option Elab.async false
set_option linter.all false
set_option maxRecDepth 100000
set_option maxHeartbeats 4000000
namespace HT
open PySem PySem.Spec PyProof.Rows
section
variable {prog : Program} {w : World} {A : Around} {E : Value → Shared → Prop} {s : Shared}
end
end HT
namespace L2
open PySem PySem.Spec PyProof.Rows
section
variable {X : Cx} {e : Expr} {te : TE} {pos : Pos}
end
end L2
set_option Elab.async false
set_option linter.all false
set_option maxRecDepth 100000
set_option maxHeartbeats 4000000
namespace L2
open PySem PySem.Spec PyProof.Rows
structure MethC (P : Program) (w : World) (K : PySem.W.Frag) (mg : Str → Option Value) (base : Heap) (C : Addr) (m : Str) (k : Nat) (ps : List Str) (dvs : List V) (sp : Sp) : Prop where
  ex : ∃ (f : Addr) (fd : FuncData) (ds : List Value), Meth K C m f ∧ FnOk P w K mg base CX0 k f fd ps sp ∧ Binds K fd ps ds ∧ Vals dvs ds
structure MethX (P : Program) (w : World) (K : PySem.W.Frag) (mg : Str → Option Value) (base : Heap) (C : Addr) (m : Str) (k : Nat) (ps : List Str) (dvs : List V) (sp : Sp) : Prop where
  ex : ∃ (f : Addr) (fd : FuncData) (ds : List Value), Meth K C m f ∧ FnOk P w K mg base (CXO P w) k f fd ps sp ∧ Binds K fd ps ds ∧ Vals dvs ds
structure Maker (P : Program) (w : World) (K : PySem.W.Frag) (mg : Str → Option Value) (base : Heap) (x : Str) (k : Nat) (ps : List Str) (dvs : List V) (C : Addr) (sp : Sp) : Prop where
  ex : ∃ (f : Addr) (fd : FuncData) (ds : List Value), Mk K C f ∧ FnOk P w K mg base CX0 k f fd ps sp ∧ Binds K fd ps ds ∧ Vals dvs ds ∧ mg x = some (.ref C)
section
variable {X : Cx} {k : Nat} {C : Addr} {ps : List Str} {sp : Sp} {dvs : List V} {E : XK} {m y : Str} {apos pos p : Pos} {o e value : Expr} {es : List Expr} {t : TA} {ta tv : TE} {pl : Sem Bool}
theorem emeth0 (M : MethC X.prog X.w X.K X.mg X.base C m k ps dvs sp) (c : Cls X.K C) (hr : Room k X.A) (ho : JE X o ta)
    (ht : eval (.Call (.Attribute o m apos) [] [] pos) X.env = (do
      let ov ← eval o X.env
      standAt apos.atName
      let (f, first) ← holding [ov] (getMethod ov m pl)
      callWith pos f first (backTo pos (starEach [] X.env)) (backToKw pos (keywordEach [] X.env))) := by rfl) :
    JE X (.Call (.Attribute o m apos) [] [] pos) (tMeth C m sp dvs E0 ta tNil) := ⟨by
  obtain ⟨f, fd, ds, hm, F, b, vd⟩ := M.ex
  exact pe_meth0 ho.h c hm F hr b vd pass0 ht⟩
theorem emake (M : Maker X.prog X.w X.K X.mg X.base y k ps dvs C sp) (hr : Room (k + 1) X.A) (hg : Gl X y) (ha : JA X (e :: es) t)
    (hdb : (y == ("__debug__" : Str)) = false := by decide) (he : starEach (e :: es) X.env = (false, eval e X.env) :: starEach es X.env := by rfl) (hpl : (backTo pos (starEach es X.env)).any (·.1) = false := by rfl) :
    JE X (.Call (.Name y p) (e :: es) [] pos) (tMakeQ X.K C sp dvs E0 t) := ⟨by
  intro pins s σ H Q I h
  obtain ⟨f, fd, ds, M, F, b, vd, mm⟩ := M.ex
  refine wpAny_Call_Name_kw (ld_glob I hg mm ?_ hdb)
  refine PySem.W.callWith_K (h₀ := X.base) I.ok.mod.kin M.kp (thn (ha.h pos pins s σ H _ I h) fun us s1 ⟨vs, H1, I1, r, q⟩ => ⟨I1.kIn, ?_⟩) he hpl
  exact run_makeQ M F hr b vd pass0 I1 r q⟩
end
section
variable {P : Program} {w : World} {K : PySem.W.Frag} {mg : Str → Option Value} {base : Heap} {x qual : Str} {st : Stmt} {f : Addr} {fd : FuncData} {N ps : List Str} {k : Nat} {sp : Sp}
theorem FunD.okJ (F : FunD K x qual st f fd) (S : FnScope N ps (defScope st)) (len : ∀ vs H Q E, sp vs H Q E → vs.length = ps.length)
    (hbody : ∀ (cdv : Value) (A : Around) (outer : List Env) (s : Shared) (H : Hp) (vs : List V) (Q : VK) (E : XK), Room k (A.deeper (envOfC qual (defScope st) s.heap.objs.size f cdv)) → sp vs H Q E →
      ∃ t, JB (cxOf CX0 P w K mg base N qual (defScope st) f cdv A outer s H E).nox (defBody st) t ∧ t { nx := fun _ H' => Q .non H', rt := Q } (start N vs) H) : FnOk P w K mg base CX0 (k + 1) f fd ps sp := by
  obtain ⟨oc, od, dV, kV, doc, pm, an, cdv, ct, osl, rfl, lk, hcd⟩ := F.ex
  refine fn_of lk hcd S len fun A outer s H vs Q E hr hsp => ?_
  obtain ⟨t, h, q⟩ := hbody cdv A outer s H vs Q E hr hsp
  exact ⟨t, h.h.nox, q⟩
end
section
variable {X : Cx}
theorem call_isinstC : CallR X (.builtin "isinstance") (fun xs H Q => ∃ x C t b, xs = [x, .ref C] ∧ TyOf X.K H x t ∧ PySem.W.kitOne X.K t (.ref C) = some b ∧ Q (.bl b) H) := by
  intro pins s σ H xs us Q I r h
  obtain ⟨x, C, t, b, rfl, ty, e, q⟩ := h
  obtain ⟨u, w', rfl, ru, rw'⟩ := vals2 r
  cases rw'
  exact isinst_ok I ru ty e fun tk => ⟨.bl b, H, I.tok tk, rfl, q⟩
theorem call_lenO {C : Addr} {k : Nat} {ps : List Str} {sp : Sp} (M : MethC X.prog X.w X.K X.mg X.base C "__len__" k ps [] sp) (hr : Room (k + 1) X.A) :
    CallR X (.builtin "len") (fun xs H Q => ∃ a dx fs, xs = [.ref a] ∧ H a = some (.ins C dx fs) ∧ sp [.ref a] H (fun v H' => ∃ n : Int, v = .int n ∧ 0 ≤ n ∧ n < 2 ^ 63 ∧ Q (.int n) H') E0) := by
  intro pins s σ H xs us Q I r h
  obtain ⟨a, dx, fs, rfl, ea, hsp⟩ := h
  obtain ⟨u, rfl, ru⟩ := r.one
  cases (show u = Value.ref a from ru)
  obtain ⟨f, fd, ds, hm, F, b, vd⟩ := M.ex
  cases vd
  obtain ⟨mA, O, _⟩ := ins_get I.hok ea
  obtain ⟨od, J, _⟩ := O.look
  have hl := F.len _ _ _ _ hsp
  refine Calls.call_function_entry PySem.kind_len PySem.plain_len PySem.entry_len (PySem.args_len1 _) ?_
  unfold Builtin.«len»
  refine wpAny_bind (m := oneArg "len" _) (wpAny_pure ?_)
  refine wpAny_bind (m := callSpecial? (.ref a) (Str.ofString "__len__")) (PySem.W.special_fn I.kIn J hm.at_ (beq_iff_eq.mp hm.fn) ?_)
  refine wpAny_call (codeAny_mono (F.run X.A.in1 X.stack s H ⟨[.ref a], []⟩ [.ref a] [.ref a] _ E0 hr.in1 I.env0.in1 (by have := b s [.ref a] I.kIn (by rw [List.append_nil]; exact hl); rwa [List.append_nil] at this) (.cons rfl .nil) hsp) fun r s' hq => ?_)
  cases r with
  | error e => exact pass0 pins σ H s e s' I hq
  | ok fl =>
    cases fl with
    | ret u =>
      obtain ⟨v, H', I', rv, n, rfl, n0, n1, q⟩ := I.after hq
      obtain ⟨t, rfl⟩ := rv
      refine wpAny_bind (wpAny_holding (wpAny_pure ?_))
      refine wpAny_bind (wpAny_letGo ?_)
      show wpAny _ _ (if n < 0 then _ else _) _ _ _
      rw [if_neg (by omega)]
      show wpAny _ _ (if n ≥ 2 ^ 63 then _ else _) _ _ _
      rw [if_neg (by omega)]
      exact wpAny_bind (wpAny_mkInt (wpAny_pure ⟨_, rfl, ⟨.int n, H', I'.tok _, ⟨_, rfl⟩, q⟩⟩))
    | next => exact False.elim hq
    | brk => exact False.elim hq
    | cont => exact False.elim hq
end
end L2
set_option Elab.async false
set_option linter.all false
set_option maxRecDepth 100000
set_option maxHeartbeats 4000000
namespace L2
open PySem PySem.Spec PyProof.Rows
section
variable {X : Cx}
end
section
variable {P : Program} {w : World} {A : Around} {E : Value → Shared → Prop} {s : Shared} {S : Addr} {vs : List (Key × Value)} {ep : Nat}
end
section
variable {X : Cx}
end
end L2
set_option Elab.async false
set_option linter.all false
set_option maxRecDepth 100000
set_option maxHeartbeats 4000000
namespace L2
open PySem PySem.Spec PyProof.Rows
section
variable {X : Cx}
theorem emakeXK {k : Nat} {C : Addr} {ps : List Str} {sp : Sp} {dvs : List V} {E : XK} {y : Str} {pos p : Pos} {e : Expr} {es : List Expr} {t : TA} (K : PySem.W.Frag) (M : MakerX X.prog X.w X.K X.mg X.base y k ps dvs C sp) (hx : Passes (CXO X.prog X.w) X E) (hr : Room (k + 1) X.A) (hg : Gl X y) (ha : JA X (e :: es) t) (hk : X.K = K := by rfl)
    (hdb : (y == ("__debug__" : Str)) = false := by decide) (he : starEach (e :: es) X.env = (false, eval e X.env) :: starEach es X.env := by rfl) (hpl : (backTo pos (starEach es X.env)).any (·.1) = false := by rfl) :
    JE X (.Call (.Name y p) (e :: es) [] pos) (tMakeQ K C sp dvs E t) := by
  subst hk
  exact emakeX M hx hr hg ha hdb he hpl
theorem kbindsK {K : PySem.W.Frag} {fd : FuncData} {ps ks : List Str} {n m : Nat} (hn : ps.length = n + m) (hp : 0 < n + m) (h : ∀ (s : Shared) (us ws : List Value), K.In s.heap → us.length = n → ws.length = m → BindsTo s fd ⟨us, ks.zip ws⟩ (ps.zip (us ++ ws))) : KBinds K fd ps ks (gk n m) (gk n m) where
  to := fun s us ws hK hl => by
    unfold gk at hl ⊢
    split
    · next c => exact h s us ws hK c.1 c.2
    · next c => rw [if_neg c] at hl; simp only [List.length_nil] at hl; omega
  rel := gk_rel
theorem gk_33 {α : Type} {a b c d e f : α} : gk 3 3 [a, b, c] [d, e, f] = [a, b, c, d, e, f] := rfl
end
end L2
set_option Elab.async false
set_option linter.all false
set_option maxRecDepth 100000
set_option maxHeartbeats 4000000
namespace K02
open PySem L2
local macro_rules | `(tactic| walk_at "rd") => `(tactic| simp only [tSeq, tNext, tIfS, tAsg, gName, gSub, tRet, tRetN, tDrop, tVar, tC, tOp, tUn, rI0, rI, rU, tTest, tB, tAndV, tOrV, tNotV, tAnd, tOr, tNot, tIf, tChain, tCB, tCons, tNil, tLst, tTup, tCallC, List.getElem?_cons_zero, List.getElem?_cons_succ, List.set_cons_zero, List.set_cons_succ, Option.some.injEq, V.int.injEq, V.bl.injEq, V.ref.injEq, V.ty.injEq, V.str.injEq, List.cons.injEq, exists_eq_left', exists_eq_left, exists_and_left, and_true, true_and, and_assoc, cxK, rIxF, rSetL, rEq, rNe, scal, HO.lst.injEq, HO.tup.injEq, upd_none, ixN_10, ixN_20, ixN_21, ixN_30, ixN_31, ixN_32, upd_same, seqAt_updL, seqAt_updT, atI_0, atI_1, atI_2, atI_3, decide_eq_true_eq, L2.start, List.map_cons, List.map_nil, List.length_cons, List.length_nil, Nat.reduceAdd, Nat.reduceSub, List.replicate_succ, List.replicate_zero, List.cons_append, List.nil_append, List.append_nil, tFor_rng1, tFor_rng2, tFor_list, tFor_tup, CDv, CMul, CPow, sizeLine_eq, Int.reduceLE, Int.reduceLT, Int.reducePow, Int.reduceToNat, Int.reduceAdd, Int.reduceSub, Int.reduceMul, Int.reduceNeg, Nat.reduceLeDiff, Nat.reducePow, Nat.reduceLT, Int.reduceEq, true_or, or_true, ite_true, ite_false, if_true, if_false, Bool.not_true, Bool.not_false, Bool.false_eq_true, decide_true, decide_false, rIxQ, seqQ_updL, seqQ_updT, tupQ_updT, tSl, tNoPart, tPart, rSlQ, rSlTX, rCatQ, tTupQ, tLstQ, new_upd, tNever, rEqD, rInQ, gTupQ, gCons, gNil, tBM, rAppend, tMakeQ, sFld, tFld, tMeth, tDNewQ, tFor_list, tBM0, rExtend, tLc_list, pick_nil, pick_own, pick_cap, join_some, tYes, tyV, tTry, Ends.gone, tRaise, cxN, tCall, tFor_list, tLc_list, tDc, tyV, tCallKC, gk_33, tNever, rSlQ, rCatTX, rCatTX0])
local macro_rules | `(tactic| walk_at "rn") => `(tactic| simp only [tSeq, tNext, tIfS, tAsg, gName, gSub, tRet, tRetN, tDrop, tVar, tC, tOp, tUn, rI0, rI, rU, tTest, tB, tAndV, tOrV, tNotV, tAnd, tOr, tNot, tIf, tChain, tCB, tCons, tNil, tLst, tTup, tCallC, List.getElem?_cons_zero, List.getElem?_cons_succ, List.set_cons_zero, List.set_cons_succ, Option.some.injEq, V.int.injEq, V.bl.injEq, V.ref.injEq, V.ty.injEq, V.str.injEq, List.cons.injEq, exists_eq_left', exists_eq_left, exists_and_left, and_true, true_and, and_assoc, cxK, rIxF, rSetL, rEq, rNe, scal, HO.lst.injEq, HO.tup.injEq, upd_none, ixN_10, ixN_20, ixN_21, ixN_30, ixN_31, ixN_32, upd_same, seqAt_updL, seqAt_updT, atI_0, atI_1, atI_2, atI_3, decide_eq_true_eq, L2.start, List.map_cons, List.map_nil, List.length_cons, List.length_nil, Nat.reduceAdd, Nat.reduceSub, List.replicate_succ, List.replicate_zero, List.cons_append, List.nil_append, List.append_nil, tFor_rng1, tFor_rng2, tFor_list, tFor_tup, CDv, CMul, CPow, sizeLine_eq, Int.reduceLE, Int.reduceLT, Int.reducePow, Int.reduceToNat, Int.reduceAdd, Int.reduceSub, Int.reduceMul, Int.reduceNeg, Nat.reduceLeDiff, Nat.reducePow, Nat.reduceLT, Int.reduceEq, true_or, or_true, ite_true, ite_false, if_true, if_false, Bool.not_true, Bool.not_false, Bool.false_eq_true, decide_true, decide_false, rIxQ, seqQ_updL, seqQ_updT, tupQ_updT, tSl, tNoPart, tPart, rSlQ, rSlTX, rCatQ, tTupQ, tLstQ, tNever, rEqD, rInQ, gTupQ, gCons, gNil, tBM, rAppend, tMakeQ, sFld, tFld, tMeth, tDNewQ, tFor_list, tBM0, rExtend, tLc_list, pick_nil, pick_own, pick_cap, join_some, tYes, tyV, tTry, Ends.gone, tRaise, cxN, tCall, tFor_list, tLc_list, tDc, tyV, tCallKC, gk_33, tNever, rSlQ, rCatTX, rCatTX0])
def top (i : Nat) : Stmt := PySem.Challenge.pw_notefall_k02_rules.main.body.getD i (.Pass ⟨0, 0, 0, 0⟩)
abbrev s_is_number : Stmt := top 15
abbrev s_is_whole : Stmt := top 16
abbrev s_is_whole_from : Stmt := top 17
abbrev s_is_stretch : Stmt := top 19
abbrev s_check_stretch : Stmt := top 21
abbrev s_is_plan : Stmt := top 22
abbrev s_is_rule : Stmt := top 23
abbrev s_value_of : Stmt := top 32
abbrev s_Leaf___init__ : Stmt := inClass (top 38) 0
abbrev s_House___init__ : Stmt := inClass (top 41) 0
abbrev s_new_house : Stmt := top 42
abbrev s_check_mark : Stmt := top 44
abbrev s_check_many : Stmt := top 45
abbrev s_leaf_table : Stmt := top 49
abbrev s_room_table : Stmt := top 51
abbrev s_pairs : Stmt := top 52
abbrev s_read_stretch : Stmt := top 54
abbrev s_own_step : Stmt := top 57
abbrev s_Store___init__ : Stmt := inClass (top 58) 0
abbrev s_Store_marks : Stmt := inClass (top 58) 4
abbrev s_Store_stretch : Stmt := inClass (top 58) 6
abbrev s_Store___len__ : Stmt := inClass (top 58) 7
abbrev s_Store_steps : Stmt := inClass (top 58) 18
abbrev s__law_cell_at : Stmt := top 60
abbrev s__law_digit : Stmt := top 61
abbrev s__law_good : Stmt := top 62
abbrev s__law_truth : Stmt := top 63
abbrev s__law_between : Stmt := top 64
abbrev s__law_is_rule : Stmt := top 65
abbrev s__law_spoilt : Stmt := top 66
abbrev s__law_stands : Stmt := top 67
abbrev s__law_refused : Stmt := top 68
abbrev s_law : Stmt := top 69
structure XR (K : PySem.W.Frag) (C cF : Addr) : Prop where
  x : Exc K C
  i : ExcI K C
  m : PySem.W.exmOne K (.ref C) (.ref C) = some true
  k0 : PySem.W.kitOne K (.ref C) (.ref cF) = some true
structure B (K : PySem.W.Frag) (mg : Str → Option Value) (cF cR cLeaf aP : Addr) (tE t1 t2 t3 t4 : Tok) : Prop where
  len : mg "len" = none
  isinstance : mg "isinstance" = none
  int : mg "int" = none
  bool : mg "bool" = none
  str : mg "str" = none
  tuple : mg "tuple" = none
  list : mg "list" = none
  range : mg "range" = none
  max : mg "max" = none
  min : mg "min" = none
  sorted : mg "sorted" = none
  END : mg "END" = some (.int 1000000000000 tE)
  MOST_TRAY : mg "MOST_TRAY" = some (.int 64 t1)
  LEAST_FAN : mg "LEAST_FAN" = some (.int 3 t2)
  MOST_FAN : mg "MOST_FAN" = some (.int 16 t3)
  MOST_ROWS : mg "MOST_ROWS" = some (.int 64 t4)
  PLANS : mg "PLANS" = some (.ref aP)
  FallError : mg "FallError" = some (.ref cF)
  NoRule : mg "NoRule" = some (.ref cR)
  Leaf : mg "Leaf" = some (.ref cLeaf)
  kL : PySem.W.kitOne K (.ref cLeaf) (.ref cLeaf) = some true
  lC : PySem.W.findIn K (.ref cLeaf) "__class__" = some (some (.builtin "object.__class__")) ∧ PySem.W.specialIn K (.builtin "object.__class__") "__get__" = some (some (.builtin "getset_descriptor.__get__")) ∧ PySem.W.takesIn K (.builtin "object.__class__") = some true ∧ PySem.W.mroIn K cLeaf (.type "object") = some true
  kP : kTup K aP = some [.str "fullest", .str "eldest"]
  xr : XR K cR cF
section
variable {K : PySem.W.Frag} {mg : Str → Option Value} {cF cR cLeaf aP : Addr} {tE t1 t2 t3 t4 : Tok}
theorem B.END_is (_ : B K mg cF cR cLeaf aP tE t1 t2 t3 t4) : RelV (.int 1000000000000) (.int 1000000000000 tE) := ⟨tE, rfl⟩
theorem B.MOST_TRAY_is (_ : B K mg cF cR cLeaf aP tE t1 t2 t3 t4) : RelV (.int 64) (.int 64 t1) := ⟨t1, rfl⟩
theorem B.LEAST_FAN_is (_ : B K mg cF cR cLeaf aP tE t1 t2 t3 t4) : RelV (.int 3) (.int 3 t2) := ⟨t2, rfl⟩
theorem B.MOST_FAN_is (_ : B K mg cF cR cLeaf aP tE t1 t2 t3 t4) : RelV (.int 16) (.int 16 t3) := ⟨t3, rfl⟩
theorem B.MOST_ROWS_is (_ : B K mg cF cR cLeaf aP tE t1 t2 t3 t4) : RelV (.int 64) (.int 64 t4) := ⟨t4, rfl⟩
theorem B.PLANS_is (_ : B K mg cF cR cLeaf aP tE t1 t2 t3 t4) : RelV (.ref aP) (.ref aP) := rfl
theorem B.FallError_is (_ : B K mg cF cR cLeaf aP tE t1 t2 t3 t4) : RelV (.ref cF) (.ref cF) := rfl
theorem B.Leaf_is (_ : B K mg cF cR cLeaf aP tE t1 t2 t3 t4) : RelV (.ref cLeaf) (.ref cLeaf) := rfl
theorem B.x_NoRule (b : B K mg cF cR cLeaf aP tE t1 t2 t3 t4) : Exc K cR := b.xr.x
end
inductive Th where
  | num (i : Int) | tru (b : Bool) | non | txt (s : Str) | lst | tup
def ThAt (K : PySem.W.Frag) (p : Addr) (H : Hp) : Th → V → Prop
  | .num i, v => v = .int i
  | .tru b, v => v = .bl b
  | .non, v => v = .non
  | .txt s, v => v = .str s
  | .lst, v => ∃ a xs, v = .ref a ∧ a ≠ p ∧ H a = some (.lst xs)
  | .tup, v => ∃ a xs, v = .ref a ∧ tupQ K H a = some xs
def Th.wh (lo hi : Int) : Th → Bool
  | .num i => decide (lo ≤ i ∧ i ≤ hi)
  | _ => false
def Th.plan : Th → Bool
  | .txt s => inV (.str s) [.str "fullest", .str "eldest"]
  | _ => false
inductive Rl where
  | tp (ts : List Th) | no
def Rl.ok : Rl → Bool
  | .tp [a, b, c, d] => a.wh 1 64 && b.wh 3 16 && c.wh 1 64 && d.plan
  | _ => false
section
variable {P : Program} {w : World} {K : PySem.W.Frag} {mg : Str → Option Value} {base : Heap}
def ThsAt (K : PySem.W.Frag) (p : Addr) (H : Hp) : List Th → List V → Prop
  | [], vs => vs = []
  | t :: ts, vs => ∃ v r, vs = v :: r ∧ ThAt K p H t v ∧ ThsAt K p H ts r
def RlAt (K : PySem.W.Frag) (p : Addr) (H : Hp) : Rl → V → Prop
  | .tp ts, v => ∃ a vs, v = .ref a ∧ tupQ K H a = some vs ∧ ThsAt K p H ts vs
  | .no, v => v = .non ∨ (∃ i, v = .int i) ∨ (∃ s, v = .str s) ∨ ∃ a xs, v = .ref a ∧ a ≠ p ∧ H a = some (.lst xs)
def Th.ty : Th → String
  | .num _ => "int" | .tru _ => "bool" | .non => "NoneType" | .txt _ => "str" | .lst => "list" | .tup => "tuple"
theorem ThAt.ty {p : Addr} {H : Hp} {t : Th} {v : V} (h : ThAt K p H t v) : TyQ K H v (.type t.ty) := by
  cases t with
  | num i => cases h; exact .inl (.int i)
  | tru b => cases h; exact .inl (.bl b)
  | non => cases h; exact .inl .non
  | txt s => cases h; exact .inl (.str s)
  | lst => obtain ⟨a, xs, rfl, _, h⟩ := h; exact .inl (.lst h)
  | tup => obtain ⟨a, xs, rfl, h⟩ := h; exact .tup h
theorem ThAt.move {p : Addr} {H H' : Hp} (ht : ∀ a vs, tupQ K H a = some vs → tupQ K H' a = some vs) (hl : ∀ a vs, a ≠ p → H a = some (.lst vs) → H' a = some (.lst vs)) {t : Th} {v : V} (h : ThAt K p H t v) : ThAt K p H' t v := by
  cases t with
  | lst => obtain ⟨a, xs, e, n, h⟩ := h; exact ⟨a, xs, e, n, hl a xs n h⟩
  | tup => obtain ⟨a, xs, e, h⟩ := h; exact ⟨a, xs, e, ht a xs h⟩
  | _ => exact h
theorem ThsAt.move {p : Addr} {H H' : Hp} (ht : ∀ a vs, tupQ K H a = some vs → tupQ K H' a = some vs) (hl : ∀ a vs, a ≠ p → H a = some (.lst vs) → H' a = some (.lst vs)) : ∀ {ts : List Th} {vs : List V}, ThsAt K p H ts vs → ThsAt K p H' ts vs
  | [], _, h => h
  | t :: ts, _, ⟨v, r, e, h1, h2⟩ => ⟨v, r, e, h1.move ht hl, ThsAt.move ht hl h2⟩
theorem RlAt.move {p : Addr} {H H' : Hp} (ht : ∀ a vs, tupQ K H a = some vs → tupQ K H' a = some vs) (hl : ∀ a vs, a ≠ p → H a = some (.lst vs) → H' a = some (.lst vs)) {r : Rl} {v : V} (h : RlAt K p H r v) : RlAt K p H' r v := by
  cases r with
  | tp ts => obtain ⟨a, vs, e, h1, h2⟩ := h; exact ⟨a, vs, e, ht a vs h1, h2.move ht hl⟩
  | no =>
    rcases h with h | h | h | ⟨a, xs, e, n, h⟩
    · exact .inl h
    · exact .inr (.inl h)
    · exact .inr (.inr (.inl h))
    · exact .inr (.inr (.inr ⟨a, xs, e, n, hl a xs n h⟩))
theorem RlAt.ext {p : Addr} {H H' : Hp} {r : Rl} {v : V} (h : RlAt K p H r v) (x : Ext K H H') : RlAt K p H' r v := h.move (fun _ _ e => x.tup e) (fun _ _ _ e => x.same _ _ e)
theorem ThAt.ext {p : Addr} {H H' : Hp} {t : Th} {v : V} (h : ThAt K p H t v) (x : Ext K H H') : ThAt K p H' t v := h.move (fun _ _ e => x.tup e) (fun _ _ _ e => x.same _ _ e)
theorem ThsAt.ext {p : Addr} {H H' : Hp} {ts : List Th} {vs : List V} (h : ThsAt K p H ts vs) (x : Ext K H H') : ThsAt K p H' ts vs := h.move (fun _ _ e => x.tup e) (fun _ _ _ e => x.same _ _ e)
theorem ThsAt.len {p : Addr} {H : Hp} : ∀ {ts : List Th} {vs : List V}, ThsAt K p H ts vs → vs.length = ts.length
  | [], _, h => by cases h; rfl
  | t :: ts, _, ⟨v, r, e, _, h2⟩ => by rw [e, List.length_cons, List.length_cons, ThsAt.len h2]
def spNum (K : PySem.W.Frag) : Sp := fun vs H Q _ => ∃ p t v, vs = [v] ∧ ThAt K p H t v ∧ Q (.bl (match t with | .num _ => true | _ => false)) H
def spWhole (K : PySem.W.Frag) : Sp := fun vs H Q _ => ∃ p t v lo hi, vs = [v, .int lo, .int hi] ∧ ThAt K p H t v ∧ Q (.bl (t.wh lo hi)) H
def spPlan (K : PySem.W.Frag) : Sp := fun vs H Q _ => ∃ p t v, vs = [v] ∧ ThAt K p H t v ∧ Q (.bl t.plan) H
def spRule (K : PySem.W.Frag) : Sp := fun vs H Q _ => ∃ p r v, vs = [v] ∧ RlAt K p H r v ∧ Q (.bl r.ok) H
theorem sc_is_number : FnScope ["thing"] ["thing"] (defScope s_is_number) := ⟨rfl, rfl, rfl, by decide +kernel, rfl, by decide +kernel, by decide +kernel⟩
theorem ok_is_number {f : Addr} {fd : FuncData} (F : Fun K "is_number" "is_number" s_is_number f fd) {cF cR cLeaf aP : Addr} {tE t1 t2 t3 t4 : Tok} (B : B K mg cF cR cLeaf aP tE t1 t2 t3 t4) : FnOk P w K mg base CX0 1 f fd ["thing"] (spNum K) := by
  refine F.okJ sc_is_number (fun vs H Q E h => ?_) (fun cdv A outer s H vs Q E hr h => ?_)
  · obtain ⟨p, t, v, rfl, _⟩ := h
    rfl
  obtain ⟨p, t, v, rfl, ht, q⟩ := h
  refine ⟨_, (bone (sret (eand (ecallB call_isinstQ rfl B.isinstance bt_isinstance (acons (ev 0) (acons (etyp rfl B.int bt_int) anil))) (eone (enot (ecallB call_isinstQ rfl B.isinstance bt_isinstance (acons (ev 0) (acons (etyp rfl B.bool bt_bool) anil)))))))), ?_⟩
  try walk_at "rn"
  have ty := ht.ty
  cases t with
  | num i => exact ⟨_, ty, true, rfl, _, ty, false, rfl, q⟩
  | tru b => exact ⟨_, ty, true, rfl, _, ty, true, rfl, q⟩
  | _ => exact ⟨_, ty, false, rfl, q⟩
theorem sc_is_whole : FnScope ["thing", "low", "high"] ["thing", "low", "high"] (defScope s_is_whole) := ⟨rfl, rfl, rfl, by decide +kernel, rfl, by decide +kernel, by decide +kernel⟩
theorem ok_is_whole {f : Addr} {fd : FuncData} (F : Fun K "is_whole" "is_whole" s_is_whole f fd) {cF cR cLeaf aP : Addr} {tE t1 t2 t3 t4 : Tok} (B : B K mg cF cR cLeaf aP tE t1 t2 t3 t4) (C_is_number : Callee P w K mg base "is_number" 1 ["thing"] (spNum K)) : FnOk P w K mg base CX0 2 f fd ["thing", "low", "high"] (spWhole K) := by
  refine F.okJ sc_is_whole (fun vs H Q E h => ?_) (fun cdv A outer s H vs Q E hr h => ?_)
  · obtain ⟨p, t, v, lo, hi, rfl, _⟩ := h
    rfl
  obtain ⟨p, t, v, lo, hi, rfl, ht, q⟩ := h
  refine ⟨_, (bone (sret (eand (ecall C_is_number (hr.mono (by decide)) rfl (acons (ev 0) anil)) (eone (echain op_le op_le (ev 1) (ev 0) (ev 2)))))), ?_⟩
  try walk_at "rn"
  refine ⟨p, t, v, rfl, ht, ?_⟩
  cases t with
  | num i =>
    cases ht
    refine ⟨true, rfl, ?_⟩
    rw [if_pos rfl]
    refine ⟨i, rfl, ?_⟩
    simp only [Th.wh] at q
    split
    · rename_i c
      simp only [c, true_and] at q
      exact ⟨i, rfl, q⟩
    · rename_i c
      simp only [c, false_and, decide_false] at q
      exact q
  | _ => exact ⟨false, rfl, by rw [if_neg (by decide)]; exact q⟩
theorem sc_is_plan : FnScope ["thing"] ["thing"] (defScope s_is_plan) := ⟨rfl, rfl, rfl, by decide +kernel, rfl, by decide +kernel, by decide +kernel⟩
theorem ok_is_plan {f : Addr} {fd : FuncData} (F : Fun K "is_plan" "is_plan" s_is_plan f fd) {cF cR cLeaf aP : Addr} {tE t1 t2 t3 t4 : Tok} (B : B K mg cF cR cLeaf aP tE t1 t2 t3 t4) : FnOk P w K mg base CX0 1 f fd ["thing"] (spPlan K) := by
  refine F.okM sc_is_plan (fun vs H Q E h => ?_) (fun cdv A outer s H vs Q E hr hm h => ?_)
  · obtain ⟨p, t, v, rfl, _⟩ := h
    rfl
  obtain ⟨p, t, v, rfl, ht, q⟩ := h
  refine ⟨_, (bone (sret (eand (ecallB call_isinstQ rfl B.isinstance bt_isinstance (acons (ev 0) (acons (etyp rfl B.str bt_str) anil))) (eone (ecmp op_inQ (ev 0) (eglob rfl B.PLANS B.PLANS_is) (by with_unfolding_all rfl)))))), ?_⟩
  try walk_at "rn"
  have ty := ht.ty
  cases t with
  | txt x =>
    cases ht
    refine ⟨_, ty, true, rfl, ?_⟩
    rw [if_pos rfl]
    exact ⟨_, seqQ_T (hm.tup B.kP), rfl, rfl, q⟩
  | _ => exact ⟨_, ty, false, rfl, q⟩
theorem ok_four {ts : List Th} (h : ts.length ≠ 4) : (Rl.tp ts).ok = false := by
  rcases ts with _ | ⟨a, _ | ⟨b, _ | ⟨c, _ | ⟨d, _ | ⟨e, ts⟩⟩⟩⟩⟩ <;> first | rfl | exact absurd rfl h
theorem rl_cases {p : Addr} {H : Hp} {r : Rl} {v : V} (h : RlAt K p H r v) : (∃ ty, TyQ K H v (.type ty) ∧ PySem.W.kitOne K (.type ty) (.type "tuple") = some false ∧ r.ok = false) ∨
    (∃ a vs ts, r = .tp ts ∧ v = .ref a ∧ tupQ K H a = some vs ∧ ThsAt K p H ts vs ∧ ts.length ≠ 4) ∨
    ∃ a va vb vc vd ta tb tc td, r = .tp [ta, tb, tc, td] ∧ v = .ref a ∧ tupQ K H a = some [va, vb, vc, vd] ∧ ThAt K p H ta va ∧ ThAt K p H tb vb ∧ ThAt K p H tc vc ∧ ThAt K p H td vd := by
  cases r with
  | no =>
    rcases h with rfl | ⟨i, rfl⟩ | ⟨s, rfl⟩ | ⟨a, xs, rfl, _, h⟩
    · exact .inl ⟨"NoneType", .inl .non, rfl, rfl⟩
    · exact .inl ⟨"int", .inl (.int i), rfl, rfl⟩
    · exact .inl ⟨"str", .inl (.str s), rfl, rfl⟩
    · exact .inl ⟨"list", .inl (.lst h), rfl, rfl⟩
  | tp ts =>
    obtain ⟨a, vs, rfl, ha, hs⟩ := h
    by_cases z : ts.length = 4
    · match ts, z, hs with
      | [ta, tb, tc, td], _, hs =>
        obtain ⟨va, _, rfl, h1, vb, _, rfl, h2, vc, _, rfl, h3, vd, _, rfl, h4, rfl⟩ := hs
        exact .inr (.inr ⟨a, va, vb, vc, vd, ta, tb, tc, td, rfl, rfl, ha, h1, h2, h3, h4⟩)
    · exact .inr (.inl ⟨a, vs, ts, rfl, rfl, ha, hs, z⟩)
theorem sc_is_rule : FnScope ["thing", "tray", "fan", "rows", "plan"] ["thing"] (defScope s_is_rule) := ⟨rfl, rfl, rfl, by decide +kernel, rfl, by decide +kernel, by decide +kernel⟩
theorem ok_is_rule {f : Addr} {fd : FuncData} (F : Fun K "is_rule" "is_rule" s_is_rule f fd) {cF cR cLeaf aP : Addr} {tE t1 t2 t3 t4 : Tok} (B : B K mg cF cR cLeaf aP tE t1 t2 t3 t4) (C_is_whole : Callee P w K mg base "is_whole" 2 ["thing", "low", "high"] (spWhole K)) (C_is_plan : Callee P w K mg base "is_plan" 1 ["thing"] (spPlan K)) : FnOk P w K mg base CX0 3 f fd ["thing"] (spRule K) := by
  refine F.okJ sc_is_rule (fun vs H Q E h => ?_) (fun cdv A outer s H vs Q E hr h => ?_)
  · obtain ⟨p, r, v, rfl, _⟩ := h
    rfl
  obtain ⟨p, r, v, rfl, hv, q⟩ := h
  refine ⟨_, (bcons (sif (tw (wor (tnot (tval (ecallB call_isinstQ rfl B.isinstance bt_isinstance (acons (ev 0) (acons (etyp rfl B.tuple bt_tuple) anil))))) (wor1 (tcmp op_ne (ecallB call_lenQ rfl B.len bt_len (acons (ev 0) anil)) ei (nomark _))))) (bone (sret ebl)) bnil)
      (bcons (sasg (ev 0) (gtupQ (n := 4) rfl (gcons (gname (i := 1) sc_is_rule.nd rfl (Or.inl rfl)) (gcons (gname (i := 2) sc_is_rule.nd rfl (Or.inl rfl)) (gcons (gname (i := 3) sc_is_rule.nd rfl (Or.inl rfl)) (gcons (gname (i := 4) sc_is_rule.nd rfl (Or.inl rfl)) gnil))))))
      (bcons (sif (tw (wor (tnot (tval (ecall C_is_whole (hr.mono (by decide)) rfl (acons (ev 1) (acons ei (acons (eglob rfl B.MOST_TRAY B.MOST_TRAY_is) anil)))))) (wor1 (tnot (tval (ecall C_is_whole (hr.mono (by decide)) rfl (acons (ev 2) (acons (eglob rfl B.LEAST_FAN B.LEAST_FAN_is) (acons (eglob rfl B.MOST_FAN B.MOST_FAN_is) anil))))))))) (bone (sret ebl)) bnil)
      (bone (sret (eand (ecall C_is_whole (hr.mono (by decide)) rfl (acons (ev 3) (acons ei (acons (eglob rfl B.MOST_ROWS B.MOST_ROWS_is) anil)))) (eone (ecall C_is_plan (hr.mono (by decide)) rfl (acons (ev 4) anil))))))))), ?_⟩
  try walk_at "rn"
  rcases rl_cases hv with ⟨ty, nt, hk, e⟩ | ⟨a, vs, ts, rfl, rfl, ha, hs, ne⟩ | ⟨a, va, vb, vc, vd, ta, tb, tc, td, rfl, rfl, ha, h1, h2, h3, h4⟩
  · refine ⟨_, nt, false, hk, ?_⟩
    rw [e] at q
    exact q
  · refine ⟨_, .tup ha, true, rfl, ?_⟩
    rw [if_neg (by decide)]
    refine ⟨a, rfl, vs, seqQ_T ha, ?_⟩
    rw [if_pos (by rw [hs.len]; simp only [Bool.not_eq_true', decide_eq_false_iff_not]; omega)]
    rw [ok_four ne] at q
    exact q
  · refine ⟨_, .tup ha, true, rfl, ?_⟩
    rw [if_neg (by decide)]
    refine ⟨a, rfl, _, seqQ_T ha, ?_⟩
    rw [if_neg (by simp)]
    refine ⟨a, rfl, _, ha, rfl, _, _, rfl, _, _, rfl, _, _, rfl, _, _, rfl, rfl, p, ta, va, _, _, rfl, h1, _, rfl, ?_⟩
    simp only [Rl.ok] at q
    cases c1 : ta.wh 1 64 with
    | false =>
      rw [c1] at q
      rw [if_pos (by decide)]
      exact q
    | true =>
      rw [c1] at q
      rw [if_neg (by decide)]
      refine ⟨p, tb, vb, _, _, rfl, h2, _, rfl, ?_⟩
      cases c2 : tb.wh 3 16 with
      | false =>
        rw [c2] at q
        rw [if_pos (by decide)]
        exact q
      | true =>
        rw [c2] at q
        rw [if_neg (by decide)]
        refine ⟨p, tc, vc, _, _, rfl, h3, _, rfl, ?_⟩
        cases c3 : tc.wh 1 64 with
        | false =>
          rw [c3] at q
          rw [if_neg (by decide)]
          exact q
        | true =>
          rw [c3] at q
          rw [if_pos rfl]
          exact ⟨p, td, vd, rfl, h4, q⟩
end
section
variable {P : Program} {w : World} {K : PySem.W.Frag} {mg : Str → Option Value} {base : Heap}
def spInitLeaf (K : PySem.W.Frag) (C : Addr) : Sp := fun vs H Q _ => ∃ x dx v1 v2, vs = [.ref x, v1, v2] ∧ H x = some (.ins C dx []) ∧ Q .non (upd H x (.ins C dx [(("number" : Str), v1), (("rows" : Str), v2)]))
theorem two {a b : V} : putF "rows" b (putF "number" a []) = [(("number" : Str), a), (("rows" : Str), b)] := by
  have k1 : ¬ (("number" : Str) = "rows") := by decide +kernel
  simp only [putF, k1, if_false]
theorem sc_Leaf___init__ : FnScope ["self", "number", "rows"] ["self", "number", "rows"] (defScope s_Leaf___init__) := ⟨rfl, rfl, rfl, by decide +kernel, rfl, by decide +kernel, by decide +kernel⟩
theorem ok_Leaf___init__ {f : Addr} {fd : FuncData} (F : Fun K "__init__" "Leaf.__init__" s_Leaf___init__ f fd) {cF cR cLeaf aP : Addr} {tE t1 t2 t3 t4 : Tok} (B : B K mg cF cR cLeaf aP tE t1 t2 t3 t4) (c_Leaf : Cls K cLeaf) (n_number : NoAttr K cLeaf "number") (n_rows : NoAttr K cLeaf "rows") : FnOk P w K mg base CX0 1 f fd ["self", "number", "rows"] (spInitLeaf K cLeaf) := by
  refine F.okJ sc_Leaf___init__ (fun vs H Q E h => ?_) (fun cdv A outer s H vs Q E hr h => ?_)
  · obtain ⟨x, dx, v1, v2, rfl, _⟩ := h
    rfl
  obtain ⟨x, dx, v1, v2, rfl, hx, q⟩ := h
  refine ⟨_, (bcons (sfld (ev 0) (ev 1))
      (bone (sfld (ev 0) (ev 2)))), ?_⟩
  try walk_at "rn"
  refine ⟨_, _, _, hx, c_Leaf, n_number, by decide, _, _, _, rfl, c_Leaf, n_rows, by have := length_putF "number" v1 []; simp only [List.length_nil] at this; omega, ?_⟩
  rw [upd_upd, two]
  exact q
def fsH (v : V) (k lf t : Addr) : List (Str × V) := [(("rule" : Str), v), (("kept" : Str), .ref k), (("fresh" : Str), .int 1), (("top" : Str), .ref lf), (("trail" : Str), .ref t)]
theorem fsH_put {v : V} {k lf t : Addr} : putF "trail" (.ref t) (putF "top" (.ref lf) (putF "fresh" (.int 1) (putF "kept" (.ref k) (putF "rule" v [])))) = fsH v k lf t := by
  have k1 : ¬ (("rule" : Str) = "kept") := by decide +kernel
  have k2 : ¬ (("rule" : Str) = "fresh") := by decide +kernel
  have k3 : ¬ (("kept" : Str) = "fresh") := by decide +kernel
  have k4 : ¬ (("rule" : Str) = "top") := by decide +kernel
  have k5 : ¬ (("kept" : Str) = "top") := by decide +kernel
  have k6 : ¬ (("fresh" : Str) = "top") := by decide +kernel
  have k7 : ¬ (("rule" : Str) = "trail") := by decide +kernel
  have k8 : ¬ (("kept" : Str) = "trail") := by decide +kernel
  have k9 : ¬ (("fresh" : Str) = "trail") := by decide +kernel
  have k0 : ¬ (("top" : Str) = "trail") := by decide +kernel
  simp only [putF, k1, k2, k3, k4, k5, k6, k7, k8, k9, k0, if_false, fsH]
def spInitHouse (K : PySem.W.Frag) (C : Addr) : Sp := fun vs H Q _ => ∃ x dx v k lf, vs = [.ref x, v, .ref k, .int 1, .ref lf] ∧ H x = some (.ins C dx []) ∧ ∀ t H', new K H t → H' t = some (.lst []) → H' x = some (.ins C dx (fsH v k lf t)) → Kp K x H H' → Q .non H'
theorem sc_House___init__ : FnScope ["self", "rule", "kept", "fresh", "top"] ["self", "rule", "kept", "fresh", "top"] (defScope s_House___init__) := ⟨rfl, rfl, rfl, by decide +kernel, rfl, by decide +kernel, by decide +kernel⟩
theorem ok_House___init__ {f cHouse : Addr} {fd : FuncData} (F : Fun K "__init__" "House.__init__" s_House___init__ f fd) {cF cR cLeaf aP : Addr} {tE t1 t2 t3 t4 : Tok} (B : B K mg cF cR cLeaf aP tE t1 t2 t3 t4) (c_House : Cls K cHouse) (n_rule : NoAttr K cHouse "rule") (n_kept : NoAttr K cHouse "kept") (n_fresh : NoAttr K cHouse "fresh") (n_top : NoAttr K cHouse "top") (n_trail : NoAttr K cHouse "trail") : FnOk P w K mg base CX0 1 f fd ["self", "rule", "kept", "fresh", "top"] (spInitHouse K cHouse) := by
  refine F.okJ sc_House___init__ (fun vs H Q E h => ?_) (fun cdv A outer s H vs Q E hr h => ?_)
  · obtain ⟨x, dx, v, k, lf, rfl, _⟩ := h
    rfl
  obtain ⟨x, dx, v, k, lf, rfl, hx, q⟩ := h
  refine ⟨_, (bcons (sfld (ev 0) (ev 1))
      (bcons (sfld (ev 0) (ev 2))
      (bcons (sfld (ev 0) (ev 3))
      (bcons (sfld (ev 0) (ev 4))
      (bone (sfld (ev 0) (elstQ anil))))))), ?_⟩
  try walk_at "rn"
  have lp : ∀ (f : Str) (y : V) (fs : List (Str × V)) (n : Nat), fs.length ≤ n → (putF f y fs).length ≤ n + 1 := fun f y fs n h => by
    have := length_putF f y fs
    omega
  refine ⟨_, _, _, hx, c_House, n_rule, by decide, _, _, _, rfl, c_House, n_kept, Nat.lt_of_le_of_lt (lp _ _ [] 0 (Nat.le_refl _)) (by decide), _, _, _, rfl, c_House, n_fresh, Nat.lt_of_le_of_lt (lp _ _ _ 1 (lp _ _ [] 0 (Nat.le_refl _))) (by decide), _, _, _, rfl, c_House, n_top, Nat.lt_of_le_of_lt (lp _ _ _ 2 (lp _ _ _ 1 (lp _ _ [] 0 (Nat.le_refl _)))) (by decide), fun t nt => ?_⟩
  simp only [upd_upd] at nt ⊢
  obtain ⟨tx, nt⟩ := new_upd.1 nt
  refine ⟨_, _, _, by rw [upd_ne (Ne.symm tx), upd_same], c_House, n_trail, Nat.lt_of_le_of_lt (lp _ _ _ 3 (lp _ _ _ 2 (lp _ _ _ 1 (lp _ _ [] 0 (Nat.le_refl _))))) (by decide), ?_⟩
  rw [fsH_put]
  refine q t _ nt (by rw [upd_ne tx, upd_same]) upd_same ⟨fun r o e n => ?_, fun b ys e m => ?_⟩
  · rw [upd_ne n, upd_ne (ne_of_none e nt.1), upd_ne n]
    exact e
  · have bx : b ≠ x := fun z => by rw [z, hx] at e; cases e
    have bt : b ≠ t := fun z => by rw [z, nt.2] at m; cases m
    rw [upd_ne bx, upd_ne bt, upd_ne bx]
    exact e
theorem Kp.made {H H' : Hp} {C x dx : Addr} (nx : new K H x) (ndx : new K H dx) (ne : dx ≠ x) (kp : Kp K x (upd (upd H dx (.own x)) x (.ins C dx [])) H') : Ext K H H' := by
  have x1 := Ext.made (K := K) (o := .ins C dx []) (o' := .own x) nx ndx ne
  exact ⟨fun q o e => kp.keep q o (x1.same q o e) (ne_of_none e nx.1), fun a xs e m => kp.mod a xs (x1.mod a xs e m) m⟩
theorem new_back {H H1 : Hp} {v : Addr} (x : Ext K H H1) (n : new K H1 v) : new K H v := by
  refine ⟨?_, n.2⟩
  have h1 := n.1
  cases e : H v with
  | none => rfl
  | some o =>
    rw [x.same v o e] at h1
    cases h1
structure HsAt (K : PySem.W.Frag) (H : Hp) (cHouse cLeaf h dh k lf dl r t : Addr) (v : V) : Prop where
  ins : H h = some (.ins cHouse dh (fsH v k lf t))
  kept : H k = some (.lst [])
  leaf : H lf = some (.ins cLeaf dl [(("number" : Str), .int 0), (("rows" : Str), .ref r)])
  rows : H r = some (.lst [])
  trail : H t = some (.lst [])
theorem HsAt.ext {H H' : Hp} {cHouse cLeaf h dh k lf dl r t : Addr} {v : V} (a : HsAt K H cHouse cLeaf h dh k lf dl r t v) (x : Ext K H H') : HsAt K H' cHouse cLeaf h dh k lf dl r t v :=
  ⟨x.same _ _ a.ins, x.same _ _ a.kept, x.same _ _ a.leaf, x.same _ _ a.rows, x.same _ _ a.trail⟩
def spNewHouse (K : PySem.W.Frag) (cHouse cLeaf : Addr) : Sp := fun vs H Q _ => ∃ v, vs = [v] ∧ ∀ h dh k lf dl r t H', (∀ y ∈ [h, k, lf, r, t], new K H y) → HsAt K H' cHouse cLeaf h dh k lf dl r t v → Ext K H H' → Q (.ref h) H'
theorem sc_new_house : FnScope ["rule"] ["rule"] (defScope s_new_house) := ⟨rfl, rfl, rfl, by decide +kernel, rfl, by decide +kernel, by decide +kernel⟩
theorem ok_new_house {f cHouse : Addr} {fd : FuncData} (F : Fun K "new_house" "new_house" s_new_house f fd) {cF cR cLeaf aP : Addr} {tE t1 t2 t3 t4 : Tok} (B : B K mg cF cR cLeaf aP tE t1 t2 t3 t4) (M_House : Maker P w K mg base "House" 1 ["self", "rule", "kept", "fresh", "top"] [] cHouse (spInitHouse K cHouse)) (M_Leaf : Maker P w K mg base "Leaf" 1 ["self", "number", "rows"] [] cLeaf (spInitLeaf K cLeaf)) : FnOk P w K mg base CX0 3 f fd ["rule"] (spNewHouse K cHouse cLeaf) := by
  refine F.okJ sc_new_house (fun vs H Q E h => ?_) (fun cdv A outer s H vs Q E hr h => ?_)
  · obtain ⟨v, rfl, _⟩ := h
    rfl
  obtain ⟨v, rfl, q⟩ := h
  refine ⟨_, (bone (sret (emake M_House (hr.mono (by decide)) rfl (acons (ev 0) (acons (elstQ anil) (acons ei (acons (emake M_Leaf (hr.mono (by decide)) rfl (acons ei (acons (elstQ anil) anil))) anil))))))), ?_⟩
  try walk_at "rn"
  intro k nk r nr lf dl nlf ndl nel
  refine ⟨lf, dl, _, _, rfl, upd_same, rfl, ?_⟩
  rw [upd_upd]
  have w2 := Ext.made (K := K) (o := .ins cLeaf dl [(("number" : Str), .int 0), (("rows" : Str), .ref r)]) (o' := .own lf) nlf ndl nel
  have zr := w2.same _ _ (upd_same (a := r))
  have w1 := (Ext.new nr).trans w2
  have zk := w1.same _ _ (upd_same (a := k))
  have x2 := (Ext.new nk).trans w1
  have zlf : (upd (upd (upd (upd H k (.lst [])) r (.lst [])) dl (.own lf)) lf (.ins cLeaf dl [(("number" : Str), .int 0), (("rows" : Str), .ref r)])) lf = some (.ins cLeaf dl [(("number" : Str), .int 0), (("rows" : Str), .ref r)]) := upd_same
  generalize (upd (upd (upd (upd H k (.lst [])) r (.lst [])) dl (.own lf)) lf (.ins cLeaf dl [(("number" : Str), .int 0), (("rows" : Str), .ref r)])) = H2 at zr zk x2 zlf
  intro h dh nh ndh neh
  refine ⟨h, dh, v, k, lf, rfl, upd_same, fun t H3 nt zt zh kp => ⟨rfl, ?_⟩⟩
  have x3 := Kp.made nh ndh neh kp
  have a1 : new K H r := new_back (.new nk) nr
  have a2 : new K H lf := new_back ((Ext.new nk).trans (.new nr)) nlf
  have a3 : new K H h := new_back x2 nh
  have a4 : new K H t := new_back (x2.trans (Ext.made nh ndh neh)) nt
  have nw : ∀ y ∈ [h, k, lf, r, t], new K H y := by
    intro y hy
    simp only [List.mem_cons, List.not_mem_nil, or_false] at hy
    rcases hy with rfl | rfl | rfl | rfl | rfl <;> assumption
  exact q h dh k lf dl r t H3 nw ⟨zh, x3.same _ _ zk, x3.same _ _ zlf, x3.same _ _ zr, zt⟩ (x2.trans x3)
def fsS (v : V) (h : Addr) : List (Str × V) := [(("rule" : Str), v), (("last" : Str), .int 0), (("house" : Str), .ref h), (("runs" : Str), .int 0)]
theorem fsS_put {v : V} {h : Addr} : putF "runs" (.int 0) (putF "house" (.ref h) (putF "last" (.int 0) (putF "rule" v []))) = fsS v h := by
  have k1 : ¬ (("rule" : Str) = "last") := by decide +kernel
  have k2 : ¬ (("rule" : Str) = "house") := by decide +kernel
  have k3 : ¬ (("last" : Str) = "house") := by decide +kernel
  have k4 : ¬ (("rule" : Str) = "runs") := by decide +kernel
  have k5 : ¬ (("last" : Str) = "runs") := by decide +kernel
  have k6 : ¬ (("house" : Str) = "runs") := by decide +kernel
  simp only [putF, k1, k2, k3, k4, k5, k6, if_false, fsS]
structure StAt (K : PySem.W.Frag) (H : Hp) (cStore cHouse cLeaf x dx h dh k lf dl r t : Addr) (v : V) : Prop where
  ins : H x = some (.ins cStore dx (fsS v h))
  hs : HsAt K H cHouse cLeaf h dh k lf dl r t v
theorem StAt.ext {H H' : Hp} {cStore cHouse cLeaf x dx h dh k lf dl r t : Addr} {v : V} (a : StAt K H cStore cHouse cLeaf x dx h dh k lf dl r t v) (y : Ext K H H') : StAt K H' cStore cHouse cLeaf x dx h dh k lf dl r t v :=
  ⟨y.same _ _ a.ins, a.hs.ext y⟩
def spInitStore (K : PySem.W.Frag) (cStore cHouse cLeaf : Addr) : Sp := fun vs H Q _ => ∃ p x dx rl v, vs = [.ref x, v] ∧ H x = some (.ins cStore dx []) ∧ RlAt K p H rl v ∧ rl.ok = true ∧
  ∀ h dh k lf dl r t H', StAt K H' cStore cHouse cLeaf x dx h dh k lf dl r t v → Kp K x H H' → Q .non H'
def spInitStoreX (K : PySem.W.Frag) (cStore cR : Addr) : Sp := fun vs H _ E => ∃ p x dx rl v, vs = [.ref x, v] ∧ H x = some (.ins cStore dx []) ∧ RlAt K p H rl v ∧ rl.ok = false ∧ E (.ref cR) none H
theorem sc_Store___init__ : FnScope ["self", "rule"] ["self", "rule"] (defScope s_Store___init__) := ⟨rfl, rfl, rfl, by decide +kernel, rfl, by decide +kernel, by decide +kernel⟩
theorem ok_Store___init__ {f cStore cHouse : Addr} {fd : FuncData} (F : Fun K "__init__" "Store.__init__" s_Store___init__ f fd) {cF cR cLeaf aP : Addr} {tE t1 t2 t3 t4 : Tok} (B : B K mg cF cR cLeaf aP tE t1 t2 t3 t4) (C_is_rule : Callee P w K mg base "is_rule" 3 ["thing"] (spRule K)) (C_new_house : Callee P w K mg base "new_house" 3 ["rule"] (spNewHouse K cHouse cLeaf)) (c_Store : Cls K cStore) (n_rule : NoAttr K cStore "rule") (n_last : NoAttr K cStore "last") (n_house : NoAttr K cStore "house") (n_runs : NoAttr K cStore "runs") : FnOk P w K mg base CX0 4 f fd ["self", "rule"] (spInitStore K cStore cHouse cLeaf) := by
  refine F.okJ sc_Store___init__ (fun vs H Q E h => ?_) (fun cdv A outer s H vs Q E hr h => ?_)
  · obtain ⟨p, x, dx, rl, v, rfl, _⟩ := h
    rfl
  obtain ⟨p, x, dx, rl, v, rfl, hx, hv, ok, q⟩ := h
  refine ⟨_, (bcons (sif (tnot (tval (ecall C_is_rule (hr.mono (by decide)) rfl (acons (ev 1) anil)))) (bone snever) bnil)
      (bcons (sfld (ev 0) (ev 1))
      (bcons (sfld (ev 0) ei)
      (bcons (sfld (ev 0) (ecall C_new_house (hr.mono (by decide)) rfl (acons (ev 1) anil)))
      (bone (sfld (ev 0) ei)))))), ?_⟩
  try walk_at "rn"
  refine ⟨p, rl, v, rfl, hv, _, rfl, ?_⟩
  rw [ok, if_neg (by decide)]
  have lp : ∀ (f : Str) (y : V) (fs : List (Str × V)) (n : Nat), fs.length ≤ n → (putF f y fs).length ≤ n + 1 := fun f y fs n h => by
    have := length_putF f y fs
    omega
  refine ⟨_, _, _, hx, c_Store, n_rule, by decide, _, _, _, rfl, c_Store, n_last, Nat.lt_of_le_of_lt (lp _ _ [] 0 (Nat.le_refl _)) (by decide), ?_⟩
  rw [upd_upd]
  refine ⟨v, rfl, fun h dh k lf dl r t H2 nw hs x2 => ?_⟩
  have zx := x2.same _ _ (upd_same (a := x))
  refine ⟨_, _, _, zx, c_Store, n_house, Nat.lt_of_le_of_lt (lp _ _ _ 1 (lp _ _ [] 0 (Nat.le_refl _))) (by decide), _, _, _, rfl, c_Store, n_runs, Nat.lt_of_le_of_lt (lp _ _ _ 2 (lp _ _ _ 1 (lp _ _ [] 0 (Nat.le_refl _)))) (by decide), ?_⟩
  rw [upd_upd, fsS_put]
  have nx : ∀ y ∈ [h, k, lf, r, t], y ≠ x := fun y hy z => by
    have e := (nw y hy).1
    rw [z, upd_same] at e
    cases e
  refine q h dh k lf dl r t _ ⟨upd_same, ⟨?_, ?_, ?_, ?_, ?_⟩⟩ ⟨fun y o e n => ?_, fun b ys e m => ?_⟩
  · rw [upd_ne (nx h (by simp))]; exact hs.ins
  · rw [upd_ne (nx k (by simp))]; exact hs.kept
  · rw [upd_ne (nx lf (by simp))]; exact hs.leaf
  · rw [upd_ne (nx r (by simp))]; exact hs.rows
  · rw [upd_ne (nx t (by simp))]; exact hs.trail
  · rw [upd_ne n]
    exact x2.same _ _ (by rw [upd_ne n]; exact e)
  · have bx : b ≠ x := fun z => by rw [z, hx] at e; cases e
    rw [upd_ne bx]
    exact x2.mod b ys (by rw [upd_ne bx]; exact e) m
theorem okx_Store___init__ {f cStore cHouse : Addr} {fd : FuncData} (F : Fun K "__init__" "Store.__init__" s_Store___init__ f fd) {cF cR cLeaf aP : Addr} {tE t1 t2 t3 t4 : Tok} (B : B K mg cF cR cLeaf aP tE t1 t2 t3 t4) (C_is_rule : Callee P w K mg base "is_rule" 3 ["thing"] (spRule K)) (C_new_house : Callee P w K mg base "new_house" 3 ["rule"] (spNewHouse K cHouse cLeaf)) (c_Store : Cls K cStore) (n_rule : NoAttr K cStore "rule") (n_last : NoAttr K cStore "last") (n_house : NoAttr K cStore "house") (n_runs : NoAttr K cStore "runs") : FnOk P w K mg base (CXO P w) 4 f fd ["self", "rule"] (spInitStoreX K cStore cR) := by
  refine F.okX sc_Store___init__ (fun vs H Q E h => ?_) (fun cdv A outer s H vs Q E hr h => ?_)
  · obtain ⟨p, x, dx, rl, v, rfl, _⟩ := h
    rfl
  obtain ⟨p, x, dx, rl, v, rfl, hx, hv, ok, q⟩ := h
  refine ⟨_, (bcons (sif (tnot (tval (ecall C_is_rule (hr.mono (by decide)) rfl (acons (ev 1) anil)))) (bone (sraise B.x_NoRule B.NoRule hr.hd rfl)) bnil)
      (bcons (sfld (ev 0) (ev 1))
      (bcons (sfld (ev 0) ei)
      (bcons (sfld (ev 0) (ecall C_new_house (hr.mono (by decide)) rfl (acons (ev 1) anil)))
      (bone (sfld (ev 0) ei)))))), ?_⟩
  try walk_at "rn"
  refine ⟨p, rl, v, rfl, hv, _, rfl, ?_⟩
  rw [ok, if_pos (by decide)]
  exact q
end
section
variable {P : Program} {w : World} {K : PySem.W.Frag} {mg : Str → Option Value} {base : Heap}
def spNo : Sp := fun _ _ _ _ => False
theorem fn_no {k : Nat} {f : Addr} {fd : FuncData} {ps : List Str} {CX : CXT} : FnOk P w K mg base CX k f fd ps spNo :=
  ⟨fun _ _ _ _ h => h.elim, fun _ _ _ _ _ _ _ _ _ _ _ _ _ h => h.elim⟩
theorem ok_is_whole_from {f : Addr} {fd : FuncData} (F : Fun K "is_whole_from" "is_whole_from" s_is_whole_from f fd) {cF cR cLeaf aP : Addr} {tE t1 t2 t3 t4 : Tok} (B : B K mg cF cR cLeaf aP tE t1 t2 t3 t4) : FnOk P w K mg base CX0 2 f fd ["thing", "low"] spNo := fn_no
theorem ok_value_of {f : Addr} {fd : FuncData} (F : Fun K "value_of" "value_of" s_value_of f fd) {cF cR cLeaf aP : Addr} {tE t1 t2 t3 t4 : Tok} (B : B K mg cF cR cLeaf aP tE t1 t2 t3 t4) : FnOk P w K mg base CX0 1 f fd ["versions", "at"] spNo := fn_no
theorem ok_own_step {f : Addr} {fd : FuncData} (F : Fun K "own_step" "own_step" s_own_step f fd) {cF cR cLeaf aP : Addr} {tE t1 t2 t3 t4 : Tok} (B : B K mg cF cR cLeaf aP tE t1 t2 t3 t4) : FnOk P w K mg base CX0 1 f fd ["step"] spNo := fn_no
def spSt0 : Sp := fun vs H Q _ => vs = [.int 0, .int 1000000000000] ∧ Q (.bl true) H
theorem sc_is_stretch : FnScope ["low", "high"] ["low", "high"] (defScope s_is_stretch) := ⟨rfl, rfl, rfl, by decide +kernel, rfl, by decide +kernel, by decide +kernel⟩
theorem ok_is_stretch {f : Addr} {fd : FuncData} (F : Fun K "is_stretch" "is_stretch" s_is_stretch f fd) {cF cR cLeaf aP : Addr} {tE t1 t2 t3 t4 : Tok} (B : B K mg cF cR cLeaf aP tE t1 t2 t3 t4) (C_is_whole : Callee P w K mg base "is_whole" 2 ["thing", "low", "high"] (spWhole K)) : FnOk P w K mg base CX0 3 f fd ["low", "high"] spSt0 := by
  refine F.okJ sc_is_stretch (fun vs H Q E h => ?_) (fun cdv A outer s H vs Q E hr h => ?_)
  · obtain ⟨rfl, _⟩ := h
    rfl
  obtain ⟨rfl, q⟩ := h
  refine ⟨_, (bone (sret (eand (ecall C_is_whole (hr.mono (by decide)) rfl (acons (ev 0) (acons ei (acons (eglob rfl B.END B.END_is) anil)))) (eand (ecall C_is_whole (hr.mono (by decide)) rfl (acons (ev 1) (acons ei (acons (eglob rfl B.END B.END_is) anil)))) (eone (ecmp op_lt (ev 0) (ev 1) (nomark _))))))), ?_⟩
  try walk_at "rn"
  refine ⟨0, .num 0, _, _, _, rfl, rfl, _, rfl, ?_⟩
  rw [if_pos (by decide)]
  refine ⟨0, .num 1000000000000, _, _, _, rfl, rfl, _, rfl, ?_⟩
  rw [if_pos (by decide)]
  exact q
def spCk0 : Sp := fun vs H Q _ => vs = [.int 0, .int 1000000000000] ∧ Q .non H
theorem sc_check_stretch : FnScope ["low", "high"] ["low", "high"] (defScope s_check_stretch) := ⟨rfl, rfl, rfl, by decide +kernel, rfl, by decide +kernel, by decide +kernel⟩
theorem ok_check_stretch {f : Addr} {fd : FuncData} (F : Fun K "check_stretch" "check_stretch" s_check_stretch f fd) {cF cR cLeaf aP : Addr} {tE t1 t2 t3 t4 : Tok} (B : B K mg cF cR cLeaf aP tE t1 t2 t3 t4) (C_is_stretch : Callee P w K mg base "is_stretch" 3 ["low", "high"] spSt0) : FnOk P w K mg base CX0 4 f fd ["low", "high"] spCk0 := by
  refine F.okJ sc_check_stretch (fun vs H Q E h => ?_) (fun cdv A outer s H vs Q E hr h => ?_)
  · obtain ⟨rfl, _⟩ := h
    rfl
  obtain ⟨rfl, q⟩ := h
  refine ⟨_, (bone (sif (tnot (tval (ecall C_is_stretch (hr.mono (by decide)) rfl (acons (ev 0) (acons (ev 1) anil))))) (bone snever) bnil)), ?_⟩
  try walk_at "rn"
  refine ⟨rfl, _, rfl, ?_⟩
  rw [if_neg (by decide)]
  exact q
def spMk0 : Sp := fun vs H Q _ => ∃ v, vs = [v, .non] ∧ Q .non H
theorem sc_check_mark : FnScope ["house", "at"] ["house", "at"] (defScope s_check_mark) := ⟨rfl, rfl, rfl, by decide +kernel, rfl, by decide +kernel, by decide +kernel⟩
theorem ok_check_mark {f : Addr} {fd : FuncData} (F : Fun K "check_mark" "check_mark" s_check_mark f fd) {cF cR cLeaf aP : Addr} {tE t1 t2 t3 t4 : Tok} (B : B K mg cF cR cLeaf aP tE t1 t2 t3 t4) (C_is_number : Callee P w K mg base "is_number" 1 ["thing"] (spNum K)) : FnOk P w K mg base CX0 2 f fd ["house", "at"] spMk0 := by
  refine F.okJ sc_check_mark (fun vs H Q E h => ?_) (fun cdv A outer s H vs Q E hr h => ?_)
  · obtain ⟨v, rfl, _⟩ := h
    rfl
  obtain ⟨v, rfl, q⟩ := h
  refine ⟨_, (bone (sif (tw (wand (tcmp op_notN (ev 1) enon (nomark _)) (wand1 (tw (wor (tnot (tval (ecall C_is_number (hr.mono (by decide)) rfl (acons (ev 1) anil)))) (wor1 (tcmp op_notInQ (ev 1) (efld (ev 0)) (by with_unfolding_all rfl)))))))) (bone snever) bnil)), ?_⟩
  try walk_at "rn"
  exact q
def spMn0 : Sp := fun vs H Q _ => vs = [.non] ∧ Q .non H
theorem sc_check_many : FnScope ["most"] ["most"] (defScope s_check_many) := ⟨rfl, rfl, rfl, by decide +kernel, rfl, by decide +kernel, by decide +kernel⟩
theorem ok_check_many {f : Addr} {fd : FuncData} (F : Fun K "check_many" "check_many" s_check_many f fd) {cF cR cLeaf aP : Addr} {tE t1 t2 t3 t4 : Tok} (B : B K mg cF cR cLeaf aP tE t1 t2 t3 t4) (C_is_whole_from : Callee P w K mg base "is_whole_from" 2 ["thing", "low"] spNo) : FnOk P w K mg base CX0 3 f fd ["most"] spMn0 := by
  refine F.okJ sc_check_many (fun vs H Q E h => ?_) (fun cdv A outer s H vs Q E hr h => ?_)
  · obtain ⟨rfl, _⟩ := h
    rfl
  obtain ⟨rfl, q⟩ := h
  refine ⟨_, (bone (sif (tw (wand (tcmp op_notN (ev 0) enon (nomark _)) (wand1 (tnot (tval (ecall C_is_whole_from (hr.mono (by decide)) rfl (acons (ev 0) (acons ei anil)))))))) (bone snever) bnil)), ?_⟩
  try walk_at "rn"
  exact q
theorem lf_rows {n v : V} : List.lookup ("rows" : Str) [(("number" : Str), n), (("rows" : Str), v)] = some v := by
  have k1 : (("rows" : Str) == "number") = false := by decide +kernel
  simp only [List.lookup, beq_self_eq_true, k1]
theorem dc_none {a D : Addr} {xs : List V} {g : TG} {tt : TT} {tk tv : TE} {σ : St} {H : Hp} {Q : Hp → Prop} (h : SqL K H a xs) (e : xs = []) (q : Q H) : DcLoop (Itl K a) g tt tk tv D Q σ H :=
  ⟨fun i m acc σ' H' => i = 0 ∧ acc = [] ∧ σ' = σ ∧ H' = H, ⟨0, rfl, rfl, rfl, rfl⟩, fun i m acc σ' H' ⟨ei, ea, _, eh⟩ => by
    subst ei ea eh e
    exact .inl ⟨⟨[], h, Nat.le_refl _⟩, q⟩⟩
theorem lc_none {a D : Addr} {xs : List V} {g : TG} {tt : TT} {te : TE} {σ : St} {H : Hp} {Q : Hp → Prop} (h : SqL K H a xs) (e : xs = []) (q : Q H) : LcLoop (Itl K a) g tt te D Q σ H :=
  ⟨fun i m acc σ' H' => i = 0 ∧ acc = [] ∧ σ' = σ ∧ H' = H, ⟨0, rfl, rfl, rfl, rfl⟩, fun i m acc σ' H' ⟨ei, ea, _, eh⟩ => by
    subst ei ea eh e
    exact .inl ⟨⟨[], h, Nat.le_refl _⟩, q⟩⟩
def spLeafT (K : PySem.W.Frag) (cLeaf : Addr) : Sp := fun vs H Q _ => ∃ lf dl r n v, vs = [.ref lf, v] ∧ H lf = some (.ins cLeaf dl [(("number" : Str), n), (("rows" : Str), .ref r)]) ∧ H r = some (.lst []) ∧ ∀ D, new K H D → Q (.ref D) (upd H D (.dK []))
theorem sc_leaf_table : FnScope ["leaf", "at"] ["leaf", "at"] (defScope s_leaf_table) := ⟨rfl, rfl, rfl, by decide +kernel, rfl, by decide +kernel, by decide +kernel⟩
theorem ok_leaf_table {f : Addr} {fd : FuncData} (F : Fun K "leaf_table" "leaf_table" s_leaf_table f fd) {cF cR cLeaf aP : Addr} {tE t1 t2 t3 t4 : Tok} (B : B K mg cF cR cLeaf aP tE t1 t2 t3 t4) (CK_value_of : CalleeK P w K mg base "value_of" 1 ["versions", "at"] ["at"] 1 1 spNo) (c_Leaf : Cls K cLeaf) (n_rows : NoAttr K cLeaf "rows") : FnOk P w K mg base CX0 2 f fd ["leaf", "at"] (spLeafT K cLeaf) := by
  refine F.okJ sc_leaf_table (fun vs H Q E h => ?_) (fun cdv A outer s H vs Q E hr h => ?_)
  · obtain ⟨lf, dl, r, n, v, rfl, _⟩ := h
    rfl
  obtain ⟨lf, dl, r, n, v, rfl, hl, hr', q⟩ := h
  refine ⟨_, (bone (sret (edc (Cap.mk (N := ["key", "versions", "at"]) (src := [none, none, some 1]) rfl rfl) rfl (ilist (efld (ev 0))) (fun _ _ _ _ => (gtupQK K (n := 2) rfl (gcons (gname (i := 0) (show (["key", "versions", "at"] : List Str).Nodup from by decide +kernel) rfl (Or.inl rfl)) (gcons (gname (i := 1) (show (["key", "versions", "at"] : List Str).Nodup from by decide +kernel) rfl (Or.inl rfl)) gnil)))) (fun _ _ _ _ => fnone) (fun _ _ _ _ => (ev 0)) (fun _ _ _ _ => (ecallK CK_value_of (hr.mono (by decide)) rfl (acons (ev 1) anil) (kcons (ev 2) knil)))))), ?_⟩
  simp only [tSeq, tNext, tIfS, tAsg, gName, gSub, tRet, tRetN, tDrop, tVar, tC, tOp, tUn, rI0, rI, rU, tTest, tB, tAndV, tOrV, tNotV, tAnd, tOr, tNot, tIf, tChain, tCB, tCons, tNil, tLst, tTup, tCallC, List.getElem?_cons_zero, List.getElem?_cons_succ, List.set_cons_zero, List.set_cons_succ, Option.some.injEq, V.int.injEq, V.bl.injEq, V.ref.injEq, V.ty.injEq, V.str.injEq, List.cons.injEq, exists_eq_left', exists_eq_left, exists_and_left, and_true, true_and, and_assoc, cxK, rIxF, rSetL, rEq, rNe, scal, HO.lst.injEq, HO.tup.injEq, upd_none, ixN_10, ixN_20, ixN_21, ixN_30, ixN_31, ixN_32, upd_same, seqAt_updL, seqAt_updT, atI_0, atI_1, atI_2, atI_3, decide_eq_true_eq, L2.start, List.map_cons, List.map_nil, List.length_cons, List.length_nil, Nat.reduceAdd, Nat.reduceSub, List.replicate_succ, List.replicate_zero, List.cons_append, List.nil_append, List.append_nil, tFor_rng1, tFor_rng2, tFor_list, tFor_tup, CDv, CMul, CPow, sizeLine_eq, Int.reduceLE, Int.reduceLT, Int.reducePow, Int.reduceToNat, Int.reduceAdd, Int.reduceSub, Int.reduceMul, Int.reduceNeg, Nat.reduceLeDiff, Nat.reducePow, Nat.reduceLT, Int.reduceEq, true_or, or_true, ite_true, ite_false, if_true, if_false, Bool.not_true, Bool.not_false, Bool.false_eq_true, decide_true, decide_false, rIxQ, seqQ_updL, seqQ_updT, tupQ_updT, tSl, tNoPart, tPart, rSlQ, rSlTX, rCatQ, tTupQ, tLstQ, tNever, rEqD, rInQ, gTupQ, gCons, gNil, tBM, rAppend, tMakeQ, sFld, tFld, tMeth, tDNewQ, tFor_list, tBM0, rExtend, tLc_list, pick_nil, pick_own, pick_cap, join_some, tYes, tyV, tTry, Ends.gone, tRaise, cxN, tCall, tFor_list, tLc_list, tDc, tyV, tCallKC, gk_33, tNever, rSlQ, rCatTX, rCatTX0, iList]
  refine ⟨_, _, _, hl, c_Leaf, n_rows, _, lf_rows, r, rfl, ⟨_, SqL.of hr'⟩, fun D nD => ?_⟩
  refine dc_none (xs := []) (SqL.of ?_) rfl (q D nD)
  rw [upd_ne (ne_of_none hr' nD.1)]
  exact hr'
def spRoomT (K : PySem.W.Frag) (cLeaf : Addr) : Sp := fun vs H Q _ => ∃ lf dl r n l h v, vs = [.ref lf, l, h, v] ∧ H lf = some (.ins cLeaf dl [(("number" : Str), n), (("rows" : Str), .ref r)]) ∧ H r = some (.lst []) ∧ ∀ D, new K H D → Q (.ref D) (upd H D (.dK []))
theorem sc_room_table : FnScope ["room", "low", "high", "at", "table", "child", "first", "end", "note"] ["room", "low", "high", "at"] (defScope s_room_table) := ⟨rfl, rfl, rfl, by decide +kernel, rfl, by decide +kernel, by decide +kernel⟩
theorem ok_room_table {f : Addr} {fd : FuncData} (F : Fun K "room_table" "room_table" s_room_table f fd) {cF cR cLeaf aP : Addr} {tE t1 t2 t3 t4 : Tok} (B : B K mg cF cR cLeaf aP tE t1 t2 t3 t4) (b : Binds K fd ["room", "low", "high", "at"] []) (kp : PySem.W.keepIn K (.ref f) = true) (m : mg "room_table" = some (.ref f)) (C_leaf_table : Callee P w K mg base "leaf_table" 2 ["leaf", "at"] (spLeafT K cLeaf)) (c_Leaf : Cls K cLeaf) : FnOk P w K mg base CX0 6 f fd ["room", "low", "high", "at"] (spRoomT K cLeaf) := by
  refine F.okJ sc_room_table (fun vs H Q E h => ?_) (fun cdv A outer s H vs Q E hr h => ?_)
  · obtain ⟨lf, dl, r, n, l, h, v, rfl, _⟩ := h
    rfl
  obtain ⟨lf, dl, r, n, l, h, v, rfl, hl, hr', q⟩ := h
  refine ⟨_, (bcons (sif (tval (ecallB call_isinstC rfl B.isinstance bt_isinstance (acons (ev 0) (acons (eglob rfl B.Leaf B.Leaf_is) anil)))) (bone (sret (ecall C_leaf_table (hr.mono (by decide)) rfl (acons (ev 0) (acons (ev 3) anil))))) bnil)
      (bcons snever
      (bcons snever
      (bcons snever
      (bone snever))))), ?_⟩
  try walk_at "rn"
  refine ⟨_, .ins hl c_Leaf B.lC.1 B.lC.2.1 B.lC.2.2.1 B.lC.2.2.2, true, B.kL, ?_⟩
  rw [if_pos rfl]
  exact ⟨lf, dl, r, n, v, rfl, hl, hr', q⟩
theorem fsH_top {v : V} {k lf t : Addr} : List.lookup ("top" : Str) (fsH v k lf t) = some (.ref lf) := by
  have k1 : (("top" : Str) == "rule") = false := by decide +kernel
  have k2 : (("top" : Str) == "kept") = false := by decide +kernel
  have k3 : (("top" : Str) == "fresh") = false := by decide +kernel
  simp only [fsH, List.lookup, beq_self_eq_true, k1, k2, k3]
theorem fsH_kept {v : V} {k lf t : Addr} : List.lookup ("kept" : Str) (fsH v k lf t) = some (.ref k) := by
  have k1 : (("kept" : Str) == "rule") = false := by decide +kernel
  simp only [fsH, List.lookup, beq_self_eq_true, k1]
theorem fsH_trail {v : V} {k lf t : Addr} : List.lookup ("trail" : Str) (fsH v k lf t) = some (.ref t) := by
  have k1 : (("trail" : Str) == "rule") = false := by decide +kernel
  have k2 : (("trail" : Str) == "kept") = false := by decide +kernel
  have k3 : (("trail" : Str) == "fresh") = false := by decide +kernel
  have k4 : (("trail" : Str) == "top") = false := by decide +kernel
  simp only [fsH, List.lookup, beq_self_eq_true, k1, k2, k3, k4]
theorem fsS_house {v : V} {h : Addr} : List.lookup ("house" : Str) (fsS v h) = some (.ref h) := by
  have k1 : (("house" : Str) == "rule") = false := by decide +kernel
  have k2 : (("house" : Str) == "last") = false := by decide +kernel
  simp only [fsS, List.lookup, beq_self_eq_true, k1, k2]
theorem fsS_rule {v : V} {h : Addr} : List.lookup ("rule" : Str) (fsS v h) = some v := by
  simp only [fsS, List.lookup, beq_self_eq_true]
theorem fsS_last {v : V} {h : Addr} : List.lookup ("last" : Str) (fsS v h) = some (.int 0) := by
  have k1 : (("last" : Str) == "rule") = false := by decide +kernel
  simp only [fsS, List.lookup, beq_self_eq_true, k1]
theorem fsS_no {v : V} {h : Addr} {m : Str} (k1 : (m == "rule") = false) (k2 : (m == "last") = false) (k3 : (m == "house") = false) (k4 : (m == "runs") = false) : List.lookup m (fsS v h) = none := by
  simp only [fsS, List.lookup, k1, k2, k3, k4]
def spPairs (K : PySem.W.Frag) (cHouse cLeaf : Addr) : Sp := fun vs H Q _ => ∃ h dh k lf dl r t v l g a, vs = [.ref h, l, g, a] ∧ HsAt K H cHouse cLeaf h dh k lf dl r t v ∧ ∀ D H', H' D = some (.lst []) → Ext K H H' → Q (.ref D) H'
theorem sc_pairs : FnScope ["house", "low", "high", "at", "table"] ["house", "low", "high", "at"] (defScope s_pairs) := ⟨rfl, rfl, rfl, by decide +kernel, rfl, by decide +kernel, by decide +kernel⟩
theorem ok_pairs {f cHouse : Addr} {fd : FuncData} (F : Fun K "pairs" "pairs" s_pairs f fd) {cF cR cLeaf aP : Addr} {tE t1 t2 t3 t4 : Tok} (B : B K mg cF cR cLeaf aP tE t1 t2 t3 t4) (C_room_table : Callee P w K mg base "room_table" 6 ["room", "low", "high", "at"] (spRoomT K cLeaf)) (c_House : Cls K cHouse) (n_top : NoAttr K cHouse "top") : FnOk P w K mg base CX0 7 f fd ["house", "low", "high", "at"] (spPairs K cHouse cLeaf) := by
  refine F.okJ sc_pairs (fun vs H Q E h => ?_) (fun cdv A outer s H vs Q E hr h => ?_)
  · obtain ⟨h, dh, k, lf, dl, r, t, v, l, g, a, rfl, _⟩ := h
    rfl
  obtain ⟨h, dh, k, lf, dl, r, t, v, l, g, a, rfl, hs, q⟩ := h
  refine ⟨_, (bcons (sset (i := 4) sc_pairs.nd rfl (Or.inr rfl) (ecall C_room_table (hr.mono (by decide)) rfl (acons (efld (ev 0)) (acons (ev 1) (acons (ev 2) (acons (ev 3) anil))))))
      (bone (sret (elc (Cap.mk (N := ["key", "table", "low", "high"]) (src := [none, some 4, some 1, some 2]) rfl rfl) rfl (ilist (ecallB (call_sortedD rfl) rfl B.sorted bt_sorted (acons (ev 4) anil))) (fun _ _ _ _ => (gname (i := 0) (show (["key", "table", "low", "high"] : List Str).Nodup from by decide +kernel) rfl (Or.inl rfl))) (fun _ _ _ _ => (fone (tw (wand (tchain op_le op_lt (ev 2) (ev 0) (ev 3)) (wand1 (tcmp op_notN (edget hr.units (ev 1) (ev 0) (fun _ _ => rfl)) enon (nomark _))))))) (fun _ _ _ _ => (etupQK K (acons (ev 0) (acons (edget hr.units (ev 1) (ev 0) (fun _ _ => rfl)) anil)))))))), ?_⟩
  try walk_at "rn"
  refine ⟨_, _, _, hs.ins, c_House, n_top, _, fsH_top, lf, dl, r, _, l, g, a, rfl, hs.leaf, hs.rows, fun T nT => ?_⟩
  have x1 : Ext K H (upd H T (.dK [])) := .new nT
  have zT : (upd H T (.dK [])) T = some (.dK []) := upd_same
  generalize upd H T (.dK []) = H1 at x1 zT
  refine ⟨T, rfl, [], zT, by decide, fun D ks nD _ _ len => ?_⟩
  have ek : ks = [] := List.eq_nil_of_length_eq_zero len
  subst ek
  refine ⟨⟨_, SqL.of upd_same⟩, fun D1 nD1 => ?_⟩
  have x2 := x1.trans (.new (o := .lst (([] : List Int).map V.int)) nD)
  refine lc_none (xs := []) (SqL.of ?_) rfl (q D1 _ upd_same (x2.trans (.new nD1)))
  rw [upd_ne (Ne.symm (new_upd.1 nD1).1), upd_same]
  rfl
def spRead0 (K : PySem.W.Frag) (cHouse cLeaf : Addr) : Sp := fun vs H Q _ => ∃ h dh k lf dl r t v, vs = [.ref h, .int 0, .int 1000000000000, .non, .non, .bl false] ∧ HsAt K H cHouse cLeaf h dh k lf dl r t v ∧ ∀ D H', H' D = some (.lst []) → Ext K H H' → Q (.ref D) H'
theorem sc_read_stretch : FnScope ["house", "low", "high", "at", "most", "back", "told"] ["house", "low", "high", "at", "most", "back"] (defScope s_read_stretch) := ⟨rfl, rfl, rfl, by decide +kernel, rfl, by decide +kernel, by decide +kernel⟩
theorem ok_read_stretch {f cHouse : Addr} {fd : FuncData} (F : FunD K "read_stretch" "read_stretch" s_read_stretch f fd) {cF cR cLeaf aP : Addr} {tE t1 t2 t3 t4 : Tok} (B : B K mg cF cR cLeaf aP tE t1 t2 t3 t4) (C_check_stretch : Callee P w K mg base "check_stretch" 4 ["low", "high"] spCk0) (C_check_mark : Callee P w K mg base "check_mark" 2 ["house", "at"] spMk0) (C_check_many : Callee P w K mg base "check_many" 3 ["most"] spMn0) (C_pairs : Callee P w K mg base "pairs" 7 ["house", "low", "high", "at"] (spPairs K cHouse cLeaf)) : FnOk P w K mg base CX0 8 f fd ["house", "low", "high", "at", "most", "back"] (spRead0 K cHouse cLeaf) := by
  refine F.okJ sc_read_stretch (fun vs H Q E h => ?_) (fun cdv A outer s H vs Q E hr h => ?_)
  · obtain ⟨h, dh, k, lf, dl, r, t, v, rfl, _⟩ := h
    rfl
  obtain ⟨h, dh, k, lf, dl, r, t, v, rfl, hs, q⟩ := h
  refine ⟨_, (bcons (sexpr (ecall C_check_stretch (hr.mono (by decide)) rfl (acons (ev 1) (acons (ev 2) anil))))
      (bcons (sexpr (ecall C_check_mark (hr.mono (by decide)) rfl (acons (ev 0) (acons (ev 3) anil))))
      (bcons (sexpr (ecall C_check_many (hr.mono (by decide)) rfl (acons (ev 4) anil)))
      (bcons (sset (i := 6) sc_read_stretch.nd rfl (Or.inl rfl) (ecall C_pairs (hr.mono (by decide)) rfl (acons (ev 0) (acons (ev 1) (acons (ev 2) (acons (ev 3) anil))))))
      (bcut (sif (tcmp op_isB (ev 5) ebl (nomark _)) (bone snever) bnil)
      (bone (sret (eif (tcmp op_isN (ev 4) enon (nomark _)) (ev 6) (eslice sl_listQ (ev 6) onone (osome (ev 4))))))))))), ?_⟩
  try walk_at "rn"
  refine ⟨rfl, _, rfl, rfl, h, dh, k, lf, dl, r, t, v, _, _, _, rfl, hs, fun D H1 zD x1 => ?_⟩
  refine ⟨fun σ' H' => σ' = [some (.ref h), some (.int 0), some (.int 1000000000000), some .non, some .non, some (.bl false), some (.ref D)] ∧ H' = H1, ?_, ?_⟩
  · try walk_at "rn"
    rw [if_neg (by decide)]
    trivial
  rintro _ _ ⟨rfl, rfl⟩
  try walk_at "rn"
  exact q D _ zD x1
def spMarks (K : PySem.W.Frag) (cStore cHouse cLeaf : Addr) : Sp := fun vs H Q _ => ∃ x dx h dh k lf dl r t v, vs = [.ref x] ∧ StAt K H cStore cHouse cLeaf x dx h dh k lf dl r t v ∧ ∀ D H', H' D = some (.lst []) → Ext K H H' → Q (.ref D) H'
theorem sc_Store_marks : FnScope ["self"] ["self"] (defScope s_Store_marks) := ⟨rfl, rfl, rfl, by decide +kernel, rfl, by decide +kernel, by decide +kernel⟩
theorem ok_Store_marks {f cStore cHouse : Addr} {fd : FuncData} (F : Fun K "marks" "Store.marks" s_Store_marks f fd) {cF cR cLeaf aP : Addr} {tE t1 t2 t3 t4 : Tok} (B : B K mg cF cR cLeaf aP tE t1 t2 t3 t4) (c_Store : Cls K cStore) (n_house : NoAttr K cStore "house") (c_House : Cls K cHouse) (m_kept : NoAttr K cHouse "kept") : FnOk P w K mg base CX0 1 f fd ["self"] (spMarks K cStore cHouse cLeaf) := by
  refine F.okJ sc_Store_marks (fun vs H Q E h => ?_) (fun cdv A outer s H vs Q E hr h => ?_)
  · obtain ⟨x, dx, h, dh, k, lf, dl, r, t, v, rfl, _⟩ := h
    rfl
  obtain ⟨x, dx, h, dh, k, lf, dl, r, t, v, rfl, st, q⟩ := h
  refine ⟨_, (bone (sret (ecallTy (call_list_ofQK K) rfl B.list bt_list (acons (efld (efld (ev 0))) anil)))), ?_⟩
  try walk_at "rn"
  refine ⟨_, _, _, st.ins, c_Store, n_house, _, fsS_house, _, rfl, _, _, _, st.hs.ins, c_House, m_kept, _, fsH_kept, _, rfl, _, seqQ_lst st.hs.kept, fun D nD => q D _ upd_same (.new nD)⟩
def spStretch (K : PySem.W.Frag) (cStore cHouse cLeaf : Addr) : Sp := fun vs H Q _ => ∃ x dx h dh k lf dl r t v, vs = [.ref x, .int 0, .int 1000000000000, .non, .non, .bl false] ∧ StAt K H cStore cHouse cLeaf x dx h dh k lf dl r t v ∧ ∀ D H', H' D = some (.lst []) → Ext K H H' → Q (.ref D) H'
theorem sc_Store_stretch : FnScope ["self", "low", "high", "at", "most", "back"] ["self", "low", "high", "at", "most", "back"] (defScope s_Store_stretch) := ⟨rfl, rfl, rfl, by decide +kernel, rfl, by decide +kernel, by decide +kernel⟩
theorem ok_Store_stretch {f cStore cHouse : Addr} {fd : FuncData} (F : FunD K "stretch" "Store.stretch" s_Store_stretch f fd) {cF cR cLeaf aP : Addr} {tE t1 t2 t3 t4 : Tok} (B : B K mg cF cR cLeaf aP tE t1 t2 t3 t4) (CK_read_stretch : CalleeK P w K mg base "read_stretch" 8 ["house", "low", "high", "at", "most", "back"] ["at", "most", "back"] 3 3 (spRead0 K cHouse cLeaf)) (c_Store : Cls K cStore) (n_house : NoAttr K cStore "house") : FnOk P w K mg base CX0 9 f fd ["self", "low", "high", "at", "most", "back"] (spStretch K cStore cHouse cLeaf) := by
  refine F.okJ sc_Store_stretch (fun vs H Q E h => ?_) (fun cdv A outer s H vs Q E hr h => ?_)
  · obtain ⟨x, dx, h, dh, k, lf, dl, r, t, v, rfl, _⟩ := h
    rfl
  obtain ⟨x, dx, h, dh, k, lf, dl, r, t, v, rfl, st, q⟩ := h
  refine ⟨_, (bone (sret (ecallK CK_read_stretch (hr.mono (by decide)) rfl (acons (efld (ev 0)) (acons (ev 1) (acons (ev 2) anil))) (kcons (ev 3) (kcons (ev 4) (kcons (ev 5) knil)))))), ?_⟩
  try walk_at "rn"
  refine ⟨_, _, _, st.ins, c_Store, n_house, _, fsS_house, h, dh, k, lf, dl, r, t, v, rfl, st.hs, q⟩
def spLen0 (K : PySem.W.Frag) (cStore cHouse cLeaf : Addr) : Sp := fun vs H Q _ => ∃ x dx h dh k lf dl r t v, vs = [.ref x] ∧ StAt K H cStore cHouse cLeaf x dx h dh k lf dl r t v ∧ ∀ H', Ext K H H' → Q (.int 0) H'
theorem sc_Store___len__ : FnScope ["self"] ["self"] (defScope s_Store___len__) := ⟨rfl, rfl, rfl, by decide +kernel, rfl, by decide +kernel, by decide +kernel⟩
theorem ok_Store___len__ {f cStore cHouse : Addr} {fd : FuncData} (F : Fun K "__len__" "Store.__len__" s_Store___len__ f fd) {cF cR cLeaf aP : Addr} {tE t1 t2 t3 t4 : Tok} (B : B K mg cF cR cLeaf aP tE t1 t2 t3 t4) (C_pairs : Callee P w K mg base "pairs" 7 ["house", "low", "high", "at"] (spPairs K cHouse cLeaf)) (c_Store : Cls K cStore) (n_house : NoAttr K cStore "house") : FnOk P w K mg base CX0 8 f fd ["self"] (spLen0 K cStore cHouse cLeaf) := by
  refine F.okJ sc_Store___len__ (fun vs H Q E h => ?_) (fun cdv A outer s H vs Q E hr h => ?_)
  · obtain ⟨x, dx, h, dh, k, lf, dl, r, t, v, rfl, _⟩ := h
    rfl
  obtain ⟨x, dx, h, dh, k, lf, dl, r, t, v, rfl, st, q⟩ := h
  refine ⟨_, (bone (sret (ecallB call_lenQ rfl B.len bt_len (acons (ecall C_pairs (hr.mono (by decide)) rfl (acons (efld (ev 0)) (acons ei (acons (eglob rfl B.END B.END_is) (acons enon anil))))) anil)))), ?_⟩
  try walk_at "rn"
  refine ⟨_, _, _, st.ins, c_Store, n_house, _, fsS_house, h, dh, k, lf, dl, r, t, v, _, _, _, rfl, st.hs, fun D H1 zD x1 => ⟨D, rfl, _, seqQ_lst zD, q _ x1⟩⟩
theorem sc_Store_steps : FnScope ["self"] ["self"] (defScope s_Store_steps) := ⟨rfl, rfl, rfl, by decide +kernel, rfl, by decide +kernel, by decide +kernel⟩
theorem ok_Store_steps {f cStore cHouse : Addr} {fd : FuncData} (F : Fun K "steps" "Store.steps" s_Store_steps f fd) {cF cR cLeaf aP : Addr} {tE t1 t2 t3 t4 : Tok} (B : B K mg cF cR cLeaf aP tE t1 t2 t3 t4) (C_own_step : Callee P w K mg base "own_step" 1 ["step"] spNo) (c_Store : Cls K cStore) (n_house : NoAttr K cStore "house") (c_House : Cls K cHouse) (m_trail : NoAttr K cHouse "trail") : FnOk P w K mg base CX0 2 f fd ["self"] (spMarks K cStore cHouse cLeaf) := by
  refine F.okJ sc_Store_steps (fun vs H Q E h => ?_) (fun cdv A outer s H vs Q E hr h => ?_)
  · obtain ⟨x, dx, h, dh, k, lf, dl, r, t, v, rfl, _⟩ := h
    rfl
  obtain ⟨x, dx, h, dh, k, lf, dl, r, t, v, rfl, st, q⟩ := h
  refine ⟨_, (bone (sret (elc (Cap.mk (N := ["step"]) (src := [none]) rfl rfl) rfl (ilist (efld (efld (ev 0)))) (fun _ _ _ _ => (gname (i := 0) (show (["step"] : List Str).Nodup from by decide +kernel) rfl (Or.inl rfl))) (fun _ _ _ _ => fnone) (fun _ _ _ _ => (ecall C_own_step (hr.mono (by decide)) rfl (acons (ev 0) anil)))))), ?_⟩
  try walk_at "rn"
  refine ⟨_, _, _, st.ins, c_Store, n_house, _, fsS_house, _, rfl, _, _, _, st.hs.ins, c_House, m_trail, _, fsH_trail, _, rfl, ⟨_, SqL.of st.hs.trail⟩, fun D nD => ?_⟩
  refine lc_none (xs := []) (SqL.of ?_) rfl (q D _ upd_same (.new nD))
  rw [upd_ne (ne_of_none st.hs.trail nD.1)]
  exact st.hs.trail
end
section
variable {P : Program} {w : World} {K : PySem.W.Frag} {mg : Str → Option Value} {base : Heap}
def L3 (x y z : Int) : HO := .lst [.int x, .int y, .int z]
def Wl (H : Hp) (p : Addr) : Prop := (∃ x, H p = some (.lst [.int x])) ∨ ∃ x y z, H p = some (L3 x y z)
theorem Wl.ext {K : PySem.W.Frag} {H H' : Hp} {p : Addr} (h : Wl H p) (x : Ext K H H') : Wl H' p := by
  rcases h with ⟨u, h⟩ | ⟨u, v, z, h⟩
  · exact .inl ⟨u, x.at h⟩
  · exact .inr ⟨u, v, z, x.at h⟩
theorem Wl.ne {K : PySem.W.Frag} {H : Hp} {p b : Addr} (h : Wl H p) (n : new K H b) : b ≠ p := by
  rcases h with ⟨u, h⟩ | ⟨u, v, z, h⟩
  · exact (ne_of_none h n.1).symm
  · exact (ne_of_none h n.1).symm
theorem Wl.upd {H : Hp} {p b : Addr} {o : HO} (h : Wl H p) (n : p ≠ b) : Wl (upd H b o) p := by
  rcases h with ⟨u, h⟩ | ⟨u, v, z, h⟩
  · exact .inl ⟨u, by rw [upd_ne n]; exact h⟩
  · exact .inr ⟨u, v, z, by rw [upd_ne n]; exact h⟩
def spCell (K : PySem.W.Frag) : Sp := fun vs H Q _ => ∃ (a : Addr) (ns : List Int) (k : Int), vs = [.ref a, .int k] ∧ SqL K H a (ns.map V.int) ∧ 0 ≤ k ∧ ∀ n, Q (.int n) H
theorem sc__law_cell_at : FnScope ["_law_script", "_law_k"] ["_law_script", "_law_k"] (defScope s__law_cell_at) := ⟨rfl, rfl, rfl, by decide +kernel, rfl, by decide +kernel, by decide +kernel⟩
theorem ok__law_cell_at {f : Addr} {fd : FuncData} (F : Fun K "_law_cell_at" "_law_cell_at" s__law_cell_at f fd) {cF cR cLeaf aP : Addr} {tE t1 t2 t3 t4 : Tok} (B : B K mg cF cR cLeaf aP tE t1 t2 t3 t4) : FnOk P w K mg base CX0 1 f fd ["_law_script", "_law_k"] (spCell K) := by
  refine F.okJ sc__law_cell_at (fun vs H Q E h => ?_) (fun cdv A outer s H vs Q E hr h => ?_)
  · obtain ⟨a, ns, k, rfl, _⟩ := h
    rfl
  obtain ⟨a, ns, k, rfl, hs, h0, q⟩ := h
  refine ⟨_, (bcons (sif (tcmp op_lt (ev 1) (ecallB call_len_seq rfl B.len bt_len (acons (ev 0) anil)) (nomark _)) (bone (sret (eix ix_list (ev 0) (ev 1) (fun _ _ => rfl)))) bnil)
      (bone (sret ei))), ?_⟩
  simp only [tSeq, tNext, tIfS, tAsg, gName, gSub, tRet, tRetN, tDrop, tVar, tC, tOp, tUn, rI0, rI, rU, tTest, tB, tAndV, tOrV, tNotV, tAnd, tOr, tNot, tIf, tChain, tCB, tCons, tNil, tLst, tTup, tCallC, List.getElem?_cons_zero, List.getElem?_cons_succ, List.set_cons_zero, List.set_cons_succ, Option.some.injEq, V.int.injEq, V.bl.injEq, V.ref.injEq, V.ty.injEq, V.str.injEq, List.cons.injEq, exists_eq_left', exists_eq_left, exists_and_left, and_true, true_and, and_assoc, cxK, rIxF, rSetL, rEq, rNe, scal, HO.lst.injEq, HO.tup.injEq, upd_none, ixN_10, ixN_20, ixN_21, ixN_30, ixN_31, ixN_32, upd_same, seqAt_updL, seqAt_updT, atI_0, atI_1, atI_2, atI_3, decide_eq_true_eq, L2.start, List.map_cons, List.map_nil, List.length_cons, List.length_nil, Nat.reduceAdd, Nat.reduceSub, List.replicate_succ, List.replicate_zero, List.cons_append, List.nil_append, List.append_nil, tFor_rng1, tFor_rng2, tFor_list, tFor_tup, CDv, CMul, CPow, sizeLine_eq, Int.reduceLE, Int.reduceLT, Int.reducePow, Int.reduceToNat, Int.reduceAdd, Int.reduceSub, Int.reduceMul, Int.reduceNeg, Nat.reduceLeDiff, Nat.reducePow, Nat.reduceLT, Int.reduceEq, true_or, or_true, ite_true, ite_false, if_true, if_false, Bool.not_true, Bool.not_false, Bool.false_eq_true, decide_true, decide_false, rIxQ, seqQ_updL, seqQ_updT, tupQ_updT, tSl, tNoPart, tPart, rSlQ, rSlTX, rCatQ, tTupQ, tLstQ, tNever, rEqD, rInQ, gTupQ, gCons, gNil, tBM, rAppend, tMakeQ, sFld, tFld, tMeth, tDNewQ, tFor_list, tBM0, rExtend, tLc_list, pick_nil, pick_own, pick_cap, join_some, tYes, tyV, tTry, Ends.gone, tRaise, cxN, tCall, tFor_list, tLc_list, tDc, tyV, tCallKC, gk_33, tNever, rSlQ, rCatTX, rCatTX0, rIxL]
  refine ⟨_, .inl hs, ?_⟩
  refine ite2 (fun c => ?_) (fun c => q 0)
  obtain ⟨v, e, m⟩ := atI_in h0 c
  obtain ⟨n, _, rfl⟩ := List.mem_map.mp m
  exact ⟨_, hs, _, e, q n⟩
def spDigit (K : PySem.W.Frag) : Sp := fun vs H Q _ => ∃ p m, vs = [.ref p, .int m] ∧ Wl H p ∧ 0 < m ∧ m < 10 ^ 100 ∧
  ∀ (r : Int) (H' : Hp), 0 ≤ r → r < m → Wl H' p → Kp K p H H' → Q (.int r) H'
theorem sc__law_digit : FnScope ["_law_state", "_law_base", "_law_cell", "_law_found", "_law_number"] ["_law_state", "_law_base"] (defScope s__law_digit) := ⟨rfl, rfl, rfl, by decide +kernel, rfl, by decide +kernel, by decide +kernel⟩
theorem ok__law_digit {f : Addr} {fd : FuncData} (F : Fun K "_law_digit" "_law_digit" s__law_digit f fd) {cF cR cLeaf aP : Addr} {tE t1 t2 t3 t4 : Tok} (B : B K mg cF cR cLeaf aP tE t1 t2 t3 t4) : FnOk P w K mg base CX0 1 f fd ["_law_state", "_law_base"] (spDigit K) := by
  refine F.okJ sc__law_digit (fun vs H Q E h => ?_) (fun cdv A outer s H vs Q E hr h => ?_)
  · obtain ⟨p, m, rfl, _⟩ := h
    rfl
  obtain ⟨p, m, rfl, hp, h0, h1, q⟩ := h
  refine ⟨_, (bcut (sif (tcmp op_eq (ecallB call_lenQ rfl B.len bt_len (acons (ev 0) anil)) ei (nomark _)) (bcons (sset (i := 2) sc__law_digit.nd rfl (Or.inl rfl) (eix ix_Q (ev 0) ei (fun _ _ => rfl)))
      (bcons (sasg (eix ix_Q (elstQ (acons ei (acons (ev 2) anil))) (ecallTy call_intB rfl B.int bt_int (acons (ecmp op_ge (ev 2) (epowc 1000000000000000000) (nomark _)) anil)) (fun _ _ => rfl)) (gsub (ev 0) ei set_list))
      (bone (sexpr (ebm PySem.F.plainAttrs_list PySem.F.slot_list_extend PySem.F.type_list_extend mt_extend (ev 0) (acons (elstQ (acons (eop op_mod (ev 2) ei) (acons ei anil))) anil)))))) bnil)
      (bcons (sif (tcmp op_gt (eix ix_Q (ev 0) ei (fun _ _ => rfl)) ei (nomark _)) (bcons (sset (i := 3) sc__law_digit.nd rfl (Or.inl rfl) (eop op_mod (eix ix_Q (ev 0) ei (fun _ _ => rfl)) (ev 1)))
      (bcons (sasg (eop op_fdivP (eix ix_Q (ev 0) ei (fun _ _ => rfl)) (ev 1)) (gsub (ev 0) ei set_list))
      (bone (sret (ev 3))))) bnil)
      (bcons (sasg (eop op_add (eix ix_Q (ev 0) ei (fun _ _ => rfl)) ei) (gsub (ev 0) ei set_list))
      (bcons (sset (i := 4) sc__law_digit.nd rfl (Or.inl rfl) (eop op_mod (eop op_mul (eop op_add (eop op_add (eix ix_Q (ev 0) ei (fun _ _ => rfl)) (eop op_mul ei (eix ix_Q (ev 0) ei (fun _ _ => rfl)))) ei) ei) ei))
      (bcons (sset (i := 4) sc__law_digit.nd rfl (Or.inl rfl) (eop op_mod (eop op_mul (ev 4) (eop op_add (eop op_fdivP (ev 4) ei) ei)) ei))
      (bone (sret (eop op_mod (eop op_mod (eop op_mul (ev 4) (eop op_add (eop op_fdivP (ev 4) ei) ei)) ei) (ev 1))))))))), ?_⟩
  obtain ⟨J, eJ⟩ : ∃ J : St → Hp → Prop, J = fun σ1 G1 => ∃ (v2 : Option V) (x y z : Int), σ1 = [some (.ref p), some (.int m), v2, none, none] ∧ G1 p = some (L3 x y z) ∧ Kp K p H G1 := ⟨_, rfl⟩
  refine ⟨J, ?_, ?_⟩
  · rcases hp with ⟨x, hp⟩ | ⟨x, y, z, hp⟩
    · simp only [tSeq, tNext, tIfS, tAsg, gName, gSub, tRet, tRetN, tDrop, tVar, tC, tOp, tUn, rI0, rI, rU, tTest, tB, tAndV, tOrV, tNotV, tAnd, tOr, tNot, tIf, tChain, tCB, tCons, tNil, tLst, tTup, tCallC, List.getElem?_cons_zero, List.getElem?_cons_succ, List.set_cons_zero, List.set_cons_succ, Option.some.injEq, V.int.injEq, V.bl.injEq, V.ref.injEq, V.ty.injEq, V.str.injEq, List.cons.injEq, exists_eq_left', exists_eq_left, exists_and_left, and_true, true_and, and_assoc, cxK, rIxF, rSetL, rEq, rNe, scal, HO.lst.injEq, HO.tup.injEq, upd_none, ixN_10, ixN_20, ixN_21, ixN_30, ixN_31, ixN_32, upd_same, seqAt_updL, seqAt_updT, atI_0, atI_1, atI_2, atI_3, decide_eq_true_eq, L2.start, List.map_cons, List.map_nil, List.length_cons, List.length_nil, Nat.reduceAdd, Nat.reduceSub, List.replicate_succ, List.replicate_zero, List.cons_append, List.nil_append, List.append_nil, tFor_rng1, tFor_rng2, tFor_list, tFor_tup, CDv, CMul, CPow, sizeLine_eq, Int.reduceLE, Int.reduceLT, Int.reducePow, Int.reduceToNat, Int.reduceAdd, Int.reduceSub, Int.reduceMul, Int.reduceNeg, Nat.reduceLeDiff, Nat.reducePow, Nat.reduceLT, Int.reduceEq, true_or, or_true, ite_true, ite_false, if_true, if_false, Bool.not_true, Bool.not_false, Bool.false_eq_true, decide_true, decide_false, rIxQ, seqQ_updL, seqQ_updT, tupQ_updT, tSl, tNoPart, tPart, rSlQ, rSlTX, rCatQ, tTupQ, tLstQ, new_upd, tNever, rEqD, rInQ, gTupQ, gCons, gNil, tBM, rAppend, tMakeQ, sFld, tFld, tMeth, tDNewQ, tFor_list, tBM0, rExtend, tLc_list, pick_nil, pick_own, pick_cap, join_some, tYes, tyV, tTry, Ends.gone, tRaise, cxN, tCall, tFor_list, tLc_list, tDc, tyV, tCallKC, gk_33, tNever, rSlQ, rCatTX, rCatTX0, hp,  seqQ_lst hp]
      refine ite2 (fun _ => ?_) (fun c => absurd rfl c)
      intro b nb
      have ne : b ≠ p := (ne_of_none hp nb.1).symm
      obtain ⟨v, ev⟩ : ∃ v : Int, atI [V.int 0, V.int x] (if 1000000000000000000 ≤ x then 1 else 0) = some (.int v) := by split <;> exact ⟨_, rfl⟩
      have x1 := Ext.new (K := K) (o := .lst [.int 0, .int x]) nb
      have hp1 := x1.at hp
      refine ⟨_, ev, _, hp1, 0, rfl, .inl ⟨_, SqL.of upd_same⟩, fun b2 nb2 => ⟨_, by rw [upd_ne nb2.1.symm]; exact upd_same, by show 1 ≤ 16777214; decide, ?_⟩⟩
      rw [eJ]
      have k2 : Kp K p _ (upd (upd H b (.lst [.int 0, .int x])) p (.lst [.int v])) := Kp.upd hp1
      have n2 : new K (upd (upd H b (.lst [.int 0, .int x])) p (.lst [.int v])) b2 := ⟨by rw [upd_ne nb2.1, upd_ne nb2.2.1]; exact nb2.2.2.1, nb2.2.2.2⟩
      have x3 := Ext.new (K := K) (o := .lst [.int (x % 2147483647), .int 0]) n2
      exact ⟨_, v, _, _, rfl, upd_same, x1.kp.trans (k2.trans (x3.kp.trans (Kp.upd (x3.at upd_same))))⟩
    · unfold L3 at hp
      simp only [tSeq, tNext, tIfS, tAsg, gName, gSub, tRet, tRetN, tDrop, tVar, tC, tOp, tUn, rI0, rI, rU, tTest, tB, tAndV, tOrV, tNotV, tAnd, tOr, tNot, tIf, tChain, tCB, tCons, tNil, tLst, tTup, tCallC, List.getElem?_cons_zero, List.getElem?_cons_succ, List.set_cons_zero, List.set_cons_succ, Option.some.injEq, V.int.injEq, V.bl.injEq, V.ref.injEq, V.ty.injEq, V.str.injEq, List.cons.injEq, exists_eq_left', exists_eq_left, exists_and_left, and_true, true_and, and_assoc, cxK, rIxF, rSetL, rEq, rNe, scal, HO.lst.injEq, HO.tup.injEq, upd_none, ixN_10, ixN_20, ixN_21, ixN_30, ixN_31, ixN_32, upd_same, seqAt_updL, seqAt_updT, atI_0, atI_1, atI_2, atI_3, decide_eq_true_eq, L2.start, List.map_cons, List.map_nil, List.length_cons, List.length_nil, Nat.reduceAdd, Nat.reduceSub, List.replicate_succ, List.replicate_zero, List.cons_append, List.nil_append, List.append_nil, tFor_rng1, tFor_rng2, tFor_list, tFor_tup, CDv, CMul, CPow, sizeLine_eq, Int.reduceLE, Int.reduceLT, Int.reducePow, Int.reduceToNat, Int.reduceAdd, Int.reduceSub, Int.reduceMul, Int.reduceNeg, Nat.reduceLeDiff, Nat.reducePow, Nat.reduceLT, Int.reduceEq, true_or, or_true, ite_true, ite_false, if_true, if_false, Bool.not_true, Bool.not_false, Bool.false_eq_true, decide_true, decide_false, rIxQ, seqQ_updL, seqQ_updT, tupQ_updT, tSl, tNoPart, tPart, rSlQ, rSlTX, rCatQ, tTupQ, tLstQ, new_upd, tNever, rEqD, rInQ, gTupQ, gCons, gNil, tBM, rAppend, tMakeQ, sFld, tFld, tMeth, tDNewQ, tFor_list, tBM0, rExtend, tLc_list, pick_nil, pick_own, pick_cap, join_some, tYes, tyV, tTry, Ends.gone, tRaise, cxN, tCall, tFor_list, tLc_list, tDc, tyV, tCallKC, gk_33, tNever, rSlQ, rCatTX, rCatTX0, hp,  seqQ_lst hp]
      refine ite2 (fun c => absurd c (by decide)) (fun _ => ?_)
      rw [eJ]
      exact ⟨_, _, _, _, rfl, hp, Kp.refl⟩
  intro σ1 G1 h
  rw [eJ] at h
  clear eJ
  obtain ⟨v2, x, y, z, rfl, hp, k⟩ := h
  unfold L3 at hp
  simp only [tSeq, tNext, tIfS, tAsg, gName, gSub, tRet, tRetN, tDrop, tVar, tC, tOp, tUn, rI0, rI, rU, tTest, tB, tAndV, tOrV, tNotV, tAnd, tOr, tNot, tIf, tChain, tCB, tCons, tNil, tLst, tTup, tCallC, List.getElem?_cons_zero, List.getElem?_cons_succ, List.set_cons_zero, List.set_cons_succ, Option.some.injEq, V.int.injEq, V.bl.injEq, V.ref.injEq, V.ty.injEq, V.str.injEq, List.cons.injEq, exists_eq_left', exists_eq_left, exists_and_left, and_true, true_and, and_assoc, cxK, rIxF, rSetL, rEq, rNe, scal, HO.lst.injEq, HO.tup.injEq, upd_none, ixN_10, ixN_20, ixN_21, ixN_30, ixN_31, ixN_32, upd_same, seqAt_updL, seqAt_updT, atI_0, atI_1, atI_2, atI_3, decide_eq_true_eq, L2.start, List.map_cons, List.map_nil, List.length_cons, List.length_nil, Nat.reduceAdd, Nat.reduceSub, List.replicate_succ, List.replicate_zero, List.cons_append, List.nil_append, List.append_nil, tFor_rng1, tFor_rng2, tFor_list, tFor_tup, CDv, CMul, CPow, sizeLine_eq, Int.reduceLE, Int.reduceLT, Int.reducePow, Int.reduceToNat, Int.reduceAdd, Int.reduceSub, Int.reduceMul, Int.reduceNeg, Nat.reduceLeDiff, Nat.reducePow, Nat.reduceLT, Int.reduceEq, true_or, or_true, ite_true, ite_false, if_true, if_false, Bool.not_true, Bool.not_false, Bool.false_eq_true, decide_true, decide_false, rIxQ, seqQ_updL, seqQ_updT, tupQ_updT, tSl, tNoPart, tPart, rSlQ, rSlTX, rCatQ, tTupQ, tLstQ, new_upd, tNever, rEqD, rInQ, gTupQ, gCons, gNil, tBM, rAppend, tMakeQ, sFld, tFld, tMeth, tDNewQ, tFor_list, tBM0, rExtend, tLc_list, pick_nil, pick_own, pick_cap, join_some, tYes, tyV, tTry, Ends.gone, tRaise, cxN, tCall, tFor_list, tLc_list, tDc, tyV, tCallKC, gk_33, tNever, rSlQ, rCatTX, rCatTX0, hp,  seqQ_lst hp]
  have g : ∀ (u v z : Int), Kp K p H (upd G1 p (L3 u v z)) := fun u v z => k.trans (Kp.upd hp)
  refine ite2 (fun c => ⟨h0, h0, by omega, ?_⟩) (fun c => ?_)
  · exact q _ _ (Int.emod_nonneg _ (by omega)) (Int.emod_lt_of_pos _ h0) (.inr ⟨_, _, _, upd_same⟩) (g _ _ _)
  · refine ⟨?_, ?_, h0, q _ _ (Int.emod_nonneg _ (by omega)) (Int.emod_lt_of_pos _ h0) (.inr ⟨_, _, _, upd_same⟩) (g _ _ _)⟩
    all_goals omega
def GoodAt (K : PySem.W.Frag) (H : Hp) (T : Addr) (a b c : Int) (s : Str) : Prop := tupQ K H T = some [.int a, .int b, .int c, .str s] ∧ (1 ≤ a ∧ a ≤ 64) ∧ (3 ≤ b ∧ b ≤ 16) ∧ (1 ≤ c ∧ c ≤ 64) ∧ (Th.txt s).plan = true
def spGood (K : PySem.W.Frag) : Sp := fun vs H Q _ => ∃ p, vs = [.ref p] ∧ Wl H p ∧ ∀ (T : Addr) (a b c : Int) (s : Str) (H' : Hp), GoodAt K H' T a b c s → Wl H' p → Kp K p H H' → Q (.ref T) H'
theorem pick3 {d u : Int} (h0 : 0 ≤ d) (h1 : d < 3) {lo hi x y : Int} (hx : lo ≤ x ∧ x ≤ hi) (hy : lo ≤ y ∧ y ≤ hi) (hu : lo ≤ u ∧ u ≤ hi) : ∃ k : Int, atI [V.int x, V.int y, V.int u] d = some (.int k) ∧ lo ≤ k ∧ k ≤ hi := by
  obtain ⟨v, e, m⟩ := atI_in (xs := [V.int x, V.int y, V.int u]) h0 h1
  simp only [List.mem_cons, List.not_mem_nil, or_false] at m
  rcases m with rfl | rfl | rfl
  · exact ⟨_, e, hx⟩
  · exact ⟨_, e, hy⟩
  · exact ⟨_, e, hu⟩
theorem sc__law_good : FnScope ["_law_state", "_law_tray", "_law_fan", "_law_rows"] ["_law_state"] (defScope s__law_good) := ⟨rfl, rfl, rfl, by decide +kernel, rfl, by decide +kernel, by decide +kernel⟩
theorem ok__law_good {f : Addr} {fd : FuncData} (F : Fun K "_law_good" "_law_good" s__law_good f fd) {cF cR cLeaf aP : Addr} {tE t1 t2 t3 t4 : Tok} (B : B K mg cF cR cLeaf aP tE t1 t2 t3 t4) (C__law_digit : Callee P w K mg base "_law_digit" 1 ["_law_state", "_law_base"] (spDigit K)) : FnOk P w K mg base CX0 2 f fd ["_law_state"] (spGood K) := by
  refine F.okJ sc__law_good (fun vs H Q E h => ?_) (fun cdv A outer s H vs Q E hr h => ?_)
  · obtain ⟨p, rfl, _⟩ := h
    rfl
  obtain ⟨p, rfl, hp, q⟩ := h
  refine ⟨_, (bcons (sset (i := 1) sc__law_good.nd rfl (Or.inl rfl) (eix ix_Q (elstQ (acons ei (acons ei (acons (eop op_add ei (ecall C__law_digit (hr.mono (by decide)) rfl (acons (ev 0) (acons ei anil)))) anil)))) (ecall C__law_digit (hr.mono (by decide)) rfl (acons (ev 0) (acons ei anil))) (fun _ _ => rfl)))
      (bcons (sset (i := 2) sc__law_good.nd rfl (Or.inl rfl) (eix ix_Q (elstQ (acons ei (acons ei (acons (eop op_add ei (ecall C__law_digit (hr.mono (by decide)) rfl (acons (ev 0) (acons ei anil)))) anil)))) (ecall C__law_digit (hr.mono (by decide)) rfl (acons (ev 0) (acons ei anil))) (fun _ _ => rfl)))
      (bcons (sset (i := 3) sc__law_good.nd rfl (Or.inl rfl) (eix ix_Q (elstQ (acons ei (acons ei (acons (eop op_add ei (ecall C__law_digit (hr.mono (by decide)) rfl (acons (ev 0) (acons ei anil)))) anil)))) (ecall C__law_digit (hr.mono (by decide)) rfl (acons (ev 0) (acons ei anil))) (fun _ _ => rfl)))
      (bone (sret (etupQ (acons (ev 1) (acons (ev 2) (acons (ev 3) (acons (eix ix_Q (elstQ (acons estr (acons estr anil))) (ecall C__law_digit (hr.mono (by decide)) rfl (acons (ev 0) (acons ei anil))) (fun _ _ => rfl)) anil)))))))))), ?_⟩
  try walk_at "rn"
  refine ⟨p, 64, rfl, hp, by decide, by decide, fun r1 H1 a0 a1 hp1 k1 => ?_⟩
  try walk_at "rn"
  intro b1 n1
  have x1 : Ext K H1 (upd H1 b1 (.lst [.int 1, .int 64, .int (1 + r1)])) := .new n1
  refine ⟨p, 3, rfl, hp1.ext x1, by decide, by decide, fun d1 H2 d10 d11 hp2 k2 => ?_⟩
  have z2 := k2.keep b1 _ upd_same (hp1.ne n1)
  simp only [tSeq, tNext, tIfS, tAsg, gName, gSub, tRet, tRetN, tDrop, tVar, tC, tOp, tUn, rI0, rI, rU, tTest, tB, tAndV, tOrV, tNotV, tAnd, tOr, tNot, tIf, tChain, tCB, tCons, tNil, tLst, tTup, tCallC, List.getElem?_cons_zero, List.getElem?_cons_succ, List.set_cons_zero, List.set_cons_succ, Option.some.injEq, V.int.injEq, V.bl.injEq, V.ref.injEq, V.ty.injEq, V.str.injEq, List.cons.injEq, exists_eq_left', exists_eq_left, exists_and_left, and_true, true_and, and_assoc, cxK, rIxF, rSetL, rEq, rNe, scal, HO.lst.injEq, HO.tup.injEq, upd_none, ixN_10, ixN_20, ixN_21, ixN_30, ixN_31, ixN_32, upd_same, seqAt_updL, seqAt_updT, atI_0, atI_1, atI_2, atI_3, decide_eq_true_eq, L2.start, List.map_cons, List.map_nil, List.length_cons, List.length_nil, Nat.reduceAdd, Nat.reduceSub, List.replicate_succ, List.replicate_zero, List.cons_append, List.nil_append, List.append_nil, tFor_rng1, tFor_rng2, tFor_list, tFor_tup, CDv, CMul, CPow, sizeLine_eq, Int.reduceLE, Int.reduceLT, Int.reducePow, Int.reduceToNat, Int.reduceAdd, Int.reduceSub, Int.reduceMul, Int.reduceNeg, Nat.reduceLeDiff, Nat.reducePow, Nat.reduceLT, Int.reduceEq, true_or, or_true, ite_true, ite_false, if_true, if_false, Bool.not_true, Bool.not_false, Bool.false_eq_true, decide_true, decide_false, rIxQ, seqQ_updL, seqQ_updT, tupQ_updT, tSl, tNoPart, tPart, rSlQ, rSlTX, rCatQ, tTupQ, tLstQ, tNever, rEqD, rInQ, gTupQ, gCons, gNil, tBM, rAppend, tMakeQ, sFld, tFld, tMeth, tDNewQ, tFor_list, tBM0, rExtend, tLc_list, pick_nil, pick_own, pick_cap, join_some, tYes, tyV, tTry, Ends.gone, tRaise, cxN, tCall, tFor_list, tLc_list, tDc, tyV, tCallKC, gk_33, tNever, rSlQ, rCatTX, rCatTX0, seqQ_lst z2]
  obtain ⟨A1, eA, lA, hA⟩ := pick3 (u := 1 + r1) (lo := 1) (hi := 64) (x := 1) (y := 64) d10 d11 (by decide) (by decide) (by omega)
  refine ⟨_, eA, p, 14, rfl, hp2, by decide, by decide, fun r2 H3 a0 a1 hp3 k3 => ?_⟩
  try walk_at "rn"
  intro b2 n2
  have x3 : Ext K H3 (upd H3 b2 (.lst [.int 3, .int 16, .int (3 + r2)])) := .new n2
  refine ⟨p, 3, rfl, hp3.ext x3, by decide, by decide, fun d2 H4 d20 d21 hp4 k4 => ?_⟩
  have z4 := k4.keep b2 _ upd_same (hp3.ne n2)
  simp only [tSeq, tNext, tIfS, tAsg, gName, gSub, tRet, tRetN, tDrop, tVar, tC, tOp, tUn, rI0, rI, rU, tTest, tB, tAndV, tOrV, tNotV, tAnd, tOr, tNot, tIf, tChain, tCB, tCons, tNil, tLst, tTup, tCallC, List.getElem?_cons_zero, List.getElem?_cons_succ, List.set_cons_zero, List.set_cons_succ, Option.some.injEq, V.int.injEq, V.bl.injEq, V.ref.injEq, V.ty.injEq, V.str.injEq, List.cons.injEq, exists_eq_left', exists_eq_left, exists_and_left, and_true, true_and, and_assoc, cxK, rIxF, rSetL, rEq, rNe, scal, HO.lst.injEq, HO.tup.injEq, upd_none, ixN_10, ixN_20, ixN_21, ixN_30, ixN_31, ixN_32, upd_same, seqAt_updL, seqAt_updT, atI_0, atI_1, atI_2, atI_3, decide_eq_true_eq, L2.start, List.map_cons, List.map_nil, List.length_cons, List.length_nil, Nat.reduceAdd, Nat.reduceSub, List.replicate_succ, List.replicate_zero, List.cons_append, List.nil_append, List.append_nil, tFor_rng1, tFor_rng2, tFor_list, tFor_tup, CDv, CMul, CPow, sizeLine_eq, Int.reduceLE, Int.reduceLT, Int.reducePow, Int.reduceToNat, Int.reduceAdd, Int.reduceSub, Int.reduceMul, Int.reduceNeg, Nat.reduceLeDiff, Nat.reducePow, Nat.reduceLT, Int.reduceEq, true_or, or_true, ite_true, ite_false, if_true, if_false, Bool.not_true, Bool.not_false, Bool.false_eq_true, decide_true, decide_false, rIxQ, seqQ_updL, seqQ_updT, tupQ_updT, tSl, tNoPart, tPart, rSlQ, rSlTX, rCatQ, tTupQ, tLstQ, tNever, rEqD, rInQ, gTupQ, gCons, gNil, tBM, rAppend, tMakeQ, sFld, tFld, tMeth, tDNewQ, tFor_list, tBM0, rExtend, tLc_list, pick_nil, pick_own, pick_cap, join_some, tYes, tyV, tTry, Ends.gone, tRaise, cxN, tCall, tFor_list, tLc_list, tDc, tyV, tCallKC, gk_33, tNever, rSlQ, rCatTX, rCatTX0, seqQ_lst z4]
  obtain ⟨B1, eB, lB, hB⟩ := pick3 (u := 3 + r2) (lo := 3) (hi := 16) (x := 3) (y := 16) d20 d21 (by decide) (by decide) (by omega)
  refine ⟨_, eB, p, 64, rfl, hp4, by decide, by decide, fun r3 H5 a0 a1 hp5 k5 => ?_⟩
  try walk_at "rn"
  intro b3 n3
  have x5 : Ext K H5 (upd H5 b3 (.lst [.int 1, .int 64, .int (1 + r3)])) := .new n3
  refine ⟨p, 3, rfl, hp5.ext x5, by decide, by decide, fun d3 H6 d30 d31 hp6 k6 => ?_⟩
  have z6 := k6.keep b3 _ upd_same (hp5.ne n3)
  simp only [tSeq, tNext, tIfS, tAsg, gName, gSub, tRet, tRetN, tDrop, tVar, tC, tOp, tUn, rI0, rI, rU, tTest, tB, tAndV, tOrV, tNotV, tAnd, tOr, tNot, tIf, tChain, tCB, tCons, tNil, tLst, tTup, tCallC, List.getElem?_cons_zero, List.getElem?_cons_succ, List.set_cons_zero, List.set_cons_succ, Option.some.injEq, V.int.injEq, V.bl.injEq, V.ref.injEq, V.ty.injEq, V.str.injEq, List.cons.injEq, exists_eq_left', exists_eq_left, exists_and_left, and_true, true_and, and_assoc, cxK, rIxF, rSetL, rEq, rNe, scal, HO.lst.injEq, HO.tup.injEq, upd_none, ixN_10, ixN_20, ixN_21, ixN_30, ixN_31, ixN_32, upd_same, seqAt_updL, seqAt_updT, atI_0, atI_1, atI_2, atI_3, decide_eq_true_eq, L2.start, List.map_cons, List.map_nil, List.length_cons, List.length_nil, Nat.reduceAdd, Nat.reduceSub, List.replicate_succ, List.replicate_zero, List.cons_append, List.nil_append, List.append_nil, tFor_rng1, tFor_rng2, tFor_list, tFor_tup, CDv, CMul, CPow, sizeLine_eq, Int.reduceLE, Int.reduceLT, Int.reducePow, Int.reduceToNat, Int.reduceAdd, Int.reduceSub, Int.reduceMul, Int.reduceNeg, Nat.reduceLeDiff, Nat.reducePow, Nat.reduceLT, Int.reduceEq, true_or, or_true, ite_true, ite_false, if_true, if_false, Bool.not_true, Bool.not_false, Bool.false_eq_true, decide_true, decide_false, rIxQ, seqQ_updL, seqQ_updT, tupQ_updT, tSl, tNoPart, tPart, rSlQ, rSlTX, rCatQ, tTupQ, tLstQ, tNever, rEqD, rInQ, gTupQ, gCons, gNil, tBM, rAppend, tMakeQ, sFld, tFld, tMeth, tDNewQ, tFor_list, tBM0, rExtend, tLc_list, pick_nil, pick_own, pick_cap, join_some, tYes, tyV, tTry, Ends.gone, tRaise, cxN, tCall, tFor_list, tLc_list, tDc, tyV, tCallKC, gk_33, tNever, rSlQ, rCatTX, rCatTX0, seqQ_lst z6]
  obtain ⟨C1, eC, lC, hC⟩ := pick3 (u := 1 + r3) (lo := 1) (hi := 64) (x := 1) (y := 64) d30 d31 (by decide) (by decide) (by omega)
  refine ⟨_, eC, fun b4 n4 => ?_⟩
  have x7 : Ext K H6 (upd H6 b4 (.lst [.str "fullest", .str "eldest"])) := .new n4
  refine ⟨p, 2, rfl, hp6.ext x7, by decide, by decide, fun d4 H8 d40 d41 hp8 k8 => ?_⟩
  have z8 := k8.keep b4 _ upd_same (hp6.ne n4)
  simp only [tSeq, tNext, tIfS, tAsg, gName, gSub, tRet, tRetN, tDrop, tVar, tC, tOp, tUn, rI0, rI, rU, tTest, tB, tAndV, tOrV, tNotV, tAnd, tOr, tNot, tIf, tChain, tCB, tCons, tNil, tLst, tTup, tCallC, List.getElem?_cons_zero, List.getElem?_cons_succ, List.set_cons_zero, List.set_cons_succ, Option.some.injEq, V.int.injEq, V.bl.injEq, V.ref.injEq, V.ty.injEq, V.str.injEq, List.cons.injEq, exists_eq_left', exists_eq_left, exists_and_left, and_true, true_and, and_assoc, cxK, rIxF, rSetL, rEq, rNe, scal, HO.lst.injEq, HO.tup.injEq, upd_none, ixN_10, ixN_20, ixN_21, ixN_30, ixN_31, ixN_32, upd_same, seqAt_updL, seqAt_updT, atI_0, atI_1, atI_2, atI_3, decide_eq_true_eq, L2.start, List.map_cons, List.map_nil, List.length_cons, List.length_nil, Nat.reduceAdd, Nat.reduceSub, List.replicate_succ, List.replicate_zero, List.cons_append, List.nil_append, List.append_nil, tFor_rng1, tFor_rng2, tFor_list, tFor_tup, CDv, CMul, CPow, sizeLine_eq, Int.reduceLE, Int.reduceLT, Int.reducePow, Int.reduceToNat, Int.reduceAdd, Int.reduceSub, Int.reduceMul, Int.reduceNeg, Nat.reduceLeDiff, Nat.reducePow, Nat.reduceLT, Int.reduceEq, true_or, or_true, ite_true, ite_false, if_true, if_false, Bool.not_true, Bool.not_false, Bool.false_eq_true, decide_true, decide_false, rIxQ, seqQ_updL, seqQ_updT, tupQ_updT, tSl, tNoPart, tPart, rSlQ, rSlTX, rCatQ, tTupQ, tLstQ, tNever, rEqD, rInQ, gTupQ, gCons, gNil, tBM, rAppend, tMakeQ, sFld, tFld, tMeth, tDNewQ, tFor_list, tBM0, rExtend, tLc_list, pick_nil, pick_own, pick_cap, join_some, tYes, tyV, tTry, Ends.gone, tRaise, cxN, tCall, tFor_list, tLc_list, tDc, tyV, tCallKC, gk_33, tNever, rSlQ, rCatTX, rCatTX0, seqQ_lst z8]
  obtain ⟨v, ev, mv⟩ := atI_in (xs := [V.str "fullest", V.str "eldest"]) d40 d41
  have kk := k1.trans (x1.kp.trans (k2.trans (k3.trans (x3.kp.trans (k4.trans (k5.trans (x5.kp.trans (k6.trans (x7.kp.trans k8)))))))))
  obtain ⟨sx, rfl, hs⟩ : ∃ sx : Str, v = .str sx ∧ (Th.txt sx).plan = true := by
    simp only [List.mem_cons, List.not_mem_nil, or_false] at mv
    rcases mv with rfl | rfl
    · exact ⟨_, rfl, by decide +kernel⟩
    · exact ⟨_, rfl, by decide +kernel⟩
  exact ⟨_, ev, fun T nT => q T _ _ _ _ _ ⟨tupQ_updT, ⟨lA, hA⟩, ⟨lB, hB⟩, ⟨lC, hC⟩, hs⟩ (hp8.upd (hp8.ne nT).symm) (kk.trans (.new nT))⟩
def spTruth : Sp := fun vs H Q _ => ∃ a b, vs = [.bl a, .bl b] ∧ Q (.bl (decide (a = b))) H
theorem sc__law_truth : FnScope ["_law_found", "_law_due"] ["_law_found", "_law_due"] (defScope s__law_truth) := ⟨rfl, rfl, rfl, by decide +kernel, rfl, by decide +kernel, by decide +kernel⟩
theorem ok__law_truth {f : Addr} {fd : FuncData} (F : Fun K "_law_truth" "_law_truth" s__law_truth f fd) {cF cR cLeaf aP : Addr} {tE t1 t2 t3 t4 : Tok} (B : B K mg cF cR cLeaf aP tE t1 t2 t3 t4) : FnOk P w K mg base CX0 1 f fd ["_law_found", "_law_due"] spTruth := by
  refine F.okJ sc__law_truth (fun vs H Q E h => ?_) (fun cdv A outer s H vs Q E hr h => ?_)
  · obtain ⟨a, b, rfl, _⟩ := h
    rfl
  obtain ⟨a, b, rfl, q⟩ := h
  refine ⟨_, (bone (sret (eand (ecallB call_isinstQ rfl B.isinstance bt_isinstance (acons (ev 0) (acons (etyp rfl B.bool bt_bool) anil))) (eone (ecmp op_eq (ev 0) (ev 1) (nomark _)))))), ?_⟩
  try walk_at "rn"
  refine ⟨_, .inl (.bl a), true, rfl, ?_⟩
  rw [if_pos rfl]
  exact q
theorem sc__law_between : FnScope ["_law_thing", "_law_low", "_law_high"] ["_law_thing", "_law_low", "_law_high"] (defScope s__law_between) := ⟨rfl, rfl, rfl, by decide +kernel, rfl, by decide +kernel, by decide +kernel⟩
theorem ok__law_between {f : Addr} {fd : FuncData} (F : Fun K "_law_between" "_law_between" s__law_between f fd) {cF cR cLeaf aP : Addr} {tE t1 t2 t3 t4 : Tok} (B : B K mg cF cR cLeaf aP tE t1 t2 t3 t4) : FnOk P w K mg base CX0 1 f fd ["_law_thing", "_law_low", "_law_high"] (spWhole K) := by
  refine F.okJ sc__law_between (fun vs H Q E h => ?_) (fun cdv A outer s H vs Q E hr h => ?_)
  · obtain ⟨p, t, v, lo, hi, rfl, _⟩ := h
    rfl
  obtain ⟨p, t, v, lo, hi, rfl, ht, q⟩ := h
  refine ⟨_, (bone (sret (eand (ecallB call_isinstQ rfl B.isinstance bt_isinstance (acons (ev 0) (acons (etyp rfl B.int bt_int) anil))) (eand (enot (ecallB call_isinstQ rfl B.isinstance bt_isinstance (acons (ev 0) (acons (etyp rfl B.bool bt_bool) anil)))) (eone (echain op_le op_le (ev 1) (ev 0) (ev 2))))))), ?_⟩
  try walk_at "rn"
  have ty := ht.ty
  cases t with
  | num i =>
    cases ht
    refine ⟨_, ty, true, rfl, ?_⟩
    rw [if_pos rfl]
    refine ⟨_, ty, false, rfl, ?_⟩
    rw [if_pos (by decide)]
    refine ⟨i, rfl, ?_⟩
    simp only [Th.wh] at q
    split
    · rename_i c
      simp only [c, true_and] at q
      exact ⟨i, rfl, q⟩
    · rename_i c
      simp only [c, false_and, decide_false] at q
      exact q
  | tru b =>
    refine ⟨_, ty, true, rfl, ?_⟩
    rw [if_pos rfl]
    refine ⟨_, ty, true, rfl, ?_⟩
    rw [if_neg (by decide)]
    exact q
  | _ =>
    refine ⟨_, ty, false, rfl, ?_⟩
    rw [if_neg (by decide)]
    exact q
def spRuleX (K : PySem.W.Frag) : Sp := fun vs H Q _ => ∃ p r v, vs = [v] ∧ RlAt K p H r v ∧ ∀ H', Ext K H H' → Q (.bl r.ok) H'
theorem sc__law_is_rule : FnScope ["_law_thing"] ["_law_thing"] (defScope s__law_is_rule) := ⟨rfl, rfl, rfl, by decide +kernel, rfl, by decide +kernel, by decide +kernel⟩
theorem ok__law_is_rule {f : Addr} {fd : FuncData} (F : Fun K "_law_is_rule" "_law_is_rule" s__law_is_rule f fd) {cF cR cLeaf aP : Addr} {tE t1 t2 t3 t4 : Tok} (B : B K mg cF cR cLeaf aP tE t1 t2 t3 t4) (C__law_between : Callee P w K mg base "_law_between" 1 ["_law_thing", "_law_low", "_law_high"] (spWhole K)) : FnOk P w K mg base CX0 2 f fd ["_law_thing"] (spRuleX K) := by
  refine F.okJ sc__law_is_rule (fun vs H Q E h => ?_) (fun cdv A outer s H vs Q E hr h => ?_)
  · obtain ⟨p, r, v, rfl, _⟩ := h
    rfl
  obtain ⟨p, r, v, rfl, hv, q⟩ := h
  refine ⟨_, (bcons (sif (tw (wor (tnot (tval (ecallB call_isinstQ rfl B.isinstance bt_isinstance (acons (ev 0) (acons (etyp rfl B.tuple bt_tuple) anil))))) (wor1 (tcmp op_ne (ecallB call_lenQ rfl B.len bt_len (acons (ev 0) anil)) ei (nomark _))))) (bone (sret ebl)) bnil)
      (bcons (sif (tw (wor (tnot (tval (ecall C__law_between (hr.mono (by decide)) rfl (acons (eix ix_Q (ev 0) ei (fun _ _ => rfl)) (acons ei (acons ei anil)))))) (wor1 (tnot (tval (ecall C__law_between (hr.mono (by decide)) rfl (acons (eix ix_Q (ev 0) ei (fun _ _ => rfl)) (acons ei (acons ei anil))))))))) (bone (sret ebl)) bnil)
      (bone (sret (eand (ecall C__law_between (hr.mono (by decide)) rfl (acons (eix ix_Q (ev 0) ei (fun _ _ => rfl)) (acons ei (acons ei anil)))) (eand (ecallB call_isinstQ rfl B.isinstance bt_isinstance (acons (eix ix_Q (ev 0) ei (fun _ _ => rfl)) (acons (etyp rfl B.str bt_str) anil))) (eone (ecmp op_inQ (eix ix_Q (ev 0) ei (fun _ _ => rfl)) (elstQ (acons estr (acons estr anil))) (by with_unfolding_all rfl))))))))), ?_⟩
  try walk_at "rn"
  rcases rl_cases hv with ⟨ty, nt, hk, e⟩ | ⟨a, vs, ts, rfl, rfl, ha, hs, ne⟩ | ⟨a, va, vb, vc, vd, ta, tb, tc, td, rfl, rfl, ha, h1, h2, h3, h4⟩
  · refine ⟨_, nt, false, hk, ?_⟩
    rw [e] at q
    exact q _ .refl
  · refine ⟨_, .tup ha, true, rfl, ?_⟩
    rw [if_neg (by decide)]
    refine ⟨a, rfl, vs, seqQ_T ha, ?_⟩
    rw [if_pos (by rw [hs.len]; simp only [Bool.not_eq_true', decide_eq_false_iff_not]; omega)]
    rw [ok_four ne] at q
    exact q _ .refl
  · have sq := seqQ_T ha
    refine ⟨_, .tup ha, true, rfl, ?_⟩
    rw [if_neg (by decide)]
    refine ⟨a, rfl, _, sq, ?_⟩
    rw [if_neg (by simp)]
    refine ⟨a, rfl, _, sq, _, atI_0, p, ta, va, _, _, rfl, h1, _, rfl, ?_⟩
    simp only [Rl.ok] at q
    cases c1 : ta.wh 1 64 with
    | false =>
      rw [c1] at q
      rw [if_pos (by decide)]
      exact q _ .refl
    | true =>
      rw [c1] at q
      rw [if_neg (by decide)]
      refine ⟨a, rfl, _, sq, _, atI_1, p, tb, vb, _, _, rfl, h2, _, rfl, ?_⟩
      cases c2 : tb.wh 3 16 with
      | false =>
        rw [c2] at q
        rw [if_pos (by decide)]
        exact q _ .refl
      | true =>
        rw [c2] at q
        rw [if_neg (by decide)]
        refine ⟨a, rfl, _, sq, _, atI_2, p, tc, vc, _, _, rfl, h3, _, rfl, ?_⟩
        cases c3 : tc.wh 1 64 with
        | false =>
          rw [c3] at q
          rw [if_neg (by decide)]
          exact q _ .refl
        | true =>
          rw [c3] at q
          rw [if_pos rfl]
          refine ⟨a, rfl, _, sq, _, atI_3, ?_⟩
          have ty := h4.ty
          cases td with
          | txt x =>
            cases h4
            refine ⟨_, ty, true, rfl, ?_⟩
            rw [if_pos rfl]
            exact ⟨a, rfl, _, sq, _, atI_3, fun L nL => ⟨rfl, rfl, q _ (.new nL)⟩⟩
          | _ =>
            refine ⟨_, ty, false, rfl, ?_⟩
            rw [if_neg (by decide)]
            exact q _ .refl
theorem tupW {H H' : Hp} {p a : Addr} {xs : List V} (k : Kp K p H H') (hp : Wl H p) (h : tupQ K H a = some xs) : tupQ K H' a = some xs := by
  rcases hp with ⟨x, hp⟩ | ⟨x, y, z, hp⟩
  · exact k.tup hp h
  · exact k.tup hp h
theorem ThsAt.append {p : Addr} {H : Hp} : ∀ {ts us : List Th} {vs ws : List V}, ThsAt K p H ts vs → ThsAt K p H us ws → ThsAt K p H (ts ++ us) (vs ++ ws)
  | [], us, _, ws, h, g => by cases h; exact g
  | t :: ts, us, _, ws, ⟨v, r, e, h1, h2⟩, g => ⟨v, r ++ ws, by rw [e]; rfl, h1, ThsAt.append h2 g⟩
theorem ThsAt.take {p : Addr} {H : Hp} : ∀ {ts : List Th} {vs : List V} (n : Nat), ThsAt K p H ts vs → ThsAt K p H (ts.take n) (vs.take n)
  | [], _, n, h => by cases h; simp only [List.take_nil]; rfl
  | t :: ts, _, 0, h => rfl
  | t :: ts, _, n + 1, ⟨v, r, e, h1, h2⟩ => ⟨v, r.take n, by rw [e]; rfl, h1, ThsAt.take n h2⟩
theorem ThsAt.drop {p : Addr} {H : Hp} : ∀ {ts : List Th} {vs : List V} (n : Nat), ThsAt K p H ts vs → ThsAt K p H (ts.drop n) (vs.drop n)
  | [], _, n, h => by cases h; simp only [List.drop_nil]; rfl
  | t :: ts, _, 0, h => h
  | t :: ts, _, n + 1, ⟨v, r, e, h1, h2⟩ => by rw [e]; exact ThsAt.drop n h2
def spSpoilt (K : PySem.W.Frag) : Sp := fun vs H Q _ => ∃ p T a b c s, vs = [.ref p, .ref T] ∧ Wl H p ∧ GoodAt K H T a b c s ∧ ∀ (r : Rl) (v : V) (H' : Hp), RlAt K p H' r v → Wl H' p → Kp K p H H' → Q v H'
theorem sc__law_spoilt : FnScope ["_law_state", "_law_rule", "_law_way", "_law_place", "_law_some"] ["_law_state", "_law_rule"] (defScope s__law_spoilt) := ⟨rfl, rfl, rfl, by decide +kernel, rfl, by decide +kernel, by decide +kernel⟩
theorem ok__law_spoilt {f : Addr} {fd : FuncData} (F : Fun K "_law_spoilt" "_law_spoilt" s__law_spoilt f fd) {cF cR cLeaf aP : Addr} {tE t1 t2 t3 t4 : Tok} (B : B K mg cF cR cLeaf aP tE t1 t2 t3 t4) (C__law_digit : Callee P w K mg base "_law_digit" 1 ["_law_state", "_law_base"] (spDigit K)) : FnOk P w K mg base CX0 2 f fd ["_law_state", "_law_rule"] (spSpoilt K) := by
  refine F.okJ sc__law_spoilt (fun vs H Q E h => ?_) (fun cdv A outer s H vs Q E hr h => ?_)
  · obtain ⟨p, T, a, b, c, s, rfl, _⟩ := h
    rfl
  obtain ⟨p, T, a, b, c, s, rfl, hp, gd, q⟩ := h
  refine ⟨_, (bcons (sset (i := 2) sc__law_spoilt.nd rfl (Or.inl rfl) (ecall C__law_digit (hr.mono (by decide)) rfl (acons (ev 0) (acons ei anil))))
      (bcons (sset (i := 3) sc__law_spoilt.nd rfl (Or.inl rfl) (ecall C__law_digit (hr.mono (by decide)) rfl (acons (ev 0) (acons ei anil))))
      (bcons (sset (i := 4) sc__law_spoilt.nd rfl (Or.inl rfl) (elstQ (acons ei (acons ei (acons ei (acons ei (acons ei (acons ei (acons ei (acons ei (acons (eun un_neg ei) (acons (epowc 1000000000) (acons ebl (acons ebl (acons enon (acons estr (acons estr (acons estr (acons estr (acons estr (acons (elstQ (acons ei anil)) (acons (etupQ (acons ei anil)) anil))))))))))))))))))))))
      (bcons (sif (tcmp op_eq (ev 2) ei (nomark _)) (bone (sret (ecallTy call_list_ofQ rfl B.list bt_list (acons (ev 1) anil)))) bnil)
      (bcons (sif (tcmp op_eq (ev 2) ei (nomark _)) (bone (sret (eop op_catTX0 (ev 1) (etupQ (acons ei anil))))) bnil)
      (bcons (sif (tcmp op_eq (ev 2) ei (nomark _)) (bone (sret (eop op_catTX0 (eslice sl_tupX (ev 1) onone (osome (ev 3))) (eslice sl_tupX (ev 1) (osome (eop op_add (ev 3) ei)) onone)))) bnil)
      (bcons (sif (tcmp op_eq (ev 2) ei (nomark _)) (bone (sret (eix ix_Q (elstQ (acons enon (acons estr (acons ei (acons (etupQ (acons (ev 1) anil)) (acons (etupQ anil) anil)))))) (ecall C__law_digit (hr.mono (by decide)) rfl (acons (ev 0) (acons ei anil))) (fun _ _ => rfl)))) bnil)
      (bone (sret (eop op_catTX0 (eop op_catTX0 (eslice sl_tupX (ev 1) onone (osome (ev 3))) (etupQ (acons (eix ix_Q (ev 4) (ecall C__law_digit (hr.mono (by decide)) rfl (acons (ev 0) (acons ei anil))) (fun _ _ => rfl)) anil))) (eslice sl_tupX (ev 1) (osome (eop op_add (ev 3) ei)) onone))))))))))), ?_⟩
  try walk_at "rn"
  refine ⟨p, 8, rfl, hp, by decide, by decide, fun way H1 _ _ hp1 k1 => ?_⟩
  try walk_at "rn"
  refine ⟨p, 4, rfl, hp1, by decide, by decide, fun pl H2 pl0 pl1 hp2 k2 => ?_⟩
  try walk_at "rn"
  intro L nL T3 nT3 S nS
  have w2 := Ext.new (K := K) (o := .lst [V.int 0, V.int 1, V.int 2, V.int 3, V.int 16, V.int 17, V.int 64, V.int 65, V.int (-1), V.int 1000000000, V.bl true, V.bl false, V.non, V.str (Str.ofString "3"), V.str (Str.ofString "fullest"), V.str (Str.ofString "eldest"), V.str (Str.ofString "full"), V.str (Str.ofString ""), V.ref L, V.ref T3]) nS
  have zT3 := w2.same _ _ (upd_same (a := T3))
  have w1 := (Ext.new nT3).trans w2
  have zL := w1.same _ _ (upd_same (a := L))
  have x3 := (Ext.new nL).trans w1
  have zS : (upd (upd (upd H2 L (.lst [.int 3])) T3 (.tup [.int 3])) S (.lst [V.int 0, V.int 1, V.int 2, V.int 3, V.int 16, V.int 17, V.int 64, V.int 65, V.int (-1), V.int 1000000000, V.bl true, V.bl false, V.non, V.str (Str.ofString "3"), V.str (Str.ofString "fullest"), V.str (Str.ofString "eldest"), V.str (Str.ofString "full"), V.str (Str.ofString ""), V.ref L, V.ref T3])) S = some (.lst [V.int 0, V.int 1, V.int 2, V.int 3, V.int 16, V.int 17, V.int 64, V.int 65, V.int (-1), V.int 1000000000, V.bl true, V.bl false, V.non, V.str (Str.ofString "3"), V.str (Str.ofString "fullest"), V.str (Str.ofString "eldest"), V.str (Str.ofString "full"), V.str (Str.ofString ""), V.ref L, V.ref T3]) := upd_same
  have nLp : L ≠ p := hp2.ne nL
  have nSp : S ≠ p := hp2.ne (new_back ((Ext.new nL).trans (.new nT3)) nS)
  generalize (upd (upd (upd H2 L (.lst [.int 3])) T3 (.tup [.int 3])) S (.lst [V.int 0, V.int 1, V.int 2, V.int 3, V.int 16, V.int 17, V.int 64, V.int 65, V.int (-1), V.int 1000000000, V.bl true, V.bl false, V.non, V.str (Str.ofString "3"), V.str (Str.ofString "fullest"), V.str (Str.ofString "eldest"), V.str (Str.ofString "full"), V.str (Str.ofString ""), V.ref L, V.ref T3])) = H3 at zT3 zL x3 zS
  have hp3 := hp2.ext x3
  have kk := k1.trans (k2.trans x3.kp)
  have gd3 := x3.tup (tupW k2 hp1 (tupW k1 hp gd.1))
  clear w1 w2 k1 k2 hp1 hp2 hp x3
  have gt : ∀ {G : Hp}, ThsAt K p G [.num a, .num b, .num c, .txt s] [.int a, .int b, .int c, .str s] := ⟨_, _, rfl, rfl, _, _, rfl, rfl, _, _, rfl, rfl, _, _, rfl, rfl, rfl⟩
  obtain ⟨pl, rfl⟩ : ∃ k : Nat, pl = k := ⟨pl.toNat, by omega⟩
  refine ite2 (fun _ => ?_) (fun _ => ite2 (fun _ => ?_) (fun _ => ite2 (fun _ => ?_) (fun _ => ite2 (fun _ => ?_) (fun _ => ?_))))
  · refine ⟨_, seqQ_T gd3, fun l nl => q .no _ _ (.inr (.inr (.inr ⟨l, _, rfl, hp3.ne nl, upd_same⟩))) (hp3.upd (hp3.ne nl).symm) (kk.trans (.new nl))⟩
  · intro t nt
    have x4 : Ext K H3 (upd H3 t (.tup [.int 3])) := .new nt
    refine ⟨_, x4.tup gd3, by simp only [List.length_cons, List.length_nil]; omega, fun y G ty x5 => ?_⟩
    have h3 : ThsAt K p G [.num 3] [.int 3] := ⟨_, _, rfl, rfl, rfl⟩
    exact q (.tp ([.num a, .num b, .num c, .txt s] ++ [.num 3])) _ _ ⟨y, _, rfl, ty, gt.append h3⟩ ((hp3.ext x4).ext x5) (kk.trans (x4.trans x5).kp)
  · refine ⟨_, gd3, fun y G ty x4 => ⟨_, x4.tup gd3, fun z G2 tz x5 => ⟨_, x5.tup ty, _, tz, ?_, fun u G3 tu x6 => ?_⟩⟩⟩
    · have l1 := cutV_length [V.int a, V.int b, V.int c, V.str s] none (some (pl : Int))
      have l2 := cutV_length [V.int a, V.int b, V.int c, V.str s] (some ((pl : Int) + 1)) none
      simp only [List.length_cons, List.length_nil] at l1 l2
      omega
    · have e1 : ((pl : Int) + 1) = ((pl + 1 : Nat) : Int) := rfl
      rw [e1, cutV_from, cutV_to] at tu
      exact q (.tp ([.num a, .num b, .num c, .txt s].take pl ++ [.num a, .num b, .num c, .txt s].drop (pl + 1))) _ _ ⟨u, _, rfl, tu, (gt.take pl).append (gt.drop (pl + 1))⟩ (((hp3.ext x4).ext x5).ext x6) (kk.trans (x4.trans (x5.trans x6)).kp)
  · intro t1 m1 t2 m2 l3 m3
    have w2 := Ext.new (K := K) (o := .lst [V.non, V.str (Str.ofString "rule"), V.int 4, V.ref t1, V.ref t2]) m3
    have zt2 := w2.same _ _ (upd_same (a := t2))
    have w1 := (Ext.new m2).trans w2
    have zt1 := w1.same _ _ (upd_same (a := t1))
    have x4 := (Ext.new m1).trans w1
    have zl3 : (upd (upd (upd H3 t1 (.tup [V.ref T])) t2 (.tup [])) l3 (.lst [V.non, V.str (Str.ofString "rule"), V.int 4, V.ref t1, V.ref t2])) l3 = some (.lst [V.non, V.str (Str.ofString "rule"), V.int 4, V.ref t1, V.ref t2]) := upd_same
    have nl3 : l3 ≠ p := hp3.ne (new_back ((Ext.new m1).trans (.new m2)) m3)
    generalize (upd (upd (upd H3 t1 (.tup [V.ref T])) t2 (.tup [])) l3 (.lst [V.non, V.str (Str.ofString "rule"), V.int 4, V.ref t1, V.ref t2])) = H4 at zt1 zt2 x4 zl3
    have hp4 := hp3.ext x4
    refine ⟨p, 5, rfl, hp4, by decide, by decide, fun d H5 d0 d1 hp5 k5 => ?_⟩
    obtain ⟨v, ev, mv⟩ := atI_in (xs := [V.non, V.str (Str.ofString "rule"), V.int 4, V.ref t1, V.ref t2]) d0 d1
    have k6 := kk.trans (x4.kp.trans k5)
    refine ⟨d, rfl, _, seqQ_lst (k5.keep _ _ zl3 nl3), v, ev, ?_⟩
    simp only [List.mem_cons, List.not_mem_nil, or_false] at mv
    rcases mv with rfl | rfl | rfl | rfl | rfl
    · exact q .no _ _ (.inl rfl) hp5 k6
    · exact q .no _ _ (.inr (.inr (.inl ⟨_, rfl⟩))) hp5 k6
    · exact q .no _ _ (.inr (.inl ⟨_, rfl⟩)) hp5 k6
    · have h3 : ThsAt K p H5 [.tup] [.ref T] := ⟨_, _, rfl, ⟨T, _, rfl, tupW k5 hp4 (x4.tup gd3)⟩, rfl⟩
      exact q (.tp [.tup]) _ _ ⟨t1, _, rfl, tupW k5 hp4 (tupQ_tup zt1), h3⟩ hp5 k6
    · exact q (.tp []) _ _ ⟨t2, _, rfl, tupW k5 hp4 (tupQ_tup zt2), rfl⟩ hp5 k6
  · refine ⟨_, gd3, fun y G ty x4 => ?_⟩
    have hp4 := hp3.ext x4
    refine ⟨p, 20, rfl, hp4, by decide, by decide, fun d H5 d0 d1 hp5 k5 => ?_⟩
    obtain ⟨v, ev, mv⟩ := atI_in (xs := [V.int 0, V.int 1, V.int 2, V.int 3, V.int 16, V.int 17, V.int 64, V.int 65, V.int (-1), V.int 1000000000, V.bl true, V.bl false, V.non, V.str (Str.ofString "3"), V.str (Str.ofString "fullest"), V.str (Str.ofString "eldest"), V.str (Str.ofString "full"), V.str (Str.ofString ""), V.ref L, V.ref T3]) d0 d1
    have k6 := kk.trans (x4.kp.trans k5)
    refine ⟨d, rfl, _, seqQ_lst (k5.keep _ _ (x4.same _ _ zS) nSp), v, ev, fun t1 m1 => ?_⟩
    obtain ⟨th, hth⟩ : ∃ th, ThAt K p H5 th v := by
      simp only [List.mem_cons, List.not_mem_nil, or_false] at mv
      rcases mv with rfl | rfl | rfl | rfl | rfl | rfl | rfl | rfl | rfl | rfl | rfl | rfl | rfl | rfl | rfl | rfl | rfl | rfl | rfl | rfl
      iterate 10 exact ⟨.num _, rfl⟩
      · exact ⟨.tru _, rfl⟩
      · exact ⟨.tru _, rfl⟩
      · exact ⟨.non, rfl⟩
      iterate 5 exact ⟨.txt _, rfl⟩
      · exact ⟨.lst, L, _, rfl, nLp, k5.keep _ _ (x4.same _ _ zL) nLp⟩
      · exact ⟨.tup, T3, _, rfl, tupW k5 hp4 (x4.tup (tupQ_tup zT3))⟩
    have x6 : Ext K H5 (upd H5 t1 (.tup [v])) := .new m1
    have ty6 := x6.tup (tupW k5 hp4 ty)
    have gd6 := x6.tup (tupW k5 hp4 (x4.tup gd3))
    have hth6 := hth.ext x6
    have hp6 := hp5.ext x6
    have k7 := k6.trans x6.kp
    generalize upd H5 t1 (.tup [v]) = H6 at ty6 gd6 hth6 hp6 k7
    have e1 : ((pl : Int) + 1) = ((pl + 1 : Nat) : Int) := rfl
    rw [cutV_to] at ty6
    have lt : ∀ k, ([V.int a, V.int b, V.int c, V.str s].take k).length ≤ 4 := fun k => by rw [List.length_take]; exact Nat.min_le_right _ _
    have ld : ∀ k, ([V.int a, V.int b, V.int c, V.str s].drop k).length ≤ 4 := fun k => by rw [List.length_drop]; exact Nat.sub_le _ _
    refine ⟨_, ty6, by have := lt pl; omega, fun y2 G2 ty2 x7 => ⟨_, x7.tup gd6, fun z G3 tz x8 => ⟨_, x8.tup ty2, _, tz, ?_, fun u G4 tu x9 => ?_⟩⟩⟩
    · rw [e1, cutV_from, List.length_append, List.length_singleton]
      have := lt pl
      have := ld (pl + 1)
      omega
    · rw [e1, cutV_from] at tu
      have x10 := x7.trans (x8.trans x9)
      have h3 : ThsAt K p G4 [th] [v] := ⟨_, _, rfl, hth6.ext x10, rfl⟩
      exact q (.tp ([.num a, .num b, .num c, .txt s].take pl ++ [th] ++ [.num a, .num b, .num c, .txt s].drop (pl + 1))) _ _ ⟨u, _, rfl, tu, ((gt.take pl).append h3).append (gt.drop (pl + 1))⟩ (hp6.ext x10) (k7.trans x10.kp)
end
section
variable {P : Program} {w : World} {K : PySem.W.Frag} {mg : Str → Option Value} {base : Heap}
def spStands (K : PySem.W.Frag) : Sp := fun vs H Q _ => ∃ p r v, vs = [v] ∧ RlAt K p H r v ∧ r.ok = true ∧ ∀ H', Ext K H H' → Q (.bl true) H'
theorem th_num {t : Th} {lo hi : Int} (h : t.wh lo hi = true) : ∃ i, t = .num i := by
  cases t with
  | num i => exact ⟨i, rfl⟩
  | _ => cases h
theorem th_txt {t : Th} (h : t.plan = true) : ∃ s, t = .txt s := by
  cases t with
  | txt s => exact ⟨s, rfl⟩
  | _ => cases h
theorem good_data {p : Addr} {H : Hp} {r : Rl} {v : V} (h : RlAt K p H r v) (ok : r.ok = true) : ∃ d, Is K H d v ∧ SeqAt.shaped d = true ∧ PyData.eqv d d = true := by
  rcases rl_cases h with ⟨ty, _, _, e⟩ | ⟨a, vs, ts, rfl, rfl, ha, hs, ne⟩ | ⟨a, va, vb, vc, vd, ta, tb, tc, td, rfl, rfl, ha, h1, h2, h3, h4⟩
  · rw [e] at ok; cases ok
  · rw [ok_four ne] at ok; cases ok
  · simp only [Rl.ok, Bool.and_eq_true] at ok
    obtain ⟨⟨⟨o1, o2⟩, o3⟩, o4⟩ := ok
    obtain ⟨a1, rfl⟩ := th_num o1
    obtain ⟨b1, rfl⟩ := th_num o2
    obtain ⟨c1, rfl⟩ := th_num o3
    obtain ⟨s1, rfl⟩ := th_txt o4
    cases h1
    cases h2
    cases h3
    cases h4
    have sd : SeqAt.shaped (.tuple [.int a1, .int b1, .int c1, .str s1]) = true := by
      have k : s1 = "fullest" ∨ s1 = "eldest" := by
        simp only [Th.plan, inV, List.any_cons, List.any_nil, eqV, Bool.or_false, Bool.or_eq_true, beq_iff_eq] at o4
        rcases o4 with h | h
        · exact .inl h.symm
        · exact .inr h.symm
      have e1 : PyData.strOk "fullest" = true := by decide +kernel
      have e2 : PyData.strOk "eldest" = true := by decide +kernel
      rcases k with rfl | rfl
      · simp only [SeqAt.shaped, PyData.canLay0, PyData.canLayAll0, e1, Bool.and_self, Bool.true_and]
        rfl
      · simp only [SeqAt.shaped, PyData.canLay0, PyData.canLayAll0, e2, Bool.and_self, Bool.true_and]
        rfl
    refine ⟨.tuple [.int a1, .int b1, .int c1, .str s1], ⟨a, _, rfl, tupQ_sq ha, ?_⟩, sd, eqv_refl _ (SeqAt.canLay_of_shaped sd)⟩
    exact ⟨_, _, rfl, rfl, _, _, rfl, rfl, _, _, rfl, rfl, _, _, rfl, rfl, rfl⟩
theorem isL {H : Hp} {a : Addr} (h : H a = some (.lst [])) : Is K H (.list []) (.ref a) := ⟨a, [], rfl, SqL.of h, rfl⟩
theorem eqL : PyData.eqv (.list []) (.list []) = true := eqv_refl _ (SeqAt.canLay_of_shaped rfl)
theorem sc__law_stands : FnScope ["_law_rule", "_law_store"] ["_law_rule"] (defScope s__law_stands) := ⟨rfl, rfl, rfl, by decide +kernel, rfl, by decide +kernel, by decide +kernel⟩
theorem ok__law_stands {f cStore cHouse : Addr} {fd : FuncData} (F : Fun K "_law_stands" "_law_stands" s__law_stands f fd) {cF cR cLeaf aP : Addr} {tE t1 t2 t3 t4 : Tok} (B : B K mg cF cR cLeaf aP tE t1 t2 t3 t4) (M_Store : Maker P w K mg base "Store" 4 ["self", "rule"] [] cStore (spInitStore K cStore cHouse cLeaf)) (MC_Store_marks : MethC P w K mg base cStore "marks" 1 ["self"] [] (spMarks K cStore cHouse cLeaf)) (MC_Store_stretch : MethC P w K mg base cStore "stretch" 9 ["self", "low", "high", "at", "most", "back"] [.int 0, .int 1000000000000, .non, .non, .bl false] (spStretch K cStore cHouse cLeaf)) (MC_Store___len__ : MethC P w K mg base cStore "__len__" 8 ["self"] [] (spLen0 K cStore cHouse cLeaf)) (MC_Store_steps : MethC P w K mg base cStore "steps" 2 ["self"] [] (spMarks K cStore cHouse cLeaf)) (c_Store : Cls K cStore) (n_rule : NoAttr K cStore "rule") (n_last : NoAttr K cStore "last") : FnOk P w K mg base CX0 10 f fd ["_law_rule"] (spStands K) := by
  refine F.okJ sc__law_stands (fun vs H Q E h => ?_) (fun cdv A outer s H vs Q E hr h => ?_)
  · obtain ⟨p, r, v, rfl, _⟩ := h
    rfl
  obtain ⟨p, r, v, rfl, hv, ok, q⟩ := h
  refine ⟨_, (bcons (sset (i := 1) sc__law_stands.nd rfl (Or.inl rfl) (emake M_Store (hr.mono (by decide)) rfl (acons (ev 0) anil)))
      (bcons (sif (tw (wor (tcmp (op_neD hr.units) (efld (ev 1)) (ev 0) (nomark _)) (wor (tcmp op_ne (efld (ev 1)) ei (nomark _)) (wor1 (tval (ecallB call_isinstQ rfl B.isinstance bt_isinstance (acons (efld (ev 1)) (acons (etyp rfl B.bool bt_bool) anil)))))))) (bone (sret ebl)) bnil)
      (bone (sret (eand (ecmp (op_eqD hr.units) (emeth0 MC_Store_marks c_Store (hr.mono (by decide)) (ev 1)) (elstQ anil) (nomark _)) (eand (ecmp (op_eqD hr.units) (emeth0 MC_Store_stretch c_Store (hr.mono (by decide)) (ev 1)) (elstQ anil) (nomark _)) (eand (ecmp op_eq (ecallB (call_lenO MC_Store___len__ (hr.mono (by decide))) rfl B.len bt_len (acons (ev 1) anil)) ei (nomark _)) (eone (ecmp (op_eqD hr.units) (emeth0 MC_Store_steps c_Store (hr.mono (by decide)) (ev 1)) (elstQ anil) (nomark _)))))))))), ?_⟩
  try walk_at "rn"
  intro x dx nx ndx ne
  have x1 : Ext K H (upd (upd H dx (.own x)) x (.ins cStore dx [])) := Ext.made nx ndx ne
  refine ⟨p, x, dx, r, v, rfl, upd_same, hv.ext x1, ok, fun h dh k lf dl rr t H1 st kp => ⟨rfl, ?_⟩⟩
  have x2 := Kp.made nx ndx ne kp
  obtain ⟨d, hd, sd, ed⟩ := good_data (hv.ext x2) ok
  refine ⟨_, _, _, st.ins, c_Store, n_rule, _, fsS_rule, d, hd, d, hd, sd, sd, ?_⟩
  rw [ed, if_neg (by decide)]
  refine ⟨_, _, _, st.ins, c_Store, n_last, _, fsS_last, rfl, ?_⟩
  rw [if_neg (by decide)]
  refine ⟨_, _, _, st.ins, c_Store, n_last, _, fsS_last, _, .inl (.int 0), false, rfl, ?_⟩
  rw [if_neg (by decide)]
  refine ⟨_, _, st.ins, fsS_no (by decide +kernel) (by decide +kernel) (by decide +kernel) (by decide +kernel), x, dx, h, dh, k, lf, dl, rr, t, v, rfl, st, fun D H2 zD x3 p1 n1 => ?_⟩
  have x4 := Ext.new (K := K) (o := .lst []) n1
  refine ⟨.list [], isL (x4.same _ _ zD), .list [], isL upd_same, rfl, rfl, ?_⟩
  rw [if_pos eqL]
  have st4 := st.ext (x3.trans x4)
  have y4 := x2.trans (x3.trans x4)
  generalize upd H2 p1 (.lst []) = H3 at st4 y4
  refine ⟨_, _, st4.ins, fsS_no (by decide +kernel) (by decide +kernel) (by decide +kernel) (by decide +kernel), x, dx, h, dh, k, lf, dl, rr, t, v, rfl, st4, fun D2 H4 zD2 x5 p2 n2 => ?_⟩
  have x6 := Ext.new (K := K) (o := .lst []) n2
  refine ⟨.list [], isL (x6.same _ _ zD2), .list [], isL upd_same, rfl, rfl, ?_⟩
  rw [if_pos eqL]
  have st6 := st4.ext (x5.trans x6)
  have y6 := y4.trans (x5.trans x6)
  generalize upd H4 p2 (.lst []) = H5 at st6 y6
  refine ⟨_, _, st6.ins, x, dx, h, dh, k, lf, dl, rr, t, v, rfl, st6, fun H6 x7 => ⟨0, rfl, by decide, by decide, ?_⟩⟩
  rw [if_pos rfl]
  have st7 := st6.ext x7
  have y7 := y6.trans x7
  refine ⟨_, _, st7.ins, fsS_no (by decide +kernel) (by decide +kernel) (by decide +kernel) (by decide +kernel), x, dx, h, dh, k, lf, dl, rr, t, v, rfl, st7, fun D3 H8 zD3 x8 p3 n3 => ?_⟩
  have x9 := Ext.new (K := K) (o := .lst []) n3
  refine ⟨.list [], isL (x9.same _ _ zD3), .list [], isL upd_same, rfl, rfl, ?_⟩
  rw [eqL]
  exact q _ (y7.trans (x8.trans x9))
def spRefused (K : PySem.W.Frag) : Sp := fun vs H Q _ => ∃ p r v, vs = [v] ∧ RlAt K p H r v ∧ r.ok = false ∧ ∀ H', Ext K H H' → Q (.bl true) H'
theorem sc__law_refused : FnScope ["_law_rule", "e"] ["_law_rule"] (defScope s__law_refused) := ⟨rfl, rfl, rfl, by decide +kernel, rfl, by decide +kernel, by decide +kernel⟩
theorem ok__law_refused {f cStore : Addr} {fd : FuncData} (F : Fun K "_law_refused" "_law_refused" s__law_refused f fd) {cF cR cLeaf aP : Addr} {tE t1 t2 t3 t4 : Tok} (B : B K mg cF cR cLeaf aP tE t1 t2 t3 t4) (MX_Store : MakerX P w K mg base "Store" 4 ["self", "rule"] [] cStore (spInitStoreX K cStore cR)) : FnOk P w K mg base CX0 6 f fd ["_law_rule"] (spRefused K) := by
  refine F.okJ sc__law_refused (fun vs H Q E h => ?_) (fun cdv A outer s H vs Q E hr h => ?_)
  · obtain ⟨p, r, v, rfl, _⟩ := h
    rfl
  obtain ⟨p, r, v, rfl, hv, ok, q⟩ := h
  refine ⟨_, (bcons (stry (i := 1) sc__law_refused.nd rfl rfl rfl B.NoRule ⟨rfl, rfl⟩ rfl (fun E1 xe pn hp => (bone (sexpr (emakeXK (y := "Store") K MX_Store hp (hr.mono (by decide)) (show _ from rfl) (acons (ev 0) anil)))))
        (fun a xe pn => (bone (sret (ecallB (call_isexcK K) rfl B.isinstance bt_isinstance (acons (ev 1) (acons (eglob rfl B.FallError B.FallError_is) anil)))))))
      (bone (sret ebl))), ?_⟩
  try walk_at "rn"
  intro x dx nx ndx ne
  have x1 : Ext K H (upd (upd H dx (.own x)) x (.ins cStore dx [])) := Ext.made nx ndx ne
  exact ⟨p, x, dx, r, v, rfl, upd_same, hv.ext x1, ok, cR, rfl, B.xr.i, B.xr.m, fun a na => ⟨cR, rfl, B.xr.i, true, B.xr.k0, q _ (x1.trans (.new na))⟩⟩
theorem sc_law : FnScope ["_law_script", "_law_k", "_law_state", "_law_rule", "_law_thing", "_law_due"] ["_law_script"] (defScope s_law) := ⟨rfl, rfl, rfl, by decide +kernel, rfl, by decide +kernel, by decide +kernel⟩
def spLaw (K : PySem.W.Frag) : Sp := fun vs H Q _ => ∃ (a : Addr) (ns : List Int), vs = [.ref a] ∧ SqL K H a (ns.map V.int) ∧ ns.length ≤ 63 ∧ Only H ∧ ∀ H', Q (.bl true) H'
theorem ok_law {f : Addr} {fd : FuncData} (F : Fun K "law" "law" s_law f fd) {cF cR cLeaf aP : Addr} {tE t1 t2 t3 t4 : Tok} (B : B K mg cF cR cLeaf aP tE t1 t2 t3 t4)
    (C__law_cell_at : Callee P w K mg base "_law_cell_at" 1 ["_law_script", "_law_k"] (spCell K)) (C__law_good : Callee P w K mg base "_law_good" 2 ["_law_state"] (spGood K)) (C__law_spoilt : Callee P w K mg base "_law_spoilt" 2 ["_law_state", "_law_rule"] (spSpoilt K)) (C__law_is_rule : Callee P w K mg base "_law_is_rule" 2 ["_law_thing"] (spRuleX K)) (C__law_truth : Callee P w K mg base "_law_truth" 1 ["_law_found", "_law_due"] spTruth) (C_is_rule : Callee P w K mg base "is_rule" 3 ["thing"] (spRule K)) (C__law_stands : Callee P w K mg base "_law_stands" 10 ["_law_rule"] (spStands K)) (C__law_refused : Callee P w K mg base "_law_refused" 6 ["_law_rule"] (spRefused K)) : FnOk P w K mg base CX0 11 f fd ["_law_script"] (spLaw K) := by
  refine F.okJ sc_law (fun vs H Q E h => ?_) (fun cdv A outer s H vs Q E hr h => ?_)
  · obtain ⟨a, ns, rfl, _⟩ := h
    rfl
  obtain ⟨a, ns, rfl, hS, h63, ho, q⟩ := h
  refine ⟨_, (bcons (sfor PassesOwn.never rfl (irange1 rfl B.range (acons (ecallB (call_max2 rfl) rfl B.max bt_max (acons ei (acons (ecallB (call_min2 rfl) rfl B.min bt_min (acons ei (acons (ecallB call_len_seq rfl B.len bt_len (acons (ev 0) anil)) anil))) anil))) anil)) (gname (i := 1) sc_law.nd rfl (Or.inl rfl))
        (bcons (sset (i := 2) sc_law.nd rfl (Or.inl rfl) (elstQ (acons (eop op_add (ecall C__law_cell_at (hr.mono (by decide)) rfl (acons (ev 0) (acons (ev 1) anil))) (eop op_mul ei (ev 1))) anil)))
      (bcons (sset (i := 3) sc_law.nd rfl (Or.inl rfl) (ecall C__law_good (hr.mono (by decide)) rfl (acons (ev 2) anil)))
      (bone (sfor PassesOwn.never rfl (ilist (elstQ (acons (ev 3) (acons (ecall C__law_spoilt (hr.mono (by decide)) rfl (acons (ev 2) (acons (ev 3) anil))) anil)))) (gname (i := 4) sc_law.nd rfl (Or.inl rfl))
        (bcons (sset (i := 5) sc_law.nd rfl (Or.inl rfl) (ecall C__law_is_rule (hr.mono (by decide)) rfl (acons (ev 4) anil)))
      (bcons (sif (tnot (tval (ecall C__law_truth (hr.mono (by decide)) rfl (acons (ecall C_is_rule (hr.mono (by decide)) rfl (acons (ev 4) anil)) (acons (ev 5) anil))))) (bone (sret ebl)) bnil)
      (bone (sif (tw (wor (tw (wand (ttruth (ev 5) (fun _ => rfl)) (wand1 (tnot (tval (ecall C__law_stands (hr.mono (by decide)) rfl (acons (ev 4) anil))))))) (wor1 (tw (wand (tnot (ttruth (ev 5) (fun _ => rfl))) (wand1 (tnot (tval (ecall C__law_refused (hr.mono (by decide)) rfl (acons (ev 4) anil)))))))))) (bone (sret ebl)) bnil)))))))))
      (bone (sret ebl))), ?_⟩
  try walk_at "rn"
  refine ⟨_, .inl hS, by split <;> (try split) <;> omega, by split <;> (try split) <;> omega, ?_⟩
  refine loop_range (fun i σ H2 => ∃ v1 v2 v3 v4 v5, σ = [some (.ref a), v1, v2, v3, v4, v5] ∧ Ext K H H2) ⟨_, _, _, _, _, rfl, Ext.refl⟩ ?_ (fun σ' H' _ => q H')
  rintro i σ H0 hi ⟨v1, v2, v3, v4, v5, rfl, x0⟩
  try walk_at "rn"
  refine ⟨a, ns, _, rfl, x0.same.seq hS, by omega, fun n => ?_⟩
  try walk_at "rn"
  intro st nst
  have hp1 : Wl (upd H0 st (.lst [.int (n + 23 * (0 + (i : Int)))])) st := .inl ⟨_, upd_same⟩
  refine ⟨st, rfl, hp1, fun T ta tb tc ts H1 gd hp2 k1 => ?_⟩
  try walk_at "rn"
  refine ⟨st, T, ta, tb, tc, ts, rfl, hp2, gd, fun r v H2 hv hp3 k2 L nL => ?_⟩
  have x3 := Ext.new (K := K) (o := .lst [V.ref T, v]) nL
  have xH : Ext K H (upd H2 L (.lst [V.ref T, v])) := x0.trans (((k1.trans k2).ext nst).trans x3)
  have zL : (upd H2 L (.lst [V.ref T, v])) L = some (.lst [V.ref T, v]) := upd_same
  have hT : RlAt K st (upd H2 L (.lst [V.ref T, v])) (.tp [.num ta, .num tb, .num tc, .txt ts]) (.ref T) := by
    have h1 : ThsAt K st (upd H2 L (.lst [V.ref T, v])) [.num ta, .num tb, .num tc, .txt ts] [.int ta, .int tb, .int tc, .str ts] := ⟨_, _, rfl, rfl, _, _, rfl, rfl, _, _, rfl, rfl, _, _, rfl, rfl, rfl⟩
    exact ⟨T, _, rfl, x3.tup (tupW k2 hp2 gd.1), h1⟩
  have hv3 := hv.ext x3
  generalize upd H2 L (.lst [V.ref T, v]) = H3 at xH zL hT hv3
  refine ⟨⟨_, SqL.of zL⟩, ?_⟩
  refine loop_list (xs := [V.ref T, v]) (fun j σ' H' => ∃ (v4 v5 : Option V), σ' = [some (.ref a), some (.int (0 + (i : Int))), some (.ref st), some (.ref T), v4, v5] ∧ Ext K H3 H') ⟨_, _, rfl, .refl⟩ ?_ ?_ ?_
  · rintro j σ' H' _ ⟨v4, v5, rfl, y⟩
    exact SqL.of (y.same _ _ zL)
  · rintro j e σ' H' he ⟨v4, v5, rfl, y⟩
    obtain ⟨re, hre⟩ : ∃ re, RlAt K st H3 re e := by
      have me := List.mem_of_getElem? he
      simp only [List.mem_cons, List.not_mem_nil, or_false] at me
      rcases me with rfl | rfl
      · exact ⟨_, hT⟩
      · exact ⟨_, hv3⟩
    have hre1 := hre.ext y
    try walk_at "rn"
    refine ⟨st, re, e, rfl, hre1, fun H5 y5 => ?_⟩
    have hre5 := hre1.ext y5
    refine ⟨st, re, e, rfl, hre5, _, _, rfl, _, rfl, ?_⟩
    rw [decide_eq_true rfl, if_neg (by decide)]
    cases c : re.ok with
    | true =>
      refine ⟨true, rfl, ?_⟩
      rw [if_pos rfl]
      refine ⟨st, re, e, rfl, hre5, c, fun H6 y6 => ⟨_, rfl, ?_⟩⟩
      rw [if_neg (by decide)]
      refine ⟨true, rfl, ?_⟩
      rw [if_neg (by decide)]
      exact y.trans (y5.trans y6)
    | false =>
      refine ⟨false, rfl, ?_⟩
      rw [if_neg (by decide)]
      refine ⟨false, rfl, ?_⟩
      rw [if_pos (by decide)]
      refine ⟨st, re, e, rfl, hre5, c, fun H6 y6 => ⟨_, rfl, ?_⟩⟩
      rw [if_neg (by decide)]
      exact y.trans (y5.trans y6)
  rintro σ' H' ⟨v4, v5, rfl, y⟩
  exact ⟨_, _, _, _, _, rfl, xH.trans y⟩
end
theorem all_mk {l : PySem.W.OpenLaw} {w : World} {K : PySem.W.Frag} {h : Heap} {mg : Str → Option Value} {fa f1 f2 f3 f4 f5 f6 f7 f8 f9 f10 f11 f12 f13 f14 f15 f16 f17 f18 f19 f20 f21 f22 f23 f24 f25 f26 f27 f28 f29 f30 f31 f32 f33 : Addr} {od1 an1 od2 an2 od3 an3 od4 an4 od5 an5 od6 an6 od7 an7 od8 an8 od9 an9 od10 an10 od11 an11 od12 an12 od13 an13 od14 an14 od15 an15 od16 an16 od17 an17 od18 an18 od19 an19 od20 an20 od21 an21 od22 an22 od23 an23 od24 an24 od25 an25 od26 an26 od27 an27 od28 an28 od29 an29 od30 an30 od31 an31 od32 an32 od33 an33 : Option Addr} {sl1 sl2 sl3 sl4 sl5 sl6 sl7 sl8 sl9 sl10 sl11 sl12 sl13 sl14 sl15 sl16 sl17 sl18 sl19 sl20 sl21 sl22 sl23 sl24 sl25 sl26 sl27 sl28 sl29 sl30 sl31 sl32 sl33 : Array (Option Value)} {oc1 kV1 dc1 pm1 cd1 ct1 oc2 kV2 dc2 pm2 cd2 ct2 oc3 kV3 dc3 pm3 cd3 ct3 oc4 kV4 dc4 pm4 cd4 ct4 oc5 kV5 dc5 pm5 cd5 ct5 oc6 kV6 dc6 pm6 cd6 ct6 oc7 kV7 dc7 pm7 cd7 ct7 oc8 kV8 dc8 pm8 cd8 ct8 oc9 kV9 dc9 pm9 cd9 ct9 oc10 kV10 dc10 pm10 cd10 ct10 oc11 kV11 dc11 pm11 cd11 ct11 oc12 kV12 dc12 pm12 cd12 ct12 oc13 kV13 dc13 pm13 cd13 ct13 oc14 dc14 pm14 cd14 ct14 oc15 kV15 dc15 pm15 cd15 ct15 oc16 kV16 dc16 pm16 cd16 ct16 oc17 kV17 dc17 pm17 cd17 ct17 oc18 dc18 pm18 cd18 ct18 oc19 kV19 dc19 pm19 cd19 ct19 oc20 dc20 pm20 cd20 ct20 oc21 kV21 dc21 pm21 cd21 ct21 oc22 kV22 dc22 pm22 cd22 ct22 oc23 kV23 dc23 pm23 cd23 ct23 oc24 kV24 dc24 pm24 cd24 ct24 oc25 kV25 dc25 pm25 cd25 ct25 oc26 kV26 dc26 pm26 cd26 ct26 oc27 kV27 dc27 pm27 cd27 ct27 oc28 kV28 dc28 pm28 cd28 ct28 oc29 kV29 dc29 pm29 cd29 ct29 oc30 kV30 dc30 pm30 cd30 ct30 oc31 kV31 dc31 pm31 cd31 ct31 oc32 kV32 dc32 pm32 cd32 ct32 oc33 kV33 dc33 pm33 cd33 ct33 : Value} {tE : Tok} {t1 : Tok} {t2 : Tok} {t3 : Tok} {t4 : Tok} {aP : Addr} {cF : Addr} {cR : Addr} {cLeaf : Addr} {cHouse : Addr} {cStore : Addr} {dP : Option Addr} {u1 u2 : Tok} {nP : Nat} {slP : Array (Option Value)} {coN : Value} {doN : Option Addr} {cdN : ClassData} {slN : Array (Option Value)} {w14 : Addr} {wc14 : Value} {wd14 : Option Addr} {we14 : Array DictEntry} {wn14 : Nat} {ws14 : Array (Option Value)} {dV18 kV18 : Value} {kV20 : Value} {d20 : Addr} {do20 : Option Addr} {dn20 : Nat} {ds20 : Array (Option Value)} {dx20 : Value} {ta tb : Tok} (X : K.In h) (G : h.Ns mainGlobals mg) (hfa : mg "law" = some (.ref fa))
    (na_Leaf_number : PySem.W.findIn K (.ref cLeaf) "number" = some none)
    (na_Leaf_rows : PySem.W.findIn K (.ref cLeaf) "rows" = some none)
    (qa_Leaf : PySem.W.plainGet K cLeaf Str.empty = true) (qb_Leaf : PySem.W.hasDictIn K cLeaf = true) (qc_Leaf : PySem.W.plainOver K cLeaf = true) (qd_Leaf : PySem.W.findIn K (.ref cLeaf) "__setattr__" = some (some (.builtin "object.__setattr__")))
    (qm_Leaf : PySem.W.makesIn K cLeaf = true) (qk_Leaf : PySem.W.keepIn K (.ref cLeaf) = true)
    (na_House_fresh : PySem.W.findIn K (.ref cHouse) "fresh" = some none)
    (na_House_kept : PySem.W.findIn K (.ref cHouse) "kept" = some none)
    (na_House_rule : PySem.W.findIn K (.ref cHouse) "rule" = some none)
    (na_House_top : PySem.W.findIn K (.ref cHouse) "top" = some none)
    (na_House_trail : PySem.W.findIn K (.ref cHouse) "trail" = some none)
    (qa_House : PySem.W.plainGet K cHouse Str.empty = true) (qb_House : PySem.W.hasDictIn K cHouse = true) (qc_House : PySem.W.plainOver K cHouse = true) (qd_House : PySem.W.findIn K (.ref cHouse) "__setattr__" = some (some (.builtin "object.__setattr__")))
    (qm_House : PySem.W.makesIn K cHouse = true) (qk_House : PySem.W.keepIn K (.ref cHouse) = true)
    (na_Store_house : PySem.W.findIn K (.ref cStore) "house" = some none)
    (na_Store_last : PySem.W.findIn K (.ref cStore) "last" = some none)
    (na_Store_rule : PySem.W.findIn K (.ref cStore) "rule" = some none)
    (na_Store_runs : PySem.W.findIn K (.ref cStore) "runs" = some none)
    (qa_Store : PySem.W.plainGet K cStore Str.empty = true) (qb_Store : PySem.W.hasDictIn K cStore = true) (qc_Store : PySem.W.plainOver K cStore = true) (qd_Store : PySem.W.findIn K (.ref cStore) "__setattr__" = some (some (.builtin "object.__setattr__")))
    (qm_Store : PySem.W.makesIn K cStore = true) (qk_Store : PySem.W.keepIn K (.ref cStore) = true)
    (a1 : PySem.W.nsIn K mainGlobals "is_number" = some (some (.ref f1))) (l1 : K.lookup f1 = some ⟨oc1, od1, .func (PySem.W.fnOf "is_number" "is_number" (defArgs s_is_number) (defBody s_is_number) (defScope s_is_number) .none kV1 dc1 pm1 an1 cd1 ct1), sl1⟩) (c1 : PySem.W.codeIn K cd1 "is_number" = true) (k1 : PySem.W.keepIn K (.ref f1) = true)
    (a2 : PySem.W.nsIn K mainGlobals "is_whole" = some (some (.ref f2))) (l2 : K.lookup f2 = some ⟨oc2, od2, .func (PySem.W.fnOf "is_whole" "is_whole" (defArgs s_is_whole) (defBody s_is_whole) (defScope s_is_whole) .none kV2 dc2 pm2 an2 cd2 ct2), sl2⟩) (c2 : PySem.W.codeIn K cd2 "is_whole" = true) (k2 : PySem.W.keepIn K (.ref f2) = true)
    (a3 : PySem.W.nsIn K mainGlobals "is_whole_from" = some (some (.ref f3))) (l3 : K.lookup f3 = some ⟨oc3, od3, .func (PySem.W.fnOf "is_whole_from" "is_whole_from" (defArgs s_is_whole_from) (defBody s_is_whole_from) (defScope s_is_whole_from) .none kV3 dc3 pm3 an3 cd3 ct3), sl3⟩) (c3 : PySem.W.codeIn K cd3 "is_whole_from" = true) (k3 : PySem.W.keepIn K (.ref f3) = true)
    (a4 : PySem.W.nsIn K mainGlobals "is_plan" = some (some (.ref f4))) (l4 : K.lookup f4 = some ⟨oc4, od4, .func (PySem.W.fnOf "is_plan" "is_plan" (defArgs s_is_plan) (defBody s_is_plan) (defScope s_is_plan) .none kV4 dc4 pm4 an4 cd4 ct4), sl4⟩) (c4 : PySem.W.codeIn K cd4 "is_plan" = true) (k4 : PySem.W.keepIn K (.ref f4) = true)
    (a5 : PySem.W.nsIn K mainGlobals "is_rule" = some (some (.ref f5))) (l5 : K.lookup f5 = some ⟨oc5, od5, .func (PySem.W.fnOf "is_rule" "is_rule" (defArgs s_is_rule) (defBody s_is_rule) (defScope s_is_rule) .none kV5 dc5 pm5 an5 cd5 ct5), sl5⟩) (c5 : PySem.W.codeIn K cd5 "is_rule" = true) (k5 : PySem.W.keepIn K (.ref f5) = true)
    (a6 : PySem.W.nsIn K mainGlobals "is_stretch" = some (some (.ref f6))) (l6 : K.lookup f6 = some ⟨oc6, od6, .func (PySem.W.fnOf "is_stretch" "is_stretch" (defArgs s_is_stretch) (defBody s_is_stretch) (defScope s_is_stretch) .none kV6 dc6 pm6 an6 cd6 ct6), sl6⟩) (c6 : PySem.W.codeIn K cd6 "is_stretch" = true) (k6 : PySem.W.keepIn K (.ref f6) = true)
    (a7 : PySem.W.nsIn K mainGlobals "check_stretch" = some (some (.ref f7))) (l7 : K.lookup f7 = some ⟨oc7, od7, .func (PySem.W.fnOf "check_stretch" "check_stretch" (defArgs s_check_stretch) (defBody s_check_stretch) (defScope s_check_stretch) .none kV7 dc7 pm7 an7 cd7 ct7), sl7⟩) (c7 : PySem.W.codeIn K cd7 "check_stretch" = true) (k7 : PySem.W.keepIn K (.ref f7) = true)
    (a8 : PySem.W.nsIn K mainGlobals "check_mark" = some (some (.ref f8))) (l8 : K.lookup f8 = some ⟨oc8, od8, .func (PySem.W.fnOf "check_mark" "check_mark" (defArgs s_check_mark) (defBody s_check_mark) (defScope s_check_mark) .none kV8 dc8 pm8 an8 cd8 ct8), sl8⟩) (c8 : PySem.W.codeIn K cd8 "check_mark" = true) (k8 : PySem.W.keepIn K (.ref f8) = true)
    (a9 : PySem.W.nsIn K mainGlobals "check_many" = some (some (.ref f9))) (l9 : K.lookup f9 = some ⟨oc9, od9, .func (PySem.W.fnOf "check_many" "check_many" (defArgs s_check_many) (defBody s_check_many) (defScope s_check_many) .none kV9 dc9 pm9 an9 cd9 ct9), sl9⟩) (c9 : PySem.W.codeIn K cd9 "check_many" = true) (k9 : PySem.W.keepIn K (.ref f9) = true)
    (i10 : PySem.W.findIn K (.ref cLeaf) "__init__" = some (some (.ref f10))) (l10 : K.lookup f10 = some ⟨oc10, od10, .func (PySem.W.fnOf "__init__" "Leaf.__init__" (defArgs s_Leaf___init__) (defBody s_Leaf___init__) (defScope s_Leaf___init__) .none kV10 dc10 pm10 an10 cd10 ct10), sl10⟩) (c10 : PySem.W.codeIn K cd10 "Leaf.__init__" = true) (k10 : PySem.W.keepIn K (.ref f10) = true) (n10 : PySem.W.isFn K (.ref f10) = true)
    (i11 : PySem.W.findIn K (.ref cHouse) "__init__" = some (some (.ref f11))) (l11 : K.lookup f11 = some ⟨oc11, od11, .func (PySem.W.fnOf "__init__" "House.__init__" (defArgs s_House___init__) (defBody s_House___init__) (defScope s_House___init__) .none kV11 dc11 pm11 an11 cd11 ct11), sl11⟩) (c11 : PySem.W.codeIn K cd11 "House.__init__" = true) (k11 : PySem.W.keepIn K (.ref f11) = true) (n11 : PySem.W.isFn K (.ref f11) = true)
    (a12 : PySem.W.nsIn K mainGlobals "new_house" = some (some (.ref f12))) (l12 : K.lookup f12 = some ⟨oc12, od12, .func (PySem.W.fnOf "new_house" "new_house" (defArgs s_new_house) (defBody s_new_house) (defScope s_new_house) .none kV12 dc12 pm12 an12 cd12 ct12), sl12⟩) (c12 : PySem.W.codeIn K cd12 "new_house" = true) (k12 : PySem.W.keepIn K (.ref f12) = true)
    (i13 : PySem.W.findIn K (.ref cStore) "__init__" = some (some (.ref f13))) (l13 : K.lookup f13 = some ⟨oc13, od13, .func (PySem.W.fnOf "__init__" "Store.__init__" (defArgs s_Store___init__) (defBody s_Store___init__) (defScope s_Store___init__) .none kV13 dc13 pm13 an13 cd13 ct13), sl13⟩) (c13 : PySem.W.codeIn K cd13 "Store.__init__" = true) (k13 : PySem.W.keepIn K (.ref f13) = true) (n13 : PySem.W.isFn K (.ref f13) = true)
    (a14 : PySem.W.nsIn K mainGlobals "value_of" = some (some (.ref f14))) (l14 : K.lookup f14 = some ⟨oc14, od14, .func (PySem.W.fnOf "value_of" "value_of" (defArgs s_value_of) (defBody s_value_of) (defScope s_value_of) .none (.ref w14) dc14 pm14 an14 cd14 ct14), sl14⟩) (c14 : PySem.W.codeIn K cd14 "value_of" = true) (k14 : PySem.W.keepIn K (.ref f14) = true)
    (wl14 : K.lookup w14 = some ⟨wc14, wd14, .dict we14 wn14, ws14⟩) (wk14 : strKeysB we14 = true) (wf14 : nsFind we14 "at" = some .none)
    (a15 : PySem.W.nsIn K mainGlobals "leaf_table" = some (some (.ref f15))) (l15 : K.lookup f15 = some ⟨oc15, od15, .func (PySem.W.fnOf "leaf_table" "leaf_table" (defArgs s_leaf_table) (defBody s_leaf_table) (defScope s_leaf_table) .none kV15 dc15 pm15 an15 cd15 ct15), sl15⟩) (c15 : PySem.W.codeIn K cd15 "leaf_table" = true) (k15 : PySem.W.keepIn K (.ref f15) = true)
    (a16 : PySem.W.nsIn K mainGlobals "room_table" = some (some (.ref f16))) (l16 : K.lookup f16 = some ⟨oc16, od16, .func (PySem.W.fnOf "room_table" "room_table" (defArgs s_room_table) (defBody s_room_table) (defScope s_room_table) .none kV16 dc16 pm16 an16 cd16 ct16), sl16⟩) (c16 : PySem.W.codeIn K cd16 "room_table" = true) (k16 : PySem.W.keepIn K (.ref f16) = true)
    (a17 : PySem.W.nsIn K mainGlobals "pairs" = some (some (.ref f17))) (l17 : K.lookup f17 = some ⟨oc17, od17, .func (PySem.W.fnOf "pairs" "pairs" (defArgs s_pairs) (defBody s_pairs) (defScope s_pairs) .none kV17 dc17 pm17 an17 cd17 ct17), sl17⟩) (c17 : PySem.W.codeIn K cd17 "pairs" = true) (k17 : PySem.W.keepIn K (.ref f17) = true)
    (a18 : PySem.W.nsIn K mainGlobals "read_stretch" = some (some (.ref f18))) (l18 : K.lookup f18 = some ⟨oc18, od18, .func (PySem.W.fnOf "read_stretch" "read_stretch" (defArgs s_read_stretch) (defBody s_read_stretch) (defScope s_read_stretch) dV18 kV18 dc18 pm18 an18 cd18 ct18), sl18⟩) (c18 : PySem.W.codeIn K cd18 "read_stretch" = true) (k18 : PySem.W.keepIn K (.ref f18) = true)
    (bk18 : ∀ S (u0 u1 u2 w0 w1 w2 : Value), PySem.W.peek K S (bindArgs (PySem.W.fnOf "read_stretch" "read_stretch" (defArgs s_read_stretch) (defBody s_read_stretch) (defScope s_read_stretch) dV18 kV18 dc18 pm18 an18 cd18 ct18) ⟨[u0, u1, u2], [(("at" : Str), w0), (("most" : Str), w1), (("back" : Str), w2)]⟩) = some [(("house" : Str), u0), (("low" : Str), u1), (("high" : Str), u2), (("at" : Str), w0), (("most" : Str), w1), (("back" : Str), w2)])
    (i19 : PySem.W.findIn K (.ref cStore) "marks" = some (some (.ref f19))) (l19 : K.lookup f19 = some ⟨oc19, od19, .func (PySem.W.fnOf "marks" "Store.marks" (defArgs s_Store_marks) (defBody s_Store_marks) (defScope s_Store_marks) .none kV19 dc19 pm19 an19 cd19 ct19), sl19⟩) (c19 : PySem.W.codeIn K cd19 "Store.marks" = true) (k19 : PySem.W.keepIn K (.ref f19) = true) (n19 : PySem.W.isFn K (.ref f19) = true)
    (i20 : PySem.W.findIn K (.ref cStore) "stretch" = some (some (.ref f20))) (l20 : K.lookup f20 = some ⟨oc20, od20, .func (PySem.W.fnOf "stretch" "Store.stretch" (defArgs s_Store_stretch) (defBody s_Store_stretch) (defScope s_Store_stretch) (.ref d20) kV20 dc20 pm20 an20 cd20 ct20), sl20⟩) (c20 : PySem.W.codeIn K cd20 "Store.stretch" = true) (k20 : PySem.W.keepIn K (.ref f20) = true) (n20 : PySem.W.isFn K (.ref f20) = true)
    (ld20 : K.lookup d20 = some ⟨dx20, do20, .seq #[.int 0 ta, .int 1000000000000 tb] dn20, ds20⟩) (bd20 : ∀ S (u0 : Value), PySem.W.peek K S (bindArgs (PySem.W.fnOf "stretch" "Store.stretch" (defArgs s_Store_stretch) (defBody s_Store_stretch) (defScope s_Store_stretch) (.ref d20) kV20 dc20 pm20 an20 cd20 ct20) ⟨[u0], []⟩) = some [(("self" : Str), u0), (("low" : Str), .int 0 ta), (("high" : Str), .int 1000000000000 tb), (("at" : Str), .none), (("most" : Str), .none), (("back" : Str), .bool false)])
    (i21 : PySem.W.findIn K (.ref cStore) "__len__" = some (some (.ref f21))) (l21 : K.lookup f21 = some ⟨oc21, od21, .func (PySem.W.fnOf "__len__" "Store.__len__" (defArgs s_Store___len__) (defBody s_Store___len__) (defScope s_Store___len__) .none kV21 dc21 pm21 an21 cd21 ct21), sl21⟩) (c21 : PySem.W.codeIn K cd21 "Store.__len__" = true) (k21 : PySem.W.keepIn K (.ref f21) = true) (n21 : PySem.W.isFn K (.ref f21) = true)
    (a22 : PySem.W.nsIn K mainGlobals "own_step" = some (some (.ref f22))) (l22 : K.lookup f22 = some ⟨oc22, od22, .func (PySem.W.fnOf "own_step" "own_step" (defArgs s_own_step) (defBody s_own_step) (defScope s_own_step) .none kV22 dc22 pm22 an22 cd22 ct22), sl22⟩) (c22 : PySem.W.codeIn K cd22 "own_step" = true) (k22 : PySem.W.keepIn K (.ref f22) = true)
    (i23 : PySem.W.findIn K (.ref cStore) "steps" = some (some (.ref f23))) (l23 : K.lookup f23 = some ⟨oc23, od23, .func (PySem.W.fnOf "steps" "Store.steps" (defArgs s_Store_steps) (defBody s_Store_steps) (defScope s_Store_steps) .none kV23 dc23 pm23 an23 cd23 ct23), sl23⟩) (c23 : PySem.W.codeIn K cd23 "Store.steps" = true) (k23 : PySem.W.keepIn K (.ref f23) = true) (n23 : PySem.W.isFn K (.ref f23) = true)
    (a24 : PySem.W.nsIn K mainGlobals "_law_cell_at" = some (some (.ref f24))) (l24 : K.lookup f24 = some ⟨oc24, od24, .func (PySem.W.fnOf "_law_cell_at" "_law_cell_at" (defArgs s__law_cell_at) (defBody s__law_cell_at) (defScope s__law_cell_at) .none kV24 dc24 pm24 an24 cd24 ct24), sl24⟩) (c24 : PySem.W.codeIn K cd24 "_law_cell_at" = true) (k24 : PySem.W.keepIn K (.ref f24) = true)
    (a25 : PySem.W.nsIn K mainGlobals "_law_digit" = some (some (.ref f25))) (l25 : K.lookup f25 = some ⟨oc25, od25, .func (PySem.W.fnOf "_law_digit" "_law_digit" (defArgs s__law_digit) (defBody s__law_digit) (defScope s__law_digit) .none kV25 dc25 pm25 an25 cd25 ct25), sl25⟩) (c25 : PySem.W.codeIn K cd25 "_law_digit" = true) (k25 : PySem.W.keepIn K (.ref f25) = true)
    (a26 : PySem.W.nsIn K mainGlobals "_law_good" = some (some (.ref f26))) (l26 : K.lookup f26 = some ⟨oc26, od26, .func (PySem.W.fnOf "_law_good" "_law_good" (defArgs s__law_good) (defBody s__law_good) (defScope s__law_good) .none kV26 dc26 pm26 an26 cd26 ct26), sl26⟩) (c26 : PySem.W.codeIn K cd26 "_law_good" = true) (k26 : PySem.W.keepIn K (.ref f26) = true)
    (a27 : PySem.W.nsIn K mainGlobals "_law_truth" = some (some (.ref f27))) (l27 : K.lookup f27 = some ⟨oc27, od27, .func (PySem.W.fnOf "_law_truth" "_law_truth" (defArgs s__law_truth) (defBody s__law_truth) (defScope s__law_truth) .none kV27 dc27 pm27 an27 cd27 ct27), sl27⟩) (c27 : PySem.W.codeIn K cd27 "_law_truth" = true) (k27 : PySem.W.keepIn K (.ref f27) = true)
    (a28 : PySem.W.nsIn K mainGlobals "_law_between" = some (some (.ref f28))) (l28 : K.lookup f28 = some ⟨oc28, od28, .func (PySem.W.fnOf "_law_between" "_law_between" (defArgs s__law_between) (defBody s__law_between) (defScope s__law_between) .none kV28 dc28 pm28 an28 cd28 ct28), sl28⟩) (c28 : PySem.W.codeIn K cd28 "_law_between" = true) (k28 : PySem.W.keepIn K (.ref f28) = true)
    (a29 : PySem.W.nsIn K mainGlobals "_law_is_rule" = some (some (.ref f29))) (l29 : K.lookup f29 = some ⟨oc29, od29, .func (PySem.W.fnOf "_law_is_rule" "_law_is_rule" (defArgs s__law_is_rule) (defBody s__law_is_rule) (defScope s__law_is_rule) .none kV29 dc29 pm29 an29 cd29 ct29), sl29⟩) (c29 : PySem.W.codeIn K cd29 "_law_is_rule" = true) (k29 : PySem.W.keepIn K (.ref f29) = true)
    (a30 : PySem.W.nsIn K mainGlobals "_law_spoilt" = some (some (.ref f30))) (l30 : K.lookup f30 = some ⟨oc30, od30, .func (PySem.W.fnOf "_law_spoilt" "_law_spoilt" (defArgs s__law_spoilt) (defBody s__law_spoilt) (defScope s__law_spoilt) .none kV30 dc30 pm30 an30 cd30 ct30), sl30⟩) (c30 : PySem.W.codeIn K cd30 "_law_spoilt" = true) (k30 : PySem.W.keepIn K (.ref f30) = true)
    (a31 : PySem.W.nsIn K mainGlobals "_law_stands" = some (some (.ref f31))) (l31 : K.lookup f31 = some ⟨oc31, od31, .func (PySem.W.fnOf "_law_stands" "_law_stands" (defArgs s__law_stands) (defBody s__law_stands) (defScope s__law_stands) .none kV31 dc31 pm31 an31 cd31 ct31), sl31⟩) (c31 : PySem.W.codeIn K cd31 "_law_stands" = true) (k31 : PySem.W.keepIn K (.ref f31) = true)
    (a32 : PySem.W.nsIn K mainGlobals "_law_refused" = some (some (.ref f32))) (l32 : K.lookup f32 = some ⟨oc32, od32, .func (PySem.W.fnOf "_law_refused" "_law_refused" (defArgs s__law_refused) (defBody s__law_refused) (defScope s__law_refused) .none kV32 dc32 pm32 an32 cd32 ct32), sl32⟩) (c32 : PySem.W.codeIn K cd32 "_law_refused" = true) (k32 : PySem.W.keepIn K (.ref f32) = true)
    (a33 : PySem.W.nsIn K mainGlobals "law" = some (some (.ref f33))) (l33 : K.lookup f33 = some ⟨oc33, od33, .func (PySem.W.fnOf "law" "law" (defArgs s_law) (defBody s_law) (defScope s_law) .none kV33 dc33 pm33 an33 cd33 ct33), sl33⟩) (c33 : PySem.W.codeIn K cd33 "law" = true) (k33 : PySem.W.keepIn K (.ref f33) = true)
    (z_len : PySem.W.nsIn K mainGlobals "len" = some none)
    (z_isinstance : PySem.W.nsIn K mainGlobals "isinstance" = some none)
    (z_int : PySem.W.nsIn K mainGlobals "int" = some none)
    (z_bool : PySem.W.nsIn K mainGlobals "bool" = some none)
    (z_str : PySem.W.nsIn K mainGlobals "str" = some none)
    (z_tuple : PySem.W.nsIn K mainGlobals "tuple" = some none)
    (z_list : PySem.W.nsIn K mainGlobals "list" = some none)
    (z_range : PySem.W.nsIn K mainGlobals "range" = some none)
    (z_max : PySem.W.nsIn K mainGlobals "max" = some none)
    (z_min : PySem.W.nsIn K mainGlobals "min" = some none)
    (z_sorted : PySem.W.nsIn K mainGlobals "sorted" = some none)
    (z_END : PySem.W.nsIn K mainGlobals "END" = some (some (.int 1000000000000 tE)))
    (z_MOST_TRAY : PySem.W.nsIn K mainGlobals "MOST_TRAY" = some (some (.int 64 t1)))
    (z_LEAST_FAN : PySem.W.nsIn K mainGlobals "LEAST_FAN" = some (some (.int 3 t2)))
    (z_MOST_FAN : PySem.W.nsIn K mainGlobals "MOST_FAN" = some (some (.int 16 t3)))
    (z_MOST_ROWS : PySem.W.nsIn K mainGlobals "MOST_ROWS" = some (some (.int 64 t4)))
    (z_PLANS : PySem.W.nsIn K mainGlobals "PLANS" = some (some (.ref aP)))
    (z_FallError : PySem.W.nsIn K mainGlobals "FallError" = some (some (.ref cF)))
    (z_NoRule : PySem.W.nsIn K mainGlobals "NoRule" = some (some (.ref cR)))
    (z_Leaf : PySem.W.nsIn K mainGlobals "Leaf" = some (some (.ref cLeaf)))
    (z_House : PySem.W.nsIn K mainGlobals "House" = some (some (.ref cHouse)))
    (z_Store : PySem.W.nsIn K mainGlobals "Store" = some (some (.ref cStore)))
    (z_kP : K.lookup aP = some ⟨.type "tuple", dP, .seq #[.str "fullest" u1, .str "eldest" u2] nP, slP⟩)
    (z_kL : PySem.W.kitOne K (.ref cLeaf) (.ref cLeaf) = some true)
    (z_clL : PySem.W.findIn K (.ref cLeaf) "__class__" = some (some (.builtin "object.__class__")))
    (z_gt : PySem.W.specialIn K (.builtin "object.__class__") "__get__" = some (some (.builtin "getset_descriptor.__get__")))
    (z_tk : PySem.W.takesIn K (.builtin "object.__class__") = some true)
    (z_moL : PySem.W.mroIn K cLeaf (.type "object") = some true)
    (z_xN : PySem.W.excIn K cR [.type "ValueError", .type "Exception", .type "BaseException", .type "object"] "ValueError.__new__" = true)
    (z_gaN : PySem.W.findIn K (.ref cR) "__getattribute__" = some (some (.builtin "BaseException.__getattribute__")))
    (z_ghN : PySem.W.findIn K (.ref cR) "__getattr__" = some none)
    (z_clN : PySem.W.findIn K (.ref cR) "__class__" = some (some (.builtin "object.__class__")))
    (z_moN : PySem.W.mroIn K cR (.type "object") = some true)
    (z_mbN : PySem.W.mroIn K cR (.type "BaseException") = some true)
    (z_isN : K.lookup cR = some ⟨coN, doN, .cls cdN, slN⟩)
    (z_mN : PySem.W.exmOne K (.ref cR) (.ref cR) = some true)
    (z_kN0 : PySem.W.kitOne K (.ref cR) (.ref cF) = some true) :
    ∃ fd : FuncData, (∀ (s : Shared) (v : Value), BindsTo s fd ⟨[v], []⟩ [("_law_script", v)]) ∧ ∀ base : Heap, K.In base → base.Ns mainGlobals mg → FnOk l.prog w K mg base CX0 11 fa fd ["_law_script"] (spLaw K) := by
  have e := hfa.symm.trans (PySem.W.mg_of X G a33)
  cases e
  have B := (B.mk (PySem.W.mg_none_of X G z_len) (PySem.W.mg_none_of X G z_isinstance) (PySem.W.mg_none_of X G z_int) (PySem.W.mg_none_of X G z_bool) (PySem.W.mg_none_of X G z_str) (PySem.W.mg_none_of X G z_tuple) (PySem.W.mg_none_of X G z_list) (PySem.W.mg_none_of X G z_range) (PySem.W.mg_none_of X G z_max) (PySem.W.mg_none_of X G z_min) (PySem.W.mg_none_of X G z_sorted) (PySem.W.mg_of X G z_END) (PySem.W.mg_of X G z_MOST_TRAY) (PySem.W.mg_of X G z_LEAST_FAN) (PySem.W.mg_of X G z_MOST_FAN) (PySem.W.mg_of X G z_MOST_ROWS) (PySem.W.mg_of X G z_PLANS) (PySem.W.mg_of X G z_FallError) (PySem.W.mg_of X G z_NoRule) (PySem.W.mg_of X G z_Leaf) z_kL ⟨z_clL, z_gt, z_tk, z_moL⟩ (kTup_of z_kP (by simp) rfl) ⟨⟨z_xN⟩, ⟨z_gaN, z_ghN, z_clN, z_moN, z_mbN, z_gt, z_tk, by unfold PySem.W.clsIn; rw [z_isN]; rfl⟩, z_mN, z_kN0⟩ : B K mg cF cR cLeaf aP tE t1 t2 t3 t4)
  have F1 := fun_mk (st := s_is_number) l1 c1 k1
  have b1 := F1.binds (ps := ["thing"]) fun _ _ _ _ _ _ us hl => match us, hl with | [_], _ => rfl
  have F2 := fun_mk (st := s_is_whole) l2 c2 k2
  have b2 := F2.binds (ps := ["thing", "low", "high"]) fun _ _ _ _ _ _ us hl => match us, hl with | [_, _, _], _ => rfl
  have F3 := fun_mk (st := s_is_whole_from) l3 c3 k3
  have b3 := F3.binds (ps := ["thing", "low"]) fun _ _ _ _ _ _ us hl => match us, hl with | [_, _], _ => rfl
  have F4 := fun_mk (st := s_is_plan) l4 c4 k4
  have b4 := F4.binds (ps := ["thing"]) fun _ _ _ _ _ _ us hl => match us, hl with | [_], _ => rfl
  have F5 := fun_mk (st := s_is_rule) l5 c5 k5
  have b5 := F5.binds (ps := ["thing"]) fun _ _ _ _ _ _ us hl => match us, hl with | [_], _ => rfl
  have F6 := fun_mk (st := s_is_stretch) l6 c6 k6
  have b6 := F6.binds (ps := ["low", "high"]) fun _ _ _ _ _ _ us hl => match us, hl with | [_, _], _ => rfl
  have F7 := fun_mk (st := s_check_stretch) l7 c7 k7
  have b7 := F7.binds (ps := ["low", "high"]) fun _ _ _ _ _ _ us hl => match us, hl with | [_, _], _ => rfl
  have F8 := fun_mk (st := s_check_mark) l8 c8 k8
  have b8 := F8.binds (ps := ["house", "at"]) fun _ _ _ _ _ _ us hl => match us, hl with | [_, _], _ => rfl
  have F9 := fun_mk (st := s_check_many) l9 c9 k9
  have b9 := F9.binds (ps := ["most"]) fun _ _ _ _ _ _ us hl => match us, hl with | [_], _ => rfl
  have F10 := fun_mk (st := s_Leaf___init__) l10 c10 k10
  have b10 := F10.binds (ps := ["self", "number", "rows"]) fun _ _ _ _ _ _ us hl => match us, hl with | [_, _, _], _ => rfl
  have F11 := fun_mk (st := s_House___init__) l11 c11 k11
  have b11 := F11.binds (ps := ["self", "rule", "kept", "fresh", "top"]) fun _ _ _ _ _ _ us hl => match us, hl with | [_, _, _, _, _], _ => rfl
  have F12 := fun_mk (st := s_new_house) l12 c12 k12
  have b12 := F12.binds (ps := ["rule"]) fun _ _ _ _ _ _ us hl => match us, hl with | [_], _ => rfl
  have F13 := fun_mk (st := s_Store___init__) l13 c13 k13
  have b13 := F13.binds (ps := ["self", "rule"]) fun _ _ _ _ _ _ us hl => match us, hl with | [_, _], _ => rfl
  have F14 := fun_mk (st := s_value_of) l14 c14 k14
  have kb14 : KBinds K (PySem.W.fnOf "value_of" "value_of" (defArgs s_value_of) (defBody s_value_of) (defScope s_value_of) .none (.ref w14) dc14 pm14 an14 cd14 ct14) ["versions", "at"] ["at"] (gk 1 1) (gk 1 1) := kbinds rfl (by decide) fun s us ws h1 h2 => match us, h1, ws, h2 with | [_], _, [_], _ => .of_eq rfl
  have db14 : Binds K (PySem.W.fnOf "value_of" "value_of" (defArgs s_value_of) (defBody s_value_of) (defScope s_value_of) .none (.ref w14) dc14 pm14 an14 cd14 ct14) ["versions", "at"] [.none] := fun s us hK hl => match us, (show us.length = 1 by simpa using hl) with | [_], _ => by refine binds_kw3 hK wl14 wk14 wf14 (h₁ := rfl) ?_; rfl
  have F15 := fun_mk (st := s_leaf_table) l15 c15 k15
  have b15 := F15.binds (ps := ["leaf", "at"]) fun _ _ _ _ _ _ us hl => match us, hl with | [_, _], _ => rfl
  have F16 := fun_mk (st := s_room_table) l16 c16 k16
  have b16 := F16.binds (ps := ["room", "low", "high", "at"]) fun _ _ _ _ _ _ us hl => match us, hl with | [_, _, _, _], _ => rfl
  have F17 := fun_mk (st := s_pairs) l17 c17 k17
  have b17 := F17.binds (ps := ["house", "low", "high", "at"]) fun _ _ _ _ _ _ us hl => match us, hl with | [_, _, _, _], _ => rfl
  have F18 := fund_mk (st := s_read_stretch) l18 c18
  have kb18 : KBinds K (PySem.W.fnOf "read_stretch" "read_stretch" (defArgs s_read_stretch) (defBody s_read_stretch) (defScope s_read_stretch) dV18 kV18 dc18 pm18 an18 cd18 ct18) ["house", "low", "high", "at", "most", "back"] ["at", "most", "back"] (gk 3 3) (gk 3 3) := kbindsK rfl (by decide) fun s us ws hK h1 h2 => match us, h1, ws, h2 with | [_, _, _], _, [_, _, _], _ => PySem.W.kp_binds hK fun S => bk18 S _ _ _ _ _ _
  have F19 := fun_mk (st := s_Store_marks) l19 c19 k19
  have b19 := F19.binds (ps := ["self"]) fun _ _ _ _ _ _ us hl => match us, hl with | [_], _ => rfl
  have F20 := fund_mk (st := s_Store_stretch) l20 c20
  have F21 := fun_mk (st := s_Store___len__) l21 c21 k21
  have b21 := F21.binds (ps := ["self"]) fun _ _ _ _ _ _ us hl => match us, hl with | [_], _ => rfl
  have F22 := fun_mk (st := s_own_step) l22 c22 k22
  have b22 := F22.binds (ps := ["step"]) fun _ _ _ _ _ _ us hl => match us, hl with | [_], _ => rfl
  have F23 := fun_mk (st := s_Store_steps) l23 c23 k23
  have b23 := F23.binds (ps := ["self"]) fun _ _ _ _ _ _ us hl => match us, hl with | [_], _ => rfl
  have F24 := fun_mk (st := s__law_cell_at) l24 c24 k24
  have b24 := F24.binds (ps := ["_law_script", "_law_k"]) fun _ _ _ _ _ _ us hl => match us, hl with | [_, _], _ => rfl
  have F25 := fun_mk (st := s__law_digit) l25 c25 k25
  have b25 := F25.binds (ps := ["_law_state", "_law_base"]) fun _ _ _ _ _ _ us hl => match us, hl with | [_, _], _ => rfl
  have F26 := fun_mk (st := s__law_good) l26 c26 k26
  have b26 := F26.binds (ps := ["_law_state"]) fun _ _ _ _ _ _ us hl => match us, hl with | [_], _ => rfl
  have F27 := fun_mk (st := s__law_truth) l27 c27 k27
  have b27 := F27.binds (ps := ["_law_found", "_law_due"]) fun _ _ _ _ _ _ us hl => match us, hl with | [_, _], _ => rfl
  have F28 := fun_mk (st := s__law_between) l28 c28 k28
  have b28 := F28.binds (ps := ["_law_thing", "_law_low", "_law_high"]) fun _ _ _ _ _ _ us hl => match us, hl with | [_, _, _], _ => rfl
  have F29 := fun_mk (st := s__law_is_rule) l29 c29 k29
  have b29 := F29.binds (ps := ["_law_thing"]) fun _ _ _ _ _ _ us hl => match us, hl with | [_], _ => rfl
  have F30 := fun_mk (st := s__law_spoilt) l30 c30 k30
  have b30 := F30.binds (ps := ["_law_state", "_law_rule"]) fun _ _ _ _ _ _ us hl => match us, hl with | [_, _], _ => rfl
  have F31 := fun_mk (st := s__law_stands) l31 c31 k31
  have b31 := F31.binds (ps := ["_law_rule"]) fun _ _ _ _ _ _ us hl => match us, hl with | [_], _ => rfl
  have F32 := fun_mk (st := s__law_refused) l32 c32 k32
  have b32 := F32.binds (ps := ["_law_rule"]) fun _ _ _ _ _ _ us hl => match us, hl with | [_], _ => rfl
  have F33 := fun_mk (st := s_law) l33 c33 k33
  refine ⟨PySem.W.fnOf "law" "law" (defArgs s_law) (defBody s_law) (defScope s_law) .none kV33 dc33 pm33 an33 cd33 ct33, fun s v => .of_eq rfl, fun base _ _ => ?_⟩
  have c_Leaf : Cls K cLeaf := ⟨qa_Leaf, qb_Leaf, qc_Leaf, qd_Leaf⟩
  have c_House : Cls K cHouse := ⟨qa_House, qb_House, qc_House, qd_House⟩
  have c_Store : Cls K cStore := ⟨qa_Store, qb_Store, qc_Store, qd_Store⟩
  have C_is_number : Callee l.prog w K mg base "is_number" 1 ["thing"] (spNum K) := ⟨f1, _, ok_is_number F1 B   , b1, k1, PySem.W.mg_of X G a1⟩
  have C_is_whole : Callee l.prog w K mg base "is_whole" 2 ["thing", "low", "high"] (spWhole K) := ⟨f2, _, ok_is_whole F2 B (C_is_number := C_is_number)  , b2, k2, PySem.W.mg_of X G a2⟩
  have C_is_whole_from : Callee l.prog w K mg base "is_whole_from" 2 ["thing", "low"] spNo := ⟨f3, _, ok_is_whole_from F3 B   , b3, k3, PySem.W.mg_of X G a3⟩
  have C_is_plan : Callee l.prog w K mg base "is_plan" 1 ["thing"] (spPlan K) := ⟨f4, _, ok_is_plan F4 B   , b4, k4, PySem.W.mg_of X G a4⟩
  have C_is_rule : Callee l.prog w K mg base "is_rule" 3 ["thing"] (spRule K) := ⟨f5, _, ok_is_rule F5 B (C_is_whole := C_is_whole) (C_is_plan := C_is_plan)  , b5, k5, PySem.W.mg_of X G a5⟩
  have C_is_stretch : Callee l.prog w K mg base "is_stretch" 3 ["low", "high"] spSt0 := ⟨f6, _, ok_is_stretch F6 B (C_is_whole := C_is_whole)  , b6, k6, PySem.W.mg_of X G a6⟩
  have C_check_stretch : Callee l.prog w K mg base "check_stretch" 4 ["low", "high"] spCk0 := ⟨f7, _, ok_check_stretch F7 B (C_is_stretch := C_is_stretch)  , b7, k7, PySem.W.mg_of X G a7⟩
  have C_check_mark : Callee l.prog w K mg base "check_mark" 2 ["house", "at"] spMk0 := ⟨f8, _, ok_check_mark F8 B (C_is_number := C_is_number)  , b8, k8, PySem.W.mg_of X G a8⟩
  have C_check_many : Callee l.prog w K mg base "check_many" 3 ["most"] spMn0 := ⟨f9, _, ok_check_many F9 B (C_is_whole_from := C_is_whole_from)  , b9, k9, PySem.W.mg_of X G a9⟩
  have M_Leaf : Maker l.prog w K mg base "Leaf" 1 ["self", "number", "rows"] [] cLeaf (spInitLeaf K cLeaf) := ⟨f10, _, [], ⟨qm_Leaf, i10, n10, qk_Leaf⟩, ok_Leaf___init__ F10 B  (c_Leaf := c_Leaf) (n_number := na_Leaf_number) (n_rows := na_Leaf_rows) , b10, .nil, PySem.W.mg_of X G z_Leaf⟩
  have M_House : Maker l.prog w K mg base "House" 1 ["self", "rule", "kept", "fresh", "top"] [] cHouse (spInitHouse K cHouse) := ⟨f11, _, [], ⟨qm_House, i11, n11, qk_House⟩, ok_House___init__ F11 B  (c_House := c_House) (n_rule := na_House_rule) (n_kept := na_House_kept) (n_fresh := na_House_fresh) (n_top := na_House_top) (n_trail := na_House_trail) , b11, .nil, PySem.W.mg_of X G z_House⟩
  have C_new_house : Callee l.prog w K mg base "new_house" 3 ["rule"] (spNewHouse K cHouse cLeaf) := ⟨f12, _, ok_new_house F12 B (M_House := M_House) (M_Leaf := M_Leaf)  , b12, k12, PySem.W.mg_of X G a12⟩
  have M_Store : Maker l.prog w K mg base "Store" 4 ["self", "rule"] [] cStore (spInitStore K cStore cHouse cLeaf) := ⟨f13, _, [], ⟨qm_Store, i13, n13, qk_Store⟩, ok_Store___init__ F13 B (C_new_house := C_new_house) (C_is_rule := C_is_rule) (c_Store := c_Store) (n_rule := na_Store_rule) (n_last := na_Store_last) (n_house := na_Store_house) (n_runs := na_Store_runs) , b13, .nil, PySem.W.mg_of X G z_Store⟩
  have MX_Store : MakerX l.prog w K mg base "Store" 4 ["self", "rule"] [] cStore (spInitStoreX K cStore cR) := ⟨f13, _, [], ⟨qm_Store, i13, n13, qk_Store⟩, okx_Store___init__ F13 B (C_new_house := C_new_house) (C_is_rule := C_is_rule) (c_Store := c_Store) (n_rule := na_Store_rule) (n_last := na_Store_last) (n_house := na_Store_house) (n_runs := na_Store_runs) , b13, .nil, PySem.W.mg_of X G z_Store⟩
  have CK_value_of : CalleeK l.prog w K mg base "value_of" 1 ["versions", "at"] ["at"] 1 1 spNo := ⟨f14, _, ok_value_of F14 B   , kb14, k14, PySem.W.mg_of X G a14⟩
  have CD_value_of : CalleeD l.prog w K mg base "value_of" 1 ["versions", "at"] [.non] spNo := ⟨f14, _, _, ok_value_of F14 B   , db14, .cons rfl .nil, k14, PySem.W.mg_of X G a14⟩
  have C_leaf_table : Callee l.prog w K mg base "leaf_table" 2 ["leaf", "at"] (spLeafT K cLeaf) := ⟨f15, _, ok_leaf_table F15 B (CK_value_of := CK_value_of) (c_Leaf := c_Leaf) (n_rows := na_Leaf_rows), b15, k15, PySem.W.mg_of X G a15⟩
  have C_room_table : Callee l.prog w K mg base "room_table" 6 ["room", "low", "high", "at"] (spRoomT K cLeaf) := ⟨f16, _, ok_room_table F16 B b16 k16 (PySem.W.mg_of X G a16) (C_leaf_table := C_leaf_table) (c_Leaf := c_Leaf) , b16, k16, PySem.W.mg_of X G a16⟩
  have C_pairs : Callee l.prog w K mg base "pairs" 7 ["house", "low", "high", "at"] (spPairs K cHouse cLeaf) := ⟨f17, _, ok_pairs F17 B (C_room_table := C_room_table) (c_House := c_House) (n_top := na_House_top), b17, k17, PySem.W.mg_of X G a17⟩
  have CK_read_stretch : CalleeK l.prog w K mg base "read_stretch" 8 ["house", "low", "high", "at", "most", "back"] ["at", "most", "back"] 3 3 (spRead0 K cHouse cLeaf) := ⟨f18, _, ok_read_stretch F18 B (C_check_stretch := C_check_stretch) (C_check_mark := C_check_mark) (C_check_many := C_check_many) (C_pairs := C_pairs)  , kb18, k18, PySem.W.mg_of X G a18⟩
  have MC_Store_marks : MethC l.prog w K mg base cStore "marks" 1 ["self"] [] (spMarks K cStore cHouse cLeaf) := ⟨f19, _, [], ⟨i19, n19, k19⟩, ok_Store_marks F19 B  (c_House := c_House) (c_Store := c_Store) (n_house := na_Store_house) (m_kept := na_House_kept) , b19, .nil⟩
  have MC_Store_stretch : MethC l.prog w K mg base cStore "stretch" 9 ["self", "low", "high", "at", "most", "back"] [.int 0, .int 1000000000000, .non, .non, .bl false] (spStretch K cStore cHouse cLeaf) := ⟨f20, _, [.int 0 ta, .int 1000000000000 tb, .none, .none, .bool false], ⟨i20, n20, k20⟩, ok_Store_stretch F20 B (CK_read_stretch := CK_read_stretch) (c_Store := c_Store) (n_house := na_Store_house) , fun s us hK hl => match us, (show us.length = 1 by simpa using hl) with | [_], _ => PySem.W.kp_binds hK fun S => bd20 S _, (.cons ⟨_, rfl⟩ (.cons ⟨_, rfl⟩ (.cons rfl (.cons rfl (.cons rfl .nil)))))⟩
  have MC_Store___len__ : MethC l.prog w K mg base cStore "__len__" 8 ["self"] [] (spLen0 K cStore cHouse cLeaf) := ⟨f21, _, [], ⟨i21, n21, k21⟩, ok_Store___len__ F21 B (C_pairs := C_pairs) (c_Store := c_Store) (n_house := na_Store_house) , b21, .nil⟩
  have C_own_step : Callee l.prog w K mg base "own_step" 1 ["step"] spNo := ⟨f22, _, ok_own_step F22 B   , b22, k22, PySem.W.mg_of X G a22⟩
  have MC_Store_steps : MethC l.prog w K mg base cStore "steps" 2 ["self"] [] (spMarks K cStore cHouse cLeaf) := ⟨f23, _, [], ⟨i23, n23, k23⟩, ok_Store_steps F23 B (C_own_step := C_own_step) (c_House := c_House) (c_Store := c_Store) (n_house := na_Store_house) (m_trail := na_House_trail) , b23, .nil⟩
  have C__law_cell_at : Callee l.prog w K mg base "_law_cell_at" 1 ["_law_script", "_law_k"] (spCell K) := ⟨f24, _, ok__law_cell_at F24 B   , b24, k24, PySem.W.mg_of X G a24⟩
  have C__law_digit : Callee l.prog w K mg base "_law_digit" 1 ["_law_state", "_law_base"] (spDigit K) := ⟨f25, _, ok__law_digit F25 B   , b25, k25, PySem.W.mg_of X G a25⟩
  have C__law_good : Callee l.prog w K mg base "_law_good" 2 ["_law_state"] (spGood K) := ⟨f26, _, ok__law_good F26 B (C__law_digit := C__law_digit)  , b26, k26, PySem.W.mg_of X G a26⟩
  have C__law_truth : Callee l.prog w K mg base "_law_truth" 1 ["_law_found", "_law_due"] spTruth := ⟨f27, _, ok__law_truth F27 B   , b27, k27, PySem.W.mg_of X G a27⟩
  have C__law_between : Callee l.prog w K mg base "_law_between" 1 ["_law_thing", "_law_low", "_law_high"] (spWhole K) := ⟨f28, _, ok__law_between F28 B   , b28, k28, PySem.W.mg_of X G a28⟩
  have C__law_is_rule : Callee l.prog w K mg base "_law_is_rule" 2 ["_law_thing"] (spRuleX K) := ⟨f29, _, ok__law_is_rule F29 B (C__law_between := C__law_between)  , b29, k29, PySem.W.mg_of X G a29⟩
  have C__law_spoilt : Callee l.prog w K mg base "_law_spoilt" 2 ["_law_state", "_law_rule"] (spSpoilt K) := ⟨f30, _, ok__law_spoilt F30 B (C__law_digit := C__law_digit)  , b30, k30, PySem.W.mg_of X G a30⟩
  have C__law_stands : Callee l.prog w K mg base "_law_stands" 10 ["_law_rule"] (spStands K) := ⟨f31, _, ok__law_stands F31 B (M_Store := M_Store) (MC_Store_marks := MC_Store_marks) (MC_Store_stretch := MC_Store_stretch) (MC_Store_steps := MC_Store_steps) (MC_Store___len__ := MC_Store___len__) (c_Store := c_Store) (n_rule := na_Store_rule) (n_last := na_Store_last), b31, k31, PySem.W.mg_of X G a31⟩
  have C__law_refused : Callee l.prog w K mg base "_law_refused" 6 ["_law_rule"] (spRefused K) := ⟨f32, _, ok__law_refused F32 B (MX_Store := MX_Store)  , b32, k32, PySem.W.mg_of X G a32⟩
  exact ok_law F33 B (C__law_good := C__law_good) (C__law_spoilt := C__law_spoilt) (C__law_is_rule := C__law_is_rule) (C__law_cell_at := C__law_cell_at) (C__law_truth := C__law_truth) (C_is_rule := C_is_rule) (C__law_stands := C__law_stands) (C__law_refused := C__law_refused)
theorem walk {l : PySem.W.OpenLaw} {q : Program} {loose : List Str} {XP : (Str → Option Value) → Heap → Prop} {YP : World → Heap → Prop} {d : DefRec} {K : Params → PySem.W.Frag} (hn : l.most = some 63) (hdf : d.params.defaults = [])
    (hY : ∀ (w : World) (h : Heap), YP w h → (K w.params).In h)
    (F : ∀ (w : World) (mg : Str → Option Value) (fa : Addr) (h : Heap), (K w.params).In h → h.Ns mainGlobals mg → mg d.name = some (.ref fa) →
      ∃ fd : FuncData, (∀ (s : Shared) (u : Value), BindsTo s fd ⟨[u], []⟩ [("_law_script", u)]) ∧ ∀ base : Heap, (K w.params).In base → base.Ns mainGlobals mg → FnOk l.prog w (K w.params) mg base CX0 11 fa fd ["_law_script"] (spLaw (K w.params))) :
    PySem.W.WalkO q loose XP YP l.row.toRowW d [] (fun f vs => PySem.call f vs) :=
  L2.walk_of (n := 63) (k := 11) (x := "_law_script") (CX := fun _ => CX0) (sp := fun w => spLaw (K w.params)) hn (by decide) hdf ⟨rfl, by decide, by decide, rfl⟩ hY F (fun _ _ a ns hl ho hS => ⟨a, ns, rfl, hS, hl, ho, fun _ => rfl⟩) fun _ _ _ _ _ z => z
abbrev kh (P : Params) (x : Str) : Int := PyData.keyHash P x
def hK (P : Params) : PySem.W.Frag :=
 (nat_lit 2, ⟨.none, none, (.dict (List.toArray ( [])) 0), #[]⟩) ::
 (nat_lit 3, ⟨(.type "dict"), none, (.dict (List.toArray (⟨kh P "__name__", (.str "__name__" 165), (.str "law_notefall_k02_rules" 1021)⟩ :: ⟨kh P "__doc__", (.str "__doc__" 166), .none⟩ :: ⟨kh P "__package__", (.str "__package__" 167), .none⟩ :: ⟨kh P "__loader__", (.str "__loader__" 168), (.builtin "__main__.__loader__#opaque")⟩ :: ⟨kh P "__spec__", (.str "__spec__" 169), .none⟩ :: ⟨kh P "__annotations__", (.str "__annotations__" 170), (.ref 6)⟩ :: ⟨kh P "__builtins__", (.str "__builtins__" 171), (.ref 4)⟩ :: ⟨kh P "__file__", (.str "__file__" 173), (.str "/claim/cut.py" 172)⟩ :: ⟨kh P "__cached__", (.str "__cached__" 174), .none⟩ :: ⟨kh P "_wall", (.str "_wall" 193), (.ref 21)⟩ :: ⟨kh P "FallError", (.str "FallError" 213), (.ref 31)⟩ :: ⟨kh P "NoKey", (.str "NoKey" 229), (.ref 44)⟩ :: ⟨kh P "NoStretch", (.str "NoStretch" 245), (.ref 56)⟩ :: ⟨kh P "NoRule", (.str "NoRule" 261), (.ref 68)⟩ :: ⟨kh P "NoMark", (.str "NoMark" 277), (.ref 80)⟩ :: ⟨kh P "NoMany", (.str "NoMany" 293), (.ref 92)⟩ :: ⟨kh P "END", (.str "END" 299), (.int 1000000000000 298)⟩ :: ⟨kh P "MOST_TRAY", (.str "MOST_TRAY" 301), (.int 64 300)⟩ :: ⟨kh P "LEAST_FAN", (.str "LEAST_FAN" 303), (.int 3 302)⟩ :: ⟨kh P "MOST_FAN", (.str "MOST_FAN" 305), (.int 16 304)⟩ :: ⟨kh P "MOST_ROWS", (.str "MOST_ROWS" 307), (.int 64 306)⟩ :: ⟨kh P "PLANS", (.str "PLANS" 310), (.ref 95)⟩ :: ⟨kh P "is_number", (.str "is_number" 317), (.ref 102)⟩ :: ⟨kh P "is_whole", (.str "is_whole" 326), (.ref 109)⟩ :: ⟨kh P "is_whole_from", (.str "is_whole_from" 334), (.ref 116)⟩ :: ⟨kh P "is_key", (.str "is_key" 341), (.ref 123)⟩ :: ⟨kh P "is_stretch", (.str "is_stretch" 349), (.ref 130)⟩ :: ⟨kh P "check_key", (.str "check_key" 356), (.ref 137)⟩ :: ⟨kh P "check_stretch", (.str "check_stretch" 364), (.ref 144)⟩ :: ⟨kh P "is_plan", (.str "is_plan" 371), (.ref 151)⟩ :: ⟨kh P "is_rule", (.str "is_rule" 382), (.ref 158)⟩ :: ⟨kh P "GONE", (.str "GONE" 386), (.ref 159)⟩ :: ⟨kh P "half_acts", (.str "half_acts" 396), (.ref 166)⟩ :: ⟨kh P "does", (.str "does" 406), (.ref 173)⟩ :: ⟨kh P "has_key", (.str "has_key" 416), (.ref 180)⟩ :: ⟨kh P "reached", (.str "reached" 422), (.ref 185)⟩ :: ⟨kh P "value_of", (.str "value_of" 436), (.ref 193)⟩ :: ⟨kh P "up_to", (.str "up_to" 444), (.ref 198)⟩ :: ⟨kh P "touching", (.str "touching" 450), (.ref 203)⟩ :: ⟨kh P "seen", (.str "seen" 462), (.ref 211)⟩ :: ⟨kh P "Leaf", (.str "Leaf" 495), (.ref 228)⟩ :: ⟨kh P "stretches", (.str "stretches" 505), (.ref 239)⟩ :: ⟨kh P "child_place", (.str "child_place" 511), (.ref 244)⟩ :: ⟨kh P "House", (.str "House" 668), (.ref 352)⟩ :: ⟨kh P "new_house", (.str "new_house" 675), (.ref 363)⟩ :: ⟨kh P "check_mark", (.str "check_mark" 685), (.ref 370)⟩ :: ⟨kh P "check_many", (.str "check_many" 692), (.ref 377)⟩ :: ⟨kh P "rooms_to", (.str "rooms_to" 702), (.ref 384)⟩ :: ⟨kh P "versions_in", (.str "versions_in" 712), (.ref 391)⟩ :: ⟨kh P "told_value", (.str "told_value" 725), (.ref 398)⟩ :: ⟨kh P "leaf_table", (.str "leaf_table" 731), (.ref 403)⟩ :: ⟨kh P "do_to", (.str "do_to" 741), (.ref 410)⟩ :: ⟨kh P "room_table", (.str "room_table" 756), (.ref 417)⟩ :: ⟨kh P "pairs", (.str "pairs" 762), (.ref 422)⟩ :: ⟨kh P "read_key", (.str "read_key" 772), (.ref 430)⟩ :: ⟨kh P "read_stretch", (.str "read_stretch" 789), (.ref 439)⟩ :: ⟨kh P "read_many", (.str "read_many" 800), (.ref 447)⟩ :: ⟨kh P "own_step", (.str "own_step" 808), (.ref 452)⟩ :: ⟨kh P "Store", (.str "Store" 1020), (.ref 616)⟩ :: ⟨kh P "_law_cell_at", (.str "_law_cell_at" 1030), (.ref 627)⟩ :: ⟨kh P "_law_digit", (.str "_law_digit" 1041), (.ref 634)⟩ :: ⟨kh P "_law_good", (.str "_law_good" 1051), (.ref 641)⟩ :: ⟨kh P "_law_truth", (.str "_law_truth" 1059), (.ref 648)⟩ :: ⟨kh P "_law_between", (.str "_law_between" 1068), (.ref 655)⟩ :: ⟨kh P "_law_is_rule", (.str "_law_is_rule" 1075), (.ref 662)⟩ :: ⟨kh P "_law_spoilt", (.str "_law_spoilt" 1086), (.ref 669)⟩ :: ⟨kh P "_law_stands", (.str "_law_stands" 1094), (.ref 676)⟩ :: ⟨kh P "_law_refused", (.str "_law_refused" 1102), (.ref 683)⟩ :: ⟨kh P "law", (.str "law" 1114), (.ref 690)⟩ :: [])) 69), #[]⟩) ::
 (nat_lit 15, ⟨(.type "tuple"), none, (.seq #[] 0), #[]⟩) ::
 (nat_lit 17, ⟨(.type "tuple"), none, (.seq #[(.str "k" 190)] 0), #[]⟩) ::
 (nat_lit 18, ⟨(.type "tuple"), none, (.seq #[] 0), #[]⟩) ::
 (nat_lit 20, ⟨(.type "code"), none, (.fields #[(.str "_wall" 187), (.str "_wall" 188), (.str "/claim/cut.py" 189), (.int 1 0), (.int 1 0), (.int 0 0), (.int 0 0), (.int 3 0), (.ref 15), (.bool true), (.int 181 0), (.ref 16), .none, (.ref 17), (.ref 18), (.ref 19), (.int 191 0), (.int 1 0), (.str "/claim/cut.py" 192)]), #[]⟩) ::
 (nat_lit 21, ⟨(.type "function"), none, (.func ⟨"_wall", "_wall", defArgs (top 0), .stmts (defBody (top 0)), defScope (top 0), 3, [], .none, .none, .none, (.str "__main__" 164), none, (.ref 20), .none, 0⟩), #[]⟩) ::
 (nat_lit 22, ⟨(.type "tuple"), none, (.seq #[(.type "ValueError")] 0), #[]⟩) ::
 (nat_lit 29, ⟨(.type "tuple"), none, (.seq #[] 0), #[]⟩) ::
 (nat_lit 30, ⟨(.type "dict"), none, (.dict (List.toArray (⟨kh P "__module__", (.str "__module__" 203), (.str "notefall.errors" 194)⟩ :: ⟨kh P "__firstlineno__", (.str "__firstlineno__" 207), (.int 5 206)⟩ :: ⟨kh P "__static_attributes__", (.str "__static_attributes__" 208), (.ref 29)⟩ :: ⟨kh P "__weakref__", (.str "__weakref__" 210), (.ref 32)⟩ :: ⟨kh P "__doc__", (.str "__doc__" 211), .none⟩ :: [])) 3), #[]⟩) ::
 (nat_lit 31, ⟨(.type "type"), none, (.cls ⟨"FallError", [(.type "ValueError")], [(.ref 31), (.type "ValueError"), (.type "Exception"), (.type "BaseException"), (.type "object")], 30, "FallError", true, [], [(.ref 44), (.ref 56), (.ref 68), (.ref 80), (.ref 92)], false, none, false⟩), #[(some (.ref 22)), none, (some (.str "FallError" 196)), (some (.str "FallError" 204)), (some (.builtin "ValueError.__new__")), (some (.bool true))]⟩) ::
 (nat_lit 32, ⟨(.type "getset_descriptor"), none, (.fields #[(.str "__weakref__" 209), (.ref 31), (.builtin "ExceptionGroup.__weakref__"), .none]), #[]⟩) ::
 (nat_lit 35, ⟨(.type "tuple"), none, (.seq #[(.ref 31)] 0), #[]⟩) ::
 (nat_lit 42, ⟨(.type "tuple"), none, (.seq #[] 0), #[]⟩) ::
 (nat_lit 43, ⟨(.type "dict"), none, (.dict (List.toArray (⟨kh P "__module__", (.str "__module__" 221), (.str "notefall.errors" 194)⟩ :: ⟨kh P "__firstlineno__", (.str "__firstlineno__" 225), (.int 7 224)⟩ :: ⟨kh P "__static_attributes__", (.str "__static_attributes__" 226), (.ref 42)⟩ :: ⟨kh P "__doc__", (.str "__doc__" 227), .none⟩ :: [])) 2), #[]⟩) ::
 (nat_lit 44, ⟨(.type "type"), none, (.cls ⟨"NoKey", [(.ref 31)], [(.ref 44), (.ref 31), (.type "ValueError"), (.type "Exception"), (.type "BaseException"), (.type "object")], 43, "NoKey", true, [], [], false, none, false⟩), #[(some (.ref 35)), none, (some (.str "NoKey" 214)), (some (.str "NoKey" 222)), (some (.builtin "ValueError.__new__")), (some (.bool true))]⟩) ::
 (nat_lit 47, ⟨(.type "tuple"), none, (.seq #[(.ref 31)] 0), #[]⟩) ::
 (nat_lit 54, ⟨(.type "tuple"), none, (.seq #[] 0), #[]⟩) ::
 (nat_lit 55, ⟨(.type "dict"), none, (.dict (List.toArray (⟨kh P "__module__", (.str "__module__" 237), (.str "notefall.errors" 194)⟩ :: ⟨kh P "__firstlineno__", (.str "__firstlineno__" 241), (.int 9 240)⟩ :: ⟨kh P "__static_attributes__", (.str "__static_attributes__" 242), (.ref 54)⟩ :: ⟨kh P "__doc__", (.str "__doc__" 243), .none⟩ :: [])) 2), #[]⟩) ::
 (nat_lit 56, ⟨(.type "type"), none, (.cls ⟨"NoStretch", [(.ref 31)], [(.ref 56), (.ref 31), (.type "ValueError"), (.type "Exception"), (.type "BaseException"), (.type "object")], 55, "NoStretch", true, [], [], false, none, false⟩), #[(some (.ref 47)), none, (some (.str "NoStretch" 230)), (some (.str "NoStretch" 238)), (some (.builtin "ValueError.__new__")), (some (.bool true))]⟩) ::
 (nat_lit 59, ⟨(.type "tuple"), none, (.seq #[(.ref 31)] 0), #[]⟩) ::
 (nat_lit 66, ⟨(.type "tuple"), none, (.seq #[] 0), #[]⟩) ::
 (nat_lit 67, ⟨(.type "dict"), none, (.dict (List.toArray (⟨kh P "__module__", (.str "__module__" 253), (.str "notefall.errors" 194)⟩ :: ⟨kh P "__firstlineno__", (.str "__firstlineno__" 257), (.int 11 256)⟩ :: ⟨kh P "__static_attributes__", (.str "__static_attributes__" 258), (.ref 66)⟩ :: ⟨kh P "__doc__", (.str "__doc__" 259), .none⟩ :: [])) 2), #[]⟩) ::
 (nat_lit 68, ⟨(.type "type"), none, (.cls ⟨"NoRule", [(.ref 31)], [(.ref 68), (.ref 31), (.type "ValueError"), (.type "Exception"), (.type "BaseException"), (.type "object")], 67, "NoRule", true, [], [], false, none, false⟩), #[(some (.ref 59)), none, (some (.str "NoRule" 246)), (some (.str "NoRule" 254)), (some (.builtin "ValueError.__new__")), (some (.bool true))]⟩) ::
 (nat_lit 71, ⟨(.type "tuple"), none, (.seq #[(.ref 31)] 0), #[]⟩) ::
 (nat_lit 78, ⟨(.type "tuple"), none, (.seq #[] 0), #[]⟩) ::
 (nat_lit 79, ⟨(.type "dict"), none, (.dict (List.toArray (⟨kh P "__module__", (.str "__module__" 269), (.str "notefall.errors" 194)⟩ :: ⟨kh P "__firstlineno__", (.str "__firstlineno__" 273), (.int 13 272)⟩ :: ⟨kh P "__static_attributes__", (.str "__static_attributes__" 274), (.ref 78)⟩ :: ⟨kh P "__doc__", (.str "__doc__" 275), .none⟩ :: [])) 2), #[]⟩) ::
 (nat_lit 80, ⟨(.type "type"), none, (.cls ⟨"NoMark", [(.ref 31)], [(.ref 80), (.ref 31), (.type "ValueError"), (.type "Exception"), (.type "BaseException"), (.type "object")], 79, "NoMark", true, [], [], false, none, false⟩), #[(some (.ref 71)), none, (some (.str "NoMark" 262)), (some (.str "NoMark" 270)), (some (.builtin "ValueError.__new__")), (some (.bool true))]⟩) ::
 (nat_lit 83, ⟨(.type "tuple"), none, (.seq #[(.ref 31)] 0), #[]⟩) ::
 (nat_lit 90, ⟨(.type "tuple"), none, (.seq #[] 0), #[]⟩) ::
 (nat_lit 91, ⟨(.type "dict"), none, (.dict (List.toArray (⟨kh P "__module__", (.str "__module__" 285), (.str "notefall.errors" 194)⟩ :: ⟨kh P "__firstlineno__", (.str "__firstlineno__" 289), (.int 15 288)⟩ :: ⟨kh P "__static_attributes__", (.str "__static_attributes__" 290), (.ref 90)⟩ :: ⟨kh P "__doc__", (.str "__doc__" 291), .none⟩ :: [])) 2), #[]⟩) ::
 (nat_lit 92, ⟨(.type "type"), none, (.cls ⟨"NoMany", [(.ref 31)], [(.ref 92), (.ref 31), (.type "ValueError"), (.type "Exception"), (.type "BaseException"), (.type "object")], 91, "NoMany", true, [], [], false, none, false⟩), #[(some (.ref 83)), none, (some (.str "NoMany" 278)), (some (.str "NoMany" 286)), (some (.builtin "ValueError.__new__")), (some (.bool true))]⟩) ::
 (nat_lit 95, ⟨(.type "tuple"), none, (.seq #[(.str "fullest" 308), (.str "eldest" 309)] 0), #[]⟩) ::
 (nat_lit 96, ⟨(.type "tuple"), none, (.seq #[] 0), #[]⟩) ::
 (nat_lit 98, ⟨(.type "tuple"), none, (.seq #[(.str "thing" 314)] 0), #[]⟩) ::
 (nat_lit 99, ⟨(.type "tuple"), none, (.seq #[] 0), #[]⟩) ::
 (nat_lit 101, ⟨(.type "code"), none, (.fields #[(.str "is_number" 311), (.str "is_number" 312), (.str "/claim/cut.py" 313), (.int 24 0), (.int 1 0), (.int 0 0), (.int 0 0), (.int 3 0), (.ref 96), (.bool true), (.int 181 0), (.ref 97), .none, (.ref 98), (.ref 99), (.ref 100), (.int 315 0), (.int 24 0), (.str "/claim/cut.py" 316)]), #[]⟩) ::
 (nat_lit 102, ⟨(.type "function"), none, (.func ⟨"is_number", "is_number", defArgs (top 15), .stmts (defBody (top 15)), defScope (top 15), 3, [], .none, .none, .none, (.str "notefall.wholes" 294), none, (.ref 101), .none, 0⟩), #[]⟩) ::
 (nat_lit 103, ⟨(.type "tuple"), none, (.seq #[] 0), #[]⟩) ::
 (nat_lit 105, ⟨(.type "tuple"), none, (.seq #[(.str "thing" 321), (.str "low" 322), (.str "high" 323)] 0), #[]⟩) ::
 (nat_lit 106, ⟨(.type "tuple"), none, (.seq #[] 0), #[]⟩) ::
 (nat_lit 108, ⟨(.type "code"), none, (.fields #[(.str "is_whole" 318), (.str "is_whole" 319), (.str "/claim/cut.py" 320), (.int 26 0), (.int 3 0), (.int 0 0), (.int 0 0), (.int 3 0), (.ref 103), (.bool true), (.int 181 0), (.ref 104), .none, (.ref 105), (.ref 106), (.ref 107), (.int 324 0), (.int 26 0), (.str "/claim/cut.py" 325)]), #[]⟩) ::
 (nat_lit 109, ⟨(.type "function"), none, (.func ⟨"is_whole", "is_whole", defArgs (top 16), .stmts (defBody (top 16)), defScope (top 16), 3, [], .none, .none, .none, (.str "notefall.wholes" 294), none, (.ref 108), .none, 0⟩), #[]⟩) ::
 (nat_lit 110, ⟨(.type "tuple"), none, (.seq #[] 0), #[]⟩) ::
 (nat_lit 112, ⟨(.type "tuple"), none, (.seq #[(.str "thing" 330), (.str "low" 331)] 0), #[]⟩) ::
 (nat_lit 113, ⟨(.type "tuple"), none, (.seq #[] 0), #[]⟩) ::
 (nat_lit 115, ⟨(.type "code"), none, (.fields #[(.str "is_whole_from" 327), (.str "is_whole_from" 328), (.str "/claim/cut.py" 329), (.int 28 0), (.int 2 0), (.int 0 0), (.int 0 0), (.int 3 0), (.ref 110), (.bool true), (.int 181 0), (.ref 111), .none, (.ref 112), (.ref 113), (.ref 114), (.int 332 0), (.int 28 0), (.str "/claim/cut.py" 333)]), #[]⟩) ::
 (nat_lit 116, ⟨(.type "function"), none, (.func ⟨"is_whole_from", "is_whole_from", defArgs (top 17), .stmts (defBody (top 17)), defScope (top 17), 3, [], .none, .none, .none, (.str "notefall.wholes" 294), none, (.ref 115), .none, 0⟩), #[]⟩) ::
 (nat_lit 117, ⟨(.type "tuple"), none, (.seq #[] 0), #[]⟩) ::
 (nat_lit 119, ⟨(.type "tuple"), none, (.seq #[(.str "thing" 338)] 0), #[]⟩) ::
 (nat_lit 120, ⟨(.type "tuple"), none, (.seq #[] 0), #[]⟩) ::
 (nat_lit 122, ⟨(.type "code"), none, (.fields #[(.str "is_key" 335), (.str "is_key" 336), (.str "/claim/cut.py" 337), (.int 30 0), (.int 1 0), (.int 0 0), (.int 0 0), (.int 3 0), (.ref 117), (.bool true), (.int 181 0), (.ref 118), .none, (.ref 119), (.ref 120), (.ref 121), (.int 339 0), (.int 30 0), (.str "/claim/cut.py" 340)]), #[]⟩) ::
 (nat_lit 123, ⟨(.type "function"), none, (.func ⟨"is_key", "is_key", defArgs (top 18), .stmts (defBody (top 18)), defScope (top 18), 3, [], .none, .none, .none, (.str "notefall.wholes" 294), none, (.ref 122), .none, 0⟩), #[]⟩) ::
 (nat_lit 124, ⟨(.type "tuple"), none, (.seq #[] 0), #[]⟩) ::
 (nat_lit 126, ⟨(.type "tuple"), none, (.seq #[(.str "low" 345), (.str "high" 346)] 0), #[]⟩) ::
 (nat_lit 127, ⟨(.type "tuple"), none, (.seq #[] 0), #[]⟩) ::
 (nat_lit 129, ⟨(.type "code"), none, (.fields #[(.str "is_stretch" 342), (.str "is_stretch" 343), (.str "/claim/cut.py" 344), (.int 32 0), (.int 2 0), (.int 0 0), (.int 0 0), (.int 3 0), (.ref 124), (.bool true), (.int 181 0), (.ref 125), .none, (.ref 126), (.ref 127), (.ref 128), (.int 347 0), (.int 32 0), (.str "/claim/cut.py" 348)]), #[]⟩) ::
 (nat_lit 130, ⟨(.type "function"), none, (.func ⟨"is_stretch", "is_stretch", defArgs (top 19), .stmts (defBody (top 19)), defScope (top 19), 3, [], .none, .none, .none, (.str "notefall.wholes" 294), none, (.ref 129), .none, 0⟩), #[]⟩) ::
 (nat_lit 131, ⟨(.type "tuple"), none, (.seq #[] 0), #[]⟩) ::
 (nat_lit 133, ⟨(.type "tuple"), none, (.seq #[(.str "thing" 353)] 0), #[]⟩) ::
 (nat_lit 134, ⟨(.type "tuple"), none, (.seq #[] 0), #[]⟩) ::
 (nat_lit 136, ⟨(.type "code"), none, (.fields #[(.str "check_key" 350), (.str "check_key" 351), (.str "/claim/cut.py" 352), (.int 34 0), (.int 1 0), (.int 0 0), (.int 0 0), (.int 3 0), (.ref 131), (.bool true), (.int 181 0), (.ref 132), .none, (.ref 133), (.ref 134), (.ref 135), (.int 354 0), (.int 34 0), (.str "/claim/cut.py" 355)]), #[]⟩) ::
 (nat_lit 137, ⟨(.type "function"), none, (.func ⟨"check_key", "check_key", defArgs (top 20), .stmts (defBody (top 20)), defScope (top 20), 3, [], .none, .none, .none, (.str "notefall.wholes" 294), none, (.ref 136), .none, 0⟩), #[]⟩) ::
 (nat_lit 138, ⟨(.type "tuple"), none, (.seq #[] 0), #[]⟩) ::
 (nat_lit 140, ⟨(.type "tuple"), none, (.seq #[(.str "low" 360), (.str "high" 361)] 0), #[]⟩) ::
 (nat_lit 141, ⟨(.type "tuple"), none, (.seq #[] 0), #[]⟩) ::
 (nat_lit 143, ⟨(.type "code"), none, (.fields #[(.str "check_stretch" 357), (.str "check_stretch" 358), (.str "/claim/cut.py" 359), (.int 37 0), (.int 2 0), (.int 0 0), (.int 0 0), (.int 3 0), (.ref 138), (.bool true), (.int 181 0), (.ref 139), .none, (.ref 140), (.ref 141), (.ref 142), (.int 362 0), (.int 37 0), (.str "/claim/cut.py" 363)]), #[]⟩) ::
 (nat_lit 144, ⟨(.type "function"), none, (.func ⟨"check_stretch", "check_stretch", defArgs (top 21), .stmts (defBody (top 21)), defScope (top 21), 3, [], .none, .none, .none, (.str "notefall.wholes" 294), none, (.ref 143), .none, 0⟩), #[]⟩) ::
 (nat_lit 145, ⟨(.type "tuple"), none, (.seq #[] 0), #[]⟩) ::
 (nat_lit 147, ⟨(.type "tuple"), none, (.seq #[(.str "thing" 368)] 0), #[]⟩) ::
 (nat_lit 148, ⟨(.type "tuple"), none, (.seq #[] 0), #[]⟩) ::
 (nat_lit 150, ⟨(.type "code"), none, (.fields #[(.str "is_plan" 365), (.str "is_plan" 366), (.str "/claim/cut.py" 367), (.int 40 0), (.int 1 0), (.int 0 0), (.int 0 0), (.int 3 0), (.ref 145), (.bool true), (.int 181 0), (.ref 146), .none, (.ref 147), (.ref 148), (.ref 149), (.int 369 0), (.int 40 0), (.str "/claim/cut.py" 370)]), #[]⟩) ::
 (nat_lit 151, ⟨(.type "function"), none, (.func ⟨"is_plan", "is_plan", defArgs (top 22), .stmts (defBody (top 22)), defScope (top 22), 3, [], .none, .none, .none, (.str "notefall.wholes" 294), none, (.ref 150), .none, 0⟩), #[]⟩) ::
 (nat_lit 152, ⟨(.type "tuple"), none, (.seq #[] 0), #[]⟩) ::
 (nat_lit 154, ⟨(.type "tuple"), none, (.seq #[(.str "thing" 375), (.str "tray" 376), (.str "fan" 377), (.str "rows" 378), (.str "plan" 379)] 0), #[]⟩) ::
 (nat_lit 155, ⟨(.type "tuple"), none, (.seq #[] 0), #[]⟩) ::
 (nat_lit 157, ⟨(.type "code"), none, (.fields #[(.str "is_rule" 372), (.str "is_rule" 373), (.str "/claim/cut.py" 374), (.int 42 0), (.int 1 0), (.int 0 0), (.int 0 0), (.int 3 0), (.ref 152), (.bool true), (.int 181 0), (.ref 153), .none, (.ref 154), (.ref 155), (.ref 156), (.int 380 0), (.int 42 0), (.str "/claim/cut.py" 381)]), #[]⟩) ::
 (nat_lit 158, ⟨(.type "function"), none, (.func ⟨"is_rule", "is_rule", defArgs (top 23), .stmts (defBody (top 23)), defScope (top 23), 3, [], .none, .none, .none, (.str "notefall.wholes" 294), none, (.ref 157), .none, 0⟩), #[]⟩) ::
 (nat_lit 159, ⟨(.type "tuple"), none, (.seq #[(.str "gone" 385)] 0), #[]⟩) ::
 (nat_lit 160, ⟨(.type "tuple"), none, (.seq #[] 0), #[]⟩) ::
 (nat_lit 162, ⟨(.type "tuple"), none, (.seq #[(.str "half" 390), (.str "value" 391), (.str "word" 392), (.str "number" 393)] 0), #[]⟩) ::
 (nat_lit 163, ⟨(.type "tuple"), none, (.seq #[] 0), #[]⟩) ::
 (nat_lit 165, ⟨(.type "code"), none, (.fields #[(.str "half_acts" 387), (.str "half_acts" 388), (.str "/claim/cut.py" 389), (.int 51 0), (.int 2 0), (.int 0 0), (.int 0 0), (.int 3 0), (.ref 160), (.bool true), (.int 181 0), (.ref 161), .none, (.ref 162), (.ref 163), (.ref 164), (.int 394 0), (.int 51 0), (.str "/claim/cut.py" 395)]), #[]⟩) ::
 (nat_lit 166, ⟨(.type "function"), none, (.func ⟨"half_acts", "half_acts", defArgs (top 26), .stmts (defBody (top 26)), defScope (top 26), 3, [], .none, .none, .none, (.str "notefall.actions" 383), none, (.ref 165), .none, 0⟩), #[]⟩) ::
 (nat_lit 167, ⟨(.type "tuple"), none, (.seq #[] 0), #[]⟩) ::
 (nat_lit 169, ⟨(.type "tuple"), none, (.seq #[(.str "action" 400), (.str "value" 401), (.str "there" 402), (.str "none" 403)] 0), #[]⟩) ::
 (nat_lit 170, ⟨(.type "tuple"), none, (.seq #[] 0), #[]⟩) ::
 (nat_lit 172, ⟨(.type "code"), none, (.fields #[(.str "does" 397), (.str "does" 398), (.str "/claim/cut.py" 399), (.int 56 0), (.int 2 0), (.int 0 0), (.int 0 0), (.int 3 0), (.ref 167), (.bool true), (.int 181 0), (.ref 168), .none, (.ref 169), (.ref 170), (.ref 171), (.int 404 0), (.int 56 0), (.str "/claim/cut.py" 405)]), #[]⟩) ::
 (nat_lit 173, ⟨(.type "function"), none, (.func ⟨"does", "does", defArgs (top 27), .stmts (defBody (top 27)), defScope (top 27), 3, [], .none, .none, .none, (.str "notefall.actions" 383), none, (.ref 172), .none, 0⟩), #[]⟩) ::
 (nat_lit 174, ⟨(.type "tuple"), none, (.seq #[] 0), #[]⟩) ::
 (nat_lit 176, ⟨(.type "tuple"), none, (.seq #[(.str "note" 412), (.str "key" 413)] 0), #[]⟩) ::
 (nat_lit 177, ⟨(.type "tuple"), none, (.seq #[] 0), #[]⟩) ::
 (nat_lit 179, ⟨(.type "code"), none, (.fields #[(.str "has_key" 409), (.str "has_key" 410), (.str "/claim/cut.py" 411), (.int 60 0), (.int 2 0), (.int 0 0), (.int 0 0), (.int 3 0), (.ref 174), (.bool true), (.int 181 0), (.ref 175), .none, (.ref 176), (.ref 177), (.ref 178), (.int 414 0), (.int 60 0), (.str "/claim/cut.py" 415)]), #[]⟩) ::
 (nat_lit 180, ⟨(.type "function"), none, (.func ⟨"has_key", "has_key", defArgs (top 29), .stmts (defBody (top 29)), defScope (top 29), 3, [], .none, .none, .none, (.str "notefall.notes" 407), none, (.ref 179), .none, 0⟩), #[]⟩) ::
 (nat_lit 181, ⟨(.type "tuple"), none, (.seq #[] 0), #[]⟩) ::
 (nat_lit 184, ⟨(.type "code"), none, (.fields #[(.str "reached" 417), (.str "reached" 418), (.str "/claim/cut.py" 419), (.int 62 0), (.int 2 0), (.int 0 0), (.int 0 0), (.int 3 0), (.ref 181), (.bool true), (.int 181 0), (.ref 182), .none, .none, .none, (.ref 183), (.int 420 0), (.int 62 0), (.str "/claim/cut.py" 421)]), #[]⟩) ::
 (nat_lit 185, ⟨(.type "function"), none, (.func ⟨"reached", "reached", defArgs (top 30), .stmts (defBody (top 30)), defScope (top 30), 3, [], .none, .none, .none, (.str "notefall.notes" 407), none, (.ref 184), .none, 0⟩), #[]⟩) ::
 (nat_lit 186, ⟨(.type "dict"), none, (.dict (List.toArray (⟨kh P "at", (.str "at" 425), .none⟩ :: [])) 1), #[]⟩) ::
 (nat_lit 187, ⟨(.type "tuple"), none, (.seq #[] 0), #[]⟩) ::
 (nat_lit 189, ⟨(.type "tuple"), none, (.seq #[(.str "versions" 429), (.str "at" 430), (.str "value" 431), (.str "number" 432), (.str "other" 433)] 0), #[]⟩) ::
 (nat_lit 190, ⟨(.type "tuple"), none, (.seq #[] 0), #[]⟩) ::
 (nat_lit 192, ⟨(.type "code"), none, (.fields #[(.str "value_of" 426), (.str "value_of" 427), (.str "/claim/cut.py" 428), (.int 68 0), (.int 1 0), (.int 0 0), (.int 1 0), (.int 3 0), (.ref 187), (.bool true), (.int 181 0), (.ref 188), .none, (.ref 189), (.ref 190), (.ref 191), (.int 434 0), (.int 68 0), (.str "/claim/cut.py" 435)]), #[]⟩) ::
 (nat_lit 193, ⟨(.type "function"), none, (.func ⟨"value_of", "value_of", defArgs (top 32), .stmts (defBody (top 32)), defScope (top 32), 3, [], .none, (.ref 186), .none, (.str "notefall.leaves" 423), none, (.ref 192), .none, 0⟩), #[]⟩) ::
 (nat_lit 194, ⟨(.type "tuple"), none, (.seq #[] 0), #[]⟩) ::
 (nat_lit 197, ⟨(.type "code"), none, (.fields #[(.str "up_to" 439), (.str "up_to" 440), (.str "/claim/cut.py" 441), (.int 75 0), (.int 2 0), (.int 0 0), (.int 0 0), (.int 3 0), (.ref 194), (.bool true), (.int 181 0), (.ref 195), .none, .none, .none, (.ref 196), (.int 442 0), (.int 75 0), (.str "/claim/cut.py" 443)]), #[]⟩) ::
 (nat_lit 198, ⟨(.type "function"), none, (.func ⟨"up_to", "up_to", defArgs (top 34), .stmts (defBody (top 34)), defScope (top 34), 3, [], .none, .none, .none, (.str "notefall.trays" 437), none, (.ref 197), .none, 0⟩), #[]⟩) ::
 (nat_lit 199, ⟨(.type "tuple"), none, (.seq #[] 0), #[]⟩) ::
 (nat_lit 202, ⟨(.type "code"), none, (.fields #[(.str "touching" 445), (.str "touching" 446), (.str "/claim/cut.py" 447), (.int 77 0), (.int 2 0), (.int 0 0), (.int 0 0), (.int 3 0), (.ref 199), (.bool true), (.int 181 0), (.ref 200), .none, .none, .none, (.ref 201), (.int 448 0), (.int 77 0), (.str "/claim/cut.py" 449)]), #[]⟩) ::
 (nat_lit 203, ⟨(.type "function"), none, (.func ⟨"touching", "touching", defArgs (top 35), .stmts (defBody (top 35)), defScope (top 35), 3, [], .none, .none, .none, (.str "notefall.trays" 437), none, (.ref 202), .none, 0⟩), #[]⟩) ::
 (nat_lit 204, ⟨(.type "dict"), none, (.dict (List.toArray (⟨kh P "at", (.str "at" 451), .none⟩ :: [])) 1), #[]⟩) ::
 (nat_lit 205, ⟨(.type "tuple"), none, (.seq #[] 0), #[]⟩) ::
 (nat_lit 207, ⟨(.type "tuple"), none, (.seq #[(.str "tray" 455), (.str "key" 456), (.str "value" 457), (.str "at" 458), (.str "note" 459)] 0), #[]⟩) ::
 (nat_lit 208, ⟨(.type "tuple"), none, (.seq #[] 0), #[]⟩) ::
 (nat_lit 210, ⟨(.type "code"), none, (.fields #[(.str "seen" 452), (.str "seen" 453), (.str "/claim/cut.py" 454), (.int 79 0), (.int 3 0), (.int 0 0), (.int 1 0), (.int 3 0), (.ref 205), (.bool true), (.int 181 0), (.ref 206), .none, (.ref 207), (.ref 208), (.ref 209), (.int 460 0), (.int 79 0), (.str "/claim/cut.py" 461)]), #[]⟩) ::
 (nat_lit 211, ⟨(.type "function"), none, (.func ⟨"seen", "seen", defArgs (top 36), .stmts (defBody (top 36)), defScope (top 36), 3, [], .none, (.ref 204), .none, (.str "notefall.trays" 437), none, (.ref 210), .none, 0⟩), #[]⟩) ::
 (nat_lit 219, ⟨(.type "tuple"), none, (.seq #[] 0), #[]⟩) ::
 (nat_lit 221, ⟨(.type "tuple"), none, (.seq #[(.str "self" 480), (.str "number" 481), (.str "rows" 482)] 0), #[]⟩) ::
 (nat_lit 222, ⟨(.type "tuple"), none, (.seq #[] 0), #[]⟩) ::
 (nat_lit 224, ⟨(.type "code"), none, (.fields #[(.str "__init__" 477), (.str "Leaf.__init__" 478), (.str "/claim/cut.py" 479), (.int 86 0), (.int 3 0), (.int 0 0), (.int 0 0), (.int 3 0), (.ref 219), (.bool true), (.int 181 0), (.ref 220), .none, (.ref 221), (.ref 222), (.ref 223), (.int 483 0), (.int 86 0), (.str "/claim/cut.py" 484)]), #[]⟩) ::
 (nat_lit 225, ⟨(.type "function"), none, (.func ⟨"__init__", "Leaf.__init__", defArgs (inClass (top 38) 0), .stmts (defBody (inClass (top 38) 0)), defScope (inClass (top 38) 0), 3, [], .none, .none, .none, (.str "notefall.rooms" 463), none, (.ref 224), .none, 0⟩), #[]⟩) ::
 (nat_lit 226, ⟨(.type "tuple"), none, (.seq #[(.str "number" 486), (.str "rows" 487)] 0), #[]⟩) ::
 (nat_lit 227, ⟨(.type "dict"), none, (.dict (List.toArray (⟨kh P "__module__", (.str "__module__" 472), (.str "notefall.rooms" 463)⟩ :: ⟨kh P "__firstlineno__", (.str "__firstlineno__" 476), (.int 84 475)⟩ :: ⟨kh P "__init__", (.str "__init__" 485), (.ref 225)⟩ :: ⟨kh P "__static_attributes__", (.str "__static_attributes__" 488), (.ref 226)⟩ :: ⟨kh P "__dict__", (.str "__dict__" 490), (.ref 229)⟩ :: ⟨kh P "__weakref__", (.str "__weakref__" 492), (.ref 230)⟩ :: ⟨kh P "__doc__", (.str "__doc__" 493), .none⟩ :: [])) 4), #[]⟩) ::
 (nat_lit 228, ⟨(.type "type"), none, (.cls ⟨"Leaf", [(.type "object")], [(.ref 228), (.type "object")], 227, "Leaf", true, [], [], false, none, false⟩), #[none, none, (some (.str "Leaf" 465)), (some (.str "Leaf" 473)), (some (.builtin "object.__new__")), (some (.bool true))]⟩) ::
 (nat_lit 229, ⟨(.type "getset_descriptor"), none, (.fields #[(.str "__dict__" 489), (.ref 228), (.builtin "function.__dict__"), (.builtin "function.__dict__#set")]), #[]⟩) ::
 (nat_lit 230, ⟨(.type "getset_descriptor"), none, (.fields #[(.str "__weakref__" 491), (.ref 228), (.builtin "ExceptionGroup.__weakref__"), .none]), #[]⟩) ::
 (nat_lit 233, ⟨(.type "tuple"), none, (.seq #[] 0), #[]⟩) ::
 (nat_lit 235, ⟨(.type "tuple"), none, (.seq #[(.str "room" 499), (.str "low" 500), (.str "high" 501), (.str "edges" 502)] 0), #[]⟩) ::
 (nat_lit 236, ⟨(.type "tuple"), none, (.seq #[] 0), #[]⟩) ::
 (nat_lit 238, ⟨(.type "code"), none, (.fields #[(.str "stretches" 496), (.str "stretches" 497), (.str "/claim/cut.py" 498), (.int 89 0), (.int 3 0), (.int 0 0), (.int 0 0), (.int 3 0), (.ref 233), (.bool true), (.int 181 0), (.ref 234), .none, (.ref 235), (.ref 236), (.ref 237), (.int 503 0), (.int 89 0), (.str "/claim/cut.py" 504)]), #[]⟩) ::
 (nat_lit 239, ⟨(.type "function"), none, (.func ⟨"stretches", "stretches", defArgs (top 39), .stmts (defBody (top 39)), defScope (top 39), 3, [], .none, .none, .none, (.str "notefall.rooms" 463), none, (.ref 238), .none, 0⟩), #[]⟩) ::
 (nat_lit 240, ⟨(.type "tuple"), none, (.seq #[] 0), #[]⟩) ::
 (nat_lit 243, ⟨(.type "code"), none, (.fields #[(.str "child_place" 506), (.str "child_place" 507), (.str "/claim/cut.py" 508), (.int 92 0), (.int 2 0), (.int 0 0), (.int 0 0), (.int 3 0), (.ref 240), (.bool true), (.int 181 0), (.ref 241), .none, .none, .none, (.ref 242), (.int 509 0), (.int 92 0), (.str "/claim/cut.py" 510)]), #[]⟩) ::
 (nat_lit 244, ⟨(.type "function"), none, (.func ⟨"child_place", "child_place", defArgs (top 40), .stmts (defBody (top 40)), defScope (top 40), 3, [], .none, .none, .none, (.str "notefall.rooms" 463), none, (.ref 243), .none, 0⟩), #[]⟩) ::
 (nat_lit 252, ⟨(.type "tuple"), none, (.seq #[] 0), #[]⟩) ::
 (nat_lit 254, ⟨(.type "tuple"), none, (.seq #[(.str "self" 527), (.str "rule" 528), (.str "kept" 529), (.str "fresh" 530), (.str "top" 531)] 0), #[]⟩) ::
 (nat_lit 255, ⟨(.type "tuple"), none, (.seq #[] 0), #[]⟩) ::
 (nat_lit 257, ⟨(.type "code"), none, (.fields #[(.str "__init__" 524), (.str "House.__init__" 525), (.str "/claim/cut.py" 526), (.int 96 0), (.int 5 0), (.int 0 0), (.int 0 0), (.int 3 0), (.ref 252), (.bool true), (.int 181 0), (.ref 253), .none, (.ref 254), (.ref 255), (.ref 256), (.int 532 0), (.int 96 0), (.str "/claim/cut.py" 533)]), #[]⟩) ::
 (nat_lit 258, ⟨(.type "function"), none, (.func ⟨"__init__", "House.__init__", defArgs (inClass (top 41) 0), .stmts (defBody (inClass (top 41) 0)), defScope (inClass (top 41) 0), 3, [], .none, .none, .none, (.str "notefall.rooms" 463), none, (.ref 257), .none, 0⟩), #[]⟩) ::
 (nat_lit 259, ⟨(.type "tuple"), none, (.seq #[] 0), #[]⟩) ::
 (nat_lit 261, ⟨(.type "tuple"), none, (.seq #[(.str "self" 538)] 0), #[]⟩) ::
 (nat_lit 262, ⟨(.type "tuple"), none, (.seq #[] 0), #[]⟩) ::
 (nat_lit 264, ⟨(.type "code"), none, (.fields #[(.str "next_number" 535), (.str "House.next_number" 536), (.str "/claim/cut.py" 537), (.int 103 0), (.int 1 0), (.int 0 0), (.int 0 0), (.int 3 0), (.ref 259), (.bool true), (.int 181 0), (.ref 260), .none, (.ref 261), (.ref 262), (.ref 263), (.int 539 0), (.int 103 0), (.str "/claim/cut.py" 540)]), #[]⟩) ::
 (nat_lit 265, ⟨(.type "function"), none, (.func ⟨"next_number", "House.next_number", defArgs (inClass (top 41) 1), .stmts (defBody (inClass (top 41) 1)), defScope (inClass (top 41) 1), 3, [], .none, .none, .none, (.str "notefall.rooms" 463), none, (.ref 264), .none, 0⟩), #[]⟩) ::
 (nat_lit 266, ⟨(.type "tuple"), none, (.seq #[] 0), #[]⟩) ::
 (nat_lit 268, ⟨(.type "tuple"), none, (.seq #[(.str "self" 545), (.str "note" 546)] 0), #[]⟩) ::
 (nat_lit 269, ⟨(.type "tuple"), none, (.seq #[] 0), #[]⟩) ::
 (nat_lit 271, ⟨(.type "code"), none, (.fields #[(.str "lay" 542), (.str "House.lay" 543), (.str "/claim/cut.py" 544), (.int 106 0), (.int 2 0), (.int 0 0), (.int 0 0), (.int 3 0), (.ref 266), (.bool true), (.int 181 0), (.ref 267), .none, (.ref 268), (.ref 269), (.ref 270), (.int 547 0), (.int 106 0), (.str "/claim/cut.py" 548)]), #[]⟩) ::
 (nat_lit 272, ⟨(.type "function"), none, (.func ⟨"lay", "House.lay", defArgs (inClass (top 41) 2), .stmts (defBody (inClass (top 41) 2)), defScope (inClass (top 41) 2), 3, [], .none, .none, .none, (.str "notefall.rooms" 463), none, (.ref 271), .none, 0⟩), #[]⟩) ::
 (nat_lit 273, ⟨(.type "tuple"), none, (.seq #[] 0), #[]⟩) ::
 (nat_lit 275, ⟨(.type "tuple"), none, (.seq #[(.str "self" 553), (.str "room" 554), (.str "low" 555), (.str "high" 556), (.str "notes" 557)] 0), #[]⟩) ::
 (nat_lit 276, ⟨(.type "tuple"), none, (.seq #[] 0), #[]⟩) ::
 (nat_lit 278, ⟨(.type "code"), none, (.fields #[(.str "take_in" 550), (.str "House.take_in" 551), (.str "/claim/cut.py" 552), (.int 109 0), (.int 5 0), (.int 0 0), (.int 0 0), (.int 3 0), (.ref 273), (.bool true), (.int 181 0), (.ref 274), .none, (.ref 275), (.ref 276), (.ref 277), (.int 558 0), (.int 109 0), (.str "/claim/cut.py" 559)]), #[]⟩) ::
 (nat_lit 279, ⟨(.type "function"), none, (.func ⟨"take_in", "House.take_in", defArgs (inClass (top 41) 3), .stmts (defBody (inClass (top 41) 3)), defScope (inClass (top 41) 3), 3, [], .none, .none, .none, (.str "notefall.rooms" 463), none, (.ref 278), .none, 0⟩), #[]⟩) ::
 (nat_lit 280, ⟨(.type "tuple"), none, (.seq #[] 0), #[]⟩) ::
 (nat_lit 282, ⟨(.type "tuple"), none, (.seq #[(.str "self" 564), (.str "room" 565), (.str "low" 566), (.str "high" 567)] 0), #[]⟩) ::
 (nat_lit 283, ⟨(.type "tuple"), none, (.seq #[] 0), #[]⟩) ::
 (nat_lit 285, ⟨(.type "code"), none, (.fields #[(.str "drain" 561), (.str "House.drain" 562), (.str "/claim/cut.py" 563), (.int 112 0), (.int 4 0), (.int 0 0), (.int 0 0), (.int 3 0), (.ref 280), (.bool true), (.int 181 0), (.ref 281), .none, (.ref 282), (.ref 283), (.ref 284), (.int 568 0), (.int 112 0), (.str "/claim/cut.py" 569)]), #[]⟩) ::
 (nat_lit 286, ⟨(.type "function"), none, (.func ⟨"drain", "House.drain", defArgs (inClass (top 41) 4), .stmts (defBody (inClass (top 41) 4)), defScope (inClass (top 41) 4), 3, [], .none, .none, .none, (.str "notefall.rooms" 463), none, (.ref 285), .none, 0⟩), #[]⟩) ::
 (nat_lit 287, ⟨(.type "tuple"), none, (.seq #[] 0), #[]⟩) ::
 (nat_lit 289, ⟨(.type "tuple"), none, (.seq #[(.str "self" 574), (.str "room" 575), (.str "place" 576), (.str "low" 577), (.str "high" 578)] 0), #[]⟩) ::
 (nat_lit 290, ⟨(.type "tuple"), none, (.seq #[] 0), #[]⟩) ::
 (nat_lit 292, ⟨(.type "code"), none, (.fields #[(.str "pour_into" 571), (.str "House.pour_into" 572), (.str "/claim/cut.py" 573), (.int 115 0), (.int 5 0), (.int 0 0), (.int 0 0), (.int 3 0), (.ref 287), (.bool true), (.int 181 0), (.ref 288), .none, (.ref 289), (.ref 290), (.ref 291), (.int 579 0), (.int 115 0), (.str "/claim/cut.py" 580)]), #[]⟩) ::
 (nat_lit 293, ⟨(.type "function"), none, (.func ⟨"pour_into", "House.pour_into", defArgs (inClass (top 41) 5), .stmts (defBody (inClass (top 41) 5)), defScope (inClass (top 41) 5), 3, [], .none, .none, .none, (.str "notefall.rooms" 463), none, (.ref 292), .none, 0⟩), #[]⟩) ::
 (nat_lit 294, ⟨(.type "tuple"), none, (.seq #[] 0), #[]⟩) ::
 (nat_lit 296, ⟨(.type "tuple"), none, (.seq #[(.str "self" 585), (.str "room" 586), (.str "place" 587), (.str "tray" 588)] 0), #[]⟩) ::
 (nat_lit 297, ⟨(.type "tuple"), none, (.seq #[] 0), #[]⟩) ::
 (nat_lit 299, ⟨(.type "code"), none, (.fields #[(.str "clear_out" 582), (.str "House.clear_out" 583), (.str "/claim/cut.py" 584), (.int 118 0), (.int 4 0), (.int 0 0), (.int 0 0), (.int 3 0), (.ref 294), (.bool true), (.int 181 0), (.ref 295), .none, (.ref 296), (.ref 297), (.ref 298), (.int 589 0), (.int 118 0), (.str "/claim/cut.py" 590)]), #[]⟩) ::
 (nat_lit 300, ⟨(.type "function"), none, (.func ⟨"clear_out", "House.clear_out", defArgs (inClass (top 41) 6), .stmts (defBody (inClass (top 41) 6)), defScope (inClass (top 41) 6), 3, [], .none, .none, .none, (.str "notefall.rooms" 463), none, (.ref 299), .none, 0⟩), #[]⟩) ::
 (nat_lit 301, ⟨(.type "tuple"), none, (.seq #[] 0), #[]⟩) ::
 (nat_lit 303, ⟨(.type "tuple"), none, (.seq #[(.str "self" 595), (.str "room" 596)] 0), #[]⟩) ::
 (nat_lit 304, ⟨(.type "tuple"), none, (.seq #[] 0), #[]⟩) ::
 (nat_lit 306, ⟨(.type "code"), none, (.fields #[(.str "is_too_great" 592), (.str "House.is_too_great" 593), (.str "/claim/cut.py" 594), (.int 121 0), (.int 2 0), (.int 0 0), (.int 0 0), (.int 3 0), (.ref 301), (.bool true), (.int 181 0), (.ref 302), .none, (.ref 303), (.ref 304), (.ref 305), (.int 597 0), (.int 121 0), (.str "/claim/cut.py" 598)]), #[]⟩) ::
 (nat_lit 307, ⟨(.type "function"), none, (.func ⟨"is_too_great", "House.is_too_great", defArgs (inClass (top 41) 7), .stmts (defBody (inClass (top 41) 7)), defScope (inClass (top 41) 7), 3, [], .none, .none, .none, (.str "notefall.rooms" 463), none, (.ref 306), .none, 0⟩), #[]⟩) ::
 (nat_lit 308, ⟨(.type "tuple"), none, (.seq #[] 0), #[]⟩) ::
 (nat_lit 310, ⟨(.type "tuple"), none, (.seq #[(.str "self" 603), (.str "room" 604), (.str "place" 605), (.str "low" 606), (.str "high" 607)] 0), #[]⟩) ::
 (nat_lit 311, ⟨(.type "tuple"), none, (.seq #[] 0), #[]⟩) ::
 (nat_lit 313, ⟨(.type "code"), none, (.fields #[(.str "mend" 600), (.str "House.mend" 601), (.str "/claim/cut.py" 602), (.int 124 0), (.int 5 0), (.int 0 0), (.int 0 0), (.int 3 0), (.ref 308), (.bool true), (.int 181 0), (.ref 309), .none, (.ref 310), (.ref 311), (.ref 312), (.int 608 0), (.int 124 0), (.str "/claim/cut.py" 609)]), #[]⟩) ::
 (nat_lit 314, ⟨(.type "function"), none, (.func ⟨"mend", "House.mend", defArgs (inClass (top 41) 8), .stmts (defBody (inClass (top 41) 8)), defScope (inClass (top 41) 8), 3, [], .none, .none, .none, (.str "notefall.rooms" 463), none, (.ref 313), .none, 0⟩), #[]⟩) ::
 (nat_lit 315, ⟨(.type "tuple"), none, (.seq #[] 0), #[]⟩) ::
 (nat_lit 317, ⟨(.type "tuple"), none, (.seq #[(.str "self" 614), (.str "room" 615), (.str "place" 616), (.str "low" 617), (.str "high" 618)] 0), #[]⟩) ::
 (nat_lit 318, ⟨(.type "tuple"), none, (.seq #[] 0), #[]⟩) ::
 (nat_lit 320, ⟨(.type "code"), none, (.fields #[(.str "part_child" 611), (.str "House.part_child" 612), (.str "/claim/cut.py" 613), (.int 127 0), (.int 5 0), (.int 0 0), (.int 0 0), (.int 3 0), (.ref 315), (.bool true), (.int 181 0), (.ref 316), .none, (.ref 317), (.ref 318), (.ref 319), (.int 619 0), (.int 127 0), (.str "/claim/cut.py" 620)]), #[]⟩) ::
 (nat_lit 321, ⟨(.type "function"), none, (.func ⟨"part_child", "House.part_child", defArgs (inClass (top 41) 9), .stmts (defBody (inClass (top 41) 9)), defScope (inClass (top 41) 9), 3, [], .none, .none, .none, (.str "notefall.rooms" 463), none, (.ref 320), .none, 0⟩), #[]⟩) ::
 (nat_lit 322, ⟨(.type "tuple"), none, (.seq #[] 0), #[]⟩) ::
 (nat_lit 324, ⟨(.type "tuple"), none, (.seq #[(.str "self" 625), (.str "leaf" 626)] 0), #[]⟩) ::
 (nat_lit 325, ⟨(.type "tuple"), none, (.seq #[] 0), #[]⟩) ::
 (nat_lit 327, ⟨(.type "code"), none, (.fields #[(.str "leaf_parts" 622), (.str "House.leaf_parts" 623), (.str "/claim/cut.py" 624), (.int 130 0), (.int 2 0), (.int 0 0), (.int 0 0), (.int 3 0), (.ref 322), (.bool true), (.int 181 0), (.ref 323), .none, (.ref 324), (.ref 325), (.ref 326), (.int 627 0), (.int 130 0), (.str "/claim/cut.py" 628)]), #[]⟩) ::
 (nat_lit 328, ⟨(.type "function"), none, (.func ⟨"leaf_parts", "House.leaf_parts", defArgs (inClass (top 41) 10), .stmts (defBody (inClass (top 41) 10)), defScope (inClass (top 41) 10), 3, [], .none, .none, .none, (.str "notefall.rooms" 463), none, (.ref 327), .none, 0⟩), #[]⟩) ::
 (nat_lit 329, ⟨(.type "tuple"), none, (.seq #[] 0), #[]⟩) ::
 (nat_lit 331, ⟨(.type "tuple"), none, (.seq #[(.str "self" 633), (.str "inner" 634), (.str "low" 635), (.str "high" 636)] 0), #[]⟩) ::
 (nat_lit 332, ⟨(.type "tuple"), none, (.seq #[] 0), #[]⟩) ::
 (nat_lit 334, ⟨(.type "code"), none, (.fields #[(.str "inner_parts" 630), (.str "House.inner_parts" 631), (.str "/claim/cut.py" 632), (.int 133 0), (.int 4 0), (.int 0 0), (.int 0 0), (.int 3 0), (.ref 329), (.bool true), (.int 181 0), (.ref 330), .none, (.ref 331), (.ref 332), (.ref 333), (.int 637 0), (.int 133 0), (.str "/claim/cut.py" 638)]), #[]⟩) ::
 (nat_lit 335, ⟨(.type "function"), none, (.func ⟨"inner_parts", "House.inner_parts", defArgs (inClass (top 41) 11), .stmts (defBody (inClass (top 41) 11)), defScope (inClass (top 41) 11), 3, [], .none, .none, .none, (.str "notefall.rooms" 463), none, (.ref 334), .none, 0⟩), #[]⟩) ::
 (nat_lit 336, ⟨(.type "tuple"), none, (.seq #[] 0), #[]⟩) ::
 (nat_lit 338, ⟨(.type "tuple"), none, (.seq #[(.str "self" 643), (.str "room" 644), (.str "many" 645)] 0), #[]⟩) ::
 (nat_lit 339, ⟨(.type "tuple"), none, (.seq #[] 0), #[]⟩) ::
 (nat_lit 341, ⟨(.type "code"), none, (.fields #[(.str "part_numbers" 640), (.str "House.part_numbers" 641), (.str "/claim/cut.py" 642), (.int 136 0), (.int 3 0), (.int 0 0), (.int 0 0), (.int 3 0), (.ref 336), (.bool true), (.int 181 0), (.ref 337), .none, (.ref 338), (.ref 339), (.ref 340), (.int 646 0), (.int 136 0), (.str "/claim/cut.py" 647)]), #[]⟩) ::
 (nat_lit 342, ⟨(.type "function"), none, (.func ⟨"part_numbers", "House.part_numbers", defArgs (inClass (top 41) 12), .stmts (defBody (inClass (top 41) 12)), defScope (inClass (top 41) 12), 3, [], .none, .none, .none, (.str "notefall.rooms" 463), none, (.ref 341), .none, 0⟩), #[]⟩) ::
 (nat_lit 343, ⟨(.type "tuple"), none, (.seq #[] 0), #[]⟩) ::
 (nat_lit 345, ⟨(.type "tuple"), none, (.seq #[(.str "self" 652)] 0), #[]⟩) ::
 (nat_lit 346, ⟨(.type "tuple"), none, (.seq #[] 0), #[]⟩) ::
 (nat_lit 348, ⟨(.type "code"), none, (.fields #[(.str "mend_top" 649), (.str "House.mend_top" 650), (.str "/claim/cut.py" 651), (.int 139 0), (.int 1 0), (.int 0 0), (.int 0 0), (.int 3 0), (.ref 343), (.bool true), (.int 181 0), (.ref 344), .none, (.ref 345), (.ref 346), (.ref 347), (.int 653 0), (.int 139 0), (.str "/claim/cut.py" 654)]), #[]⟩) ::
 (nat_lit 349, ⟨(.type "function"), none, (.func ⟨"mend_top", "House.mend_top", defArgs (inClass (top 41) 13), .stmts (defBody (inClass (top 41) 13)), defScope (inClass (top 41) 13), 3, [], .none, .none, .none, (.str "notefall.rooms" 463), none, (.ref 348), .none, 0⟩), #[]⟩) ::
 (nat_lit 350, ⟨(.type "tuple"), none, (.seq #[(.str "fresh" 656), (.str "kept" 657), (.str "rule" 658), (.str "top" 659), (.str "trail" 660)] 0), #[]⟩) ::
 (nat_lit 351, ⟨(.type "dict"), none, (.dict (List.toArray (⟨kh P "__module__", (.str "__module__" 519), (.str "notefall.rooms" 463)⟩ :: ⟨kh P "__firstlineno__", (.str "__firstlineno__" 523), (.int 94 522)⟩ :: ⟨kh P "__init__", (.str "__init__" 534), (.ref 258)⟩ :: ⟨kh P "next_number", (.str "next_number" 541), (.ref 265)⟩ :: ⟨kh P "lay", (.str "lay" 549), (.ref 272)⟩ :: ⟨kh P "take_in", (.str "take_in" 560), (.ref 279)⟩ :: ⟨kh P "drain", (.str "drain" 570), (.ref 286)⟩ :: ⟨kh P "pour_into", (.str "pour_into" 581), (.ref 293)⟩ :: ⟨kh P "clear_out", (.str "clear_out" 591), (.ref 300)⟩ :: ⟨kh P "is_too_great", (.str "is_too_great" 599), (.ref 307)⟩ :: ⟨kh P "mend", (.str "mend" 610), (.ref 314)⟩ :: ⟨kh P "part_child", (.str "part_child" 621), (.ref 321)⟩ :: ⟨kh P "leaf_parts", (.str "leaf_parts" 629), (.ref 328)⟩ :: ⟨kh P "inner_parts", (.str "inner_parts" 639), (.ref 335)⟩ :: ⟨kh P "part_numbers", (.str "part_numbers" 648), (.ref 342)⟩ :: ⟨kh P "mend_top", (.str "mend_top" 655), (.ref 349)⟩ :: ⟨kh P "__static_attributes__", (.str "__static_attributes__" 661), (.ref 350)⟩ :: ⟨kh P "__dict__", (.str "__dict__" 663), (.ref 353)⟩ :: ⟨kh P "__weakref__", (.str "__weakref__" 665), (.ref 354)⟩ :: ⟨kh P "__doc__", (.str "__doc__" 666), .none⟩ :: [])) 4), #[]⟩) ::
 (nat_lit 352, ⟨(.type "type"), none, (.cls ⟨"House", [(.type "object")], [(.ref 352), (.type "object")], 351, "House", true, [], [], false, none, false⟩), #[none, none, (some (.str "House" 512)), (some (.str "House" 520)), (some (.builtin "object.__new__")), (some (.bool true))]⟩) ::
 (nat_lit 353, ⟨(.type "getset_descriptor"), none, (.fields #[(.str "__dict__" 662), (.ref 352), (.builtin "function.__dict__"), (.builtin "function.__dict__#set")]), #[]⟩) ::
 (nat_lit 354, ⟨(.type "getset_descriptor"), none, (.fields #[(.str "__weakref__" 664), (.ref 352), (.builtin "ExceptionGroup.__weakref__"), .none]), #[]⟩) ::
 (nat_lit 357, ⟨(.type "tuple"), none, (.seq #[] 0), #[]⟩) ::
 (nat_lit 359, ⟨(.type "tuple"), none, (.seq #[(.str "rule" 672)] 0), #[]⟩) ::
 (nat_lit 360, ⟨(.type "tuple"), none, (.seq #[] 0), #[]⟩) ::
 (nat_lit 362, ⟨(.type "code"), none, (.fields #[(.str "new_house" 669), (.str "new_house" 670), (.str "/claim/cut.py" 671), (.int 141 0), (.int 1 0), (.int 0 0), (.int 0 0), (.int 3 0), (.ref 357), (.bool true), (.int 181 0), (.ref 358), .none, (.ref 359), (.ref 360), (.ref 361), (.int 673 0), (.int 141 0), (.str "/claim/cut.py" 674)]), #[]⟩) ::
 (nat_lit 363, ⟨(.type "function"), none, (.func ⟨"new_house", "new_house", defArgs (top 42), .stmts (defBody (top 42)), defScope (top 42), 3, [], .none, .none, .none, (.str "notefall.rooms" 463), none, (.ref 362), .none, 0⟩), #[]⟩) ::
 (nat_lit 364, ⟨(.type "tuple"), none, (.seq #[] 0), #[]⟩) ::
 (nat_lit 366, ⟨(.type "tuple"), none, (.seq #[(.str "house" 681), (.str "at" 682)] 0), #[]⟩) ::
 (nat_lit 367, ⟨(.type "tuple"), none, (.seq #[] 0), #[]⟩) ::
 (nat_lit 369, ⟨(.type "code"), none, (.fields #[(.str "check_mark" 678), (.str "check_mark" 679), (.str "/claim/cut.py" 680), (.int 144 0), (.int 2 0), (.int 0 0), (.int 0 0), (.int 3 0), (.ref 364), (.bool true), (.int 181 0), (.ref 365), .none, (.ref 366), (.ref 367), (.ref 368), (.int 683 0), (.int 144 0), (.str "/claim/cut.py" 684)]), #[]⟩) ::
 (nat_lit 370, ⟨(.type "function"), none, (.func ⟨"check_mark", "check_mark", defArgs (top 44), .stmts (defBody (top 44)), defScope (top 44), 3, [], .none, .none, .none, (.str "notefall.reads" 676), none, (.ref 369), .none, 0⟩), #[]⟩) ::
 (nat_lit 371, ⟨(.type "tuple"), none, (.seq #[] 0), #[]⟩) ::
 (nat_lit 373, ⟨(.type "tuple"), none, (.seq #[(.str "most" 689)] 0), #[]⟩) ::
 (nat_lit 374, ⟨(.type "tuple"), none, (.seq #[] 0), #[]⟩) ::
 (nat_lit 376, ⟨(.type "code"), none, (.fields #[(.str "check_many" 686), (.str "check_many" 687), (.str "/claim/cut.py" 688), (.int 147 0), (.int 1 0), (.int 0 0), (.int 0 0), (.int 3 0), (.ref 371), (.bool true), (.int 181 0), (.ref 372), .none, (.ref 373), (.ref 374), (.ref 375), (.int 690 0), (.int 147 0), (.str "/claim/cut.py" 691)]), #[]⟩) ::
 (nat_lit 377, ⟨(.type "function"), none, (.func ⟨"check_many", "check_many", defArgs (top 45), .stmts (defBody (top 45)), defScope (top 45), 3, [], .none, .none, .none, (.str "notefall.reads" 676), none, (.ref 376), .none, 0⟩), #[]⟩) ::
 (nat_lit 378, ⟨(.type "tuple"), none, (.seq #[] 0), #[]⟩) ::
 (nat_lit 380, ⟨(.type "tuple"), none, (.seq #[(.str "top" 696), (.str "key" 697), (.str "rooms" 698), (.str "room" 699)] 0), #[]⟩) ::
 (nat_lit 381, ⟨(.type "tuple"), none, (.seq #[] 0), #[]⟩) ::
 (nat_lit 383, ⟨(.type "code"), none, (.fields #[(.str "rooms_to" 693), (.str "rooms_to" 694), (.str "/claim/cut.py" 695), (.int 150 0), (.int 2 0), (.int 0 0), (.int 0 0), (.int 3 0), (.ref 378), (.bool true), (.int 181 0), (.ref 379), .none, (.ref 380), (.ref 381), (.ref 382), (.int 700 0), (.int 150 0), (.str "/claim/cut.py" 701)]), #[]⟩) ::
 (nat_lit 384, ⟨(.type "function"), none, (.func ⟨"rooms_to", "rooms_to", defArgs (top 46), .stmts (defBody (top 46)), defScope (top 46), 3, [], .none, .none, .none, (.str "notefall.reads" 676), none, (.ref 383), .none, 0⟩), #[]⟩) ::
 (nat_lit 385, ⟨(.type "tuple"), none, (.seq #[] 0), #[]⟩) ::
 (nat_lit 387, ⟨(.type "tuple"), none, (.seq #[(.str "leaf" 706), (.str "key" 707), (.str "other" 708), (.str "versions" 709)] 0), #[]⟩) ::
 (nat_lit 388, ⟨(.type "tuple"), none, (.seq #[] 0), #[]⟩) ::
 (nat_lit 390, ⟨(.type "code"), none, (.fields #[(.str "versions_in" 703), (.str "versions_in" 704), (.str "/claim/cut.py" 705), (.int 156 0), (.int 2 0), (.int 0 0), (.int 0 0), (.int 3 0), (.ref 385), (.bool true), (.int 181 0), (.ref 386), .none, (.ref 387), (.ref 388), (.ref 389), (.int 710 0), (.int 156 0), (.str "/claim/cut.py" 711)]), #[]⟩) ::
 (nat_lit 391, ⟨(.type "function"), none, (.func ⟨"versions_in", "versions_in", defArgs (top 47), .stmts (defBody (top 47)), defScope (top 47), 3, [], .none, .none, .none, (.str "notefall.reads" 676), none, (.ref 390), .none, 0⟩), #[]⟩) ::
 (nat_lit 392, ⟨(.type "tuple"), none, (.seq #[] 0), #[]⟩) ::
 (nat_lit 394, ⟨(.type "tuple"), none, (.seq #[(.str "top" 716), (.str "key" 717), (.str "at" 718), (.str "inners" 719), (.str "leaf" 720), (.str "value" 721), (.str "room" 722)] 0), #[]⟩) ::
 (nat_lit 395, ⟨(.type "tuple"), none, (.seq #[] 0), #[]⟩) ::
 (nat_lit 397, ⟨(.type "code"), none, (.fields #[(.str "told_value" 713), (.str "told_value" 714), (.str "/claim/cut.py" 715), (.int 161 0), (.int 3 0), (.int 0 0), (.int 0 0), (.int 3 0), (.ref 392), (.bool true), (.int 181 0), (.ref 393), .none, (.ref 394), (.ref 395), (.ref 396), (.int 723 0), (.int 161 0), (.str "/claim/cut.py" 724)]), #[]⟩) ::
 (nat_lit 398, ⟨(.type "function"), none, (.func ⟨"told_value", "told_value", defArgs (top 48), .stmts (defBody (top 48)), defScope (top 48), 3, [], .none, .none, .none, (.str "notefall.reads" 676), none, (.ref 397), .none, 0⟩), #[]⟩) ::
 (nat_lit 399, ⟨(.type "tuple"), none, (.seq #[] 0), #[]⟩) ::
 (nat_lit 402, ⟨(.type "code"), none, (.fields #[(.str "leaf_table" 726), (.str "leaf_table" 727), (.str "/claim/cut.py" 728), (.int 167 0), (.int 2 0), (.int 0 0), (.int 0 0), (.int 3 0), (.ref 399), (.bool true), (.int 181 0), (.ref 400), .none, .none, .none, (.ref 401), (.int 729 0), (.int 167 0), (.str "/claim/cut.py" 730)]), #[]⟩) ::
 (nat_lit 403, ⟨(.type "function"), none, (.func ⟨"leaf_table", "leaf_table", defArgs (top 49), .stmts (defBody (top 49)), defScope (top 49), 3, [], .none, .none, .none, (.str "notefall.reads" 676), none, (.ref 402), .none, 0⟩), #[]⟩) ::
 (nat_lit 404, ⟨(.type "tuple"), none, (.seq #[] 0), #[]⟩) ::
 (nat_lit 406, ⟨(.type "tuple"), none, (.seq #[(.str "table" 735), (.str "note" 736), (.str "keys" 737), (.str "key" 738)] 0), #[]⟩) ::
 (nat_lit 407, ⟨(.type "tuple"), none, (.seq #[] 0), #[]⟩) ::
 (nat_lit 409, ⟨(.type "code"), none, (.fields #[(.str "do_to" 732), (.str "do_to" 733), (.str "/claim/cut.py" 734), (.int 169 0), (.int 2 0), (.int 0 0), (.int 0 0), (.int 3 0), (.ref 404), (.bool true), (.int 181 0), (.ref 405), .none, (.ref 406), (.ref 407), (.ref 408), (.int 739 0), (.int 169 0), (.str "/claim/cut.py" 740)]), #[]⟩) ::
 (nat_lit 410, ⟨(.type "function"), none, (.func ⟨"do_to", "do_to", defArgs (top 50), .stmts (defBody (top 50)), defScope (top 50), 3, [], .none, .none, .none, (.str "notefall.reads" 676), none, (.ref 409), .none, 0⟩), #[]⟩) ::
 (nat_lit 411, ⟨(.type "tuple"), none, (.seq #[] 0), #[]⟩) ::
 (nat_lit 413, ⟨(.type "tuple"), none, (.seq #[(.str "room" 745), (.str "low" 746), (.str "high" 747), (.str "at" 748), (.str "table" 749), (.str "child" 750), (.str "first" 751), (.str "end" 752), (.str "note" 753)] 0), #[]⟩) ::
 (nat_lit 414, ⟨(.type "tuple"), none, (.seq #[] 0), #[]⟩) ::
 (nat_lit 416, ⟨(.type "code"), none, (.fields #[(.str "room_table" 742), (.str "room_table" 743), (.str "/claim/cut.py" 744), (.int 173 0), (.int 4 0), (.int 0 0), (.int 0 0), (.int 3 0), (.ref 411), (.bool true), (.int 181 0), (.ref 412), .none, (.ref 413), (.ref 414), (.ref 415), (.int 754 0), (.int 173 0), (.str "/claim/cut.py" 755)]), #[]⟩) ::
 (nat_lit 417, ⟨(.type "function"), none, (.func ⟨"room_table", "room_table", defArgs (top 51), .stmts (defBody (top 51)), defScope (top 51), 3, [], .none, .none, .none, (.str "notefall.reads" 676), none, (.ref 416), .none, 0⟩), #[]⟩) ::
 (nat_lit 418, ⟨(.type "tuple"), none, (.seq #[] 0), #[]⟩) ::
 (nat_lit 421, ⟨(.type "code"), none, (.fields #[(.str "pairs" 757), (.str "pairs" 758), (.str "/claim/cut.py" 759), (.int 183 0), (.int 4 0), (.int 0 0), (.int 0 0), (.int 3 0), (.ref 418), (.bool true), (.int 181 0), (.ref 419), .none, .none, .none, (.ref 420), (.int 760 0), (.int 183 0), (.str "/claim/cut.py" 761)]), #[]⟩) ::
 (nat_lit 422, ⟨(.type "function"), none, (.func ⟨"pairs", "pairs", defArgs (top 52), .stmts (defBody (top 52)), defScope (top 52), 3, [], .none, .none, .none, (.str "notefall.reads" 676), none, (.ref 421), .none, 0⟩), #[]⟩) ::
 (nat_lit 423, ⟨(.type "dict"), none, (.dict (List.toArray (⟨kh P "at", (.str "at" 763), .none⟩ :: [])) 1), #[]⟩) ::
 (nat_lit 424, ⟨(.type "tuple"), none, (.seq #[] 0), #[]⟩) ::
 (nat_lit 426, ⟨(.type "tuple"), none, (.seq #[(.str "house" 767), (.str "key" 768), (.str "at" 769)] 0), #[]⟩) ::
 (nat_lit 427, ⟨(.type "tuple"), none, (.seq #[] 0), #[]⟩) ::
 (nat_lit 429, ⟨(.type "code"), none, (.fields #[(.str "read_key" 764), (.str "read_key" 765), (.str "/claim/cut.py" 766), (.int 186 0), (.int 2 0), (.int 0 0), (.int 1 0), (.int 3 0), (.ref 424), (.bool true), (.int 181 0), (.ref 425), .none, (.ref 426), (.ref 427), (.ref 428), (.int 770 0), (.int 186 0), (.str "/claim/cut.py" 771)]), #[]⟩) ::
 (nat_lit 430, ⟨(.type "function"), none, (.func ⟨"read_key", "read_key", defArgs (top 53), .stmts (defBody (top 53)), defScope (top 53), 3, [], .none, (.ref 423), .none, (.str "notefall.reads" 676), none, (.ref 429), .none, 0⟩), #[]⟩) ::
 (nat_lit 431, ⟨(.type "tuple"), none, (.seq #[(.int 0 773), (.int 1000000000000 298)] 0), #[]⟩) ::
 (nat_lit 432, ⟨(.type "dict"), none, (.dict (List.toArray (⟨kh P "at", (.str "at" 774), .none⟩ :: ⟨kh P "most", (.str "most" 775), .none⟩ :: ⟨kh P "back", (.str "back" 776), (.bool false)⟩ :: [])) 3), #[]⟩) ::
 (nat_lit 433, ⟨(.type "tuple"), none, (.seq #[] 0), #[]⟩) ::
 (nat_lit 435, ⟨(.type "tuple"), none, (.seq #[(.str "house" 780), (.str "low" 781), (.str "high" 782), (.str "at" 783), (.str "most" 784), (.str "back" 785), (.str "told" 786)] 0), #[]⟩) ::
 (nat_lit 436, ⟨(.type "tuple"), none, (.seq #[] 0), #[]⟩) ::
 (nat_lit 438, ⟨(.type "code"), none, (.fields #[(.str "read_stretch" 777), (.str "read_stretch" 778), (.str "/claim/cut.py" 779), (.int 190 0), (.int 3 0), (.int 0 0), (.int 3 0), (.int 3 0), (.ref 433), (.bool true), (.int 181 0), (.ref 434), .none, (.ref 435), (.ref 436), (.ref 437), (.int 787 0), (.int 190 0), (.str "/claim/cut.py" 788)]), #[]⟩) ::
 (nat_lit 439, ⟨(.type "function"), none, (.func ⟨"read_stretch", "read_stretch", defArgs (top 54), .stmts (defBody (top 54)), defScope (top 54), 3, [], (.ref 431), (.ref 432), .none, (.str "notefall.reads" 676), none, (.ref 438), .none, 0⟩), #[]⟩) ::
 (nat_lit 440, ⟨(.type "dict"), none, (.dict (List.toArray (⟨kh P "at", (.str "at" 790), .none⟩ :: [])) 1), #[]⟩) ::
 (nat_lit 441, ⟨(.type "tuple"), none, (.seq #[] 0), #[]⟩) ::
 (nat_lit 443, ⟨(.type "tuple"), none, (.seq #[(.str "house" 794), (.str "low" 795), (.str "high" 796), (.str "at" 797)] 0), #[]⟩) ::
 (nat_lit 444, ⟨(.type "tuple"), none, (.seq #[] 0), #[]⟩) ::
 (nat_lit 446, ⟨(.type "code"), none, (.fields #[(.str "read_many" 791), (.str "read_many" 792), (.str "/claim/cut.py" 793), (.int 198 0), (.int 3 0), (.int 0 0), (.int 1 0), (.int 3 0), (.ref 441), (.bool true), (.int 181 0), (.ref 442), .none, (.ref 443), (.ref 444), (.ref 445), (.int 798 0), (.int 198 0), (.str "/claim/cut.py" 799)]), #[]⟩) ::
 (nat_lit 447, ⟨(.type "function"), none, (.func ⟨"read_many", "read_many", defArgs (top 55), .stmts (defBody (top 55)), defScope (top 55), 3, [], .none, (.ref 440), .none, (.str "notefall.reads" 676), none, (.ref 446), .none, 0⟩), #[]⟩) ::
 (nat_lit 448, ⟨(.type "tuple"), none, (.seq #[] 0), #[]⟩) ::
 (nat_lit 451, ⟨(.type "code"), none, (.fields #[(.str "own_step" 803), (.str "own_step" 804), (.str "/claim/cut.py" 805), (.int 201 0), (.int 1 0), (.int 0 0), (.int 0 0), (.int 3 0), (.ref 448), (.bool true), (.int 181 0), (.ref 449), .none, .none, .none, (.ref 450), (.int 806 0), (.int 201 0), (.str "/claim/cut.py" 807)]), #[]⟩) ::
 (nat_lit 452, ⟨(.type "function"), none, (.func ⟨"own_step", "own_step", defArgs (top 57), .stmts (defBody (top 57)), defScope (top 57), 3, [], .none, .none, .none, (.str "notefall.store" 801), none, (.ref 451), .none, 0⟩), #[]⟩) ::
 (nat_lit 460, ⟨(.type "tuple"), none, (.seq #[] 0), #[]⟩) ::
 (nat_lit 462, ⟨(.type "tuple"), none, (.seq #[(.str "self" 824), (.str "rule" 825)] 0), #[]⟩) ::
 (nat_lit 463, ⟨(.type "tuple"), none, (.seq #[] 0), #[]⟩) ::
 (nat_lit 465, ⟨(.type "code"), none, (.fields #[(.str "__init__" 821), (.str "Store.__init__" 822), (.str "/claim/cut.py" 823), (.int 205 0), (.int 2 0), (.int 0 0), (.int 0 0), (.int 3 0), (.ref 460), (.bool true), (.int 181 0), (.ref 461), .none, (.ref 462), (.ref 463), (.ref 464), (.int 826 0), (.int 205 0), (.str "/claim/cut.py" 827)]), #[]⟩) ::
 (nat_lit 466, ⟨(.type "function"), none, (.func ⟨"__init__", "Store.__init__", defArgs (inClass (top 58) 0), .stmts (defBody (inClass (top 58) 0)), defScope (inClass (top 58) 0), 3, [], .none, .none, .none, (.str "notefall.store" 801), none, (.ref 465), .none, 0⟩), #[]⟩) ::
 (nat_lit 467, ⟨(.type "tuple"), none, (.seq #[] 0), #[]⟩) ::
 (nat_lit 469, ⟨(.type "tuple"), none, (.seq #[(.str "self" 832)] 0), #[]⟩) ::
 (nat_lit 470, ⟨(.type "tuple"), none, (.seq #[] 0), #[]⟩) ::
 (nat_lit 472, ⟨(.type "code"), none, (.fields #[(.str "check_free" 829), (.str "Store.check_free" 830), (.str "/claim/cut.py" 831), (.int 213 0), (.int 1 0), (.int 0 0), (.int 0 0), (.int 3 0), (.ref 467), (.bool true), (.int 181 0), (.ref 468), .none, (.ref 469), (.ref 470), (.ref 471), (.int 833 0), (.int 213 0), (.str "/claim/cut.py" 834)]), #[]⟩) ::
 (nat_lit 473, ⟨(.type "function"), none, (.func ⟨"check_free", "Store.check_free", defArgs (inClass (top 58) 1), .stmts (defBody (inClass (top 58) 1)), defScope (inClass (top 58) 1), 3, [], .none, .none, .none, (.str "notefall.store" 801), none, (.ref 472), .none, 0⟩), #[]⟩) ::
 (nat_lit 474, ⟨(.type "tuple"), none, (.seq #[] 0), #[]⟩) ::
 (nat_lit 476, ⟨(.type "tuple"), none, (.seq #[(.str "self" 839), (.str "told" 840)] 0), #[]⟩) ::
 (nat_lit 477, ⟨(.type "tuple"), none, (.seq #[] 0), #[]⟩) ::
 (nat_lit 479, ⟨(.type "code"), none, (.fields #[(.str "ready_deed" 836), (.str "Store.ready_deed" 837), (.str "/claim/cut.py" 838), (.int 216 0), (.int 2 0), (.int 0 0), (.int 0 0), (.int 3 0), (.ref 474), (.bool true), (.int 181 0), (.ref 475), .none, (.ref 476), (.ref 477), (.ref 478), (.int 841 0), (.int 216 0), (.str "/claim/cut.py" 842)]), #[]⟩) ::
 (nat_lit 480, ⟨(.type "function"), none, (.func ⟨"ready_deed", "Store.ready_deed", defArgs (inClass (top 58) 2), .stmts (defBody (inClass (top 58) 2)), defScope (inClass (top 58) 2), 3, [], .none, .none, .none, (.str "notefall.store" 801), none, (.ref 479), .none, 0⟩), #[]⟩) ::
 (nat_lit 481, ⟨(.type "tuple"), none, (.seq #[] 0), #[]⟩) ::
 (nat_lit 483, ⟨(.type "tuple"), none, (.seq #[(.str "self" 847), (.str "told" 848)] 0), #[]⟩) ::
 (nat_lit 484, ⟨(.type "tuple"), none, (.seq #[] 0), #[]⟩) ::
 (nat_lit 486, ⟨(.type "code"), none, (.fields #[(.str "do" 844), (.str "Store.do" 845), (.str "/claim/cut.py" 846), (.int 219 0), (.int 2 0), (.int 0 0), (.int 0 0), (.int 3 0), (.ref 481), (.bool true), (.int 181 0), (.ref 482), .none, (.ref 483), (.ref 484), (.ref 485), (.int 849 0), (.int 219 0), (.str "/claim/cut.py" 850)]), #[]⟩) ::
 (nat_lit 487, ⟨(.type "function"), none, (.func ⟨"do", "Store.do", defArgs (inClass (top 58) 3), .stmts (defBody (inClass (top 58) 3)), defScope (inClass (top 58) 3), 3, [], .none, .none, .none, (.str "notefall.store" 801), none, (.ref 486), .none, 0⟩), #[]⟩) ::
 (nat_lit 488, ⟨(.type "tuple"), none, (.seq #[] 0), #[]⟩) ::
 (nat_lit 490, ⟨(.type "tuple"), none, (.seq #[(.str "self" 855)] 0), #[]⟩) ::
 (nat_lit 491, ⟨(.type "tuple"), none, (.seq #[] 0), #[]⟩) ::
 (nat_lit 493, ⟨(.type "code"), none, (.fields #[(.str "marks" 852), (.str "Store.marks" 853), (.str "/claim/cut.py" 854), (.int 222 0), (.int 1 0), (.int 0 0), (.int 0 0), (.int 3 0), (.ref 488), (.bool true), (.int 181 0), (.ref 489), .none, (.ref 490), (.ref 491), (.ref 492), (.int 856 0), (.int 222 0), (.str "/claim/cut.py" 857)]), #[]⟩) ::
 (nat_lit 494, ⟨(.type "function"), none, (.func ⟨"marks", "Store.marks", defArgs (inClass (top 58) 4), .stmts (defBody (inClass (top 58) 4)), defScope (inClass (top 58) 4), 3, [], .none, .none, .none, (.str "notefall.store" 801), none, (.ref 493), .none, 0⟩), #[]⟩) ::
 (nat_lit 495, ⟨(.type "dict"), none, (.dict (List.toArray (⟨kh P "at", (.str "at" 859), .none⟩ :: [])) 1), #[]⟩) ::
 (nat_lit 496, ⟨(.type "tuple"), none, (.seq #[] 0), #[]⟩) ::
 (nat_lit 498, ⟨(.type "tuple"), none, (.seq #[(.str "self" 863), (.str "key" 864), (.str "at" 865)] 0), #[]⟩) ::
 (nat_lit 499, ⟨(.type "tuple"), none, (.seq #[] 0), #[]⟩) ::
 (nat_lit 501, ⟨(.type "code"), none, (.fields #[(.str "read" 860), (.str "Store.read" 861), (.str "/claim/cut.py" 862), (.int 225 0), (.int 2 0), (.int 0 0), (.int 1 0), (.int 3 0), (.ref 496), (.bool true), (.int 181 0), (.ref 497), .none, (.ref 498), (.ref 499), (.ref 500), (.int 866 0), (.int 225 0), (.str "/claim/cut.py" 867)]), #[]⟩) ::
 (nat_lit 502, ⟨(.type "function"), none, (.func ⟨"read", "Store.read", defArgs (inClass (top 58) 5), .stmts (defBody (inClass (top 58) 5)), defScope (inClass (top 58) 5), 3, [], .none, (.ref 495), .none, (.str "notefall.store" 801), none, (.ref 501), .none, 0⟩), #[]⟩) ::
 (nat_lit 503, ⟨(.type "tuple"), none, (.seq #[(.int 0 869), (.int 1000000000000 298)] 0), #[]⟩) ::
 (nat_lit 504, ⟨(.type "dict"), none, (.dict (List.toArray (⟨kh P "at", (.str "at" 870), .none⟩ :: ⟨kh P "most", (.str "most" 871), .none⟩ :: ⟨kh P "back", (.str "back" 872), (.bool false)⟩ :: [])) 3), #[]⟩) ::
 (nat_lit 505, ⟨(.type "tuple"), none, (.seq #[] 0), #[]⟩) ::
 (nat_lit 507, ⟨(.type "tuple"), none, (.seq #[(.str "self" 876), (.str "low" 877), (.str "high" 878), (.str "at" 879), (.str "most" 880), (.str "back" 881)] 0), #[]⟩) ::
 (nat_lit 508, ⟨(.type "tuple"), none, (.seq #[] 0), #[]⟩) ::
 (nat_lit 510, ⟨(.type "code"), none, (.fields #[(.str "stretch" 873), (.str "Store.stretch" 874), (.str "/claim/cut.py" 875), (.int 228 0), (.int 3 0), (.int 0 0), (.int 3 0), (.int 3 0), (.ref 505), (.bool true), (.int 181 0), (.ref 506), .none, (.ref 507), (.ref 508), (.ref 509), (.int 882 0), (.int 228 0), (.str "/claim/cut.py" 883)]), #[]⟩) ::
 (nat_lit 511, ⟨(.type "function"), none, (.func ⟨"stretch", "Store.stretch", defArgs (inClass (top 58) 6), .stmts (defBody (inClass (top 58) 6)), defScope (inClass (top 58) 6), 3, [], (.ref 503), (.ref 504), .none, (.str "notefall.store" 801), none, (.ref 510), .none, 0⟩), #[]⟩) ::
 (nat_lit 512, ⟨(.type "tuple"), none, (.seq #[] 0), #[]⟩) ::
 (nat_lit 514, ⟨(.type "tuple"), none, (.seq #[(.str "self" 888)] 0), #[]⟩) ::
 (nat_lit 515, ⟨(.type "tuple"), none, (.seq #[] 0), #[]⟩) ::
 (nat_lit 517, ⟨(.type "code"), none, (.fields #[(.str "__len__" 885), (.str "Store.__len__" 886), (.str "/claim/cut.py" 887), (.int 231 0), (.int 1 0), (.int 0 0), (.int 0 0), (.int 3 0), (.ref 512), (.bool true), (.int 181 0), (.ref 513), .none, (.ref 514), (.ref 515), (.ref 516), (.int 889 0), (.int 231 0), (.str "/claim/cut.py" 890)]), #[]⟩) ::
 (nat_lit 518, ⟨(.type "function"), none, (.func ⟨"__len__", "Store.__len__", defArgs (inClass (top 58) 7), .stmts (defBody (inClass (top 58) 7)), defScope (inClass (top 58) 7), 3, [], .none, .none, .none, (.str "notefall.store" 801), none, (.ref 517), .none, 0⟩), #[]⟩) ::
 (nat_lit 519, ⟨(.type "dict"), none, (.dict (List.toArray (⟨kh P "at", (.str "at" 892), .none⟩ :: [])) 1), #[]⟩) ::
 (nat_lit 520, ⟨(.type "tuple"), none, (.seq #[] 0), #[]⟩) ::
 (nat_lit 522, ⟨(.type "tuple"), none, (.seq #[(.str "self" 896), (.str "key" 897), (.str "at" 898)] 0), #[]⟩) ::
 (nat_lit 523, ⟨(.type "tuple"), none, (.seq #[] 0), #[]⟩) ::
 (nat_lit 525, ⟨(.type "code"), none, (.fields #[(.str "above" 893), (.str "Store.above" 894), (.str "/claim/cut.py" 895), (.int 234 0), (.int 2 0), (.int 0 0), (.int 1 0), (.int 3 0), (.ref 520), (.bool true), (.int 181 0), (.ref 521), .none, (.ref 522), (.ref 523), (.ref 524), (.int 899 0), (.int 234 0), (.str "/claim/cut.py" 900)]), #[]⟩) ::
 (nat_lit 526, ⟨(.type "function"), none, (.func ⟨"above", "Store.above", defArgs (inClass (top 58) 8), .stmts (defBody (inClass (top 58) 8)), defScope (inClass (top 58) 8), 3, [], .none, (.ref 519), .none, (.str "notefall.store" 801), none, (.ref 525), .none, 0⟩), #[]⟩) ::
 (nat_lit 527, ⟨(.type "dict"), none, (.dict (List.toArray (⟨kh P "at", (.str "at" 902), .none⟩ :: [])) 1), #[]⟩) ::
 (nat_lit 528, ⟨(.type "tuple"), none, (.seq #[] 0), #[]⟩) ::
 (nat_lit 530, ⟨(.type "tuple"), none, (.seq #[(.str "self" 906), (.str "key" 907), (.str "at" 908)] 0), #[]⟩) ::
 (nat_lit 531, ⟨(.type "tuple"), none, (.seq #[] 0), #[]⟩) ::
 (nat_lit 533, ⟨(.type "code"), none, (.fields #[(.str "below" 903), (.str "Store.below" 904), (.str "/claim/cut.py" 905), (.int 237 0), (.int 2 0), (.int 0 0), (.int 1 0), (.int 3 0), (.ref 528), (.bool true), (.int 181 0), (.ref 529), .none, (.ref 530), (.ref 531), (.ref 532), (.int 909 0), (.int 237 0), (.str "/claim/cut.py" 910)]), #[]⟩) ::
 (nat_lit 534, ⟨(.type "function"), none, (.func ⟨"below", "Store.below", defArgs (inClass (top 58) 9), .stmts (defBody (inClass (top 58) 9)), defScope (inClass (top 58) 9), 3, [], .none, (.ref 527), .none, (.str "notefall.store" 801), none, (.ref 533), .none, 0⟩), #[]⟩) ::
 (nat_lit 535, ⟨(.type "dict"), none, (.dict (List.toArray (⟨kh P "at", (.str "at" 912), .none⟩ :: [])) 1), #[]⟩) ::
 (nat_lit 536, ⟨(.type "tuple"), none, (.seq #[] 0), #[]⟩) ::
 (nat_lit 538, ⟨(.type "tuple"), none, (.seq #[(.str "self" 916), (.str "low" 917), (.str "high" 918), (.str "at" 919)] 0), #[]⟩) ::
 (nat_lit 539, ⟨(.type "tuple"), none, (.seq #[] 0), #[]⟩) ::
 (nat_lit 541, ⟨(.type "code"), none, (.fields #[(.str "many" 913), (.str "Store.many" 914), (.str "/claim/cut.py" 915), (.int 240 0), (.int 3 0), (.int 0 0), (.int 1 0), (.int 3 0), (.ref 536), (.bool true), (.int 181 0), (.ref 537), .none, (.ref 538), (.ref 539), (.ref 540), (.int 920 0), (.int 240 0), (.str "/claim/cut.py" 921)]), #[]⟩) ::
 (nat_lit 542, ⟨(.type "function"), none, (.func ⟨"many", "Store.many", defArgs (inClass (top 58) 10), .stmts (defBody (inClass (top 58) 10)), defScope (inClass (top 58) 10), 3, [], .none, (.ref 535), .none, (.str "notefall.store" 801), none, (.ref 541), .none, 0⟩), #[]⟩) ::
 (nat_lit 543, ⟨(.type "dict"), none, (.dict (List.toArray (⟨kh P "at", (.str "at" 923), .none⟩ :: [])) 1), #[]⟩) ::
 (nat_lit 544, ⟨(.type "tuple"), none, (.seq #[] 0), #[]⟩) ::
 (nat_lit 546, ⟨(.type "tuple"), none, (.seq #[(.str "self" 927), (.str "low" 928), (.str "high" 929), (.str "at" 930)] 0), #[]⟩) ::
 (nat_lit 547, ⟨(.type "tuple"), none, (.seq #[] 0), #[]⟩) ::
 (nat_lit 549, ⟨(.type "code"), none, (.fields #[(.str "total" 924), (.str "Store.total" 925), (.str "/claim/cut.py" 926), (.int 243 0), (.int 3 0), (.int 0 0), (.int 1 0), (.int 3 0), (.ref 544), (.bool true), (.int 181 0), (.ref 545), .none, (.ref 546), (.ref 547), (.ref 548), (.int 931 0), (.int 243 0), (.str "/claim/cut.py" 932)]), #[]⟩) ::
 (nat_lit 550, ⟨(.type "function"), none, (.func ⟨"total", "Store.total", defArgs (inClass (top 58) 11), .stmts (defBody (inClass (top 58) 11)), defScope (inClass (top 58) 11), 3, [], .none, (.ref 543), .none, (.str "notefall.store" 801), none, (.ref 549), .none, 0⟩), #[]⟩) ::
 (nat_lit 551, ⟨(.type "tuple"), none, (.seq #[] 0), #[]⟩) ::
 (nat_lit 553, ⟨(.type "tuple"), none, (.seq #[(.str "self" 937), (.str "one" 938), (.str "other" 939)] 0), #[]⟩) ::
 (nat_lit 554, ⟨(.type "tuple"), none, (.seq #[] 0), #[]⟩) ::
 (nat_lit 556, ⟨(.type "code"), none, (.fields #[(.str "unlike" 934), (.str "Store.unlike" 935), (.str "/claim/cut.py" 936), (.int 246 0), (.int 3 0), (.int 0 0), (.int 0 0), (.int 3 0), (.ref 551), (.bool true), (.int 181 0), (.ref 552), .none, (.ref 553), (.ref 554), (.ref 555), (.int 940 0), (.int 246 0), (.str "/claim/cut.py" 941)]), #[]⟩) ::
 (nat_lit 557, ⟨(.type "function"), none, (.func ⟨"unlike", "Store.unlike", defArgs (inClass (top 58) 12), .stmts (defBody (inClass (top 58) 12)), defScope (inClass (top 58) 12), 3, [], .none, .none, .none, (.str "notefall.store" 801), none, (.ref 556), .none, 0⟩), #[]⟩) ::
 (nat_lit 558, ⟨(.type "dict"), none, (.dict (List.toArray (⟨kh P "at", (.str "at" 943), .none⟩ :: [])) 1), #[]⟩) ::
 (nat_lit 559, ⟨(.type "tuple"), none, (.seq #[] 0), #[]⟩) ::
 (nat_lit 561, ⟨(.type "tuple"), none, (.seq #[(.str "self" 947), (.str "key" 948), (.str "at" 949)] 0), #[]⟩) ::
 (nat_lit 562, ⟨(.type "tuple"), none, (.seq #[] 0), #[]⟩) ::
 (nat_lit 564, ⟨(.type "code"), none, (.fields #[(.str "way" 944), (.str "Store.way" 945), (.str "/claim/cut.py" 946), (.int 249 0), (.int 2 0), (.int 0 0), (.int 1 0), (.int 3 0), (.ref 559), (.bool true), (.int 181 0), (.ref 560), .none, (.ref 561), (.ref 562), (.ref 563), (.int 950 0), (.int 249 0), (.str "/claim/cut.py" 951)]), #[]⟩) ::
 (nat_lit 565, ⟨(.type "function"), none, (.func ⟨"way", "Store.way", defArgs (inClass (top 58) 13), .stmts (defBody (inClass (top 58) 13)), defScope (inClass (top 58) 13), 3, [], .none, (.ref 558), .none, (.str "notefall.store" 801), none, (.ref 564), .none, 0⟩), #[]⟩) ::
 (nat_lit 566, ⟨(.type "tuple"), none, (.seq #[] 0), #[]⟩) ::
 (nat_lit 568, ⟨(.type "tuple"), none, (.seq #[(.str "self" 956), (.str "room" 957), (.str "child" 958)] 0), #[]⟩) ::
 (nat_lit 569, ⟨(.type "tuple"), none, (.seq #[] 0), #[]⟩) ::
 (nat_lit 571, ⟨(.type "code"), none, (.fields #[(.str "pour" 953), (.str "Store.pour" 954), (.str "/claim/cut.py" 955), (.int 252 0), (.int 3 0), (.int 0 0), (.int 0 0), (.int 3 0), (.ref 566), (.bool true), (.int 181 0), (.ref 567), .none, (.ref 568), (.ref 569), (.ref 570), (.int 959 0), (.int 252 0), (.str "/claim/cut.py" 960)]), #[]⟩) ::
 (nat_lit 572, ⟨(.type "function"), none, (.func ⟨"pour", "Store.pour", defArgs (inClass (top 58) 14), .stmts (defBody (inClass (top 58) 14)), defScope (inClass (top 58) 14), 3, [], .none, .none, .none, (.str "notefall.store" 801), none, (.ref 571), .none, 0⟩), #[]⟩) ::
 (nat_lit 573, ⟨(.type "tuple"), none, (.seq #[] 0), #[]⟩) ::
 (nat_lit 575, ⟨(.type "tuple"), none, (.seq #[(.str "self" 965), (.str "low" 966), (.str "high" 967)] 0), #[]⟩) ::
 (nat_lit 576, ⟨(.type "tuple"), none, (.seq #[] 0), #[]⟩) ::
 (nat_lit 578, ⟨(.type "code"), none, (.fields #[(.str "press" 962), (.str "Store.press" 963), (.str "/claim/cut.py" 964), (.int 255 0), (.int 3 0), (.int 0 0), (.int 0 0), (.int 3 0), (.ref 573), (.bool true), (.int 181 0), (.ref 574), .none, (.ref 575), (.ref 576), (.ref 577), (.int 968 0), (.int 255 0), (.str "/claim/cut.py" 969)]), #[]⟩) ::
 (nat_lit 579, ⟨(.type "function"), none, (.func ⟨"press", "Store.press", defArgs (inClass (top 58) 15), .stmts (defBody (inClass (top 58) 15)), defScope (inClass (top 58) 15), 3, [], .none, .none, .none, (.str "notefall.store" 801), none, (.ref 578), .none, 0⟩), #[]⟩) ::
 (nat_lit 580, ⟨(.type "tuple"), none, (.seq #[] 0), #[]⟩) ::
 (nat_lit 582, ⟨(.type "tuple"), none, (.seq #[(.str "self" 974)] 0), #[]⟩) ::
 (nat_lit 583, ⟨(.type "tuple"), none, (.seq #[] 0), #[]⟩) ::
 (nat_lit 585, ⟨(.type "code"), none, (.fields #[(.str "squeeze" 971), (.str "Store.squeeze" 972), (.str "/claim/cut.py" 973), (.int 258 0), (.int 1 0), (.int 0 0), (.int 0 0), (.int 3 0), (.ref 580), (.bool true), (.int 181 0), (.ref 581), .none, (.ref 582), (.ref 583), (.ref 584), (.int 975 0), (.int 258 0), (.str "/claim/cut.py" 976)]), #[]⟩) ::
 (nat_lit 586, ⟨(.type "function"), none, (.func ⟨"squeeze", "Store.squeeze", defArgs (inClass (top 58) 16), .stmts (defBody (inClass (top 58) 16)), defScope (inClass (top 58) 16), 3, [], .none, .none, .none, (.str "notefall.store" 801), none, (.ref 585), .none, 0⟩), #[]⟩) ::
 (nat_lit 587, ⟨(.type "tuple"), none, (.seq #[(.int 0 978), (.int 1000000000000 298)] 0), #[]⟩) ::
 (nat_lit 588, ⟨(.type "tuple"), none, (.seq #[] 0), #[]⟩) ::
 (nat_lit 590, ⟨(.type "tuple"), none, (.seq #[(.str "self" 982), (.str "tell" 983), (.str "low" 984), (.str "high" 985)] 0), #[]⟩) ::
 (nat_lit 591, ⟨(.type "tuple"), none, (.seq #[] 0), #[]⟩) ::
 (nat_lit 593, ⟨(.type "code"), none, (.fields #[(.str "each" 979), (.str "Store.each" 980), (.str "/claim/cut.py" 981), (.int 261 0), (.int 4 0), (.int 0 0), (.int 0 0), (.int 3 0), (.ref 588), (.bool true), (.int 181 0), (.ref 589), .none, (.ref 590), (.ref 591), (.ref 592), (.int 986 0), (.int 261 0), (.str "/claim/cut.py" 987)]), #[]⟩) ::
 (nat_lit 594, ⟨(.type "function"), none, (.func ⟨"each", "Store.each", defArgs (inClass (top 58) 17), .stmts (defBody (inClass (top 58) 17)), defScope (inClass (top 58) 17), 3, [], (.ref 587), .none, .none, (.str "notefall.store" 801), none, (.ref 593), .none, 0⟩), #[]⟩) ::
 (nat_lit 595, ⟨(.type "tuple"), none, (.seq #[] 0), #[]⟩) ::
 (nat_lit 598, ⟨(.type "code"), none, (.fields #[(.str "steps" 989), (.str "Store.steps" 990), (.str "/claim/cut.py" 991), (.int 264 0), (.int 1 0), (.int 0 0), (.int 0 0), (.int 3 0), (.ref 595), (.bool true), (.int 181 0), (.ref 596), .none, .none, .none, (.ref 597), (.int 992 0), (.int 264 0), (.str "/claim/cut.py" 993)]), #[]⟩) ::
 (nat_lit 599, ⟨(.type "function"), none, (.func ⟨"steps", "Store.steps", defArgs (inClass (top 58) 18), .stmts (defBody (inClass (top 58) 18)), defScope (inClass (top 58) 18), 3, [], .none, .none, .none, (.str "notefall.store" 801), none, (.ref 598), .none, 0⟩), #[]⟩) ::
 (nat_lit 600, ⟨(.type "tuple"), none, (.seq #[] 0), #[]⟩) ::
 (nat_lit 602, ⟨(.type "tuple"), none, (.seq #[(.str "self" 998)] 0), #[]⟩) ::
 (nat_lit 603, ⟨(.type "tuple"), none, (.seq #[] 0), #[]⟩) ::
 (nat_lit 605, ⟨(.type "code"), none, (.fields #[(.str "twin" 995), (.str "Store.twin" 996), (.str "/claim/cut.py" 997), (.int 267 0), (.int 1 0), (.int 0 0), (.int 0 0), (.int 3 0), (.ref 600), (.bool true), (.int 181 0), (.ref 601), .none, (.ref 602), (.ref 603), (.ref 604), (.int 999 0), (.int 267 0), (.str "/claim/cut.py" 1000)]), #[]⟩) ::
 (nat_lit 606, ⟨(.type "function"), none, (.func ⟨"twin", "Store.twin", defArgs (inClass (top 58) 19), .stmts (defBody (inClass (top 58) 19)), defScope (inClass (top 58) 19), 3, [], .none, .none, .none, (.str "notefall.store" 801), none, (.ref 605), .none, 0⟩), #[]⟩) ::
 (nat_lit 607, ⟨(.type "tuple"), none, (.seq #[] 0), #[]⟩) ::
 (nat_lit 609, ⟨(.type "tuple"), none, (.seq #[(.str "self" 1005)] 0), #[]⟩) ::
 (nat_lit 610, ⟨(.type "tuple"), none, (.seq #[] 0), #[]⟩) ::
 (nat_lit 612, ⟨(.type "code"), none, (.fields #[(.str "image" 1002), (.str "Store.image" 1003), (.str "/claim/cut.py" 1004), (.int 270 0), (.int 1 0), (.int 0 0), (.int 0 0), (.int 3 0), (.ref 607), (.bool true), (.int 181 0), (.ref 608), .none, (.ref 609), (.ref 610), (.ref 611), (.int 1006 0), (.int 270 0), (.str "/claim/cut.py" 1007)]), #[]⟩) ::
 (nat_lit 613, ⟨(.type "function"), none, (.func ⟨"image", "Store.image", defArgs (inClass (top 58) 20), .stmts (defBody (inClass (top 58) 20)), defScope (inClass (top 58) 20), 3, [], .none, .none, .none, (.str "notefall.store" 801), none, (.ref 612), .none, 0⟩), #[]⟩) ::
 (nat_lit 614, ⟨(.type "tuple"), none, (.seq #[(.str "house" 1009), (.str "last" 1010), (.str "rule" 1011), (.str "runs" 1012)] 0), #[]⟩) ::
 (nat_lit 615, ⟨(.type "dict"), none, (.dict (List.toArray (⟨kh P "__module__", (.str "__module__" 816), (.str "notefall.store" 801)⟩ :: ⟨kh P "__firstlineno__", (.str "__firstlineno__" 820), (.int 203 819)⟩ :: ⟨kh P "__init__", (.str "__init__" 828), (.ref 466)⟩ :: ⟨kh P "check_free", (.str "check_free" 835), (.ref 473)⟩ :: ⟨kh P "ready_deed", (.str "ready_deed" 843), (.ref 480)⟩ :: ⟨kh P "do", (.str "do" 851), (.ref 487)⟩ :: ⟨kh P "marks", (.str "marks" 858), (.ref 494)⟩ :: ⟨kh P "read", (.str "read" 868), (.ref 502)⟩ :: ⟨kh P "stretch", (.str "stretch" 884), (.ref 511)⟩ :: ⟨kh P "__len__", (.str "__len__" 891), (.ref 518)⟩ :: ⟨kh P "above", (.str "above" 901), (.ref 526)⟩ :: ⟨kh P "below", (.str "below" 911), (.ref 534)⟩ :: ⟨kh P "many", (.str "many" 922), (.ref 542)⟩ :: ⟨kh P "total", (.str "total" 933), (.ref 550)⟩ :: ⟨kh P "unlike", (.str "unlike" 942), (.ref 557)⟩ :: ⟨kh P "way", (.str "way" 952), (.ref 565)⟩ :: ⟨kh P "pour", (.str "pour" 961), (.ref 572)⟩ :: ⟨kh P "press", (.str "press" 970), (.ref 579)⟩ :: ⟨kh P "squeeze", (.str "squeeze" 977), (.ref 586)⟩ :: ⟨kh P "each", (.str "each" 988), (.ref 594)⟩ :: ⟨kh P "steps", (.str "steps" 994), (.ref 599)⟩ :: ⟨kh P "twin", (.str "twin" 1001), (.ref 606)⟩ :: ⟨kh P "image", (.str "image" 1008), (.ref 613)⟩ :: ⟨kh P "__static_attributes__", (.str "__static_attributes__" 1013), (.ref 614)⟩ :: ⟨kh P "__dict__", (.str "__dict__" 1015), (.ref 617)⟩ :: ⟨kh P "__weakref__", (.str "__weakref__" 1017), (.ref 618)⟩ :: ⟨kh P "__doc__", (.str "__doc__" 1018), .none⟩ :: [])) 4), #[]⟩) ::
 (nat_lit 616, ⟨(.type "type"), none, (.cls ⟨"Store", [(.type "object")], [(.ref 616), (.type "object")], 615, "Store", true, [], [], false, none, false⟩), #[none, none, (some (.str "Store" 809)), (some (.str "Store" 817)), (some (.builtin "object.__new__")), (some (.bool true))]⟩) ::
 (nat_lit 617, ⟨(.type "getset_descriptor"), none, (.fields #[(.str "__dict__" 1014), (.ref 616), (.builtin "function.__dict__"), (.builtin "function.__dict__#set")]), #[]⟩) ::
 (nat_lit 618, ⟨(.type "getset_descriptor"), none, (.fields #[(.str "__weakref__" 1016), (.ref 616), (.builtin "ExceptionGroup.__weakref__"), .none]), #[]⟩) ::
 (nat_lit 621, ⟨(.type "tuple"), none, (.seq #[] 0), #[]⟩) ::
 (nat_lit 623, ⟨(.type "tuple"), none, (.seq #[(.str "_law_script" 1026), (.str "_law_k" 1027)] 0), #[]⟩) ::
 (nat_lit 624, ⟨(.type "tuple"), none, (.seq #[] 0), #[]⟩) ::
 (nat_lit 626, ⟨(.type "code"), none, (.fields #[(.str "_law_cell_at" 1023), (.str "_law_cell_at" 1024), (.str "/claim/cut.py" 1025), (.int 273 0), (.int 2 0), (.int 0 0), (.int 0 0), (.int 3 0), (.ref 621), (.bool true), (.int 181 0), (.ref 622), .none, (.ref 623), (.ref 624), (.ref 625), (.int 1028 0), (.int 273 0), (.str "/claim/cut.py" 1029)]), #[]⟩) ::
 (nat_lit 627, ⟨(.type "function"), none, (.func ⟨"_law_cell_at", "_law_cell_at", defArgs (top 60), .stmts (defBody (top 60)), defScope (top 60), 3, [], .none, .none, .none, (.str "law_notefall_k02_rules" 1021), none, (.ref 626), .none, 0⟩), #[]⟩) ::
 (nat_lit 628, ⟨(.type "tuple"), none, (.seq #[] 0), #[]⟩) ::
 (nat_lit 630, ⟨(.type "tuple"), none, (.seq #[(.str "_law_state" 1034), (.str "_law_base" 1035), (.str "_law_cell" 1036), (.str "_law_found" 1037), (.str "_law_number" 1038)] 0), #[]⟩) ::
 (nat_lit 631, ⟨(.type "tuple"), none, (.seq #[] 0), #[]⟩) ::
 (nat_lit 633, ⟨(.type "code"), none, (.fields #[(.str "_law_digit" 1031), (.str "_law_digit" 1032), (.str "/claim/cut.py" 1033), (.int 277 0), (.int 2 0), (.int 0 0), (.int 0 0), (.int 3 0), (.ref 628), (.bool true), (.int 181 0), (.ref 629), .none, (.ref 630), (.ref 631), (.ref 632), (.int 1039 0), (.int 277 0), (.str "/claim/cut.py" 1040)]), #[]⟩) ::
 (nat_lit 634, ⟨(.type "function"), none, (.func ⟨"_law_digit", "_law_digit", defArgs (top 61), .stmts (defBody (top 61)), defScope (top 61), 3, [], .none, .none, .none, (.str "law_notefall_k02_rules" 1021), none, (.ref 633), .none, 0⟩), #[]⟩) ::
 (nat_lit 635, ⟨(.type "tuple"), none, (.seq #[] 0), #[]⟩) ::
 (nat_lit 637, ⟨(.type "tuple"), none, (.seq #[(.str "_law_state" 1045), (.str "_law_tray" 1046), (.str "_law_fan" 1047), (.str "_law_rows" 1048)] 0), #[]⟩) ::
 (nat_lit 638, ⟨(.type "tuple"), none, (.seq #[] 0), #[]⟩) ::
 (nat_lit 640, ⟨(.type "code"), none, (.fields #[(.str "_law_good" 1042), (.str "_law_good" 1043), (.str "/claim/cut.py" 1044), (.int 290 0), (.int 1 0), (.int 0 0), (.int 0 0), (.int 3 0), (.ref 635), (.bool true), (.int 181 0), (.ref 636), .none, (.ref 637), (.ref 638), (.ref 639), (.int 1049 0), (.int 290 0), (.str "/claim/cut.py" 1050)]), #[]⟩) ::
 (nat_lit 641, ⟨(.type "function"), none, (.func ⟨"_law_good", "_law_good", defArgs (top 62), .stmts (defBody (top 62)), defScope (top 62), 3, [], .none, .none, .none, (.str "law_notefall_k02_rules" 1021), none, (.ref 640), .none, 0⟩), #[]⟩) ::
 (nat_lit 642, ⟨(.type "tuple"), none, (.seq #[] 0), #[]⟩) ::
 (nat_lit 644, ⟨(.type "tuple"), none, (.seq #[(.str "_law_found" 1055), (.str "_law_due" 1056)] 0), #[]⟩) ::
 (nat_lit 645, ⟨(.type "tuple"), none, (.seq #[] 0), #[]⟩) ::
 (nat_lit 647, ⟨(.type "code"), none, (.fields #[(.str "_law_truth" 1052), (.str "_law_truth" 1053), (.str "/claim/cut.py" 1054), (.int 295 0), (.int 2 0), (.int 0 0), (.int 0 0), (.int 3 0), (.ref 642), (.bool true), (.int 181 0), (.ref 643), .none, (.ref 644), (.ref 645), (.ref 646), (.int 1057 0), (.int 295 0), (.str "/claim/cut.py" 1058)]), #[]⟩) ::
 (nat_lit 648, ⟨(.type "function"), none, (.func ⟨"_law_truth", "_law_truth", defArgs (top 63), .stmts (defBody (top 63)), defScope (top 63), 3, [], .none, .none, .none, (.str "law_notefall_k02_rules" 1021), none, (.ref 647), .none, 0⟩), #[]⟩) ::
 (nat_lit 649, ⟨(.type "tuple"), none, (.seq #[] 0), #[]⟩) ::
 (nat_lit 651, ⟨(.type "tuple"), none, (.seq #[(.str "_law_thing" 1063), (.str "_law_low" 1064), (.str "_law_high" 1065)] 0), #[]⟩) ::
 (nat_lit 652, ⟨(.type "tuple"), none, (.seq #[] 0), #[]⟩) ::
 (nat_lit 654, ⟨(.type "code"), none, (.fields #[(.str "_law_between" 1060), (.str "_law_between" 1061), (.str "/claim/cut.py" 1062), (.int 297 0), (.int 3 0), (.int 0 0), (.int 0 0), (.int 3 0), (.ref 649), (.bool true), (.int 181 0), (.ref 650), .none, (.ref 651), (.ref 652), (.ref 653), (.int 1066 0), (.int 297 0), (.str "/claim/cut.py" 1067)]), #[]⟩) ::
 (nat_lit 655, ⟨(.type "function"), none, (.func ⟨"_law_between", "_law_between", defArgs (top 64), .stmts (defBody (top 64)), defScope (top 64), 3, [], .none, .none, .none, (.str "law_notefall_k02_rules" 1021), none, (.ref 654), .none, 0⟩), #[]⟩) ::
 (nat_lit 656, ⟨(.type "tuple"), none, (.seq #[] 0), #[]⟩) ::
 (nat_lit 658, ⟨(.type "tuple"), none, (.seq #[(.str "_law_thing" 1072)] 0), #[]⟩) ::
 (nat_lit 659, ⟨(.type "tuple"), none, (.seq #[] 0), #[]⟩) ::
 (nat_lit 661, ⟨(.type "code"), none, (.fields #[(.str "_law_is_rule" 1069), (.str "_law_is_rule" 1070), (.str "/claim/cut.py" 1071), (.int 299 0), (.int 1 0), (.int 0 0), (.int 0 0), (.int 3 0), (.ref 656), (.bool true), (.int 181 0), (.ref 657), .none, (.ref 658), (.ref 659), (.ref 660), (.int 1073 0), (.int 299 0), (.str "/claim/cut.py" 1074)]), #[]⟩) ::
 (nat_lit 662, ⟨(.type "function"), none, (.func ⟨"_law_is_rule", "_law_is_rule", defArgs (top 65), .stmts (defBody (top 65)), defScope (top 65), 3, [], .none, .none, .none, (.str "law_notefall_k02_rules" 1021), none, (.ref 661), .none, 0⟩), #[]⟩) ::
 (nat_lit 663, ⟨(.type "tuple"), none, (.seq #[] 0), #[]⟩) ::
 (nat_lit 665, ⟨(.type "tuple"), none, (.seq #[(.str "_law_state" 1079), (.str "_law_rule" 1080), (.str "_law_way" 1081), (.str "_law_place" 1082), (.str "_law_some" 1083)] 0), #[]⟩) ::
 (nat_lit 666, ⟨(.type "tuple"), none, (.seq #[] 0), #[]⟩) ::
 (nat_lit 668, ⟨(.type "code"), none, (.fields #[(.str "_law_spoilt" 1076), (.str "_law_spoilt" 1077), (.str "/claim/cut.py" 1078), (.int 305 0), (.int 2 0), (.int 0 0), (.int 0 0), (.int 3 0), (.ref 663), (.bool true), (.int 181 0), (.ref 664), .none, (.ref 665), (.ref 666), (.ref 667), (.int 1084 0), (.int 305 0), (.str "/claim/cut.py" 1085)]), #[]⟩) ::
 (nat_lit 669, ⟨(.type "function"), none, (.func ⟨"_law_spoilt", "_law_spoilt", defArgs (top 66), .stmts (defBody (top 66)), defScope (top 66), 3, [], .none, .none, .none, (.str "law_notefall_k02_rules" 1021), none, (.ref 668), .none, 0⟩), #[]⟩) ::
 (nat_lit 670, ⟨(.type "tuple"), none, (.seq #[] 0), #[]⟩) ::
 (nat_lit 672, ⟨(.type "tuple"), none, (.seq #[(.str "_law_rule" 1090), (.str "_law_store" 1091)] 0), #[]⟩) ::
 (nat_lit 673, ⟨(.type "tuple"), none, (.seq #[] 0), #[]⟩) ::
 (nat_lit 675, ⟨(.type "code"), none, (.fields #[(.str "_law_stands" 1087), (.str "_law_stands" 1088), (.str "/claim/cut.py" 1089), (.int 318 0), (.int 1 0), (.int 0 0), (.int 0 0), (.int 3 0), (.ref 670), (.bool true), (.int 181 0), (.ref 671), .none, (.ref 672), (.ref 673), (.ref 674), (.int 1092 0), (.int 318 0), (.str "/claim/cut.py" 1093)]), #[]⟩) ::
 (nat_lit 676, ⟨(.type "function"), none, (.func ⟨"_law_stands", "_law_stands", defArgs (top 67), .stmts (defBody (top 67)), defScope (top 67), 3, [], .none, .none, .none, (.str "law_notefall_k02_rules" 1021), none, (.ref 675), .none, 0⟩), #[]⟩) ::
 (nat_lit 677, ⟨(.type "tuple"), none, (.seq #[] 0), #[]⟩) ::
 (nat_lit 679, ⟨(.type "tuple"), none, (.seq #[(.str "_law_rule" 1098), (.str "e" 1099)] 0), #[]⟩) ::
 (nat_lit 680, ⟨(.type "tuple"), none, (.seq #[] 0), #[]⟩) ::
 (nat_lit 682, ⟨(.type "code"), none, (.fields #[(.str "_law_refused" 1095), (.str "_law_refused" 1096), (.str "/claim/cut.py" 1097), (.int 323 0), (.int 1 0), (.int 0 0), (.int 0 0), (.int 3 0), (.ref 677), (.bool true), (.int 181 0), (.ref 678), .none, (.ref 679), (.ref 680), (.ref 681), (.int 1100 0), (.int 323 0), (.str "/claim/cut.py" 1101)]), #[]⟩) ::
 (nat_lit 683, ⟨(.type "function"), none, (.func ⟨"_law_refused", "_law_refused", defArgs (top 68), .stmts (defBody (top 68)), defScope (top 68), 3, [], .none, .none, .none, (.str "law_notefall_k02_rules" 1021), none, (.ref 682), .none, 0⟩), #[]⟩) ::
 (nat_lit 684, ⟨(.type "tuple"), none, (.seq #[] 0), #[]⟩) ::
 (nat_lit 686, ⟨(.type "tuple"), none, (.seq #[(.str "_law_script" 1106), (.str "_law_k" 1107), (.str "_law_state" 1108), (.str "_law_rule" 1109), (.str "_law_thing" 1110), (.str "_law_due" 1111)] 0), #[]⟩) ::
 (nat_lit 687, ⟨(.type "tuple"), none, (.seq #[] 0), #[]⟩) ::
 (nat_lit 689, ⟨(.type "code"), none, (.fields #[(.str "law" 1103), (.str "law" 1104), (.str "/claim/cut.py" 1105), (.int 329 0), (.int 1 0), (.int 0 0), (.int 0 0), (.int 3 0), (.ref 684), (.bool true), (.int 181 0), (.ref 685), .none, (.ref 686), (.ref 687), (.ref 688), (.int 1112 0), (.int 329 0), (.str "/claim/cut.py" 1113)]), #[]⟩) ::
 (nat_lit 690, ⟨(.type "function"), none, (.func ⟨"law", "law", defArgs (top 69), .stmts (defBody (top 69)), defScope (top 69), 3, [], .none, .none, .none, (.str "law_notefall_k02_rules" 1021), none, (.ref 689), .none, 0⟩), #[]⟩) :: []
def hAs : List Addr := nat_lit 2 :: nat_lit 3 :: nat_lit 15 :: nat_lit 17 :: nat_lit 18 :: nat_lit 20 :: nat_lit 21 :: nat_lit 22 :: nat_lit 29 :: nat_lit 30 :: nat_lit 31 :: nat_lit 32 :: nat_lit 35 :: nat_lit 42 :: nat_lit 43 :: nat_lit 44 :: nat_lit 47 :: nat_lit 54 :: nat_lit 55 :: nat_lit 56 :: nat_lit 59 :: nat_lit 66 :: nat_lit 67 :: nat_lit 68 :: nat_lit 71 :: nat_lit 78 :: nat_lit 79 :: nat_lit 80 :: nat_lit 83 :: nat_lit 90 :: nat_lit 91 :: nat_lit 92 :: nat_lit 95 :: nat_lit 96 :: nat_lit 98 :: nat_lit 99 :: nat_lit 101 :: nat_lit 102 :: nat_lit 103 :: nat_lit 105 :: nat_lit 106 :: nat_lit 108 :: nat_lit 109 :: nat_lit 110 :: nat_lit 112 :: nat_lit 113 :: nat_lit 115 :: nat_lit 116 :: nat_lit 117 :: nat_lit 119 :: nat_lit 120 :: nat_lit 122 :: nat_lit 123 :: nat_lit 124 :: nat_lit 126 :: nat_lit 127 :: nat_lit 129 :: nat_lit 130 :: nat_lit 131 :: nat_lit 133 :: nat_lit 134 :: nat_lit 136 :: nat_lit 137 :: nat_lit 138 :: nat_lit 140 :: nat_lit 141 :: nat_lit 143 :: nat_lit 144 :: nat_lit 145 :: nat_lit 147 :: nat_lit 148 :: nat_lit 150 :: nat_lit 151 :: nat_lit 152 :: nat_lit 154 :: nat_lit 155 :: nat_lit 157 :: nat_lit 158 :: nat_lit 159 :: nat_lit 160 :: nat_lit 162 :: nat_lit 163 :: nat_lit 165 :: nat_lit 166 :: nat_lit 167 :: nat_lit 169 :: nat_lit 170 :: nat_lit 172 :: nat_lit 173 :: nat_lit 174 :: nat_lit 176 :: nat_lit 177 :: nat_lit 179 :: nat_lit 180 :: nat_lit 181 :: nat_lit 184 :: nat_lit 185 :: nat_lit 186 :: nat_lit 187 :: nat_lit 189 :: nat_lit 190 :: nat_lit 192 :: nat_lit 193 :: nat_lit 194 :: nat_lit 197 :: nat_lit 198 :: nat_lit 199 :: nat_lit 202 :: nat_lit 203 :: nat_lit 204 :: nat_lit 205 :: nat_lit 207 :: nat_lit 208 :: nat_lit 210 :: nat_lit 211 :: nat_lit 219 :: nat_lit 221 :: nat_lit 222 :: nat_lit 224 :: nat_lit 225 :: nat_lit 226 :: nat_lit 227 :: nat_lit 228 :: nat_lit 229 :: nat_lit 230 :: nat_lit 233 :: nat_lit 235 :: nat_lit 236 :: nat_lit 238 :: nat_lit 239 :: nat_lit 240 :: nat_lit 243 :: nat_lit 244 :: nat_lit 252 :: nat_lit 254 :: nat_lit 255 :: nat_lit 257 :: nat_lit 258 :: nat_lit 259 :: nat_lit 261 :: nat_lit 262 :: nat_lit 264 :: nat_lit 265 :: nat_lit 266 :: nat_lit 268 :: nat_lit 269 :: nat_lit 271 :: nat_lit 272 :: nat_lit 273 :: nat_lit 275 :: nat_lit 276 :: nat_lit 278 :: nat_lit 279 :: nat_lit 280 :: nat_lit 282 :: nat_lit 283 :: nat_lit 285 :: nat_lit 286 :: nat_lit 287 :: nat_lit 289 :: nat_lit 290 :: nat_lit 292 :: nat_lit 293 :: nat_lit 294 :: nat_lit 296 :: nat_lit 297 :: nat_lit 299 :: nat_lit 300 :: nat_lit 301 :: nat_lit 303 :: nat_lit 304 :: nat_lit 306 :: nat_lit 307 :: nat_lit 308 :: nat_lit 310 :: nat_lit 311 :: nat_lit 313 :: nat_lit 314 :: nat_lit 315 :: nat_lit 317 :: nat_lit 318 :: nat_lit 320 :: nat_lit 321 :: nat_lit 322 :: nat_lit 324 :: nat_lit 325 :: nat_lit 327 :: nat_lit 328 :: nat_lit 329 :: nat_lit 331 :: nat_lit 332 :: nat_lit 334 :: nat_lit 335 :: nat_lit 336 :: nat_lit 338 :: nat_lit 339 :: nat_lit 341 :: nat_lit 342 :: nat_lit 343 :: nat_lit 345 :: nat_lit 346 :: nat_lit 348 :: nat_lit 349 :: nat_lit 350 :: nat_lit 351 :: nat_lit 352 :: nat_lit 353 :: nat_lit 354 :: nat_lit 357 :: nat_lit 359 :: nat_lit 360 :: nat_lit 362 :: nat_lit 363 :: nat_lit 364 :: nat_lit 366 :: nat_lit 367 :: nat_lit 369 :: nat_lit 370 :: nat_lit 371 :: nat_lit 373 :: nat_lit 374 :: nat_lit 376 :: nat_lit 377 :: nat_lit 378 :: nat_lit 380 :: nat_lit 381 :: nat_lit 383 :: nat_lit 384 :: nat_lit 385 :: nat_lit 387 :: nat_lit 388 :: nat_lit 390 :: nat_lit 391 :: nat_lit 392 :: nat_lit 394 :: nat_lit 395 :: nat_lit 397 :: nat_lit 398 :: nat_lit 399 :: nat_lit 402 :: nat_lit 403 :: nat_lit 404 :: nat_lit 406 :: nat_lit 407 :: nat_lit 409 :: nat_lit 410 :: nat_lit 411 :: nat_lit 413 :: nat_lit 414 :: nat_lit 416 :: nat_lit 417 :: nat_lit 418 :: nat_lit 421 :: nat_lit 422 :: nat_lit 423 :: nat_lit 424 :: nat_lit 426 :: nat_lit 427 :: nat_lit 429 :: nat_lit 430 :: nat_lit 431 :: nat_lit 432 :: nat_lit 433 :: nat_lit 435 :: nat_lit 436 :: nat_lit 438 :: nat_lit 439 :: nat_lit 440 :: nat_lit 441 :: nat_lit 443 :: nat_lit 444 :: nat_lit 446 :: nat_lit 447 :: nat_lit 448 :: nat_lit 451 :: nat_lit 452 :: nat_lit 460 :: nat_lit 462 :: nat_lit 463 :: nat_lit 465 :: nat_lit 466 :: nat_lit 467 :: nat_lit 469 :: nat_lit 470 :: nat_lit 472 :: nat_lit 473 :: nat_lit 474 :: nat_lit 476 :: nat_lit 477 :: nat_lit 479 :: nat_lit 480 :: nat_lit 481 :: nat_lit 483 :: nat_lit 484 :: nat_lit 486 :: nat_lit 487 :: nat_lit 488 :: nat_lit 490 :: nat_lit 491 :: nat_lit 493 :: nat_lit 494 :: nat_lit 495 :: nat_lit 496 :: nat_lit 498 :: nat_lit 499 :: nat_lit 501 :: nat_lit 502 :: nat_lit 503 :: nat_lit 504 :: nat_lit 505 :: nat_lit 507 :: nat_lit 508 :: nat_lit 510 :: nat_lit 511 :: nat_lit 512 :: nat_lit 514 :: nat_lit 515 :: nat_lit 517 :: nat_lit 518 :: nat_lit 519 :: nat_lit 520 :: nat_lit 522 :: nat_lit 523 :: nat_lit 525 :: nat_lit 526 :: nat_lit 527 :: nat_lit 528 :: nat_lit 530 :: nat_lit 531 :: nat_lit 533 :: nat_lit 534 :: nat_lit 535 :: nat_lit 536 :: nat_lit 538 :: nat_lit 539 :: nat_lit 541 :: nat_lit 542 :: nat_lit 543 :: nat_lit 544 :: nat_lit 546 :: nat_lit 547 :: nat_lit 549 :: nat_lit 550 :: nat_lit 551 :: nat_lit 553 :: nat_lit 554 :: nat_lit 556 :: nat_lit 557 :: nat_lit 558 :: nat_lit 559 :: nat_lit 561 :: nat_lit 562 :: nat_lit 564 :: nat_lit 565 :: nat_lit 566 :: nat_lit 568 :: nat_lit 569 :: nat_lit 571 :: nat_lit 572 :: nat_lit 573 :: nat_lit 575 :: nat_lit 576 :: nat_lit 578 :: nat_lit 579 :: nat_lit 580 :: nat_lit 582 :: nat_lit 583 :: nat_lit 585 :: nat_lit 586 :: nat_lit 587 :: nat_lit 588 :: nat_lit 590 :: nat_lit 591 :: nat_lit 593 :: nat_lit 594 :: nat_lit 595 :: nat_lit 598 :: nat_lit 599 :: nat_lit 600 :: nat_lit 602 :: nat_lit 603 :: nat_lit 605 :: nat_lit 606 :: nat_lit 607 :: nat_lit 609 :: nat_lit 610 :: nat_lit 612 :: nat_lit 613 :: nat_lit 614 :: nat_lit 615 :: nat_lit 616 :: nat_lit 617 :: nat_lit 618 :: nat_lit 621 :: nat_lit 623 :: nat_lit 624 :: nat_lit 626 :: nat_lit 627 :: nat_lit 628 :: nat_lit 630 :: nat_lit 631 :: nat_lit 633 :: nat_lit 634 :: nat_lit 635 :: nat_lit 637 :: nat_lit 638 :: nat_lit 640 :: nat_lit 641 :: nat_lit 642 :: nat_lit 644 :: nat_lit 645 :: nat_lit 647 :: nat_lit 648 :: nat_lit 649 :: nat_lit 651 :: nat_lit 652 :: nat_lit 654 :: nat_lit 655 :: nat_lit 656 :: nat_lit 658 :: nat_lit 659 :: nat_lit 661 :: nat_lit 662 :: nat_lit 663 :: nat_lit 665 :: nat_lit 666 :: nat_lit 668 :: nat_lit 669 :: nat_lit 670 :: nat_lit 672 :: nat_lit 673 :: nat_lit 675 :: nat_lit 676 :: nat_lit 677 :: nat_lit 679 :: nat_lit 680 :: nat_lit 682 :: nat_lit 683 :: nat_lit 684 :: nat_lit 686 :: nat_lit 687 :: nat_lit 689 :: nat_lit 690 :: []
def hQ : Program := { PySem.Challenge.pw_notefall_k02_rules with main := { PySem.Challenge.pw_notefall_k02_rules.main with body := top 0 :: top 2 :: top 3 :: top 4 :: top 5 :: top 6 :: top 7 :: top 9 :: top 10 :: top 11 :: top 12 :: top 13 :: top 14 :: top 15 :: top 16 :: top 17 :: top 18 :: top 19 :: top 20 :: top 21 :: top 22 :: top 23 :: top 25 :: top 26 :: top 27 :: top 29 :: top 30 :: top 34 :: top 35 :: top 38 :: top 39 :: top 40 :: top 41 :: top 42 :: top 44 :: top 45 :: top 46 :: top 47 :: top 48 :: top 49 :: top 50 :: top 51 :: top 52 :: top 57 :: top 58 :: top 60 :: top 61 :: top 62 :: top 63 :: top 64 :: top 65 :: top 66 :: top 67 :: top 68 :: top 69 :: [] } }
def hLv : List (Str × PySem.W.WData) := [((Str.ofString "END"), PySem.W.WData.int 1000000000000)]
def hLo : List Str := [(Str.ofString "END"), (Str.ofString "value_of"), (Str.ofString "seen"), (Str.ofString "read_key"), (Str.ofString "read_stretch"), (Str.ofString "read_many"), (Str.ofString "Store")]
theorem z_hK : K02.hK = K02.hK := rfl
name_quick K02_hK for K02.hK by K02.z_hK
theorem z_hQ : K02.hQ = K02.hQ := rfl
name_quick K02_hQ for K02.hQ by K02.z_hQ
theorem z_pw : PySem.Challenge.pw_notefall_k02_rules = PySem.Challenge.pw_notefall_k02_rules := rfl
name_quick K02_pw for PySem.Challenge.pw_notefall_k02_rules by K02.z_pw
theorem z_hLv : K02.hLv = K02.hLv := rfl
name_quick K02_hLv for K02.hLv by K02.z_hLv
theorem z_hLo : K02.hLo = K02.hLo := rfl
name_quick K02_hLo for K02.hLo by K02.z_hLo
def hYf (s : Shared) : List (Option Obj) := hAs.map s.heap.get?
def hYa (K : Params → PySem.W.Frag) (w : World) : List (Option Obj) := (K w.params).map fun p => some p.2
theorem hE (P : Params) : hAs = (hK P).map (·.1) := by kernel_rfl
abbrev hXt (q : Program) (lv : List (Str × PySem.W.WData)) (s : Shared) : Bool := PySem.W.xlAt q lv s && PySem.W.recOk (PySem.W.RowW.records (PySem.W.OpenRow.toRowW PySem.Challenge.rw_notefall_k02_rules.row)) s
abbrev hF {t : Type} (tb : String → Option Builtin) (p q : Program) (lo : List Str) (lv : List (Str × PySem.W.WData)) (K : Params → PySem.W.Frag) (sn : Program → List Str → List Str → (Shared → Bool) → Bool → Shared → t) (gd : Program → List Str → t) (im : List Stmt → List Str) (w : World) : Prop :=
  (PySem.W.openEnds tb p w 9334).map (fun s => (sn q lo (im p.main.body) (hXt q lv) true s, hYf s)) = some (gd q lo, hYa K w)
noncomputable def hOth (P : Params) : PySem.W.Frag :=
 (nat_lit 0, PySem.W.boot_o_0 P) ::
 (nat_lit 1, PySem.W.boot_o_1 P) ::
 (nat_lit 4, PySem.W.boot_o_4 P) ::
 (nat_lit 5, PySem.W.boot_o_5 P) ::
 (nat_lit 6, PySem.W.boot_o_6 P) ::
 (nat_lit 7, PySem.W.boot_o_7 P) ::
 (nat_lit 8, PySem.W.boot_o_8 P) ::
 (nat_lit 9, PySem.W.boot_o_9 P) ::
 (nat_lit 10, PySem.W.boot_o_10 P) ::
 (nat_lit 11, ⟨(.type "tuple"), none, (.seq #[] 0), #[]⟩) ::
 (nat_lit 12, ⟨.none, none, (.fields #[(.int 1 0), (.int 0 0), (.ref 20), (.int 5 0), (.int 0 0), (.ref 27), (.int 7 0), (.int 0 0), (.ref 40), (.int 9 0), (.int 0 0), (.ref 52), (.int 11 0), (.int 0 0), (.ref 64), (.int 13 0), (.int 0 0), (.ref 76), (.int 15 0), (.int 0 0), (.ref 88), (.int 24 0), (.int 0 0), (.ref 101), (.int 26 0), (.int 0 0), (.ref 108), (.int 28 0), (.int 0 0), (.ref 115), (.int 30 0), (.int 0 0), (.ref 122), (.int 32 0), (.int 0 0), (.ref 129), (.int 34 0), (.int 0 0), (.ref 136), (.int 37 0), (.int 0 0), (.ref 143), (.int 40 0), (.int 0 0), (.ref 150), (.int 42 0), (.int 0 0), (.ref 157), (.int 51 0), (.int 0 0), (.ref 165), (.int 56 0), (.int 0 0), (.ref 172), (.int 60 0), (.int 0 0), (.ref 179), (.int 62 0), (.int 0 0), (.ref 184), (.int 68 0), (.int 0 0), (.ref 192), (.int 75 0), (.int 0 0), (.ref 197), (.int 77 0), (.int 0 0), (.ref 202), (.int 79 0), (.int 0 0), (.ref 210), (.int 84 0), (.int 0 0), (.ref 217), (.int 89 0), (.int 0 0), (.ref 238), (.int 92 0), (.int 0 0), (.ref 243), (.int 94 0), (.int 0 0), (.ref 250), (.int 141 0), (.int 0 0), (.ref 362), (.int 144 0), (.int 0 0), (.ref 369), (.int 147 0), (.int 0 0), (.ref 376), (.int 150 0), (.int 0 0), (.ref 383), (.int 156 0), (.int 0 0), (.ref 390), (.int 161 0), (.int 0 0), (.ref 397), (.int 167 0), (.int 0 0), (.ref 402), (.int 169 0), (.int 0 0), (.ref 409), (.int 173 0), (.int 0 0), (.ref 416), (.int 183 0), (.int 0 0), (.ref 421), (.int 186 0), (.int 0 0), (.ref 429), (.int 190 0), (.int 0 0), (.ref 438), (.int 198 0), (.int 0 0), (.ref 446), (.int 201 0), (.int 0 0), (.ref 451), (.int 203 0), (.int 0 0), (.ref 458), (.int 273 0), (.int 0 0), (.ref 626), (.int 277 0), (.int 0 0), (.ref 633), (.int 290 0), (.int 0 0), (.ref 640), (.int 295 0), (.int 0 0), (.ref 647), (.int 297 0), (.int 0 0), (.ref 654), (.int 299 0), (.int 0 0), (.ref 661), (.int 305 0), (.int 0 0), (.ref 668), (.int 318 0), (.int 0 0), (.ref 675), (.int 323 0), (.int 0 0), (.ref 682), (.int 329 0), (.int 0 0), (.ref 689)]), #[]⟩) ::
 (nat_lit 13, ⟨(.type "code"), none, (.fields #[(.str "<module>" 182), (.str "<module>" 183), (.str "/claim/cut.py" 184), (.int 1 0), (.int 0 0), (.int 0 0), (.int 0 0), (.int 0 0), (.ref 11), (.bool false), (.int 181 0), (.ref 12), .none, .none, .none, .none, (.int 185 0), (.int 1 0), (.str "/claim/cut.py" 186)]), #[]⟩) ::
 (nat_lit 14, ⟨(.type "frame"), none, .plain, #[(some (.ref 13)), (some (.ref 3)), (some (.ref 3)), none, (some (.str "__main__" 164)), none, (some (.ref 0))]⟩) ::
 (nat_lit 16, ⟨.none, none, (.fields #[]), #[]⟩) ::
 (nat_lit 19, ⟨.none, none, (.func ⟨"_wall", "_wall", defArgs (top 0), .stmts (defBody (top 0)), defScope (top 0), 0, [], .none, .none, .none, .none, none, .none, .none, 0⟩), #[]⟩) ::
 (nat_lit 23, ⟨(.type "builtin_function_or_method"), none, (.fields #[(.builtin "type.__prepare__"), (.type "type")]), #[]⟩) ::
 (nat_lit 24, ⟨(.type "dict"), none, (.dict (List.toArray (⟨kh P "__module__", (.str "__module__" 203), (.str "notefall.errors" 194)⟩ :: ⟨kh P "__qualname__", (.str "__qualname__" 205), (.str "FallError" 204)⟩ :: ⟨kh P "__firstlineno__", (.str "__firstlineno__" 207), (.int 5 206)⟩ :: ⟨kh P "__static_attributes__", (.str "__static_attributes__" 208), (.ref 29)⟩ :: [])) 4), #[]⟩) ::
 (nat_lit 25, ⟨(.type "tuple"), none, (.seq #[] 0), #[]⟩) ::
 (nat_lit 26, ⟨.none, none, (.fields #[]), #[]⟩) ::
 (nat_lit 27, ⟨(.type "code"), none, (.fields #[(.str "FallError" 198), (.str "FallError" 199), (.str "/claim/cut.py" 200), (.int 5 0), (.int 0 0), (.int 0 0), (.int 0 0), (.int 0 0), (.ref 25), (.bool false), (.int 181 0), (.ref 26), .none, .none, .none, .none, (.int 201 0), (.int 5 0), (.str "/claim/cut.py" 202)]), #[]⟩) ::
 (nat_lit 28, ⟨(.type "frame"), none, .plain, #[(some (.ref 27)), (some (.ref 3)), (some (.ref 24)), none, (some (.str "notefall.errors" 194)), none, (some (.ref 0))]⟩) ::
 (nat_lit 33, ⟨(.type "super"), none, (.fields #[(.ref 31), (.ref 31), (.ref 31)]), #[]⟩) ::
 (nat_lit 34, ⟨(.type "builtin_function_or_method"), none, (.fields #[(.builtin "object.__init_subclass__"), (.ref 31)]), #[]⟩) ::
 (nat_lit 36, ⟨(.type "builtin_function_or_method"), none, (.fields #[(.builtin "type.__prepare__"), (.type "type")]), #[]⟩) ::
 (nat_lit 37, ⟨(.type "dict"), none, (.dict (List.toArray (⟨kh P "__module__", (.str "__module__" 221), (.str "notefall.errors" 194)⟩ :: ⟨kh P "__qualname__", (.str "__qualname__" 223), (.str "NoKey" 222)⟩ :: ⟨kh P "__firstlineno__", (.str "__firstlineno__" 225), (.int 7 224)⟩ :: ⟨kh P "__static_attributes__", (.str "__static_attributes__" 226), (.ref 42)⟩ :: [])) 4), #[]⟩) ::
 (nat_lit 38, ⟨(.type "tuple"), none, (.seq #[] 0), #[]⟩) ::
 (nat_lit 39, ⟨.none, none, (.fields #[]), #[]⟩) ::
 (nat_lit 40, ⟨(.type "code"), none, (.fields #[(.str "NoKey" 216), (.str "NoKey" 217), (.str "/claim/cut.py" 218), (.int 7 0), (.int 0 0), (.int 0 0), (.int 0 0), (.int 0 0), (.ref 38), (.bool false), (.int 181 0), (.ref 39), .none, .none, .none, .none, (.int 219 0), (.int 7 0), (.str "/claim/cut.py" 220)]), #[]⟩) ::
 (nat_lit 41, ⟨(.type "frame"), none, .plain, #[(some (.ref 40)), (some (.ref 3)), (some (.ref 37)), none, (some (.str "notefall.errors" 194)), none, (some (.ref 0))]⟩) ::
 (nat_lit 45, ⟨(.type "super"), none, (.fields #[(.ref 44), (.ref 44), (.ref 44)]), #[]⟩) ::
 (nat_lit 46, ⟨(.type "builtin_function_or_method"), none, (.fields #[(.builtin "object.__init_subclass__"), (.ref 44)]), #[]⟩) ::
 (nat_lit 48, ⟨(.type "builtin_function_or_method"), none, (.fields #[(.builtin "type.__prepare__"), (.type "type")]), #[]⟩) ::
 (nat_lit 49, ⟨(.type "dict"), none, (.dict (List.toArray (⟨kh P "__module__", (.str "__module__" 237), (.str "notefall.errors" 194)⟩ :: ⟨kh P "__qualname__", (.str "__qualname__" 239), (.str "NoStretch" 238)⟩ :: ⟨kh P "__firstlineno__", (.str "__firstlineno__" 241), (.int 9 240)⟩ :: ⟨kh P "__static_attributes__", (.str "__static_attributes__" 242), (.ref 54)⟩ :: [])) 4), #[]⟩) ::
 (nat_lit 50, ⟨(.type "tuple"), none, (.seq #[] 0), #[]⟩) ::
 (nat_lit 51, ⟨.none, none, (.fields #[]), #[]⟩) ::
 (nat_lit 52, ⟨(.type "code"), none, (.fields #[(.str "NoStretch" 232), (.str "NoStretch" 233), (.str "/claim/cut.py" 234), (.int 9 0), (.int 0 0), (.int 0 0), (.int 0 0), (.int 0 0), (.ref 50), (.bool false), (.int 181 0), (.ref 51), .none, .none, .none, .none, (.int 235 0), (.int 9 0), (.str "/claim/cut.py" 236)]), #[]⟩) ::
 (nat_lit 53, ⟨(.type "frame"), none, .plain, #[(some (.ref 52)), (some (.ref 3)), (some (.ref 49)), none, (some (.str "notefall.errors" 194)), none, (some (.ref 0))]⟩) ::
 (nat_lit 57, ⟨(.type "super"), none, (.fields #[(.ref 56), (.ref 56), (.ref 56)]), #[]⟩) ::
 (nat_lit 58, ⟨(.type "builtin_function_or_method"), none, (.fields #[(.builtin "object.__init_subclass__"), (.ref 56)]), #[]⟩) ::
 (nat_lit 60, ⟨(.type "builtin_function_or_method"), none, (.fields #[(.builtin "type.__prepare__"), (.type "type")]), #[]⟩) ::
 (nat_lit 61, ⟨(.type "dict"), none, (.dict (List.toArray (⟨kh P "__module__", (.str "__module__" 253), (.str "notefall.errors" 194)⟩ :: ⟨kh P "__qualname__", (.str "__qualname__" 255), (.str "NoRule" 254)⟩ :: ⟨kh P "__firstlineno__", (.str "__firstlineno__" 257), (.int 11 256)⟩ :: ⟨kh P "__static_attributes__", (.str "__static_attributes__" 258), (.ref 66)⟩ :: [])) 4), #[]⟩) ::
 (nat_lit 62, ⟨(.type "tuple"), none, (.seq #[] 0), #[]⟩) ::
 (nat_lit 63, ⟨.none, none, (.fields #[]), #[]⟩) ::
 (nat_lit 64, ⟨(.type "code"), none, (.fields #[(.str "NoRule" 248), (.str "NoRule" 249), (.str "/claim/cut.py" 250), (.int 11 0), (.int 0 0), (.int 0 0), (.int 0 0), (.int 0 0), (.ref 62), (.bool false), (.int 181 0), (.ref 63), .none, .none, .none, .none, (.int 251 0), (.int 11 0), (.str "/claim/cut.py" 252)]), #[]⟩) ::
 (nat_lit 65, ⟨(.type "frame"), none, .plain, #[(some (.ref 64)), (some (.ref 3)), (some (.ref 61)), none, (some (.str "notefall.errors" 194)), none, (some (.ref 0))]⟩) ::
 (nat_lit 69, ⟨(.type "super"), none, (.fields #[(.ref 68), (.ref 68), (.ref 68)]), #[]⟩) ::
 (nat_lit 70, ⟨(.type "builtin_function_or_method"), none, (.fields #[(.builtin "object.__init_subclass__"), (.ref 68)]), #[]⟩) ::
 (nat_lit 72, ⟨(.type "builtin_function_or_method"), none, (.fields #[(.builtin "type.__prepare__"), (.type "type")]), #[]⟩) ::
 (nat_lit 73, ⟨(.type "dict"), none, (.dict (List.toArray (⟨kh P "__module__", (.str "__module__" 269), (.str "notefall.errors" 194)⟩ :: ⟨kh P "__qualname__", (.str "__qualname__" 271), (.str "NoMark" 270)⟩ :: ⟨kh P "__firstlineno__", (.str "__firstlineno__" 273), (.int 13 272)⟩ :: ⟨kh P "__static_attributes__", (.str "__static_attributes__" 274), (.ref 78)⟩ :: [])) 4), #[]⟩) ::
 (nat_lit 74, ⟨(.type "tuple"), none, (.seq #[] 0), #[]⟩) ::
 (nat_lit 75, ⟨.none, none, (.fields #[]), #[]⟩) ::
 (nat_lit 76, ⟨(.type "code"), none, (.fields #[(.str "NoMark" 264), (.str "NoMark" 265), (.str "/claim/cut.py" 266), (.int 13 0), (.int 0 0), (.int 0 0), (.int 0 0), (.int 0 0), (.ref 74), (.bool false), (.int 181 0), (.ref 75), .none, .none, .none, .none, (.int 267 0), (.int 13 0), (.str "/claim/cut.py" 268)]), #[]⟩) ::
 (nat_lit 77, ⟨(.type "frame"), none, .plain, #[(some (.ref 76)), (some (.ref 3)), (some (.ref 73)), none, (some (.str "notefall.errors" 194)), none, (some (.ref 0))]⟩) ::
 (nat_lit 81, ⟨(.type "super"), none, (.fields #[(.ref 80), (.ref 80), (.ref 80)]), #[]⟩) ::
 (nat_lit 82, ⟨(.type "builtin_function_or_method"), none, (.fields #[(.builtin "object.__init_subclass__"), (.ref 80)]), #[]⟩) ::
 (nat_lit 84, ⟨(.type "builtin_function_or_method"), none, (.fields #[(.builtin "type.__prepare__"), (.type "type")]), #[]⟩) ::
 (nat_lit 85, ⟨(.type "dict"), none, (.dict (List.toArray (⟨kh P "__module__", (.str "__module__" 285), (.str "notefall.errors" 194)⟩ :: ⟨kh P "__qualname__", (.str "__qualname__" 287), (.str "NoMany" 286)⟩ :: ⟨kh P "__firstlineno__", (.str "__firstlineno__" 289), (.int 15 288)⟩ :: ⟨kh P "__static_attributes__", (.str "__static_attributes__" 290), (.ref 90)⟩ :: [])) 4), #[]⟩) ::
 (nat_lit 86, ⟨(.type "tuple"), none, (.seq #[] 0), #[]⟩) ::
 (nat_lit 87, ⟨.none, none, (.fields #[]), #[]⟩) ::
 (nat_lit 88, ⟨(.type "code"), none, (.fields #[(.str "NoMany" 280), (.str "NoMany" 281), (.str "/claim/cut.py" 282), (.int 15 0), (.int 0 0), (.int 0 0), (.int 0 0), (.int 0 0), (.ref 86), (.bool false), (.int 181 0), (.ref 87), .none, .none, .none, .none, (.int 283 0), (.int 15 0), (.str "/claim/cut.py" 284)]), #[]⟩) ::
 (nat_lit 89, ⟨(.type "frame"), none, .plain, #[(some (.ref 88)), (some (.ref 3)), (some (.ref 85)), none, (some (.str "notefall.errors" 194)), none, (some (.ref 0))]⟩) ::
 (nat_lit 93, ⟨(.type "super"), none, (.fields #[(.ref 92), (.ref 92), (.ref 92)]), #[]⟩) ::
 (nat_lit 94, ⟨(.type "builtin_function_or_method"), none, (.fields #[(.builtin "object.__init_subclass__"), (.ref 92)]), #[]⟩) ::
 (nat_lit 97, ⟨.none, none, (.fields #[]), #[]⟩) ::
 (nat_lit 100, ⟨.none, none, (.func ⟨"is_number", "is_number", defArgs (top 15), .stmts (defBody (top 15)), defScope (top 15), 0, [], .none, .none, .none, .none, none, .none, .none, 0⟩), #[]⟩) ::
 (nat_lit 104, ⟨.none, none, (.fields #[]), #[]⟩) ::
 (nat_lit 107, ⟨.none, none, (.func ⟨"is_whole", "is_whole", defArgs (top 16), .stmts (defBody (top 16)), defScope (top 16), 0, [], .none, .none, .none, .none, none, .none, .none, 0⟩), #[]⟩) ::
 (nat_lit 111, ⟨.none, none, (.fields #[]), #[]⟩) ::
 (nat_lit 114, ⟨.none, none, (.func ⟨"is_whole_from", "is_whole_from", defArgs (top 17), .stmts (defBody (top 17)), defScope (top 17), 0, [], .none, .none, .none, .none, none, .none, .none, 0⟩), #[]⟩) ::
 (nat_lit 118, ⟨.none, none, (.fields #[]), #[]⟩) ::
 (nat_lit 121, ⟨.none, none, (.func ⟨"is_key", "is_key", defArgs (top 18), .stmts (defBody (top 18)), defScope (top 18), 0, [], .none, .none, .none, .none, none, .none, .none, 0⟩), #[]⟩) ::
 (nat_lit 125, ⟨.none, none, (.fields #[]), #[]⟩) ::
 (nat_lit 128, ⟨.none, none, (.func ⟨"is_stretch", "is_stretch", defArgs (top 19), .stmts (defBody (top 19)), defScope (top 19), 0, [], .none, .none, .none, .none, none, .none, .none, 0⟩), #[]⟩) ::
 (nat_lit 132, ⟨.none, none, (.fields #[]), #[]⟩) ::
 (nat_lit 135, ⟨.none, none, (.func ⟨"check_key", "check_key", defArgs (top 20), .stmts (defBody (top 20)), defScope (top 20), 0, [], .none, .none, .none, .none, none, .none, .none, 0⟩), #[]⟩) ::
 (nat_lit 139, ⟨.none, none, (.fields #[]), #[]⟩) ::
 (nat_lit 142, ⟨.none, none, (.func ⟨"check_stretch", "check_stretch", defArgs (top 21), .stmts (defBody (top 21)), defScope (top 21), 0, [], .none, .none, .none, .none, none, .none, .none, 0⟩), #[]⟩) ::
 (nat_lit 146, ⟨.none, none, (.fields #[]), #[]⟩) ::
 (nat_lit 149, ⟨.none, none, (.func ⟨"is_plan", "is_plan", defArgs (top 22), .stmts (defBody (top 22)), defScope (top 22), 0, [], .none, .none, .none, .none, none, .none, .none, 0⟩), #[]⟩) ::
 (nat_lit 153, ⟨.none, none, (.fields #[]), #[]⟩) ::
 (nat_lit 156, ⟨.none, none, (.func ⟨"is_rule", "is_rule", defArgs (top 23), .stmts (defBody (top 23)), defScope (top 23), 0, [], .none, .none, .none, .none, none, .none, .none, 0⟩), #[]⟩) ::
 (nat_lit 161, ⟨.none, none, (.fields #[]), #[]⟩) ::
 (nat_lit 164, ⟨.none, none, (.func ⟨"half_acts", "half_acts", defArgs (top 26), .stmts (defBody (top 26)), defScope (top 26), 0, [], .none, .none, .none, .none, none, .none, .none, 0⟩), #[]⟩) ::
 (nat_lit 168, ⟨.none, none, (.fields #[]), #[]⟩) ::
 (nat_lit 171, ⟨.none, none, (.func ⟨"does", "does", defArgs (top 27), .stmts (defBody (top 27)), defScope (top 27), 0, [], .none, .none, .none, .none, none, .none, .none, 0⟩), #[]⟩) ::
 (nat_lit 175, ⟨.none, none, (.fields #[]), #[]⟩) ::
 (nat_lit 178, ⟨.none, none, (.func ⟨"has_key", "has_key", defArgs (top 29), .stmts (defBody (top 29)), defScope (top 29), 0, [], .none, .none, .none, .none, none, .none, .none, 0⟩), #[]⟩) ::
 (nat_lit 182, ⟨.none, none, (.fields #[]), #[]⟩) ::
 (nat_lit 183, ⟨.none, none, (.func ⟨"reached", "reached", defArgs (top 30), .stmts (defBody (top 30)), defScope (top 30), 0, [], .none, .none, .none, .none, none, .none, .none, 0⟩), #[]⟩) ::
 (nat_lit 188, ⟨.none, none, (.fields #[]), #[]⟩) ::
 (nat_lit 191, ⟨.none, none, (.func ⟨"value_of", "value_of", defArgs (top 32), .stmts (defBody (top 32)), defScope (top 32), 0, [], .none, .none, .none, .none, none, .none, .none, 0⟩), #[]⟩) ::
 (nat_lit 195, ⟨.none, none, (.fields #[]), #[]⟩) ::
 (nat_lit 196, ⟨.none, none, (.func ⟨"up_to", "up_to", defArgs (top 34), .stmts (defBody (top 34)), defScope (top 34), 0, [], .none, .none, .none, .none, none, .none, .none, 0⟩), #[]⟩) ::
 (nat_lit 200, ⟨.none, none, (.fields #[]), #[]⟩) ::
 (nat_lit 201, ⟨.none, none, (.func ⟨"touching", "touching", defArgs (top 35), .stmts (defBody (top 35)), defScope (top 35), 0, [], .none, .none, .none, .none, none, .none, .none, 0⟩), #[]⟩) ::
 (nat_lit 206, ⟨.none, none, (.fields #[]), #[]⟩) ::
 (nat_lit 209, ⟨.none, none, (.func ⟨"seen", "seen", defArgs (top 36), .stmts (defBody (top 36)), defScope (top 36), 0, [], .none, .none, .none, .none, none, .none, .none, 0⟩), #[]⟩) ::
 (nat_lit 212, ⟨(.type "tuple"), none, (.seq #[] 0), #[]⟩) ::
 (nat_lit 213, ⟨(.type "builtin_function_or_method"), none, (.fields #[(.builtin "type.__prepare__"), (.type "type")]), #[]⟩) ::
 (nat_lit 214, ⟨(.type "dict"), none, (.dict (List.toArray (⟨kh P "__module__", (.str "__module__" 472), (.str "notefall.rooms" 463)⟩ :: ⟨kh P "__qualname__", (.str "__qualname__" 474), (.str "Leaf" 473)⟩ :: ⟨kh P "__firstlineno__", (.str "__firstlineno__" 476), (.int 84 475)⟩ :: ⟨kh P "__init__", (.str "__init__" 485), (.ref 225)⟩ :: ⟨kh P "__static_attributes__", (.str "__static_attributes__" 488), (.ref 226)⟩ :: [])) 5), #[]⟩) ::
 (nat_lit 215, ⟨(.type "tuple"), none, (.seq #[] 0), #[]⟩) ::
 (nat_lit 216, ⟨.none, none, (.fields #[(.int 86 0), (.int 4 0), (.ref 224)]), #[]⟩) ::
 (nat_lit 217, ⟨(.type "code"), none, (.fields #[(.str "Leaf" 467), (.str "Leaf" 468), (.str "/claim/cut.py" 469), (.int 84 0), (.int 0 0), (.int 0 0), (.int 0 0), (.int 0 0), (.ref 215), (.bool false), (.int 181 0), (.ref 216), .none, .none, .none, .none, (.int 470 0), (.int 84 0), (.str "/claim/cut.py" 471)]), #[]⟩) ::
 (nat_lit 218, ⟨(.type "frame"), none, .plain, #[(some (.ref 217)), (some (.ref 3)), (some (.ref 214)), none, (some (.str "notefall.rooms" 463)), none, (some (.ref 0))]⟩) ::
 (nat_lit 220, ⟨.none, none, (.fields #[]), #[]⟩) ::
 (nat_lit 223, ⟨.none, none, (.func ⟨"__init__", "Leaf.__init__", defArgs (inClass (top 38) 0), .stmts (defBody (inClass (top 38) 0)), defScope (inClass (top 38) 0), 0, [], .none, .none, .none, .none, none, .none, .none, 0⟩), #[]⟩) ::
 (nat_lit 231, ⟨(.type "super"), none, (.fields #[(.ref 228), (.ref 228), (.ref 228)]), #[]⟩) ::
 (nat_lit 232, ⟨(.type "builtin_function_or_method"), none, (.fields #[(.builtin "object.__init_subclass__"), (.ref 228)]), #[]⟩) ::
 (nat_lit 234, ⟨.none, none, (.fields #[]), #[]⟩) ::
 (nat_lit 237, ⟨.none, none, (.func ⟨"stretches", "stretches", defArgs (top 39), .stmts (defBody (top 39)), defScope (top 39), 0, [], .none, .none, .none, .none, none, .none, .none, 0⟩), #[]⟩) ::
 (nat_lit 241, ⟨.none, none, (.fields #[]), #[]⟩) ::
 (nat_lit 242, ⟨.none, none, (.func ⟨"child_place", "child_place", defArgs (top 40), .stmts (defBody (top 40)), defScope (top 40), 0, [], .none, .none, .none, .none, none, .none, .none, 0⟩), #[]⟩) ::
 (nat_lit 245, ⟨(.type "tuple"), none, (.seq #[] 0), #[]⟩) ::
 (nat_lit 246, ⟨(.type "builtin_function_or_method"), none, (.fields #[(.builtin "type.__prepare__"), (.type "type")]), #[]⟩) ::
 (nat_lit 247, ⟨(.type "dict"), none, (.dict (List.toArray (⟨kh P "__module__", (.str "__module__" 519), (.str "notefall.rooms" 463)⟩ :: ⟨kh P "__qualname__", (.str "__qualname__" 521), (.str "House" 520)⟩ :: ⟨kh P "__firstlineno__", (.str "__firstlineno__" 523), (.int 94 522)⟩ :: ⟨kh P "__init__", (.str "__init__" 534), (.ref 258)⟩ :: ⟨kh P "next_number", (.str "next_number" 541), (.ref 265)⟩ :: ⟨kh P "lay", (.str "lay" 549), (.ref 272)⟩ :: ⟨kh P "take_in", (.str "take_in" 560), (.ref 279)⟩ :: ⟨kh P "drain", (.str "drain" 570), (.ref 286)⟩ :: ⟨kh P "pour_into", (.str "pour_into" 581), (.ref 293)⟩ :: ⟨kh P "clear_out", (.str "clear_out" 591), (.ref 300)⟩ :: ⟨kh P "is_too_great", (.str "is_too_great" 599), (.ref 307)⟩ :: ⟨kh P "mend", (.str "mend" 610), (.ref 314)⟩ :: ⟨kh P "part_child", (.str "part_child" 621), (.ref 321)⟩ :: ⟨kh P "leaf_parts", (.str "leaf_parts" 629), (.ref 328)⟩ :: ⟨kh P "inner_parts", (.str "inner_parts" 639), (.ref 335)⟩ :: ⟨kh P "part_numbers", (.str "part_numbers" 648), (.ref 342)⟩ :: ⟨kh P "mend_top", (.str "mend_top" 655), (.ref 349)⟩ :: ⟨kh P "__static_attributes__", (.str "__static_attributes__" 661), (.ref 350)⟩ :: [])) 18), #[]⟩) ::
 (nat_lit 248, ⟨(.type "tuple"), none, (.seq #[] 0), #[]⟩) ::
 (nat_lit 249, ⟨.none, none, (.fields #[(.int 96 0), (.int 4 0), (.ref 257), (.int 103 0), (.int 4 0), (.ref 264), (.int 106 0), (.int 4 0), (.ref 271), (.int 109 0), (.int 4 0), (.ref 278), (.int 112 0), (.int 4 0), (.ref 285), (.int 115 0), (.int 4 0), (.ref 292), (.int 118 0), (.int 4 0), (.ref 299), (.int 121 0), (.int 4 0), (.ref 306), (.int 124 0), (.int 4 0), (.ref 313), (.int 127 0), (.int 4 0), (.ref 320), (.int 130 0), (.int 4 0), (.ref 327), (.int 133 0), (.int 4 0), (.ref 334), (.int 136 0), (.int 4 0), (.ref 341), (.int 139 0), (.int 4 0), (.ref 348)]), #[]⟩) ::
 (nat_lit 250, ⟨(.type "code"), none, (.fields #[(.str "House" 514), (.str "House" 515), (.str "/claim/cut.py" 516), (.int 94 0), (.int 0 0), (.int 0 0), (.int 0 0), (.int 0 0), (.ref 248), (.bool false), (.int 181 0), (.ref 249), .none, .none, .none, .none, (.int 517 0), (.int 94 0), (.str "/claim/cut.py" 518)]), #[]⟩) ::
 (nat_lit 251, ⟨(.type "frame"), none, .plain, #[(some (.ref 250)), (some (.ref 3)), (some (.ref 247)), none, (some (.str "notefall.rooms" 463)), none, (some (.ref 0))]⟩) ::
 (nat_lit 253, ⟨.none, none, (.fields #[]), #[]⟩) ::
 (nat_lit 256, ⟨.none, none, (.func ⟨"__init__", "House.__init__", defArgs (inClass (top 41) 0), .stmts (defBody (inClass (top 41) 0)), defScope (inClass (top 41) 0), 0, [], .none, .none, .none, .none, none, .none, .none, 0⟩), #[]⟩) ::
 (nat_lit 260, ⟨.none, none, (.fields #[]), #[]⟩) ::
 (nat_lit 263, ⟨.none, none, (.func ⟨"next_number", "House.next_number", defArgs (inClass (top 41) 1), .stmts (defBody (inClass (top 41) 1)), defScope (inClass (top 41) 1), 0, [], .none, .none, .none, .none, none, .none, .none, 0⟩), #[]⟩) ::
 (nat_lit 267, ⟨.none, none, (.fields #[]), #[]⟩) ::
 (nat_lit 270, ⟨.none, none, (.func ⟨"lay", "House.lay", defArgs (inClass (top 41) 2), .stmts (defBody (inClass (top 41) 2)), defScope (inClass (top 41) 2), 0, [], .none, .none, .none, .none, none, .none, .none, 0⟩), #[]⟩) ::
 (nat_lit 274, ⟨.none, none, (.fields #[]), #[]⟩) ::
 (nat_lit 277, ⟨.none, none, (.func ⟨"take_in", "House.take_in", defArgs (inClass (top 41) 3), .stmts (defBody (inClass (top 41) 3)), defScope (inClass (top 41) 3), 0, [], .none, .none, .none, .none, none, .none, .none, 0⟩), #[]⟩) ::
 (nat_lit 281, ⟨.none, none, (.fields #[]), #[]⟩) ::
 (nat_lit 284, ⟨.none, none, (.func ⟨"drain", "House.drain", defArgs (inClass (top 41) 4), .stmts (defBody (inClass (top 41) 4)), defScope (inClass (top 41) 4), 0, [], .none, .none, .none, .none, none, .none, .none, 0⟩), #[]⟩) ::
 (nat_lit 288, ⟨.none, none, (.fields #[]), #[]⟩) ::
 (nat_lit 291, ⟨.none, none, (.func ⟨"pour_into", "House.pour_into", defArgs (inClass (top 41) 5), .stmts (defBody (inClass (top 41) 5)), defScope (inClass (top 41) 5), 0, [], .none, .none, .none, .none, none, .none, .none, 0⟩), #[]⟩) ::
 (nat_lit 295, ⟨.none, none, (.fields #[]), #[]⟩) ::
 (nat_lit 298, ⟨.none, none, (.func ⟨"clear_out", "House.clear_out", defArgs (inClass (top 41) 6), .stmts (defBody (inClass (top 41) 6)), defScope (inClass (top 41) 6), 0, [], .none, .none, .none, .none, none, .none, .none, 0⟩), #[]⟩) ::
 (nat_lit 302, ⟨.none, none, (.fields #[]), #[]⟩) ::
 (nat_lit 305, ⟨.none, none, (.func ⟨"is_too_great", "House.is_too_great", defArgs (inClass (top 41) 7), .stmts (defBody (inClass (top 41) 7)), defScope (inClass (top 41) 7), 0, [], .none, .none, .none, .none, none, .none, .none, 0⟩), #[]⟩) ::
 (nat_lit 309, ⟨.none, none, (.fields #[]), #[]⟩) ::
 (nat_lit 312, ⟨.none, none, (.func ⟨"mend", "House.mend", defArgs (inClass (top 41) 8), .stmts (defBody (inClass (top 41) 8)), defScope (inClass (top 41) 8), 0, [], .none, .none, .none, .none, none, .none, .none, 0⟩), #[]⟩) ::
 (nat_lit 316, ⟨.none, none, (.fields #[]), #[]⟩) ::
 (nat_lit 319, ⟨.none, none, (.func ⟨"part_child", "House.part_child", defArgs (inClass (top 41) 9), .stmts (defBody (inClass (top 41) 9)), defScope (inClass (top 41) 9), 0, [], .none, .none, .none, .none, none, .none, .none, 0⟩), #[]⟩) ::
 (nat_lit 323, ⟨.none, none, (.fields #[]), #[]⟩) ::
 (nat_lit 326, ⟨.none, none, (.func ⟨"leaf_parts", "House.leaf_parts", defArgs (inClass (top 41) 10), .stmts (defBody (inClass (top 41) 10)), defScope (inClass (top 41) 10), 0, [], .none, .none, .none, .none, none, .none, .none, 0⟩), #[]⟩) ::
 (nat_lit 330, ⟨.none, none, (.fields #[]), #[]⟩) ::
 (nat_lit 333, ⟨.none, none, (.func ⟨"inner_parts", "House.inner_parts", defArgs (inClass (top 41) 11), .stmts (defBody (inClass (top 41) 11)), defScope (inClass (top 41) 11), 0, [], .none, .none, .none, .none, none, .none, .none, 0⟩), #[]⟩) ::
 (nat_lit 337, ⟨.none, none, (.fields #[]), #[]⟩) ::
 (nat_lit 340, ⟨.none, none, (.func ⟨"part_numbers", "House.part_numbers", defArgs (inClass (top 41) 12), .stmts (defBody (inClass (top 41) 12)), defScope (inClass (top 41) 12), 0, [], .none, .none, .none, .none, none, .none, .none, 0⟩), #[]⟩) ::
 (nat_lit 344, ⟨.none, none, (.fields #[]), #[]⟩) ::
 (nat_lit 347, ⟨.none, none, (.func ⟨"mend_top", "House.mend_top", defArgs (inClass (top 41) 13), .stmts (defBody (inClass (top 41) 13)), defScope (inClass (top 41) 13), 0, [], .none, .none, .none, .none, none, .none, .none, 0⟩), #[]⟩) ::
 (nat_lit 355, ⟨(.type "super"), none, (.fields #[(.ref 352), (.ref 352), (.ref 352)]), #[]⟩) ::
 (nat_lit 356, ⟨(.type "builtin_function_or_method"), none, (.fields #[(.builtin "object.__init_subclass__"), (.ref 352)]), #[]⟩) ::
 (nat_lit 358, ⟨.none, none, (.fields #[]), #[]⟩) ::
 (nat_lit 361, ⟨.none, none, (.func ⟨"new_house", "new_house", defArgs (top 42), .stmts (defBody (top 42)), defScope (top 42), 0, [], .none, .none, .none, .none, none, .none, .none, 0⟩), #[]⟩) ::
 (nat_lit 365, ⟨.none, none, (.fields #[]), #[]⟩) ::
 (nat_lit 368, ⟨.none, none, (.func ⟨"check_mark", "check_mark", defArgs (top 44), .stmts (defBody (top 44)), defScope (top 44), 0, [], .none, .none, .none, .none, none, .none, .none, 0⟩), #[]⟩) ::
 (nat_lit 372, ⟨.none, none, (.fields #[]), #[]⟩) ::
 (nat_lit 375, ⟨.none, none, (.func ⟨"check_many", "check_many", defArgs (top 45), .stmts (defBody (top 45)), defScope (top 45), 0, [], .none, .none, .none, .none, none, .none, .none, 0⟩), #[]⟩) ::
 (nat_lit 379, ⟨.none, none, (.fields #[]), #[]⟩) ::
 (nat_lit 382, ⟨.none, none, (.func ⟨"rooms_to", "rooms_to", defArgs (top 46), .stmts (defBody (top 46)), defScope (top 46), 0, [], .none, .none, .none, .none, none, .none, .none, 0⟩), #[]⟩) ::
 (nat_lit 386, ⟨.none, none, (.fields #[]), #[]⟩) ::
 (nat_lit 389, ⟨.none, none, (.func ⟨"versions_in", "versions_in", defArgs (top 47), .stmts (defBody (top 47)), defScope (top 47), 0, [], .none, .none, .none, .none, none, .none, .none, 0⟩), #[]⟩) ::
 (nat_lit 393, ⟨.none, none, (.fields #[]), #[]⟩) ::
 (nat_lit 396, ⟨.none, none, (.func ⟨"told_value", "told_value", defArgs (top 48), .stmts (defBody (top 48)), defScope (top 48), 0, [], .none, .none, .none, .none, none, .none, .none, 0⟩), #[]⟩) ::
 (nat_lit 400, ⟨.none, none, (.fields #[]), #[]⟩) ::
 (nat_lit 401, ⟨.none, none, (.func ⟨"leaf_table", "leaf_table", defArgs (top 49), .stmts (defBody (top 49)), defScope (top 49), 0, [], .none, .none, .none, .none, none, .none, .none, 0⟩), #[]⟩) ::
 (nat_lit 405, ⟨.none, none, (.fields #[]), #[]⟩) ::
 (nat_lit 408, ⟨.none, none, (.func ⟨"do_to", "do_to", defArgs (top 50), .stmts (defBody (top 50)), defScope (top 50), 0, [], .none, .none, .none, .none, none, .none, .none, 0⟩), #[]⟩) ::
 (nat_lit 412, ⟨.none, none, (.fields #[]), #[]⟩) ::
 (nat_lit 415, ⟨.none, none, (.func ⟨"room_table", "room_table", defArgs (top 51), .stmts (defBody (top 51)), defScope (top 51), 0, [], .none, .none, .none, .none, none, .none, .none, 0⟩), #[]⟩) ::
 (nat_lit 419, ⟨.none, none, (.fields #[]), #[]⟩) ::
 (nat_lit 420, ⟨.none, none, (.func ⟨"pairs", "pairs", defArgs (top 52), .stmts (defBody (top 52)), defScope (top 52), 0, [], .none, .none, .none, .none, none, .none, .none, 0⟩), #[]⟩) ::
 (nat_lit 425, ⟨.none, none, (.fields #[]), #[]⟩) ::
 (nat_lit 428, ⟨.none, none, (.func ⟨"read_key", "read_key", defArgs (top 53), .stmts (defBody (top 53)), defScope (top 53), 0, [], .none, .none, .none, .none, none, .none, .none, 0⟩), #[]⟩) ::
 (nat_lit 434, ⟨.none, none, (.fields #[]), #[]⟩) ::
 (nat_lit 437, ⟨.none, none, (.func ⟨"read_stretch", "read_stretch", defArgs (top 54), .stmts (defBody (top 54)), defScope (top 54), 0, [], .none, .none, .none, .none, none, .none, .none, 0⟩), #[]⟩) ::
 (nat_lit 442, ⟨.none, none, (.fields #[]), #[]⟩) ::
 (nat_lit 445, ⟨.none, none, (.func ⟨"read_many", "read_many", defArgs (top 55), .stmts (defBody (top 55)), defScope (top 55), 0, [], .none, .none, .none, .none, none, .none, .none, 0⟩), #[]⟩) ::
 (nat_lit 449, ⟨.none, none, (.fields #[]), #[]⟩) ::
 (nat_lit 450, ⟨.none, none, (.func ⟨"own_step", "own_step", defArgs (top 57), .stmts (defBody (top 57)), defScope (top 57), 0, [], .none, .none, .none, .none, none, .none, .none, 0⟩), #[]⟩) ::
 (nat_lit 453, ⟨(.type "tuple"), none, (.seq #[] 0), #[]⟩) ::
 (nat_lit 454, ⟨(.type "builtin_function_or_method"), none, (.fields #[(.builtin "type.__prepare__"), (.type "type")]), #[]⟩) ::
 (nat_lit 455, ⟨(.type "dict"), none, (.dict (List.toArray (⟨kh P "__module__", (.str "__module__" 816), (.str "notefall.store" 801)⟩ :: ⟨kh P "__qualname__", (.str "__qualname__" 818), (.str "Store" 817)⟩ :: ⟨kh P "__firstlineno__", (.str "__firstlineno__" 820), (.int 203 819)⟩ :: ⟨kh P "__init__", (.str "__init__" 828), (.ref 466)⟩ :: ⟨kh P "check_free", (.str "check_free" 835), (.ref 473)⟩ :: ⟨kh P "ready_deed", (.str "ready_deed" 843), (.ref 480)⟩ :: ⟨kh P "do", (.str "do" 851), (.ref 487)⟩ :: ⟨kh P "marks", (.str "marks" 858), (.ref 494)⟩ :: ⟨kh P "read", (.str "read" 868), (.ref 502)⟩ :: ⟨kh P "stretch", (.str "stretch" 884), (.ref 511)⟩ :: ⟨kh P "__len__", (.str "__len__" 891), (.ref 518)⟩ :: ⟨kh P "above", (.str "above" 901), (.ref 526)⟩ :: ⟨kh P "below", (.str "below" 911), (.ref 534)⟩ :: ⟨kh P "many", (.str "many" 922), (.ref 542)⟩ :: ⟨kh P "total", (.str "total" 933), (.ref 550)⟩ :: ⟨kh P "unlike", (.str "unlike" 942), (.ref 557)⟩ :: ⟨kh P "way", (.str "way" 952), (.ref 565)⟩ :: ⟨kh P "pour", (.str "pour" 961), (.ref 572)⟩ :: ⟨kh P "press", (.str "press" 970), (.ref 579)⟩ :: ⟨kh P "squeeze", (.str "squeeze" 977), (.ref 586)⟩ :: ⟨kh P "each", (.str "each" 988), (.ref 594)⟩ :: ⟨kh P "steps", (.str "steps" 994), (.ref 599)⟩ :: ⟨kh P "twin", (.str "twin" 1001), (.ref 606)⟩ :: ⟨kh P "image", (.str "image" 1008), (.ref 613)⟩ :: ⟨kh P "__static_attributes__", (.str "__static_attributes__" 1013), (.ref 614)⟩ :: [])) 25), #[]⟩) ::
 (nat_lit 456, ⟨(.type "tuple"), none, (.seq #[] 0), #[]⟩) ::
 (nat_lit 457, ⟨.none, none, (.fields #[(.int 205 0), (.int 4 0), (.ref 465), (.int 213 0), (.int 4 0), (.ref 472), (.int 216 0), (.int 4 0), (.ref 479), (.int 219 0), (.int 4 0), (.ref 486), (.int 222 0), (.int 4 0), (.ref 493), (.int 225 0), (.int 4 0), (.ref 501), (.int 228 0), (.int 4 0), (.ref 510), (.int 231 0), (.int 4 0), (.ref 517), (.int 234 0), (.int 4 0), (.ref 525), (.int 237 0), (.int 4 0), (.ref 533), (.int 240 0), (.int 4 0), (.ref 541), (.int 243 0), (.int 4 0), (.ref 549), (.int 246 0), (.int 4 0), (.ref 556), (.int 249 0), (.int 4 0), (.ref 564), (.int 252 0), (.int 4 0), (.ref 571), (.int 255 0), (.int 4 0), (.ref 578), (.int 258 0), (.int 4 0), (.ref 585), (.int 261 0), (.int 4 0), (.ref 593), (.int 264 0), (.int 4 0), (.ref 598), (.int 267 0), (.int 4 0), (.ref 605), (.int 270 0), (.int 4 0), (.ref 612)]), #[]⟩) ::
 (nat_lit 458, ⟨(.type "code"), none, (.fields #[(.str "Store" 811), (.str "Store" 812), (.str "/claim/cut.py" 813), (.int 203 0), (.int 0 0), (.int 0 0), (.int 0 0), (.int 0 0), (.ref 456), (.bool false), (.int 181 0), (.ref 457), .none, .none, .none, .none, (.int 814 0), (.int 203 0), (.str "/claim/cut.py" 815)]), #[]⟩) ::
 (nat_lit 459, ⟨(.type "frame"), none, .plain, #[(some (.ref 458)), (some (.ref 3)), (some (.ref 455)), none, (some (.str "notefall.store" 801)), none, (some (.ref 0))]⟩) ::
 (nat_lit 461, ⟨.none, none, (.fields #[]), #[]⟩) ::
 (nat_lit 464, ⟨.none, none, (.func ⟨"__init__", "Store.__init__", defArgs (inClass (top 58) 0), .stmts (defBody (inClass (top 58) 0)), defScope (inClass (top 58) 0), 0, [], .none, .none, .none, .none, none, .none, .none, 0⟩), #[]⟩) ::
 (nat_lit 468, ⟨.none, none, (.fields #[]), #[]⟩) ::
 (nat_lit 471, ⟨.none, none, (.func ⟨"check_free", "Store.check_free", defArgs (inClass (top 58) 1), .stmts (defBody (inClass (top 58) 1)), defScope (inClass (top 58) 1), 0, [], .none, .none, .none, .none, none, .none, .none, 0⟩), #[]⟩) ::
 (nat_lit 475, ⟨.none, none, (.fields #[]), #[]⟩) ::
 (nat_lit 478, ⟨.none, none, (.func ⟨"ready_deed", "Store.ready_deed", defArgs (inClass (top 58) 2), .stmts (defBody (inClass (top 58) 2)), defScope (inClass (top 58) 2), 0, [], .none, .none, .none, .none, none, .none, .none, 0⟩), #[]⟩) ::
 (nat_lit 482, ⟨.none, none, (.fields #[]), #[]⟩) ::
 (nat_lit 485, ⟨.none, none, (.func ⟨"do", "Store.do", defArgs (inClass (top 58) 3), .stmts (defBody (inClass (top 58) 3)), defScope (inClass (top 58) 3), 0, [], .none, .none, .none, .none, none, .none, .none, 0⟩), #[]⟩) ::
 (nat_lit 489, ⟨.none, none, (.fields #[]), #[]⟩) ::
 (nat_lit 492, ⟨.none, none, (.func ⟨"marks", "Store.marks", defArgs (inClass (top 58) 4), .stmts (defBody (inClass (top 58) 4)), defScope (inClass (top 58) 4), 0, [], .none, .none, .none, .none, none, .none, .none, 0⟩), #[]⟩) ::
 (nat_lit 497, ⟨.none, none, (.fields #[]), #[]⟩) ::
 (nat_lit 500, ⟨.none, none, (.func ⟨"read", "Store.read", defArgs (inClass (top 58) 5), .stmts (defBody (inClass (top 58) 5)), defScope (inClass (top 58) 5), 0, [], .none, .none, .none, .none, none, .none, .none, 0⟩), #[]⟩) ::
 (nat_lit 506, ⟨.none, none, (.fields #[]), #[]⟩) ::
 (nat_lit 509, ⟨.none, none, (.func ⟨"stretch", "Store.stretch", defArgs (inClass (top 58) 6), .stmts (defBody (inClass (top 58) 6)), defScope (inClass (top 58) 6), 0, [], .none, .none, .none, .none, none, .none, .none, 0⟩), #[]⟩) ::
 (nat_lit 513, ⟨.none, none, (.fields #[]), #[]⟩) ::
 (nat_lit 516, ⟨.none, none, (.func ⟨"__len__", "Store.__len__", defArgs (inClass (top 58) 7), .stmts (defBody (inClass (top 58) 7)), defScope (inClass (top 58) 7), 0, [], .none, .none, .none, .none, none, .none, .none, 0⟩), #[]⟩) ::
 (nat_lit 521, ⟨.none, none, (.fields #[]), #[]⟩) ::
 (nat_lit 524, ⟨.none, none, (.func ⟨"above", "Store.above", defArgs (inClass (top 58) 8), .stmts (defBody (inClass (top 58) 8)), defScope (inClass (top 58) 8), 0, [], .none, .none, .none, .none, none, .none, .none, 0⟩), #[]⟩) ::
 (nat_lit 529, ⟨.none, none, (.fields #[]), #[]⟩) ::
 (nat_lit 532, ⟨.none, none, (.func ⟨"below", "Store.below", defArgs (inClass (top 58) 9), .stmts (defBody (inClass (top 58) 9)), defScope (inClass (top 58) 9), 0, [], .none, .none, .none, .none, none, .none, .none, 0⟩), #[]⟩) ::
 (nat_lit 537, ⟨.none, none, (.fields #[]), #[]⟩) ::
 (nat_lit 540, ⟨.none, none, (.func ⟨"many", "Store.many", defArgs (inClass (top 58) 10), .stmts (defBody (inClass (top 58) 10)), defScope (inClass (top 58) 10), 0, [], .none, .none, .none, .none, none, .none, .none, 0⟩), #[]⟩) ::
 (nat_lit 545, ⟨.none, none, (.fields #[]), #[]⟩) ::
 (nat_lit 548, ⟨.none, none, (.func ⟨"total", "Store.total", defArgs (inClass (top 58) 11), .stmts (defBody (inClass (top 58) 11)), defScope (inClass (top 58) 11), 0, [], .none, .none, .none, .none, none, .none, .none, 0⟩), #[]⟩) ::
 (nat_lit 552, ⟨.none, none, (.fields #[]), #[]⟩) ::
 (nat_lit 555, ⟨.none, none, (.func ⟨"unlike", "Store.unlike", defArgs (inClass (top 58) 12), .stmts (defBody (inClass (top 58) 12)), defScope (inClass (top 58) 12), 0, [], .none, .none, .none, .none, none, .none, .none, 0⟩), #[]⟩) ::
 (nat_lit 560, ⟨.none, none, (.fields #[]), #[]⟩) ::
 (nat_lit 563, ⟨.none, none, (.func ⟨"way", "Store.way", defArgs (inClass (top 58) 13), .stmts (defBody (inClass (top 58) 13)), defScope (inClass (top 58) 13), 0, [], .none, .none, .none, .none, none, .none, .none, 0⟩), #[]⟩) ::
 (nat_lit 567, ⟨.none, none, (.fields #[]), #[]⟩) ::
 (nat_lit 570, ⟨.none, none, (.func ⟨"pour", "Store.pour", defArgs (inClass (top 58) 14), .stmts (defBody (inClass (top 58) 14)), defScope (inClass (top 58) 14), 0, [], .none, .none, .none, .none, none, .none, .none, 0⟩), #[]⟩) ::
 (nat_lit 574, ⟨.none, none, (.fields #[]), #[]⟩) ::
 (nat_lit 577, ⟨.none, none, (.func ⟨"press", "Store.press", defArgs (inClass (top 58) 15), .stmts (defBody (inClass (top 58) 15)), defScope (inClass (top 58) 15), 0, [], .none, .none, .none, .none, none, .none, .none, 0⟩), #[]⟩) ::
 (nat_lit 581, ⟨.none, none, (.fields #[]), #[]⟩) ::
 (nat_lit 584, ⟨.none, none, (.func ⟨"squeeze", "Store.squeeze", defArgs (inClass (top 58) 16), .stmts (defBody (inClass (top 58) 16)), defScope (inClass (top 58) 16), 0, [], .none, .none, .none, .none, none, .none, .none, 0⟩), #[]⟩) ::
 (nat_lit 589, ⟨.none, none, (.fields #[]), #[]⟩) ::
 (nat_lit 592, ⟨.none, none, (.func ⟨"each", "Store.each", defArgs (inClass (top 58) 17), .stmts (defBody (inClass (top 58) 17)), defScope (inClass (top 58) 17), 0, [], .none, .none, .none, .none, none, .none, .none, 0⟩), #[]⟩) ::
 (nat_lit 596, ⟨.none, none, (.fields #[]), #[]⟩) ::
 (nat_lit 597, ⟨.none, none, (.func ⟨"steps", "Store.steps", defArgs (inClass (top 58) 18), .stmts (defBody (inClass (top 58) 18)), defScope (inClass (top 58) 18), 0, [], .none, .none, .none, .none, none, .none, .none, 0⟩), #[]⟩) ::
 (nat_lit 601, ⟨.none, none, (.fields #[]), #[]⟩) ::
 (nat_lit 604, ⟨.none, none, (.func ⟨"twin", "Store.twin", defArgs (inClass (top 58) 19), .stmts (defBody (inClass (top 58) 19)), defScope (inClass (top 58) 19), 0, [], .none, .none, .none, .none, none, .none, .none, 0⟩), #[]⟩) ::
 (nat_lit 608, ⟨.none, none, (.fields #[]), #[]⟩) ::
 (nat_lit 611, ⟨.none, none, (.func ⟨"image", "Store.image", defArgs (inClass (top 58) 20), .stmts (defBody (inClass (top 58) 20)), defScope (inClass (top 58) 20), 0, [], .none, .none, .none, .none, none, .none, .none, 0⟩), #[]⟩) ::
 (nat_lit 619, ⟨(.type "super"), none, (.fields #[(.ref 616), (.ref 616), (.ref 616)]), #[]⟩) ::
 (nat_lit 620, ⟨(.type "builtin_function_or_method"), none, (.fields #[(.builtin "object.__init_subclass__"), (.ref 616)]), #[]⟩) ::
 (nat_lit 622, ⟨.none, none, (.fields #[]), #[]⟩) ::
 (nat_lit 625, ⟨.none, none, (.func ⟨"_law_cell_at", "_law_cell_at", defArgs (top 60), .stmts (defBody (top 60)), defScope (top 60), 0, [], .none, .none, .none, .none, none, .none, .none, 0⟩), #[]⟩) ::
 (nat_lit 629, ⟨.none, none, (.fields #[]), #[]⟩) ::
 (nat_lit 632, ⟨.none, none, (.func ⟨"_law_digit", "_law_digit", defArgs (top 61), .stmts (defBody (top 61)), defScope (top 61), 0, [], .none, .none, .none, .none, none, .none, .none, 0⟩), #[]⟩) ::
 (nat_lit 636, ⟨.none, none, (.fields #[]), #[]⟩) ::
 (nat_lit 639, ⟨.none, none, (.func ⟨"_law_good", "_law_good", defArgs (top 62), .stmts (defBody (top 62)), defScope (top 62), 0, [], .none, .none, .none, .none, none, .none, .none, 0⟩), #[]⟩) ::
 (nat_lit 643, ⟨.none, none, (.fields #[]), #[]⟩) ::
 (nat_lit 646, ⟨.none, none, (.func ⟨"_law_truth", "_law_truth", defArgs (top 63), .stmts (defBody (top 63)), defScope (top 63), 0, [], .none, .none, .none, .none, none, .none, .none, 0⟩), #[]⟩) ::
 (nat_lit 650, ⟨.none, none, (.fields #[]), #[]⟩) ::
 (nat_lit 653, ⟨.none, none, (.func ⟨"_law_between", "_law_between", defArgs (top 64), .stmts (defBody (top 64)), defScope (top 64), 0, [], .none, .none, .none, .none, none, .none, .none, 0⟩), #[]⟩) ::
 (nat_lit 657, ⟨.none, none, (.fields #[]), #[]⟩) ::
 (nat_lit 660, ⟨.none, none, (.func ⟨"_law_is_rule", "_law_is_rule", defArgs (top 65), .stmts (defBody (top 65)), defScope (top 65), 0, [], .none, .none, .none, .none, none, .none, .none, 0⟩), #[]⟩) ::
 (nat_lit 664, ⟨.none, none, (.fields #[]), #[]⟩) ::
 (nat_lit 667, ⟨.none, none, (.func ⟨"_law_spoilt", "_law_spoilt", defArgs (top 66), .stmts (defBody (top 66)), defScope (top 66), 0, [], .none, .none, .none, .none, none, .none, .none, 0⟩), #[]⟩) ::
 (nat_lit 671, ⟨.none, none, (.fields #[]), #[]⟩) ::
 (nat_lit 674, ⟨.none, none, (.func ⟨"_law_stands", "_law_stands", defArgs (top 67), .stmts (defBody (top 67)), defScope (top 67), 0, [], .none, .none, .none, .none, none, .none, .none, 0⟩), #[]⟩) ::
 (nat_lit 678, ⟨.none, none, (.fields #[]), #[]⟩) ::
 (nat_lit 681, ⟨.none, none, (.func ⟨"_law_refused", "_law_refused", defArgs (top 68), .stmts (defBody (top 68)), defScope (top 68), 0, [], .none, .none, .none, .none, none, .none, .none, 0⟩), #[]⟩) ::
 (nat_lit 685, ⟨.none, none, (.fields #[]), #[]⟩) ::
 (nat_lit 688, ⟨.none, none, (.func ⟨"law", "law", defArgs (top 69), .stmts (defBody (top 69)), defScope (top 69), 0, [], .none, .none, .none, .none, none, .none, .none, 0⟩), #[]⟩) :: []
noncomputable def hAo (P : Params) : List Obj :=
 (PySem.W.boot_o_0 P) ::
 (PySem.W.boot_o_1 P) ::
 (PySem.W.boot_o_2 P) ::
 (PySem.W.boot_o_3 P) ::
 (PySem.W.boot_o_4 P) ::
 (PySem.W.boot_o_5 P) ::
 (PySem.W.boot_o_6 P) ::
 (PySem.W.boot_o_7 P) ::
 (PySem.W.boot_o_8 P) ::
 (PySem.W.boot_o_9 P) ::
 (PySem.W.boot_o_10 P) ::
 (⟨(.type "tuple"), none, (.seq #[] 0), #[]⟩) ::
 (⟨.none, none, (.fields #[]), #[]⟩) ::
 (⟨(.type "code"), none, (.fields #[(.str "<module>" 182), (.str "<module>" 183), (.str "/claim/cut.py" 184), (.int 1 0), (.int 0 0), (.int 0 0), (.int 0 0), (.int 0 0), (.ref 11), (.bool false), (.int 181 0), (.ref 12), .none, .none, .none, .none, (.int 185 0), (.int 1 0), (.str "/claim/cut.py" 186)]), #[]⟩) ::
 (⟨(.type "frame"), none, .plain, #[(some (.ref 13)), (some (.ref 3)), (some (.ref 3)), none, (some (.str "__main__" 164)), none, (some (.ref 0))]⟩) :: []
theorem z_hOth : K02.hOth = K02.hOth := rfl
name_quick K02_hOth for K02.hOth by K02.z_hOth
theorem z_hAo : K02.hAo = K02.hAo := rfl
name_quick K02_hAo for K02.hAo by K02.z_hAo
def hMrg : Nat → PySem.W.Frag → PySem.W.Frag → List Obj
  | 0, _, _ => []
  | n + 1, (a, o) :: r, (b, p) :: s => match Nat.blt a b with
    | true => o :: hMrg n r ((b, p) :: s)
    | false => p :: hMrg n ((a, o) :: r) s
  | n + 1, (_, o) :: r, [] => o :: hMrg n r []
  | n + 1, [], (_, p) :: s => p :: hMrg n [] s
  | _ + 1, [], [] => []
def hIns : List Obj → Nat → PySem.W.BT → PySem.W.BT
  | [], _, t => t
  | o :: r, n, t => hIns r (n + 1) (t.ins n o)
noncomputable def hTr (P : Params) : PySem.W.BT := hIns (hMrg 691 (PySem.W.Fast.K02_hK P) (PySem.W.Fast.K02_hOth P)) 0 .nil
noncomputable def hEnv : Env := { scope := PySem.W.Fast.K02_pw.main.scope, locals := mainNs, globals := mainNs, cells := [], code := (.ref 13), frame := some 14 }
noncomputable abbrev hCd : Code := Code.body (PySem.W.behindTheImports PySem.W.Fast.K02_pw) hEnv
noncomputable abbrev hSa (P : Params) (os : OsState) : PySem.W.SharedT := ⟨hIns (PySem.W.Fast.K02_hAo P) 0 .nil, 15, {}, Array.mk [], ⟨0, 0, 0, 0⟩, 187, os⟩
noncomputable abbrev hSm (P : Params) (os : OsState) : PySem.W.SharedT := ⟨hTr P, 691, {}, Array.mk [], ⟨0, 0, 0, 0⟩, 1115, os⟩
set_option maxRecDepth 100000 in
set_option maxHeartbeats 0 in
theorem hPre (w : World) (os : OsState) : PySem.W.topGo PySem.W.Fast.tw14364793385576792824 PySem.W.Fast.K02_pw w 11 (some (.ref 6)) 12 ⟨PySem.W.boot_heap w.params, Array.mk [], PySem.W.boot_drawn, PySem.W.boot_toks, os⟩ (PySem.W.topStub PySem.W.Fast.K02_pw) = some ((hSa w.params os).abs, ⟨denote PySem.W.Fast.tw14364793385576792824 hCd, hCd, ⟨0, 0, 0, 0⟩, [PySem.W.topFrame ⟨0, 0, 0, 0⟩]⟩) := by kernel_rfl
set_option maxRecDepth 100000 in
set_option maxHeartbeats 0 in
theorem hBlk (w : World) (os : OsState) : PySem.W.segRun PySem.W.Fast.tw14364793385576792824 PySem.W.Fast.K02_pw w 11 (some (.ref 6)) 1 1 (hSa w.params os).abs (PySem.W.blockOf (PySem.W.behindTheImports PySem.W.Fast.K02_pw) hEnv hCd ⟨0, 0, 0, 0⟩ [PySem.W.topFrame ⟨0, 0, 0, 0⟩]) = some (.next, (hSa w.params os).abs, hCd, ⟨0, 0, 0, 0⟩) := by kernel_rfl
noncomputable abbrev hH1 (P : Params) : Heap := PySem.W.absHeap (hTr P) 691 {}
set_option maxRecDepth 100000 in
set_option maxHeartbeats 0 in
theorem hAllq (w : World) (os : OsState) : PySem.W.Fast.tw10110043849684766642 PySem.W.Fast.tw14364793385576792824 PySem.W.Fast.K02_pw w 11 (some (.ref 6)) 1 4614 (hSa w.params os) ⟨(PySem.W.Fast.tw12563942051412417395 (PySem.W.behindTheImports PySem.W.Fast.K02_pw) hEnv).wrap PySem.W.doneF PySem.W.deadEnd id id, hCd, ⟨0, 0, 0, 0⟩, [PySem.W.topFrame ⟨0, 0, 0, 0⟩]⟩ = some (.next, hSm w.params os, hCd, ⟨329, 0, 339, 15⟩) := by kernel_rfl
set_option maxRecDepth 100000 in
set_option maxHeartbeats 0 in
theorem hFin (w : World) (os : OsState) : PySem.W.topRun PySem.W.Fast.tw14364793385576792824 PySem.W.Fast.K02_pw w 11 (some (.ref 6)) 2 (hSm w.params os).abs (PySem.W.restOf [] hEnv hCd ⟨329, 0, 339, 15⟩ [PySem.W.topFrame ⟨0, 0, 0, 0⟩]) = some ⟨hH1 w.params, Array.mk [], ⟨0, 0, 0, 0⟩, 1115, os⟩ := by kernel_rfl
theorem all_of {F F' : (String → Option Builtin) → Program → World → Nat → Option Value → Nat → Nat → PySem.W.SharedT → Thread → Option (Flow × PySem.W.SharedT × Code × Pos)} {G G' : List Stmt → Env → Sem Flow} {tb : String → Option Builtin} {p : Program} {w : World} {m n : Nat} {ann : Option Value} {S : PySem.W.SharedT} {l : List Stmt} {env : Env} {c : Code} {pos : Pos} {B : List Frame} {r : Option (Flow × PySem.W.SharedT × Code × Pos)}
    (h : F' tb p w m ann 1 n S ⟨(G' l env).wrap PySem.W.doneF PySem.W.deadEnd id id, c, pos, B⟩ = r) (eF : F = F') (eG : G = G') : F tb p w m ann 1 n S ⟨(G l env).wrap PySem.W.doneF PySem.W.deadEnd id id, c, pos, B⟩ = r := by
  subst eF eG; exact h
theorem run_chain {tb : String → Option Builtin} {p : Program} {w : World} {m n0 n1 n2 n3 : Nat} {ann : Option Value} {env : Env} {q : Pos} {b : List Stmt} {S0 Sa R : Shared} {SA SM : PySem.W.SharedT} {stub : Thread} {pos0 pos1 pos2 : Pos} (ea : SA.abs = Sa)
    (h1 : PySem.W.topGo tb p w m ann n0 S0 stub = some (Sa, ⟨denote tb (Code.body b env), Code.body b env, pos0, [PySem.W.topFrame q]⟩))
    (h2 : PySem.W.segRun tb p w m ann 1 n1 Sa (PySem.W.blockOf b env (Code.body b env) pos0 [PySem.W.topFrame q]) = some (.next, Sa, Code.body b env, pos1))
    (h3 : PySem.W.segRunT tb p w m ann 1 n2 SA (PySem.W.piecesOf b env (Code.body b env) pos1 [PySem.W.topFrame q]) = some (.next, SM, Code.body b env, pos2))
    (h4 : PySem.W.topRun tb p w m ann n3 SM.abs (PySem.W.restOf [] env (Code.body b env) pos2 [PySem.W.topFrame q]) = some R) : PySem.W.topRun tb p w m ann (n0 + (n1 + (n2 + n3))) S0 stub = some R := by
  subst ea
  refine PySem.W.go_top h1 (PySem.W.piece_block h2 ?_)
  have h := PySem.W.piece_app (rest := []) (PySem.W.segRun_of h3) h4
  rw [List.append_nil] at h
  exact h
set_option maxRecDepth 100000 in
set_option maxHeartbeats 0 in
theorem hRun (w : World) (os : OsState) : PySem.W.topRun PySem.W.Fast.tw14364793385576792824 PySem.W.Fast.K02_pw w 11 (some (.ref 6)) (12 + (1 + (4614 + 2))) ⟨PySem.W.boot_heap w.params, Array.mk [], PySem.W.boot_drawn, PySem.W.boot_toks, os⟩ (PySem.W.topStub PySem.W.Fast.K02_pw) = some ⟨hH1 w.params, Array.mk [], ⟨0, 0, 0, 0⟩, 1115, os⟩ :=
  run_chain rfl (hPre w os) (hBlk w os) (all_of (hAllq w os) PySem.W.Fast.te10110043849684766642 PySem.W.Fast.te12563942051412417395) (hFin w os)
abbrev hG {t : Type} (p q : Program) (lo : List Str) (lv : List (Str × PySem.W.WData)) (K : Params → PySem.W.Frag) (sn : Program → List Str → List Str → (Shared → Bool) → Bool → Shared → t) (gd : Program → List Str → t) (im : List Stmt → List Str) (w : World) : Prop :=
  (fun os : OsState => ((PySem.W.staticsOk (im p.main.body) (PySem.W.boot_heap w.params) (hH1 w.params) && PySem.W.namesBound p (hH1 w.params) && PySem.W.gensDone ⟨hH1 w.params, Array.mk [], ⟨0, 0, 0, 0⟩, 1115, os⟩ && PySem.W.laidKept (PySem.W.boot_heap w.params) (hH1 w.params)), sn q lo (im p.main.body) (hXt q lv) true ⟨hH1 w.params, Array.mk [], ⟨0, 0, 0, 0⟩, 1115, os⟩, hYf ⟨hH1 w.params, Array.mk [], ⟨0, 0, 0, 0⟩, 1115, os⟩)) = fun _ => (true, gd q lo, hYa K w)
theorem hG_of {t : Type} {p p' q q' : Program} {lo lo' : List Str} {lv lv' : List (Str × PySem.W.WData)} {K K' : Params → PySem.W.Frag} {sn sn' : Program → List Str → List Str → (Shared → Bool) → Bool → Shared → t} {gd : Program → List Str → t} {im im' : List Stmt → List Str} {w : World}
    (h : hG p' q' lo' lv' K' sn' gd im' w) (e2 : p = p') (e3 : q = q') (e4 : lo = lo') (e5 : lv = lv') (e6 : K = K') (e7 : sn = sn') (e8 : im = im') : hG p q lo lv K sn gd im w := by
  subst e2 e3 e4 e5 e6 e7 e8; exact h
set_option maxRecDepth 100000 in
set_option maxHeartbeats 0 in
theorem hLk (w : World) : hG PySem.W.Fast.K02_pw PySem.W.Fast.K02_hQ PySem.W.Fast.K02_hLo PySem.W.Fast.K02_hLv PySem.W.Fast.K02_hK PySem.W.Fast.tw4187177175401517315 PySem.W.openGood PySem.W.Fast.tw5923862056798008813 w := by kernel_rfl
theorem hR_of {tb tb' : String → Option Builtin} {p p' : Program} {M : Nat} {S R : World → OsState → Shared} (h : ∀ w os, PySem.W.topRun tb' p' w 11 (some (.ref 6)) M (S w os) (PySem.W.topStub p') = some (R w os)) (e1 : tb = tb') (e2 : p = p') : ∀ w os, PySem.W.topRun tb p w 11 (some (.ref 6)) M (S w os) (PySem.W.topStub p) = some (R w os) := by
  subst e1 e2; exact h
set_option maxRecDepth 100000 in
set_option maxHeartbeats 0 in
theorem hSz (w : World) : ((PySem.W.boot_heap w.params).isNs mainGlobals && (Array.mk [] : Array GenState).size == 0, (PySem.W.boot_heap w.params).objs.size, (PySem.W.boot_heap w.params).nsMap mainGlobals "__annotations__") = (true, 11, (some (.ref 6))) := by kernel_rfl
set_option maxRecDepth 100000 in
set_option maxHeartbeats 0 in
theorem hl : PySem.W.LeftO PySem.Challenge.pw_notefall_k02_rules hQ hLo (hXt hQ hLv) hYf (hYa hK) 9334 :=
  PySem.W.LeftO.of_pieces (H₁ := hH1) (gs₁ := Array.mk []) (d₁ := ⟨0, 0, 0, 0⟩) (k₁ := 1115) (PySem.W.boot_open (by kernel_rfl) (by decide +kernel) (fun s => by kernel_rfl)) hSz (hR_of (M := (12 + (1 + (4614 + 2)))) hRun PySem.W.Fast.te14364793385576792824 PySem.W.Fast.K02_pw_eq) (by decide +kernel)
    (fun w => hG_of (hLk w) PySem.W.Fast.K02_pw_eq PySem.W.Fast.K02_hQ_eq PySem.W.Fast.K02_hLo_eq PySem.W.Fast.K02_hLv_eq PySem.W.Fast.K02_hK_eq PySem.W.Fast.te4187177175401517315 PySem.W.Fast.te5923862056798008813)
end K02
open PySem PySem.W PyProof.Rows
set_option maxRecDepth 100000 in
set_option maxHeartbeats 0 in
theorem PySem.Challenge.cw_notefall_k02_rules_holds : PySem.Challenge.rw_notefall_k02_rules.Holds := by
  w_on; o_law
  refine holds_open (q := K02.hQ) (loose := K02.hLo) (Xt := K02.hXt K02.hQ K02.hLv) (XP := XL K02.hQ K02.hLv) (Yf := K02.hYf) (Ya := K02.hYa K02.hK) (YP := Hook.says (PySem.W.kHook K02.hK K02.hAs K02.hE)) (N := 9334) K02.hl (Hook.of (PySem.W.kHook K02.hK K02.hAs K02.hE)) (Hook.keeps (PySem.W.kHook K02.hK K02.hAs K02.hE)) (fun s e => xl_of s (Bool.and_eq_true_iff.mp e).1) XL.keeps (by rfl) (by rfl) (by rfl) (fun s e => recFacts_of (Bool.and_eq_true_iff.mp e).2) (by rfl) (by first | assumption | decide +kernel) (by decide +kernel) ⟨rfl, rfl, rfl, rfl, rfl, by decide +kernel⟩ ?hw ?hc
  case hw => w_witness2
  k_fill
  refine K02.walk (l := PySem.Challenge.rw_notefall_k02_rules) rfl rfl (fun w h Y => PySem.W.kIn_of Y) ?F
  case F =>
    intro w mg fa h KX G hmg
    refine' K02.all_mk KX G hmg ?na_Leaf_number ?na_Leaf_rows ?qa_Leaf ?qb_Leaf ?qc_Leaf ?qd_Leaf ?qm_Leaf ?qk_Leaf ?na_House_fresh ?na_House_kept ?na_House_rule ?na_House_top ?na_House_trail ?qa_House ?qb_House ?qc_House ?qd_House ?qm_House ?qk_House ?na_Store_house ?na_Store_last ?na_Store_rule ?na_Store_runs ?qa_Store ?qb_Store ?qc_Store ?qd_Store ?qm_Store ?qk_Store ?a1 ?l1 ?c1 ?k1 ?a2 ?l2 ?c2 ?k2 ?a3 ?l3 ?c3 ?k3 ?a4 ?l4 ?c4 ?k4 ?a5 ?l5 ?c5 ?k5 ?a6 ?l6 ?c6 ?k6 ?a7 ?l7 ?c7 ?k7 ?a8 ?l8 ?c8 ?k8 ?a9 ?l9 ?c9 ?k9 ?i10 ?l10 ?c10 ?k10 ?n10 ?i11 ?l11 ?c11 ?k11 ?n11 ?a12 ?l12 ?c12 ?k12 ?i13 ?l13 ?c13 ?k13 ?n13 ?a14 ?l14 ?c14 ?k14 ?wl14 ?wk14 ?wf14 ?a15 ?l15 ?c15 ?k15 ?a16 ?l16 ?c16 ?k16 ?a17 ?l17 ?c17 ?k17 ?a18 ?l18 ?c18 ?k18 ?bk18 ?i19 ?l19 ?c19 ?k19 ?n19 ?i20 ?l20 ?c20 ?k20 ?n20 ?ld20 ?bd20 ?i21 ?l21 ?c21 ?k21 ?n21 ?a22 ?l22 ?c22 ?k22 ?i23 ?l23 ?c23 ?k23 ?n23 ?a24 ?l24 ?c24 ?k24 ?a25 ?l25 ?c25 ?k25 ?a26 ?l26 ?c26 ?k26 ?a27 ?l27 ?c27 ?k27 ?a28 ?l28 ?c28 ?k28 ?a29 ?l29 ?c29 ?k29 ?a30 ?l30 ?c30 ?k30 ?a31 ?l31 ?c31 ?k31 ?a32 ?l32 ?c32 ?k32 ?a33 ?l33 ?c33 ?k33 ?z_len ?z_isinstance ?z_int ?z_bool ?z_str ?z_tuple ?z_list ?z_range ?z_max ?z_min ?z_sorted ?z_END ?z_MOST_TRAY ?z_LEAST_FAN ?z_MOST_FAN ?z_MOST_ROWS ?z_PLANS ?z_FallError ?z_NoRule ?z_Leaf ?z_House ?z_Store ?z_kP ?z_kL ?z_clL ?z_gt ?z_tk ?z_moL ?z_xN ?z_gaN ?z_ghN ?z_clN ?z_moN ?z_mbN ?z_isN ?z_mN ?z_kN0
    (case z_END => k_is)
    (case z_MOST_TRAY => k_is)
    (case z_LEAST_FAN => k_is)
    (case z_MOST_FAN => k_is)
    (case z_MOST_ROWS => k_is)
    (case z_PLANS => k_is)
    (case z_FallError => k_is)
    (case z_NoRule => k_is)
    (case z_Leaf => k_is)
    (case z_House => k_is)
    (case z_Store => k_is)
    (case na_Leaf_number => k_is)
    (case na_Leaf_rows => k_is)
    (case qa_Leaf => k_is)
    (case qb_Leaf => k_is)
    (case qc_Leaf => k_is)
    (case qd_Leaf => k_is)
    (case qm_Leaf => k_is)
    (case qk_Leaf => k_is)
    (case na_House_fresh => k_is)
    (case na_House_kept => k_is)
    (case na_House_rule => k_is)
    (case na_House_top => k_is)
    (case na_House_trail => k_is)
    (case qa_House => k_is)
    (case qb_House => k_is)
    (case qc_House => k_is)
    (case qd_House => k_is)
    (case qm_House => k_is)
    (case qk_House => k_is)
    (case na_Store_house => k_is)
    (case na_Store_last => k_is)
    (case na_Store_rule => k_is)
    (case na_Store_runs => k_is)
    (case qa_Store => k_is)
    (case qb_Store => k_is)
    (case qc_Store => k_is)
    (case qd_Store => k_is)
    (case qm_Store => k_is)
    (case qk_Store => k_is)
    (case a1 => k_is)
    (case l1 => k_is)
    (case c1 => k_is)
    (case k1 => k_is)
    (case a2 => k_is)
    (case l2 => k_is)
    (case c2 => k_is)
    (case k2 => k_is)
    (case a3 => k_is)
    (case l3 => k_is)
    (case c3 => k_is)
    (case k3 => k_is)
    (case a4 => k_is)
    (case l4 => k_is)
    (case c4 => k_is)
    (case k4 => k_is)
    (case a5 => k_is)
    (case l5 => k_is)
    (case c5 => k_is)
    (case k5 => k_is)
    (case a6 => k_is)
    (case l6 => k_is)
    (case c6 => k_is)
    (case k6 => k_is)
    (case a7 => k_is)
    (case l7 => k_is)
    (case c7 => k_is)
    (case k7 => k_is)
    (case a8 => k_is)
    (case l8 => k_is)
    (case c8 => k_is)
    (case k8 => k_is)
    (case a9 => k_is)
    (case l9 => k_is)
    (case c9 => k_is)
    (case k9 => k_is)
    (case i10 => k_is)
    (case l10 => k_is)
    (case c10 => k_is)
    (case k10 => k_is)
    (case n10 => k_is)
    (case i11 => k_is)
    (case l11 => k_is)
    (case c11 => k_is)
    (case k11 => k_is)
    (case n11 => k_is)
    (case a12 => k_is)
    (case l12 => k_is)
    (case c12 => k_is)
    (case k12 => k_is)
    (case i13 => k_is)
    (case l13 => k_is)
    (case c13 => k_is)
    (case k13 => k_is)
    (case n13 => k_is)
    (case a14 => k_is)
    (case l14 => k_is)
    (case c14 => k_is)
    (case k14 => k_is)
    (case wl14 => k_is)
    (case wk14 => first | k_is | rfl | decide +kernel)
    (case wf14 => first | k_is | rfl | decide +kernel)
    (case a15 => k_is)
    (case l15 => k_is)
    (case c15 => k_is)
    (case k15 => k_is)
    (case a16 => k_is)
    (case l16 => k_is)
    (case c16 => k_is)
    (case k16 => k_is)
    (case a17 => k_is)
    (case l17 => k_is)
    (case c17 => k_is)
    (case k17 => k_is)
    (case a18 => k_is)
    (case l18 => k_is)
    (case c18 => k_is)
    (case k18 => k_is)
    (case bk18 => intros; kernel_rfl)
    (case i19 => k_is)
    (case l19 => k_is)
    (case c19 => k_is)
    (case k19 => k_is)
    (case n19 => k_is)
    (case i20 => k_is)
    (case l20 => k_is)
    (case c20 => k_is)
    (case k20 => k_is)
    (case n20 => k_is)
    (case ld20 => k_is)
    (case bd20 => intros; kernel_rfl)
    (case i21 => k_is)
    (case l21 => k_is)
    (case c21 => k_is)
    (case k21 => k_is)
    (case n21 => k_is)
    (case a22 => k_is)
    (case l22 => k_is)
    (case c22 => k_is)
    (case k22 => k_is)
    (case i23 => k_is)
    (case l23 => k_is)
    (case c23 => k_is)
    (case k23 => k_is)
    (case n23 => k_is)
    (case a24 => k_is)
    (case l24 => k_is)
    (case c24 => k_is)
    (case k24 => k_is)
    (case a25 => k_is)
    (case l25 => k_is)
    (case c25 => k_is)
    (case k25 => k_is)
    (case a26 => k_is)
    (case l26 => k_is)
    (case c26 => k_is)
    (case k26 => k_is)
    (case a27 => k_is)
    (case l27 => k_is)
    (case c27 => k_is)
    (case k27 => k_is)
    (case a28 => k_is)
    (case l28 => k_is)
    (case c28 => k_is)
    (case k28 => k_is)
    (case a29 => k_is)
    (case l29 => k_is)
    (case c29 => k_is)
    (case k29 => k_is)
    (case a30 => k_is)
    (case l30 => k_is)
    (case c30 => k_is)
    (case k30 => k_is)
    (case a31 => k_is)
    (case l31 => k_is)
    (case c31 => k_is)
    (case k31 => k_is)
    (case a32 => k_is)
    (case l32 => k_is)
    (case c32 => k_is)
    (case k32 => k_is)
    (case a33 => k_is)
    (case l33 => k_is)
    (case c33 => k_is)
    (case k33 => k_is)
    (case z_len => k_is)
    (case z_isinstance => k_is)
    (case z_int => k_is)
    (case z_bool => k_is)
    (case z_str => k_is)
    (case z_tuple => k_is)
    (case z_list => k_is)
    (case z_range => k_is)
    (case z_max => k_is)
    (case z_min => k_is)
    (case z_sorted => k_is)
    (case z_kP => k_is)
    (case z_kL => kit_is)
    (case z_clL => k_is)
    (case z_gt => k_is)
    (case z_tk => k_is)
    (case z_moL => k_is)
    (case z_xN => k_exc)
    (case z_gaN => k_is)
    (case z_ghN => k_is)
    (case z_clN => k_is)
    (case z_moN => k_is)
    (case z_mbN => k_is)
    (case z_isN => k_is)
    (case z_mN => kts_exm)
    (case z_kN0 => kit_is)
