import PyProof.Rows.All
import Wide.All
import OpenK.AllK
import Wide.FinOn
import Lean
import PyProof.EqAt
import PyProof.EqKinds
import PyProof.TupleCall
import PySem.Challenge.RW_notefall_k13_words_read
set_option Elab.async false
set_option linter.all false
set_option maxRecDepth 100000
namespace L2
open PySem PySem.Spec PyProof.Rows
abbrev Key := Sum Int Str
def keyIs : Key → Value → Bool
  | .inl k, v => Value.isInt k v
  | .inr x, v => Value.isStrOf x v
def keyH (w : World) : Key → Int
  | .inl k => hashInt k
  | .inr x => hashStr w x
theorem keyIs_shape : ∀ {k : Key} {v : Value}, keyIs k v = true → (∃ i t, k = Sum.inl i ∧ v = Value.int i t) ∨ (∃ x t, k = Sum.inr x ∧ v = Value.str x t)
  | .inl i, v, h => by
    obtain ⟨t, e⟩ := Value.isInt_shape (k := i) (v := v) h
    exact .inl ⟨i, t, rfl, e⟩
  | .inr x, v, h => by
    obtain ⟨t, e⟩ := Value.isStrOf_shape (x := x) (v := v) h
    exact .inr ⟨x, t, rfl, e⟩
theorem keyIs_int (i : Int) (t : Tok) : keyIs (.inl i) (.int i t) = true := by simp [keyIs, Value.isInt]
theorem keyIs_str (x : Str) (t : Tok) : keyIs (.inr x) (.str x t) = true := by simp [keyIs, Value.isStrOf]
theorem key_ll (a b : Int) : decide ((Sum.inl a : Key) = Sum.inl b) = (a == b) := by
  by_cases e : a = b
  · subst e; simp
  · have h : ¬ (Sum.inl a : Key) = Sum.inl b := fun q => e (Sum.inl.inj q)
    rw [decide_eq_false h]
    exact (beq_eq_false_iff_ne.mpr e).symm
theorem key_rr (a b : Str) : decide ((Sum.inr a : Key) = Sum.inr b) = decide (a = b) := by
  by_cases e : a = b
  · subst e; simp
  · have h : ¬ (Sum.inr a : Key) = Sum.inr b := fun q => e (Sum.inr.inj q)
    rw [decide_eq_false h, decide_eq_false e]
theorem key_lr (a : Int) (b : Str) : decide ((Sum.inl a : Key) = Sum.inr b) = false := decide_eq_false (fun q => nomatch q)
theorem key_rl (a : Str) (b : Int) : decide ((Sum.inr a : Key) = Sum.inl b) = false := decide_eq_false (fun q => nomatch q)
def mixKind (prog : Program) (w : World) : PySem.KeyKind prog w Key where
  is := keyIs
  hash := keyH w
  inj := fun v a b ha hb => by
    rcases keyIs_shape ha with ⟨i, t, rfl, rfl⟩ | ⟨x, t, rfl, rfl⟩
    · rcases keyIs_shape hb with ⟨j, u, rfl, e⟩ | ⟨y, u, rfl, e⟩
      · injection e with e1 _; rw [e1]
      · exact nomatch e
    · rcases keyIs_shape hb with ⟨j, u, rfl, e⟩ | ⟨y, u, rfl, e⟩
      · exact nomatch e
      · injection e with e1 _; rw [e1]
  byValue := fun k v h => by
    rcases keyIs_shape h with ⟨i, t, rfl, rfl⟩ | ⟨x, t, rfl, rfl⟩ <;> rfl
  pyHash := fun hv h => by
    rcases keyIs_shape hv with ⟨i, t, rfl, rfl⟩ | ⟨x, t, rfl, rfl⟩
    · exact wpAny_pyHash_int h
    · exact wpAny_pyHash_str h
  eqBool := fun hu hv h => by
    rcases keyIs_shape hu with ⟨i, t, rfl, rfl⟩ | ⟨x, t, rfl, rfl⟩
    · rcases keyIs_shape hv with ⟨j, u, rfl, rfl⟩ | ⟨y, u, rfl, rfl⟩
      · rw [key_ll] at h; exact wpAny_eqBool_int h
      · rw [key_lr] at h; exact SeqAt.EqAt.int_str i t y u _ _ _ _ h
    · rcases keyIs_shape hv with ⟨j, u, rfl, rfl⟩ | ⟨y, u, rfl, rfl⟩
      · rw [key_rl] at h; exact SeqAt.EqAt.str_int x t j u _ _ _ _ h
      · rw [key_rr] at h; exact wpAny_eqBool_str h
  «strs» := fun k x t v h => by
    rcases keyIs_shape h with ⟨i, u, rfl, e⟩ | ⟨y, u, rfl, e⟩
    · exact nomatch e
    · injection e with e1 _
      subst e1
      cases v <;> rfl
theorem mixKind_int (prog : Program) (w : World) (i : Int) (t : Tok) : (mixKind prog w).is (.inl i) (.int i t) = true := keyIs_int i t
theorem mixKind_str (prog : Program) (w : World) (x : Str) (t : Tok) : (mixKind prog w).is (.inr x) (.str x t) = true := keyIs_str x t
end L2
namespace L2
open PySem PySem.Spec PyProof.Rows
inductive V where
  | non | bl (b : Bool) | int (i : Int) | str (x : Str) | byt (b : Array UInt8) | flt (b : UInt64) | ref (a : Addr) | ty (n : String)
  deriving DecidableEq
def RelV : V → Value → Prop
  | .non, u => u = Value.none
  | .bl b, u => u = Value.bool b
  | .int i, u => ∃ t, u = Value.int i t
  | .str x, u => ∃ t, u = Value.str x t
  | .byt b, u => ∃ t, u = Value.bytes b t
  | .flt b, u => ∃ t, u = Value.float b t
  | .ref a, u => u = Value.ref a
  | .ty n, u => u = Value.type n
abbrev Vals : List V → List Value → Prop := Paired RelV
theorem Vals.length {xs : List V} {us : List Value} (r : Vals xs us) : xs.length = us.length := Paired.length r
theorem Vals.get : ∀ {xs : List V} {us : List Value} {i : Nat} {x : V}, Vals xs us → xs[i]? = some x → ∃ u, us[i]? = some u ∧ RelV x u
  | _, _, _, _, .nil, e => by simp at e
  | _, _, 0, _, .cons r _, e => by simp at e; subst e; exact ⟨_, rfl, r⟩
  | _, _, i + 1, x, .cons _ t, e => by
    obtain ⟨u, h1, h2⟩ := Vals.get (i := i) (x := x) t (by simpa using e)
    exact ⟨u, by simpa using h1, h2⟩
theorem Vals.set {x : V} {u : Value} (r : RelV x u) : ∀ {xs : List V} {us : List Value} (i : Nat), Vals xs us → Vals (xs.set i x) (us.set i u)
  | _, _, _, .nil => .nil
  | _, _, 0, .cons _ t => .cons r t
  | _, _, i + 1, .cons q t => .cons q (Vals.set r i t)
theorem Vals.append : ∀ {xs ys : List V} {us ws : List Value}, Vals xs us → Vals ys ws → Vals (xs ++ ys) (us ++ ws)
  | _, _, _, _, .nil, s => s
  | _, _, _, _, .cons r t, s => .cons r (Vals.append t s)
theorem Vals.take : ∀ {xs : List V} {us : List Value} (n : Nat), Vals xs us → Vals (xs.take n) (us.take n)
  | _, _, 0, _ => .nil
  | _, _, _ + 1, .nil => .nil
  | _, _, n + 1, .cons r t => .cons r (Vals.take n t)
theorem Vals.drop : ∀ {xs : List V} {us : List Value} (n : Nat), Vals xs us → Vals (xs.drop n) (us.drop n)
  | _, _, 0, r => r
  | _, _, _ + 1, .nil => .nil
  | _, _, n + 1, .cons _ t => Vals.drop n t
theorem Vals.none_of : ∀ {xs : List V} {us : List Value} {i : Nat}, Vals xs us → xs[i]? = none → us[i]? = none := fun {xs us i} r e => by
  have h1 := r.length
  have h2 : xs.length ≤ i := List.getElem?_eq_none_iff.mp e
  exact List.getElem?_eq_none_iff.mpr (by omega)
def RelO : Option V → Option Value → Prop
  | some v, some u => RelV v u
  | none, none => True
  | _, _ => False
def KV {κ : Type} : List (κ × V) → List (κ × Value) → Prop := Paired fun (p : κ × V) (q : κ × Value) => p.1 = q.1 ∧ RelV p.2 q.2
def kV : Key → V
  | .inl i => .int i
  | .inr x => .str x
inductive HO where
  | lst (xs : List V)
  | tup (xs : List V)
  | dK (kvs : List (Key × V)) | dT (kvs : List (List Key × V))
  | set (S : Int → Bool) (n : Nat)
  | ins (C dx : Addr) (fs : List (Str × V))
  | own (x : Addr)
  | xd (fs : List (Str × V))
  | met (f x : Addr)
  | rng (lo hi : Int)
  | frz (o : Obj) (u : HO)
  | tbl (ps : Array Value)
  | ext (φ : Heap → Prop)
abbrev Hp := Addr → Option HO
def upd (H : Hp) (a : Addr) (o : HO) : Hp := fun b => if b = a then some o else H b
theorem upd_same {H : Hp} {a : Addr} {o : HO} : upd H a o a = some o := by unfold upd; rw [if_pos rfl]
theorem upd_ne {H : Hp} {a b : Addr} {o : HO} (h : b ≠ a) : upd H a o b = H b := by unfold upd; rw [if_neg h]
theorem upd_upd {H : Hp} {a : Addr} {o u : HO} : upd (upd H a o) a u = upd H a u := by
  funext b; unfold upd; split <;> rfl
theorem ne_of {H : Hp} {a b : Addr} {o u : HO} (h : H a = some o) (h' : H b = some u) (d : o ≠ u) : a ≠ b := by
  intro e; subst e; rw [h] at h'; exact d (Option.some.inj h')
theorem ne_of_none {H : Hp} {a b : Addr} {o : HO} (h : H a = some o) (h' : H b = none) : a ≠ b := by
  intro e; subst e; rw [h] at h'; cases h'
section
variable (P : Program) (w : World)
def ObjOk (H : Hp) (h : Heap) (a : Addr) : HO → Prop
  | .lst xs => xs.length ≤ sizeLine ∧ ∃ (its : List Value) (n : Nat), Vals xs its ∧ h.get? a = some { cls := .type "list", data := .seq its.toArray n }
  | .tup xs => xs.length ≤ sizeLine ∧ ∃ its : List Value, Vals xs its ∧ IsTup h a its.toArray
  | .dK kvs => kvs.length ≤ sizeLine ∧ (a == sysModules) = false ∧ ∃ vs, KV kvs vs ∧ h.DictOf (mixKind P w) a vs
  | .dT kvs => kvs.length ≤ sizeLine ∧ (a == sysModules) = false ∧ ∃ xs : List (List Key × Addr × Value),
      Paired (fun (p : List Key × V) (q : List Key × Addr × Value) => p.1 = q.1 ∧ H q.2.1 = some (.tup (p.1.map kV)) ∧ RelV p.2 q.2.2) kvs xs ∧
      ∃ o es ep, h.get? a = some o ∧ o.ExactDict ∧ o.data = .dict es ep ∧ es.toList = xs.map (entryOfKey (tupleKind (mixKind P w))) ∧ (xs.map (·.1)).Nodup
  | .set S n => h.SetOf (intKind P w) a S n
  | .ins C dx fs => H dx = some (.own a) ∧ fs.length ≤ 1000 ∧ dx ≠ a ∧ h.get? a = some (PySem.W.instObj C dx) ∧
      ∃ mA, h.Ns1 dx mA ∧ (∀ f, RelO (fs.lookup f) (mA f)) ∧ PySem.Within mA (fs.map (·.1))
  | .own _ => ∃ o, h.get? a = some o
  | .xd fs => ∃ mA, h.Ns1 a mA ∧ ∀ f, RelO (fs.lookup f) (mA f)
  | .rng lo hi => ∃ t u v, h.get? a = some { cls := .type "range", data := .fields #[.int lo t, .int hi u, .int 1 v] }
  | .frz o u => h.get? a = some o ∧ ObjOk H h a u
  | .tbl ps => h.get? a = some { cls := .none, data := .fields ps }
  | .met f x => h.get? a = some (PySem.W.methodObj (.ref f) (.ref x))
  | .ext φ => φ h ∧ (∃ o, h.get? a = some o) ∧ ∀ h1 h2 : Heap, φ h1 → (∀ o, h1.get? a = some o → h2.get? a = some o) → φ h2
def HOk (H : Hp) (h : Heap) : Prop := ∀ a o, H a = some o → ObjOk P w H h a o
end
section
variable {P : Program} {w : World} {H H' : Hp} {h h' : Heap} {a : Addr} {o : HO}
theorem ObjOk.lt (x : ObjOk P w H h a o) : a < h.objs.size := by
  cases o with
  | lst xs => obtain ⟨_, _, _, _, e⟩ := x; exact Heap.lt_size e
  | tup xs => obtain ⟨_, _, _, p⟩ := x; exact p.lt
  | dK kvs => obtain ⟨_, _, _, _, o, _, _, e, _⟩ := x; exact Heap.lt_size e
  | dT kvs => obtain ⟨_, _, _, _, o, _, _, e, _⟩ := x; exact Heap.lt_size e
  | set S n => obtain ⟨o, _, _, _, e, _⟩ := x; exact Heap.lt_size e
  | ins C dx fs => obtain ⟨_, _, _, e, _⟩ := x; exact Heap.lt_size e
  | own y => obtain ⟨_, e⟩ := x; exact Heap.lt_size e
  | xd fs => obtain ⟨_, ⟨_, _, _, e, _⟩, _⟩ := x; exact Heap.lt_size e
  | rng lo hi => obtain ⟨_, _, _, e⟩ := x; exact Heap.lt_size e
  | frz ob u => obtain ⟨e, _⟩ := x; exact Heap.lt_size e
  | tbl ps => exact Heap.lt_size (show h.get? a = some _ from x)
  | met f y => exact Heap.lt_size (show h.get? a = some _ from x)
  | ext φ => obtain ⟨_, ⟨_, e⟩, _⟩ := x; exact Heap.lt_size e
theorem Paired.mapP {α β : Type} {F G : α → β → Prop} : ∀ {l₁ : List α} {l₂ : List β}, Paired F l₁ l₂ → (∀ a b, F a b → G a b) → Paired G l₁ l₂
  | _, _, .nil, _ => .nil
  | _, _, .cons r t, f => .cons (f _ _ r) (Paired.mapP t f)
theorem ObjOk.stay (x : ObjOk P w H h a o) (k : ∀ b u, (b = a ∨ H b = some (.own a)) → h.get? b = some u → h'.get? b = some u)
    (ho : ∀ b, H b = some (.own a) → H' b = some (.own a)) (ht : ∀ b xs, H b = some (.tup xs) → H' b = some (.tup xs)) : ObjOk P w H' h' a o := by
  induction o with
  | lst xs => obtain ⟨z, its, n, r, e⟩ := x; exact ⟨z, its, n, r, k _ _ (.inl rfl) e⟩
  | tup xs => obtain ⟨z, its, r, ob, e, c⟩ := x; exact ⟨z, its, r, ob, k _ _ (.inl rfl) e, c⟩
  | dK kvs => obtain ⟨z, y, vs, r, ob, es, ep, e, c⟩ := x; exact ⟨z, y, vs, r, ob, es, ep, k _ _ (.inl rfl) e, c⟩
  | dT kvs =>
    obtain ⟨z, y, xs, r, ob, es, ep, e, c⟩ := x
    exact ⟨z, y, xs, Paired.mapP r fun p q z => ⟨z.1, ht _ _ z.2.1, z.2.2⟩, ob, es, ep, k _ _ (.inl rfl) e, c⟩
  | set S n => obtain ⟨ob, es, ep, t, e, c⟩ := x; exact ⟨ob, es, ep, t, k _ _ (.inl rfl) e, c⟩
  | ins C dx fs =>
    obtain ⟨d, z, ne, e, mA, ⟨od, es, ep, e2, c⟩, r⟩ := x
    exact ⟨ho _ d, z, ne, k _ _ (.inl rfl) e, mA, ⟨od, es, ep, k _ _ (.inr d) e2, c⟩, r⟩
  | own y => obtain ⟨ob, e⟩ := x; exact ⟨ob, k _ _ (.inl rfl) e⟩
  | xd fs => obtain ⟨mA, ⟨od, es, ep, e, c⟩, r⟩ := x; exact ⟨mA, ⟨od, es, ep, k _ _ (.inl rfl) e, c⟩, r⟩
  | rng lo hi => obtain ⟨t, u, v, e⟩ := x; exact ⟨t, u, v, k _ _ (.inl rfl) e⟩
  | frz ob u ih => obtain ⟨e, q⟩ := x; exact ⟨k _ _ (.inl rfl) e, ih q⟩
  | tbl ps =>
    have e : h.get? a = some { cls := .none, data := .fields ps } := x
    show h'.get? a = some { cls := .none, data := .fields ps }
    exact k a _ (.inl rfl) e
  | met f y =>
    have e : h.get? a = some (PySem.W.methodObj (.ref f) (.ref y)) := x
    show h'.get? a = some (PySem.W.methodObj (.ref f) (.ref y))
    exact k a _ (.inl rfl) e
  | ext φ => obtain ⟨p, ⟨o, e⟩, st⟩ := x; exact ⟨st _ _ p fun o q => k _ _ (.inl rfl) q, ⟨o, k _ _ (.inl rfl) e⟩, st⟩
theorem HOk.lt (x : HOk P w H h) (e : H a = some o) : a < h.objs.size := (x a o e).lt
theorem HOk.fresh (x : HOk P w H h) (e : h.objs.size ≤ a) : H a = none := by
  cases q : H a with
  | none => rfl
  | some u => exact absurd (Nat.lt_of_lt_of_le (x.lt q) e) (Nat.lt_irrefl _)
theorem HOk.kept (x : HOk P w H h) (k : ∀ b u, h.get? b = some u → h'.get? b = some u) : HOk P w H h' := fun a o e =>
  (x a o e).stay (fun b u _ q => k b u q) (fun _ q => q) fun _ _ q => q
theorem HOk.laid (x : HOk P w H h) (k : ∀ b u, h.get? b = some u → h'.get? b = some u) (hp : h.objs.size ≤ a) (new : ObjOk P w (upd H a o) h' a o) : HOk P w (upd H a o) h' := fun b u e => by
  have hn := x.fresh hp
  by_cases hb : b = a
  · subst hb; rw [upd_same] at e; cases e; exact new
  · rw [upd_ne hb] at e
    exact (x b u e).stay (fun c v _ q => k c v q) (fun c q => by rw [upd_ne (ne_of_none q hn)]; exact q) fun c xs q => by rw [upd_ne (ne_of_none q hn)]; exact q
end
def Rd (H : Hp) (a : Addr) (u : HO) : Prop := H a = some u ∨ ∃ o, H a = some (.frz o u)
theorem Rd.of {H : Hp} {a : Addr} {u : HO} (h : H a = some u) : Rd H a u := .inl h
theorem Rd.ok {P : Program} {w : World} {H : Hp} {h : Heap} {a : Addr} {u : HO} (r : Rd H a u) (x : HOk P w H h) : ObjOk P w H h a u := by
  rcases r with r | ⟨o, r⟩
  · exact x a u r
  · obtain ⟨_, q⟩ := x a _ r
    exact q
def Mut : Option HO → Prop
  | some (.lst _) => True
  | some (.dK _) => True
  | some (.dT _) => True
  | some (.set _ _) => True
  | some (.ins _ _ _) => True
  | some (.ext _) => True
  | _ => False
section
variable {P : Program} {w : World} {H : Hp} {h h' : Heap} {x e : Addr} {o' : HO}
theorem HOk.write (ok : HOk P w H h) (mu : Mut (H x)) (he : e = x ∨ H e = some (.own x)) (k : ∀ b u, b ≠ e → h.get? b = some u → h'.get? b = some u) (heo : ∃ u, h'.get? e = some u)
    (new : ObjOk P w (upd H x o') h' x o') : HOk P w (upd H x o') h' := fun b u q => by
  have nown : ∀ c y, H c = some (.own y) → c ≠ x := fun c y r z => by subst z; rw [r] at mu; exact mu
  have ntup : ∀ c xs, H c = some (.tup xs) → c ≠ x := fun c xs r z => by subst z; rw [r] at mu; exact mu
  by_cases hb : b = x
  · subst hb; rw [upd_same] at q; cases q; exact new
  · rw [upd_ne hb] at q
    by_cases hbe : b = e
    · have q' : H b = some (.own x) := by
        rcases he with z | z
        · exact absurd (hbe.trans z) hb
        · rw [hbe]; exact z
      rw [q] at q'; cases q'
      obtain ⟨v, hv⟩ := heo
      exact ⟨v, by rw [hbe]; exact hv⟩
    · refine (ok b u q).stay (fun c v hc r => k c v ?_ r) (fun c r => by rw [upd_ne (nown c b r)]; exact r) fun c xs r => by rw [upd_ne (ntup c xs r)]; exact r
      rcases hc with rfl | hc
      · exact hbe
      · rintro rfl
        rcases he with z | z
        · exact nown c b hc z
        · rw [hc] at z; cases z; exact hb rfl
end
structure Un (fs ex : List Addr) (H H' : Hp) (h h' : Heap) : Prop where
  keep : ∀ b o, h.get? b = some o → H b = none → b ∉ fs → b ∉ ex → h'.get? b = some o
  slot : ∀ b o, h.get? b = some o → H b = none → b ∈ fs → b ∉ ex → ∃ sl, h'.get? b = some { o with slots := sl }
  free : ∀ b o, h.get? b = some o → H b = none → b ∉ ex → H' b = none
  there : ∀ b o, h.get? b = some o → b ∉ ex → ∃ o', h'.get? b = some o'
  tups : ∀ b xs, H b = some (.tup xs) → H' b = some (.tup xs)
  frzs : ∀ b o u, H b = some (.frz o u) → H' b = some (.frz o u)
  tbls : ∀ b ps, H b = some (.tbl ps) → ∃ more, H' b = some (.tbl (ps ++ more))
section
variable {fs fs' ex ex' : List Addr} {H H1 H2 : Hp} {h h1 h2 h' : Heap} {a x e : Addr} {o : HO}
theorem Un.any (u : Un fs ex H H1 h h1) {b : Addr} {ob : Obj} (q : h.get? b = some ob) (n : H b = none) (hx : b ∉ ex) : ∃ sl, h1.get? b = some { ob with slots := sl } := by
  by_cases hb : b ∈ fs
  · exact u.slot b ob q n hb hx
  · exact ⟨ob.slots, u.keep b ob q n hb hx⟩
theorem Un.trans (a : Un fs ex H H1 h h1) (b : Un fs ex H1 H2 h1 h2) : Un fs ex H H2 h h2 where
  keep := fun c ob q n hc hx => b.keep c ob (a.keep c ob q n hc hx) (a.free c ob q n hx) hc hx
  slot := fun c ob q n hc hx => by
    obtain ⟨sl, e1⟩ := a.slot c ob q n hc hx
    obtain ⟨sl', e2⟩ := b.slot c _ e1 (a.free c ob q n hx) hc hx
    exact ⟨sl', e2⟩
  free := fun c ob q n hx => by
    obtain ⟨o', e1⟩ := a.there c ob q hx
    exact b.free c o' e1 (a.free c ob q n hx) hx
  there := fun c ob q hx => by
    obtain ⟨o', e1⟩ := a.there c ob q hx
    exact b.there c o' e1 hx
  tups := fun c xs q => b.tups c xs (a.tups c xs q)
  frzs := fun c ob xs q => b.frzs c ob xs (a.frzs c ob xs q)
  tbls := fun c ps q => by
    obtain ⟨m1, e1⟩ := a.tbls c ps q
    obtain ⟨m2, e2⟩ := b.tbls c _ e1
    exact ⟨m1 ++ m2, by rw [e2, Array.append_assoc]⟩
theorem Un.kept (k : ∀ b u, h.get? b = some u → h'.get? b = some u) : Un fs ex H H h h' :=
  ⟨fun b ob q _ _ _ => k b ob q, fun b ob q _ _ _ => ⟨ob.slots, k b ob q⟩, fun _ _ _ n _ => n, fun b ob q _ => ⟨ob, k b ob q⟩, fun _ _ q => q, fun _ _ _ q => q, fun _ ps q => ⟨#[], by rw [q]; simp⟩⟩
theorem Un.refl : Un fs ex H H h h := Un.kept fun _ _ q => q
theorem Un.laid (k : ∀ b u, h.get? b = some u → h'.get? b = some u) (hp : h.objs.size ≤ a) (hn : H a = none) : Un fs ex H (upd H a o) h h' where
  keep := fun b u q _ _ _ => k b u q
  slot := fun b u q _ _ _ => ⟨u.slots, k b u q⟩
  free := fun b u q n _ => by rw [upd_ne (Nat.ne_of_lt (Nat.lt_of_lt_of_le (Heap.lt_size q) hp))]; exact n
  there := fun b u q _ => ⟨u, k b u q⟩
  tups := fun b xs q => by rw [upd_ne (ne_of_none q hn)]; exact q
  frzs := fun b u xs q => by rw [upd_ne (ne_of_none q hn)]; exact q
  tbls := fun b ps q => ⟨#[], by rw [upd_ne (ne_of_none q hn), q]; simp⟩
theorem Un.write (mu : Mut (H x)) (he : e = x ∨ H e = some (.own x)) (k : ∀ b u, b ≠ e → h.get? b = some u → h'.get? b = some u) (heo : ∃ u, h'.get? e = some u) : Un fs ex H (upd H x o) h h' := by
  have hx : ∀ b, H b = none → b ≠ x := fun b n z => by subst z; rw [n] at mu; exact mu
  have hb : ∀ b, H b = none → b ≠ e := fun b n z => by
    subst z
    rcases he with r | r
    · exact hx b n r
    · rw [n] at r; cases r
  have hm : ∀ b u, H b = some u → ¬ Mut (some u) → b ≠ x := fun b u q nm z => by subst z; rw [q] at mu; exact nm mu
  refine ⟨fun b u q n _ _ => k b u (hb b n) q, fun b u q n _ _ => ⟨u.slots, k b u (hb b n) q⟩, fun b u q n _ => by rw [upd_ne (hx b n)]; exact n, fun b u q _ => ?_,
    fun b xs q => by rw [upd_ne (hm b _ q fun z => z)]; exact q, fun b u xs q => by rw [upd_ne (hm b _ q fun z => z)]; exact q, fun b ps q => ⟨#[], by rw [upd_ne (hm b _ q fun z => z), q]; simp⟩⟩
  by_cases hbe : b = e
  · subst hbe; exact heo
  · exact ⟨u, k b u hbe q⟩
theorem Un.mono (u : Un fs ex H H1 h h1) (hs : ∀ b ∈ fs, b ∈ fs') (hx : ∀ b ∈ ex, b ∈ ex') : Un fs' ex' H H1 h h1 :=
  ⟨fun b ob q n hb he => u.keep b ob q n (fun z => hb (hs b z)) fun z => he (hx b z), fun _ _ q n _ he => u.any q n fun z => he (hx _ z), fun b ob q n he => u.free b ob q n fun z => he (hx b z), fun b ob q he => u.there b ob q fun z => he (hx b z), u.tups, u.frzs, u.tbls⟩
end
def trk (h : Heap) (H : Hp) : List Addr := (List.range h.objs.size).filter fun a => (H a).isSome
def hidT (h : Heap) (H : Hp) : Heap := PySem.W.hideAll h (trk h H)
theorem hidT_size (h : Heap) (H : Hp) : (hidT h H).objs.size = h.objs.size := PySem.W.hideAll_size _ _
theorem hidT_get {h : Heap} {H : Hp} {b : Addr} {o : Obj} (e : h.get? b = some o) (n : H b = none) : (hidT h H).get? b = some o :=
  PySem.W.hideAll_get _ e fun hm => by
    have q : (H b).isSome = true := (List.mem_filter.mp hm).2
    rw [n] at q; simp at q
theorem of_hidT {h : Heap} {H : Hp} {b : Addr} {o : Obj} (e : (hidT h H).get? b = some o) : h.get? b = some o ∧ H b = none := by
  have e' : h.get? b = some o := PySem.W.of_hideAll (trk h H) e
  refine ⟨e', ?_⟩
  cases q : H b with
  | none => rfl
  | some x =>
    have hm : b ∈ trk h H := List.mem_filter.mpr ⟨List.mem_range.mpr (Heap.lt_size e'), by simp [q]⟩
    have z : (hidT h H).get? b = none := PySem.W.hideAll_none (trk h H) hm
    rw [z] at e; cases e
def allNews (g h : Heap) (L : Addr) : List (Addr × Obj) := (List.range h.objs.size).filterMap fun a => if a = L ∨ (g.get? a).isSome = true then none else (h.get? a).map fun o => (a, o)
def rest (g h : Heap) (L d : Addr) : List (Addr × Obj) := (allNews g h L).filter fun p => decide (p.1 ≠ d)
end L2
namespace L2
open PySem PySem.Spec PyProof.Rows
structure Mod (K : PySem.W.Frag) (mg : Str → Option Value) (base : Heap) : Prop where
  kin : K.In base
  glob : base.Ns mainGlobals mg
  blt : ∃ mb, base.Ns builtinsNs mb ∧ ∀ x : Str, x ≠ "__name__" → mb x = bootBuiltins x
  nolimit : base.NoLimit
structure Cx where
  prog : Program
  w : World
  K : PySem.W.Frag
  mg : Str → Option Value
  base : Heap
  A : Around
  N : List Str
  s₀ : Shared
  H₀ : Hp
  env : Env
  outer : List Env
  stack : List Env
  ex : List Addr
  fn : Str → Bool
  calm : Bool
  pn : List (Addr × Obj)
  xe : Value → Shared → Prop
def frs (l : List Env) : List Addr := l.filterMap (·.frame)
abbrev Cx.fs (X : Cx) : List Addr := frs X.outer
def Vis (sc : Scope) (x : Str) : Prop := sc.names.lookup x = some .local ∨ sc.names.lookup x = some .cell ∨ sc.names.lookup x = some .free
def Loc (sc : Scope) (x : Str) : Prop := sc.names.lookup x = some .local ∨ sc.names.lookup x = some .cell
def Look (env : Env) (h : Heap) (m : Str → Option Value) (x : Str) (u : Value) : Prop :=
  (env.kindOf x = some .local ∧ m x = some u) ∨ ((env.kindOf x = some .cell ∨ env.kindOf x = some .free) ∧ ∃ c, env.cells.lookup x = some c ∧ h.IsCell c (some u))
structure Cx.Ok (X : Cx) : Prop where
  mod : Mod X.K X.mg X.base
  kind : X.env.scope.kind = .function
  glob : X.env.globals = mainGlobals
  blt : X.env.builtins = builtinsNs
  above : X.s₀.heap.objs.size ≤ X.env.locals
  inj : ∀ x y c, X.env.cells.lookup x = some c → X.env.cells.lookup y = some c → x = y
  has : ∀ x, (X.env.kindOf x = some .cell ∨ X.env.kindOf x = some .free) → ∃ c, X.env.cells.lookup x = some c
  cab : ∀ x c, X.fn x = true → X.env.cells.lookup x = some c → X.s₀.heap.objs.size ≤ c
  hd : X.calm = true → X.A.handled = none
  frames : X.A.frames = some X.stack
  stk : X.stack = X.outer ∨ (X.stack = X.env :: X.outer ∧ X.env.frame = some X.env.locals)
  exf : ∀ b ∈ X.ex, b ≠ X.env.locals ∧ ∀ x c, X.env.cells.lookup x = some c → c ≠ b
  bs : ∀ b o, X.base.get? b = some o → X.s₀.heap.get? b = some o ∧ X.H₀ b = none
  bsz : X.base.objs.size ≤ X.s₀.heap.objs.size
  noex : ∀ b o, X.base.get? b = some o → b ∉ X.ex
  exfs : ∀ b ∈ X.ex, b ∉ X.fs
  funs : X.s₀.heap.FunFrames X.base X.outer
  frf : ∀ b ∈ X.fs, X.H₀ b = none
structure Inv (X : Cx) (pins : List (Addr × Obj)) (σ : List (Option V)) (H : Hp) (s : Shared) : Prop where
  ok : X.Ok
  os : s.os = X.s₀.os
  bare : AllBare s.gens
  base : Un X.fs X.ex X.H₀ H X.s₀.heap s.heap
  loc : ∃ m, s.heap.Ns X.env.locals m ∧ ∀ (i : Nat) (x : Str) (v : V), X.N[i]? = some x → σ[i]? = some (some v) → Vis X.env.scope x → ∃ u, RelV v u ∧ Look X.env s.heap m x u
  cell : ∀ x c, X.env.cells.lookup x = some c → ∃ v, s.heap.IsCell c v
  free : H X.env.locals = none
  freeC : ∀ x c, X.env.cells.lookup x = some c → H c = none
  pin : ∀ p ∈ X.pn ++ pins, s.heap.get? p.1 = some p.2 ∧ H p.1 = none ∧ p.1 ≠ X.env.locals ∧ p.1 ∉ X.fs ∧ ∀ v, p.2.data ≠ .cell v
  hok : HOk X.prog X.w H s.heap
  len : σ.length = X.N.length
section
variable {X : Cx} {pins : List (Addr × Obj)} {σ : List (Option V)} {H H' : Hp} {s : Shared} {h' : Heap}
theorem Cx.Ok.nofr (ok : X.Ok) {b : Addr} {o : Obj} (e : X.base.get? b = some o) : b ∉ X.fs := fun hb => by
  have := (ok.funs.mem hb).1
  rw [e] at this; cases this
theorem Inv.bs (I : Inv X pins σ H s) : ∀ b o, X.base.get? b = some o → s.heap.get? b = some o ∧ H b = none := fun b o e =>
  ⟨I.base.keep b o (I.ok.bs b o e).1 (I.ok.bs b o e).2 (I.ok.nofr e) (I.ok.noex b o e), I.base.free b o (I.ok.bs b o e).1 (I.ok.bs b o e).2 (I.ok.noex b o e)⟩
theorem Inv.bk (I : Inv X pins σ H s) : ∀ b o, X.base.get? b = some o → s.heap.get? b = some o := fun b o e => (I.bs b o e).1
theorem Inv.mod (I : Inv X pins σ H s) : Mod X.K X.mg X.base := I.ok.mod
theorem Inv.kIn (I : Inv X pins σ H s) : X.K.In s.heap := I.ok.mod.kin.keeps I.bk
theorem Inv.nolimit (I : Inv X pins σ H s) : s.heap.NoLimit := I.ok.mod.nolimit.keeps I.bk
theorem Inv.fr (I : Inv X pins σ H s) : ∃ m, Fr X.base X.env.locals s.heap m :=
  let ⟨m, hn, _⟩ := I.loc
  ⟨m, hn, I.bk, Nat.le_trans I.ok.bsz I.ok.above⟩
theorem Inv.lt (I : Inv X pins σ H s) : X.env.locals < s.heap.objs.size := let ⟨_, hn, _⟩ := I.loc; hn.lt
theorem Inv.sz (I : Inv X pins σ H s) : X.s₀.heap.objs.size ≤ s.heap.objs.size := Nat.le_trans I.ok.above (Nat.le_of_lt I.lt)
theorem Inv.nofs (I : Inv X pins σ H s) {a : Addr} (h : s.heap.objs.size ≤ a) : a ∉ X.fs := fun hb => by
  obtain ⟨_, o, ho, _⟩ := I.ok.funs.mem hb
  exact absurd (Nat.lt_of_lt_of_le (Heap.lt_size ho) (Nat.le_trans I.sz h)) (Nat.lt_irrefl _)
theorem Inv.cne (I : Inv X pins σ H s) : ∀ x c, X.env.cells.lookup x = some c → c ≠ X.env.locals := fun x c e z => by
  obtain ⟨v, o, ho, hd⟩ := I.cell x c e
  obtain ⟨m, ⟨o', es, ep, ho', hd', _⟩, _⟩ := I.loc
  rw [z, ho'] at ho; cases ho; rw [hd'] at hd; cases hd
theorem Inv.funs (I : Inv X pins σ H s) : s.heap.FunFrames X.base X.outer := by
  have all : ∀ (l : List Env), (∀ b ∈ frs l, b ∈ X.fs) → X.s₀.heap.FunFrames X.base l → s.heap.FunFrames X.base l := by
    intro l
    induction l with
    | nil => intro _ _; trivial
    | cons env r ih =>
      intro hs hl
      obtain ⟨hk, ⟨L, o, hf, hn, ho, hd⟩, hr⟩ := hl
      have hL : L ∈ X.fs := hs L (by unfold frs; rw [List.filterMap_cons, hf]; exact List.mem_cons_self)
      obtain ⟨sl, e⟩ := I.base.slot L o ho (I.ok.frf L hL) hL fun z => I.ok.exfs L z hL
      exact ⟨hk, ⟨L, _, hf, hn, e, hd⟩, ih (fun b hb => hs b (by unfold frs; rw [List.filterMap_cons, hf]; exact List.mem_cons_of_mem _ hb)) hr⟩
  exact all X.outer (fun _ hb => hb) I.ok.funs
theorem Inv.stack (I : Inv X pins σ H s) : s.heap.FunFrames X.base X.stack := by
  rcases I.ok.stk with e | ⟨e, hf⟩
  · rw [e]; exact I.funs
  · rw [e]
    obtain ⟨m, hn, _⟩ := I.loc
    refine .cons (by rw [I.ok.kind]; decide) hf hn ?_ I.funs
    exact Heap.get?_none_of_le (Nat.le_trans I.ok.bsz I.ok.above)
theorem Inv.stkSub (I : Inv X pins σ H s) : ∀ b ∈ frs X.stack, b ∈ X.env.locals :: X.fs := fun b hb => by
  rcases I.ok.stk with e | ⟨e, hf⟩
  · rw [e] at hb; exact List.mem_cons_of_mem _ hb
  · rw [e] at hb
    unfold frs at hb
    rw [List.filterMap_cons, hf] at hb
    exact hb
theorem Inv.stkFree (I : Inv X pins σ H s) : ∀ b ∈ frs X.stack, H b = none := fun b hb => by
  rcases List.mem_cons.mp (I.stkSub b hb) with e | hb
  · rw [e]; exact I.free
  · obtain ⟨_, o, ho, _⟩ := I.ok.funs.mem hb
    exact I.base.free b o ho (I.ok.frf b hb) fun z => I.ok.exfs b z hb
theorem Inv.step {g' : Array GenState} {t' : Nat} {d' : Drawn} {ch : List Addr} (I : Inv X pins σ H s)
    (hch : ∀ b ∈ ch, (b ∈ X.ex ∨ X.s₀.heap.objs.size ≤ b) ∧ b ≠ X.env.locals ∧ (∀ x c, X.env.cells.lookup x = some c → c ≠ b) ∧ ∀ p ∈ X.pn ++ pins, p.1 ≠ b)
    (keep : ∀ b o, b ≠ X.env.locals → b ∉ X.fs → b ∉ ch → s.heap.get? b = some o → H b = none → h'.get? b = some o)
    (slot : ∀ b o, b ≠ X.env.locals → b ∈ X.fs → b ∉ ch → s.heap.get? b = some o → H b = none → ∃ sl, h'.get? b = some { o with slots := sl }) (free : ∀ b o, b ∉ ch → s.heap.get? b = some o → H b = none → H' b = none)
    (there : ∀ b o, b ∉ ch → s.heap.get? b = some o → ∃ o', h'.get? b = some o')
    (tups : ∀ b xs, H b = some (.tup xs) → H' b = some (.tup xs)) (frzs : ∀ b o u, H b = some (.frz o u) → H' b = some (.frz o u)) (tbls : ∀ b ps, H b = some (.tbl ps) → ∃ more, H' b = some (.tbl (ps ++ more)))
    (ns : ∀ m, s.heap.Ns X.env.locals m → h'.Ns X.env.locals m) (hok : HOk X.prog X.w H' h') (hg : AllBare g') :
    Inv X pins σ H' { s with heap := h', gens := g', drawn := d', toks := t' } := by
  have neL : ∀ b o, X.s₀.heap.get? b = some o → b ≠ X.env.locals := fun b o e => Nat.ne_of_lt (Nat.lt_of_lt_of_le (Heap.lt_size e) I.ok.above)
  have neC : ∀ b o, X.s₀.heap.get? b = some o → b ∉ X.ex → b ∉ ch := fun b o e hx hb => by
    rcases (hch b hb).1 with z | z
    · exact hx z
    · exact absurd (Nat.lt_of_lt_of_le (Heap.lt_size e) z) (Nat.lt_irrefl _)
  have cellK : ∀ x c, X.env.cells.lookup x = some c → ∀ v, s.heap.IsCell c v → h'.IsCell c v := fun x c e v ⟨o, ho, hd⟩ => by
    have nch : c ∉ ch := fun z => (hch c z).2.2.1 x c e rfl
    by_cases hc : c ∈ X.fs
    · obtain ⟨sl, q⟩ := slot c o (I.cne x c e) hc nch ho (I.freeC x c e)
      exact ⟨_, q, hd⟩
    · exact ⟨o, keep c o (I.cne x c e) hc nch ho (I.freeC x c e), hd⟩
  refine ⟨I.ok, I.os, hg, ⟨fun b o e n hb hx => ?_, fun b o e n hb hx => ?_, fun b o e n hx => ?_, fun b o e hx => ?_, fun b xs e => tups b xs (I.base.tups b xs e), fun b o xs e => frzs b o xs (I.base.frzs b o xs e), fun b ps e => ?_⟩, ?_, fun x c e => ?_, ?_, fun x c e => ?_, fun p hp => ?_, hok, I.len⟩
  · exact keep b o (neL b o e) hb (neC b o e hx) (I.base.keep b o e n hb hx) (I.base.free b o e n hx)
  · obtain ⟨sl, e1⟩ := I.base.slot b o e n hb hx
    obtain ⟨sl', e2⟩ := slot b _ (neL b o e) hb (neC b o e hx) e1 (I.base.free b o e n hx)
    exact ⟨sl', e2⟩
  · obtain ⟨o', e1⟩ := I.base.there b o e hx
    exact free b o' (neC b o e hx) e1 (I.base.free b o e n hx)
  · obtain ⟨o', e1⟩ := I.base.there b o e hx
    exact there b o' (neC b o e hx) e1
  · obtain ⟨m1, e1⟩ := I.base.tbls b ps e
    obtain ⟨m2, e2⟩ := tbls b _ e1
    exact ⟨m1 ++ m2, by rw [e2, Array.append_assoc]⟩
  · obtain ⟨m, hn, hl⟩ := I.loc
    refine ⟨m, ns m hn, fun i x v e1 e2 e3 => ?_⟩
    obtain ⟨u, r, l⟩ := hl i x v e1 e2 e3
    refine ⟨u, r, ?_⟩
    rcases l with l | ⟨k, c, e, z⟩
    · exact .inl l
    · exact .inr ⟨k, c, e, cellK x c e _ z⟩
  · obtain ⟨v, z⟩ := I.cell x c e
    exact ⟨v, cellK x c e v z⟩
  · obtain ⟨m, ⟨o, _, _, ho, _⟩, _⟩ := I.loc
    exact free _ o (fun z => (hch _ z).2.1 rfl) ho I.free
  · obtain ⟨v, o, ho, hd⟩ := I.cell x c e
    exact free c o (fun z => (hch c z).2.2.1 x c e rfl) ho (I.freeC x c e)
  · obtain ⟨e, n, ne, nf, d⟩ := I.pin p hp
    have nch : p.1 ∉ ch := fun z => (hch p.1 z).2.2.2 p hp rfl
    exact ⟨keep p.1 p.2 ne nf nch e n, free p.1 p.2 nch e n, ne, nf, d⟩
theorem Inv.un {t' : Nat} (I : Inv X pins σ H s) (u : Un X.fs [] H H' s.heap h') (hok : HOk X.prog X.w H' h') : Inv X pins σ H' { s with heap := h', toks := t' } := by
  obtain ⟨m, ⟨o, es, ep, ho, r⟩, _⟩ := id I.loc
  obtain ⟨sl, hL⟩ := u.any ho I.free (by simp)
  exact I.step (g' := s.gens) (d' := s.drawn) (ch := []) (fun _ z => nomatch z) (fun b o _ hb _ e n => u.keep b o e n hb (by simp)) (fun b o _ hb _ e n => u.slot b o e n hb (by simp)) (fun b o _ e n => u.free b o e n (by simp)) (fun b o _ e => u.there b o e (by simp)) u.tups u.frzs u.tbls (fun m' hm => by
    obtain ⟨o', es', ep', ho', r'⟩ := hm
    rw [ho] at ho'; cases ho'
    exact ⟨_, es', ep', hL, r'⟩) hok I.bare
theorem Inv.call {g' : Array GenState} {t' : Nat} {d' : Drawn} {ch : List Addr} (I : Inv X pins σ H s) (u : Un (frs X.stack) ch H H' s.heap h') (hok : HOk X.prog X.w H' h') (hg : AllBare g')
    (hch : ∀ b ∈ ch, (b ∈ X.ex ∨ X.s₀.heap.objs.size ≤ b) ∧ b ≠ X.env.locals ∧ (∀ x c, X.env.cells.lookup x = some c → c ≠ b) ∧ ∀ p ∈ X.pn ++ pins, p.1 ≠ b) :
    Inv X pins σ H' { s with heap := h', gens := g', drawn := d', toks := t' } := by
  obtain ⟨m, ⟨o, es, ep, ho, r⟩, _⟩ := id I.loc
  obtain ⟨sl, hL⟩ := u.any ho I.free fun z => (hch _ z).2.1 rfl
  exact I.step (ch := ch) hch (fun b o hL hb hc e n => u.keep b o e n (fun z => (List.mem_cons.mp (I.stkSub b z)).elim hL hb) hc) (fun b o _ _ hc e n => u.any e n hc) (fun b o hc e n => u.free b o e n hc) (fun b o hc e => u.there b o e hc) u.tups u.frzs u.tbls (fun m' hm => by
    obtain ⟨o', es', ep', ho', r'⟩ := hm
    rw [ho] at ho'; cases ho'
    exact ⟨_, es', ep', hL, r'⟩) hok hg
theorem Inv.turned {t' : Nat} {it : Addr} (I : Inv X pins σ H s) (k : ∀ b o, b ≠ it → s.heap.get? b = some o → h'.get? b = some o) (hn : H it = none) (hL : it ≠ X.env.locals)
    (h1 : it ∈ X.ex ∨ X.s₀.heap.objs.size ≤ it) (h2 : ∀ x c, X.env.cells.lookup x = some c → c ≠ it) (h3 : ∀ p ∈ X.pn ++ pins, p.1 ≠ it) : Inv X pins σ H { s with heap := h', toks := t' } := by
  have nit : ∀ b u, H b = some u → b ≠ it := fun b u e z => by rw [z, hn] at e; cases e
  refine I.step (g' := s.gens) (d' := s.drawn) (ch := [it]) (fun b hb => ?_) (fun b o _ _ hc e _ => k b o (fun z => hc (by simp [z])) e) (fun b o _ _ hc e _ => ⟨o.slots, k b o (fun z => hc (by simp [z])) e⟩) (fun _ _ _ _ n => n)
    (fun b o hc e => ⟨o, k b o (fun z => hc (by simp [z])) e⟩) (fun _ _ e => e) (fun _ _ _ e => e) (fun b ps e => ⟨#[], by rw [e]; simp⟩) (fun m hm => ?_) (fun b u e => ?_) I.bare
  · have e : b = it := by simpa using hb
    subst e
    exact ⟨h1, hL, h2, h3⟩
  · obtain ⟨o, es, ep, ho, r⟩ := hm
    exact ⟨o, es, ep, k _ o (Ne.symm hL) ho, r⟩
  · refine (I.hok b u e).stay (fun c v hc q => k c v ?_ q) (fun _ q => q) fun _ _ q => q
    rcases hc with z | z
    · rw [z]; exact nit b u e
    · exact nit c _ z
theorem Inv.tok (I : Inv X pins σ H s) (t : Nat) : Inv X pins σ H { s with toks := t } := I.un (h' := s.heap) (t' := t) Un.refl I.hok
theorem Inv.kept {t' : Nat} (I : Inv X pins σ H s) (k : ∀ b u, s.heap.get? b = some u → h'.get? b = some u) : Inv X pins σ H { s with heap := h', toks := t' } := I.un (Un.kept k) (I.hok.kept k)
theorem Inv.laid {a : Addr} {o : HO} {t' : Nat} (I : Inv X pins σ H s) (k : ∀ b u, s.heap.get? b = some u → h'.get? b = some u) (hp : s.heap.objs.size ≤ a) (new : ObjOk X.prog X.w (upd H a o) h' a o) :
    Inv X pins σ (upd H a o) { s with heap := h', toks := t' } := I.un (Un.laid k hp (I.hok.fresh hp)) (I.hok.laid k hp new)
theorem Inv.write {x e : Addr} {o : HO} {t' : Nat} (I : Inv X pins σ H s) (mu : Mut (H x)) (he : e = x ∨ H e = some (.own x)) (k : ∀ b u, b ≠ e → s.heap.get? b = some u → h'.get? b = some u) (heo : ∃ u, h'.get? e = some u)
    (new : ObjOk X.prog X.w (upd H x o) h' x o) : Inv X pins σ (upd H x o) { s with heap := h', toks := t' } := I.un (Un.write mu he k heo) (I.hok.write mu he k heo new)
theorem Inv.weak {σ' : List (Option V)} (I : Inv X pins σ H s) (hl : σ'.length = σ.length) (w : ∀ (i : Nat) v, σ'[i]? = some (some v) → σ[i]? = some (some v)) : Inv X pins σ' H s :=
  ⟨I.ok, I.os, I.bare, I.base, let ⟨m, hn, hl'⟩ := I.loc; ⟨m, hn, fun i x v e1 e2 e3 => hl' i x v e1 (w i v e2) e3⟩, I.cell, I.free, I.freeC, I.pin, I.hok, hl.trans I.len⟩
theorem Inv.pins_of {pins' : List (Addr × Obj)} (I : Inv X pins σ H s) (h : ∀ p ∈ pins', s.heap.get? p.1 = some p.2 ∧ H p.1 = none ∧ p.1 ≠ X.env.locals ∧ p.1 ∉ X.fs ∧ ∀ v, p.2.data ≠ .cell v) : Inv X pins' σ H s :=
  ⟨I.ok, I.os, I.bare, I.base, I.loc, I.cell, I.free, I.freeC, fun p hp => (List.mem_append.mp hp).elim (fun z => I.pin p (List.mem_append_left _ z)) (h p), I.hok, I.len⟩
theorem nodup_ix {N : List Str} (hN : N.Nodup) {i j : Nat} {x : Str} (a : N[i]? = some x) (b : N[j]? = some x) : i = j := by
  obtain ⟨h1, e1⟩ := List.getElem?_eq_some_iff.mp a
  obtain ⟨h2, e2⟩ := List.getElem?_eq_some_iff.mp b
  exact (List.getElem_inj hN).mp (e1.trans e2.symm)
theorem store_ok2 {M : Model} {A : Around} {E : Value → Shared → Prop} {i : Nat} {x : Str} {v : V} {u : Value} {Q : Unit → Shared → Prop} (I : Inv X pins σ H s) (hN : X.N.Nodup) (hi : X.N[i]? = some x) (hx : Loc X.env.scope x) (r : RelV v u)
    (h : ∀ s', Inv X pins (σ.set i (some v)) H s' → (∃ a, Heap.SameBut a s.heap s'.heap ∧ (a = X.env.locals ∨ X.env.cells.lookup x = some a)) → Q () s') (hf : X.fn x = true ∨ X.env.scope.names.lookup x = some .local := by first | exact .inl rfl | exact .inr rfl | assumption) : wpAny M A (storeName X.env x u) Q E s := by
  obtain ⟨m, hn, hl⟩ := id I.loc
  have hcls : (X.env.scope.kind == .class || (X.env.scope.kind == .module && X.env.locals != X.env.globals)) = false := by rw [I.ok.kind]; rfl
  have hiσ : i < σ.length := by rw [I.len]; exact (List.getElem?_eq_some_iff.mp hi).1
  have cne := I.cne
  have tracked : ∀ {a : Addr} {h' : Heap}, (∃ o, s.heap.get? a = some o ∧ H a = none) → Heap.SameBut a s.heap h' → HOk X.prog X.w H h' := fun {a h'} ha hs b ob e => by
    obtain ⟨_, _, hfree⟩ := ha
    refine (I.hok b ob e).stay (fun c w' hc q => (hs.2 c ?_).trans q) (fun _ q => q) fun _ _ q => q
    rintro rfl
    rcases hc with rfl | hc
    · rw [hfree] at e; cases e
    · rw [hfree] at hc; cases hc
  rcases hx with hk | hk
  · refine wpAny_storeName_local hk hn (fun h' hn' hs => ?_) hcls
    obtain ⟨oL, _, _, hoL, _⟩ := id hn
    refine h _ ⟨I.ok, I.os, I.bare, ⟨fun b o e n hb hx => ?_, fun b o e n hb hx => ?_, I.base.free, fun b o e hx => ?_, I.base.tups, I.base.frzs, I.base.tbls⟩, ⟨_, hn', fun j y v' e1 e2 e3 => ?_⟩, fun y c e => ?_, I.free, I.freeC, fun p hp => ?_, tracked ⟨oL, hoL, I.free⟩ hs, by simpa using I.len⟩ ⟨_, hs, .inl rfl⟩
    · exact (hs.2 b (Nat.ne_of_lt (Nat.lt_of_lt_of_le (Heap.lt_size e) I.ok.above))).trans (I.base.keep b o e n hb hx)
    · obtain ⟨sl, e1⟩ := I.base.slot b o e n hb hx
      exact ⟨sl, (hs.2 b (Nat.ne_of_lt (Nat.lt_of_lt_of_le (Heap.lt_size e) I.ok.above))).trans e1⟩
    · obtain ⟨o', e1⟩ := I.base.there b o e hx
      exact ⟨o', (hs.2 b (Nat.ne_of_lt (Nat.lt_of_lt_of_le (Heap.lt_size e) I.ok.above))).trans e1⟩
    · by_cases hj : j = i
      · subst hj
        rw [hi] at e1; cases e1
        rw [List.getElem?_set_self hiσ] at e2
        cases e2
        exact ⟨u, r, .inl ⟨hk, by simp⟩⟩
      · rw [List.getElem?_set_ne (Ne.symm hj)] at e2
        obtain ⟨u', r', q⟩ := hl j y v' e1 e2 e3
        refine ⟨u', r', ?_⟩
        rcases q with ⟨k, e⟩ | ⟨k, c, e, z⟩
        · refine .inl ⟨k, ?_⟩
          have : y ≠ x := fun e => hj (nodup_ix hN e1 (e ▸ hi))
          simp [this, e]
        · exact .inr ⟨k, c, e, z.sameBut hs (cne y c e)⟩
    · obtain ⟨w', z⟩ := I.cell y c e
      exact ⟨w', z.sameBut hs (cne y c e)⟩
    · obtain ⟨e, n, ne, nf, d⟩ := I.pin p hp
      exact ⟨(hs.2 p.1 ne).trans e, n, ne, nf, d⟩
  · have hfn : X.fn x = true := by
      rcases hf with z | z
      · exact z
      · rw [z] at hk; cases hk
    obtain ⟨c, hc⟩ := I.ok.has x (.inl hk)
    obtain ⟨w', z⟩ := I.cell x c hc
    refine wpAny_storeName_cell I.ok.kind hk hc z (fun h' hc' hs => ?_)
    obtain ⟨oc, hoc, hocd⟩ := id z
    refine h { s with heap := h' } ⟨I.ok, I.os, I.bare, ⟨fun b o e n hb hx => ?_, fun b o e n hb hx => ?_, I.base.free, fun b o e hx => ?_, I.base.tups, I.base.frzs, I.base.tbls⟩, ⟨m, hn.sameBut hs (Ne.symm (cne x c hc)), fun j y v' e1 e2 e3 => ?_⟩, fun y c' e => ?_, I.free, I.freeC, fun p hp => ?_, tracked ⟨oc, hoc, I.freeC x c hc⟩ hs, by simpa using I.len⟩ ⟨c, hs, .inr hc⟩
    · exact (hs.2 b (Nat.ne_of_lt (Nat.lt_of_lt_of_le (Heap.lt_size e) (I.ok.cab x c hfn hc)))).trans (I.base.keep b o e n hb hx)
    · obtain ⟨sl, e1⟩ := I.base.slot b o e n hb hx
      exact ⟨sl, (hs.2 b (Nat.ne_of_lt (Nat.lt_of_lt_of_le (Heap.lt_size e) (I.ok.cab x c hfn hc)))).trans e1⟩
    · obtain ⟨o', e1⟩ := I.base.there b o e hx
      exact ⟨o', (hs.2 b (Nat.ne_of_lt (Nat.lt_of_lt_of_le (Heap.lt_size e) (I.ok.cab x c hfn hc)))).trans e1⟩
    · by_cases hj : j = i
      · subst hj
        rw [hi] at e1; cases e1
        rw [List.getElem?_set_self hiσ] at e2
        cases e2
        exact ⟨u, r, .inr ⟨.inl hk, c, hc, hc'⟩⟩
      · rw [List.getElem?_set_ne (Ne.symm hj)] at e2
        obtain ⟨u', r', q⟩ := hl j y v' e1 e2 e3
        refine ⟨u', r', ?_⟩
        rcases q with q | ⟨k, c', e, z'⟩
        · exact .inl q
        · refine .inr ⟨k, c', e, z'.sameBut hs ?_⟩
          rintro rfl
          exact hj (nodup_ix hN e1 (I.ok.inj _ _ _ e hc ▸ hi))
    · by_cases hcc : c' = c
      · subst hcc; exact ⟨_, hc'⟩
      · obtain ⟨w2, z2⟩ := I.cell y c' e
        exact ⟨w2, z2.sameBut hs hcc⟩
    · obtain ⟨e, n, ne, nf, d⟩ := I.pin p hp
      refine ⟨(hs.2 p.1 ?_).trans e, n, ne, nf, d⟩
      intro q
      rw [q, hoc] at e
      have q' : oc = p.2 := Option.some.inj e
      exact d w' (by rw [← q']; exact hocd)
theorem store_ok {M : Model} {A : Around} {E : Value → Shared → Prop} {i : Nat} {x : Str} {v : V} {u : Value} {Q : Unit → Shared → Prop} (I : Inv X pins σ H s) (hN : X.N.Nodup) (hi : X.N[i]? = some x) (hx : Loc X.env.scope x) (r : RelV v u)
    (h : ∀ s', Inv X pins (σ.set i (some v)) H s' → Q () s') (hf : X.fn x = true ∨ X.env.scope.names.lookup x = some .local := by first | exact .inl rfl | exact .inr rfl | assumption) : wpAny M A (storeName X.env x u) Q E s :=
  store_ok2 I hN hi hx r (fun s' I' _ => h s' I') hf
theorem Inv.call' {s' : Shared} {ch : List Addr} (I : Inv X pins σ H s) (ho : s'.os = s.os) (u : Un (frs X.stack) ch H H' s.heap s'.heap) (hok : HOk X.prog X.w H' s'.heap) (hg : AllBare s'.gens)
    (hch : ∀ b ∈ ch, (b ∈ X.ex ∨ X.s₀.heap.objs.size ≤ b) ∧ b ≠ X.env.locals ∧ (∀ x c, X.env.cells.lookup x = some c → c ≠ b) ∧ ∀ p ∈ X.pn ++ pins, p.1 ≠ b) : Inv X pins σ H' s' := by
  obtain ⟨h', g', d', t', o'⟩ := s'
  have e : o' = s.os := ho
  subst e
  exact I.call (g' := g') (t' := t') (d' := d') u hok hg hch
end
abbrev XK := Value → Option Addr → Hp → Prop
abbrev St := List (Option V)
abbrev VK := V → Hp → Prop
abbrev TE := St → Hp → VK → Prop
abbrev TT := St → Hp → (Bool → Hp → Prop) → Prop
abbrev TA := St → Hp → (List V → Hp → Prop) → Prop
structure Ends where
  nx : St → Hp → Prop
  rt : VK
  bk : St → Hp → Prop := fun _ _ => False
  ct : St → Hp → Prop := fun _ _ => False
abbrev TS := Ends → St → Hp → Prop
def EP (X : Cx) (pins : List (Addr × Obj)) (σ : St) (Q : VK) (u : Value) (s' : Shared) : Prop := ∃ v H', Inv X pins σ H' s' ∧ RelV v u ∧ Q v H'
def TP (X : Cx) (pins : List (Addr × Obj)) (σ : St) (Q : Bool → Hp → Prop) (b : Bool) (s' : Shared) : Prop := ∃ H', Inv X pins σ H' s' ∧ Q b H'
def AP (X : Cx) (pins : List (Addr × Obj)) (σ : St) (Q : List V → Hp → Prop) (us : List Value) (s' : Shared) : Prop := ∃ vs H', Inv X pins σ H' s' ∧ Vals vs us ∧ Q vs H'
def SP (X : Cx) (pins : List (Addr × Obj)) (D : Ends) (f : Flow) (s' : Shared) : Prop :=
  match f with
  | .next => ∃ σ' H', Inv X pins σ' H' s' ∧ D.nx σ' H'
  | .brk => ∃ σ' H', Inv X pins σ' H' s' ∧ D.bk σ' H'
  | .cont => ∃ σ' H', Inv X pins σ' H' s' ∧ D.ct σ' H'
  | .ret u => ∃ v σ' H', Inv X pins σ' H' s' ∧ RelV v u ∧ D.rt v H'
def PE (X : Cx) (e : Expr) (t : TE) : Prop :=
  ∀ (pins : List (Addr × Obj)) (s : Shared) (σ : St) (H : Hp) (Q : VK), Inv X pins σ H s → t σ H Q → wpAny (model X.prog X.w) X.A (eval e X.env) (EP X pins σ Q) X.xe s
def PT (X : Cx) (e : Expr) (t : TT) : Prop :=
  ∀ (pins : List (Addr × Obj)) (s : Shared) (σ : St) (H : Hp) (Q : Bool → Hp → Prop), Inv X pins σ H s → t σ H Q → wpAny (model X.prog X.w) X.A (isTrue e X.env (eval e X.env)) (TP X pins σ Q) X.xe s
def PW (X : Cx) (e : Expr) (t : TT) : Prop :=
  ∀ (whole : Sem Value) (pins : List (Addr × Obj)) (s : Shared) (σ : St) (H : Hp) (Q : Bool → Hp → Prop), Inv X pins σ H s → t σ H Q → wpAny (model X.prog X.w) X.A (isTrue e X.env whole) (TP X pins σ Q) X.xe s
theorem PW.pt {X : Cx} {e : Expr} {t : TT} (h : PW X e t) : PT X e t := h _
def PA (X : Cx) (es : List Expr) (t : TA) : Prop :=
  ∀ (pos : Pos) (pins : List (Addr × Obj)) (s : Shared) (σ : St) (H : Hp) (Q : List V → Hp → Prop), Inv X pins σ H s → t σ H Q → wpAny (model X.prog X.w) X.A (spliced (backTo pos (starEach es X.env))) (AP X pins σ Q) X.xe s
def PS (X : Cx) (st : Stmt) (t : TS) : Prop :=
  ∀ (pins : List (Addr × Obj)) (s : Shared) (σ : St) (H : Hp) (D : Ends), Inv X pins σ H s → t D σ H → wpAny (model X.prog X.w) X.A (exec st X.env) (SP X pins D) X.xe s
def PSs (X : Cx) (st : List Stmt) (t : TS) : Prop :=
  ∀ (pins : List (Addr × Obj)) (s : Shared) (σ : St) (H : Hp) (D : Ends), Inv X pins σ H s → t D σ H → wpAny (model X.prog X.w) X.A (execs st X.env) (SP X pins D) X.xe s
theorem thn {α : Type} {t : Sem α} {Q Q' : α → Shared → Prop} {M : Model} {A : Around} {E : Value → Shared → Prop} {s : Shared} (h : wpAny M A t Q E s) (hQ : ∀ a s, Q a s → Q' a s) : wpAny M A t Q' E s := wpAny_mono h hQ fun _ _ x => x
end L2
namespace L2
open PySem PySem.Spec PyProof.Rows
section
variable {X : Cx}
def tVar (i : Nat) : TE := fun σ H Q => ∃ v, σ[i]? = some (some v) ∧ Q v H
def tC (v : V) : TE := fun _ H Q => Q v H
theorem pe_var {i : Nat} {x : Str} {pos : Pos} (hN : X.N[i]? = some x) (hv : Vis X.env.scope x) (hd : (x == ("__debug__" : Str)) = false := by decide) (hcd : (x == ("__classdict__" : Str)) = false := by decide) : PE X (.Name x pos) (tVar i) := by
  intro pins s σ H Q I h
  obtain ⟨v, e, h⟩ := h
  obtain ⟨m, hn, hl⟩ := I.loc
  obtain ⟨u, r, l⟩ := hl i x v hN e hv
  have fin : EP X pins σ Q u s := ⟨v, H, I, r, h⟩
  rcases l with ⟨hk, hm⟩ | ⟨hk, c, hc, hcell⟩
  · exact wpAny_Name (wpAny_loadName_local I.ok.kind hk hn hm fin) hd
  · rcases hk with hk | hk
    · exact wpAny_Name (wpAny_loadName_cell I.ok.kind hk hc hcell fin) hd
    · exact wpAny_Name (wpAny_loadName_free I.ok.kind hk hc hcell fin hcd) hd
theorem pe_int {i j pos} : PE X (.Constant (.int i) j pos) (tC (.int i)) := fun _ _ _ H _ I h => wpAny_Constant_int ⟨.int i, H, I.tok _, ⟨_, rfl⟩, h⟩
theorem pe_bl {b j pos} : PE X (.Constant (.bool b) j pos) (tC (.bl b)) := fun _ _ _ H _ I h => Constant_bool ⟨.bl b, H, I, rfl, h⟩
theorem pe_non {j pos} : PE X (.Constant .none j pos) (tC .non) := fun _ _ _ H _ I h => Constant_none ⟨.non, H, I, rfl, h⟩
theorem pe_str {x j pos} : PE X (.Constant (.str x) j pos) (tC (.str x)) := fun _ _ _ H _ I h => Calls.Constant_str ⟨.str x, H, I.tok _, ⟨_, rfl⟩, h⟩
def Gl (X : Cx) (x : Str) : Prop := X.env.kindOf x = some .globalImplicit
theorem ld_glob {E : Value → Shared → Prop} {pins : List (Addr × Obj)} {s : Shared} {σ : St} {H : Hp} {x : Str} {u : Value} {pos : Pos} {Q : Value → Shared → Prop} (I : Inv X pins σ H s) (hg : Gl X x) (hm : X.mg x = some u) (h : Q u s)
    (hd : (x == ("__debug__" : Str)) = false := by decide) : wpAny (model X.prog X.w) X.A (eval (.Name x pos) X.env) Q E s :=
  Calls.Name_function_global I.ok.kind hg (Calls.loadGlobal_global (by rw [I.ok.glob]; exact I.mod.glob.keeps I.bk) hm h) hd
theorem ld_blt {E : Value → Shared → Prop} {pins : List (Addr × Obj)} {s : Shared} {σ : St} {H : Hp} {x : Str} {u : Value} {pos : Pos} {Q : Value → Shared → Prop} (I : Inv X pins σ H s) (hg : Gl X x) (hm : X.mg x = none) (hv : bootBuiltins x = some u) (h : Q u s)
    (hn : x ≠ "__name__" := by decide) (hd : (x == ("__debug__" : Str)) = false := by decide) : wpAny (model X.prog X.w) X.A (eval (.Name x pos) X.env) Q E s := by
  obtain ⟨mb, h1, h2⟩ := I.mod.blt
  exact Calls.Name_function_global I.ok.kind hg (Calls.loadGlobal_builtin (by rw [I.ok.glob]; exact I.mod.glob.keeps I.bk) hm (by rw [I.ok.blt]; exact h1.keeps I.bk) ((h2 x hn).trans hv) h) hd
theorem pe_glob {x : Str} {v : V} {u : Value} {pos : Pos} (hg : Gl X x) (hm : X.mg x = some u) (r : RelV v u) (hd : (x == ("__debug__" : Str)) = false := by decide) : PE X (.Name x pos) (tC v) :=
  fun _ _ _ H _ I h => ld_glob I hg hm ⟨v, H, I, r, h⟩ hd
theorem pe_bltn {x : Str} {v : V} {u : Value} {pos : Pos} (hg : Gl X x) (hm : X.mg x = none) (hv : bootBuiltins x = some u) (r : RelV v u) (hn : x ≠ "__name__" := by decide) (hd : (x == ("__debug__" : Str)) = false := by decide) : PE X (.Name x pos) (tC v) :=
  fun _ _ _ H _ I h => ld_blt I hg hm hv ⟨v, H, I, r, h⟩ hn hd
variable {a b : Expr} {ta tb : TE} {pos : Pos}
def tB (t : TE) : TT := fun σ H Q => t σ H fun x H1 => ∃ c, x = .bl c ∧ Q c H1
theorem pt_val {e : Expr} {t : TE} (h : PE X e t) (he : ∀ whole, isTrue e X.env whole = (do let v ← whole; standAt e.pos; holding [v] (truthy v)) := by intro _; rfl) : PT X e (tB t) := by
  intro pins s σ H Q I hw
  refine isTrue_plain (thn (h pins s σ H _ I hw) fun v s1 ⟨x, H1, I1, r1, q1⟩ => ?_) (he _)
  obtain ⟨d, rfl, q⟩ := q1
  cases r1
  exact wpAny_truthy_bool ⟨H1, I1, q⟩
variable {tA tB' : TT} {rest : List Expr}
def tAnd (t u : TT) : TT := fun σ H Q => t σ H fun c H1 => if c = true then u σ H1 Q else Q false H1
def tOr (t u : TT) : TT := fun σ H Q => t σ H fun c H1 => if c = true then Q true H1 else u σ H1 Q
def tNot (t : TT) : TT := fun σ H Q => t σ H fun c H1 => Q (!c) H1
theorem pw_and1 (ha : PT X a tA) : PW X (.BoolOp .And [a] pos) tA := by
  intro wh pins s σ H Q I h
  refine isTrue_and (thn (ha pins s σ H Q I h) fun c s1 e => ?_)
  cases c with
  | true => exact isTrue_and_nil e
  | false => exact e
theorem pw_or1 (ha : PT X a tA) : PW X (.BoolOp .Or [a] pos) tA := by
  intro wh pins s σ H Q I h
  refine isTrue_or (thn (ha pins s σ H Q I h) fun c s1 e => ?_)
  cases c with
  | false => exact isTrue_or_nil e
  | true => exact e
theorem pw_and (ha : PT X a tA) (hb : PW X (.BoolOp .And (b :: rest) pos) tB') : PW X (.BoolOp .And (a :: b :: rest) pos) (tAnd tA tB') := by
  intro wh pins s σ H Q I h
  refine isTrue_and (thn (ha pins s σ H _ I h) fun c s1 ⟨H1, I1, q1⟩ => ?_)
  cases c with
  | true => exact hb wh pins s1 σ H1 Q I1 q1
  | false => exact ⟨H1, I1, q1⟩
theorem pw_or (ha : PT X a tA) (hb : PW X (.BoolOp .Or (b :: rest) pos) tB') : PW X (.BoolOp .Or (a :: b :: rest) pos) (tOr tA tB') := by
  intro wh pins s σ H Q I h
  refine isTrue_or (thn (ha pins s σ H _ I h) fun c s1 ⟨H1, I1, q1⟩ => ?_)
  cases c with
  | true => exact ⟨H1, I1, q1⟩
  | false => exact hb wh pins s1 σ H1 Q I1 q1
theorem pt_not (ha : PT X a tA) : PT X (.UnaryOp .Not a pos) (tNot tA) := by
  intro pins s σ H Q I h
  exact isTrue_not (ha pins s σ H (fun c H1 => Q (!c) H1) I h)
def tAndV (ta tb : TE) : TE := fun σ H Q => ta σ H fun x H1 => ∃ c, x = .bl c ∧ if c = true then tb σ H1 Q else Q (.bl false) H1
def tOrV (ta tb : TE) : TE := fun σ H Q => ta σ H fun x H1 => ∃ c, x = .bl c ∧ if c = true then Q (.bl true) H1 else tb σ H1 Q
def tNotV (ta : TE) : TE := fun σ H Q => ta σ H fun x H1 => ∃ c, x = .bl c ∧ Q (.bl (!c)) H1
theorem pe_one {op} {t : TE} (h : PE X a t) : PE X (.BoolOp op [a] pos) t := fun pins s σ H Q I hw => BoolOp_one (h pins s σ H Q I hw)
theorem pe_and (ha : PE X a ta) (hb : PE X (.BoolOp .And (b :: rest) pos) tb) : PE X (.BoolOp .And (a :: b :: rest) pos) (tAndV ta tb) := by
  intro pins s σ H Q I h
  refine BoolOp_and (thn (ha pins s σ H _ I h) fun v s1 ⟨x, H1, I1, r1, q1⟩ => ?_)
  obtain ⟨c, rfl, q1⟩ := q1
  cases r1
  refine wpAny_truthy_bool ?_
  cases c with
  | true => exact hb pins s1 σ H1 Q I1 q1
  | false => exact ⟨.bl false, H1, I1, rfl, q1⟩
theorem pe_not (ha : PE X a ta) : PE X (.UnaryOp .Not a pos) (tNotV ta) := by
  intro pins s σ H Q I h
  refine UnaryOp_ (thn (ha pins s σ H _ I h) fun v s1 ⟨x, H1, I1, r1, q1⟩ => ?_)
  obtain ⟨c, rfl, q1⟩ := q1
  cases r1
  exact not_of (wpAny_truthy_bool ⟨.bl (!c), H1, I1, rfl, q1⟩)
def tIf (t : TT) (ta tb : TE) : TE := fun σ H Q => t σ H fun c H1 => if c = true then ta σ H1 Q else tb σ H1 Q
theorem pe_ifExp {c : Expr} (hc : PT X c tA) (ha : PE X a ta) (hb : PE X b tb) : PE X (.IfExp c a b pos) (tIf tA ta tb) := by
  intro pins s σ H Q I h
  refine wpAny_IfExp (thn (hc pins s σ H _ I h) fun d s1 ⟨H1, I1, q1⟩ => ?_)
  cases d with
  | true => exact ha pins s1 σ H1 Q I1 q1
  | false => exact hb pins s1 σ H1 Q I1 q1
end
end L2
namespace L2
open PySem PySem.Spec PyProof.Rows
def SqL (K : PySem.W.Frag) (H : Hp) (a : Addr) (xs : List V) : Prop :=
  Rd H a (.lst xs) ∨
    ∃ (o : Obj) (its : Array Value) (n : Nat), K.lookup a = some o ∧ o.cls = .type "list" ∧ o.dict = none ∧ o.data = .seq its n ∧ its.size ≤ sizeLine ∧ Vals xs its.toList
def SqT (K : PySem.W.Frag) (H : Hp) (a : Addr) (xs : List V) : Prop :=
  Rd H a (.tup xs) ∨
    ∃ (o : Obj) (its : Array Value) (n : Nat), K.lookup a = some o ∧ o.cls = .type "tuple" ∧ o.data = .seq its n ∧ its.size ≤ sizeLine ∧ Vals xs its.toList
def absV : Value → Option V
  | .none => some .non
  | .bool b => some (.bl b)
  | .int i _ => some (.int i)
  | .str x _ => some (.str x)
  | .bytes b _ => some (.byt b)
  | .float b _ => some (.flt b)
  | .ref a => some (.ref a)
  | .type n => some (.ty n)
  | _ => none
theorem RelV.abs {x : V} {u : Value} (r : RelV x u) : absV u = some x := by
  cases x with
  | non => cases r; rfl
  | bl _ => cases r; rfl
  | int _ => obtain ⟨t, rfl⟩ := r; rfl
  | str _ => obtain ⟨t, rfl⟩ := r; rfl
  | byt _ => obtain ⟨t, rfl⟩ := r; rfl
  | flt _ => obtain ⟨t, rfl⟩ := r; rfl
  | ref _ => cases r; rfl
  | ty _ => cases r; rfl
theorem RelV.inj {x y : V} {u : Value} (r : RelV x u) (q : RelV y u) : x = y := Option.some.inj (r.abs.symm.trans q.abs)
theorem Vals.inj : ∀ {xs ys : List V} {us : List Value}, Vals xs us → Vals ys us → xs = ys
  | _, _, _, .nil, .nil => rfl
  | _, _, _, .cons r t, .cons r' t' => by rw [r.inj r', Vals.inj t t']
section
variable {X : Cx} {pins : List (Addr × Obj)} {σ : St} {H : Hp} {s : Shared} {a : Addr} {xs ys : List V}
theorem SqL.of {K : PySem.W.Frag} (h : H a = some (.lst xs)) : SqL K H a xs := .inl (.inl h)
theorem SqT.of {K : PySem.W.Frag} (h : H a = some (.tup xs)) : SqT K H a xs := .inl (.inl h)
theorem Inv.list (I : Inv X pins σ H s) (h : SqL X.K H a xs) : ∃ its : List Value, Vals xs its ∧ PlainL s.heap a its.toArray ∧ xs.length ≤ sizeLine := by
  rcases h with h | ⟨o, its, n, hk, hc, hd, hs, hz, r⟩
  · obtain ⟨z, its, n, r, e⟩ := h.ok I.hok
    exact ⟨its, r, ⟨_, n, e, rfl, rfl, rfl⟩, z⟩
  · refine ⟨its.toList, r, ⟨o, n, I.kIn a o hk, hc, hd, by simpa using hs⟩, ?_⟩
    have e := r.length
    simp only [Array.length_toList] at e
    omega
theorem Inv.tuple (I : Inv X pins σ H s) (h : SqT X.K H a xs) : ∃ its : List Value, Vals xs its ∧ IsTup s.heap a its.toArray ∧ xs.length ≤ sizeLine := by
  rcases h with h | ⟨o, its, n, hk, hc, hs, hz, r⟩
  · obtain ⟨z, its, r, p⟩ := h.ok I.hok
    exact ⟨its, r, p, z⟩
  · refine ⟨its.toList, r, ⟨o, I.kIn a o hk, hc, n, by simpa using hs⟩, ?_⟩
    have e := r.length
    simp only [Array.length_toList] at e
    omega
theorem Inv.list_inj (I : Inv X pins σ H s) (h : SqL X.K H a xs) (h' : SqL X.K H a ys) : xs = ys := by
  obtain ⟨its, r, ⟨o, n, e, _, _, d⟩, _⟩ := I.list h
  obtain ⟨its', r', ⟨o', n', e', _, _, d'⟩, _⟩ := I.list h'
  rw [e] at e'; cases e'
  rw [d] at d'
  injection d' with d1 _
  have : its = its' := by simpa using congrArg Array.toList d1
  subst this
  exact r.inj r'
theorem Inv.tuple_inj (I : Inv X pins σ H s) (h : SqT X.K H a xs) (h' : SqT X.K H a ys) : xs = ys := by
  obtain ⟨its, r, ⟨o, e, _, n, d⟩, _⟩ := I.tuple h
  obtain ⟨its', r', ⟨o', e', _, n', d'⟩, _⟩ := I.tuple h'
  rw [e] at e'; cases e'
  rw [d] at d'
  injection d' with d1 _
  have : its = its' := by simpa using congrArg Array.toList d1
  subst this
  exact r.inj r'
end
abbrev Cx.wish (X : Cx) (E : Value → Shared → Prop) : Cx := { X with xe := E }
abbrev Cx.nox (X : Cx) : Cx := X.wish fun _ _ => False
theorem Cx.Ok.wish {X : Cx} (ok : X.Ok) (E : Value → Shared → Prop) : (X.wish E).Ok :=
  ⟨ok.mod, ok.kind, ok.glob, ok.blt, ok.above, ok.inj, ok.has, ok.cab, ok.hd, ok.frames, ok.stk, ok.exf, ok.bs, ok.bsz, ok.noex, ok.exfs, ok.funs, ok.frf⟩
theorem Cx.Ok.unwish {X : Cx} {E : Value → Shared → Prop} (ok : (X.wish E).Ok) : X.Ok :=
  ⟨ok.mod, ok.kind, ok.glob, ok.blt, ok.above, ok.inj, ok.has, ok.cab, ok.hd, ok.frames, ok.stk, ok.exf, ok.bs, ok.bsz, ok.noex, ok.exfs, ok.funs, ok.frf⟩
section
variable {X : Cx} {pins : List (Addr × Obj)} {σ : St} {H : Hp} {s : Shared} {E : Value → Shared → Prop}
theorem Inv.wish (I : Inv X pins σ H s) (E : Value → Shared → Prop) : Inv (X.wish E) pins σ H s := ⟨I.ok.wish E, I.os, I.bare, I.base, I.loc, I.cell, I.free, I.freeC, I.pin, I.hok, I.len⟩
theorem Inv.unwish (I : Inv (X.wish E) pins σ H s) : Inv X pins σ H s := ⟨I.ok.unwish, I.os, I.bare, I.base, I.loc, I.cell, I.free, I.freeC, I.pin, I.hok, I.len⟩
theorem SP.unwish {D : Ends} {f : Flow} {s' : Shared} (h : SP (X.wish E) pins D f s') : SP X pins D f s' := by
  cases f with
  | next => obtain ⟨σ', H', I, q⟩ := h; exact ⟨σ', H', I.unwish, q⟩
  | brk => obtain ⟨σ', H', I, q⟩ := h; exact ⟨σ', H', I.unwish, q⟩
  | cont => obtain ⟨σ', H', I, q⟩ := h; exact ⟨σ', H', I.unwish, q⟩
  | ret u => obtain ⟨v, σ', H', I, r, q⟩ := h; exact ⟨v, σ', H', I.unwish, r, q⟩
theorem PE.nox {e : Expr} {t : TE} (h : PE X.nox e t) : PE X e t := fun pins s σ H Q I hw =>
  wpAny_mono (h pins s σ H Q (I.wish _) hw) (fun _ _ ⟨v, H', I', r, q⟩ => ⟨v, H', I'.unwish, r, q⟩) fun _ _ z => False.elim z
theorem PT.nox {e : Expr} {t : TT} (h : PT X.nox e t) : PT X e t := fun pins s σ H Q I hw =>
  wpAny_mono (h pins s σ H Q (I.wish _) hw) (fun _ _ ⟨H', I', q⟩ => ⟨H', I'.unwish, q⟩) fun _ _ z => False.elim z
theorem PSs.nox {st : List Stmt} {t : TS} (h : PSs X.nox st t) : PSs X st t := fun pins s σ H D I hw =>
  wpAny_mono (h pins s σ H D (I.wish _) hw) (fun _ _ q => q.unwish) fun _ _ z => False.elim z
end
section
variable {X : Cx} {st : Stmt} {rest : List Stmt} {t u : TS} {e : Expr} {te : TE} {pos : Pos}
def tNext : TS := fun D σ H => D.nx σ H
def tSeq (t u : TS) : TS := fun D σ H => t { D with nx := u D } σ H
theorem pss_nil : PSs X [] tNext := fun _ _ σ H _ I h => wpAny_execs_nil ⟨σ, H, I, h⟩
theorem pss_cons (h1 : PS X st t) (h2 : PSs X rest u) : PSs X (st :: rest) (tSeq t u) := by
  intro pins s σ H D I h
  refine wpAny_execs_cons (thn (h1 pins s σ H { D with nx := u D } I h) fun f s1 q => ?_)
  cases f with
  | next =>
    obtain ⟨σ', H', I', q⟩ := q
    exact h2 pins s1 σ' H' D I' q
  | ret v => exact q
  | brk => exact q
  | cont => exact q
theorem pss_one (h1 : PS X st t) : PSs X [st] t := by
  intro pins s σ H D I h
  refine wpAny_execs_cons (thn (h1 pins s σ H D I h) fun f s1 q => ?_)
  cases f with
  | next => exact wpAny_execs_nil q
  | ret v => exact q
  | brk => exact q
  | cont => exact q
theorem Inv.quiet {pins : List (Addr × Obj)} {σ : St} {H : Hp} {s : Shared} (I : Inv X pins σ H s) : interactive X.env = false := by simp [interactive, I.ok.kind]
def tDrop (te : TE) : TS := fun D σ H => te σ H fun _ H1 => D.nx σ H1
theorem ps_expr (he : PE X e te) (hs : swapsWith e none pos.line X.env = pure false := by rfl) : PS X (.Expr e pos) (tDrop te) := by
  intro pins s σ H D I h
  exact wpAny_Expr_any (thn (he pins s σ H _ I h) fun v s1 ⟨x, H1, I1, r1, q1⟩ => ⟨σ, H1, I1, q1⟩) I.quiet hs
def tRet (te : TE) : TS := fun D σ H => te σ H D.rt
theorem ps_ret (he : PE X e te) : PS X (.Return (some e) pos) (tRet te) := by
  intro pins s σ H D I h
  exact wpAny_Return_some (thn (he pins s σ H _ I h) fun v s1 ⟨x, H1, I1, r1, q1⟩ => ⟨x, σ, H1, I1, r1, q1⟩)
def tRetN : TS := fun D _ H => D.rt .non H
def tIfS (c : TT) (t u : TS) : TS := fun D σ H => c σ H fun b H1 => if b = true then t D σ H1 else u D σ H1
theorem ps_if {c : Expr} {a b : List Stmt} {tc : TT} (hc : PT X c tc) (ha : PSs X a t) (hb : PSs X b u) : PS X (.If c a b pos) (tIfS tc t u) := by
  intro pins s σ H D I h
  refine wpAny_If (thn (hc pins s σ H _ I h) fun d s1 ⟨H1, I1, q1⟩ => ?_)
  cases d with
  | true => exact ha pins s1 σ H1 D I1 q1
  | false => exact hb pins s1 σ H1 D I1 q1
def tNever : TS := fun _ _ _ => False
end
abbrev TG := V → St → Hp → (St → Hp → Prop) → Prop
abbrev TGs := List V → St → Hp → (St → Hp → Prop) → Prop
def PG (X : Cx) (target : Expr) (t : TG) : Prop :=
  ∀ (pins : List (Addr × Obj)) (s : Shared) (σ : St) (H : Hp) (v : V) (u : Value) (Q : St → Hp → Prop), Inv X pins σ H s → RelV v u → t v σ H Q →
    wpAny (model X.prog X.w) X.A (assign target X.env u) (fun _ s' => ∃ σ' H', Inv X pins σ' H' s' ∧ Q σ' H') X.xe s
def PGs (X : Cx) (ts : List Expr) (t : TGs) : Prop :=
  ∀ (pins : List (Addr × Obj)) (s : Shared) (σ : St) (H : Hp) (vs : List V) (us : List Value) (Q : St → Hp → Prop), Inv X pins σ H s → Vals vs us → t vs σ H Q →
    wpAny (model X.prog X.w) X.A (assignInOrder ((assignEach ts X.env).map (·.2)) us) (fun _ s' => ∃ σ' H', Inv X pins σ' H' s' ∧ Q σ' H') X.xe s
abbrev TSet := V → V → V → Hp → (Hp → Prop) → Prop
def PSet (X : Cx) (t : TSet) : Prop :=
  ∀ (pins : List (Addr × Obj)) (s : Shared) (σ : St) (H : Hp) (o i v : V) (ov iv u : Value) (Q : Hp → Prop), Inv X pins σ H s → RelV o ov → RelV i iv → RelV v u → t o i v H Q →
    wpAny (model X.prog X.w) X.A (setItem ov iv u) (fun _ s' => ∃ H', Inv X pins σ H' s' ∧ Q H') X.xe s
section
variable {X : Cx} {pos : Pos}
def gName (i : Nat) : TG := fun v σ H Q => Q (σ.set i (some v)) H
theorem pg_name {i : Nat} {x : Str} (hN : X.N.Nodup) (hi : X.N[i]? = some x) (hx : Loc X.env.scope x) (hf : X.fn x = true ∨ X.env.scope.names.lookup x = some .local := by first | exact .inl rfl | exact .inr rfl | assumption) : PG X (.Name x pos) (gName i) := by
  intro pins s σ H v u Q I r h
  exact wpAny_assign_Name (store_ok I hN hi hx r (fun s' I' => ⟨_, H, I', h⟩) hf)
def gNil : TGs := fun vs σ H Q => vs = [] ∧ Q σ H
def gCons (t : TG) (u : TGs) : TGs := fun vs σ H Q => ∃ v r, vs = v :: r ∧ t v σ H fun σ' H' => u r σ' H' Q
theorem pgs_nil : PGs X [] gNil := by
  intro pins s σ H vs us Q I r h
  obtain ⟨e, h⟩ := h
  subst e
  cases r
  exact assignInOrder_nil ⟨σ, H, I, h⟩
theorem pgs_cons {e : Expr} {es : List Expr} {t : TG} {u : TGs} (h1 : PG X e t) (h2 : PGs X es u)
    (hs : (assignEach (e :: es) X.env).map (·.2) = assign e X.env :: (assignEach es X.env).map (·.2) := by rfl) : PGs X (e :: es) (gCons t u) := by
  intro pins s σ H vs us Q I r h
  obtain ⟨v, vr, e1, h⟩ := h
  subst e1
  cases r with
  | cons r rr =>
    rw [hs]
    refine assignInOrder_cons (thn (h1 pins s σ H _ _ _ I r h) fun _ s1 ⟨σ1, H1, I1, q1⟩ => ?_)
    exact h2 pins s1 σ1 H1 _ _ Q I1 rr q1
def gTup (K : PySem.W.Frag) (n : Nat) (t : TGs) : TG := fun v σ H Q => ∃ a xs, v = .ref a ∧ SqT K H a xs ∧ xs.length = n ∧ t xs σ H Q
theorem pg_tup {es : List Expr} {k : Nat} {t : TGs} {n : Nat} (hc : X.calm = true) (h : PGs X es t)
    (hn : (assignEach es X.env).length = n := by rfl) (hst : (assignEach es X.env).findIdx? (·.1) = none := by rfl) : PG X (.Tuple es k pos) (gTup X.K n t) := by
  intro pins s σ H v u Q I r hw
  obtain ⟨a, xs, e1, hq, hl, hw⟩ := hw
  subst e1
  cases r
  obtain ⟨its, rv, ht, hz⟩ := I.tuple hq
  refine assign_Tuple_tuple (I.ok.hd hc) ht (by simp [hn, ← hl, rv.length]) hst fun h' hx => ?_
  have I1 : Inv X pins σ H { s with heap := h' } := I.kept (t' := s.toks) fun b o e => hx b o (Nat.ne_of_lt (Heap.lt_size e)) e
  exact h pins _ σ H xs _ Q I1 (by simpa using rv) hw
def gSub (to ti : TE) (t : TSet) : TG := fun v σ H Q => to σ H fun o H1 => ti σ H1 fun i H2 => t o i v H2 fun H3 => Q σ H3
theorem pg_sub {o i : Expr} {to ti : TE} {t : TSet} (ho : PE X o to) (hi : PE X i ti) (hs : PSet X t)
    (ha : ∀ v, assign (.Subscript o i pos) X.env v = (do
      let ov ← holding [v] (eval o X.env)
      let iv ← holding [v, ov] (eval i X.env)
      standAt pos
      holding [v, ov, iv] (setItem ov iv v)
      release [v, ov, iv] []) := by intro _; rfl) : PG X (.Subscript o i pos) (gSub to ti t) := by
  intro pins s σ H v u Q I r h
  rw [ha]
  refine wpAny_bind (wpAny_holding (thn (ho pins s σ H _ I h) fun ov s1 ⟨x, H1, I1, r1, q1⟩ => ?_))
  refine wpAny_bind (wpAny_holding (thn (hi pins s1 σ H1 _ I1 q1) fun iv s2 ⟨y, H2, I2, r2, q2⟩ => ?_))
  refine wpAny_bind (wpAny_standAt (wpAny_bind (wpAny_holding (thn (hs pins s2 σ H2 x y v ov iv u _ I2 r1 r2 r q2) fun _ s3 ⟨H3, I3, q3⟩ => ?_))))
  exact wpAny_release ⟨σ, H3, I3, q3⟩
def tAsg (te : TE) (g : TG) : TS := fun D σ H => te σ H fun x H1 => g x σ H1 D.nx
theorem ps_asg {tg e : Expr} {te : TE} {g : TG} (he : PE X e te) (hg : PG X tg g) (hs : swapsWithSole [tg] e pos.line X.env = pure false := by rfl) (hw : swappedStores [tg] e X.env = pure none := by rfl)
    (h1 : (assignEach [tg] X.env).map (·.2) = [assign tg X.env] := by rfl) : PS X (.Assign [tg] e pos) (tAsg te g) := by
  intro pins s σ H D I h
  refine wpAny_Assign_stores (thn (he pins s σ H _ I h) fun v s1 ⟨x, H1, I1, r1, q1⟩ => ?_) hs hw
  rw [h1]
  exact thn (hg pins s1 σ H1 x v _ I1 r1 q1) fun _ s2 q => q
theorem ps_set {i : Nat} {x : Str} {e : Expr} {te : TE} {pos' : Pos} (hN : X.N.Nodup) (hi : X.N[i]? = some x) (hx : Loc X.env.scope x) (he : PE X e te) (hs : swapsWith e (some (.Name x pos')) pos.line X.env = pure false := by rfl) (hf : X.fn x = true ∨ X.env.scope.names.lookup x = some .local := by first | exact .inl rfl | exact .inr rfl | assumption) :
    PS X (.Assign [.Name x pos'] e pos) (tAsg te (gName i)) := by
  intro pins s σ H D I h
  refine wpAny_Assign_Name (thn (he pins s σ H _ I h) fun v s1 ⟨y, H1, I1, r1, q1⟩ => ?_) hs
  exact store_ok I1 hN hi hx r1 (fun s2 I2 => ⟨_, H1, I2, q1⟩) hf
end
section
variable {X : Cx} {pos : Pos}
end
structure It where
  go : Nat → Hp → Prop
  yld : Nat → Hp → V → Hp → Prop
  stop : Nat → Hp → Prop
def FpOk (X : Cx) (pins : List (Addr × Obj)) (H : Hp) (b : Addr) : Prop :=
  H b = none ∧ b ≠ X.env.locals ∧ b ∉ X.fs ∧ (b ∈ X.ex ∨ X.s₀.heap.objs.size ≤ b) ∧ (∀ x c, X.env.cells.lookup x = some c → c ≠ b) ∧ ∀ p ∈ X.pn ++ pins, p.1 ≠ b
theorem Inv.fpOk {X : Cx} {pins : List (Addr × Obj)} {σ : St} {H H' : Hp} {s : Shared} {b : Addr} (I : Inv X pins σ H s) (hb : s.heap.objs.size ≤ b) (hn : H' b = none) : FpOk X pins H' b := by
  refine ⟨hn, Nat.ne_of_gt (Nat.lt_of_lt_of_le I.lt hb), I.nofs hb, .inr (Nat.le_trans I.sz hb), fun x c e z => ?_, fun p hp z => ?_⟩
  · obtain ⟨v, q⟩ := I.cell x c e
    exact absurd (Nat.lt_of_lt_of_le q.lt (by rw [z]; exact hb)) (Nat.lt_irrefl _)
  · exact absurd (Nat.lt_of_lt_of_le (Heap.lt_size (I.pin p hp).1) (by rw [z]; exact hb)) (Nat.lt_irrefl _)
structure Turn (P : Program) (w : World) (K : PySem.W.Frag) (tg : Expr) (J : It) (fp : List Addr) (it : Addr) (tn : Nat → Heap → Prop) : Prop where
  mem : it ∈ fp
  obj : ∀ i h, tn i h → ∀ b ∈ fp, ∃ o, h.get? b = some o ∧ ∀ v, o.data ≠ .cell v
  keep : ∀ i h h', tn i h → (∀ b ∈ fp, ∀ o, h.get? b = some o → h'.get? b = some o) → tn i h'
  item : ∀ (X : Cx), X.prog = P → X.w = w → X.K = K → X.calm = true → ∀ (i : Nat) (pins : List (Addr × Obj)) (s : Shared) (σ : St) (H : Hp) (E : Value → Shared → Prop), Inv X pins σ H s → (∀ b ∈ fp, FpOk X pins H b) → tn i s.heap → J.go i H →
    wpAny (model P w) X.A (pyNext (.ref it)) (fun r s1 => ∃ u, r = some u ∧
      wpAny (model P w) X.A (letOwnedTupleGo tg (.ref it) u) (fun _ s2 => ∃ x H', Inv X pins σ H' s2 ∧ RelV x u ∧ J.yld i H x H' ∧ tn (i + 1) s2.heap ∧ ∀ b ∈ fp, H' b = none) E s1) E s
  done : ∀ (X : Cx), X.prog = P → X.w = w → X.K = K → X.calm = true → ∀ (i : Nat) (pins : List (Addr × Obj)) (s : Shared) (σ : St) (H : Hp) (E : Value → Shared → Prop), Inv X pins σ H s → (∀ b ∈ fp, FpOk X pins H b) → tn i s.heap → J.stop i H →
    wpAny (model P w) X.A (pyNext (.ref it)) (fun r s1 => r = none ∧ Inv X pins σ H s1) E s
  self : ∀ (A : Around) (i : Nat) (s : Shared) (Q : Value → Shared → Prop) (E : Value → Shared → Prop), tn i s.heap → Q (.ref it) s → wpAny (model P w) A (pyIter (.ref it)) Q E s
abbrev TI := St → Hp → (It → Hp → Prop) → Prop
def PIE (X : Cx) (pins : List (Addr × Obj)) (σ : St) (tg : Expr) (R : It → Hp → Prop) (itv : Value) (s2 : Shared) : Prop :=
  ∃ (it : Addr) (fp : List Addr) (tn : Nat → Heap → Prop) (J : It) (H' : Hp), itv = .ref it ∧ Inv X pins σ H' s2 ∧ Turn X.prog X.w X.K tg J fp it tn ∧ tn 0 s2.heap ∧ (∀ b ∈ fp, FpOk X pins H' b) ∧ R J H'
def PI (X : Cx) (tg iter : Expr) (wi : TI) : Prop :=
  ∀ (pins : List (Addr × Obj)) (s : Shared) (σ : St) (H : Hp) (R : It → Hp → Prop), Inv X pins σ H s → wi σ H R →
    wpAny (model X.prog X.w) X.A (eval iter X.env) (fun v s1 => wpAny (model X.prog X.w) X.A (pyIter v) (PIE X pins σ tg R) X.xe s1) X.xe s
theorem go_of {M : Model} {A : Around} {E : Value → Shared → Prop} {s : Shared} {tg : Expr} {it : Addr} {u : Value} {o : Obj} {n : String} {vs : Array Value} {Q : Unit → Shared → Prop} (ho : s.heap.get? it = some o) (hc : o.cls = .type n) (hd : o.data = .fields vs)
    (hn : ["enumerate", "zip", "dict_itemiterator", "dict_reverseitemiterator", "odict_iterator", "itertools.zip_longest", "itertools.pairwise"].contains n = false) (hQ : Q () s) : wpAny M A (letOwnedTupleGo tg (.ref it) u) Q E s := by
  unfold letOwnedTupleGo
  cases tg <;> first
    | exact wpAny_pure hQ
    | (cases u <;> first
        | exact wpAny_pure hQ
        | (refine wpAny_bind (wpAny_load ho ?_)
           rw [hc, hd]
           show wpAny M A (if (["enumerate", "zip", "dict_itemiterator", "dict_reverseitemiterator", "odict_iterator", "itertools.zip_longest", "itertools.pairwise"].contains n && vs[0]? == some (rawInt _)) = true then _ else _) Q E s
           rw [if_neg (by intro h; rw [hn, Bool.false_and] at h; cases h)]
           exact wpAny_pure hQ))
def Itl (K : PySem.W.Frag) (a : Addr) : It :=
  ⟨fun i H => ∃ xs x, SqL K H a xs ∧ xs[i]? = some x, fun i H x H' => H' = H ∧ ∀ xs, SqL K H a xs → xs[i]? = some x, fun i H => ∃ xs, SqL K H a xs ∧ xs.length ≤ i⟩
def Itt (K : PySem.W.Frag) (a : Addr) : It :=
  ⟨fun i H => ∃ xs x, SqT K H a xs ∧ xs[i]? = some x, fun i H x H' => H' = H ∧ ∀ xs, SqT K H a xs → xs[i]? = some x, fun i H => ∃ xs, SqT K H a xs ∧ xs.length ≤ i⟩
def Itr (lo : Int) (n : Nat) : It := ⟨fun i _ => i < n, fun i H x H' => H' = H ∧ x = .int (lo + i), fun i _ => n ≤ i⟩
theorem turn_list {P : Program} {w : World} {K : PySem.W.Frag} {tg : Expr} (a it : Addr) : Turn P w K tg (Itl K a) [it] it (fun i h => h.IsListIter it a i) where
  mem := by simp
  obj := fun i h st b hb => by
    have e : b = it := by simpa using hb
    subst e
    obtain ⟨o, e, c, d⟩ := st
    exact ⟨o, e, fun v z => by rw [d] at z; cases z⟩
  keep := fun i h h' st k => st.at fun o e => k it (by simp) o e
  item := by
    intro X hP hw hK hc i pins s σ H E I hf st hg
    subst hP hw hK
    obtain ⟨xs, x, hq, hx⟩ := hg
    obtain ⟨its, rv, p, hz⟩ := I.list hq
    obtain ⟨u, hu, ru⟩ := rv.get hx
    obtain ⟨f0, f1, f2, f3, f4, f5⟩ := hf it (by simp)
    refine wpAny_pyNext_list_item st p.isList (x := u) (by simpa using hu) fun h' st' sb => ?_
    have I1 : Inv X pins σ H { s with heap := h' } := I.turned (t' := s.toks) (fun b o hb e => (sb.2 b hb).trans e) f0 f1 f3 f4 f5
    obtain ⟨o, e, c, d⟩ := id st'
    exact ⟨u, rfl, go_of (s := { s with heap := h' }) e c d (by decide) ⟨x, H, I1, ru, ⟨rfl, fun ys hy => by rw [I.list_inj hy hq]; exact hx⟩, st', fun b hb => (hf b hb).1⟩⟩
  done := by
    intro X hP hw hK hc i pins s σ H E I hf st hg
    subst hP hw hK
    obtain ⟨xs, hq, hx⟩ := hg
    obtain ⟨its, rv, p, hz⟩ := I.list hq
    obtain ⟨f0, f1, f2, f3, f4, f5⟩ := hf it (by simp)
    have hl := rv.length
    exact wpAny_pyNext_list_end (I.ok.hd hc) st p.isList (by simp; omega) fun h' eb => ⟨rfl, I.turned (t' := s.toks) (fun b o hb e => eb b o hb e) f0 f1 f3 f4 f5⟩
  self := fun _ _ _ _ _ st h => wpAny_pyIter_listiter st h
theorem turn_tuple {P : Program} {w : World} {K : PySem.W.Frag} {tg : Expr} (a it : Addr) : Turn P w K tg (Itt K a) [it] it (fun i h => h.IsTupleIter it a i) where
  mem := by simp
  obj := fun i h st b hb => by
    have e : b = it := by simpa using hb
    subst e
    obtain ⟨o, e, c, d⟩ := st
    exact ⟨o, e, fun v z => by rw [d] at z; cases z⟩
  keep := fun i h h' st k => st.at fun o e => k it (by simp) o e
  item := by
    intro X hP hw hK hc i pins s σ H E I hf st hg
    subst hP hw hK
    obtain ⟨xs, x, hq, hx⟩ := hg
    obtain ⟨its, rv, p, hz⟩ := I.tuple hq
    obtain ⟨u, hu, ru⟩ := rv.get hx
    obtain ⟨f0, f1, f2, f3, f4, f5⟩ := hf it (by simp)
    refine wpAny_pyNext_tuple_item st (show s.heap.IsTuple a its.toArray from p) (x := u) (by simpa using hu) fun h' st' sb => ?_
    have I1 : Inv X pins σ H { s with heap := h' } := I.turned (t' := s.toks) (fun b o hb e => (sb.2 b hb).trans e) f0 f1 f3 f4 f5
    obtain ⟨o, e, c, d⟩ := id st'
    exact ⟨u, rfl, go_of (s := { s with heap := h' }) e c d (by decide) ⟨x, H, I1, ru, ⟨rfl, fun ys hy => by rw [I.tuple_inj hy hq]; exact hx⟩, st', fun b hb => (hf b hb).1⟩⟩
  done := by
    intro X hP hw hK hc i pins s σ H E I hf st hg
    subst hP hw hK
    obtain ⟨xs, hq, hx⟩ := hg
    obtain ⟨its, rv, p, hz⟩ := I.tuple hq
    obtain ⟨f0, f1, f2, f3, f4, f5⟩ := hf it (by simp)
    have hl := rv.length
    exact wpAny_pyNext_tuple_end (I.ok.hd hc) st (show s.heap.IsTuple a its.toArray from p) (by simp; omega) fun h' eb => ⟨rfl, I.turned (t' := s.toks) (fun b o hb e => eb b o hb e) f0 f1 f3 f4 f5⟩
  self := fun _ _ _ _ _ st h => wpAny_pyIter_tupleiter st h
end L2
namespace L2
open PySem PySem.Spec PyProof.Rows
section
variable {X : Cx} {tg : Expr}
def iList (K : PySem.W.Frag) (tl : TE) : TI := fun σ H R => tl σ H fun x H1 => ∃ a, x = .ref a ∧ (∃ xs, SqL K H1 a xs) ∧ R (Itl K a) H1
def iTup (K : PySem.W.Frag) (tl : TE) : TI := fun σ H R => tl σ H fun x H1 => ∃ a, x = .ref a ∧ (∃ xs, SqT K H1 a xs) ∧ R (Itt K a) H1
theorem pi_list {l : Expr} {tl : TE} (hl : PE X l tl) : PI X tg l (iList X.K tl) := by
  intro pins s σ H R I h
  refine thn (hl pins s σ H _ I h) fun v s1 ⟨x, H1, I1, r1, q1⟩ => ?_
  obtain ⟨a, e, ⟨xs, hq⟩, q⟩ := q1
  subst e
  cases r1
  obtain ⟨its, rv, p, hz⟩ := I1.list hq
  refine wpAny_pyIter_list p.isList ?_
  refine ⟨s1.heap.objs.size, [s1.heap.objs.size], _, _, H1, rfl, I1.kept (t' := s1.toks) fun b o e => Heap.get?_push_of_some _ e, turn_list a _, ⟨_, Heap.get?_push_size _ rfl, rfl, rfl⟩, fun b hb => ?_, q⟩
  have e : b = s1.heap.objs.size := by simpa using hb
  subst e
  exact I1.fpOk (Nat.le_refl _) (I1.hok.fresh (Nat.le_refl _))
theorem pi_tup {l : Expr} {tl : TE} (hl : PE X l tl) : PI X tg l (iTup X.K tl) := by
  intro pins s σ H R I h
  refine thn (hl pins s σ H _ I h) fun v s1 ⟨x, H1, I1, r1, q1⟩ => ?_
  obtain ⟨a, e, ⟨xs, hq⟩, q⟩ := q1
  subst e
  cases r1
  obtain ⟨its, rv, p, hz⟩ := I1.tuple hq
  refine wpAny_pyIter_tuple (show s1.heap.IsTuple a its.toArray from p) ?_
  refine ⟨s1.heap.objs.size, [s1.heap.objs.size], _, _, H1, rfl, I1.kept (t' := s1.toks) fun b o e => Heap.get?_push_of_some _ e, turn_tuple a _, ⟨_, Heap.get?_push_size _ rfl, rfl, rfl⟩, fun b hb => ?_, q⟩
  have e : b = s1.heap.objs.size := by simpa using hb
  subst e
  exact I1.fpOk (Nat.le_refl _) (I1.hok.fresh (Nat.le_refl _))
def iRng1 (ta : TA) : TI := fun σ H R => ta σ H fun vs H1 => ∃ j : Int, vs = [.int j] ∧ -(2 ^ 62) ≤ j ∧ j < 2 ^ 62 ∧ R (Itr 0 j.toNat) H1
def iRng2 (ta : TA) : TI := fun σ H R => ta σ H fun vs H1 => ∃ i j : Int, vs = [.int i, .int j] ∧ (-(2 ^ 62) ≤ i ∧ i < 2 ^ 62 ∧ -(2 ^ 62) ≤ j ∧ j < 2 ^ 62) ∧ R (Itr i (j - i).toNat) H1
def tFor (wi : TI) (g : TG) (tb : TS) : TS := fun D σ H => wi σ H fun J H1 => ∃ W : Nat → Nat → St → Hp → Prop, (∃ m, W 0 m σ H1) ∧ ∀ i m σ H, W i m σ H →
  (J.stop i H ∧ D.nx σ H) ∨ (J.go i H ∧ ∃ N : St → Hp → Prop, (∀ σ' H', N σ' H' → ∃ m', m' < m ∧ W (i + 1) m' σ' H') ∧ ∀ x H', J.yld i H x H' → g x σ H' fun σ2 H2 => tb { D with nx := N, ct := N, bk := D.nx } σ2 H2)
def pinsAt (fp : List Addr) (h : Heap) : List (Addr × Obj) := fp.filterMap fun b => (h.get? b).map fun o => (b, o)
theorem mem_pinsAt {fp : List Addr} {h : Heap} {b : Addr} {o : Obj} (hb : b ∈ fp) (e : h.get? b = some o) : (b, o) ∈ pinsAt fp h := List.mem_filterMap.mpr ⟨b, hb, by rw [e]; rfl⟩
theorem of_pinsAt {fp : List Addr} {h : Heap} {p : Addr × Obj} (hp : p ∈ pinsAt fp h) : p.1 ∈ fp ∧ h.get? p.1 = some p.2 := by
  obtain ⟨b, hb, e⟩ := List.mem_filterMap.mp hp
  cases q : h.get? b with
  | none => rw [q] at e; cases e
  | some o =>
    rw [q] at e
    have e' : (b, o) = p := Option.some.inj e
    subst e'
    exact ⟨hb, q⟩
theorem Inv.pinned {pins : List (Addr × Obj)} {σ : St} {H : Hp} {s : Shared} {fp : List Addr} (I : Inv X pins σ H s) (hf : ∀ b ∈ fp, FpOk X pins H b) (ho : ∀ b ∈ fp, ∃ o, s.heap.get? b = some o ∧ ∀ v, o.data ≠ .cell v) : Inv X (pins ++ pinsAt fp s.heap) σ H s :=
  I.pins_of fun p hp => (List.mem_append.mp hp).elim (fun z => I.pin p (List.mem_append_right _ z)) fun z => by
    obtain ⟨hb, e⟩ := of_pinsAt z
    obtain ⟨f0, f1, f2, _⟩ := hf p.1 hb
    obtain ⟨o, e', d⟩ := ho p.1 hb
    rw [e] at e'; cases e'
    exact ⟨e, f0, f1, f2, d⟩
theorem Inv.unpinned {pins pl : List (Addr × Obj)} {σ : St} {H : Hp} {s : Shared} (I : Inv X (pins ++ pl) σ H s) : Inv X pins σ H s := I.pins_of fun p hp => I.pin p (List.mem_append_right _ (List.mem_append_left _ hp))
theorem ps_for {iter : Expr} {body : List Stmt} {wi : TI} {g : TG} {tb : TS} {pos : Pos} (hp : PassesOwn (model X.prog X.w) X.A X.env X.xe) (hc : X.calm = true) (hi : PI X tg iter wi) (hg : PG X tg g) (hb : PSs X body tb)
    (hs : ∀ x, foldedSetIterable iter X.env x = pure x := by intro _; rfl) : PS X (.For tg iter body [] pos) (tFor wi g tb) := by
  intro pins s σ H D I h
  refine wpAny_For (thn (hi pins s σ H _ I h) fun v s1 h1 => thn h1 fun itv s2 h2 => ?_) hs
  obtain ⟨it, fp, tn, J, H2, e, I2, T, st2, f2, W, ⟨m0, w0⟩, turn⟩ := h2
  subst e
  have stat : ∀ {H' : Hp}, (∀ b ∈ fp, H' b = none) → ∀ b ∈ fp, FpOk X pins H' b := fun hn b hb => ⟨hn b hb, (f2 b hb).2⟩
  refine codeAny_forLoop_any (fun n s' => ∃ i σ' H', Inv X pins σ' H' s' ∧ tn i s'.heap ∧ (∀ b ∈ fp, H' b = none) ∧ W i n σ' H') ?_ m0 ⟨0, σ, H2, I2, st2, fun b hb => (f2 b hb).1, w0⟩
  rintro n s3 ⟨i, σ3, H3, I3, st3, fr3, w3⟩
  rcases turn i n σ3 H3 w3 with ⟨stop, qn⟩ | ⟨go, N, hN, step⟩
  · refine wpAny_passesOwn hp (thn (T.done X rfl rfl rfl hc i pins s3 σ3 H3 X.xe I3 (stat fr3) st3 stop) fun r s4 ⟨hr, I4⟩ => ?_)
    subst hr
    exact wpAny_execs_nil ⟨σ3, H3, I4, qn⟩
  · refine wpAny_passesOwn hp (thn (T.item X rfl rfl rfl hc i pins s3 σ3 H3 X.xe I3 (stat fr3) st3 go) fun r s4 ⟨u, hr, h4⟩ => ?_)
    subst hr
    refine wpAny_passesOwn hp (thn h4 fun _ s5 ⟨x, H5, I5, r5, y5, st5, fr5⟩ => ?_)
    have I5' := I5.pinned (stat fr5) (T.obj _ _ st5)
    refine wpAny_passesOwn hp (thn (hg _ s5 σ3 H5 x u _ I5' r5 (step x H5 y5)) fun _ s6 ⟨σ6, H6, I6, q6⟩ => ?_)
    refine wpAny_passesOwn hp (thn (hb _ s6 σ6 H6 _ I6 q6) fun f s7 q7 => ?_)
    have again : ∀ {σ7 : St} {H7 : Hp}, Inv X (pins ++ pinsAt fp s5.heap) σ7 H7 s7 → N σ7 H7 → ∃ m, m < n ∧ ∃ i σ' H', Inv X pins σ' H' s7 ∧ tn i s7.heap ∧ (∀ b ∈ fp, H' b = none) ∧ W i m σ' H' := fun {σ7 H7} I7 n7 => by
      obtain ⟨m', hm, w7⟩ := hN σ7 H7 n7
      refine ⟨m', hm, i + 1, σ7, H7, I7.unpinned, T.keep _ _ _ st5 fun b hb o e => (I7.pin (b, o) (List.mem_append_right _ (List.mem_append_right _ (mem_pinsAt hb e)))).1, fun b hb => ?_, w7⟩
      obtain ⟨o, e, d⟩ := T.obj _ _ st5 b hb
      exact (I7.pin (b, o) (List.mem_append_right _ (List.mem_append_right _ (mem_pinsAt hb e)))).2.1
    cases f with
    | next => obtain ⟨σ7, H7, I7, n7⟩ := q7; exact again I7 n7
    | cont => obtain ⟨σ7, H7, I7, n7⟩ := q7; exact again I7 n7
    | brk => obtain ⟨σ7, H7, I7, q7⟩ := q7; exact ⟨σ7, H7, I7.unpinned, q7⟩
    | ret v => obtain ⟨x7, σ7, H7, I7, r7, q7⟩ := q7; exact ⟨x7, σ7, H7, I7.unpinned, r7, q7⟩
end
theorem for_list {K : PySem.W.Frag} {a : Addr} {xs : List V} {g : TG} {tb : TS} {D : Ends} {σ : St} {H : Hp} (Pv : Nat → St → Hp → Prop) (h0 : Pv 0 σ H) (hl : ∀ i σ H, i ≤ xs.length → Pv i σ H → SqL K H a xs)
    (hs : ∀ i x σ H, xs[i]? = some x → Pv i σ H → g x σ H fun σ2 H2 => tb { D with nx := Pv (i + 1), ct := Pv (i + 1), bk := D.nx } σ2 H2) (hd : ∀ σ H, Pv xs.length σ H → D.nx σ H) :
    ∃ W : Nat → Nat → St → Hp → Prop, (∃ m, W 0 m σ H) ∧ ∀ i m σ H, W i m σ H →
      ((Itl K a).stop i H ∧ D.nx σ H) ∨ ((Itl K a).go i H ∧ ∃ N : St → Hp → Prop, (∀ σ' H', N σ' H' → ∃ m', m' < m ∧ W (i + 1) m' σ' H') ∧ ∀ x H', (Itl K a).yld i H x H' → g x σ H' fun σ2 H2 => tb { D with nx := N, ct := N, bk := D.nx } σ2 H2) := by
  refine ⟨fun i m σ H => m = xs.length - i ∧ i ≤ xs.length ∧ Pv i σ H, ⟨xs.length, by simp, Nat.zero_le _, h0⟩, ?_⟩
  rintro i m σ H ⟨rfl, hi, p⟩
  have q := hl i σ H hi p
  by_cases hlt : i < xs.length
  · refine .inr ⟨⟨xs, xs[i], q, by simp [hlt]⟩, Pv (i + 1), fun σ' H' p' => ⟨xs.length - (i + 1), by omega, rfl, hlt, p'⟩, fun x H' y => ?_⟩
    obtain ⟨e, y⟩ := y
    subst e
    exact hs i x σ _ (y xs q) p
  · have e : i = xs.length := by omega
    subst e
    exact .inl ⟨⟨xs, q, Nat.le_refl _⟩, hd σ H p⟩
end L2
namespace L2
open PySem PySem.Spec PyProof.Rows
abbrev R2 := V → V → Hp → VK → Prop
def OpR (X : Cx) (f : Value → Value → Sem Value) (r : R2) : Prop :=
  ∀ (pins : List (Addr × Obj)) (s : Shared) (σ : St) (H : Hp) (x y : V) (v u : Value) (Q : VK), Inv X pins σ H s → RelV x v → RelV y u → r x y H Q →
    wpAny (model X.prog X.w) X.A (f v u) (EP X pins σ Q) X.xe s
def UnR (X : Cx) (f : Value → Sem Value) (r : V → Hp → VK → Prop) : Prop :=
  ∀ (pins : List (Addr × Obj)) (s : Shared) (σ : St) (H : Hp) (x : V) (v : Value) (Q : VK), Inv X pins σ H s → RelV x v → r x H Q →
    wpAny (model X.prog X.w) X.A (f v) (EP X pins σ Q) X.xe s
def CallR (X : Cx) (f : Value) (r : List V → Hp → VK → Prop) : Prop :=
  ∀ (pins : List (Addr × Obj)) (s : Shared) (σ : St) (H : Hp) (xs : List V) (us : List Value) (Q : VK), Inv X pins σ H s → Vals xs us → r xs H Q →
    wpAny (model X.prog X.w) X.A (call f us) (EP X pins σ Q) X.xe s
def TruR (X : Cx) (r : V → Hp → (Bool → Hp → Prop) → Prop) : Prop :=
  ∀ (pins : List (Addr × Obj)) (s : Shared) (σ : St) (H : Hp) (x : V) (v : Value) (Q : Bool → Hp → Prop), Inv X pins σ H s → RelV x v → r x H Q →
    wpAny (model X.prog X.w) X.A (truthy v) (TP X pins σ Q) X.xe s
def tOp (r : R2) (ta tb : TE) : TE := fun σ H Q => ta σ H fun x H1 => tb σ H1 fun y H2 => r x y H2 Q
def tUn (r : V → Hp → VK → Prop) (ta : TE) : TE := fun σ H Q => ta σ H fun x H1 => r x H1 Q
def rI (C : Int → Int → Prop) (g : Int → Int → V) : R2 := fun x y H Q => ∃ i j, x = .int i ∧ y = .int j ∧ C i j ∧ Q (g i j) H
def rI0 (g : Int → Int → V) : R2 := fun x y H Q => ∃ i j, x = .int i ∧ y = .int j ∧ Q (g i j) H
def rU (g : Int → V) : V → Hp → VK → Prop := fun x H Q => ∃ i, x = .int i ∧ Q (g i) H
section
variable {X : Cx} {a b c : Expr} {ta tb tc : TE} {pos : Pos}
theorem binT (ha : PE X a ta) (hb : PE X b tb) {pins : List (Addr × Obj)} {s : Shared} {σ : St} {H : Hp} {R : V → V → Hp → Prop} (I : Inv X pins σ H s)
    (h : ta σ H fun x H1 => tb σ H1 fun y H2 => R x y H2) {Q : Value → Shared → Prop} {f : Value → Value → Sem Value}
    (hf : ∀ v u s2 x y H2, Inv X pins σ H2 s2 → RelV x v → RelV y u → R x y H2 → wpAny (model X.prog X.w) X.A (f v u) Q X.xe s2) :
    wpAny (model X.prog X.w) X.A (eval a X.env) (fun v s₁ => wpAny (model X.prog X.w) X.A (eval b X.env) (fun u s₂ => wpAny (model X.prog X.w) X.A (f v u) Q X.xe s₂) X.xe s₁) X.xe s := by
  refine thn (ha pins s σ H _ I h) fun v s1 ⟨x, H1, I1, r1, q1⟩ => ?_
  refine thn (hb pins s1 σ H1 _ I1 q1) fun u s2 ⟨y, H2, I2, r2, q2⟩ => ?_
  exact hf v u s2 x y H2 I2 r1 r2 q2
theorem pe_op {op : Operator} {r : R2} (ho : OpR X (binaryOp op) r) (ha : PE X a ta) (hb : PE X b tb) : PE X (.BinOp a op b pos) (tOp r ta tb) := by
  intro pins s σ H Q I h
  exact wpAny_BinOp (binT ha hb I h fun v u s2 x y H2 I2 rx ry q => ho pins s2 σ H2 x y v u Q I2 rx ry q)
theorem pe_un {op : UnaryOp} {r : V → Hp → VK → Prop} (ho : UnR X (unaryOp op) r) (ha : PE X a ta) : PE X (.UnaryOp op a pos) (tUn r ta) := by
  intro pins s σ H Q I h
  exact UnaryOp_ (thn (ha pins s σ H _ I h) fun v s1 ⟨x, H1, I1, r1, q1⟩ => ho pins s1 σ H1 x v Q I1 r1 q1)
theorem opI {f : Value → Value → Sem Value} {C : Int → Int → Prop} {g : Int → Int → Int}
    (rule : ∀ (i j : Int) (t u : Tok) (s : Shared) (Q : Value → Shared → Prop) (E : Value → Shared → Prop), C i j → Q (.int (g i j) s.toks) { s with toks := s.toks + 1 } → wpAny (model X.prog X.w) X.A (f (.int i t) (.int j u)) Q E s) :
    OpR X f (rI C fun i j => .int (g i j)) := by
  intro pins s σ H x y v u Q I rx ry h
  obtain ⟨i, j, rfl, rfl, hc, q⟩ := h
  obtain ⟨t, rfl⟩ := rx
  obtain ⟨t', rfl⟩ := ry
  exact rule i j t t' s _ _ hc ⟨.int (g i j), H, I.tok _, ⟨_, rfl⟩, q⟩
theorem opI0 {f : Value → Value → Sem Value} {g : Int → Int → Int}
    (rule : ∀ (i j : Int) (t u : Tok) (s : Shared) (Q : Value → Shared → Prop) (E : Value → Shared → Prop), Q (.int (g i j) s.toks) { s with toks := s.toks + 1 } → wpAny (model X.prog X.w) X.A (f (.int i t) (.int j u)) Q E s) :
    OpR X f (rI0 fun i j => .int (g i j)) := by
  intro pins s σ H x y v u Q I rx ry h
  obtain ⟨i, j, rfl, rfl, q⟩ := h
  obtain ⟨t, rfl⟩ := rx
  obtain ⟨t', rfl⟩ := ry
  exact rule i j t t' s _ _ ⟨.int (g i j), H, I.tok _, ⟨_, rfl⟩, q⟩
theorem opB0 {f : Value → Value → Sem Value} {g : Int → Int → Bool}
    (rule : ∀ (i j : Int) (t u : Tok) (s : Shared) (Q : Value → Shared → Prop) (E : Value → Shared → Prop), Q (.bool (g i j)) s → wpAny (model X.prog X.w) X.A (f (.int i t) (.int j u)) Q E s) :
    OpR X f (rI0 fun i j => .bl (g i j)) := by
  intro pins s σ H x y v u Q I rx ry h
  obtain ⟨i, j, rfl, rfl, q⟩ := h
  obtain ⟨t, rfl⟩ := rx
  obtain ⟨t', rfl⟩ := ry
  exact rule i j t t' s _ _ ⟨.bl (g i j), H, I, rfl, q⟩
def CPow (i j : Int) : Prop := 0 ≤ j ∧ j ≤ 1000000 ∧ i.natAbs < 2 ^ 64
def CMul (i j : Int) : Prop := (-(2 ^ 64) < i ∧ i < 2 ^ 64) ∨ (-(2 ^ 64) < j ∧ j < 2 ^ 64)
theorem CMul.ok {i j : Int} (h : CMul i j) : IntMulOk i j := by
  rcases h with ⟨h1, h2⟩ | ⟨h1, h2⟩
  · exact .of_left (intBits_le_64 h1 h2)
  · exact .of_right (intBits_le_64 h1 h2)
theorem op_add : OpR X (binaryOp .Add) (rI0 fun i j => .int (i + j)) := opI0 fun _ _ _ _ _ _ _ q => add_int q
theorem op_sub : OpR X (binaryOp .Sub) (rI0 fun i j => .int (i - j)) := opI0 fun _ _ _ _ _ _ _ q => sub_int q
theorem op_mul : OpR X (binaryOp .Mult) (rI CMul fun i j => .int (i * j)) := opI fun _ _ _ _ _ _ _ hc q => mul_int q hc.ok
theorem op_mod : OpR X (binaryOp .Mod) (rI (fun _ j => 0 < j) fun i j => .int (i % j)) := opI fun i j _ _ _ _ _ hc q => by
  have h1 : (0 : Int) < j := hc
  exact mod_int' (by omega) (by rw [Int.fmod_eq_emod_of_nonneg i (by omega)]; exact q)
theorem op_pow : OpR X (binaryOp .Pow) (rI CPow fun i j => .int (i ^ j.toNat)) := opI fun _ _ _ _ _ _ _ hc q => pow_int_small hc.1 hc.2.1 hc.2.2 q
theorem unI {f : Value → Sem Value} {g : Int → Int}
    (rule : ∀ (i : Int) (t : Tok) (s : Shared) (Q : Value → Shared → Prop) (E : Value → Shared → Prop), Q (.int (g i) s.toks) { s with toks := s.toks + 1 } → wpAny (model X.prog X.w) X.A (f (.int i t)) Q E s) :
    UnR X f (rU fun i => .int (g i)) := by
  intro pins s σ H x v Q I rx h
  obtain ⟨i, rfl, q⟩ := h
  obtain ⟨t, rfl⟩ := rx
  exact rule i t s _ _ ⟨.int (g i), H, I.tok _, ⟨_, rfl⟩, q⟩
theorem un_neg : UnR X (unaryOp .USub) (rU fun i => .int (-i)) := unI fun _ _ _ _ _ q => neg_int q
end
def scal : V → V → Bool
  | .non, .non => true | .non, .int _ => true | .int _, .non => true | .non, .bl _ => true | .bl _, .non => true | .non, .str _ => true | .str _, .non => true
  | .int _, .int _ => true | .bl _, .bl _ => true | .str _, .str _ => true | .byt _, .byt _ => true
  | .int _, .str _ => true | .str _, .int _ => true | .bl _, .str _ => true | .str _, .bl _ => true
  | _, _ => false
def rEq : R2 := fun x y H Q => scal x y = true ∧ Q (.bl (decide (x = y))) H
def rNe : R2 := fun x y H Q => scal x y = true ∧ Q (.bl (!decide (x = y))) H
theorem dec_int {i j : Int} : decide (V.int i = V.int j) = (i == j) := by
  rw [Bool.eq_iff_iff]
  simp
theorem dec_bl {i j : Bool} : decide (V.bl i = V.bl j) = (i == j) := by
  rw [Bool.eq_iff_iff]
  simp
theorem dec_str {i j : Str} : decide (V.str i = V.str j) = (i == j) := by
  rw [Bool.eq_iff_iff]
  simp
theorem dec_byt {i j : Array UInt8} : decide (V.byt i = V.byt j) = (i.toList == j.toList) := by
  rw [Bool.eq_iff_iff]
  cases i
  cases j
  simp
section
variable {X : Cx} {a b c : Expr} {ta tb tc : TE} {pos : Pos}
theorem fin_bl {pins : List (Addr × Obj)} {σ : St} {H : Hp} {s : Shared} {Q : VK} {k k' : Bool} (I : Inv X pins σ H s) (q : Q (.bl k) H) (e : k = k') : EP X pins σ Q (.bool k') s := by
  subst e
  exact ⟨.bl k, H, I, rfl, q⟩
theorem op_eq : OpR X (compareOp .Eq) rEq := by
  intro pins s σ H x y v u Q I rx ry h
  obtain ⟨hs, q⟩ := h
  cases x with
  | non =>
    cases rx
    cases y with
    | non => cases ry; exact PySem.EqNone.eq_none_none (fin_bl I q (by simp))
    | bl j => cases ry; exact PySem.EqNone.eq_none_bool (fin_bl I q (by simp))
    | int j => obtain ⟨t', rfl⟩ := ry; exact PySem.EqNone.eq_none_int (fin_bl I q (by simp))
    | str j => obtain ⟨t', rfl⟩ := ry; exact PySem.EqNone.eq_none_str (fin_bl I q (by simp))
    | _ => exact absurd (show false = true from hs) Bool.false_ne_true
  | bl i =>
    cases rx
    cases y with
    | non => cases ry; exact PySem.EqNone.eq_bool_none (fin_bl I q (by simp))
    | bl j => cases ry; exact eq_bool (fin_bl I q dec_bl)
    | str j => obtain ⟨t', rfl⟩ := ry; exact PySem.EqMixed.eq_bool_str (fin_bl I q (by simp))
    | _ => exact absurd (show false = true from hs) Bool.false_ne_true
  | int i =>
    obtain ⟨t, rfl⟩ := rx
    cases y with
    | non => cases ry; exact PySem.EqNone.eq_int_none (fin_bl I q (by simp))
    | int j => obtain ⟨t', rfl⟩ := ry; exact eq_int (fin_bl I q dec_int)
    | str j => obtain ⟨t', rfl⟩ := ry; exact PySem.EqMixed.eq_int_str (fin_bl I q (by simp))
    | _ => exact absurd (show false = true from hs) Bool.false_ne_true
  | str i =>
    obtain ⟨t, rfl⟩ := rx
    cases y with
    | non => cases ry; exact PySem.EqNone.eq_str_none (fin_bl I q (by simp))
    | bl j => cases ry; exact PySem.EqMixed.eq_str_bool (fin_bl I q (by simp))
    | int j => obtain ⟨t', rfl⟩ := ry; exact PySem.EqMixed.eq_str_int (fin_bl I q (by simp))
    | str j => obtain ⟨t', rfl⟩ := ry; exact eq_str (fin_bl I q dec_str)
    | _ => exact absurd (show false = true from hs) Bool.false_ne_true
  | byt i =>
    obtain ⟨t, rfl⟩ := rx
    cases y with
    | byt j => obtain ⟨t', rfl⟩ := ry; exact PySem.W.eq_bytes (fin_bl I q dec_byt)
    | _ => exact absurd (show false = true from hs) Bool.false_ne_true
  | _ => cases y <;> exact absurd (show false = true from hs) Bool.false_ne_true
theorem op_ne : OpR X (compareOp .NotEq) rNe := by
  intro pins s σ H x y v u Q I rx ry h
  obtain ⟨hs, q⟩ := h
  cases x with
  | non =>
    cases rx
    cases y with
    | non => cases ry; exact PySem.EqNone.ne_none_none (fin_bl I q (by simp))
    | bl j => cases ry; exact PySem.EqNone.ne_none_bool (fin_bl I q (by simp))
    | int j => obtain ⟨t', rfl⟩ := ry; exact PySem.EqNone.ne_none_int (fin_bl I q (by simp))
    | str j => obtain ⟨t', rfl⟩ := ry; exact PySem.EqNone.ne_none_str (fin_bl I q (by simp))
    | _ => exact absurd (show false = true from hs) Bool.false_ne_true
  | bl i =>
    cases rx
    cases y with
    | non => cases ry; exact PySem.EqNone.ne_bool_none (fin_bl I q (by simp))
    | bl j => cases ry; exact ne_bool (fin_bl I q (congrArg not dec_bl))
    | str j => obtain ⟨t', rfl⟩ := ry; exact PySem.EqMixed.ne_bool_str (fin_bl I q (by simp))
    | _ => exact absurd (show false = true from hs) Bool.false_ne_true
  | int i =>
    obtain ⟨t, rfl⟩ := rx
    cases y with
    | non => cases ry; exact PySem.EqNone.ne_int_none (fin_bl I q (by simp))
    | int j => obtain ⟨t', rfl⟩ := ry; exact ne_int (fin_bl I q (congrArg not dec_int))
    | str j => obtain ⟨t', rfl⟩ := ry; exact PySem.EqMixed.ne_int_str (fin_bl I q (by simp))
    | _ => exact absurd (show false = true from hs) Bool.false_ne_true
  | str i =>
    obtain ⟨t, rfl⟩ := rx
    cases y with
    | non => cases ry; exact PySem.EqNone.ne_str_none (fin_bl I q (by simp))
    | bl j => cases ry; exact PySem.EqMixed.ne_str_bool (fin_bl I q (by simp))
    | int j => obtain ⟨t', rfl⟩ := ry; exact PySem.EqMixed.ne_str_int (fin_bl I q (by simp))
    | str j => obtain ⟨t', rfl⟩ := ry; exact ne_str (fin_bl I q (congrArg not dec_str))
    | _ => exact absurd (show false = true from hs) Bool.false_ne_true
  | byt i =>
    obtain ⟨t, rfl⟩ := rx
    cases y with
    | byt j => obtain ⟨t', rfl⟩ := ry; exact PySem.W.ne_bytes (fin_bl I q (congrArg not dec_byt))
    | _ => exact absurd (show false = true from hs) Bool.false_ne_true
  | _ => cases y <;> exact absurd (show false = true from hs) Bool.false_ne_true
theorem op_lt : OpR X (compareOp .Lt) (rI0 fun i j => .bl (decide (i < j))) := opB0 fun _ _ _ _ _ _ _ q => lt_int q
theorem op_le : OpR X (compareOp .LtE) (rI0 fun i j => .bl (decide (i ≤ j))) := opB0 fun _ _ _ _ _ _ _ q => le_int q
theorem op_gt : OpR X (compareOp .Gt) (rI0 fun i j => .bl (decide (j < i))) := opB0 fun _ _ _ _ _ _ _ q => gt_int q
theorem op_ge : OpR X (compareOp .GtE) (rI0 fun i j => .bl (decide (j ≤ i))) := opB0 fun _ _ _ _ _ _ _ q => ge_int q
theorem op_isN : OpR X (compareOp .Is) (fun x y H Q => y = .non ∧ Q (.bl (decide (x = .non))) H) := by
  intro pins s σ H x y v u Q I rx ry h
  obtain ⟨rfl, q⟩ := h
  cases ry
  refine is_none_gen (fin_bl I q ?_)
  cases x <;> first
    | (cases rx; rfl)
    | (obtain ⟨t, rfl⟩ := rx; rfl)
theorem op_notN : OpR X (compareOp .IsNot) (fun x y H Q => y = .non ∧ Q (.bl (!decide (x = .non))) H) := by
  intro pins s σ H x y v u Q I rx ry h
  obtain ⟨rfl, q⟩ := h
  cases ry
  refine isnot_none_gen (fin_bl I q ?_)
  cases x <;> first
    | (cases rx; rfl)
    | (obtain ⟨t, rfl⟩ := rx; rfl)
theorem OpR.or {f : Value → Value → Sem Value} {r r' : R2} (h : OpR X f r) (h' : OpR X f r') : OpR X f (fun x y H Q => r x y H Q ∨ r' x y H Q) := by
  intro pins s σ H x y v u Q I rx ry q
  rcases q with q | q
  · exact h pins s σ H x y v u Q I rx ry q
  · exact h' pins s σ H x y v u Q I rx ry q
theorem nomark (b : Expr) {op : CmpOp} (h : op ≠ .In := by decide) (h2 : op ≠ .NotIn := by decide) : behindInMarks op b = false := by
  have e1 : (op == CmpOp.In) = false := by cases op <;> first | rfl | exact absurd rfl h
  have e2 : (op == CmpOp.NotIn) = false := by cases op <;> first | rfl | exact absurd rfl h2
  cases b <;> simp [behindInMarks, e1, e2]
theorem pe_cmpR {op : CmpOp} {r : R2} (ho : OpR X (compareOp op) r) (ha : PE X a ta) (hb : PE X b tb) (hm : behindInMarks op b = false) : PE X (.Compare a [op] [b] pos) (tOp r ta tb) := by
  intro pins s σ H Q I h
  exact wpAny_Compare1 (binT ha hb I h fun v u s2 x y H2 I2 rx ry q => ho pins s2 σ H2 x y v u Q I2 rx ry q) hm
def tTest (t : TE) : TT := fun σ H Q => t σ H fun x H' => ∃ k, x = .bl k ∧ Q k H'
theorem pt_cmpR {op : CmpOp} {r : R2} (ho : OpR X (compareOp op) r) (ha : PE X a ta) (hb : PE X b tb) (hm : behindInMarks op b = false) : PT X (.Compare a [op] [b] pos) (tTest (tOp r ta tb)) := by
  intro pins s σ H Q I h
  refine wpAny_isTrue_Compare1 (thn (ha pins s σ H _ I h) fun v s1 ⟨x, H1, I1, r1, q1⟩ => thn (hb pins s1 σ H1 _ I1 q1) fun u s2 ⟨y, H2, I2, r2, q2⟩ =>
    thn (ho pins s2 σ H2 x y v u _ I2 r1 r2 q2) fun c s3 ⟨z, H3, I3, r3, k, e, q3⟩ => ?_) hm
  subst e
  cases r3
  exact wpAny_truthy_bool ⟨H3, I3, q3⟩
def tChain (r r' : R2) (ta tb tc : TE) : TE := fun σ H Q => ta σ H fun x H1 => tb σ H1 fun y H2 => r x y H2 fun z H3 => ∃ k, z = .bl k ∧
  (if k = true then tc σ H3 fun w' H4 => r' y w' H4 Q else Q (.bl false) H3)
theorem pe_chain {op op' : CmpOp} {r r' : R2} (ho : OpR X (compareOp op) r) (ho' : OpR X (compareOp op') r') (ha : PE X a ta) (hb : PE X b tb) (hc : PE X c tc)
    (hm : lastMarks [op, op'] [b, c] = false := by with_unfolding_all rfl) : PE X (.Compare a [op, op'] [b, c] pos) (tChain r r' ta tb tc) := by
  intro pins s σ H Q I h
  refine Compare_chain (thn (ha pins s σ H _ I h) fun v s1 ⟨x, H1, I1, r1, q1⟩ => chain_link (thn (hb pins s1 σ H1 _ I1 q1) fun u s2 ⟨y, H2, I2, r2, q2⟩ =>
    thn (ho pins s2 σ H2 x y v u _ I2 r1 r2 q2) fun d s3 ⟨z, H3, I3, r3, k, e, q3⟩ => ?_)) hm
  subst e
  cases r3
  refine wpAny_truthy_bool ?_
  cases k with
  | false => exact ite_ff ⟨.bl false, H3, I3, rfl, q3⟩
  | true => exact ite_tt (chain_last (thn (hc pins s3 σ H3 _ I3 q3) fun w' s4 ⟨z', H4, I4, r4, q4⟩ => ho' pins s4 σ H4 y z' u w' Q I4 r2 r4 q4))
theorem pt_chain {op op' : CmpOp} {r r' : R2} (ho : OpR X (compareOp op) r) (ho' : OpR X (compareOp op') r') (ha : PE X a ta) (hb : PE X b tb) (hc : PE X c tc)
    (hm : lastMarks [op, op'] [b, c] = false := by with_unfolding_all rfl) : PT X (.Compare a [op, op'] [b, c] pos) (tTest (tChain r r' ta tb tc)) := by
  intro pins s σ H Q I h
  refine isTrue_chain (thn (ha pins s σ H _ I h) fun v s1 ⟨x, H1, I1, r1, q1⟩ => test_link (thn (hb pins s1 σ H1 _ I1 q1) fun u s2 ⟨y, H2, I2, r2, q2⟩ =>
    thn (ho pins s2 σ H2 x y v u _ I2 r1 r2 q2) fun d s3 ⟨z, H3, I3, r3, k, e, q3⟩ => ?_)) hm
  subst e
  cases r3
  refine wpAny_truthy_bool ?_
  cases k with
  | false =>
    obtain ⟨k', e', q'⟩ := q3
    cases e'
    exact ite_ff ⟨H3, I3, q'⟩
  | true =>
    refine ite_tt (test_last (thn (hc pins s3 σ H3 _ I3 q3) fun w' s4 ⟨z', H4, I4, r4, q4⟩ => thn (ho' pins s4 σ H4 y z' u w' _ I4 r2 r4 q4) fun d' s5 ⟨z2, H5, I5, r5, k2, e2, q5⟩ => ?_))
    subst e2
    cases r5
    exact wpAny_truthy_bool ⟨H5, I5, q5⟩
def TruV (K : PySem.W.Frag) (x : V) (H : Hp) (k : Bool) : Prop :=
  match x with
  | .non => k = false
  | .bl b => k = b
  | .int i => k = (i != 0)
  | .str y => y.length ≤ sizeLine ∧ k = ((y.length : Int) != 0)
  | .byt y => y.size ≤ sizeLine ∧ k = ((y.size : Int) != 0)
  | .ref p => (∃ xs, SqL K H p xs ∧ k = !xs.isEmpty) ∨ (∃ xs, SqT K H p xs ∧ k = !xs.isEmpty) ∨ ∃ kvs, H p = some (.dK kvs) ∧ k = !kvs.isEmpty
  | _ => False
theorem isEmpty_kv {κ : Type} {kvs : List (κ × V)} {vs : List (κ × Value)} (r : KV kvs vs) : (!vs.isEmpty) = !kvs.isEmpty := by
  cases r <;> rfl
theorem isEmpty_of {xs : List V} {its : List Value} (r : Vals xs its) : (!its.toArray.isEmpty) = !xs.isEmpty := by
  cases r <;> simp
theorem line63 : (sizeLine : Nat) < 2 ^ 63 := by rw [sizeLine_eq]; decide
theorem tru_ok : TruR X (fun x H Q => ∃ k, TruV X.K x H k ∧ Q k H) := by
  intro pins s σ H x v Q I rx h
  obtain ⟨k, e, q⟩ := h
  have hl := line63
  have hs : sizeLine = 16777216 := sizeLine_eq
  cases x with
  | non =>
    cases rx
    have e' : k = false := e
    subst e'
    exact truthy_none ⟨H, I, q⟩
  | bl b =>
    cases rx
    have e' : k = b := e
    subst e'
    exact wpAny_truthy_bool ⟨H, I, q⟩
  | int i =>
    obtain ⟨t, rfl⟩ := rx
    have e' : k = (i != 0) := e
    subst e'
    exact PySem.P.truthy_int ⟨H, I, q⟩
  | str y =>
    obtain ⟨t, rfl⟩ := rx
    obtain ⟨hy, e'⟩ : y.length ≤ sizeLine ∧ k = ((y.length : Int) != 0) := e
    subst e'
    exact PySem.P.truthy_str (by omega) ⟨H, I.tok _, q⟩
  | byt y =>
    obtain ⟨t, rfl⟩ := rx
    obtain ⟨hy, e'⟩ : y.size ≤ sizeLine ∧ k = ((y.size : Int) != 0) := e
    subst e'
    exact PySem.W.truthy_bytes (by omega) ⟨H, I.tok _, q⟩
  | ref p =>
    cases rx
    have e' : (∃ xs, SqL X.K H p xs ∧ k = !xs.isEmpty) ∨ (∃ xs, SqT X.K H p xs ∧ k = !xs.isEmpty) ∨ ∃ kvs, H p = some (.dK kvs) ∧ k = !kvs.isEmpty := e
    rcases e' with ⟨xs, hx, e'⟩ | ⟨xs, hx, e'⟩ | ⟨kvs, hx, e'⟩
    · subst e'
      obtain ⟨its, r, pl, hz⟩ := I.list hx
      have hlen := r.length
      exact wpAny_truthy_list pl.isList (by simp only [List.size_toArray]; omega) ⟨H, I.tok _, by rw [isEmpty_of r]; exact q⟩
    · subst e'
      obtain ⟨its, r, pl, hz⟩ := I.tuple hx
      have hlen := r.length
      exact truthy_tuple pl (by simp only [List.size_toArray]; omega) ⟨H, I.tok _, by rw [isEmpty_of r]; exact q⟩
    · subst e'
      obtain ⟨hz, hS, vs, r, m⟩ : kvs.length ≤ sizeLine ∧ (p == sysModules) = false ∧ ∃ vs, KV kvs vs ∧ s.heap.DictOf (mixKind X.prog X.w) p vs := I.hok p _ hx
      have hlen : kvs.length = vs.length := Paired.length r
      exact wpAny_truthy_dict hS m (by omega) ⟨H, I.tok _, by rw [isEmpty_kv r]; exact q⟩
  | _ => exact (show False from e).elim
theorem pt_truth (ha : PE X a ta) (he : ∀ whole, isTrue a X.env whole = (do let v ← whole; standAt a.pos; holding [v] (truthy v))) :
    PT X a (fun σ H Q => ta σ H fun x H' => ∃ k, TruV X.K x H' k ∧ Q k H') := by
  intro pins s σ H Q I h
  exact isTrue_plain (thn (ha pins s σ H _ I h) fun v s1 ⟨x, H1, I1, r1, q1⟩ => tru_ok pins s1 σ H1 x v Q I1 r1 q1) (he _)
theorem op_add_str : OpR X (binaryOp .Add) (fun x y H Q => ∃ i j, x = .str i ∧ y = .str j ∧ i.length + j.length ≤ sizeLine ∧ Q (.str (i ++ j)) H) := by
  intro pins s σ H x y v u Q I rx ry h
  obtain ⟨i, j, rfl, rfl, hz, q⟩ := h
  obtain ⟨t, rfl⟩ := rx
  obtain ⟨t', rfl⟩ := ry
  exact add_str (fun t' tk => ⟨.str (i ++ j), H, I.tok _, ⟨_, rfl⟩, q⟩) hz
theorem vals1 {x : V} {us : List Value} (r : Vals [x] us) : ∃ u, us = [u] ∧ RelV x u := by
  cases r with
  | cons r1 r2 => cases r2; exact ⟨_, rfl, r1⟩
theorem vals2 {x y : V} {us : List Value} (r : Vals [x, y] us) : ∃ u w', us = [u, w'] ∧ RelV x u ∧ RelV y w' := by
  cases r with
  | cons r1 r2 =>
    cases r2 with
    | cons r3 r4 => cases r4; exact ⟨_, _, rfl, r1, r3⟩
theorem call_min2 (hc : X.calm = true) : CallR X (.builtin "min") (fun xs H Q => ∃ i j, xs = [.int i, .int j] ∧ Q (.int (if j < i then j else i)) H) := by
  intro pins s σ H xs us Q I r h
  obtain ⟨i, j, rfl, q⟩ := h
  obtain ⟨u, w', rfl, ⟨t, rfl⟩, ⟨t', rfl⟩⟩ := vals2 r
  refine min_two_ints (I.ok.hd hc) fun h' tk k => ⟨_, H, I.kept k, ?_, q⟩
  by_cases hj : j < i
  · rw [if_pos hj, if_pos hj]; exact ⟨_, rfl⟩
  · rw [if_neg hj, if_neg hj]; exact ⟨_, rfl⟩
theorem call_int1 : CallR X (.type "int") (fun xs H Q => (∃ i, xs = [.int i] ∧ Q (.int i) H) ∨ ∃ k, xs = [.bl k] ∧ Q (.int (if k then 1 else 0)) H) := by
  intro pins s σ H xs us Q I r h
  rcases h with ⟨i, rfl, q⟩ | ⟨k, rfl, q⟩
  · obtain ⟨u, rfl, t, rfl⟩ := vals1 r
    exact call_int_int ⟨.int i, H, I, ⟨_, rfl⟩, q⟩
  · obtain ⟨u, rfl, r1⟩ := vals1 r
    cases r1
    exact call_int_bool ⟨.int (if k then 1 else 0), H, I.tok _, ⟨_, rfl⟩, q⟩
theorem call_str_int : CallR X (.type "str") (fun xs H Q => ∃ i, xs = [.int i] ∧ i.natAbs.log2 < 1920 ∧ Q (.str (toString i)) H) := by
  intro pins s σ H xs us Q I r h
  obtain ⟨i, rfl, hz, q⟩ := h
  obtain ⟨u, rfl, t, rfl⟩ := vals1 r
  exact PySem.P.str_of_int hz ⟨.str _, H, I.tok _, ⟨_, rfl⟩, q⟩
end
end L2
namespace L2
open PySem PySem.Spec PyProof.Rows
structure ObjM (h : Heap) (x dx C : Addr) (mA : Str → Option Value) : Prop where
  obj : h.get? x = some (PySem.W.instObj C dx)
  ns : h.Ns1 dx mA
  ne : dx ≠ x
theorem lookIn_ns {h : Heap} {dx : Addr} {mA : Str → Option Value} (n : h.Ns1 dx mA) : ∃ od, h.get? dx = some od ∧ ∀ name, PySem.W.lookIn name od = some (mA name) := by
  obtain ⟨o, es, ep, ho, hd, hk, _, hm⟩ := n
  refine ⟨o, ho, fun name => ?_⟩
  have e := hm name
  unfold nsFind findBy at e
  rw [← Array.find?_toList] at e
  unfold PySem.W.lookIn
  rw [hd]
  dsimp only
  split
  · rename_i y q
    rw [q] at e
    exact congrArg some e
  · rename_i q
    rw [q] at e
    have a : es.toList.any (·.refKey) = false := by
      rw [List.any_eq_false]
      intro y hy
      obtain ⟨z, t, hkey⟩ := hk y (Array.mem_toList_iff.mp hy)
      simp [DictEntry.refKey, hkey]
    have a' : ¬ es.toList.any (·.refKey) = true := by rw [a]; exact Bool.false_ne_true
    rw [if_neg a']
    exact congrArg some e
theorem ObjM.look {h : Heap} {x dx C : Addr} {mA : Str → Option Value} (I : ObjM h x dx C mA) : ∃ od, PySem.W.InstAt h x (PySem.W.instObj C dx) C (some od) ∧ ∀ name, PySem.W.lookIn name od = some (mA name) :=
  let ⟨od, ho, hl⟩ := lookIn_ns I.ns
  ⟨od, ⟨I.obj, rfl, rfl, ho⟩, hl⟩
section
variable {prog : Program} {w : World} {A : Around} {E : Value → Shared → Prop} {s : Shared} {K : PySem.W.Frag} {x dx C f : Addr} {mA : Str → Option Value} {name : Str} {v : Value}
theorem get_map {expr : Bool} {Q : Value → Shared → Prop} (X : K.In s.heap) (I : ObjM s.heap x dx C mA) (hg : PySem.W.plainGet K C name = true) (hh : PySem.W.hasDictIn K C = true)
    (ha : PySem.W.findIn K (.ref C) name = some none) (hv : mA name = some v) (hv' : PySem.W.handedIn v = true) (h : Q v { s with toks := s.toks + 1 }) :
    wpAny (model prog w) A (getAttr (.ref x) name expr) Q E s := by
  obtain ⟨od, J, hl⟩ := I.look
  exact PySem.W.get_value X J (PySem.W.plainGet_of hg).1 (PySem.W.findObj_own hh ha rfl (by rw [hl, hv])) hv' h
theorem get_meth {pl : Sem Bool} {Q : Value × List Value → Shared → Prop} (X : K.In s.heap) (I : ObjM s.heap x dx C mA) (hg : PySem.W.plainGet K C name = true)
    (hf : PySem.W.findIn K (.ref C) name = some (some (.ref f))) (ht : PySem.W.isFn K (.ref f) = true) (hv : mA name = none) (h : Q (.ref f, [.ref x]) s) :
    wpAny (model prog w) A (getMethod (.ref x) name pl) Q E s := by
  obtain ⟨od, J, hl⟩ := I.look
  exact PySem.W.method_fn X J (PySem.W.plainGet_of hg).1 (PySem.W.plainGet_of hg).2 hf (beq_iff_eq.mp ht) (by show (PySem.W.lookIn name od).map (·.isSome) = some false; rw [hl, hv]; rfl) h
theorem set_map {ns : List Str} {Q : Unit → Shared → Prop} (X : K.In s.heap) (I : ObjM s.heap x dx C mA)
    (hs : PySem.W.findIn K (.ref C) "__setattr__" = some (some (.builtin "object.__setattr__"))) (hp : PySem.W.plainOver K C = true) (ht : PySem.W.takerIn K C name = some none) (hh : PySem.W.hasDictIn K C = true)
    (hw : PySem.Within mA ns) (hsz : ns.length ≤ sizeLine)
    (h : ∀ h', ObjM h' x dx C (fun y => if y = name then some v else mA y) → Heap.SameBut dx s.heap h' → Q () { s with heap := h', toks := s.toks + 2 }) :
    wpAny (model prog w) A (setAttr (.ref x) name v) Q E s := by
  obtain ⟨od, J, hl⟩ := I.look
  refine PySem.W.set_plain X J hs (PySem.W.osa_open (s := { s with toks := s.toks + 1 }) (r := none) X J hp ht fun b => ?_)
  obtain ⟨cd, hc, hd'⟩ := PySem.W.any_some hh
  have hx : s.heap.get? x = some ⟨.ref C, some dx, .plain, #[]⟩ := I.obj
  refine wpAny_bind (wpAny_pure (wpAny_bind (wpAny_bind (wpAny_loadPart hx (wpAny_bind (PySem.W.Looks.here (s := { s with toks := s.toks + 1 }) (PySem.W.looks_clsIn X hc) ?_))))))
  rw [hd']
  refine wpAny_pure (a := some dx) (wpAny_bind (wpAny_pure (wpAny_bind ?_)))
  refine wpAny_nsSet1 (s := { s with toks := s.toks + 1 }) I.ns fun h' hn2 hs2 => ?_
  obtain ⟨oD, esD, epD, hoD, hdD, hcD⟩ := hn2.count (PySem.Within.cons name v hw)
  refine wpAny_bind (wpAny_lookBehind hoD (by rw [hdD]; exact pastItsLine_dict (Nat.le_trans hcD (by rw [List.length_cons]; omega))) ?_)
  exact wpAny_pure (h _ ⟨(hs2.2 _ (Ne.symm I.ne)).trans I.obj, hn2, I.ne⟩ hs2)
theorem make_map {R : Result → Shared → Prop} {vs : List Value} {kw : List (Str × Value)} (X : K.In s.heap) (hm : PySem.W.makesIn K C = true)
    (hi : PySem.W.findIn K (.ref C) "__init__" = some (some (.ref f))) (hf : PySem.W.typeIn K (.ref f) = some (.type "function"))
    (h : codeAny (model prog w) (A.under (.builtin "type.__call__" ⟨.ref C :: vs, kw⟩)) (.call (.ref f) ⟨.ref (s.heap.objs.size + 1) :: vs, kw⟩) (PySem.W.InitBack (s.heap.objs.size + 1) R)
      { s with heap := (s.heap.push PySem.W.emptyDict).push (PySem.W.instObj C s.heap.objs.size) }) :
    codeAny (model prog w) A (.call (.ref C) ⟨vs, kw⟩) R s := by
  obtain ⟨hh, g, d, t, os⟩ := s
  exact PySem.W.make_core (PySem.W.makes_of X hm) (PySem.W.looks_findIn X hi) (fun self => PySem.W.bind_fn X self hf) (.inl rfl) h
end
def putF (f : Str) (v : V) : List (Str × V) → List (Str × V)
  | [] => [(f, v)]
  | (g, x) :: r => if g = f then (g, v) :: r else (g, x) :: putF f v r
theorem lookup_putF (f g : Str) (v : V) : ∀ fs : List (Str × V), (putF f v fs).lookup g = if g = f then some v else fs.lookup g
  | [] => by
    show List.lookup g [(f, v)] = _
    by_cases h : g = f
    · have hb : (g == f) = true := beq_iff_eq.mpr h
      simp only [List.lookup, hb, if_pos h]
    · have hb : (g == f) = false := beq_eq_false_iff_ne.mpr h
      simp only [List.lookup, hb, if_neg h]
  | (k, x) :: r => by
    have ih := lookup_putF f g v r
    rw [show putF f v ((k, x) :: r) = (if k = f then (k, v) :: r else (k, x) :: putF f v r) from rfl]
    by_cases hk : k = f
    · rw [if_pos hk]
      by_cases h : g = k
      · have hb : (g == k) = true := beq_iff_eq.mpr h
        simp only [List.lookup, hb, if_pos (h.trans hk)]
      · have hb : (g == k) = false := beq_eq_false_iff_ne.mpr h
        simp only [List.lookup, hb, if_neg (fun e : g = f => h (e.trans hk.symm))]
    · rw [if_neg hk]
      by_cases h : g = k
      · have hb : (g == k) = true := beq_iff_eq.mpr h
        simp only [List.lookup, hb, if_neg (fun e : g = f => hk (h.symm.trans e))]
      · have hb : (g == k) = false := beq_eq_false_iff_ne.mpr h
        simp only [List.lookup, hb]
        exact ih
theorem keys_putF (f : Str) (v : V) : ∀ fs : List (Str × V), f ∈ (putF f v fs).map (·.1) ∧ ∀ g, g ∈ fs.map (·.1) → g ∈ (putF f v fs).map (·.1)
  | [] => ⟨by simp [putF], fun g h => by simp at h⟩
  | (k, x) :: r => by
    obtain ⟨i1, i2⟩ := keys_putF f v r
    rw [show putF f v ((k, x) :: r) = (if k = f then (k, v) :: r else (k, x) :: putF f v r) from rfl]
    by_cases hk : k = f
    · rw [if_pos hk]
      subst hk
      exact ⟨by simp, fun g h => by simpa using h⟩
    · rw [if_neg hk]
      refine ⟨?_, fun g h => ?_⟩
      · rw [List.map_cons]
        exact List.mem_cons_of_mem _ i1
      · rw [List.map_cons] at h ⊢
        rcases List.mem_cons.mp h with e | e
        · exact List.mem_cons.mpr (.inl e)
        · exact List.mem_cons_of_mem _ (i2 g e)
theorem length_putF (f : Str) (v : V) : ∀ fs : List (Str × V), (putF f v fs).length ≤ fs.length + 1
  | [] => by simp [putF]
  | (k, x) :: r => by
    have ih := length_putF f v r
    rw [show putF f v ((k, x) :: r) = (if k = f then (k, v) :: r else (k, x) :: putF f v r) from rfl]
    by_cases hk : k = f
    · rw [if_pos hk, List.length_cons, List.length_cons]; omega
    · rw [if_neg hk, List.length_cons, List.length_cons]; omega
theorem RelO.some_of {v : V} {o : Option Value} (r : RelO (some v) o) : ∃ u, o = some u ∧ RelV v u := by
  cases o with
  | none => exact (show False from r).elim
  | some u => exact ⟨u, rfl, r⟩
theorem RelO.none_of {o : Option Value} (r : RelO none o) : o = none := by
  cases o with
  | none => rfl
  | some u => exact (show False from r).elim
theorem handed_of {v : V} {u : Value} (r : RelV v u) : PySem.W.handedIn u = true := by
  cases v with
  | non => cases (show u = Value.none from r); rfl
  | bl b => cases (show u = Value.bool b from r); rfl
  | int i => obtain ⟨t, e⟩ := (show ∃ t, u = Value.int i t from r); cases e; rfl
  | str x => obtain ⟨t, e⟩ := (show ∃ t, u = Value.str x t from r); cases e; rfl
  | byt b => obtain ⟨t, e⟩ := (show ∃ t, u = Value.bytes b t from r); cases e; rfl
  | flt b => obtain ⟨t, e⟩ := (show ∃ t, u = Value.float b t from r); cases e; rfl
  | ref a => cases (show u = Value.ref a from r); rfl
  | ty n => cases (show u = Value.type n from r); rfl
section
variable {P : Program} {w : World} {H H' : Hp} {h h' : Heap} {a C dx : Addr} {fs fs' : List (Str × V)}
theorem ins_get (hok : HOk P w H h) (e : H a = some (.ins C dx fs)) : ∃ mA, ObjM h a dx C mA ∧ (∀ f, RelO (fs.lookup f) (mA f)) ∧ PySem.Within mA (fs.map (·.1)) ∧ fs.length ≤ 1000 ∧ H dx = some (.own a) := by
  obtain ⟨d, z, ne, ob, mA, n, r, q⟩ := (show ObjOk P w H h a (.ins C dx fs) from hok a _ e)
  exact ⟨mA, ⟨ob, n, ne⟩, r, q, z, d⟩
end
structure Cls (K : PySem.W.Frag) (C : Addr) : Prop where
  pg : PySem.W.plainGet K C Str.empty = true
  hd : PySem.W.hasDictIn K C = true
  po : PySem.W.plainOver K C = true
  sa : PySem.W.findIn K (.ref C) "__setattr__" = some (some (.builtin "object.__setattr__"))
theorem Cls.get {K : PySem.W.Frag} {C : Addr} (c : Cls K C) (f : Str) : PySem.W.plainGet K C f = true := c.pg
def NoAttr (K : PySem.W.Frag) (C : Addr) (f : Str) : Prop := PySem.W.findIn K (.ref C) f = some none
theorem NoAttr.taker {K : PySem.W.Frag} {C : Addr} {f : Str} (n : NoAttr K C f) : PySem.W.takerIn K C f = some none := by
  unfold PySem.W.takerIn
  rw [show PySem.W.findIn K (.ref C) f = some none from n]
  rfl
structure Con (K : PySem.W.Frag) (C : Addr) (f : Str) (v : V) (u : Value) : Prop where
  at_ : PySem.W.findIn K (.ref C) f = some (some u)
  rel : RelV v u
  get : PySem.W.specialIn K u "__get__" = some none
  cp : PySem.W.copiedNames.contains f = false
structure Meth (K : PySem.W.Frag) (C : Addr) (m : Str) (f : Addr) : Prop where
  at_ : PySem.W.findIn K (.ref C) m = some (some (.ref f))
  fn : PySem.W.isFn K (.ref f) = true
  kp : PySem.W.keepIn K (.ref f) = true
section
variable {X : Cx} {pins : List (Addr × Obj)} {σ : St} {H : Hp} {s : Shared} {a C dx : Addr} {fs : List (Str × V)} {f : Str} {v : V} {A : Around} {E : Value → Shared → Prop}
theorem getattr_ok {b : Bool} {Q : Value → Shared → Prop} (I : Inv X pins σ H s) (e : H a = some (.ins C dx fs)) (c : Cls X.K C) (n : NoAttr X.K C f) (l : fs.lookup f = some v)
    (h : ∀ u s', Inv X pins σ H s' → RelV v u → Q u s') : wpAny (model X.prog X.w) A (getAttr (.ref a) f b) Q E s := by
  obtain ⟨mA, O, r, _, _, _⟩ := ins_get I.hok e
  obtain ⟨u, hu, ru⟩ := RelO.some_of (v := v) (o := mA f) (by rw [← l]; exact r f)
  exact get_map I.kIn O (c.get f) c.hd n hu (handed_of ru) (h u _ (I.tok _) ru)
theorem getmeth_ok {m : Str} {g : Addr} {pl : Sem Bool} {Q : Value × List Value → Shared → Prop} (I : Inv X pins σ H s) (e : H a = some (.ins C dx fs)) (c : Cls X.K C) (k : Meth X.K C m g) (l : fs.lookup m = none)
    (h : Q (.ref g, [.ref a]) s) : wpAny (model X.prog X.w) A (getMethod (.ref a) m pl) Q E s := by
  obtain ⟨mA, O, r, _, _, _⟩ := ins_get I.hok e
  have hn : mA m = none := RelO.none_of (by rw [← l]; exact r m)
  exact get_meth I.kIn O (c.get m) k.at_ k.fn hn h
theorem setattr_ok {y : V} {u : Value} {Q : Unit → Shared → Prop} (I : Inv X pins σ H s) (e : H a = some (.ins C dx fs)) (c : Cls X.K C) (n : NoAttr X.K C f) (hl : fs.length < 1000) (ry : RelV y u)
    (h : ∀ s', Inv X pins σ (upd H a (.ins C dx (putF f y fs))) s' → Q () s') : wpAny (model X.prog X.w) A (setAttr (.ref a) f u) Q E s := by
  obtain ⟨mA, O, r, wi, _, ho⟩ := ins_get I.hok e
  have hz : (fs.map (·.1)).length ≤ sizeLine := by rw [List.length_map, sizeLine_eq]; omega
  refine set_map I.kIn O c.sa c.po n.taker c.hd wi hz fun h' O' sb => h _ ?_
  have hd : ∃ o, h'.get? dx = some o := let ⟨o, _, _, e', _⟩ := O'.ns; ⟨o, e'⟩
  refine I.write (x := a) (e := dx) (by rw [e]; exact True.intro) (.inr ho) (fun b q hb z => (sb.2 b hb).trans z) hd ?_
  refine ⟨by rw [upd_ne O.ne]; exact ho, ?_, O.ne, O'.obj, _, O'.ns, fun g => ?_, fun g hg => ?_⟩
  · have := length_putF f y fs; omega
  · show RelO ((putF f y fs).lookup g) (if g = f then some u else mA g)
    rw [lookup_putF]
    by_cases q : g = f
    · rw [if_pos q, if_pos q]; exact ry
    · rw [if_neg q, if_neg q]; exact r g
  · by_cases q : g = f
    · rw [q]; exact (keys_putF f y fs).1
    · refine (keys_putF f y fs).2 g (wi g fun z => hg ?_)
      show (if g = f then some u else mA g) = none
      rw [if_neg q]; exact z
theorem Inv.made (I : Inv X pins σ H s) : Inv X pins σ (upd (upd H s.heap.objs.size (.own (s.heap.objs.size + 1))) (s.heap.objs.size + 1) (.ins C s.heap.objs.size []))
    { s with heap := (s.heap.push PySem.W.emptyDict).push (PySem.W.instObj C s.heap.objs.size) } := by
  have e1 : (s.heap.push PySem.W.emptyDict).get? s.heap.objs.size = some PySem.W.emptyDict := Heap.get?_push_size s.heap rfl
  have e2 : ((s.heap.push PySem.W.emptyDict).push (PySem.W.instObj C s.heap.objs.size)).get? (s.heap.objs.size + 1) = some (PySem.W.instObj C s.heap.objs.size) := by
    have := Heap.get?_push_size (s.heap.push PySem.W.emptyDict) (o := PySem.W.instObj C s.heap.objs.size) rfl
    rwa [Heap.size_push] at this
  have e3 : (s.heap.push PySem.W.emptyDict).Ns s.heap.objs.size (fun _ => none) := ⟨PySem.W.emptyDict, #[], _, e1, rfl, (fun e he => absurd he (by simp)), fun _ => rfl⟩
  have I1 := I.laid (a := s.heap.objs.size) (o := .own (s.heap.objs.size + 1)) (h' := s.heap.push PySem.W.emptyDict) (t' := s.toks) (fun b u q => Heap.get?_push_of_some _ q) (Nat.le_refl _) ⟨_, e1⟩
  refine I1.laid (a := s.heap.objs.size + 1) (o := .ins C s.heap.objs.size []) (t' := s.toks) (fun b u q => Heap.get?_push_of_some _ q) (Nat.le_of_eq (Heap.size_push _ _)) ?_
  have ne : s.heap.objs.size ≠ s.heap.objs.size + 1 := Nat.ne_of_lt (Nat.lt_succ_self _)
  refine ⟨by rw [upd_ne ne, upd_same], Nat.zero_le _, ne, e2, fun _ => none, (Heap.Ns1.of_empty e3).at fun o q => Heap.get?_push_of_some _ q, fun _ => True.intro, fun y hy => absurd rfl hy⟩
theorem attr_of {prog : Program} {w : World} {env : Env} {e : Expr} {f : Str} {pos : Pos} {s : Shared} {Q : Value → Shared → Prop} (hb : attributeBase e f env (eval e env) = eval e env)
    (h : wpAny (model prog w) A (eval e env) (fun o s₁ => wpAny (model prog w) A (getAttr o f true) Q E s₁) E s) : wpAny (model prog w) A (eval (.Attribute e f pos) env) Q E s :=
  Attribute_any_ h (by rw [arm_eval_Attribute, hb])
end
def tFld (K : PySem.W.Frag) (ta : TE) (f : Str) : TE := fun σ H Q => ta σ H fun x H1 => ∃ a C dx fs v, x = .ref a ∧ H1 a = some (.ins C dx fs) ∧ Cls K C ∧ NoAttr K C f ∧ fs.lookup f = some v ∧ Q v H1
def sFld (K : PySem.W.Frag) (ta tv : TE) (f : Str) : TS := fun D σ H => tv σ H fun y H1 => ta σ H1 fun x H2 => ∃ a C dx fs, x = .ref a ∧ H2 a = some (.ins C dx fs) ∧ Cls K C ∧ NoAttr K C f ∧ fs.length < 1000 ∧
  D.nx σ (upd H2 a (.ins C dx (putF f y fs)))
section
variable {X : Cx} {o e value : Expr} {f : Str} {pos pos' tpos : Pos} {ta tv : TE}
theorem pe_fld (he : PE X e ta) (hb : attributeBase e f X.env (eval e X.env) = eval e X.env) : PE X (.Attribute e f pos) (tFld X.K ta f) := by
  intro pins s σ H Q I h
  refine attr_of hb (thn (he pins s σ H _ I h) fun u s1 ⟨x, H1, I1, rx, a, C, dx, fs, v, ex, ea, c, n, l, q⟩ => ?_)
  subst ex
  obtain rfl : u = Value.ref a := rx
  exact getattr_ok I1 ea c n l fun u' s2 I2 ru => ⟨v, H1, I2, ru, q⟩
theorem ps_fld (ha : PE X o ta) (hv : PE X value tv) (hs : swapsWith value (some (.Attribute o f pos')) pos.line X.env = pure false) : PS X (.Assign [.Attribute o f pos'] value pos) (sFld X.K ta tv f) := by
  intro pins s σ H D I h
  refine plainObj_wpAny_Assign_Attribute (thn (hv pins s σ H _ I h) fun u s1 ⟨y, H1, I1, ry, q⟩ => thn (ha pins s1 σ H1 _ I1 q) fun ov s2 ⟨x, H2, I2, rx, a, C, dx, fs, ex, ea, c, n, l, q2⟩ => ?_) hs
  subst ex
  obtain rfl : ov = Value.ref a := rx
  exact setattr_ok I2 ea c n l ry fun s3 I3 => ⟨σ, _, I3, q2⟩
end
section
variable {X : Cx} {pins : List (Addr × Obj)} {σ : St} {H : Hp} {s : Shared} {A : Around} {E : Value → Shared → Prop} {Q : Value → Shared → Prop} {c : Value} {b : Bool}
inductive TyOf (K : PySem.W.Frag) (H : Hp) : V → Value → Prop where
  | non : TyOf K H .non (.type "NoneType")
  | bl (x : Bool) : TyOf K H (.bl x) (.type "bool")
  | int (i : Int) : TyOf K H (.int i) (.type "int")
  | str (x : Str) : TyOf K H (.str x) (.type "str")
  | flt (x : UInt64) : TyOf K H (.flt x) (.type "float")
  | lst {a : Addr} {xs : List V} (e : H a = some (.lst xs)) : TyOf K H (.ref a) (.type "list")
  | frz {a : Addr} {o : Obj} {xs : List V} (e : H a = some (.frz o (.lst xs))) : TyOf K H (.ref a) (.type "list")
  | tup {a : Addr} {xs : List V} (e : H a = some (.tup xs)) : TyOf K H (.ref a) (.type "tuple")
  | dK {a : Addr} {kvs : List (Key × V)} (e : H a = some (.dK kvs)) : TyOf K H (.ref a) (.type "dict")
  | dT {a : Addr} {kvs : List (List Key × V)} (e : H a = some (.dT kvs)) : TyOf K H (.ref a) (.type "dict")
  | ins {a C dx : Addr} {fs : List (Str × V)} (e : H a = some (.ins C dx fs)) (cl : Cls K C) (ha : PySem.W.findIn K (.ref C) "__class__" = some (some (.builtin "object.__class__")))
      (hn : PySem.W.specialIn K (.builtin "object.__class__") "__get__" = some (some (.builtin "getset_descriptor.__get__"))) (htk : PySem.W.takesIn K (.builtin "object.__class__") = some true)
      (hm : PySem.W.mroIn K C (.type "object") = some true) : TyOf K H (.ref a) (.ref C)
theorem isinst_ok {x : V} {u t : Value} (I : Inv X pins σ H s) (rx : RelV x u) (ty : TyOf X.K H x t) (e : PySem.W.kitOne X.K t c = some b) (h : ∀ tk, Q (.bool b) { s with toks := tk }) :
    wpAny (model X.prog X.w) A (call (.builtin "isinstance") [u, c]) Q E s := by
  cases ty with
  | non => cases (show u = Value.none from rx); exact PySem.W.kia_one PySem.W.kitx_none I.kIn True.intro e (fun z => nomatch z) h
  | bl y => cases (show u = Value.bool y from rx); exact PySem.W.kia_one PySem.W.kitx_bool I.kIn True.intro e (fun z => nomatch z) h
  | int i => obtain ⟨t, q⟩ := (show ∃ t, u = Value.int i t from rx); cases q; exact PySem.W.kia_one PySem.W.kitx_int I.kIn True.intro e (fun z => nomatch z) h
  | str y => obtain ⟨t, q⟩ := (show ∃ t, u = Value.str y t from rx); cases q; exact PySem.W.kia_one PySem.W.kitx_str I.kIn True.intro e (fun z => nomatch z) h
  | flt y => obtain ⟨t, q⟩ := (show ∃ t, u = Value.float y t from rx); cases q; exact PySem.W.kia_one PySem.W.kitx_float I.kIn True.intro e (fun z => nomatch z) h
  | @lst a xs ea =>
    cases (show u = Value.ref a from rx)
    obtain ⟨_, _, n, _, h1⟩ := (show ObjOk X.prog X.w H s.heap a (.lst xs) from I.hok a _ ea)
    exact PySem.W.kia_one PySem.W.kitx_list I.kIn ⟨_, h1, rfl⟩ e (fun z => nomatch z) h
  | @frz a ob xs ea =>
    cases (show u = Value.ref a from rx)
    obtain ⟨_, _, _, n, _, h1⟩ := (show ObjOk X.prog X.w H s.heap a (.frz ob (.lst xs)) from I.hok a _ ea)
    exact PySem.W.kia_one PySem.W.kitx_list I.kIn ⟨_, h1, rfl⟩ e (fun z => nomatch z) h
  | @tup a xs ea =>
    cases (show u = Value.ref a from rx)
    obtain ⟨_, _, _, p⟩ := (show ObjOk X.prog X.w H s.heap a (.tup xs) from I.hok a _ ea)
    obtain ⟨o, h1, h2, _⟩ := p
    exact PySem.W.kia_one PySem.W.kitx_tuple I.kIn ⟨o, h1, h2⟩ e (fun z => nomatch z) h
  | @dK a kvs ea =>
    cases (show u = Value.ref a from rx)
    obtain ⟨_, _, vs, _, p⟩ := (show ObjOk X.prog X.w H s.heap a (.dK kvs) from I.hok a _ ea)
    obtain ⟨o, es, ep, h1, h2, _⟩ := p
    exact PySem.W.kia_one PySem.W.kitx_dict I.kIn ⟨o, h1, h2.1⟩ e (fun z => nomatch z) h
  | @dT a kvs ea =>
    cases (show u = Value.ref a from rx)
    obtain ⟨_, _, xs, _, o, es, ep, h1, h2, _⟩ := (show ObjOk X.prog X.w H s.heap a (.dT kvs) from I.hok a _ ea)
    exact PySem.W.kia_one PySem.W.kitx_dict I.kIn ⟨o, h1, h2.1⟩ e (fun z => nomatch z) h
  | @ins a C dx fs ea cl ha hn htk hm =>
    cases (show u = Value.ref a from rx)
    obtain ⟨mA, O, _⟩ := ins_get I.hok ea
    obtain ⟨od, J, _⟩ := O.look
    exact PySem.W.kia_one (PySem.W.kitx_own (cl.get _) cl.hd ha hn htk hm) I.kIn J e (fun z => nomatch z) h
end
end L2
namespace L2
open PySem PySem.Spec PyProof.Rows
structure Room (k : Nat) (A : Around) : Prop where
  hd : A.handled = none
  dp : A.depth + 3 * k + 5 < recursionLimit
  un : A.units + 16 * k + 200 < cLine
  gd : A.guards = some []
theorem Room.mono {j k : Nat} {A : Around} (r : Room k A) (h : j ≤ k) : Room j A := ⟨r.hd, by have := r.dp; omega, by have := r.un; omega, r.gd⟩
theorem Room.deeper {k : Nat} {A : Around} (r : Room (k + 1) A) (env : Env) : Room k (A.deeper env) :=
  ⟨r.hd, by have := r.dp; show A.depth + 1 + 3 * k + 5 < _; omega, by have := r.un; show A.units + 3 + 16 * k + 200 < _; omega, r.gd⟩
theorem Room.in1 {k : Nat} {A : Around} (r : Room (k + 1) A) : Room k A.in1 :=
  ⟨r.hd, by have := r.dp; show A.depth + 3 * k + 5 < _; omega, by have := r.un; show A.units + 1 + 16 * k + 200 < _; omega, r.gd⟩
theorem make_depth {A : Around} {C : Addr} {us : List Value} {kw : List (Str × Value)} : (A.under (.builtin "type.__call__" ⟨.ref C :: us, kw⟩)).depth = A.depth + 1 := by
  first | rfl | simp [Around.under, Code.weight, Code.isCreation, Code.isGuard, Code.isCaller, Code.frames, Code.isFrame, guardIds]
theorem make_units {A : Around} {C : Addr} {us : List Value} {kw : List (Str × Value)} : (A.under (.builtin "type.__call__" ⟨.ref C :: us, kw⟩)).units = A.units + 1 := by
  first | rfl | simp [Around.under, Code.cUnits, Code.frames, Code.isFrame]
theorem Room.make {k : Nat} {A : Around} (r : Room (k + 1) A) (C : Addr) (us : List Value) (kw : List (Str × Value)) : Room k (A.under (.builtin "type.__call__" ⟨.ref C :: us, kw⟩)) :=
  ⟨r.hd, by have := r.dp; rw [make_depth]; omega, by have := r.un; rw [make_units]; omega, by have := r.gd; first | exact this | simpa [Around.under, Code.guards, Code.isGuard, pushGuards, guardIds] using this⟩
theorem Room.depth {k : Nat} {A : Around} (r : Room k A) : A.depth < recursionLimit := by have := r.dp; omega
theorem Room.units {k : Nat} {A : Around} (r : Room k A) : A.units + 64 < cLine := by have := r.un; omega
theorem Room.units0 {k : Nat} {A : Around} (r : Room k A) : A.units < cLine := by have := r.un; omega
def tNil : TA := fun _ H Q => Q [] H
def tCons (ta : TE) (tr : TA) : TA := fun σ H Q => ta σ H fun x H1 => tr σ H1 fun xs H2 => Q (x :: xs) H2
section
variable {X : Cx} {e : Expr} {es : List Expr} {te : TE} {t : TA} {pos : Pos}
theorem pa_nil : PA X [] tNil := fun _ _ _ _ H Q I h => Calls.spliced_nil ⟨[], H, I, .nil, h⟩
theorem pa_cons (ha : PE X e te) (hr : PA X es t) (hs : starEach (e :: es) X.env = (false, eval e X.env) :: starEach es X.env := by rfl) : PA X (e :: es) (tCons te t) := by
  intro pos pins s σ H Q I h
  rw [hs]
  show wpAny _ _ (spliced ((false, eval e X.env) :: backTo pos (starEach es X.env))) _ _ s
  refine Calls.spliced_cons (thn (ha pins s σ H _ I h) fun u s1 ⟨x, H1, I1, r1, q1⟩ => ?_)
  exact thn (hr pos pins s1 σ H1 _ I1 q1) fun us s2 ⟨xs, H2, I2, r2, q2⟩ => ⟨x :: xs, H2, I2, .cons r1 r2, q2⟩
def tTup (t : TA) : TE := fun σ H Q => t σ H fun xs H1 => xs.length ≤ sizeLine ∧ ∀ p, H1 p = none → Q (.ref p) (upd H1 p (.tup xs))
def tLst (t : TA) : TE := fun σ H Q => t σ H fun xs H1 => xs.length ≤ sizeLine ∧ ∀ p, H1 p = none → Q (.ref p) (upd H1 p (.lst xs))
end
abbrev Sp := List V → Hp → VK → XK → Prop
abbrev CXT := List Env → Hp → Shared → XK → Value → Shared → Prop
structure Env0 (P : Program) (w : World) (K : PySem.W.Frag) (mg : Str → Option Value) (base : Heap) (A : Around) (outer : List Env) (s : Shared) (H : Hp) : Prop where
  frames : A.frames = some outer
  mod : Mod K mg base
  bs : ∀ b o, base.get? b = some o → s.heap.get? b = some o ∧ H b = none
  bsz : base.objs.size ≤ s.heap.objs.size
  funs : s.heap.FunFrames base outer
  frf : ∀ b ∈ frs outer, H b = none
  hok : HOk P w H s.heap
  bare : AllBare s.gens
def CE (outer : List Env) (P : Program) (w : World) (H : Hp) (s : Shared) (Q : VK) (u : Value) (s' : Shared) : Prop :=
  ∃ v H', s'.os = s.os ∧ AllBare s'.gens ∧ Un (frs outer) [] H H' s.heap s'.heap ∧ HOk P w H' s'.heap ∧ RelV v u ∧ Q v H'
def CR (CX : CXT) (outer : List Env) (P : Program) (w : World) (H : Hp) (s : Shared) (Q : VK) (E : XK) (r : Result) (s' : Shared) : Prop :=
  match r with
  | .ok (.ret u) => CE outer P w H s Q u s'
  | .ok _ => False
  | .error e => CX outer H s E e s'
structure FnOk (P : Program) (w : World) (K : PySem.W.Frag) (mg : Str → Option Value) (base : Heap) (CX : CXT) (k : Nat) (f : Addr) (fd : FuncData) (ps : List Str) (sp : Sp) : Prop where
  len : ∀ vs H Q E, sp vs H Q E → vs.length = ps.length
  run : ∀ (A : Around) (outer : List Env) (s : Shared) (H : Hp) (args : Args) (us : List Value) (vs : List V) (Q : VK) (E : XK), Room k A → Env0 P w K mg base A outer s H → BindsTo s fd args (ps.zip us) → Vals vs us → sp vs H Q E →
    codeAny (model P w) A (.call (.ref f) args) (CR CX outer P w H s Q E) s
theorem FnOk.mono {P : Program} {w : World} {K : PySem.W.Frag} {mg : Str → Option Value} {base : Heap} {CX : CXT} {j k : Nat} {f : Addr} {fd : FuncData} {ps : List Str} {sp : Sp} (F : FnOk P w K mg base CX j f fd ps sp) (h : j ≤ k) :
    FnOk P w K mg base CX k f fd ps sp := ⟨F.len, fun A outer s H args us vs Q E hr => F.run A outer s H args us vs Q E (hr.mono h)⟩
theorem Env0.make {P : Program} {w : World} {K : PySem.W.Frag} {mg : Str → Option Value} {base : Heap} {A : Around} {outer : List Env} {s : Shared} {H : Hp} (e : Env0 P w K mg base A outer s H) (C : Addr) (us : List Value) (kw : List (Str × Value)) :
    Env0 P w K mg base (A.under (.builtin "type.__call__" ⟨.ref C :: us, kw⟩)) outer s H := ⟨by first | exact e.frames | (simpa [Around.under, Code.envs, Code.isFrame, pushEnvs] using e.frames), e.mod, e.bs, e.bsz, e.funs, e.frf, e.hok, e.bare⟩
theorem Env0.in1 {P : Program} {w : World} {K : PySem.W.Frag} {mg : Str → Option Value} {base : Heap} {A : Around} {outer : List Env} {s : Shared} {H : Hp} (e : Env0 P w K mg base A outer s H) :
    Env0 P w K mg base A.in1 outer s H := ⟨e.frames, e.mod, e.bs, e.bsz, e.funs, e.frf, e.hok, e.bare⟩
section
variable {X : Cx} {pins : List (Addr × Obj)} {σ : St} {H : Hp} {s s' : Shared}
theorem Inv.env0 (I : Inv X pins σ H s) : Env0 X.prog X.w X.K X.mg X.base X.A X.stack s H :=
  ⟨I.ok.frames, I.ok.mod, I.bs, Nat.le_trans I.ok.bsz I.sz, I.stack, I.stkFree, I.hok, I.bare⟩
theorem Inv.after {Q : VK} {u : Value} (I : Inv X pins σ H s) (h : CE X.stack X.prog X.w H s Q u s') : EP X pins σ Q u s' := by
  obtain ⟨v, H', os, bare, un, hok, r, q⟩ := h
  obtain ⟨hh, g, d, t, os'⟩ := s'
  obtain rfl : os' = s.os := os
  exact ⟨v, H', I.call (h' := hh) (g' := g) (d' := d) (t' := t) (ch := []) un hok bare (fun b z => absurd z (by simp)), r, q⟩
end
def tCall (sp : Sp) (dvs : List V) (E : XK) (t : TA) : TE := fun σ H Q => t σ H fun vs H1 => sp (vs ++ dvs) H1 Q E
def tMeth (C : Addr) (m : Str) (sp : Sp) (dvs : List V) (E : XK) (ta : TE) (t : TA) : TE := fun σ H Q => ta σ H fun x H1 => ∃ a dx fs, x = .ref a ∧ H1 a = some (.ins C dx fs) ∧ fs.lookup m = none ∧
  t σ H1 fun vs H2 => sp (x :: (vs ++ dvs)) H2 Q E
def Binds (K : PySem.W.Frag) (fd : FuncData) (ps : List Str) (ds : List Value) : Prop :=
  ∀ (s : Shared) (us : List Value), K.In s.heap → (us ++ ds).length = ps.length → BindsTo s fd ⟨us, []⟩ (ps.zip (us ++ ds))
theorem Binds.all {K : PySem.W.Frag} {fd : FuncData} {ps : List Str} (h : ∀ us : List Value, us.length = ps.length → bindArgs fd ⟨us, []⟩ = pure (ps.zip us)) : Binds K fd ps [] := fun s us _ hl => by
  rw [List.append_nil] at hl ⊢
  exact .of_eq (h us hl)
def Passes (CX : CXT) (X : Cx) (E : XK) : Prop := ∀ (pins : List (Addr × Obj)) (σ : St) (H : Hp) (s : Shared) (e : Value) (s' : Shared), Inv X pins σ H s → CX X.stack H s E e s' → X.xe e s'
section
variable {X : Cx} {CX : CXT} {k : Nat} {f C : Addr} {fd : FuncData} {ps : List Str} {sp : Sp} {dvs : List V} {ds : List Value} {E : XK} {x m : Str} {p pos apos : Pos} {e o : Expr} {es : List Expr} {ta : TE} {t : TA}
theorem run_fn {pins : List (Addr × Obj)} {σ : St} {H : Hp} {s : Shared} {Q : VK} {us : List Value} {vs : List V} (F : FnOk X.prog X.w X.K X.mg X.base CX k f fd ps sp) (hr : Room k X.A) (hb : Binds X.K fd ps ds) (hd : Vals dvs ds) (hx : Passes CX X E)
    (I : Inv X pins σ H s) (r : Vals vs us) (h : sp (vs ++ dvs) H Q E) : wpAny (model X.prog X.w) X.A (call (.ref f) us) (EP X pins σ Q) X.xe s := by
  have r2 : Vals (vs ++ dvs) (us ++ ds) := r.append hd
  have hl : (us ++ ds).length = ps.length := by rw [← r2.length]; exact F.len _ _ _ _ h
  refine wpAny_call (codeAny_mono (F.run X.A X.stack s H ⟨us, []⟩ (us ++ ds) (vs ++ dvs) Q E hr I.env0 (hb s us I.kIn hl) r2 h) fun r s' hq => ?_)
  cases r with
  | error e => exact hx pins σ H s e s' I hq
  | ok fl =>
    cases fl with
    | ret u => exact I.after hq
    | next => exact False.elim hq
    | brk => exact False.elim hq
    | cont => exact False.elim hq
theorem pe_call (F : FnOk X.prog X.w X.K X.mg X.base CX k f fd ps sp) (hr : Room k X.A) (hg : Gl X x) (hm : X.mg x = some (.ref f)) (hk : PySem.W.keepIn X.K (.ref f) = true) (hb : Binds X.K fd ps ds) (hd : Vals dvs ds) (hx : Passes CX X E)
    (ha : PA X (e :: es) t) (hdb : (x == ("__debug__" : Str)) = false := by decide) (he : starEach (e :: es) X.env = (false, eval e X.env) :: starEach es X.env := by rfl) (hpl : (backTo pos (starEach es X.env)).any (·.1) = false := by rfl) :
    PE X (.Call (.Name x p) (e :: es) [] pos) (tCall sp dvs E t) := by
  intro pins s σ H Q I h
  refine wpAny_Call_Name_kw (ld_glob I hg hm ?_ hdb)
  refine PySem.W.callWith_K (h₀ := X.base) I.ok.mod.kin hk (thn (ha pos pins s σ H _ I h) fun us s1 ⟨vs, H1, I1, r, q⟩ => ⟨I1.kIn, ?_⟩) he hpl
  exact run_fn F hr hb hd hx I1 r q
theorem pe_meth0 {pl : Sem Bool} (he : PE X o ta) (c : Cls X.K C) (hm : Meth X.K C m f) (F : FnOk X.prog X.w X.K X.mg X.base CX k f fd ps sp) (hr : Room k X.A) (hb : Binds X.K fd ps ds) (hd : Vals dvs ds) (hx : Passes CX X E)
    (ht : eval (.Call (.Attribute o m apos) [] [] pos) X.env = (do
      let ov ← eval o X.env
      standAt apos.atName
      let (f, first) ← holding [ov] (getMethod ov m pl)
      callWith pos f first (backTo pos (starEach [] X.env)) (backToKw pos (keywordEach [] X.env))) := by rfl) :
    PE X (.Call (.Attribute o m apos) [] [] pos) (tMeth C m sp dvs E ta tNil) := by
  intro pins s σ H Q I h
  refine PySem.W.methodCall_KW (pl := pl) (thn (he pins s σ H _ I h) fun u s1 ⟨x, H1, I1, rx, a, dx, fs, ex, ea, l, q⟩ => ?_) ht
  subst ex
  obtain rfl : u = Value.ref a := rx
  refine getmeth_ok I1 ea c hm l ?_
  exact PySem.W.callWith_K0 (first := [.ref a]) I1.kIn hm.kp (run_fn (us := [.ref a]) (vs := [.ref a]) F hr hb hd hx I1 (.cons rfl .nil) q)
structure Mk (K : PySem.W.Frag) (C f : Addr) : Prop where
  makes : PySem.W.makesIn K C = true
  init : PySem.W.findIn K (.ref C) "__init__" = some (some (.ref f))
  fn : PySem.W.isFn K (.ref f) = true
  kp : PySem.W.keepIn K (.ref C) = true
end
def PK (X : Cx) (kws : List Keyword) (t : TA) : Prop :=
  ∀ (pos : Pos) (pins : List (Addr × Obj)) (s : Shared) (σ : St) (H : Hp) (Q : List V → Hp → Prop), Inv X pins σ H s → t σ H Q → wpAny (model X.prog X.w) X.A (evalAll ((backToKw pos (keywordEach kws X.env)).map (·.2))) (AP X pins σ Q) X.xe s
section
variable {X : Cx} {CX : CXT} {k : Nat} {f C : Addr} {fd : FuncData} {ps ks : List Str} {sp : Sp} {E : XK} {x m : Str} {p pos apos kpos : Pos} {e o : Expr} {es : List Expr} {kws : List Keyword} {te ta : TE} {t tk : TA} {nm : Option Str}
structure KBinds (K : PySem.W.Frag) (fd : FuncData) (ps ks : List Str) (g : List Value → List Value → List Value) (gV : List V → List V → List V) : Prop where
  to : ∀ (s : Shared) (us ws : List Value), K.In s.heap → (g us ws).length = ps.length → BindsTo s fd ⟨us, ks.zip ws⟩ (ps.zip (g us ws))
  rel : ∀ {vs : List V} {us : List Value} {zs : List V} {ws : List Value}, Vals vs us → Vals zs ws → Vals (gV vs zs) (g us ws)
variable {g : List Value → List Value → List Value} {gV : List V → List V → List V}
end
structure FnScope (N P : List Str) (sc : Scope) : Prop where
  kind : sc.kind = .function
  co : sc.isCoroutine = false
  gen : sc.isGenerator = false
  nd : N.Nodup
  pre : N.take P.length = P
  par : ∀ x ∈ P, sc.names.lookup x = some .local ∨ sc.names.lookup x = some .cell
  nofree : ∀ y ∈ sc.names, y.2 ≠ .free
theorem bindL_out {kindOf : Str → Option NameKind} {x : Str} : ∀ {binds : List (Str × Value)} {m : Str → Option Value}, (∀ v, (x, v) ∉ binds) → bindL kindOf binds m x = m x
  | [], _, _ => rfl
  | (n, v) :: r, m, h => by
    unfold bindL
    rw [bindL_out fun w hw => h w (List.mem_cons_of_mem _ hw)]
    split
    · have : x ≠ n := by rintro rfl; exact h v List.mem_cons_self
      simp [this]
    · rfl
theorem bindC_out {kindOf : Str → Option NameKind} {x : Str} : ∀ {binds : List (Str × Value)} {m : Str → Option Value}, (∀ v, (x, v) ∉ binds) → bindC kindOf binds m x = m x
  | [], _, _ => rfl
  | (n, v) :: r, m, h => by
    unfold bindC
    rw [bindC_out fun w hw => h w (List.mem_cons_of_mem _ hw)]
    split
    · rfl
    · have : x ≠ n := by rintro rfl; exact h v List.mem_cons_self
      simp [this]
theorem bindL_get {kindOf : Str → Option NameKind} {x : Str} {v : Value} : ∀ {P : List Str} {vs : List Value} {i : Nat} {m : Str → Option Value}, P.Nodup → P[i]? = some x → vs[i]? = some v → kindOf x = some .local →
    bindL kindOf (P.zip vs) m x = some v
  | [], _, _, _, _, h, _, _ => by simp at h
  | _ :: _, [], _, _, _, _, h, _ => by simp at h
  | p :: P, w :: vs, 0, m, nd, h1, h2, hk => by
    simp at h1 h2; subst h1; subst h2
    show bindL kindOf ((p, w) :: P.zip vs) m p = _
    unfold bindL
    rw [bindL_out fun v hv => (List.nodup_cons.mp nd).1 (List.of_mem_zip hv).1, if_pos hk]
    simp
  | p :: P, w :: vs, i + 1, m, nd, h1, h2, hk => by
    show bindL kindOf ((p, w) :: P.zip vs) m x = _
    unfold bindL
    exact bindL_get (i := i) (List.nodup_cons.mp nd).2 (by simpa using h1) (by simpa using h2) hk
theorem bindC_get {kindOf : Str → Option NameKind} {x : Str} {v : Value} : ∀ {P : List Str} {vs : List Value} {i : Nat} {m : Str → Option Value}, P.Nodup → P[i]? = some x → vs[i]? = some v → kindOf x ≠ some .local →
    bindC kindOf (P.zip vs) m x = some v
  | [], _, _, _, _, h, _, _ => by simp at h
  | _ :: _, [], _, _, _, _, h, _ => by simp at h
  | p :: P, w :: vs, 0, m, nd, h1, h2, hk => by
    simp at h1 h2; subst h1; subst h2
    show bindC kindOf ((p, w) :: P.zip vs) m p = _
    unfold bindC
    rw [bindC_out fun v hv => (List.nodup_cons.mp nd).1 (List.of_mem_zip hv).1, if_neg hk]
    simp
  | p :: P, w :: vs, i + 1, m, nd, h1, h2, hk => by
    show bindC kindOf ((p, w) :: P.zip vs) m x = _
    unfold bindC
    exact bindC_get (i := i) (List.nodup_cons.mp nd).2 (by simpa using h1) (by simpa using h2) hk
def start (N : List Str) (vs : List V) : St := vs.map some ++ List.replicate (N.length - vs.length) none
def cxOf (CX : CXT) (P : Program) (w : World) (K : PySem.W.Frag) (mg : Str → Option Value) (base : Heap) (N : List Str) (qual : Str) (scope : Scope) (f : Addr) (cd : Value) (A : Around) (outer : List Env) (s : Shared) (H : Hp) (E : XK) : Cx where
  prog := P
  w := w
  K := K
  mg := mg
  base := base
  A := A.deeper (envOfC qual scope s.heap.objs.size f cd)
  N := N
  s₀ := s
  H₀ := H
  env := envOfC qual scope s.heap.objs.size f cd
  outer := outer
  stack := envOfC qual scope s.heap.objs.size f cd :: outer
  ex := []
  calm := true
  fn := fun _ => true
  pn := []
  xe := fun e s' => wpAny (model P w) (A.deeper (envOfC qual scope s.heap.objs.size f cd)) (leaving (envOfC qual scope s.heap.objs.size f cd) e) (fun _ s'' => CX outer H s E e s'') (fun e' s'' => CX outer H s E e' s'') s'
theorem cell_has {sc : Scope} {n : Nat} {x : Str} (h : sc.names.lookup x = some .cell) : ∃ c, (cellsFrom n sc.names []).lookup x = some c := by
  have q := PySem.W.cellsFrom_some sc.names n [] (.inl h)
  exact Option.isSome_iff_exists.mp q
theorem inv_start {CX : CXT} {P : Program} {w : World} {K : PySem.W.Frag} {mg : Str → Option Value} {base : Heap} {N ps : List Str} {qual : Str} {scope : Scope} {f : Addr} {cd : Value} {A : Around} {outer : List Env} {s s1 : Shared} {H : Hp} {E : XK} {us : List Value} {vs : List V}
    (S : FnScope N ps scope) (hd : A.handled = none) (e0 : Env0 P w K mg base A outer s H) (hl : vs.length = ps.length) (r : Vals vs us)
    (x : InCallC s s.heap.objs.size (bindL (envOfC qual scope s.heap.objs.size f cd).kindOf (ps.zip us) fun _ => none) (cellsFrom (s.heap.objs.size + 1) scope.names []) (bindC (envOfC qual scope s.heap.objs.size f cd).kindOf (ps.zip us) fun _ => none) s1) :
    Inv (cxOf CX P w K mg base N qual scope f cd A outer s H E) [] (start N vs) H s1 := by
  have hpl : ps.length ≤ N.length := by have := congrArg List.length S.pre; rw [List.length_take] at this; omega
  obtain ⟨h1, tk, rfl, hk⟩ := x.done
  have noA : ∀ b : Addr, b ∉ (cxOf CX P w K mg base N qual scope f cd A outer s H E).ex := fun b z => absurd (show b ∈ ([] : List Addr) from z) (by simp)
  refine ⟨⟨e0.mod, S.kind, rfl, rfl, Nat.le_refl _, fun y z c h1 h2 => ?_, fun y hy => ?_, fun y c _ h => ?_, fun _ => hd, Around.frames_deeper e0.frames, .inr ⟨rfl, rfl⟩, fun b z => absurd z (noA b), e0.bs, e0.bsz, fun b _ _ => noA b, fun b z => absurd z (noA b), e0.funs, e0.frf⟩,
    rfl, e0.bare, Un.kept hk, ⟨_, x.toInCall.ns, fun i y v h1 h2 h3 => ?_⟩, fun y c h => ⟨_, x.cell y c h⟩, e0.hok.fresh (Nat.le_refl _), fun y c h => ?_, fun p hp => absurd (show p ∈ ([] : List (Addr × Obj)) from hp) (by simp), e0.hok.kept hk, ?_⟩
  · exact name_of_addr x.apart (PySem.mem_of_lookup h1) (PySem.mem_of_lookup h2)
  · have hy : scope.names.lookup y = some .cell ∨ scope.names.lookup y = some .free := hy
    rcases hy with hy | hy
    · exact cell_has hy
    · exact absurd rfl (S.nofree _ (PySem.mem_of_lookup hy))
  · exact Nat.le_of_lt (x.above y c (PySem.mem_of_lookup h))
  · have hi : i < vs.length := by
      unfold start at h2
      by_cases hi : i < vs.length
      · exact hi
      · rw [List.getElem?_append_right (by simpa using hi)] at h2
        rw [List.getElem?_replicate] at h2
        split at h2 <;> cases h2
    have ha : vs[i]? = some v := by
      unfold start at h2
      rw [List.getElem?_append_left (by simpa using hi), List.getElem?_map] at h2
      cases e : vs[i]? with
      | none => rw [e] at h2; cases h2
      | some a => rw [e] at h2; cases h2; rfl
    obtain ⟨u, hu, rv⟩ := r.get ha
    have hp : ps[i]? = some y := by
      rw [← S.pre, List.getElem?_take_of_lt (by omega)]; exact h1
    have ndP : ps.Nodup := by rw [← S.pre]; exact S.nd.sublist (List.take_sublist _ _)
    refine ⟨u, rv, ?_⟩
    rcases S.par y (List.mem_of_getElem? hp) with k | k
    · exact .inl ⟨k, bindL_get ndP hp hu k⟩
    · obtain ⟨c, e⟩ := cell_has (n := s.heap.objs.size + 1) k
      refine .inr ⟨.inl k, c, e, ?_⟩
      have q := x.cell y c e
      rw [bindC_get ndP hp hu (by show scope.names.lookup y ≠ _; rw [k]; decide)] at q
      exact q
  · exact e0.hok.fresh (Nat.le_of_lt (x.above y c (PySem.mem_of_lookup h)))
  · unfold start
    show _ = N.length
    rw [List.length_append, List.length_map, List.length_replicate]
    omega
theorem fn_of {CX : CXT} {P : Program} {w : World} {K : PySem.W.Frag} {mg : Str → Option Value} {base : Heap} {k : Nat} {f : Addr} {name qual : Str} {params : Arguments} {body : List Stmt} {scope : Scope} {dV kV doc pm cdv ct oc : Value} {an od : Option Addr}
    {osl : Array (Option Value)} {N ps : List Str} {sp : Sp} (lk : K.lookup f = some ⟨oc, od, .func (PySem.W.fnOf name qual params body scope dV kV doc pm an cdv ct), osl⟩) (hcd : PySem.W.codeIn K cdv qual = true) (S : FnScope N ps scope)
    (len : ∀ vs H Q E, sp vs H Q E → vs.length = ps.length)
    (hbody : ∀ (A : Around) (outer : List Env) (s : Shared) (H : Hp) (vs : List V) (Q : VK) (E : XK), Room k (A.deeper (envOfC qual scope s.heap.objs.size f cdv)) → sp vs H Q E →
      ∃ t, PSs (cxOf CX P w K mg base N qual scope f cdv A outer s H E) body t ∧ t { nx := fun _ H' => Q .non H', rt := Q } (start N vs) H) :
    FnOk P w K mg base CX (k + 1) f (PySem.W.fnOf name qual params body scope dV kV doc pm an cdv ct) ps sp := by
  refine ⟨len, fun A outer s H args us vs Q E hr e0 hb r hsp => ?_⟩
  have hl := len _ _ _ _ hsp
  have KX : K.In s.heap := e0.mod.kin.keeps fun b o e => (e0.bs b o e).1
  have lim : s.heap.NoLimit := e0.mod.nolimit.keeps fun b o e => (e0.bs b o e).1
  have hkind : ∀ y ∈ ps.zip us, scope.names.lookup y.1 = some .local ∨ (scope.names.lookup y.1 = some .cell ∧ ((cellsFrom (s.heap.objs.size + 1) scope.names []).lookup y.1).isSome = true) := fun ⟨n, v⟩ hy => by
    rcases S.par n (List.of_mem_zip hy).1 with q | q
    · exact .inl q
    · exact .inr ⟨q, PySem.W.cellsFrom_some _ _ _ (.inl q)⟩
  refine codeAny_call_function hr.depth (KX _ _ lk) rfl S.co S.gen rfl (PySem.W.codeRec_of KX hcd) (hb _ _ _ _ ?_)
  refine wpAny_newFunctionEnv_cells S.kind hkind fun env he s1 x => ?_
  subst he
  refine ⟨lim.keeps x.toInCall.keep, codeAny_func ?_⟩
  obtain ⟨t, ht, hq⟩ := hbody A outer s H vs Q E (hr.deeper _) hsp
  have I : Inv (cxOf CX P w K mg base N qual scope f cdv A outer s H E) [] (start N vs) H s1 := inv_start S hr.hd e0 hl r x
  refine wpAny_mono (ht [] s1 (start N vs) H _ I hq) (fun fl s' hs => ?_) fun e s' hs => hs
  have fin : ∀ {σ' : St} {H' : Hp} {v : V} {u : Value}, Inv (cxOf CX P w K mg base N qual scope f cdv A outer s H E) [] σ' H' s' → RelV v u → Q v H' → CE outer P w H s Q u s' :=
    fun {σ' H' v u} J rv q => ⟨v, H', J.os, J.bare, J.base, J.hok, rv, q⟩
  cases fl with
  | ret u =>
    obtain ⟨v, σ', H', J, rv, q⟩ := hs
    exact fin J rv q
  | next =>
    obtain ⟨σ', H', J, q⟩ := hs
    exact fin (v := V.non) (u := Value.none) J rfl q
  | brk =>
    obtain ⟨_, _, _, q⟩ := hs
    exact False.elim q
  | cont =>
    obtain ⟨_, _, _, q⟩ := hs
    exact False.elim q
end L2
namespace L2
open PySem PySem.Spec PyProof.Rows
section
variable {X : Cx} {x : Str} {p pos : Pos} {e : Expr} {es : List Expr} {t : TA} {id T : String} {r : List V → Hp → VK → Prop}
def tCB (r : List V → Hp → VK → Prop) (t : TA) : TE := fun σ H Q => t σ H fun vs H1 => r vs H1 Q
theorem pe_callB (hc : CallR X (.builtin id) r) (hg : Gl X x) (hm : X.mg x = none) (hv : bootBuiltins x = some (.builtin id)) (ha : PA X (e :: es) t) (hn : x ≠ "__name__" := by decide) (hdb : (x == ("__debug__" : Str)) = false := by decide)
    (he : starEach (e :: es) X.env = (false, eval e X.env) :: starEach es X.env := by rfl) (hpl : (backTo pos (starEach es X.env)).any (·.1) = false := by rfl) : PE X (.Call (.Name x p) (e :: es) [] pos) (tCB r t) := by
  intro pins s σ H Q I h
  refine wpAny_Call_Name_kw (ld_blt I hg hm hv ?_ hn hdb)
  exact PyProof.Rows.callWith_builtin1 (thn (ha pos pins s σ H _ I h) fun us s1 ⟨vs, H1, I1, r1, q1⟩ => hc pins s1 σ H1 vs us Q I1 r1 q1) he hpl
theorem pe_callTy (hc : CallR X (.type T) r) (hg : Gl X x) (hm : X.mg x = none) (hv : bootBuiltins x = some (.type T)) (ha : PA X (e :: es) t) (hn : x ≠ "__name__" := by decide) (hdb : (x == ("__debug__" : Str)) = false := by decide)
    (he : starEach (e :: es) X.env = (false, eval e X.env) :: starEach es X.env := by rfl) (hpl : (backTo pos (starEach es X.env)).any (·.1) = false := by rfl) : PE X (.Call (.Name x p) (e :: es) [] pos) (tCB r t) := by
  intro pins s σ H Q I h
  refine wpAny_Call_Name_kw (ld_blt I hg hm hv ?_ hn hdb)
  exact PyProof.Rows.callWith_type1 (thn (ha pos pins s σ H _ I h) fun us s1 ⟨vs, H1, I1, r1, q1⟩ => hc pins s1 σ H1 vs us Q I1 r1 q1) he hpl
end
end L2
namespace HT
open PySem PyProof.Rows
section
open PySem.SeqAt
open PySem.AutoSeq1 (wpAny_loadPart')
open PySem.MeetsSeq PySem.MeetsSeq2 PySem.MeetsSeq3
end
section
variable {prog : Program} {w : World} {A : Around} {E : Value → Shared → Prop} {s : Shared}
theorem cat_tup {t b : Addr} {vs ws : List Value} {Q : Value → Shared → Prop} (ht : IsTup s.heap t vs.toArray) (hb : IsTup s.heap b ws.toArray) (hv : vs ≠ [])
    (h1 : ws = [] → Q (.ref t) s) (h2 : ws ≠ [] → Q (.ref s.heap.objs.size) { s with heap := s.heap.push { cls := .type "tuple", data := .seq (vs ++ ws).toArray } })
    (hsz : vs.length + ws.length ≤ sizeLine) : wpAny (model prog w) A (binaryOp .Add (.ref t) (.ref b)) Q E s := by
  obtain ⟨⟨cls, dd, data, sl⟩, ho, hc, n, hd⟩ := id ht
  obtain ⟨⟨cls2, dd2, data2, sl2⟩, ho2, hc2, n2, hd2⟩ := id hb
  simp only at hc hd hc2 hd2
  subst hc hd hc2 hd2
  have e : vs.toArray ++ ws.toArray = (vs ++ ws).toArray := by simp
  by_cases hw : ws = []
  · exact concat_meets ⟨_, ho, rfl⟩ ⟨_, ho2, rfl⟩ noFill_tuple_add seq_tuple_add PySem.F.slot_tuple_add PySem.F.entry_tuple_add (PySem.F.args_tuple_add_2 _ _)
      (tuple_addW1 t b vs.toArray ws.toArray n n2 dd dd2 sl sl2 (by simpa using hv) (by simp [hw])) ⟨ho, ho2, h1 hw⟩
  · refine concat_meets ⟨_, ho, rfl⟩ ⟨_, ho2, rfl⟩ noFill_tuple_add seq_tuple_add PySem.F.slot_tuple_add PySem.F.entry_tuple_add (PySem.F.args_tuple_add_2 _ _)
      (tuple_addW2 t b vs.toArray ws.toArray n n2 dd dd2 sl sl2 (by simpa using hv) (by simpa using hw) (by rw [List.size_toArray, List.size_toArray]; exact hsz)) ⟨ho, ho2, ?_⟩
    rw [e]
    exact h2 hw
def sIx (n d : Nat) : Option Int → Nat
  | none => d
  | some v => if v < 0 then (v + (n : Int)).toNat else min v.toNat n
theorem sIx_none (n d : Nat) : sIx n d none = d := rfl
theorem sIx_nat (n d k : Nat) : sIx n d (some (k : Int)) = min k n := by
  show (if (k : Int) < 0 then ((k : Int) + (n : Int)).toNat else min (k : Int).toNat n) = min k n
  rw [if_neg (by omega), Int.toNat_natCast]
theorem sIx_le (n d : Nat) (hd : d ≤ n) (o : Option Int) : sIx n d o ≤ n := by
  cases o with
  | none => exact hd
  | some v =>
    show (if v < 0 then (v + (n : Int)).toNat else min v.toNat n) ≤ n
    by_cases hv : v < 0
    · rw [if_pos hv]; omega
    · rw [if_neg hv]; exact Nat.min_le_right _ _
theorem clip_eq (v : Int) (n d : Nat) : (if v < 0 then max (v + (n : Int)) 0 else min v (n : Int)) = ((sIx n d (some v) : Nat) : Int) := by
  show (if v < 0 then max (v + (n : Int)) 0 else min v (n : Int)) = (((if v < 0 then (v + (n : Int)).toNat else min v.toNat n) : Nat) : Int)
  by_cases hv : v < 0
  · simp only [if_pos hv]; omega
  · simp only [if_neg hv]; omega
theorem adjust_gen (lo hi : Option Int) (n : Nat) : Builtin.Slice.sliceAdjust lo hi 1 (n : Int) = (((sIx n 0 lo : Nat) : Int), ((sIx n n hi : Nat) : Int)) := by
  have h1 : ¬ ((1 : Int) < 0) := by omega
  unfold Builtin.Slice.sliceAdjust
  simp only [h1, if_false]
  refine Prod.ext ?_ ?_
  · cases lo with
    | none => rfl
    | some v => exact clip_eq v n 0
  · cases hi with
    | none => rfl
    | some v => exact clip_eq v n n
theorem places_gen (i j : Nat) : Builtin.Slice.slicePlaces (i : Int) (j : Int) 1 = j - i := by
  unfold Builtin.Slice.slicePlaces
  have h1 : (1 : Int) > 0 := by omega
  simp only [h1, if_true, Int.ediv_one]
  split <;> omega
theorem slicePart_ {v : Value} {o : Option Int} {Q : Option Int → Shared → Prop} (p : IsPart v o) (h : Q o s) : wpAny (model prog w) A (Builtin.Slice.slicePartIndex v) Q E s := by
  cases p with
  | none => exact slicePart_none h
  | int i t => exact slicePart_int h
theorem sliceApplied_gen {sl : Addr} {vl vu : Value} {lo hi : Option Int} {n : Nat} {Q : Int × Int × Nat → Shared → Prop} (hs : s.heap.IsSliceOf sl vl vu .none) (pl : IsPart vl lo) (pu : IsPart vu hi)
    (h : Q (((sIx n 0 lo : Nat) : Int), 1, sIx n n hi - sIx n 0 lo) s) : wpAny (model prog w) A (Builtin.Slice.sliceApplied (.ref sl) (pure (n : Int))) Q E s := by
  obtain ⟨os, hos, hcs, hds⟩ := id hs
  unfold Builtin.Slice.sliceApplied Builtin.Slice.sliceFields
  refine wpAny_bind (wpAny_bind (wpAny_field hos hds (x := vl) rfl (wpAny_bind (wpAny_field hos hds (x := vu) rfl (wpAny_bind (wpAny_field hos hds (x := .none) rfl (wpAny_pure ?_)))))))
  refine wpAny_bind (slicePart_none ?_)
  show wpAny _ _ (if ((1 : Int) == 0) = true then _ else _) _ _ s
  rw [if_neg (by decide)]
  refine wpAny_bind (slicePart_ pl (wpAny_bind (slicePart_ pu (wpAny_bind (wpAny_pure ?_)))))
  show wpAny _ _ (match Builtin.Slice.sliceAdjust lo hi 1 (n : Int) with | (lo, hi) => pure (lo, (1 : Int), Builtin.Slice.slicePlaces lo hi 1)) _ _ s
  rw [adjust_gen lo hi n]
  show wpAny _ _ (pure (((sIx n 0 lo : Nat) : Int), (1 : Int), Builtin.Slice.slicePlaces ((sIx n 0 lo : Nat) : Int) ((sIx n n hi : Nat) : Int) 1)) _ _ s
  rw [places_gen]
  exact wpAny_pure h
theorem pick_gen (xs : Array Value) (i k : Nat) : ((List.range k).filterMap fun (m : Nat) => xs[((i : Int) + (m : Int) * 1).toNat]?).toArray = ((xs.toList.drop i).take k).toArray := by
  have e : (fun (m : Nat) => xs[((i : Int) + (m : Int) * 1).toNat]?) = fun m => xs[i + m]? := by
    funext m
    have : ((i : Int) + (m : Int) * 1).toNat = i + m := by omega
    rw [this]
  rw [e]
  have := pick_run xs i k
  rw [List.filterMap_map] at this
  have e2 : ((fun x => xs[x]?) ∘ fun x => i + x) = fun m => xs[i + m]? := rfl
  rw [e2] at this
  rw [this]
theorem getItem_tuple_cut {t sl : Addr} {items : Array Value} {vl vu : Value} {lo hi : Option Int} {Q : Value → Shared → Prop} (ht : IsTup s.heap t items) (hs : s.heap.IsSliceOf sl vl vu .none) (pl : IsPart vl lo) (pu : IsPart vu hi)
    (hw : ¬ (sIx items.size 0 lo = 0 ∧ sIx items.size items.size hi = items.size))
    (h : Q (.ref s.heap.objs.size) { s with heap := s.heap.push { cls := .type "tuple", data := .seq ((items.toList.drop (sIx items.size 0 lo)).take (sIx items.size items.size hi - sIx items.size 0 lo)).toArray } })
    (hsz : items.size ≤ sizeLine) : wpAny (model prog w) A (getItem (.ref t) (.ref sl)) Q E s := by
  have htake : sizeOk (.seq ((items.toList.drop (sIx items.size 0 lo)).take (sIx items.size items.size hi - sIx items.size 0 lo)).toArray) := by
    show ((items.toList.drop (sIx items.size 0 lo)).take (sIx items.size items.size hi - sIx items.size 0 lo)).toArray.size ≤ sizeLine
    rw [List.size_toArray, List.length_take, List.length_drop, Array.length_toList]
    omega
  have hj : sIx items.size items.size hi ≤ items.size := sIx_le _ _ (Nat.le_refl _) hi
  obtain ⟨os, hos, hcs, hds⟩ := id hs
  have hTs : s.TypeIs (.ref sl) "slice" := ⟨os, hos, hcs⟩
  unfold getItem
  try with_reducible refine wpAny_holding ?_
  first | refine wpAny_bind (wpAny_pure ?_) | skip
  refine wpAny_bind (wpAny_sequenceKey ht.typeIs (by decide) ?_)
  refine wpAny_bind (wpAny_callSpecial?_slot (name := Str.ofString "__getitem__") ht.typeIs PyProof.Rows.slot_tuple_getitem
    (wpAny_call_entry PyProof.Rows.slot_tuple_getitem ht.typeIs entry_tuple_getitem ?_ (args_tuple_getitem _ _)))
  show wpAny _ _ (Builtin.Tuple.tupleItemsOf (.ref t) >>= _) _ _ s
  refine wpAny_bind (tupleItemsOf_ ht ?_)
  refine wpAny_bind (wpAny_typeOf hTs ?_)
  rw [if_pos (by decide)]
  refine wpAny_bind (sliceApplied_gen hs pl pu ?_)
  have hno : ¬ ((((sIx items.size 0 lo : Nat) : Int) == 0 && (1 : Int) == 1 && (sIx items.size items.size hi - sIx items.size 0 lo) == items.size) = true) := by
    intro q
    rw [Bool.and_eq_true, Bool.and_eq_true] at q
    have q1 : ((sIx items.size 0 lo : Nat) : Int) = 0 := eq_of_beq q.1.1
    have q2 : sIx items.size items.size hi - sIx items.size 0 lo = items.size := eq_of_beq q.2
    exact hw ⟨by omega, by omega⟩
  show wpAny _ _ (if (((sIx items.size 0 lo : Nat) : Int) == 0 && (1 : Int) == 1 && (sIx items.size items.size hi - sIx items.size 0 lo) == items.size) = true then _ else _) _ _ s
  rw [if_neg hno, pick_gen]
  first
    | exact wpAny_bind (m := Builtin.Tuple.tupleExact _) (wpAny_newObj_type (wpAny_pure ⟨_, rfl, wpAny_pure h⟩) htake)
    | exact wpAny_bind (m := Builtin.Tuple.tupleExact _) (wpAny_newObj_type (wpAny_bind (wpAny_pure (wpAny_pure ⟨_, rfl, wpAny_pure h⟩))) htake)
    | exact wpAny_bind (wpAny_bind (m := Builtin.Tuple.tupleExact _) (wpAny_newObj_type (wpAny_pure (wpAny_pure ⟨_, rfl, wpAny_pure h⟩)) htake))
    | exact wpAny_bind (wpAny_bind (m := Builtin.Tuple.tupleExact _) (wpAny_newObj_type (wpAny_pure ⟨_, rfl, wpAny_pure h⟩) htake))
end
end HT
namespace L2
open PySem PySem.Spec PyProof.Rows
abbrev TO := St → Hp → (Option Int → Hp → Prop) → Prop
def PO (X : Cx) (e : Option Expr) (t : TO) : Prop :=
  ∀ (pins : List (Addr × Obj)) (s : Shared) (σ : St) (H : Hp) (Q : Option Int → Hp → Prop), Inv X pins σ H s → t σ H Q →
    wpAny (model X.prog X.w) X.A (evalPart e X.env) (fun u s' => ∃ o H', Inv X pins σ H' s' ∧ IsPart u o ∧ Q o H') X.xe s
def tNoPart : TO := fun _ H Q => Q none H
def tPart (t : TE) : TO := fun σ H Q => t σ H fun x H1 => ∃ i, x = .int i ∧ Q (some i) H1
section
variable {X : Cx} {e : Expr} {te : TE} {lo hi : Option Expr} {tl th : TO} {pos p2 : Pos}
theorem po_none : PO X none tNoPart := by
  intro pins s σ H Q I h
  rw [evalPart_none]
  exact wpAny_pure ⟨none, H, I, .none, h⟩
theorem po_some (h : PE X e te) : PO X (some e) (tPart te) := by
  intro pins s σ H Q I hw
  rw [evalPart_some]
  refine thn (h pins s σ H _ I hw) fun u s1 ⟨x, H1, I1, r1, q1⟩ => ?_
  obtain ⟨i, rfl, q⟩ := q1
  obtain ⟨t, rfl⟩ := r1
  exact ⟨some i, H1, I1, .int i t, q⟩
def SlR (X : Cx) (r : V → Option Int → Option Int → Hp → VK → Prop) : Prop :=
  ∀ (pins : List (Addr × Obj)) (s : Shared) (σ : St) (H : Hp) (x : V) (v vl vu : Value) (lo hi : Option Int) (sl : Addr) (Q : VK), Inv X pins σ H s → RelV x v → s.heap.IsSliceOf sl vl vu .none → IsPart vl lo → IsPart vu hi → r x lo hi H Q →
    ∃ T id, typeLookup (.type T) "__getitem__" = pure (some (.builtin id)) ∧ s.TypeIs v T ∧ wpAny (model X.prog X.w) X.A (getItem v (.ref sl)) (EP X pins σ Q) X.xe s
theorem SlR.or {r r' : V → Option Int → Option Int → Hp → VK → Prop} (h : SlR X r) (h' : SlR X r') : SlR X (fun x lo hi H Q => r x lo hi H Q ∨ r' x lo hi H Q) := by
  intro pins s σ H x v vl vu lo hi sl Q I rx hs pl pu q
  rcases q with q | q
  · exact h pins s σ H x v vl vu lo hi sl Q I rx hs pl pu q
  · exact h' pins s σ H x v vl vu lo hi sl Q I rx hs pl pu q
def tSl (r : V → Option Int → Option Int → Hp → VK → Prop) (te : TE) (tl th : TO) : TE := fun σ H Q => te σ H fun x H1 => tl σ H1 fun l H2 => th σ H2 fun u H3 => r x l u H3 Q
theorem pe_slice {r : V → Option Int → Option Int → Hp → VK → Prop} (hr : SlR X r) (he : PE X e te) (hl : PO X lo tl) (hu : PO X hi th) : PE X (.Subscript e (.Slice lo hi none p2) pos) (tSl r te tl th) := by
  intro pins s σ H Q I h
  refine Subscript_ (thn (he pins s σ H _ I h) fun v s1 ⟨x, H1, I1, r1, q1⟩ => ?_)
  refine wpAny_Slice (thn (hl pins s1 σ H1 _ I1 q1) fun vl s2 ⟨l, H2, I2, pl, q2⟩ => thn (hu pins s2 σ H2 _ I2 q2) fun vu s3 ⟨u, H3, I3, pu, q3⟩ => ?_)
  rw [evalPart_none]
  refine wpAny_pure ?_
  have I4 : Inv X pins σ H3 { s3 with heap := s3.heap.push { cls := .type "slice", data := .fields #[vl, vu, .none] } } := I3.kept (t' := s3.toks) fun b ob q => Heap.get?_push_of_some _ q
  obtain ⟨T, id, hT, ht, hg⟩ := hr pins { s3 with heap := s3.heap.push { cls := .type "slice", data := .fields #[vl, vu, .none] } } σ H3 x v vl vu l u s3.heap.objs.size Q I4 r1 (Heap.IsSliceOf.new ..) pl pu q3
  show wpAny (model X.prog X.w) X.A (subscriptTail e (.Slice lo hi none p2) v (.ref s3.heap.objs.size)) (EP X pins σ Q) X.xe { s3 with heap := s3.heap.push { cls := .type "slice", data := .fields #[vl, vu, .none] } }
  exact tail_any (ops := [.ref s3.heap.objs.size, v]) ht hT hg (by with_unfolding_all rfl)
def cutV (xs : List V) (lo hi : Option Int) : List V := (xs.drop (HT.sIx xs.length 0 lo)).take (HT.sIx xs.length xs.length hi - HT.sIx xs.length 0 lo)
theorem cutV_length (xs : List V) (lo hi : Option Int) : (cutV xs lo hi).length ≤ xs.length := by
  unfold cutV
  rw [List.length_take, List.length_drop]
  omega
def rSlT (K : PySem.W.Frag) : V → Option Int → Option Int → Hp → VK → Prop := fun x lo hi H Q => ∃ a xs, x = .ref a ∧ SqT K H a xs ∧
  ¬ (HT.sIx xs.length 0 lo = 0 ∧ HT.sIx xs.length xs.length hi = xs.length) ∧ ∀ p, H p = none → Q (.ref p) (upd H p (.tup (cutV xs lo hi)))
theorem sl_tup : SlR X (rSlT X.K) := by
  intro pins s σ H x v vl vu lo hi sl Q I rx hs pl pu h
  obtain ⟨a, xs, rfl, hx, hw, q⟩ := h
  cases rx
  obtain ⟨its, r, ht, hz⟩ := I.tuple hx
  have hlen : its.toArray.size = xs.length := by rw [List.size_toArray]; exact r.length.symm
  refine ⟨"tuple", _, PyProof.Rows.slot_tuple_getitem.lookup, ht.typeIs, ?_⟩
  refine HT.getItem_tuple_cut ht hs pl pu (by rw [hlen]; exact hw) ?_ (by rw [hlen]; exact hz)
  rw [hlen]
  refine ⟨.ref s.heap.objs.size, _, I.laid (t' := s.toks) (o := .tup (cutV xs lo hi)) (fun b ob q => Heap.get?_push_of_some _ q) (Nat.le_refl _) ?_, rfl, q _ (I.hok.fresh (Nat.le_refl _))⟩
  exact ⟨Nat.le_trans (cutV_length xs lo hi) hz, _, (r.drop (HT.sIx xs.length 0 lo)).take (HT.sIx xs.length xs.length hi - HT.sIx xs.length 0 lo), IsTup.new _ _⟩
def rCatT (K : PySem.W.Frag) : R2 := fun x y H Q => ∃ a b xs ys, x = .ref a ∧ y = .ref b ∧ SqT K H a xs ∧ SqT K H b ys ∧ xs ≠ [] ∧ xs.length + ys.length ≤ sizeLine ∧
  (ys = [] → Q (.ref a) H) ∧ (ys ≠ [] → ∀ p, H p = none → Q (.ref p) (upd H p (.tup (xs ++ ys))))
theorem Vals.nil_iff {xs : List V} {us : List Value} (r : Vals xs us) : us = [] ↔ xs = [] := by
  cases r with
  | nil => simp
  | cons _ _ => simp
theorem op_catT : OpR X (binaryOp .Add) (rCatT X.K) := by
  intro pins s σ H x y v u Q I rx ry h
  obtain ⟨a, b, xs, ys, rfl, rfl, ha, hb, hx, hz, q1, q2⟩ := h
  cases rx
  cases ry
  obtain ⟨its, r1, p1, _⟩ := I.tuple ha
  obtain ⟨its2, r2, p2, _⟩ := I.tuple hb
  refine HT.cat_tup p1 p2 (fun z => hx (r1.nil_iff.mp z)) (fun z => ⟨.ref a, H, I, rfl, q1 (r2.nil_iff.mp z)⟩) (fun z => ?_) (by rw [← r1.length, ← r2.length]; exact hz)
  refine ⟨.ref s.heap.objs.size, _, I.laid (t' := s.toks) (o := .tup (xs ++ ys)) (fun b ob q => Heap.get?_push_of_some _ q) (Nat.le_refl _) ?_, rfl, q2 (fun w => z (r2.nil_iff.mpr w)) _ (I.hok.fresh (Nat.le_refl _))⟩
  exact ⟨by rw [List.length_append]; exact hz, _, r1.append r2, IsTup.new _ _⟩
end
end L2
namespace L2
open PySem PySem.Spec PyProof.Rows
def ixN (n : Nat) (i : Int) : Option Nat := if 0 ≤ i then (if i < n then some i.toNat else none) else if -(n : Int) ≤ i then some (i + n).toNat else none
def atI {α : Type} (xs : List α) (i : Int) : Option α := (ixN xs.length i).bind fun j => xs[j]?
theorem ixN_seq {n : Nat} {i : Int} {j : Nat} (h : ixN n i = some j) : seqIndex? i n = some j ∧ j < n ∧ -(n : Int) ≤ i ∧ i < n := by
  unfold ixN at h
  by_cases h0 : 0 ≤ i
  · rw [if_pos h0] at h
    by_cases h1 : i < n
    · rw [if_pos h1] at h
      have e : i.toNat = j := Option.some.inj h
      exact ⟨by rw [seqIndex_of h0 h1, e], by omega, by omega, h1⟩
    · rw [if_neg h1] at h; cases h
  · rw [if_neg h0] at h
    by_cases h1 : -(n : Int) ≤ i
    · rw [if_pos h1] at h
      have e : (i + n).toNat = j := Option.some.inj h
      exact ⟨by rw [seqIndex_neg (by omega) h1, e], by omega, h1, by omega⟩
    · rw [if_neg h1] at h; cases h
theorem atI_get {α : Type} {xs : List α} {i : Int} {v : α} (h : atI xs i = some v) : ∃ j, seqIndex? i xs.length = some j ∧ xs[j]? = some v ∧ j < xs.length ∧ -(xs.length : Int) ≤ i ∧ i < xs.length := by
  unfold atI at h
  cases e : ixN xs.length i with
  | none => rw [e] at h; cases h
  | some j =>
    rw [e] at h
    obtain ⟨h1, h2, h3, h4⟩ := ixN_seq e
    exact ⟨j, h1, h, h2, h3, h4⟩
theorem atI_nat {α : Type} {xs : List α} {j : Nat} {v : α} (h : xs[j]? = some v) : atI xs (j : Int) = some v := by
  have hj : j < xs.length := (List.getElem?_eq_some_iff.mp h).1
  have e : ixN xs.length (j : Int) = some j := by
    unfold ixN
    rw [if_pos (by omega), if_pos (by omega)]; simp
  unfold atI; rw [e]; exact h
def PlainIx (b : Expr) : Prop := ∀ o i, subscripted b false o i = operate [o, i] (getItem o i)
def IxR (X : Cx) (r : R2) : Prop :=
  ∀ (value slice : Expr) (pins : List (Addr × Obj)) (s : Shared) (σ : St) (H : Hp) (x y : V) (v u : Value) (Q : VK), Inv X pins σ H s → RelV x v → RelV y u → r x y H Q →
    subscripted slice false v u = operate [v, u] (getItem v u) → wpAny (model X.prog X.w) X.A (subscriptTail value slice v u) (EP X pins σ Q) X.xe s
def MtR (X : Cx) (id : String) (r : V → List V → Hp → VK → Prop) : Prop :=
  ∀ (pins : List (Addr × Obj)) (s : Shared) (σ : St) (H : Hp) (x : V) (xs : List V) (v : Value) (us : List Value) (Q : VK), Inv X pins σ H s → RelV x v → Vals xs us → r x xs H Q →
    wpAny (model X.prog X.w) X.A (call (.builtin id) (v :: us)) (EP X pins σ Q) X.xe s
section
variable {X : Cx} {a b : Expr} {ta tb : TE} {pos : Pos}
theorem IxR.or {r r' : R2} (h : IxR X r) (h' : IxR X r') : IxR X (fun x y H Q => r x y H Q ∨ r' x y H Q) := by
  intro value slice pins s σ H x y v u Q I rx ry q hs
  rcases q with q | q
  · exact h value slice pins s σ H x y v u Q I rx ry q hs
  · exact h' value slice pins s σ H x y v u Q I rx ry q hs
theorem MtR.or {id : String} {r r' : V → List V → Hp → VK → Prop} (h : MtR X id r) (h' : MtR X id r') : MtR X id (fun x xs H Q => r x xs H Q ∨ r' x xs H Q) := by
  intro pins s σ H x xs v us Q I rx rs q
  rcases q with q | q
  · exact h pins s σ H x xs v us Q I rx rs q
  · exact h' pins s σ H x xs v us Q I rx rs q
theorem pe_ix {r : R2} (hr : IxR X r) (ha : PE X a ta) (hb : PE X b tb) (hs : PlainIx b) : PE X (.Subscript a b pos) (tOp r ta tb) := by
  intro pins s σ H Q I h
  exact Subscript_ (binT ha hb I h fun v u s2 x y H2 I2 rx ry q => hr a b pins s2 σ H2 x y v u Q I2 rx ry q (hs _ _))
def rIxL (K : PySem.W.Frag) : R2 := fun x y H Q => ∃ p xs i v, x = .ref p ∧ y = .int i ∧ SqL K H p xs ∧ atI xs i = some v ∧ Q v H
def rIxT (K : PySem.W.Frag) : R2 := fun x y H Q => ∃ p xs i v, x = .ref p ∧ y = .int i ∧ SqT K H p xs ∧ atI xs i = some v ∧ Q v H
def rIxS : R2 := fun x y H Q => ∃ z i c, x = .str z ∧ y = .int i ∧ z.length ≤ sizeLine ∧ atI z.cps.toList i = some c ∧ Q (.str ⟨#[c]⟩) H
theorem ix_list : IxR X (rIxL X.K) := by
  intro value slice pins s σ H x y v u Q I rx ry h hs
  obtain ⟨p, xs, i, z, rfl, rfl, hq, he, q⟩ := h
  cases rx
  obtain ⟨t, rfl⟩ := ry
  obtain ⟨its, r, pl, hz⟩ := I.list hq
  obtain ⟨j, h1, h2, h3, h4, h5⟩ := atI_get he
  obtain ⟨w, ew, rw'⟩ := r.get h2
  have hl := r.length
  have hn := line63
  have fin : EP X pins σ Q w s := ⟨z, H, I, rw', q⟩
  by_cases h0 : 0 ≤ i
  · have hj : i.toNat = j := by
      rw [seqIndex_of h0 h5] at h1
      exact Option.some.inj h1
    exact item_listR pl.isList h0 (by omega) (by rw [hj]; simpa using ew) fin hs
  · have hj : (i + (its.toArray.size : Int)).toNat = j := by
      rw [seqIndex_neg (by omega) h4] at h1
      rw [List.size_toArray, ← hl]
      exact Option.some.inj h1
    exact subscriptTail_builtinR (x := w) pl.isList.typeIs slot_list_getitem.lookup
      (wpAny_getItem_list_neg (Q := fun r s' => r = w ∧ EP X pins σ Q r s') pl.isList (by omega) (by rw [List.size_toArray] <;> omega) (by omega) (by rw [hj]; simpa using ew) ⟨rfl, fin⟩) hs
theorem ix_tup : IxR X (rIxT X.K) := by
  intro value slice pins s σ H x y v u Q I rx ry h hs
  obtain ⟨p, xs, i, z, rfl, rfl, hq, he, q⟩ := h
  cases rx
  obtain ⟨t, rfl⟩ := ry
  obtain ⟨its, r, pl, hz⟩ := I.tuple hq
  obtain ⟨j, h1, h2, h3, h4, h5⟩ := atI_get he
  obtain ⟨w, ew, rw'⟩ := r.get h2
  have hl := r.length
  have hn := line63
  have fin : EP X pins σ Q w s := ⟨z, H, I, rw', q⟩
  exact subscriptTail_builtinR (x := w) pl.typeIs slot_tuple_getitem.lookup
    (getItem_tuple (j := j) (Q := fun r s' => r = w ∧ EP X pins σ Q r s') pl (by omega) (by omega) (by rw [List.size_toArray, ← hl]; exact h1) (by simpa using ew) ⟨rfl, fin⟩) hs
theorem ix_str : IxR X rIxS := by
  intro value slice pins s σ H x y v u Q I rx ry h hs
  obtain ⟨z, i, c, rfl, rfl, hz, he, q⟩ := h
  obtain ⟨t, rfl⟩ := rx
  obtain ⟨t', rfl⟩ := ry
  obtain ⟨j, h1, h2, h3, h4, h5⟩ := atI_get he
  have hl : z.cps.toList.length = z.length := by simp [Str.length]
  rw [hl] at h1 h4 h5
  have hn := line63
  exact tail_any (typeIs_str s z t) slot_str_getitem.lookup (getItem_str (c := c) (by
    have e1 : decide (i < -(2 ^ 63 : Int)) = false := decide_eq_false (by omega)
    have e2 : decide (i ≥ 2 ^ 63) = false := decide_eq_false (by omega)
    rw [e1, e2, Bool.or_false]) (by rw [h1]; simpa using h2) ⟨.str ⟨#[c]⟩, H, I.tok _, ⟨_, rfl⟩, q⟩) hs
theorem mapSeq_set (its : List Value) (n j : Nat) (u : Value) : Obj.mapSeq (·.setIfInBounds j u) { cls := .type "list", data := .seq its.toArray n } = { cls := .type "list", data := .seq (its.set j u).toArray n } := by
  simp [Obj.mapSeq]
theorem Inv.lst {pins : List (Addr × Obj)} {σ : St} {H : Hp} {s : Shared} {p : Addr} {xs : List V} (I : Inv X pins σ H s) (h : H p = some (.lst xs)) :
    ∃ (its : List Value) (n : Nat), Vals xs its ∧ s.heap.get? p = some { cls := .type "list", data := .seq its.toArray n } ∧ xs.length ≤ sizeLine := by
  obtain ⟨z, its, n, r, e⟩ := I.hok p _ h
  exact ⟨its, n, r, e, z⟩
theorem Inv.lstUpd {pins : List (Addr × Obj)} {σ : St} {H : Hp} {s : Shared} {p : Addr} {xs ys : List V} {its its' : List Value} {n n' : Nat} {f : Obj → Obj} (I : Inv X pins σ H s) (h : H p = some (.lst xs))
    (ho : s.heap.get? p = some { cls := .type "list", data := .seq its.toArray n }) (hf : f { cls := .type "list", data := .seq its.toArray n } = { cls := .type "list", data := .seq its'.toArray n' }) (r : Vals ys its') (hz : ys.length ≤ sizeLine) (t : Nat) :
    Inv X pins σ (upd H p (.lst ys)) { s with heap := s.heap.update p f, toks := t } := by
  have e : (s.heap.update p f).get? p = some { cls := .type "list", data := .seq its'.toArray n' } := by
    rw [Heap.get?_update_self f ho (by rw [hf] <;> rfl), hf]
  refine I.write (x := p) (e := p) (by rw [h]; trivial) (.inl rfl) (fun b u hb q => (Heap.get?_update_other _ _ (Ne.symm hb)).trans q) ⟨_, e⟩ ?_
  exact ⟨hz, its', n', r, e⟩
def rSetL : V → V → V → Hp → (Hp → Prop) → Prop := fun o i v H Q => ∃ p xs k j, o = .ref p ∧ i = .int k ∧ H p = some (.lst xs) ∧ ixN xs.length k = some j ∧ Q (upd H p (.lst (xs.set j v)))
theorem set_list : PSet X rSetL := by
  intro pins s σ H o i v ov iv u Q I ro ri rv h
  obtain ⟨p, xs, k, j, rfl, rfl, hp, hj, q⟩ := h
  cases ro
  obtain ⟨t, rfl⟩ := ri
  obtain ⟨its, n, r, ho, hz⟩ := I.lst hp
  obtain ⟨h1, h2, h3, h4⟩ := ixN_seq hj
  have hl := r.length
  have hn := line63
  have I' : Inv X pins σ (upd H p (.lst (xs.set j v))) { s with heap := s.heap.update p (Obj.mapSeq (·.setIfInBounds j u)) } :=
    I.lstUpd hp ho (mapSeq_set its n j u) (r.set rv j) (by rw [List.length_set]; exact hz) s.toks
  by_cases h0 : 0 ≤ k
  · have hk : k.toNat = j := by
      rw [seqIndex_of h0 h4] at h1
      exact Option.some.inj h1
    exact PySem.W.ki_setAt ho h0 (by omega) (by rw [List.size_toArray, ← hl]; exact h4) (by rw [hk]; exact ⟨_, I', q⟩)
  · have hk : (k + (its.toArray.size : Int)).toNat = j := by
      rw [seqIndex_neg (by omega) h3] at h1
      rw [List.size_toArray, ← hl]
      exact Option.some.inj h1
    exact PySem.W.ki_setBack ho (by omega) (by rw [List.size_toArray, ← hl]; exact h3) (by omega) (by rw [hk]; exact ⟨_, I', q⟩)
theorem slice_bounds (lo hi : Option Int) (n : Nat) : (sliceBounds lo hi none n).1 = ((HT.sIx n 0 lo : Nat) : Int) ∧ (sliceBounds lo hi none n).2.1 = ((HT.sIx n n hi : Nat) : Int) ∧ (sliceBounds lo hi none n).2.2 = 1 := by
  refine ⟨?_, ?_, rfl⟩
  · cases lo with
    | none => simp [sliceBounds, HT.sIx]
    | some i =>
      simp only [sliceBounds, HT.sIx, Option.getD_none, show (1 : Int) > 0 by decide, if_true]
      by_cases h : i < 0
      · simp only [h, if_true] <;> omega
      · simp only [h, if_false] <;> omega
  · cases hi with
    | none => simp [sliceBounds, HT.sIx]
    | some i =>
      simp only [sliceBounds, HT.sIx, Option.getD_none, show (1 : Int) > 0 by decide, if_true]
      by_cases h : i < 0
      · simp only [h, if_true] <;> omega
      · simp only [h, if_false] <;> omega
theorem slicePick_cut (its : List Value) (lo hi : Option Int) : slicePick its.toArray lo hi none = ((its.drop (HT.sIx its.length 0 lo)).take (HT.sIx its.length its.length hi - HT.sIx its.length 0 lo)).toArray := by
  obtain ⟨h1, h2, h3⟩ := slice_bounds lo hi its.toArray.size
  unfold slicePick
  rw [h1, h2, h3]
  simp only [sliceRange_one, pick_run, List.size_toArray] <;> rfl
def flatV : V → Bool
  | .non => true
  | .bl _ => true
  | .int _ => true
  | .str _ => true
  | _ => false
def eqV : V → V → Bool
  | .non, .non => true
  | .bl a, .bl b => a == b
  | .bl a, .int b => (if a then 1 else 0) == b
  | .int a, .bl b => a == (if b then 1 else 0)
  | .int a, .int b => a == b
  | .str a, .str b => a == b
  | _, _ => false
theorem eqAt_V {A : Around} {s : Shared} {y x : V} {u v : Value} (ry : RelV y u) (rx : RelV x v) (fy : flatV y = true) (fx : flatV x = true) : SeqAt.EqAt A s u v (eqV y x) := by
  cases y with
  | non =>
    cases ry
    cases x with
    | non => cases rx; exact SeqAt.EqAt.same _
    | bl b => cases rx; exact SeqAt.EqAt.none_bool b
    | int b => obtain ⟨t, rfl⟩ := rx; exact SeqAt.EqAt.none_int b t
    | str b => obtain ⟨t, rfl⟩ := rx; exact SeqAt.EqAt.none_str b t
    | _ => exact absurd (show false = true from fx) Bool.false_ne_true
  | bl a =>
    cases ry
    cases x with
    | non => cases rx; exact SeqAt.EqAt.bool_none a
    | bl b => cases rx; exact SeqAt.EqAt.bool_bool a b
    | int b => obtain ⟨t, rfl⟩ := rx; exact SeqAt.EqAt.bool_int a b t
    | str b => obtain ⟨t, rfl⟩ := rx; exact SeqAt.EqAt.bool_str a b t
    | _ => exact absurd (show false = true from fx) Bool.false_ne_true
  | int a =>
    obtain ⟨t', rfl⟩ := ry
    cases x with
    | non => cases rx; exact SeqAt.EqAt.int_none a t'
    | bl b => cases rx; exact SeqAt.EqAt.int_bool a t' b
    | int b => obtain ⟨t, rfl⟩ := rx; exact SeqAt.EqAt.int_int a t' b t
    | str b => obtain ⟨t, rfl⟩ := rx; exact SeqAt.EqAt.int_str a t' b t
    | _ => exact absurd (show false = true from fx) Bool.false_ne_true
  | str a =>
    obtain ⟨t', rfl⟩ := ry
    cases x with
    | non => cases rx; exact SeqAt.EqAt.str_none a t'
    | bl b => cases rx; exact SeqAt.EqAt.str_bool a t' b
    | int b => obtain ⟨t, rfl⟩ := rx; exact SeqAt.EqAt.str_int a t' b t
    | str b => obtain ⟨t, rfl⟩ := rx; exact SeqAt.EqAt.str_str a t' b t
    | _ => exact absurd (show false = true from fx) Bool.false_ne_true
  | _ => exact absurd (show false = true from fy) Bool.false_ne_true
def eqU (x : V) (u : Value) : Bool := match u with
  | .none => eqV .non x
  | .bool b => eqV (.bl b) x
  | .int i _ => eqV (.int i) x
  | .str z _ => eqV (.str z) x
  | _ => false
theorem eqU_of {x y : V} {u : Value} (r : RelV y u) (f : flatV y = true) : eqU x u = eqV y x := by
  cases y with
  | non => cases r; rfl
  | bl b => cases r; rfl
  | int i => obtain ⟨t, rfl⟩ := r; rfl
  | str z => obtain ⟨t, rfl⟩ := r; rfl
  | _ => exact absurd (show false = true from f) Bool.false_ne_true
theorem any_eqU {x : V} : ∀ {xs : List V} {us : List Value}, Vals xs us → xs.all flatV = true → us.any (eqU x) = xs.any fun y => eqV y x
  | _, _, .nil, _ => rfl
  | y :: xs, u :: us, .cons r t, f => by
    rw [List.all_cons, Bool.and_eq_true] at f
    rw [List.any_cons, List.any_cons, eqU_of r f.1, any_eqU t f.2]
theorem mem_eqAt {A : Around} {s : Shared} {x : V} {v : Value} (rx : RelV x v) (fx : flatV x = true) : ∀ {xs : List V} {us : List Value}, Vals xs us → xs.all flatV = true → ∀ u ∈ us, SeqAt.EqAt A s u v (eqU x u)
  | _, _, .nil, _ => fun u hu => by cases hu
  | y :: xs, u :: us, .cons r t, f => fun u' hu => by
    rw [List.all_cons, Bool.and_eq_true] at f
    rcases List.mem_cons.mp hu with rfl | hu
    · rw [eqU_of r f.1]; exact eqAt_V r rx f.1 fx
    · exact mem_eqAt rx fx t f.2 u' hu
def inV (x : V) (xs : List V) : Bool := xs.any fun y => eqV y x
def rIn (K : PySem.W.Frag) (neg : Bool) : R2 := fun x y H Q => ∃ p xs, y = .ref p ∧ (SqL K H p xs ∨ SqT K H p xs) ∧ flatV x = true ∧ xs.all flatV = true ∧ Q (.bl (if neg then !inV x xs else inV x xs)) H
theorem op_in_seq : OpR X (compareOp .In) (rIn X.K false) := by
  intro pins s σ H x y v u Q I rx ry h
  obtain ⟨p, xs, rfl, hq, fx, fs, q⟩ := h
  cases ry
  rcases hq with hq | hq
  · obtain ⟨its, r, pl, hz⟩ := I.list hq
    refine SeqAt.in_listAt (eqU x) pl.isList (fun w hw => mem_eqAt rx fx r fs w (by simpa using hw)) ⟨.bl _, H, I, rfl, ?_⟩
    rw [show its.toArray.any (eqU x) = its.any (eqU x) by simp, any_eqU r fs]
    exact q
  · obtain ⟨its, r, pl, hz⟩ := I.tuple hq
    refine SeqAt.in_tupleAt (eqU x) pl (fun w hw => mem_eqAt rx fx r fs w (by simpa using hw)) ⟨.bl _, H, I, rfl, ?_⟩
    rw [show its.toArray.any (eqU x) = its.any (eqU x) by simp, any_eqU r fs]
    exact q
theorem op_notIn_seq : OpR X (compareOp .NotIn) (rIn X.K true) := by
  intro pins s σ H x y v u Q I rx ry h
  obtain ⟨p, xs, rfl, hq, fx, fs, q⟩ := h
  cases ry
  rcases hq with hq | hq
  · obtain ⟨its, r, pl, hz⟩ := I.list hq
    refine SeqAt.notIn_listAt (eqU x) pl.isList (fun w hw => mem_eqAt rx fx r fs w (by simpa using hw)) ⟨.bl _, H, I, rfl, ?_⟩
    rw [show its.toArray.any (eqU x) = its.any (eqU x) by simp, any_eqU r fs]
    exact q
  · obtain ⟨its, r, pl, hz⟩ := I.tuple hq
    refine SeqAt.notIn_tupleAt (eqU x) pl (fun w hw => mem_eqAt rx fx r fs w (by simpa using hw)) ⟨.bl _, H, I, rfl, ?_⟩
    rw [show its.toArray.any (eqU x) = its.any (eqU x) by simp, any_eqU r fs]
    exact q
theorem call_len_seq : CallR X (.builtin "len") (fun xs H Q => ∃ p ys, xs = [.ref p] ∧ (SqL X.K H p ys ∨ SqT X.K H p ys) ∧ Q (.int ys.length) H) := by
  intro pins s σ H xs us Q I r h
  obtain ⟨p, ys, rfl, hq, q⟩ := h
  obtain ⟨u, rfl, rx⟩ := vals1 r
  cases rx
  have hn := line63
  rcases hq with hq | hq
  · obtain ⟨its, r', pl, hz⟩ := I.list hq
    have hlen := r'.length
    exact Calls.call_len_list pl.isList (by simp only [List.size_toArray] <;> omega) ⟨.int ys.length, H, I.tok _, ⟨s.toks + 1, by rw [List.size_toArray, hlen]⟩, q⟩
  · obtain ⟨its, r', pl, hz⟩ := I.tuple hq
    have hlen := r'.length
    exact len_tuple pl (by simp only [List.size_toArray] <;> omega) ⟨.int ys.length, H, I.tok _, ⟨s.toks + 1, by rw [List.size_toArray, hlen]⟩, q⟩
theorem call_len_str : CallR X (.builtin "len") (fun xs H Q => ∃ z, xs = [.str z] ∧ z.length ≤ sizeLine ∧ Q (.int z.length) H) := by
  intro pins s σ H xs us Q I r h
  obtain ⟨z, rfl, hz, q⟩ := h
  obtain ⟨u, rfl, t, rfl⟩ := vals1 r
  have hn := line63
  exact len_str (by omega) ⟨.int z.length, H, I.tok _, ⟨_, rfl⟩, q⟩
theorem CallR.or {f : Value} {r r' : List V → Hp → VK → Prop} (h : CallR X f r) (h' : CallR X f r') : CallR X f (fun xs H Q => r xs H Q ∨ r' xs H Q) := by
  intro pins s σ H xs us Q I rs q
  rcases q with q | q
  · exact h pins s σ H xs us Q I rs q
  · exact h' pins s σ H xs us Q I rs q
theorem call_tuple_of : CallR X (.type "tuple") (fun xs H Q => ∃ p ys, xs = [.ref p] ∧ ((SqL X.K H p ys ∧ ∀ l, H l = none → Q (.ref l) (upd H l (.tup ys))) ∨ (SqT X.K H p ys ∧ Q (.ref p) H))) := by
  intro pins s σ H xs us Q I r h
  obtain ⟨p, ys, rfl, h⟩ := h
  obtain ⟨u, rfl, rx⟩ := vals1 r
  cases rx
  rcases h with ⟨hq, q⟩ | ⟨hq, q⟩
  · obtain ⟨its, r', pl, hz⟩ := I.list hq
    have hlen := r'.length
    refine call_tuple_list pl.isList (fun h' kp => ?_) (by simp only [List.size_toArray] <;> omega)
    have I1 : Inv X pins σ H { s with heap := h' } := I.kept (t' := s.toks) kp
    have I2 : Inv X pins σ (upd H h'.objs.size (.tup ys)) { s with heap := h'.push { cls := .type "tuple", data := .seq its.toArray } } :=
      I1.laid (t' := s.toks) (fun b o e => Heap.get?_push_of_some _ e) (Nat.le_refl _) (show ObjOk X.prog X.w _ _ _ (.tup ys) from ⟨hz, its, r', IsTup.new _ _⟩)
    exact ⟨.ref h'.objs.size, _, I2, rfl, q _ (I1.hok.fresh (Nat.le_refl _))⟩
  · obtain ⟨its, r', pl, hz⟩ := I.tuple hq
    exact call_tuple_same pl ⟨.ref p, H, I, rfl, q⟩
def tyV (K : PySem.W.Frag) (T : String) (x : V) (H : Hp) : Prop := match x with
  | .str _ => T = "str"
  | .int _ => T = "int"
  | .ref p => (T = "list" ∧ ∃ xs, SqL K H p xs) ∨ (T = "tuple" ∧ ∃ o, K.lookup p = some o ∧ o.cls = .type "tuple" ∧ o.dict = none) ∨
      (T = "dict" ∧ ((∃ kvs, H p = some (.dK kvs)) ∨ ∃ kvs, H p = some (.dT kvs))) ∨ (T = "set" ∧ ∃ S n, H p = some (.set S n))
  | _ => False
theorem tyV_is {pins : List (Addr × Obj)} {σ : St} {H : Hp} {s : Shared} {T : String} {x : V} {v : Value} (I : Inv X pins σ H s) (r : RelV x v) (ty : tyV X.K T x H) :
    s.TypeIs v T ∧ ∀ a, v = .ref a → ∃ ob, s.heap.get? a = some ob ∧ ob.dict = none := by
  cases x with
  | str z =>
    obtain ⟨t, rfl⟩ := r
    cases (show T = "str" from ty)
    exact ⟨typeIs_str s z t, fun _ e => nomatch e⟩
  | int i =>
    obtain ⟨t, rfl⟩ := r
    cases (show T = "int" from ty)
    exact ⟨typeIs_int s i t, fun _ e => nomatch e⟩
  | ref p =>
    cases r
    rcases ty with ⟨rfl, xs, hq⟩ | ⟨rfl, o, hk, hc, hd⟩ | ⟨rfl, hk⟩ | ⟨rfl, S, n, hk⟩
    · obtain ⟨its, _, pl, _⟩ := I.list hq
      refine ⟨pl.isList.typeIs, fun a e => ?_⟩
      cases e
      obtain ⟨o, n, e, c, hd, _⟩ := pl
      exact ⟨o, e, hd⟩
    · refine ⟨⟨o, I.kIn p o hk, hc⟩, fun a e => ?_⟩
      cases e
      exact ⟨o, I.kIn _ o hk, hd⟩
    · have z : ∃ o, s.heap.get? p = some o ∧ o.ExactDict := by
        rcases hk with ⟨kvs, hk⟩ | ⟨kvs, hk⟩
        · obtain ⟨_, _, _, _, o, _, _, e, ex, _⟩ := I.hok p _ hk
          exact ⟨o, e, ex⟩
        · obtain ⟨_, _, _, _, o, _, _, e, ex, _⟩ := I.hok p _ hk
          exact ⟨o, e, ex⟩
      obtain ⟨o, e, ex⟩ := z
      refine ⟨⟨o, e, ex.1⟩, fun a e2 => ?_⟩
      cases e2
      exact ⟨o, e, ex.2.1⟩
    · obtain ⟨o, _, _, _, e, ex, _⟩ := I.hok p _ hk
      refine ⟨⟨o, e, ex.1⟩, fun a e2 => ?_⟩
      cases e2
      exact ⟨o, e, ex.2.1⟩
  | _ => exact False.elim ty
def tBM0 (K : PySem.W.Frag) (T : String) (r : V → List V → Hp → VK → Prop) (to : TE) : TE := fun σ H Q => to σ H fun x H1 => tyV K T x H1 ∧ r x [] H1 Q
def tBM (K : PySem.W.Frag) (T : String) (r : V → List V → Hp → VK → Prop) (to : TE) (t : TA) : TE := fun σ H Q => to σ H fun x H1 => tyV K T x H1 ∧ t σ H1 fun xs H2 => r x xs H2 Q
variable {o e : Expr} {es : List Expr} {to : TE} {t : TA} {name : Str} {apos cpos : Pos} {T id : String} {r : V → List V → Hp → VK → Prop}
theorem pe_bm0 (pa : PlainAttrs T) (slot : Slot T name id) (hty : typeOf (.builtin id) = pure (.type "method_descriptor")) (hm : MtR X id r) (ho : PE X o to)
    (hbase : attributeBase o name X.env (eval o X.env) = eval o X.env := by rfl) (hline : (apos.endLine == cpos.line) = true := by rfl) : PE X (.Call (.Attribute o name apos) [] [] cpos) (tBM0 X.K T r to) := by
  intro pins s σ H Q I h
  refine wpAny_Call_method0_late hbase hline (thn (ho pins s σ H _ I h) fun v s1 ⟨x, H1, I1, r1, ty, q1⟩ => ?_)
  obtain ⟨h1, h2⟩ := tyV_is I1 r1 ty
  exact ⟨T, id, pa, slot, hty, h1, h2, Calls.callWith_builtin rfl (PySem.evalArgs_none (hm pins s1 σ H1 x [] v [] Q I1 r1 .nil q1))⟩
theorem pe_bm (pa : PlainAttrs T) (slot : Slot T name id) (hty : typeOf (.builtin id) = pure (.type "method_descriptor")) (hm : MtR X id r) (ho : PE X o to) (ha : PA X (e :: es) t)
    (hbase : attributeBase o name X.env (eval o X.env) = eval o X.env := by rfl)
    (hfew : ((backTo cpos (starEach (e :: es) X.env)).all (fun x => !x.1) && (backToKw cpos (keywordEach [] X.env)).all (fun x => x.1.isSome)
      && decide ((e :: es).length + ([] : List Keyword).length + (if ([] : List Keyword).isEmpty then 0 else 1) < 30)) = true := by rfl)
    (hline : (apos.endLine == cpos.line) = true := by rfl) (hs : starEach (e :: es) X.env = (false, eval e X.env) :: starEach es X.env := by rfl) (hplain : (backTo cpos (starEach es X.env)).any (·.1) = false := by rfl) :
    PE X (.Call (.Attribute o name apos) (e :: es) [] cpos) (tBM X.K T r to t) := by
  intro pins s σ H Q I h
  refine wpAny_Call_method_late hbase hfew hline rfl (thn (ho pins s σ H _ I h) fun v s1 ⟨x, H1, I1, r1, ty, q1⟩ => ?_)
  obtain ⟨h1, h2⟩ := tyV_is I1 r1 ty
  refine ⟨T, id, pa, slot, hty, h1, h2, ?_⟩
  have hA := ha cpos pins s1 σ H1 _ I1 q1
  rw [hs] at hA ⊢
  refine Calls.callWith_builtin (by show (false || (backTo cpos (starEach es X.env)).any (·.1)) = false; rw [hplain] <;> rfl) (Calls.evalArgs_plain ?_)
  exact thn hA fun us s2 ⟨vs, H2, I2, r2, q2⟩ => hm pins s2 σ H2 x vs v us Q I2 r1 r2 q2
end
end L2
namespace L2
open PySem PySem.Spec PyProof.Rows
def MtM (X : Cx) (id : String) (r : V → List V → Hp → VK → Prop) : Prop :=
  ∀ (pins : List (Addr × Obj)) (s : Shared) (σ : St) (H : Hp) (x : V) (xs : List V) (v : Value) (us : List Value) (Q : VK), Inv X pins σ H s → RelV x v → Vals xs us → r x xs H Q →
    wpAny (model X.prog X.w) X.A (call (.builtin id) (v :: us)) (EP X pins σ Q) X.xe s
theorem Vals.one : ∀ {x : V} {us : List Value}, Vals [x] us → ∃ u, us = [u] ∧ RelV x u
  | _, _, .cons r .nil => ⟨_, rfl, r⟩
theorem Vals.zero : ∀ {us : List Value}, Vals [] us → us = []
  | _, .nil => rfl
section
variable {X : Cx} {pins : List (Addr × Obj)} {σ : St} {H : Hp} {s : Shared} {l b : Addr} {xs ys zs : List V}
theorem Inv.lset {its its' : List Value} {n : Nat} {f : Array Value → Array Value} {t' : Nat} (I : Inv X pins σ H s) (hH : H l = some (.lst xs))
    (e : s.heap.get? l = some { cls := .type "list", data := .seq its.toArray n }) (hf : f its.toArray = its'.toArray) (hv : Vals ys its') (hz : ys.length ≤ sizeLine) :
    Inv X pins σ (upd H l (.lst ys)) { s with heap := s.heap.update l (Obj.mapSeq f), toks := t' } := by
  have q := PySem.IsL.update e f
  rw [hf] at q
  refine I.write (x := l) (e := l) (by rw [hH]; exact trivial) (.inl rfl) (fun b' u hb hu => (Heap.get?_update_other s.heap (Obj.mapSeq f) (Ne.symm hb)).trans hu) ⟨_, q⟩ ?_
  exact ⟨hz, its', _, hv, q⟩
theorem Inv.lnew {its : List Value} {t' : Nat} (I : Inv X pins σ H s) (hv : Vals ys its) (hz : ys.length ≤ sizeLine) :
    Inv X pins σ (upd H s.heap.objs.size (.lst ys)) { s with heap := s.heap.push { cls := .type "list", data := .seq its.toArray }, toks := t' } :=
  I.laid (fun _ _ q => Heap.get?_push_of_some _ q) (Nat.le_refl _) ⟨hz, its, 0, hv, Heap.get?_push_size _ rfl⟩
theorem Inv.fresh (I : Inv X pins σ H s) : H s.heap.objs.size = none := I.hok.fresh (Nat.le_refl _)
theorem Inv.lstM (I : Inv X pins σ H s) (hH : H l = some (.lst xs)) : xs.length ≤ sizeLine ∧ ∃ (its : List Value) (n : Nat), Vals xs its ∧ xs.length = its.length ∧ s.heap.get? l = some { cls := .type "list", data := .seq its.toArray n } := by
  obtain ⟨z, its, n, r, e⟩ := I.hok l _ hH
  exact ⟨z, its, n, r, r.length, e⟩
end
section
variable {X : Cx}
def rAppend : V → List V → Hp → VK → Prop := fun x vs H Q => ∃ l xs y, x = .ref l ∧ vs = [y] ∧ H l = some (.lst xs) ∧ xs.length < sizeLine ∧ Q .non (upd H l (.lst (xs ++ [y])))
theorem mt_append : MtM X "list.append" rAppend := by
  intro pins s σ H x vs v us Q I rx rv h
  obtain ⟨l, xs, y, rfl, rfl, hH, hz, q⟩ := h
  cases rx
  obtain ⟨u, rfl, ru⟩ := rv.one
  obtain ⟨z, its, n, r, hl, e⟩ := I.lstM hH
  refine call_meets F.slot_list_append ⟨_, e, rfl⟩ F.entry_list_append (F.args_list_append_2 _ _) (PySem.list_append l its.toArray n u (by rw [List.size_toArray]; omega)) ⟨e, ?_⟩
  refine ⟨.non, _, I.lset (its' := its ++ [u]) hH e (by simp) (r.append (.cons ru .nil)) ?_, rfl, q⟩
  rw [List.length_append, List.length_singleton]
  omega
end
section
variable {prog : Program} {w : World} {A : Around} {E : Value → Shared → Prop} {s : Shared}
end
section
variable {X : Cx}
end
end L2
namespace L2
open PySem PySem.Spec PyProof.Rows
section
variable {κ : Type} [DecidableEq κ]
def valV (kvs : List (κ × V)) (k : κ) : Option V := (kvs.find? fun kv => decide (kv.1 = k)).map (·.2)
def putK (kvs : List (κ × V)) (k : κ) (v : V) : List (κ × V) :=
  if (kvs.any fun kv => decide (kv.1 = k)) = true then kvs.map (fun kv => if kv.1 = k then (kv.1, v) else kv) else kvs ++ [(k, v)]
def dropK (kvs : List (κ × V)) (k : κ) : List (κ × V) := kvs.filter fun kv => decide (kv.1 ≠ k)
theorem valV_pos {p : κ × V} {r : List (κ × V)} {k : κ} (e : p.1 = k) : valV (p :: r) k = some p.2 := by simp [valV, List.find?_cons, e]
theorem valV_neg {p : κ × V} {r : List (κ × V)} {k : κ} (e : ¬ p.1 = k) : valV (p :: r) k = valV r k := by simp [valV, List.find?_cons, e]
theorem valV_any (k : κ) : ∀ kvs : List (κ × V), (kvs.any fun kv => decide (kv.1 = k)) = (valV kvs k).isSome
  | [] => rfl
  | p :: r => by
    rw [List.any_cons]
    by_cases e : p.1 = k
    · simp only [valV_pos e, decide_eq_true e, Bool.true_or, Option.isSome_some]
    · rw [valV_neg e, decide_eq_false e, Bool.false_or]; exact valV_any k r
theorem RelO.isSome_eq {o : Option V} {u : Option Value} (r : RelO o u) : o.isSome = u.isSome := by
  cases o with
  | none => cases u with
    | none => rfl
    | some _ => exact (show False from r).elim
  | some _ => cases u with
    | none => exact (show False from r).elim
    | some _ => rfl
theorem RelO.getD {o : Option V} {u : Option Value} {d : V} {d' : Value} (r : RelO o u) (rd : RelV d d') : RelV (o.getD d) (u.getD d') := by
  cases o with
  | none => cases u with
    | none => exact rd
    | some _ => exact (show False from r).elim
  | some _ => cases u with
    | none => exact (show False from r).elim
    | some _ => exact r
theorem KV.val {kvs : List (κ × V)} {vs : List (κ × Value)} (r : KV kvs vs) (k : κ) : RelO (valV kvs k) (valueAt vs k) := by
  unfold KV at r
  induction r with
  | nil => exact True.intro
  | @cons p q ps qs h t ih =>
    obtain ⟨h1, h2⟩ := h
    by_cases e : p.1 = k
    · have e' : q.1 = k := h1.symm.trans e
      have b : valueAt (q :: qs) k = some q.2 := by simp [valueAt, List.find?_cons, e']
      rw [valV_pos e, b]; exact h2
    · have e' : ¬ q.1 = k := fun z => e (h1.trans z)
      have b : valueAt (q :: qs) k = valueAt qs k := by simp [valueAt, List.find?_cons, e']
      rw [valV_neg e, b]; exact ih
theorem KV.any {kvs : List (κ × V)} {vs : List (κ × Value)} (r : KV kvs vs) (k : κ) : (kvs.any fun kv => decide (kv.1 = k)) = vs.any fun kv => decide (kv.1 = k) := by
  unfold KV at r
  induction r with
  | nil => rfl
  | cons h t ih => rw [List.any_cons, List.any_cons, ih, h.1]
theorem KV.repl {kvs : List (κ × V)} {vs : List (κ × Value)} (r : KV kvs vs) (k : κ) {y : V} {u : Value} (ry : RelV y u) :
    KV (kvs.map fun kv => if kv.1 = k then (kv.1, y) else kv) (vs.map fun kv => if kv.1 = k then (kv.1, u) else kv) := by
  unfold KV at r ⊢
  induction r with
  | nil => exact .nil
  | @cons p q ps qs h t ih =>
    rw [List.map_cons, List.map_cons]
    refine .cons ?_ ih
    obtain ⟨h1, h2⟩ := h
    by_cases e : p.1 = k
    · rw [if_pos e, if_pos (h1.symm.trans e)]; exact ⟨h1, ry⟩
    · rw [if_neg e, if_neg (fun z => e (h1.trans z))]; exact ⟨h1, h2⟩
theorem KV.put {kvs : List (κ × V)} {vs : List (κ × Value)} (r : KV kvs vs) (k : κ) {y : V} {u : Value} (ry : RelV y u) : KV (putK kvs k y) (stored vs k u) := by
  unfold putK stored
  rw [r.any k]
  by_cases e : (vs.any fun kv => decide (kv.1 = k)) = true
  · rw [if_pos e, if_pos e]; exact r.repl k ry
  · rw [if_neg e, if_neg e]; exact Paired.snoc r ⟨rfl, ry⟩
theorem KV.drop {kvs : List (κ × V)} {vs : List (κ × Value)} (r : KV kvs vs) (k : κ) : KV (dropK kvs k) (without vs k) := by
  unfold KV at r ⊢
  unfold dropK without
  induction r with
  | nil => exact .nil
  | @cons p q ps qs h t ih =>
    obtain ⟨h1, h2⟩ := h
    rw [List.filter_cons, List.filter_cons]
    by_cases e : p.1 = k
    · have a : ¬ decide (p.1 ≠ k) = true := by simp [e]
      have b : ¬ decide (q.1 ≠ k) = true := by simp [h1.symm.trans e]
      rw [if_neg a, if_neg b]; exact ih
    · have e' : ¬ q.1 = k := fun z => e (h1.trans z)
      have a : decide (p.1 ≠ k) = true := by simp [e]
      have b : decide (q.1 ≠ k) = true := by simp [e']
      rw [if_pos a, if_pos b]; exact .cons ⟨h1, h2⟩ ih
theorem KV.length {kvs : List (κ × V)} {vs : List (κ × Value)} (r : KV kvs vs) : kvs.length = vs.length := Paired.length r
end
theorem kV_is {P : Program} {w : World} {k : Key} {u : Value} (r : RelV (kV k) u) : (mixKind P w).is k u = true := by
  cases k with
  | inl i => obtain ⟨t, e⟩ := (show ∃ t, u = Value.int i t from r); subst e; exact mixKind_int P w i t
  | inr x => obtain ⟨t, e⟩ := (show ∃ t, u = Value.str x t from r); subst e; exact mixKind_str P w x t
abbrev KT (H : Hp) : List (List Key × V) → List (List Key × Addr × Value) → Prop := Paired fun p q => p.1 = q.1 ∧ H q.2.1 = some (.tup (p.1.map kV)) ∧ RelV p.2 q.2.2
theorem KT.val {H : Hp} {kvs : List (List Key × V)} {xs : List (List Key × Addr × Value)} (r : KT H kvs xs) (k : List Key) : RelO (valV kvs k) ((atKey xs k).map (·.2)) := by
  induction r with
  | nil => exact True.intro
  | @cons p q ps qs h t ih =>
    obtain ⟨h1, _, h2⟩ := h
    by_cases e : p.1 = k
    · have e' : q.1 = k := h1.symm.trans e
      have b : atKey (q :: qs) k = some q.2 := by simp [atKey, List.find?_cons, e']
      rw [valV_pos e, b]; exact h2
    · have e' : ¬ q.1 = k := fun z => e (h1.trans z)
      have b : atKey (q :: qs) k = atKey qs k := by simp [atKey, List.find?_cons, e']
      rw [valV_neg e, b]; exact ih
theorem KT.repl {H : Hp} {kvs : List (List Key × V)} {xs : List (List Key × Addr × Value)} (r : KT H kvs xs) (k : List Key) {y : V} {u : Value} (ry : RelV y u) :
    KT H (kvs.map fun kv => if kv.1 = k then (kv.1, y) else kv) (xs.map (putAt k u)) := by
  induction r with
  | nil => exact .nil
  | @cons p q ps qs h t ih =>
    rw [List.map_cons, List.map_cons]
    refine .cons ?_ ih
    obtain ⟨h1, h2, h3⟩ := h
    unfold putAt
    by_cases e : p.1 = k
    · rw [if_pos e, if_pos (h1.symm.trans e)]; exact ⟨h1, h2, ry⟩
    · rw [if_neg e, if_neg (fun z => e (h1.trans z))]; exact ⟨h1, h2, h3⟩
theorem KT.put {H : Hp} {kvs : List (List Key × V)} {xs : List (List Key × Addr × Value)} (r : KT H kvs xs) (k : List Key) {b : Addr} {y : V} {u : Value} (hb : H b = some (.tup (k.map kV))) (ry : RelV y u) :
    KT H (putK kvs k y) (storedH xs k b u) := by
  have e : (kvs.any fun kv => decide (kv.1 = k)) = (atKey xs k).isSome := by
    rw [valV_any, (r.val k).isSome_eq, Option.isSome_map]
  unfold putK storedH
  rw [e]
  by_cases q : (atKey xs k).isSome = true
  · rw [if_pos q, if_pos q]; exact r.repl k ry
  · rw [if_neg q, if_neg q]; exact Paired.snoc r ⟨rfl, hb, ry⟩
theorem KT.keeps {H H' : Hp} {kvs : List (List Key × V)} {xs : List (List Key × Addr × Value)} (r : KT H kvs xs) (ht : ∀ b ys, H b = some (.tup ys) → H' b = some (.tup ys)) : KT H' kvs xs :=
  Paired.mapP r fun _ _ z => ⟨z.1, ht _ _ z.2.1, z.2.2⟩
section
variable {P : Program} {w : World} {H : Hp} {h : Heap} {a : Addr}
end
def DGet (H : Hp) (a : Addr) (y : V) (r : Option V) : Prop :=
  (∃ kvs k, Rd H a (.dK kvs) ∧ y = kV k ∧ r = valV kvs k) ∨ ∃ kvs k b, Rd H a (.dT kvs) ∧ y = .ref b ∧ H b = some (.tup (k.map kV)) ∧ r = valV kvs k
def DPut (H : Hp) (a : Addr) (y v : V) (H' : Hp) : Prop :=
  (∃ kvs k, H a = some (.dK kvs) ∧ y = kV k ∧ kvs.length < sizeLine ∧ H' = upd H a (.dK (putK kvs k v))) ∨
  ∃ kvs k b, H a = some (.dT kvs) ∧ y = .ref b ∧ H b = some (.tup (k.map kV)) ∧ kvs.length < sizeLine ∧ H' = upd H a (.dT (putK kvs k v))
theorem DGet.k {H : Hp} {a : Addr} {kvs : List (Key × V)} {k : Key} (e : H a = some (.dK kvs)) : DGet H a (kV k) (valV kvs k) := .inl ⟨kvs, k, .inl e, rfl, rfl⟩
theorem DGet.t {H : Hp} {a b : Addr} {kvs : List (List Key × V)} {k : List Key} (e : H a = some (.dT kvs)) (eb : H b = some (.tup (k.map kV))) : DGet H a (.ref b) (valV kvs k) := .inr ⟨kvs, k, b, .inl e, rfl, eb, rfl⟩
theorem DPut.k {H : Hp} {a : Addr} {kvs : List (Key × V)} {k : Key} {v : V} (e : H a = some (.dK kvs)) (hl : kvs.length < sizeLine) : DPut H a (kV k) v (upd H a (.dK (putK kvs k v))) := .inl ⟨kvs, k, e, rfl, hl, rfl⟩
theorem DPut.t {H : Hp} {a b : Addr} {kvs : List (List Key × V)} {k : List Key} {v : V} (e : H a = some (.dT kvs)) (eb : H b = some (.tup (k.map kV))) (hl : kvs.length < sizeLine) :
    DPut H a (.ref b) v (upd H a (.dT (putK kvs k v))) := .inr ⟨kvs, k, b, e, rfl, eb, hl, rfl⟩
section
variable {X : Cx} {pins : List (Addr × Obj)} {σ : St} {H : Hp} {s : Shared} {a : Addr} {y v : V} {u r : Value} {o : Option V} {A : Around} {E : Value → Shared → Prop}
theorem Inv.big (I : Inv X pins σ H s) : sysModules < s.heap.objs.size := by
  have h : mainGlobals < s.heap.objs.size := (I.mod.glob.keeps I.bk).lt
  exact Nat.lt_trans (by decide) h
end
section
variable {X : Cx} {pins : List (Addr × Obj)} {σ : St} {H : Hp} {s : Shared} {a : Addr} {kvs : List (Key × V)} {k : Key} {u : Value} {A : Around} {E : Value → Shared → Prop}
end
def NoSl (i : Expr) : Prop := ∀ ov iv, subscripted i false ov iv = operate [ov, iv] (getItem ov iv)
theorem subD_of {prog : Program} {w : World} {A : Around} {E : Value → Shared → Prop} {s : Shared} {env : Env} {value slice : Expr} {pos : Pos} {T id : String} {Q : Value → Shared → Prop}
    (hl : typeLookup (.type T) "__getitem__" = pure (some (.builtin id))) (hs : NoSl slice)
    (h : wpAny (model prog w) A (eval value env) (fun o s₁ => wpAny (model prog w) A (eval slice env) (fun i s₂ => s₂.TypeIs o T ∧ wpAny (model prog w) A (getItem o i) Q E s₂) E s₁) E s) :
    wpAny (model prog w) A (eval (.Subscript value slice pos) env) Q E s := by
  refine Subscript_ (wpAny_mono h (fun o s₁ h₁ => wpAny_mono h₁ (fun i s₂ h₂ => ?_) fun _ _ x => x) fun _ _ x => x)
  obtain ⟨hT, h₂⟩ := h₂
  unfold subscriptTail
  refine wpAny_bind ?_
  rw [getitemInPython_of_ne hT.not_modules]
  refine wpAny_bind (wpAny_specialOf hT hl ?_)
  have fin : wpAny (model prog w) A (subscripted slice false o i) (fun r s₃ => wpAny (model prog w) A (letTemporaryGo value o r >>= fun _ => pure r) Q E s₃) E s₂ := by
    rw [hs o i]
    exact wpAny_operating (wpAny_mono h₂ (fun r s₃ h₃ => wpAny_bind (wpAny_letTemporaryGo (wpAny_pure h₃))) fun _ _ x => x)
  first
    | exact wpAny_pure (wpAny_bind fin)
    | exact wpAny_bind (wpAny_pure (wpAny_bind fin))
    | exact wpAny_bind fin
section
variable {X : Cx} {o i e value : Expr} {pos pos' tpos : Pos} {td ty tv : TE}
end
theorem dk_empty {P : Program} {w : World} {H : Hp} (h : Heap) (hb : sysModules < h.objs.size) : ObjOk P w H (h.push { cls := .type "dict", data := .dict #[] }) h.objs.size (.dK []) :=
  ⟨Nat.zero_le _, beq_eq_false_iff_ne.mpr (Ne.symm (Nat.ne_of_lt hb)), [], .nil, Heap.DictOf.new h⟩
section
variable {X : Cx} {pos : Pos}
end
structure M1 (X : Cx) (o : Expr) (m : Str) (apos : Pos) (e : Expr) (cpos : Pos) : Prop where
  base : attributeBase o m X.env (eval o X.env) = eval o X.env
  few : ((backTo cpos (starEach [e] X.env)).all (fun x => !x.1) && (backToKw cpos (keywordEach [] X.env)).all (fun x => x.1.isSome)
    && decide (([e] : List Expr).length + ([] : List Keyword).length + (if ([] : List Keyword).isEmpty then 0 else 1) < 30)) = true
  line : (apos.endLine == cpos.line) = true
  trees : backTo cpos (starEach [e] X.env) = [(false, eval e X.env)]
structure M2 (X : Cx) (o : Expr) (m : Str) (apos : Pos) (e f : Expr) (cpos : Pos) : Prop where
  base : attributeBase o m X.env (eval o X.env) = eval o X.env
  few : ((backTo cpos (starEach [e, f] X.env)).all (fun x => !x.1) && (backToKw cpos (keywordEach [] X.env)).all (fun x => x.1.isSome)
    && decide (([e, f] : List Expr).length + ([] : List Keyword).length + (if ([] : List Keyword).isEmpty then 0 else 1) < 30)) = true
  line : (apos.endLine == cpos.line) = true
  trees : backTo cpos (starEach [e, f] X.env) = [(false, eval e X.env), (false, eval f X.env)]
def IsD (H : Hp) (a : Addr) : Prop := (∃ kvs, Rd H a (.dK kvs)) ∨ ∃ kvs, Rd H a (.dT kvs)
section
variable {X : Cx} {pins : List (Addr × Obj)} {σ : St} {H : Hp} {s : Shared} {a : Addr} {y d : V} {u r : Value} {o : Option V} {A : Around} {E : Value → Shared → Prop}
end
section
variable {X : Cx} {o e f : Expr} {apos cpos : Pos} {td ty tx : TE}
end
section
variable {X : Cx} {pins : List (Addr × Obj)} {σ : St} {H : Hp} {s : Shared} {a : Addr} {kvs : List (Key × V)} {A : Around} {E : Value → Shared → Prop}
end
section
variable {X : Cx} {pins : List (Addr × Obj)} {σ : St} {H : Hp} {s : Shared} {a : Addr} {y : V} {u : Value} {A : Around} {E : Value → Shared → Prop}
end
end L2
namespace Att
open PySem PySem.W PySem.Calls PyProof.Rows
theorem ints_of_wellAll {P : Params} {h : Heap} : ∀ (ns : List Int) (vs : List Value), WellAll P h vs (ns.map WData.int) → IntsAre vs ns := by
  intro ns
  induction ns with
  | nil =>
    intro vs w
    rw [List.map_nil] at w
    cases w
    exact .nil
  | cons n ns ih =>
    intro vs w
    rw [List.map_cons] at w
    cases w with
    | cons a b =>
      cases a
      exact .cons _ _ (ih _ b)
theorem script_of {l : OpenLaw} {n : Nat} (hn : l.most = some n) {P : Params} {h : Heap} {args : List WData} {vals : List Value}
    (hpre : l.row.toRowW.claim.pre args = true) (hwl : WellAll P h vals args) :
    ∃ a vs ns, vals = [Value.ref a] ∧ args = [WData.list (ns.map WData.int)] ∧ h.get? a = some { cls := .type "list", data := .seq vs.toArray } ∧ IntsAre vs ns ∧ ns.length ≤ n := by
  have hsh : WShape.hasAll [] args [.list .int] = true := (pre_splitW hpre).1
  have hc : l.pre.holds [] { args := args } = true := (pre_splitW hpre).2
  obtain ⟨d, r, rfl, h1, h2⟩ := hasAllW_cons hsh
  obtain rfl := hasAllW_nil h2
  obtain ⟨xs, rfl, h3⟩ := hasW_list h1
  obtain ⟨ns, rfl⟩ := items_int h3
  have hlen : ns.length ≤ n := by
    unfold OpenLaw.pre at hc
    have h4 : (WTm.not (.lt (.lit (.int (n : Int))) (.len (.arg 0)))).holds [] { args := [.list (ns.map .int)] } = true := by
      have h4 := (holds_andW hc).1
      rw [hn] at h4
      exact h4
    have h5 := condW_of h4 (w_not (w_lt w_lit (w_len_list (w_arg rfl))))
    rw [List.length_map] at h5
    refine Nat.le_of_not_lt fun q => ?_
    have q' : (n : Int) < ((ns.length : Nat) : Int) := by omega
    first
      | (rw [decide_eq_true q'] at h5; exact absurd h5 (by decide))
      | (simp at h5; omega)
  cases hwl with
  | cons w1 w2 =>
    cases w2
    cases w1 with
    | list ho hall => exact ⟨_, _, ns, rfl, rfl, ho, ints_of_wellAll ns _ hall, hlen⟩
theorem post_true (l : OpenLaw) (args : List WData) : l.row.toRowW.claim.post args (.bool true) args = true :=
  postW_of (r := l.row.toRowW) (X := (true == true))
    (show WShape.has [] (.bool true) .bool = true by first | rfl | decide | simp [WShape.has, WShape.arms, WShape.armsAll])
    (show (WTm.eq .res (.lit (.bool true))).value [] { args := args, res := some (.bool true), after := args } = some (.bool (true == true)) from w_eq_bool (w_res rfl) w_lit) rfl
theorem attach_call {l : OpenLaw} {n : Nat} {q : Program} {loose : List Str} {XP : (Str → Option Value) → Heap → Prop} {YP : World → Heap → Prop} {d : DefRec}
    (hn : l.most = some n) (hdf : d.params.defaults = [])
    (call : ∀ (w : World) (s₀ s₁ : Shared) (mg mb : Str → Option Value) (fa : Addr) (o : Obj) (pm cd doc : Value) (a : Addr) (vs : List Value) (ns : List Int),
      Ground q loose [] XP w s₀ mg mb s₁.heap → YP w s₁.heap →
      s₁.heap.get? fa = some o → o.data = .func (docDef d.name d.params d.body d.scope pm cd doc) → s₁.heap.CodeRec cd d.name → mg d.name = some (.ref fa) →
      s₁.heap.get? a = some { cls := .type "list", data := .seq vs.toArray } → IntsAre vs ns → ns.length ≤ n → s₁.gens = #[] →
      codeAny (model l.prog w) callerA (.call (.ref fa) ⟨[.ref a], []⟩) (fun r s' => r = .ok (.ret (.bool true)) ∧ OldK s₁.heap s'.heap ∧ s'.os = s₁.os ∧ AllBare s'.gens) s₁) :
    WalkO q loose XP YP l.row.toRowW d [] (fun f vs => PySem.call f vs) := by
  intro w s₀ s₁ mg mb G Y fa o pm cd doc dV kV ho hd hcd hD hmg hg args vals as hpre hlay hrd hwl hlo
  obtain rfl : dV = .none := Dflts.none hD hdf
  obtain rfl : kV = .none := Dflts.noKw hD
  obtain ⟨a, vs, ns, rfl, rfl, hobj, hints, hlen⟩ := script_of hn hpre hwl
  refine enter_call (codeAny_mono (call w s₀ s₁ mg mb fa o pm cd doc a vs ns G Y ho (fd_plain hd) hcd hmg hobj hints hlen hg) fun r s' hq => ?_)
  obtain ⟨rfl, h2, h3, h4⟩ := hq
  exact ⟨.inl ⟨.bool true, .bool true, [], rfl, fun _ => rfl, .bool true, post_true l _, fun _ => ⟨List.Pairwise.nil, fun _ hm => (nomatch hm)⟩⟩, h2, h3, h4⟩
section
variable {prog : Program} {w : World} {A : Around} {E : Value → Shared → Prop} {s : Shared} {K : Frag}
end
end Att
namespace L2
open PySem PySem.Spec PyProof.Rows
theorem vals_ints : ∀ {vs : List Value} {ns : List Int}, IntsAre vs ns → Vals (ns.map V.int) vs
  | _, _, .nil => .nil
  | _, _, .cons n t h => .cons ⟨t, rfl⟩ (vals_ints h)
def Only (H : Hp) : Prop := ∀ b, H b = none ∨ ∃ o xs, H b = some (.frz o (.lst xs))
theorem law_call {P : Program} {w : World} {K : PySem.W.Frag} {mg mb : Str → Option Value} {CX : CXT} {k : Nat} {fa a : Addr} {fd : FuncData} {x : Str} {sp : Sp} {s₁ : Shared} {vs : List Value} {ns : List Int}
    (KX : K.In s₁.heap) (hns : s₁.heap.Ns mainGlobals mg) (hb : s₁.heap.Ns builtinsNs mb) (hbb : ∀ x : Str, x ≠ "__name__" → mb x = bootBuiltins x) (hlim : s₁.heap.NoLimit) (hg : s₁.gens = #[])
    (ha : s₁.heap.get? a = some { cls := .type "list", data := .seq vs.toArray }) (hi : IntsAre vs ns) (hl : ns.length ≤ sizeLine) (hr : Room k callerA)
    (F : ∀ base : Heap, K.In base → base.Ns mainGlobals mg → FnOk P w K mg base CX k fa fd [x] sp) (hbind : ∀ (s : Shared) (u : Value), BindsTo s fd ⟨[u], []⟩ [(x, u)])
    (hsp : ∀ H : Hp, Only H → SqL K H a (ns.map V.int) → sp [.ref a] H (fun v _ => v = .bl true) fun _ _ _ => False)
    (hCX : ∀ H e s', CX [] H s₁ (fun _ _ _ => False) e s' → False) :
    codeAny (model P w) callerA (.call (.ref fa) ⟨[.ref a], []⟩) (fun r s' => r = .ok (.ret (.bool true)) ∧ OldK s₁.heap s'.heap ∧ s'.os = s₁.os ∧ AllBare s'.gens) s₁ := by
  have rv := vals_ints hi
  have lenV := hi.length
  have core : ∀ H : Hp, Only H → SqL K H a (ns.map V.int) → HOk P w H s₁.heap → (∀ b, H b ≠ none → b = a) → (H a ≠ none → K.lookup a = none) →
      codeAny (model P w) callerA (.call (.ref fa) ⟨[.ref a], []⟩) (fun r s' => r = .ok (.ret (.bool true)) ∧ OldK s₁.heap s'.heap ∧ s'.os = s₁.os ∧ AllBare s'.gens) s₁ := by
    intro H hO hS hok hA hK
    have base_of : ∀ {b : Addr} {o : Obj}, s₁.heap.get? b = some o → H b = none → (hidT s₁.heap H).get? b = some o := fun e n => hidT_get e n
    have noA : ∀ {b : Addr} {o : Obj} {es : Array DictEntry} {ep : Nat}, s₁.heap.get? b = some o → o.data = .dict es ep → H b = none := fun {b o es ep} e d => by
      cases q : H b with
      | none => rfl
      | some u =>
        have e' : b = a := hA b (by rw [q]; simp)
        subst e'
        rw [ha] at e; cases e
        have d' : Data.seq vs.toArray _ = Data.dict es ep := d
        cases d'
    have nsK : ∀ {b : Addr} {m : Str → Option Value}, s₁.heap.Ns b m → (hidT s₁.heap H).Ns b m := fun {b m} ⟨o, es, ep, e, d, r⟩ => ⟨o, es, ep, base_of e (noA e d), d, r⟩
    have hKb : K.In (hidT s₁.heap H) := fun b o e => base_of (KX b o e) (by
      cases q : H b with
      | none => rfl
      | some u =>
        have e' : b = a := hA b (by rw [q]; simp)
        subst e'
        rw [hK (by rw [q]; simp)] at e; cases e)
    have hM : Mod K mg (hidT s₁.heap H) := ⟨hKb, nsK hns, ⟨mb, nsK hb, hbb⟩, let ⟨mc, h1, h2⟩ := hlim; ⟨mc, nsK h1, h2⟩⟩
    have e0 : Env0 P w K mg (hidT s₁.heap H) callerA [] s₁ H := ⟨rfl, hM, fun b o e => of_hidT e, Nat.le_of_eq (hidT_size _ _), trivial, fun b hb => absurd (show b ∈ ([] : List Addr) from hb) (by simp), hok, .of_eq hg⟩
    refine codeAny_mono ((F _ hKb (nsK hns)).run callerA [] s₁ H ⟨[.ref a], []⟩ [.ref a] [.ref a] _ _ hr e0 (hbind s₁ (.ref a)) (.cons rfl .nil) (hsp H hO hS)) fun r s' h => ?_
    cases r with
    | error e => exact (hCX H e s' h).elim
    | ok fl =>
      cases fl with
      | next => exact False.elim h
      | brk => exact False.elim h
      | cont => exact False.elim h
      | ret u =>
        obtain ⟨v, H', os, bare, un, hok', r', q⟩ := h
        have q' : v = .bl true := q
        subst q'
        obtain rfl : u = Value.bool true := r'
        refine ⟨rfl, OldK.of_keep fun b o e => ?_, os, bare⟩
        cases q : H b with
        | none => exact un.keep b o e q (by intro z; exact absurd (show b ∈ ([] : List Addr) from z) (by simp)) (by simp)
        | some u =>
          rcases hO b with z | ⟨ob, xs, z⟩
          · rw [q] at z; cases z
          · have z2 := un.frzs b ob _ z
            obtain ⟨e1, _⟩ := hok b _ z
            obtain ⟨e2, _⟩ := hok' b _ z2
            rw [e] at e1; cases e1
            exact e2
  cases hk : K.lookup a with
  | some o =>
    have e := KX a o hk
    rw [ha] at e
    cases e
    refine core (fun _ => none) (fun _ => .inl rfl) (.inr ⟨_, vs.toArray, _, hk, rfl, rfl, rfl, by rw [List.size_toArray, lenV]; exact hl, by simpa using rv⟩) (fun b u z => by have z' : (none : Option HO) = some u := z; cases z') (fun b z => absurd rfl z) fun z => absurd rfl z
  | none =>
    refine core (fun b => if b = a then some (.frz { cls := .type "list", data := .seq vs.toArray } (.lst (ns.map V.int))) else none) (fun b => ?_) (.inl (.inr ⟨{ cls := .type "list", data := .seq vs.toArray }, if_pos rfl⟩)) (fun b u z => ?_) (fun b z => ?_) fun _ => hk
    · by_cases hb : b = a
      · exact .inr ⟨_, _, if_pos hb⟩
      · exact .inl (if_neg hb)
    · by_cases hb : b = a
      · have z' := (if_pos hb).symm.trans z
        cases z'
        subst hb
        exact ⟨ha, by rw [List.length_map]; exact hl, vs, _, rv, ha⟩
      · have z' := (if_neg hb).symm.trans z
        cases z'
    · by_cases hb : b = a
      · exact hb
      · exact absurd (if_neg hb) z
end L2
namespace L2
open PySem PySem.Spec PyProof.Rows
theorem walk_of {l : PySem.W.OpenLaw} {n k : Nat} {q : Program} {loose : List Str} {XP : (Str → Option Value) → Heap → Prop} {YP : World → Heap → Prop} {d : DefRec} {K : Params → PySem.W.Frag} {CX : World → CXT} {sp : World → Sp} {x : Str}
    (hn : l.most = some n) (hn2 : n ≤ sizeLine) (hdf : d.params.defaults = []) (hr : Room k callerA)
    (hY : ∀ (w : World) (h : Heap), YP w h → (K w.params).In h)
    (F : ∀ (w : World) (mg : Str → Option Value) (fa : Addr) (h : Heap), (K w.params).In h → h.Ns mainGlobals mg → mg d.name = some (.ref fa) →
      ∃ fd : FuncData, (∀ (s : Shared) (u : Value), BindsTo s fd ⟨[u], []⟩ [(x, u)]) ∧
        ∀ base : Heap, (K w.params).In base → base.Ns mainGlobals mg → FnOk l.prog w (K w.params) mg base (CX w) k fa fd [x] (sp w))
    (hsp : ∀ (w : World) (H : Hp) (a : Addr) (ns : List Int), ns.length ≤ n → Only H → SqL (K w.params) H a (ns.map V.int) → sp w [.ref a] H (fun v _ => v = .bl true) fun _ _ _ => False)
    (hCX : ∀ (w : World) (H : Hp) (s : Shared) (e : Value) (s' : Shared), CX w [] H s (fun _ _ _ => False) e s' → False) :
    PySem.W.WalkO q loose XP YP l.row.toRowW d [] (fun f vs => PySem.call f vs) := by
  refine Att.attach_call hn hdf fun w s₀ s₁ mg mb fa o pm cd doc a vs ns G Y ho hd hcd hmg hobj hints hlen hg => ?_
  have KX := hY w _ Y
  obtain ⟨fd, hb, hF⟩ := F w mg fa _ KX G.T.g hmg
  exact law_call KX G.T.g G.T.b G.T.builtins G.T.nolimit hg hobj hints (Nat.le_trans hlen hn2) hr hF hb (fun H hO hS => hsp w H a ns hlen hO hS) fun H e s' => hCX w H s₁ e s'
end L2
namespace L2
open PySem PySem.Spec PyProof.Rows
def inClass (s : Stmt) (j : Nat) : Stmt := match s with
  | .ClassDef _ _ _ body _ _ _ _ _ _ _ => body.getD j (.Pass ⟨0, 0, 0, 0⟩)
  | _ => .Pass ⟨0, 0, 0, 0⟩
def defArgs (s : Stmt) : Arguments := match s with
  | .FunctionDef _ a _ _ _ _ _ _ _ _ => a
  | _ => { posonlyargs := [], args := [], vararg := none, kwonlyargs := [], kw_defaults := [], kwarg := none, defaults := [] }
def defBody (s : Stmt) : List Stmt := match s with
  | .FunctionDef _ _ b _ _ _ _ _ _ _ => b
  | _ => []
def defScope (s : Stmt) : Scope := match s with
  | .FunctionDef _ _ _ _ _ _ sc _ _ _ => sc
  | _ => { kind := .function, names := [], isGenerator := false, isCoroutine := false }
abbrev CX0 : CXT := fun _ _ _ _ _ _ => False
abbrev E0 : XK := fun _ _ _ => False
theorem pass0 {X : Cx} : Passes CX0 X E0 := fun _ _ _ _ _ _ _ h => h.elim
structure Fun (K : PySem.W.Frag) (x qual : Str) (st : Stmt) (f : Addr) (fd : FuncData) : Prop where
  ex : ∃ (oc : Value) (od : Option Addr) (kV doc pm : Value) (an : Option Addr) (cdv ct : Value) (osl : Array (Option Value)),
    fd = PySem.W.fnOf x qual (defArgs st) (defBody st) (defScope st) .none kV doc pm an cdv ct ∧ K.lookup f = some ⟨oc, od, .func fd, osl⟩ ∧ PySem.W.codeIn K cdv qual = true
  kp : PySem.W.keepIn K (.ref f) = true
section
variable {P : Program} {w : World} {K : PySem.W.Frag} {mg : Str → Option Value} {base : Heap}
theorem Fun.ok {x qual : Str} {st : Stmt} {f : Addr} {fd : FuncData} {N ps : List Str} {k : Nat} {sp : Sp} (F : Fun K x qual st f fd) (S : FnScope N ps (defScope st)) (len : ∀ vs H Q E, sp vs H Q E → vs.length = ps.length)
    (hbody : ∀ (cdv : Value) (A : Around) (outer : List Env) (s : Shared) (H : Hp) (vs : List V) (Q : VK) (E : XK), Room k (A.deeper (envOfC qual (defScope st) s.heap.objs.size f cdv)) → sp vs H Q E →
      ∃ t, PSs (cxOf CX0 P w K mg base N qual (defScope st) f cdv A outer s H E).nox (defBody st) t ∧ t { nx := fun _ H' => Q .non H', rt := Q } (start N vs) H) : FnOk P w K mg base CX0 (k + 1) f fd ps sp := by
  obtain ⟨oc, od, kV, doc, pm, an, cdv, ct, osl, rfl, lk, hcd⟩ := F.ex
  refine fn_of lk hcd S len fun A outer s H vs Q E hr hsp => ?_
  obtain ⟨t, h, q⟩ := hbody cdv A outer s H vs Q E hr hsp
  exact ⟨t, h.nox, q⟩
theorem Fun.binds {x qual : Str} {st : Stmt} {f : Addr} {fd : FuncData} {ps : List Str} (F : Fun K x qual st f fd)
    (h : ∀ (kV doc pm : Value) (an : Option Addr) (cdv ct : Value) (us : List Value), us.length = ps.length → bindArgs (PySem.W.fnOf x qual (defArgs st) (defBody st) (defScope st) .none kV doc pm an cdv ct) ⟨us, []⟩ = pure (ps.zip us)) : Binds K fd ps [] := by
  obtain ⟨oc, od, kV, doc, pm, an, cdv, ct, osl, rfl, lk, hcd⟩ := F.ex
  exact .all (h kV doc pm an cdv ct)
theorem fun_mk {x qual : Str} {st : Stmt} {f : Addr} {oc : Value} {od an : Option Addr} {osl : Array (Option Value)} {kV doc pm cdv ct : Value} (l : K.lookup f = some ⟨oc, od, .func (PySem.W.fnOf x qual (defArgs st) (defBody st) (defScope st) .none kV doc pm an cdv ct), osl⟩)
    (c : PySem.W.codeIn K cdv qual = true) (k : PySem.W.keepIn K (.ref f) = true) : Fun K x qual st f (PySem.W.fnOf x qual (defArgs st) (defBody st) (defScope st) .none kV doc pm an cdv ct) := ⟨⟨oc, od, kV, doc, pm, an, cdv, ct, osl, rfl, l, c⟩, k⟩
end
section
variable {X : Cx}
theorem pv (i : Nat) {x : Str} {pos : Pos} (hN : X.N[i]? = some x := by rfl) (hv : Vis X.env.scope x := by first | exact Or.inl rfl | exact Or.inr (Or.inl rfl) | exact Or.inr (Or.inr rfl)) (hd : (x == ("__debug__" : Str)) = false := by decide)
    (hcd : (x == ("__classdict__" : Str)) = false := by decide) : PE X (.Name x pos) (tVar i) := pe_var hN hv hd hcd
end
theorem iteT {A B : Prop} (h : A) : if true = true then A else B := by
  rw [if_pos rfl]
  exact h
theorem ite2 {c A B : Prop} [Decidable c] (h1 : c → A) (h2 : ¬ c → B) : if c then A else B := by
  by_cases h : c
  · rw [if_pos h]
    exact h1 h
  · rw [if_neg h]
    exact h2 h
def Same (H H' : Hp) : Prop := ∀ b o, H b = some o → H' b = some o
theorem Same.refl (H : Hp) : Same H H := fun _ _ h => h
theorem Same.trans {H H1 H2 : Hp} (a : Same H H1) (b : Same H1 H2) : Same H H2 := fun c o h => b c o (a c o h)
theorem Same.free {H H' : Hp} (e : Same H H') {l : Addr} (h : H' l = Option.none) : H l = Option.none := by
  cases q : H l with
  | none => rfl
  | some o =>
    rw [e l o q] at h
    cases h
theorem Same.seq {K : PySem.W.Frag} {H H' : Hp} {a : Addr} {xs : List V} (e : Same H H') (h : SqL K H a xs) : SqL K H' a xs := by
  rcases h with (h | ⟨o, h⟩) | h
  · exact .inl (.inl (e _ _ h))
  · exact .inl (.inr ⟨o, e _ _ h⟩)
  · exact .inr h
section
variable {X : Cx}
end
section
variable {κ : Type} [DecidableEq κ]
end
end L2
set_option Elab.async false
set_option linter.all false
set_option maxRecDepth 100000
namespace L2
open PySem PySem.Spec PyProof.Rows
section
variable {X : Cx}
def CDv (_ j : Int) : Prop := 0 < j ∧ j < 10 ^ 100
theorem op_fdivP : OpR X (binaryOp .FloorDiv) (rI CDv fun i j => .int (i / j)) := opI fun i j _ _ _ _ _ hc q => by
  have h0 : 0 < j := hc.1
  have h1 : j < 10 ^ 100 := hc.2
  refine floordiv_int (by omega) ?_ (.inl (PyProof.noPylong_of_log2 ?_))
  · rw [Int.fdiv_eq_ediv_of_nonneg _ (by omega)]
    exact q
  · have h2 : j.natAbs < 10 ^ 100 := by omega
    have h3 : (10 : Nat) ^ 100 ≤ 2 ^ 9000 := by decide +kernel
    exact (Nat.log2_lt (by omega)).mpr (Nat.lt_of_lt_of_le h2 h3)
end
structure Callee (P : Program) (w : World) (K : PySem.W.Frag) (mg : Str → Option Value) (base : Heap) (x : Str) (k : Nat) (ps : List Str) (sp : Sp) : Prop where
  ex : ∃ (f : Addr) (fd : FuncData), FnOk P w K mg base CX0 k f fd ps sp ∧ Binds K fd ps [] ∧ PySem.W.keepIn K (.ref f) = true ∧ mg x = some (.ref f)
section
variable {X : Cx} {x : Str} {k : Nat} {ps : List Str} {sp : Sp} {e : Expr} {es : List Expr} {t : TA} {p pos : Pos}
theorem pe_callF (C : Callee X.prog X.w X.K X.mg X.base x k ps sp) (hr : Room k X.A) (hg : Gl X x) (ha : PA X (e :: es) t)
    (hdb : (x == ("__debug__" : Str)) = false := by decide) (he : starEach (e :: es) X.env = (false, eval e X.env) :: starEach es X.env := by rfl) (hpl : (backTo pos (starEach es X.env)).any (·.1) = false := by rfl) :
    PE X (.Call (.Name x p) (e :: es) [] pos) (tCall sp [] E0 t) := by
  intro pins s σ H Q I h
  obtain ⟨f, fd, F, b, kp, m⟩ := C.ex
  have G : FnOk X.prog X.w X.K X.mg X.base (fun _ _ _ _ _ _ => False) k f fd ps sp := F
  exact pe_call F hr hg m kp b .nil pass0 ha hdb he hpl pins s σ H Q I h
end
end L2
namespace L2
open PySem PySem.Spec PyProof.Rows
def tCut (t u : TS) : TS := fun D σ H => ∃ J : St → Hp → Prop, t { D with nx := J } σ H ∧ ∀ σ1 H1, J σ1 H1 → u D σ1 H1
section
variable {X : Cx} {st : Stmt} {rest : List Stmt} {t u : TS}
theorem pss_cut (h1 : PS X st t) (h2 : PSs X rest u) : PSs X (st :: rest) (tCut t u) := by
  intro pins s σ H D I h
  obtain ⟨J, h, hJ⟩ := h
  refine wpAny_execs_cons (thn (h1 pins s σ H { D with nx := J } I h) fun f s1 q => ?_)
  cases f with
  | next =>
    obtain ⟨σ', H', I', q⟩ := q
    exact h2 pins s1 σ' H' D I' (hJ _ _ q)
  | ret v => exact q
  | brk => exact q
  | cont => exact q
end
section
variable {α : Type} {a b c d : α} {r : List α}
theorem atI_0 : atI (a :: r) 0 = some a := atI_nat (j := 0) rfl
theorem atI_1 : atI (a :: b :: r) 1 = some b := atI_nat (j := 1) rfl
theorem atI_2 : atI (a :: b :: c :: r) 2 = some c := atI_nat (j := 2) rfl
theorem atI_3 : atI (a :: b :: c :: d :: r) 3 = some d := atI_nat (j := 3) rfl
end
def seqAt (H : Hp) (p : Addr) : Option (List V) := match H p with
  | some (.lst xs) => some xs
  | some (.tup xs) => some xs
  | some (.frz _ (.lst xs)) => some xs
  | _ => none
theorem seqAt_lst {H : Hp} {p : Addr} {xs : List V} (h : H p = some (.lst xs)) : seqAt H p = some xs := by unfold seqAt; rw [h]
theorem seqAt_tup {H : Hp} {p : Addr} {xs : List V} (h : H p = some (.tup xs)) : seqAt H p = some xs := by unfold seqAt; rw [h]
section
variable {X : Cx}
def rIxF : R2 := fun x y H Q => ∃ p i xs v, x = .ref p ∧ y = .int i ∧ seqAt H p = some xs ∧ atI xs i = some v ∧ Q v H
theorem call_intB : CallR X (.type "int") (fun xs H Q => ∃ k, xs = [.bl k] ∧ Q (.int (if k = true then 1 else 0)) H) := by
  intro pins s σ H xs us Q I r h
  obtain ⟨k, rfl, q⟩ := h
  exact call_int1 pins s σ H _ us Q I r (.inr ⟨k, rfl, q⟩)
end
end L2
namespace L2
open PySem PySem.Spec PyProof.Rows
theorem bt_len : bootBuiltins "len" = some (.builtin "len") := by decide +kernel
theorem bt_isinstance : bootBuiltins "isinstance" = some (.builtin "isinstance") := by decide +kernel
theorem bt_min : bootBuiltins "min" = some (.builtin "min") := by decide +kernel
theorem bt_int : bootBuiltins "int" = some (.type "int") := by decide +kernel
theorem bt_bool : bootBuiltins "bool" = some (.type "bool") := by decide +kernel
theorem bt_str : bootBuiltins "str" = some (.type "str") := by decide +kernel
theorem bt_tuple : bootBuiltins "tuple" = some (.type "tuple") := by decide +kernel
end L2
namespace L2
open PySem PySem.Spec PyProof.Rows
theorem cxK {CX : CXT} {P : Program} {w : World} {K : PySem.W.Frag} {mg : Str → Option Value} {base : Heap} {N : List Str} {qual : Str} {scope : Scope} {f : Addr} {cd : Value} {A : Around} {outer : List Env} {s : Shared} {H : Hp} {E : XK} :
    (cxOf CX P w K mg base N qual scope f cd A outer s H E).K = K := rfl
end L2
namespace L2
open PySem PySem.Spec PyProof.Rows
theorem ixN_10 : ixN 1 0 = some 0 := rfl
theorem ixN_20 : ixN 2 0 = some 0 := rfl
theorem ixN_21 : ixN 2 1 = some 1 := rfl
theorem ixN_30 : ixN 3 0 = some 0 := rfl
theorem ixN_31 : ixN 3 1 = some 1 := rfl
theorem ixN_32 : ixN 3 2 = some 2 := rfl
theorem seqAt_updL {H : Hp} {p : Addr} {xs : List V} : seqAt (upd H p (.lst xs)) p = some xs := seqAt_lst upd_same
theorem seqAt_updT {H : Hp} {p : Addr} {xs : List V} : seqAt (upd H p (.tup xs)) p = some xs := seqAt_tup upd_same
theorem atI_in {α : Type} {xs : List α} {k : Int} (h0 : 0 ≤ k) (h1 : k < (xs.length : Int)) : ∃ v, atI xs k = some v ∧ v ∈ xs := by
  have hk : k.toNat < xs.length := by omega
  have e : k = ((k.toNat : Nat) : Int) := by omega
  have q : atI xs ((k.toNat : Nat) : Int) = some xs[k.toNat] := atI_nat (List.getElem?_eq_getElem hk)
  rw [← e] at q
  exact ⟨_, q, List.getElem_mem hk⟩
end L2
namespace L2
open PySem PySem.Spec PyProof.Rows
structure Shut (Q : VK) : Type where
  n : Nat
def Cal (sp : Sp) (vs : List V) (H : Hp) (Q : VK) (_ : Shut Q) (E : XK) : Prop := sp vs H Q E
theorem tCallC {sp : Sp} {dvs : List V} {E : XK} {t : TA} {σ : St} {H : Hp} {Q : VK} : tCall sp dvs E t σ H Q = t σ H (fun vs H1 => Cal sp (vs ++ dvs) H1 Q ⟨0⟩ E) := rfl
section
variable {X : Cx} {pos p1 p2 : Pos} {j1 j2 : Nat}
theorem pe_powc {a b : Int} (v : Int) (h : decide (0 ≤ b ∧ b ≤ 1000000 ∧ a.natAbs < 2 ^ 64 ∧ a ^ b.toNat = v) = true := by decide +kernel) : PE X (.BinOp (.Constant (.int a) j1 p1) .Pow (.Constant (.int b) j2 p2) pos) (tC (.int v)) := by
  intro pins s σ H Q I q
  obtain ⟨h1, h2, h3, h4⟩ := of_decide_eq_true h
  refine pe_op op_pow pe_int pe_int pins s σ H Q I ⟨a, b, rfl, rfl, ⟨h1, h2, h3⟩, ?_⟩
  show Q (V.int (a ^ b.toNat)) H
  rw [h4]
  exact q
end
end L2
namespace L2
open PySem PySem.Spec PyProof.Rows
theorem upd_none {H : Hp} {a b : Addr} {o : HO} : upd H a o b = none ↔ b ≠ a ∧ H b = none := by
  unfold upd
  by_cases h : b = a
  · simp [h]
  · simp [h]
end L2
namespace L2
open PySem PySem.Spec PyProof.Rows
def Loop (J : It) (g : TG) (tb : TS) (D : Ends) (σ : St) (H : Hp) : Prop := ∃ W : Nat → Nat → St → Hp → Prop, (∃ m, W 0 m σ H) ∧ ∀ i m σ H, W i m σ H →
  (J.stop i H ∧ D.nx σ H) ∨ (J.go i H ∧ ∃ N : St → Hp → Prop, (∀ σ' H', N σ' H' → ∃ m', m' < m ∧ W (i + 1) m' σ' H') ∧ ∀ x H', J.yld i H x H' → g x σ H' fun σ2 H2 => tb { D with nx := N, ct := N, bk := D.nx } σ2 H2)
section
variable {K : PySem.W.Frag} {ta : TA} {tl : TE} {g : TG} {tb : TS} {D : Ends} {σ : St} {H : Hp} {a : Addr} {xs : List V} {lo : Int} {n : Nat}
theorem tFor_rng1 : tFor (iRng1 ta) g tb D σ H = ta σ H (fun vs H1 => ∃ j : Int, vs = [.int j] ∧ -(2 ^ 62) ≤ j ∧ j < 2 ^ 62 ∧ Loop (Itr 0 j.toNat) g tb D σ H1) := rfl
theorem tFor_rng2 : tFor (iRng2 ta) g tb D σ H = ta σ H (fun vs H1 => ∃ i j : Int, vs = [.int i, .int j] ∧ (-(2 ^ 62) ≤ i ∧ i < 2 ^ 62 ∧ -(2 ^ 62) ≤ j ∧ j < 2 ^ 62) ∧ Loop (Itr i (j - i).toNat) g tb D σ H1) := rfl
theorem tFor_list : tFor (iList K tl) g tb D σ H = tl σ H (fun x H1 => ∃ a, x = .ref a ∧ (∃ xs, SqL K H1 a xs) ∧ Loop (Itl K a) g tb D σ H1) := rfl
theorem tFor_tup : tFor (iTup K tl) g tb D σ H = tl σ H (fun x H1 => ∃ a, x = .ref a ∧ (∃ xs, SqT K H1 a xs) ∧ Loop (Itt K a) g tb D σ H1) := rfl
theorem loop_list (Pv : Nat → St → Hp → Prop) (h0 : Pv 0 σ H) (hl : ∀ i σ H, i ≤ xs.length → Pv i σ H → SqL K H a xs)
    (hs : ∀ i x σ H, xs[i]? = some x → Pv i σ H → g x σ H fun σ2 H2 => tb { D with nx := Pv (i + 1), ct := Pv (i + 1), bk := D.nx } σ2 H2) (hd : ∀ σ H, Pv xs.length σ H → D.nx σ H) : Loop (Itl K a) g tb D σ H := for_list Pv h0 hl hs hd
end
end L2
set_option Elab.async false
set_option linter.all false
set_option maxRecDepth 100000
namespace L2
open PySem PySem.Spec PyProof.Rows
structure JE (X : Cx) (e : Expr) (t : TE) : Prop where h : PE X e t
structure JT (X : Cx) (e : Expr) (t : TT) : Prop where h : PT X e t
structure JW (X : Cx) (e : Expr) (t : TT) : Prop where h : PW X e t
structure JA (X : Cx) (es : List Expr) (t : TA) : Prop where h : PA X es t
structure JS (X : Cx) (st : Stmt) (t : TS) : Prop where h : PS X st t
structure JB (X : Cx) (st : List Stmt) (t : TS) : Prop where h : PSs X st t
structure JG (X : Cx) (e : Expr) (t : TG) : Prop where h : PG X e t
structure JGs (X : Cx) (es : List Expr) (t : TGs) : Prop where h : PGs X es t
structure JI (X : Cx) (tg e : Expr) (t : TI) : Prop where h : PI X tg e t
structure JO (X : Cx) (e : Option Expr) (t : TO) : Prop where h : PO X e t
section
variable {X : Cx} {a b c e o : Expr} {es rest : List Expr} {ta tb tc te to : TE} {t tl : TA} {tA tB' : TT} {pos p p' : Pos} {st : Stmt} {sts sts' : List Stmt} {u v : TS}
theorem ev (i : Nat) {x : Str} (hN : X.N[i]? = some x := by rfl) (hv : Vis X.env.scope x := by first | exact Or.inl rfl | exact Or.inr (Or.inl rfl) | exact Or.inr (Or.inr rfl)) (hd : (x == ("__debug__" : Str)) = false := by decide)
    (hcd : (x == ("__classdict__" : Str)) = false := by decide) : JE X (.Name x pos) (tVar i) := ⟨pe_var hN hv hd hcd⟩
theorem ei {i j} : JE X (.Constant (.int i) j pos) (tC (.int i)) := ⟨pe_int⟩
theorem ebl {b j} : JE X (.Constant (.bool b) j pos) (tC (.bl b)) := ⟨pe_bl⟩
theorem enon {j} : JE X (.Constant .none j pos) (tC .non) := ⟨pe_non⟩
theorem estr {x j} : JE X (.Constant (.str x) j pos) (tC (.str x)) := ⟨pe_str⟩
theorem eglob {x : Str} {v : V} {u : Value} (hg : Gl X x) (hm : X.mg x = some u) (r : RelV v u) (hd : (x == ("__debug__" : Str)) = false := by decide) : JE X (.Name x pos) (tC v) := ⟨pe_glob hg hm r hd⟩
theorem etyp {x : Str} {n : String} (hg : Gl X x) (hm : X.mg x = none) (hv : bootBuiltins x = some (.type n)) (hn : x ≠ "__name__" := by decide) (hd : (x == ("__debug__" : Str)) = false := by decide) : JE X (.Name x pos) (tC (.ty n)) := ⟨pe_bltn hg hm hv rfl hn hd⟩
theorem eop {op : Operator} {r : R2} (ho : OpR X (binaryOp op) r) (ha : JE X a ta) (hb : JE X b tb) : JE X (.BinOp a op b pos) (tOp r ta tb) := ⟨pe_op ho ha.h hb.h⟩
theorem epowc {a b : Int} {j1 j2 : Nat} {p1 p2 : Pos} (v : Int) (h : decide (0 ≤ b ∧ b ≤ 1000000 ∧ a.natAbs < 2 ^ 64 ∧ a ^ b.toNat = v) = true := by decide +kernel) : JE X (.BinOp (.Constant (.int a) j1 p1) .Pow (.Constant (.int b) j2 p2) pos) (tC (.int v)) := ⟨pe_powc v h⟩
theorem eun {op : UnaryOp} {r : V → Hp → VK → Prop} (ho : UnR X (unaryOp op) r) (ha : JE X a ta) : JE X (.UnaryOp op a pos) (tUn r ta) := ⟨pe_un ho ha.h⟩
theorem enot (ha : JE X a ta) : JE X (.UnaryOp .Not a pos) (tNotV ta) := ⟨pe_not ha.h⟩
theorem eone {op} (h : JE X a ta) : JE X (.BoolOp op [a] pos) ta := ⟨pe_one h.h⟩
theorem eand (ha : JE X a ta) (hb : JE X (.BoolOp .And (b :: rest) pos) tb) : JE X (.BoolOp .And (a :: b :: rest) pos) (tAndV ta tb) := ⟨pe_and ha.h hb.h⟩
theorem eif (hc : JT X c tA) (ha : JE X a ta) (hb : JE X b tb) : JE X (.IfExp c a b pos) (tIf tA ta tb) := ⟨pe_ifExp hc.h ha.h hb.h⟩
theorem ecmp {op : CmpOp} {r : R2} (ho : OpR X (compareOp op) r) (ha : JE X a ta) (hb : JE X b tb) (hm : behindInMarks op b = false) : JE X (.Compare a [op] [b] pos) (tOp r ta tb) := ⟨pe_cmpR ho ha.h hb.h hm⟩
theorem echain {op op' : CmpOp} {r r' : R2} (ho : OpR X (compareOp op) r) (ho' : OpR X (compareOp op') r') (ha : JE X a ta) (hb : JE X b tb) (hc : JE X c tc)
    (hm : lastMarks [op, op'] [b, c] = false := by with_unfolding_all rfl) : JE X (.Compare a [op, op'] [b, c] pos) (tChain r r' ta tb tc) := ⟨pe_chain ho ho' ha.h hb.h hc.h hm⟩
theorem eix {r : R2} (hr : IxR X r) (ha : JE X a ta) (hb : JE X b tb) (hs : PlainIx b) : JE X (.Subscript a b pos) (tOp r ta tb) := ⟨pe_ix hr ha.h hb.h hs⟩
theorem eslice {r : V → Option Int → Option Int → Hp → VK → Prop} {lo hi : Option Expr} {tl th : TO} (hr : SlR X r) (he : JE X e te) (hl : JO X lo tl) (hu : JO X hi th) : JE X (.Subscript e (.Slice lo hi none p) pos) (tSl r te tl th) := ⟨pe_slice hr he.h hl.h hu.h⟩
theorem ecall {x : Str} {k : Nat} {ps : List Str} {sp : Sp} (C : Callee X.prog X.w X.K X.mg X.base x k ps sp) (hr : Room k X.A) (hg : Gl X x) (ha : JA X (e :: es) t)
    (hdb : (x == ("__debug__" : Str)) = false := by decide) (he : starEach (e :: es) X.env = (false, eval e X.env) :: starEach es X.env := by rfl) (hpl : (backTo pos (starEach es X.env)).any (·.1) = false := by rfl) :
    JE X (.Call (.Name x p) (e :: es) [] pos) (tCall sp [] E0 t) := ⟨pe_callF C hr hg ha.h hdb he hpl⟩
theorem ecallB {x : Str} {id : String} {r : List V → Hp → VK → Prop} (hc : CallR X (.builtin id) r) (hg : Gl X x) (hm : X.mg x = none) (hv : bootBuiltins x = some (.builtin id)) (ha : JA X (e :: es) t) (hn : x ≠ "__name__" := by decide) (hdb : (x == ("__debug__" : Str)) = false := by decide)
    (he : starEach (e :: es) X.env = (false, eval e X.env) :: starEach es X.env := by rfl) (hpl : (backTo pos (starEach es X.env)).any (·.1) = false := by rfl) : JE X (.Call (.Name x p) (e :: es) [] pos) (tCB r t) := ⟨pe_callB hc hg hm hv ha.h hn hdb he hpl⟩
theorem ecallTy {x : Str} {T : String} {r : List V → Hp → VK → Prop} (hc : CallR X (.type T) r) (hg : Gl X x) (hm : X.mg x = none) (hv : bootBuiltins x = some (.type T)) (ha : JA X (e :: es) t) (hn : x ≠ "__name__" := by decide) (hdb : (x == ("__debug__" : Str)) = false := by decide)
    (he : starEach (e :: es) X.env = (false, eval e X.env) :: starEach es X.env := by rfl) (hpl : (backTo pos (starEach es X.env)).any (·.1) = false := by rfl) : JE X (.Call (.Name x p) (e :: es) [] pos) (tCB r t) := ⟨pe_callTy hc hg hm hv ha.h hn hdb he hpl⟩
theorem ebm0 {T id : String} {name : Str} {r : V → List V → Hp → VK → Prop} {apos cpos : Pos} (pa : PlainAttrs T) (slot : Slot T name id) (hty : typeOf (.builtin id) = pure (.type "method_descriptor")) (hm : MtR X id r) (ho : JE X o to)
    (hbase : attributeBase o name X.env (eval o X.env) = eval o X.env := by rfl) (hline : (apos.endLine == cpos.line) = true := by rfl) : JE X (.Call (.Attribute o name apos) [] [] cpos) (tBM0 X.K T r to) := ⟨pe_bm0 pa slot hty hm ho.h hbase hline⟩
theorem ebm {T id : String} {name : Str} {r : V → List V → Hp → VK → Prop} {apos cpos : Pos} (pa : PlainAttrs T) (slot : Slot T name id) (hty : typeOf (.builtin id) = pure (.type "method_descriptor")) (hm : MtR X id r) (ho : JE X o to) (ha : JA X (e :: es) t)
    (hbase : attributeBase o name X.env (eval o X.env) = eval o X.env := by rfl)
    (hfew : ((backTo cpos (starEach (e :: es) X.env)).all (fun x => !x.1) && (backToKw cpos (keywordEach [] X.env)).all (fun x => x.1.isSome)
      && decide ((e :: es).length + ([] : List Keyword).length + (if ([] : List Keyword).isEmpty then 0 else 1) < 30)) = true := by rfl)
    (hline : (apos.endLine == cpos.line) = true := by rfl) (hs : starEach (e :: es) X.env = (false, eval e X.env) :: starEach es X.env := by rfl) (hplain : (backTo cpos (starEach es X.env)).any (·.1) = false := by rfl) :
    JE X (.Call (.Attribute o name apos) (e :: es) [] cpos) (tBM X.K T r to t) := ⟨pe_bm pa slot hty hm ho.h ha.h hbase hfew hline hs hplain⟩
theorem anil : JA X [] tNil := ⟨pa_nil⟩
theorem acons (ha : JE X e te) (hr : JA X es t) (hs : starEach (e :: es) X.env = (false, eval e X.env) :: starEach es X.env := by rfl) : JA X (e :: es) (tCons te t) := ⟨pa_cons ha.h hr.h hs⟩
theorem tcmp {op : CmpOp} {r : R2} (ho : OpR X (compareOp op) r) (ha : JE X a ta) (hb : JE X b tb) (hm : behindInMarks op b = false) : JT X (.Compare a [op] [b] pos) (tTest (tOp r ta tb)) := ⟨pt_cmpR ho ha.h hb.h hm⟩
theorem tchain {op op' : CmpOp} {r r' : R2} (ho : OpR X (compareOp op) r) (ho' : OpR X (compareOp op') r') (ha : JE X a ta) (hb : JE X b tb) (hc : JE X c tc)
    (hm : lastMarks [op, op'] [b, c] = false := by with_unfolding_all rfl) : JT X (.Compare a [op, op'] [b, c] pos) (tTest (tChain r r' ta tb tc)) := ⟨pt_chain ho ho' ha.h hb.h hc.h hm⟩
theorem tval (h : JE X e te) (he : ∀ whole, isTrue e X.env whole = (do let v ← whole; standAt e.pos; holding [v] (truthy v)) := by intro _; rfl) : JT X e (tB te) := ⟨pt_val h.h he⟩
theorem ttruth (ha : JE X a ta) (he : ∀ whole, isTrue a X.env whole = (do let v ← whole; standAt a.pos; holding [v] (truthy v))) :
    JT X a (fun σ H Q => ta σ H fun x H' => ∃ k, TruV X.K x H' k ∧ Q k H') := ⟨pt_truth ha.h he⟩
theorem tnot (ha : JT X a tA) : JT X (.UnaryOp .Not a pos) (tNot tA) := ⟨pt_not ha.h⟩
theorem tw (h : JW X e tA) : JT X e tA := ⟨PW.pt h.h⟩
theorem wand1 (ha : JT X a tA) : JW X (.BoolOp .And [a] pos) tA := ⟨pw_and1 ha.h⟩
theorem wor1 (ha : JT X a tA) : JW X (.BoolOp .Or [a] pos) tA := ⟨pw_or1 ha.h⟩
theorem wand (ha : JT X a tA) (hb : JW X (.BoolOp .And (b :: rest) pos) tB') : JW X (.BoolOp .And (a :: b :: rest) pos) (tAnd tA tB') := ⟨pw_and ha.h hb.h⟩
theorem wor (ha : JT X a tA) (hb : JW X (.BoolOp .Or (b :: rest) pos) tB') : JW X (.BoolOp .Or (a :: b :: rest) pos) (tOr tA tB') := ⟨pw_or ha.h hb.h⟩
theorem bnil : JB X [] tNext := ⟨pss_nil⟩
theorem bcons (h1 : JS X st u) (h2 : JB X sts v) : JB X (st :: sts) (tSeq u v) := ⟨pss_cons h1.h h2.h⟩
theorem bone (h1 : JS X st u) : JB X [st] u := ⟨pss_one h1.h⟩
theorem bcut (h1 : JS X st u) (h2 : JB X sts v) : JB X (st :: sts) (tCut u v) := ⟨pss_cut h1.h h2.h⟩
theorem sexpr (he : JE X e te) (hs : swapsWith e none pos.line X.env = pure false := by rfl) : JS X (.Expr e pos) (tDrop te) := ⟨ps_expr he.h hs⟩
theorem sret (he : JE X e te) : JS X (.Return (some e) pos) (tRet te) := ⟨ps_ret he.h⟩
theorem sif (hc : JT X c tA) (ha : JB X sts u) (hb : JB X sts' v) : JS X (.If c sts sts' pos) (tIfS tA u v) := ⟨ps_if hc.h ha.h hb.h⟩
theorem sset {i : Nat} {x : Str} (hN : X.N.Nodup) (hi : X.N[i]? = some x) (hx : Loc X.env.scope x) (he : JE X e te) (hs : swapsWith e (some (.Name x p)) pos.line X.env = pure false := by rfl) (hf : X.fn x = true ∨ X.env.scope.names.lookup x = some .local := by first | exact .inl rfl | exact .inr rfl | assumption) :
    JS X (.Assign [.Name x p] e pos) (tAsg te (gName i)) := ⟨ps_set hN hi hx he.h hs hf⟩
theorem sasg {tg : Expr} {g : TG} (he : JE X e te) (hg : JG X tg g) (hs : swapsWithSole [tg] e pos.line X.env = pure false := by rfl) (hw : swappedStores [tg] e X.env = pure none := by rfl)
    (h1 : (assignEach [tg] X.env).map (·.2) = [assign tg X.env] := by rfl) : JS X (.Assign [tg] e pos) (tAsg te g) := ⟨ps_asg he.h hg.h hs hw h1⟩
theorem sfor {tg iter : Expr} {wi : TI} {g : TG} (hp : PassesOwn (model X.prog X.w) X.A X.env X.xe) (hc : X.calm = true) (hi : JI X tg iter wi) (hg : JG X tg g) (hb : JB X sts u)
    (hs : ∀ x, foldedSetIterable iter X.env x = pure x := by intro _; rfl) : JS X (.For tg iter sts [] pos) (tFor wi g u) := ⟨ps_for hp hc hi.h hg.h hb.h hs⟩
theorem gname {i : Nat} {x : Str} (hN : X.N.Nodup) (hi : X.N[i]? = some x) (hx : Loc X.env.scope x) (hf : X.fn x = true ∨ X.env.scope.names.lookup x = some .local := by first | exact .inl rfl | exact .inr rfl | assumption) : JG X (.Name x pos) (gName i) := ⟨pg_name hN hi hx hf⟩
theorem gsub {i : Expr} {ti : TE} {t : TSet} (ho : JE X o to) (hi : JE X i ti) (hs : PSet X t)
    (ha : ∀ v, assign (.Subscript o i pos) X.env v = (do
      let ov ← holding [v] (eval o X.env)
      let iv ← holding [v, ov] (eval i X.env)
      standAt pos
      holding [v, ov, iv] (setItem ov iv v)
      release [v, ov, iv] []) := by intro _; rfl) : JG X (.Subscript o i pos) (gSub to ti t) := ⟨pg_sub ho.h hi.h hs ha⟩
theorem gnil : JGs X [] gNil := ⟨pgs_nil⟩
theorem gcons {t : TG} {u : TGs} (h1 : JG X e t) (h2 : JGs X es u) (hs : (assignEach (e :: es) X.env).map (·.2) = assign e X.env :: (assignEach es X.env).map (·.2) := by rfl) : JGs X (e :: es) (gCons t u) := ⟨pgs_cons h1.h h2.h hs⟩
theorem ilist {tg l : Expr} (hl : JE X l te) : JI X tg l (iList X.K te) := ⟨pi_list hl.h⟩
theorem itup {tg l : Expr} (hl : JE X l te) : JI X tg l (iTup X.K te) := ⟨pi_tup hl.h⟩
theorem onone : JO X none tNoPart := ⟨po_none⟩
theorem osome (h : JE X e te) : JO X (some e) (tPart te) := ⟨po_some h.h⟩
end
section
variable {P : Program} {w : World} {K : PySem.W.Frag} {mg : Str → Option Value} {base : Heap}
theorem Fun.okJ {x qual : Str} {st : Stmt} {f : Addr} {fd : FuncData} {N ps : List Str} {k : Nat} {sp : Sp} (F : Fun K x qual st f fd) (S : FnScope N ps (defScope st)) (len : ∀ vs H Q E, sp vs H Q E → vs.length = ps.length)
    (hbody : ∀ (cdv : Value) (A : Around) (outer : List Env) (s : Shared) (H : Hp) (vs : List V) (Q : VK) (E : XK), Room k (A.deeper (envOfC qual (defScope st) s.heap.objs.size f cdv)) → sp vs H Q E →
      ∃ t, JB (cxOf CX0 P w K mg base N qual (defScope st) f cdv A outer s H E).nox (defBody st) t ∧ t { nx := fun _ H' => Q .non H', rt := Q } (start N vs) H) : FnOk P w K mg base CX0 (k + 1) f fd ps sp :=
  F.ok S len fun cdv A outer s H vs Q E hr h => let ⟨t, a, b⟩ := hbody cdv A outer s H vs Q E hr h; ⟨t, a.h, b⟩
end
end L2
set_option Elab.async false
set_option linter.all false
set_option maxRecDepth 100000
namespace L2
open PySem PySem.Spec PyProof.Rows
mutual
def Is (K : PySem.W.Frag) (H : Hp) : PyData → V → Prop
  | .none, v => v = .non
  | .bool b, v => v = .bl b
  | .int i, v => v = .int i
  | .str x, v => v = .str x
  | .list ds, v => ∃ a vs, v = .ref a ∧ SqL K H a vs ∧ IsAll K H ds vs
  | .tuple ds, v => ∃ a vs, v = .ref a ∧ SqT K H a vs ∧ IsAll K H ds vs
  | .dict _, _ => False
def IsAll (K : PySem.W.Frag) (H : Hp) : List PyData → List V → Prop
  | [], vs => vs = []
  | d :: ds, vs => ∃ v r, vs = v :: r ∧ Is K H d v ∧ IsAll K H ds r
end
section
variable {X : Cx} {pins : List (Addr × Obj)} {σ : St} {H : Hp} {s : Shared}
mutual
theorem Is.reads (I : Inv X pins σ H s) : ∀ {d : PyData} {v : V} {u : Value}, Is X.K H d v → RelV v u → ∃ as, Reads s.heap u d as
  | .none, v, u, h, r => by unfold Is at h; subst h; cases r; exact ⟨_, .none⟩
  | .bool b, v, u, h, r => by unfold Is at h; subst h; cases r; exact ⟨_, .bool b⟩
  | .int i, v, u, h, r => by unfold Is at h; subst h; obtain ⟨t, rfl⟩ := r; exact ⟨_, .int i t⟩
  | .str x, v, u, h, r => by unfold Is at h; subst h; obtain ⟨t, rfl⟩ := r; exact ⟨_, .str x t⟩
  | .list ds, v, u, h, r => by
    unfold Is at h
    obtain ⟨a, vs, rfl, hs, ha⟩ := h
    cases r
    obtain ⟨its, rv, ⟨o, n, e, hc, _, hd⟩, _⟩ := I.list hs
    obtain ⟨as, q⟩ := IsAll.reads I ha rv
    exact ⟨_, .list e hc hd (by simpa using q)⟩
  | .tuple ds, v, u, h, r => by
    unfold Is at h
    obtain ⟨a, vs, rfl, hs, ha⟩ := h
    cases r
    obtain ⟨its, rv, ⟨o, e, hc, n, hd⟩, _⟩ := I.tuple hs
    obtain ⟨as, q⟩ := IsAll.reads I ha rv
    exact ⟨_, .tuple e hc hd (by simpa using q)⟩
  | .dict _, v, u, h, r => by unfold Is at h; exact h.elim
theorem IsAll.reads (I : Inv X pins σ H s) : ∀ {ds : List PyData} {vs : List V} {us : List Value}, IsAll X.K H ds vs → Vals vs us → ∃ as, ReadsAll s.heap us ds as
  | [], vs, us, h, r => by unfold IsAll at h; subst h; cases r; exact ⟨_, .nil⟩
  | d :: ds, vs, us, h, r => by
    unfold IsAll at h
    obtain ⟨v, rs, rfl, h1, h2⟩ := h
    cases r with
    | cons r1 r2 =>
      obtain ⟨as, q1⟩ := Is.reads I h1 r1
      obtain ⟨bs, q2⟩ := IsAll.reads I h2 r2
      exact ⟨_, .cons q1 q2⟩
end
end
section
variable {X : Cx}
def rEqD (K : PySem.W.Frag) (neg : Bool) : R2 := fun x y H Q => ∃ d e, Is K H d x ∧ Is K H e y ∧ SeqAt.shaped d = true ∧ SeqAt.shaped e = true ∧ Q (.bl (if neg = true then !PyData.eqv d e else PyData.eqv d e)) H
theorem op_eqD (hu : X.A.units + 64 < cLine) : OpR X (compareOp .Eq) (rEqD X.K false) := by
  intro pins s σ H x y v u Q I rx ry h
  obtain ⟨d, e, hd, he, sd, se, q⟩ := h
  obtain ⟨as, ra⟩ := hd.reads I rx
  obtain ⟨bs, rb⟩ := he.reads I ry
  exact SeqAt.compareEq_shaped ra rb sd se hu ⟨.bl _, H, I, rfl, q⟩
theorem op_neD (hu : X.A.units + 64 < cLine) : OpR X (compareOp .NotEq) (rEqD X.K true) := by
  intro pins s σ H x y v u Q I rx ry h
  obtain ⟨d, e, hd, he, sd, se, q⟩ := h
  obtain ⟨as, ra⟩ := hd.reads I rx
  obtain ⟨bs, rb⟩ := he.reads I ry
  exact SeqAt.compareNe_shaped ra rb sd se hu ⟨.bl _, H, I, rfl, q⟩
end
mutual
def nob : PyData → Bool
  | .none => true
  | .bool _ => false
  | .int _ => true
  | .str _ => true
  | .list ds => nobAll ds
  | .tuple ds => nobAll ds
  | .dict _ => false
def nobAll : List PyData → Bool
  | [] => true
  | d :: ds => nob d && nobAll ds
end
mutual
theorem eqv_iff : ∀ {d e : PyData}, nob d = true → nob e = true → (PyData.eqv d e = true ↔ d = e)
  | .none, e, hd, he => by cases e <;> simp [PyData.eqv]
  | .bool _, e, hd, he => by simp [nob] at hd
  | .int i, e, hd, he => by cases e <;> simp [PyData.eqv, nob] at *
  | .str x, e, hd, he => by cases e <;> simp [PyData.eqv, nob] at *
  | .list ds, e, hd, he => by
    cases e with
    | list es =>
      simp only [nob] at hd he
      simp only [PyData.eqv, PyData.list.injEq]
      exact eqvAll_iff hd he
    | _ => simp [PyData.eqv]
  | .tuple ds, e, hd, he => by
    cases e with
    | tuple es =>
      simp only [nob] at hd he
      simp only [PyData.eqv, PyData.tuple.injEq]
      exact eqvAll_iff hd he
    | _ => simp [PyData.eqv]
  | .dict _, e, hd, he => by simp [nob] at hd
theorem eqvAll_iff : ∀ {ds es : List PyData}, nobAll ds = true → nobAll es = true → (PyData.eqvAll ds es = true ↔ ds = es)
  | [], es, _, _ => by cases es <;> simp [PyData.eqvAll]
  | d :: ds, es, hd, he => by
    cases es with
    | nil => simp [PyData.eqvAll]
    | cons e es =>
      simp only [nobAll, Bool.and_eq_true] at hd he
      simp only [PyData.eqvAll, Bool.and_eq_true, List.cons.injEq]
      rw [eqv_iff hd.1 he.1, eqvAll_iff hd.2 he.2]
end
mutual
theorem Is.same {K : PySem.W.Frag} {H H' : Hp} (h : Same H H') : ∀ {d : PyData} {v : V}, Is K H d v → Is K H' d v
  | .none, v, q => by unfold Is at q ⊢; exact q
  | .bool b, v, q => by unfold Is at q ⊢; exact q
  | .int i, v, q => by unfold Is at q ⊢; exact q
  | .str x, v, q => by unfold Is at q ⊢; exact q
  | .list ds, v, q => by
    unfold Is at q ⊢
    obtain ⟨a, vs, e, hs, ha⟩ := q
    exact ⟨a, vs, e, h.seq hs, IsAll.same h ha⟩
  | .tuple ds, v, q => by
    unfold Is at q ⊢
    obtain ⟨a, vs, e, hs, ha⟩ := q
    refine ⟨a, vs, e, ?_, IsAll.same h ha⟩
    rcases hs with (hs | ⟨o, hs⟩) | hs
    · exact .inl (.inl (h _ _ hs))
    · exact .inl (.inr ⟨o, h _ _ hs⟩)
    · exact .inr hs
  | .dict _, v, q => by unfold Is at q; exact q.elim
theorem IsAll.same {K : PySem.W.Frag} {H H' : Hp} (h : Same H H') : ∀ {ds : List PyData} {vs : List V}, IsAll K H ds vs → IsAll K H' ds vs
  | [], vs, q => by unfold IsAll at q ⊢; exact q
  | d :: ds, vs, q => by
    unfold IsAll at q ⊢
    obtain ⟨v, r, e, h1, h2⟩ := q
    exact ⟨v, r, e, Is.same h h1, IsAll.same h h2⟩
end
end L2
set_option Elab.async false
set_option linter.all false
set_option maxRecDepth 100000
namespace L2
open PySem PySem.Spec PyProof.Rows
theorem absV_rel : ∀ {u : Value} {x : V}, absV u = some x → RelV x u := by
  intro u x h
  cases u <;> simp only [absV, Option.some.injEq] at h <;> first | (subst h; first | rfl | exact ⟨_, rfl⟩) | cases h
theorem absV_all : ∀ {us : List Value} {xs : List V}, us.mapM absV = some xs → Vals xs us := by
  intro us
  induction us with
  | nil => intro xs h; simp at h; subst h; exact .nil
  | cons u us ih =>
    intro xs h
    rw [List.mapM_cons] at h
    cases e1 : absV u with
    | none => rw [e1] at h; simp at h
    | some x =>
      cases e2 : us.mapM absV with
      | none => rw [e1, e2] at h; simp at h
      | some ys =>
        rw [e1, e2] at h
        simp at h
        subst h
        exact .cons (absV_rel e1) (ih e2)
def kTup (K : PySem.W.Frag) (a : Addr) : Option (List V) := match K.lookup a with
  | some ⟨.type n, _, .seq its _, _⟩ => if n = "tuple" then (if its.size ≤ sizeLine then its.toList.mapM absV else none) else none
  | _ => none
theorem kTup_sq {K : PySem.W.Frag} {H : Hp} {a : Addr} {xs : List V} (h : kTup K a = some xs) : SqT K H a xs := by
  unfold kTup at h
  split at h
  · next n dd its k sl e =>
    by_cases h1 : n = "tuple"
    · rw [if_pos h1] at h
      by_cases h2 : its.size ≤ sizeLine
      · rw [if_pos h2] at h
        subst h1
        exact .inr ⟨_, its, k, e, rfl, rfl, h2, absV_all h⟩
      · rw [if_neg h2] at h; cases h
    · rw [if_neg h1] at h; cases h
  · cases h
def tupQ (K : PySem.W.Frag) (H : Hp) (a : Addr) : Option (List V) := match H a with
  | some (.tup xs) => some xs
  | some _ => none
  | none => kTup K a
def seqQ (K : PySem.W.Frag) (H : Hp) (a : Addr) : Option (List V) := match H a with
  | some (.lst xs) => some xs
  | some (.tup xs) => some xs
  | some (.frz _ (.lst xs)) => some xs
  | some _ => none
  | none => kTup K a
section
variable {K : PySem.W.Frag} {H H' : Hp} {a b : Addr} {xs : List V} {o : HO}
theorem tupQ_sq (h : tupQ K H a = some xs) : SqT K H a xs := by
  unfold tupQ at h
  split at h
  · next e => cases h; exact .inl (.inl e)
  · cases h
  · exact kTup_sq h
theorem seqQ_sq (h : seqQ K H a = some xs) : SqL K H a xs ∨ SqT K H a xs := by
  unfold seqQ at h
  split at h
  · next e => cases h; exact .inl (.inl (.inl e))
  · next e => cases h; exact .inr (.inl (.inl e))
  · next e => cases h; exact .inl (.inl (.inr ⟨_, e⟩))
  · cases h
  · exact .inr (kTup_sq h)
theorem seqQ_T (h : tupQ K H a = some xs) : seqQ K H a = some xs := by
  unfold tupQ at h
  unfold seqQ
  split at h
  · next e => rw [e]; exact h
  · cases h
  · next e => rw [e]; exact h
theorem seqQ_lst (h : H a = some (.lst xs)) : seqQ K H a = some xs := by unfold seqQ; rw [h]
theorem seqQ_tup (h : H a = some (.tup xs)) : seqQ K H a = some xs := by unfold seqQ; rw [h]
theorem tupQ_tup (h : H a = some (.tup xs)) : tupQ K H a = some xs := by unfold tupQ; rw [h]
theorem seqQ_updL : seqQ K (upd H a (.lst xs)) a = some xs := seqQ_lst upd_same
theorem seqQ_updT : seqQ K (upd H a (.tup xs)) a = some xs := seqQ_tup upd_same
theorem tupQ_updT : tupQ K (upd H a (.tup xs)) a = some xs := tupQ_tup upd_same
structure Ext (K : PySem.W.Frag) (H H' : Hp) : Prop where
  same : Same H H'
  mod : ∀ a xs, H a = none → kTup K a = some xs → H' a = none
theorem Ext.refl : Ext K H H := ⟨Same.refl H, fun _ _ h _ => h⟩
theorem Ext.trans {H1 H2 : Hp} (x : Ext K H H1) (y : Ext K H1 H2) : Ext K H H2 := ⟨x.same.trans y.same, fun a xs h k => y.mod a xs (x.mod a xs h k) k⟩
theorem Ext.tup (x : Ext K H H') (h : tupQ K H a = some xs) : tupQ K H' a = some xs := by
  unfold tupQ at h ⊢
  split at h
  · next e => rw [x.same _ _ e]; exact h
  · cases h
  · next e => rw [x.mod a xs e h]; exact h
end
section
variable {X : Cx}
def rIxQ (K : PySem.W.Frag) : R2 := fun x y H Q => ∃ p i xs v, x = .ref p ∧ y = .int i ∧ seqQ K H p = some xs ∧ atI xs i = some v ∧ Q v H
theorem ix_Q : IxR X (rIxQ X.K) := by
  intro value slice pins s σ H x y v u Q I rx ry h hs
  obtain ⟨p, i, xs, z, rfl, rfl, hq, he, q⟩ := h
  rcases seqQ_sq (K := X.K) hq with h1 | h1
  · exact ix_list value slice pins s σ H _ _ v u Q I rx ry ⟨p, xs, i, z, rfl, rfl, h1, he, q⟩ hs
  · exact ix_tup value slice pins s σ H _ _ v u Q I rx ry ⟨p, xs, i, z, rfl, rfl, h1, he, q⟩ hs
theorem call_lenQ : CallR X (.builtin "len") (fun xs H Q => ∃ p ys, xs = [.ref p] ∧ seqQ X.K H p = some ys ∧ Q (.int ys.length) H) := by
  intro pins s σ H xs us Q I r h
  obtain ⟨p, ys, rfl, hq, q⟩ := h
  exact call_len_seq pins s σ H _ us Q I r ⟨p, ys, rfl, seqQ_sq hq, q⟩
end
end L2
namespace L2
open PySem PySem.Spec PyProof.Rows
def new (K : PySem.W.Frag) (H : Hp) (p : Addr) : Prop := H p = none ∧ kTup K p = none
theorem new_upd {K : PySem.W.Frag} {H : Hp} {a p : Addr} {o : HO} : new K (upd H a o) p ↔ p ≠ a ∧ new K H p := by
  unfold new
  rw [upd_none, and_assoc]
theorem kTup_none {K : PySem.W.Frag} {a : Addr} (h : K.lookup a = none) : kTup K a = none := by unfold kTup; rw [h]
section
variable {X : Cx} {es : List Expr} {t : TA} {pos : Pos} {pins : List (Addr × Obj)} {σ : St} {H : Hp} {s : Shared}
theorem Inv.new (I : Inv X pins σ H s) : L2.new X.K H s.heap.objs.size := by
  refine ⟨I.hok.fresh (Nat.le_refl _), kTup_none ?_⟩
  cases e : X.K.lookup s.heap.objs.size with
  | none => rfl
  | some o => exact absurd (Heap.lt_size (I.kIn _ o e)) (Nat.lt_irrefl _)
def tTupQ (K : PySem.W.Frag) (t : TA) : TE := fun σ H Q => t σ H fun xs H1 => xs.length ≤ sizeLine ∧ ∀ p, L2.new K H1 p → Q (.ref p) (upd H1 p (.tup xs))
def tLstQ (K : PySem.W.Frag) (t : TA) : TE := fun σ H Q => t σ H fun xs H1 => xs.length ≤ sizeLine ∧ ∀ p, L2.new K H1 p → Q (.ref p) (upd H1 p (.lst xs))
theorem etupQ {k} (h : JA X es t) : JE X (.Tuple es k pos) (tTupQ X.K t) := ⟨by
  intro pins s σ H Q I hq
  refine wpAny_Tuple_spliced (thn (h.h pos pins s σ H _ I hq) fun us s1 ⟨xs, H1, I1, r, z, q⟩ => ⟨by rw [← r.length]; exact z, ?_⟩)
  refine ⟨.ref s1.heap.objs.size, upd H1 s1.heap.objs.size (.tup xs), I1.laid (t' := s1.toks) (fun b u e => Heap.get?_push_of_some _ e) (Nat.le_refl _) ?_, rfl, q _ I1.new⟩
  exact ⟨z, us, r, ⟨_, Heap.get?_push_size _ rfl, rfl, _, rfl⟩⟩⟩
theorem elstQ (h : JA X es t) : JE X (.List es pos) (tLstQ X.K t) := ⟨by
  intro pins s σ H Q I hq
  refine wpAny_List_spliced (thn (h.h pos pins s σ H _ I hq) fun us s1 ⟨xs, H1, I1, r, z, q⟩ => ⟨by rw [← r.length]; exact z, ?_⟩)
  refine ⟨.ref s1.heap.objs.size, upd H1 s1.heap.objs.size (.lst xs), I1.laid (t' := s1.toks) (fun b u e => Heap.get?_push_of_some _ e) (Nat.le_refl _) ?_, rfl, q _ I1.new⟩
  exact ⟨z, us, 0, r, Heap.get?_push_size _ rfl⟩⟩
def rCatQ (K : PySem.W.Frag) : R2 := fun x y H Q => ∃ l b xs zs, x = .ref l ∧ y = .ref b ∧ H l = some (.lst xs) ∧ H b = some (.lst zs) ∧ xs.length + zs.length ≤ sizeLine ∧ ∀ p, L2.new K H p → Q (.ref p) (upd H p (.lst (xs ++ zs)))
theorem op_catQ : OpR X (binaryOp .Add) (rCatQ X.K) := by
  intro pins s σ H x y v u Q I rx ry h
  obtain ⟨l, b, xs, zs, rfl, rfl, hH, hB, hz, q⟩ := h
  cases rx
  cases ry
  obtain ⟨z, its, n, r, hl, e⟩ := I.lstM hH
  obtain ⟨z2, its2, n2, r2, hl2, e2⟩ := I.lstM hB
  refine PySem.P.add_list e e2 ?_ (by rw [List.size_toArray, List.size_toArray]; omega)
  have ea : its.toArray ++ its2.toArray = (its ++ its2).toArray := by simp
  rw [ea]
  exact ⟨.ref _, _, I.lnew (t' := s.toks) (r.append r2) (by rw [List.length_append]; omega), rfl, q _ I.new⟩
end
structure Kp (K : PySem.W.Frag) (p : Addr) (H H' : Hp) : Prop where
  keep : ∀ q o, H q = some o → q ≠ p → H' q = some o
  mod : ∀ a xs, H a = none → kTup K a = some xs → H' a = none
section
variable {K : PySem.W.Frag} {p a : Addr} {H H' H1 H2 : Hp} {xs ys : List V} {o : HO}
theorem Kp.refl : Kp K p H H := ⟨fun _ _ h _ => h, fun _ _ h _ => h⟩
theorem Kp.trans (x : Kp K p H H1) (y : Kp K p H1 H2) : Kp K p H H2 := ⟨fun q o h n => y.keep q o (x.keep q o h n) n, fun a xs h k => y.mod a xs (x.mod a xs h k) k⟩
theorem Kp.upd (h : H p = some (.lst xs)) : Kp K p H (upd H p o) := ⟨fun q u e n => by rw [upd_ne n]; exact e, fun b ys e _ => by rw [upd_ne (fun z => by rw [z, h] at e; cases e)]; exact e⟩
theorem Kp.new {q : Addr} (h : L2.new K H q) : Kp K p H (L2.upd H q o) := ⟨fun r u e _ => by rw [upd_ne (ne_of_none e h.1)]; exact e, fun b ys e k => by rw [upd_ne (fun z => by rw [z, h.2] at k; cases k)]; exact e⟩
theorem Kp.tup (x : Kp K p H H') (hp : H p = some (.lst ys)) (h : tupQ K H a = some xs) : tupQ K H' a = some xs := by
  unfold tupQ at h ⊢
  split at h
  · next e => rw [x.keep _ _ e (ne_of e hp (by intro z; cases z))]; exact h
  · cases h
  · next e => rw [x.mod a xs e h]; exact h
theorem Ext.new {q : Addr} (h : L2.new K H q) : Ext K H (L2.upd H q o) := ⟨fun b u e => by rw [upd_ne (ne_of_none e h.1)]; exact e, fun b ys e k => by rw [upd_ne (fun z => by rw [z, h.2] at k; cases k)]; exact e⟩
theorem Kp.ext (x : Kp K p (L2.upd H p o) H') (h : L2.new K H p) : Ext K H H' := by
  refine ⟨fun b u e => ?_, fun b ys e k => ?_⟩
  · have n : b ≠ p := ne_of_none e h.1
    exact x.keep b u (by rw [upd_ne n]; exact e) n
  · exact x.mod b ys (by rw [upd_ne (fun z => by rw [z, h.2] at k; cases k)]; exact e) k
theorem Ext.kp (x : Ext K H H') : Kp K p H H' := ⟨fun q o e _ => x.same q o e, x.mod⟩
end
end L2
namespace L2
open PySem PySem.Spec PyProof.Rows
section
variable {K : PySem.W.Frag} {p a : Addr} {H H' : Hp} {xs : List V}
end
end L2
namespace L2
open PySem PySem.Spec PyProof.Rows
def TyQ (K : PySem.W.Frag) (H : Hp) (x : V) (t : Value) : Prop := TyOf K H x t ∨ ∃ a xs, x = .ref a ∧ tupQ K H a = some xs ∧ t = .type "tuple"
theorem TyQ.tup {K : PySem.W.Frag} {H : Hp} {a : Addr} {xs : List V} (h : tupQ K H a = some xs) : TyQ K H (.ref a) (.type "tuple") := .inr ⟨a, xs, rfl, h, rfl⟩
section
variable {X : Cx}
theorem call_isinstQ : CallR X (.builtin "isinstance") (fun xs H Q => ∃ x n t b, xs = [x, .ty n] ∧ TyQ X.K H x t ∧ PySem.W.kitOne X.K t (.type n) = some b ∧ Q (.bl b) H) := by
  intro pins s σ H xs us Q I r h
  obtain ⟨x, n, t, b, rfl, ty, e, q⟩ := h
  obtain ⟨u, w', rfl, ru, rw'⟩ := vals2 r
  cases rw'
  rcases ty with ty | ⟨a, ys, rfl, hq, rfl⟩
  · exact isinst_ok I ru ty e fun tk => ⟨.bl b, H, I.tok tk, rfl, q⟩
  · cases (show u = Value.ref a from ru)
    obtain ⟨its, _, ⟨o, h1, h2, _⟩, _⟩ := I.tuple (tupQ_sq hq)
    exact PySem.W.kia_one PySem.W.kitx_tuple I.kIn ⟨o, h1, h2⟩ e (fun z => nomatch z) fun tk => ⟨.bl b, H, I.tok tk, rfl, q⟩
end
end L2
namespace L2
open PySem PySem.Spec PyProof.Rows
section
variable {X : Cx}
def rInQ (K : PySem.W.Frag) (neg : Bool) : R2 := fun x y H Q => ∃ p xs, y = .ref p ∧ seqQ K H p = some xs ∧ flatV x = true ∧ xs.all flatV = true ∧ Q (.bl (if neg = true then !inV x xs else inV x xs)) H
theorem op_inQ : OpR X (compareOp .In) (rInQ X.K false) := by
  intro pins s σ H x y v u Q I rx ry h
  obtain ⟨p, xs, rfl, hq, fx, fs, q⟩ := h
  exact op_in_seq pins s σ H x _ v u Q I rx ry ⟨p, xs, rfl, seqQ_sq hq, fx, fs, q⟩
theorem op_notInQ : OpR X (compareOp .NotIn) (rInQ X.K true) := by
  intro pins s σ H x y v u Q I rx ry h
  obtain ⟨p, xs, rfl, hq, fx, fs, q⟩ := h
  exact op_notIn_seq pins s σ H x _ v u Q I rx ry ⟨p, xs, rfl, seqQ_sq hq, fx, fs, q⟩
end
end L2
namespace L2
open PySem PySem.Spec PyProof.Rows
def ModFree (K : PySem.W.Frag) (H : Hp) : Prop := ∀ b xs, kTup K b = some xs → H b = none
theorem kTup_look {K : PySem.W.Frag} {a : Addr} {xs : List V} (h : kTup K a = some xs) : ∃ o, K.lookup a = some o := by
  cases e : K.lookup a with
  | none => rw [kTup_none e] at h; cases h
  | some o => exact ⟨o, rfl⟩
theorem FnOk.mod {P : Program} {w : World} {K : PySem.W.Frag} {mg : Str → Option Value} {base : Heap} {CX : CXT} {k : Nat} {f : Addr} {fd : FuncData} {ps : List Str} {sp : Sp} (len : ∀ vs H Q E, sp vs H Q E → vs.length = ps.length)
    (F : FnOk P w K mg base CX k f fd ps (fun vs H Q E => sp vs H Q E ∧ ModFree K H)) : FnOk P w K mg base CX k f fd ps sp :=
  ⟨len, fun A outer s H args us vs Q E hr e0 hb r h => F.run A outer s H args us vs Q E hr e0 hb r ⟨h, fun b xs hk => by
    obtain ⟨o, e⟩ := kTup_look hk
    exact (e0.bs b o (e0.mod.kin b o e)).2⟩⟩
section
variable {P : Program} {w : World} {K : PySem.W.Frag} {mg : Str → Option Value} {base : Heap}
end
theorem ModFree.tup {K : PySem.W.Frag} {H : Hp} {a : Addr} {xs : List V} (m : ModFree K H) (h : kTup K a = some xs) : tupQ K H a = some xs := by
  unfold tupQ
  rw [m a xs h]
  exact h
theorem ModFree.ext {K : PySem.W.Frag} {H H' : Hp} (m : ModFree K H) (x : Ext K H H') : ModFree K H' := fun b xs h => x.mod b xs (m b xs h) h
end L2
namespace L2
open PySem PySem.Spec PyProof.Rows
section
variable {X : Cx} {tg : Expr}
end
section
variable {K : PySem.W.Frag} {ta : TA} {g : TG} {tb : TS} {D : Ends} {σ : St} {H : Hp} {lo stp : Int} {n : Nat}
end
end L2
namespace L2
open PySem PySem.Spec PyProof.Rows
section
variable {X : Cx}
def rSlQ (K : PySem.W.Frag) : V → Option Int → Option Int → Hp → VK → Prop := fun x lo hi H Q => ∃ a xs, x = .ref a ∧ SqL K H a xs ∧ ∀ p, L2.new K H p → Q (.ref p) (upd H p (.lst (cutV xs lo hi)))
theorem sl_listQ : SlR X (rSlQ X.K) := by
  intro pins s σ H x v vl vu lo hi sl Q I rx hs pl pu h
  obtain ⟨a, xs, rfl, hx, q⟩ := h
  cases rx
  obtain ⟨its, r, ht, hz⟩ := I.list hx
  have hlen := r.length
  refine ⟨"list", _, slot_list_getitem.lookup, ht.isList.typeIs, ?_⟩
  refine wpAny_getItem_list_slice ht.isList hs pl pu .none (by simp) ?_ (by rw [List.size_toArray] <;> omega)
  rw [slicePick_cut, ← hlen]
  refine ⟨.ref s.heap.objs.size, _, I.laid (t' := s.toks) (o := .lst (cutV xs lo hi)) (fun b ob q => Heap.get?_push_of_some _ q) (Nat.le_refl _) ?_, rfl, q _ I.new⟩
  exact ⟨Nat.le_trans (cutV_length xs lo hi) hz, _, 0, (r.drop (HT.sIx xs.length 0 lo)).take (HT.sIx xs.length xs.length hi - HT.sIx xs.length 0 lo), Heap.get?_push_size _ rfl⟩
end
end L2
set_option Elab.async false
set_option linter.all false
set_option maxRecDepth 100000
namespace L2
open PySem PySem.Spec PyProof.Rows
section
variable {X : Cx} {es : List Expr} {pos : Pos}
def gTupQ (K : PySem.W.Frag) (n : Nat) (t : TGs) : TG := fun v σ H Q => ∃ a xs, v = .ref a ∧ tupQ K H a = some xs ∧ xs.length = n ∧ t xs σ H Q
theorem gtupQ {k : Nat} {t : TGs} {n : Nat} (hc : X.calm = true) (h : JGs X es t) (hn : (assignEach es X.env).length = n := by rfl) (hst : (assignEach es X.env).findIdx? (·.1) = none := by rfl) : JG X (.Tuple es k pos) (gTupQ X.K n t) :=
  ⟨fun pins s σ H v u Q I r ⟨a, xs, e, h1, h2, h3⟩ => pg_tup hc h.h hn hst pins s σ H v u Q I r ⟨a, xs, e, tupQ_sq h1, h2, h3⟩⟩
end
theorem iteT' {c : Prop} [Decidable c] {a b : Prop} (h : c) (x : a) : if c then a else b := by rw [if_pos h]; exact x
theorem iteF' {c : Prop} [Decidable c] {a b : Prop} (h : ¬ c) (x : b) : if c then a else b := by rw [if_neg h]; exact x
end L2
namespace L2
open PySem PySem.Spec PyProof.Rows
theorem cutV_to (xs : List V) (k : Nat) : cutV xs none (some (k : Int)) = xs.take k := by
  unfold cutV
  rw [HT.sIx_none, HT.sIx_nat, List.drop_zero, Nat.sub_zero]
  by_cases h : k ≤ xs.length
  · rw [Nat.min_eq_left h]
  · rw [Nat.min_eq_right (by omega), List.take_of_length_le (Nat.le_refl _), List.take_of_length_le (by omega)]
theorem cutV_from (xs : List V) (k : Nat) : cutV xs (some (k : Int)) none = xs.drop k := by
  unfold cutV
  rw [HT.sIx_none, HT.sIx_nat]
  by_cases h : k ≤ xs.length
  · rw [Nat.min_eq_left h, List.take_of_length_le (by rw [List.length_drop]; exact Nat.le_refl _)]
  · rw [Nat.min_eq_right (by omega), List.drop_of_length_le (Nat.le_refl _), List.drop_of_length_le (by omega)]; simp
end L2
namespace L2
open PySem PySem.Spec PyProof.Rows
theorem Ext.at {K : PySem.W.Frag} {H H' : Hp} {a : Addr} {o : HO} (x : Ext K H H') (h : H a = some o) : H' a = some o := x.same _ _ h
theorem Ext.seqQ {K : PySem.W.Frag} {H H' : Hp} {a : Addr} {xs : List V} (x : Ext K H H') (h : seqQ K H a = some xs) : seqQ K H' a = some xs := by
  unfold L2.seqQ at h ⊢
  split at h
  · next e => rw [x.same _ _ e]; exact h
  · next e => rw [x.same _ _ e]; exact h
  · next e => rw [x.same _ _ e]; exact h
  · cases h
  · next e => rw [x.mod a xs e h]; exact h
end L2
namespace L2
open PySem PySem.Spec PyProof.Rows
structure Kp2 (K : PySem.W.Frag) (p q : Addr) (H H' : Hp) : Prop where
  keep : ∀ r o, H r = some o → r ≠ p → r ≠ q → H' r = some o
  mod : ∀ a xs, H a = none → kTup K a = some xs → H' a = none
section
variable {K : PySem.W.Frag} {p q : Addr} {H H' H1 H2 : Hp} {o o' : HO}
theorem Kp.l (x : Kp K p H H') : Kp2 K p q H H' := ⟨fun r o h n _ => x.keep r o h n, x.mod⟩
theorem Kp.r (x : Kp K q H H') : Kp2 K p q H H' := ⟨fun r o h _ n => x.keep r o h n, x.mod⟩
theorem Kp2.trans (x : Kp2 K p q H H1) (y : Kp2 K p q H1 H2) : Kp2 K p q H H2 := ⟨fun r o h n m => y.keep r o (x.keep r o h n m) n m, fun a xs h k => y.mod a xs (x.mod a xs h k) k⟩
theorem Kp2.ext (x : Kp2 K p q (L2.upd (L2.upd H p o) q o') H') (hp : L2.new K H p) (hq : L2.new K (L2.upd H p o) q) : Ext K H H' := by
  have y : Ext K H (L2.upd (L2.upd H p o) q o') := (Ext.new hp).trans (Ext.new hq)
  refine ⟨fun b u e => ?_, fun b ys e k => x.mod b ys (y.mod b ys e k) k⟩
  have n : b ≠ p := ne_of_none e hp.1
  have m : b ≠ q := ne_of_none ((Ext.new hp).at e) hq.1
  exact x.keep b u (y.at e) n m
end
end L2
set_option Elab.async false
set_option linter.all false
set_option maxRecDepth 100000
namespace L2
open PySem PySem.Spec PyProof.Rows
def closL (env : Env) : List (Str × NameKind) → List (Str × Addr) → List (Str × Addr)
  | [], cs => cs
  | (n, k) :: r, cs => closL env r (if (k == NameKind.free) = true then (match env.cells.lookup n with | some a => (n, a) :: cs | none => cs) else cs)
theorem closureFor_eq {scope : Scope} {env : Env} (h : ∀ x ∈ scope.names, x.2 = .free → ∃ c, env.cells.lookup x.1 = some c) : closureFor scope env = pure (closL env scope.names []) := by
  unfold closureFor
  generalize scope.names = names at h ⊢
  generalize ([] : List (Str × Addr)) = cs
  induction names generalizing cs with
  | nil => rfl
  | cons x r ih =>
    obtain ⟨n, k⟩ := x
    have ih' := fun cs => ih (cs := cs) fun x hx => h x (List.mem_cons_of_mem _ hx)
    simp only [List.forIn_cons]
    cases hk : (k == NameKind.free) with
    | false =>
      simp only [closL, hk]
      exact ih' cs
    | true =>
      obtain ⟨c, hc⟩ := h (n, k) (List.mem_cons_self) (by simpa using hk)
      simp only [closL, hk, hc, cellOf]
      exact ih' _
theorem closL_mem {env : Env} : ∀ {names : List (Str × NameKind)} {cs : List (Str × Addr)} {n : Str} {c : Addr}, (n, c) ∈ closL env names cs → (n, c) ∈ cs ∨ env.cells.lookup n = some c
  | [], cs, n, c, h => .inl h
  | (m, k) :: r, cs, n, c, h => by
    rw [closL] at h
    rcases closL_mem h with h | h
    · split at h
      · split at h
        · next a e =>
          rcases List.mem_cons.mp h with z | z
          · cases z; exact .inr e
          · exact .inl z
        · exact .inl h
      · exact .inl h
    · exact .inr h
theorem closL_sub {env : Env} : ∀ {names : List (Str × NameKind)} {cs : List (Str × Addr)} {p : Str × Addr}, p ∈ cs → p ∈ closL env names cs
  | [], cs, p, h => h
  | (m, k) :: r, cs, p, h => by
    rw [closL]
    refine closL_sub ?_
    split
    · split
      · exact List.mem_cons_of_mem _ h
      · exact h
    · exact h
theorem closL_has {env : Env} : ∀ {names : List (Str × NameKind)} {cs : List (Str × Addr)} {n : Str} {c : Addr}, (n, NameKind.free) ∈ names → env.cells.lookup n = some c → (n, c) ∈ closL env names cs
  | (m, k) :: r, cs, n, c, h, e => by
    rw [closL]
    rcases List.mem_cons.mp h with z | z
    · cases z
      rw [if_pos (by decide), e]
      exact closL_sub List.mem_cons_self
    · exact closL_has z e
theorem lookup_mem {α : Type} : ∀ {l : List (Str × α)} {n : Str} {c : α}, l.lookup n = some c → (n, c) ∈ l
  | (m, d) :: r, n, c, h => by
    rw [List.lookup_cons] at h
    cases e : n == m with
    | true =>
      rw [e] at h
      cases h
      rw [eq_of_beq e]
      exact List.mem_cons_self
    | false =>
      rw [e] at h
      exact List.mem_cons_of_mem _ (lookup_mem h)
theorem mem_lookup {α : Type} : ∀ {l : List (Str × α)} {n : Str} {c : α}, (n, c) ∈ l → ∃ d, l.lookup n = some d
  | (m, d) :: r, n, c, h => by
    rw [List.lookup_cons]
    cases e : n == m with
    | true => exact ⟨d, rfl⟩
    | false =>
      rcases List.mem_cons.mp h with z | z
      · cases z
        rw [beq_self_eq_true] at e; cases e
      · exact mem_lookup z
theorem clos_look {env : Env} {names : List (Str × NameKind)} {n : Str} {c : Addr} (h : (closL env names []).lookup n = some c) : env.cells.lookup n = some c := by
  rcases closL_mem (lookup_mem h) with z | z
  · cases z
  · exact z
theorem clos_has {env : Env} {names : List (Str × NameKind)} {n : Str} {c : Addr} (h : (n, NameKind.free) ∈ names) (e : env.cells.lookup n = some c) : (closL env names []).lookup n = some c := by
  obtain ⟨d, hd⟩ := mem_lookup (closL_has (cs := []) h e)
  rw [hd]
  exact (clos_look hd).symm.trans e ▸ rfl
theorem relabel_free {env : Env} : ∀ {names : List (Str × NameKind)} {x : Str}, names.lookup x = some .free →
    (names.map fun (n, k) => if (k == NameKind.free && env.scope.kind == .function && env.kindOf n == some .cell) then (n, NameKind.cell) else (n, k)).lookup x = some .cell ∨
    (names.map fun (n, k) => if (k == NameKind.free && env.scope.kind == .function && env.kindOf n == some .cell) then (n, NameKind.cell) else (n, k)).lookup x = some .free
  | [], _, h => by simp at h
  | (n, k) :: r, x, h => by
    have ih := @relabel_free env r x
    show List.lookup x ((if (k == NameKind.free && env.scope.kind == .function && env.kindOf n == some .cell) = true then (n, NameKind.cell) else (n, k)) :: _) = _ ∨ List.lookup x ((if (k == NameKind.free && env.scope.kind == .function && env.kindOf n == some .cell) = true then (n, NameKind.cell) else (n, k)) :: _) = _
    cases hx : x == n with
    | true =>
      simp only [List.lookup_cons, hx] at h
      cases h
      split
      · simp [List.lookup_cons, hx]
      · simp [List.lookup_cons, hx]
    | false =>
      simp only [List.lookup_cons, hx] at h
      split
      · simp only [List.lookup_cons, hx]; exact ih h
      · simp only [List.lookup_cons, hx]; exact ih h
theorem relabel_mem {env : Env} : ∀ {names : List (Str × NameKind)} {x : Str} {kk : NameKind}, (∀ y ∈ names, y.2 ≠ .cell) →
    (names.map fun (n, k) => if (k == NameKind.free && env.scope.kind == .function && env.kindOf n == some .cell) then (n, NameKind.cell) else (n, k)).lookup x = some kk → kk = .cell ∨ kk = .free → (x, NameKind.free) ∈ names
  | [], _, _, _, h, _ => by simp at h
  | (n, k) :: r, x, kk, hc, h, hk => by
    have ih := @relabel_mem env r x kk fun y hy => hc y (List.mem_cons_of_mem _ hy)
    change List.lookup x ((if (k == NameKind.free && env.scope.kind == .function && env.kindOf n == some .cell) = true then (n, NameKind.cell) else (n, k)) :: _) = _ at h
    cases hx : x == n with
    | true =>
      have e := eq_of_beq hx
      subst e
      split at h
      · next q =>
        simp only [Bool.and_eq_true, beq_iff_eq] at q
        rw [q.1.1]
        exact List.mem_cons_self
      · simp only [List.lookup_cons, hx] at h
        cases h
        rcases hk with z | z
        · exact absurd z (hc _ List.mem_cons_self)
        · rw [z]; exact List.mem_cons_self
    | false =>
      refine List.mem_cons_of_mem _ (ih ?_ hk)
      split at h
      · simp only [List.lookup_cons, hx] at h; exact h
      · simp only [List.lookup_cons, hx] at h; exact h
def Cx.comp (X : Cx) (N : List Str) (scope : Scope) (C : Addr) (s : Shared) (H : Hp) (fp : List Addr) : Cx :=
  { X with N := N, s₀ := s, H₀ := H, env := compEnvC scope (closL X.env scope.names []) C X.env, outer := X.stack, ex := fp, fn := fun _ => false, pn := [], xe := fun _ _ => False }
def pick (σ : St) (src : List (Option Nat)) : St := src.map fun o => match o with | none => none | some j => (σ[j]?).join
def capOk (NX : List Str) (scX sc : Scope) (N : List Str) (src : List (Option Nat)) : Bool :=
  sc.names.all (fun x => x.2 != .cell) && sc.names.all (fun x => x.2 != .local || sc.names.lookup x.1 == some .local) &&
  sc.names.all (fun x => x.2 != .free || (scX.names.lookup x.1 == some .cell || scX.names.lookup x.1 == some .free)) && N.length == src.length &&
  (N.zip src).all (fun p => match p.2 with | none => true | some j => NX[j]? == some p.1 && (scX.names.lookup p.1 == some .cell || scX.names.lookup p.1 == some .free) && sc.names.lookup p.1 == some .free)
structure Cap (X : Cx) (sc : Scope) (N : List Str) (src : List (Option Nat)) : Prop where
  kind : sc.kind = .function
  ok : capOk X.N X.env.scope sc N src = true
section
variable {X : Cx} {sc : Scope} {N : List Str} {src : List (Option Nat)}
theorem Cap.cell (c : Cap X sc N src) : ∀ y ∈ sc.names, y.2 ≠ .cell := fun y hy => by
  have h := c.ok
  simp only [capOk, Bool.and_eq_true, List.all_eq_true] at h
  simpa using h.1.1.1.1 y hy
theorem Cap.names (c : Cap X sc N src) : ∀ y ∈ sc.names, y.2 = .local → sc.names.lookup y.1 = some .local := fun y hy e => by
  have h := c.ok
  simp only [capOk, Bool.and_eq_true, List.all_eq_true] at h
  have q := h.1.1.1.2 y hy
  rw [e] at q
  simpa using q
theorem Cap.free (c : Cap X sc N src) {x : Str} (hx : (x, NameKind.free) ∈ sc.names) : X.env.kindOf x = some .cell ∨ X.env.kindOf x = some .free := by
  have h := c.ok
  simp only [capOk, Bool.and_eq_true, List.all_eq_true] at h
  have q := h.1.1.2 _ hx
  simpa [Env.kindOf] using q
theorem Cap.len (c : Cap X sc N src) : N.length = src.length := by
  have h := c.ok
  simp only [capOk, Bool.and_eq_true, List.all_eq_true] at h
  simpa using h.1.2
theorem Cap.at_ (c : Cap X sc N src) {i j : Nat} {x : Str} (h1 : N[i]? = some x) (h2 : src[i]? = some (some j)) : X.N[j]? = some x ∧ (X.env.kindOf x = some .cell ∨ X.env.kindOf x = some .free) ∧ sc.names.lookup x = some .free := by
  have h := c.ok
  simp only [capOk, Bool.and_eq_true, List.all_eq_true] at h
  have m : (x, some j) ∈ N.zip src := by
    refine List.mem_of_getElem? (i := i) ?_
    rw [List.getElem?_zip_eq_some]
    exact ⟨h1, h2⟩
  have q := h.2 _ m
  simp only [Bool.and_eq_true, Bool.or_eq_true, beq_iff_eq] at q
  exact ⟨q.1.1, q.1.2, q.2⟩
theorem pick_some {σ : St} {i : Nat} {v : V} (h : (pick σ src)[i]? = some (some v)) : ∃ j, src[i]? = some (some j) ∧ σ[j]? = some (some v) := by
  unfold pick at h
  rw [List.getElem?_map] at h
  cases e : src[i]? with
  | none => rw [e] at h; cases h
  | some o =>
    rw [e] at h
    cases o with
    | none => simp at h
    | some j =>
      refine ⟨j, rfl, ?_⟩
      simp only [Option.map_some, Option.some.injEq] at h
      cases e2 : σ[j]? with
      | none => rw [e2] at h; cases h
      | some w =>
        rw [e2] at h
        simp only [Option.join] at h
        exact congrArg some h
theorem Cx.Ok.comp {pins : List (Addr × Obj)} {σ : St} {H : Hp} {s : Shared} {fp : List Addr} {C : Addr} (I : Inv X pins σ H s) (c : Cap X sc N src) (hf : ∀ b ∈ fp, FpOk X pins H b) (ho : ∀ b ∈ fp, ∃ o, s.heap.get? b = some o) (hC : s.heap.objs.size ≤ C) : (X.comp N sc C s H fp).Ok where
  mod := I.ok.mod
  kind := c.kind
  glob := I.ok.glob
  blt := I.ok.blt
  above := hC
  inj := fun x y a h h' => I.ok.inj x y a (clos_look h) (clos_look h')
  has := fun x h => by
    have m : (x, NameKind.free) ∈ sc.names := by
      rcases h with h | h
      · exact relabel_mem c.cell h (.inl rfl)
      · exact relabel_mem c.cell h (.inr rfl)
    obtain ⟨a, ha⟩ := I.ok.has x (c.free m)
    exact ⟨a, clos_has m ha⟩
  cab := fun _ _ h => nomatch h
  hd := I.ok.hd
  frames := I.ok.frames
  stk := .inl rfl
  exf := fun b hb => by
    obtain ⟨o, e⟩ := ho b hb
    exact ⟨Nat.ne_of_lt (Nat.lt_of_lt_of_le (Heap.lt_size e) hC), fun x a h => (hf b hb).2.2.2.2.1 x a (clos_look h)⟩
  bs := I.bs
  bsz := Nat.le_trans I.ok.bsz I.sz
  noex := fun b o e hb => by
    rcases (hf b hb).2.2.2.1 with z | z
    · exact I.ok.noex b o e z
    · exact absurd (Nat.lt_of_lt_of_le (Heap.lt_size e) (Nat.le_trans I.ok.bsz z)) (Nat.lt_irrefl _)
  exfs := fun b hb z => by
    rcases List.mem_cons.mp (I.stkSub b z) with q | q
    · exact (hf b hb).2.1 q
    · exact (hf b hb).2.2.1 q
  funs := I.stack
  frf := I.stkFree
theorem Inv.block {pins : List (Addr × Obj)} {σ : St} {H : Hp} {s : Shared} {fp : List Addr} {C D : Addr} {h1 : Heap} {t' : Nat} (I : Inv X pins σ H s) (c : Cap X sc N src) (hf : ∀ b ∈ fp, FpOk X pins H b) (ho : ∀ b ∈ fp, ∃ o, s.heap.get? b = some o)
    (hD : s.heap.objs.size ≤ D) (hC : s.heap.objs.size ≤ C) (hDC : D ≠ C) (k : ∀ b u, s.heap.get? b = some u → h1.get? b = some u) (hn : h1.Ns C fun _ => none) (new : ObjOk X.prog X.w (upd H D (.lst [])) h1 D (.lst [])) :
    Inv (X.comp N sc C s H fp) [] (pick σ src) (upd H D (.lst [])) { s with heap := h1, toks := t' } where
  ok := Cx.Ok.comp I c hf ho hC
  os := rfl
  bare := I.bare
  base := Un.laid k hD (I.hok.fresh hD)
  loc := by
    refine ⟨_, hn, fun i x v e1 e2 e3 => ?_⟩
    obtain ⟨j, ej, es⟩ := pick_some e2
    obtain ⟨n1, n2, n3⟩ := c.at_ e1 ej
    obtain ⟨m, _, hl⟩ := I.loc
    have vis : Vis X.env.scope x := n2.elim (fun z => .inr (.inl z)) fun z => .inr (.inr z)
    obtain ⟨u, r, q⟩ := hl j x v n1 es vis
    refine ⟨u, r, .inr ⟨relabel_free n3, ?_⟩⟩
    rcases q with ⟨z, _⟩ | ⟨_, a, ha, z⟩
    · rcases n2 with n2 | n2 <;> rw [n2] at z <;> cases z
    · obtain ⟨o, e, d⟩ := z
      exact ⟨a, clos_has (lookup_mem n3) ha, o, k _ _ e, d⟩
  cell := fun x a e => by
    obtain ⟨v, o, e, d⟩ := I.cell x a (clos_look e)
    exact ⟨v, o, k _ _ e, d⟩
  free := by
    show upd H D (.lst []) C = none
    rw [upd_ne hDC.symm]
    exact I.hok.fresh hC
  freeC := fun x a e => by
    obtain ⟨v, o, e', d⟩ := I.cell x a (clos_look e)
    rw [upd_ne (Nat.ne_of_lt (Nat.lt_of_lt_of_le (Heap.lt_size e') hD))]
    exact I.freeC x a (clos_look e)
  pin := fun p hp => nomatch hp
  hok := I.hok.laid k hD new
  len := by
    show (pick σ src).length = N.length
    rw [c.len, pick, List.length_map]
theorem Inv.unblock {pins : List (Addr × Obj)} {σ σ' : St} {H H' : Hp} {s s' : Shared} {fp : List Addr} {C : Addr} {h' : Heap} (I : Inv X pins σ H s) (hf : ∀ b ∈ fp, FpOk X pins H b) (hC : s.heap.objs.size ≤ C)
    (J : Inv (X.comp N sc C s H fp) [] σ' H' s') (hs : ∀ b, b ≠ C → h'.get? b = s'.heap.get? b) : Inv X pins σ H' { s' with heap := h' } := by
  have ne : ∀ b o, s.heap.get? b = some o → b ≠ C := fun b o e => Nat.ne_of_lt (Nat.lt_of_lt_of_le (Heap.lt_size e) hC)
  have u : Un (frs X.stack) fp H H' s.heap s'.heap := J.base
  have u' : Un (frs X.stack) fp H H' s.heap h' := ⟨fun b o e n a x => (hs b (ne b o e)).trans (u.keep b o e n a x), fun b o e n a x => by
      obtain ⟨sl, q⟩ := u.slot b o e n a x
      exact ⟨sl, (hs b (ne b o e)).trans q⟩, u.free, fun b o e x => by
      obtain ⟨o', q⟩ := u.there b o e x
      exact ⟨o', (hs b (ne b o e)).trans q⟩, u.tups, u.frzs, u.tbls⟩
  refine I.call' (s' := { s' with heap := h' }) J.os u' (fun b ob e => ?_) J.bare fun b hb => ⟨(hf b hb).2.2.2.1, (hf b hb).2.1, (hf b hb).2.2.2.2.1, (hf b hb).2.2.2.2.2⟩
  have fr : H' C = none := J.free
  refine (J.hok b ob e).stay (fun a w' ha q => (hs a ?_).trans q) (fun _ q => q) fun _ _ q => q
  rintro rfl
  rcases ha with rfl | ha
  · rw [fr] at e; cases e
  · rw [fr] at ha; cases ha
end
abbrev F0 : Value → Shared → Prop := fun _ _ => False
section
variable {prog : Program} {w : World} {A : Around} {R : Result → Shared → Prop} {s : Shared}
theorem compLoop_any {elt target iter : Expr} {ifs : List Expr} {scope : Scope} {pos : Pos} {it acc : Value} {env : Env} (I : Nat → Shared → Prop)
    (turn : ∀ n s, I n s → wpAny (model prog w) A (pyNext it) (fun r s₁ => match r with
      | none => R (.ok .next) s₁
      | some v => wpAny (model prog w) A (letOwnedTupleGo target it v) (fun _ s₁' => wpAny (model prog w) A (assign target env v) (fun _ s₂ =>
          wpAny (model prog w) A (forIn ifs true fun c r => if r = true then do let ok ← isTrue c env (eval c env); pure (ForInStep.yield ok) else pure (ForInStep.yield r)) (fun ok s₃ =>
            if ok = true then wpAny (model prog w) A (eval elt env) (fun x s₄ =>
              wpAny (model prog w) A (call (.builtin "list.append") [acc, x]) (fun _ s₅ => ∃ m, m < n ∧ I m s₅) F0 s₄) F0 s₃
            else ∃ m, m < n ∧ I m s₃) F0 s₂) F0 s₁') F0 s₁) F0 s)
    (n : Nat) (h : I n s) :
    codeAny (model prog w) A (.compLoop (.ListComp elt [⟨target, iter, ifs, 0⟩] scope pos) 0 it acc env) R s := by
  refine codeAny_loop rfl I (fun n s hI => ?_) n h
  show wpAny _ A ((compTurn (.ListComp elt [⟨target, iter, ifs, 0⟩] scope pos) 0 it acc env).onRaise (fun x => do noteFrame x env; theTreesLotGoes x)) _ _ s
  refine wpAny_noted ?_
  rw [compTurn_list]
  refine wpAny_bind (wpAny_standAt (wpAny_bind (wpAny_mono (turn n s hI) (fun r s₁ h₁ => ?_) fun _ _ h' => h'.elim)))
  cases r with
  | none => exact wpAny_pure h₁
  | some v =>
    refine wpAny_bind (wpAny_mono h₁ (fun _ s₁' h₁' => ?_) fun _ _ h' => h'.elim)
    refine wpAny_bind (wpAny_mono h₁' (fun _ s₂ h₂ => wpAny_bind (wpAny_mono h₂ (fun ok s₃ h₃ => ?_) fun _ _ h' => h'.elim)) fun _ _ h' => h'.elim)
    cases ok with
    | false => exact wpAny_pure ⟨rfl, h₃⟩
    | true =>
      exact wpAny_bind (wpAny_bind (wpAny_mono h₃ (fun x s₄ h₄ => wpAny_bind (wpAny_mono h₄ (fun _ s₅ h₅ => wpAny_pure (wpAny_pure ⟨rfl, h₅⟩)) fun _ _ h' => h'.elim)) fun _ _ h' => h'.elim))
end
def PF (X : Cx) (ifs : List Expr) (t : TT) : Prop :=
  ∀ (pins : List (Addr × Obj)) (s : Shared) (σ : St) (H : Hp) (Q : Bool → Hp → Prop), Inv X pins σ H s → t σ H Q →
    wpAny (model X.prog X.w) X.A (forIn ifs true fun c r => if r = true then do let ok ← isTrue c X.env (eval c X.env); pure (ForInStep.yield ok) else pure (ForInStep.yield r)) (TP X pins σ Q) X.xe s
structure JF (X : Cx) (ifs : List Expr) (t : TT) : Prop where h : PF X ifs t
def tYes : TT := fun _ H Q => Q true H
theorem fnone {X : Cx} : JF X [] tYes := ⟨fun _ _ _ H _ I h => wpAny_tests_nil ⟨H, I, h⟩⟩
theorem fone {X : Cx} {c : Expr} {t : TT} (h : JT X c t) : JF X [c] t := ⟨fun pins s σ H Q I q => wpAny_tests_one (h.h pins s σ H Q I q)⟩
def LcLoop (J : It) (g : TG) (tt : TT) (te : TE) (D : Addr) (Q : Hp → Prop) (σ : St) (H : Hp) : Prop := ∃ W : Nat → Nat → List V → St → Hp → Prop, (∃ m, W 0 m [] σ H) ∧ ∀ i m acc σ H, W i m acc σ H →
  (J.stop i H ∧ Q H) ∨ (J.go i H ∧ ∃ N : List V → St → Hp → Prop, (∀ acc' σ' H', N acc' σ' H' → ∃ m', m' < m ∧ W (i + 1) m' acc' σ' H') ∧ ∀ x H', J.yld i H x H' → g x σ H' fun σ2 H2 => tt σ2 H2 fun b H3 =>
    if b = true then te σ2 H3 fun v H4 => H4 D = some (.lst acc) ∧ acc.length < sizeLine ∧ N (acc ++ [v]) σ2 (upd H4 D (.lst (acc ++ [v])))
    else N acc σ2 H3)
def tLc (K : PySem.W.Frag) (wi : TI) (src : List (Option Nat)) (g : TG) (tt : TT) (te : TE) : TE := fun σ H Q => wi σ H fun J H1 => ∀ D, L2.new K H1 D → LcLoop J g tt te D (fun H' => Q (.ref D) H') (pick σ src) (upd H1 D (.lst []))
section
variable {X : Cx} {sc : Scope} {N : List Str} {src : List (Option Nat)} {tg iter elt : Expr} {ifs : List Expr} {wi : TI} {g : TG} {tt : TT} {te : TE} {pos : Pos}
theorem comp_run {R : Value → Addr → Result → Shared → Prop} {E : Value → Shared → Prop} (c : Cap X sc N src) (hc : X.calm = true)
    (hg : ∀ C s H fp, JG (X.comp N sc C s H fp) tg g) (ht : ∀ C s H fp, JF (X.comp N sc C s H fp) ifs tt) (he : ∀ C s H fp, JE (X.comp N sc C s H fp) elt te)
    {pins : List (Addr × Obj)} {σ : St} {H : Hp} {s : Shared} {it : Addr} {fp : List Addr} {tn : Nat → Heap → Prop} {J : It} {Q : V → Hp → Prop} (I : Inv X pins σ H s) (T : Turn X.prog X.w X.K tg J fp it tn) (st : tn 0 s.heap) (hf : ∀ b ∈ fp, FpOk X pins H b)
    (h : ∀ D, L2.new X.K H D → LcLoop J g tt te D (fun H' => Q (.ref D) H') (pick σ src) (upd H D (.lst [])))
    (hR : ∀ D C s' σ' H', s.heap.objs.size ≤ C → Inv (X.comp N sc C s H fp) [] σ' H' s' → Q (.ref D) H' → R (.ref D) C (.ok .next) s') :
    wpAny (model X.prog X.w) X.A (newList []) (fun acc s₃ => wpAny (model X.prog X.w) X.A (newFunctionEnv sc X.env.globals (closL X.env sc.names []) [] X.env.qual none .none (some X.env)) (fun cenv s₄ =>
      codeAny (model X.prog X.w) X.A (.compStart (.ListComp elt [⟨tg, iter, ifs, 0⟩] sc pos) 0 (.ref it) acc { cenv with scope := relabel sc X.env }) (R acc cenv.locals) s₄) E s₃) E s := by
  refine wpAny_newObj_type (wpAny_newFunctionEnv c.cell (by intro y hy; simp at hy) (fun h₁ hns₁ hsb₁ => ?_) c.kind)
  dsimp only at hns₁ hsb₁ ⊢
  generalize hH2 : s.heap.push { cls := .type "list", dict := none, data := .seq ([] : List Value).toArray } = H2 at hns₁ hsb₁ ⊢
  have hC : H2.objs.size = s.heap.objs.size + 1 := by rw [← hH2, Heap.size_push]
  have hDC : s.heap.objs.size ≠ H2.objs.size := by rw [hC]; exact Nat.ne_of_lt (Nat.lt_succ_self _)
  have hCle : s.heap.objs.size ≤ H2.objs.size := by rw [hC]; exact Nat.le_succ _
  have below : ∀ b, b < s.heap.objs.size → b ≠ H2.objs.size := fun b hb => by rw [hC]; exact Nat.ne_of_lt (Nat.lt_succ_of_lt hb)
  have old : ∀ b o, s.heap.get? b = some o → h₁.get? b = some o := fun b o e => hsb₁.extBut b o (below b (Heap.lt_size e)) (Heap.get?_push_of_some _ (hH2 ▸ Heap.get?_push_of_some _ e))
  have hacc : h₁.get? s.heap.objs.size = some { cls := .type "list", dict := none, data := .seq ([] : List Value).toArray } := hsb₁.extBut _ _ hDC (Heap.get?_push_of_some _ (hH2 ▸ Heap.get?_push_size _ rfl))
  have ho : ∀ b ∈ fp, ∃ o, s.heap.get? b = some o := fun b hb => let ⟨o, e, _⟩ := T.obj _ _ st b hb; ⟨o, e⟩
  have I0 := I.block (t' := s.toks + ([] : List (Str × Value)).length) c hf ho (Nat.le_refl _) hCle hDC old hns₁ ⟨Nat.zero_le _, [], 0, .nil, hacc⟩
  have st0 : tn 0 h₁ := T.keep _ _ _ st fun b hb o e => old b o e
  obtain ⟨W, ⟨m0, w0⟩, turn⟩ := h _ I.new
  have stat : ∀ {H' : Hp}, (∀ b ∈ fp, H' b = none) → ∀ b ∈ fp, FpOk (X.comp N sc H2.objs.size s H fp) [] H' b := fun hn b hb => by
    obtain ⟨f0, f1, f2, f3, f4, f5⟩ := hf b hb
    obtain ⟨o, e⟩ := ho b hb
    refine ⟨hn b hb, below b (Heap.lt_size e), fun z => ?_, .inl hb, fun x a q => f4 x a (clos_look q), fun p hp => nomatch hp⟩
    rcases List.mem_cons.mp (I.stkSub b z) with q | q
    · exact f1 q
    · exact f2 q
  have fr0 : ∀ b ∈ fp, (upd H s.heap.objs.size (.lst [])) b = none := fun b hb => by
    obtain ⟨o, e⟩ := ho b hb
    rw [upd_ne (Nat.ne_of_lt (Heap.lt_size e))]
    exact (hf b hb).1
  have loop : ∀ s₃ : Shared, s₃ = { s with heap := h₁, toks := s.toks + ([] : List (Str × Value)).length } →
      codeAny (model X.prog X.w) X.A (.compLoop (.ListComp elt [⟨tg, iter, ifs, 0⟩] sc pos) 0 (.ref it) (.ref s.heap.objs.size) (compEnvC sc (closL X.env sc.names []) H2.objs.size X.env)) (R (.ref s.heap.objs.size) H2.objs.size) s₃ := by
    rintro s₃ rfl
    refine compLoop_any (fun n s' => ∃ i acc σ' H', Inv (X.comp N sc H2.objs.size s H fp) [] σ' H' s' ∧ tn i s'.heap ∧ (∀ b ∈ fp, H' b = none) ∧ W i n acc σ' H') ?_ m0 ⟨0, _, _, _, I0, st0, fr0, w0⟩
    rintro n s3 ⟨i, acc, σ3, H3, I3, st3, fr3, w3⟩
    rcases turn i n acc σ3 H3 w3 with ⟨stop, qn⟩ | ⟨go, NN, hNN, step⟩
    · refine thn (T.done (X.comp N sc H2.objs.size s H fp) rfl rfl rfl hc i [] s3 σ3 H3 F0 I3 (stat fr3) st3 stop) fun r s4 ⟨hr, I4⟩ => ?_
      subst hr
      exact hR _ _ _ _ _ hCle I4 qn
    · refine thn (T.item (X.comp N sc H2.objs.size s H fp) rfl rfl rfl hc i [] s3 σ3 H3 F0 I3 (stat fr3) st3 go) fun r s4 ⟨u, hr, h4⟩ => ?_
      subst hr
      refine thn h4 fun _ s5 ⟨x, H5, I5, r5, y5, st5, fr5⟩ => ?_
      have I5' := I5.pinned (stat fr5) (T.obj _ _ st5)
      refine thn ((hg _ _ _ _).h _ s5 σ3 H5 x u _ I5' r5 (step x H5 y5)) fun _ s6 ⟨σ6, H6, I6, q6⟩ => ?_
      refine thn ((ht _ _ _ _).h _ s6 σ6 H6 _ I6 q6) fun b s7 ⟨H7, I7, q7⟩ => ?_
      have again : ∀ {acc8 : List V} {s8 : Shared} {H8 : Hp}, Inv (X.comp N sc H2.objs.size s H fp) ([] ++ pinsAt fp s5.heap) σ6 H8 s8 → NN acc8 σ6 H8 → ∃ m, m < n ∧ ∃ i acc σ' H', Inv (X.comp N sc H2.objs.size s H fp) [] σ' H' s8 ∧ tn i s8.heap ∧ (∀ b ∈ fp, H' b = none) ∧ W i m acc σ' H' := fun {acc8 s8 H8} I8 w => by
        obtain ⟨m', hm, w8⟩ := hNN _ _ _ w
        refine ⟨m', hm, i + 1, acc8, σ6, H8, I8.unpinned, T.keep _ _ _ st5 fun b hb o e => (I8.pin (b, o) (List.mem_append_right _ (List.mem_append_right _ (mem_pinsAt hb e)))).1, fun b hb => ?_, w8⟩
        obtain ⟨o, e, d⟩ := T.obj _ _ st5 b hb
        exact (I8.pin (b, o) (List.mem_append_right _ (List.mem_append_right _ (mem_pinsAt hb e)))).2.1
      cases b with
      | false => exact again I7 q7
      | true =>
        refine thn ((he _ _ _ _).h _ s7 σ6 H7 _ I7 q7) fun y s8 ⟨v, H8, I8, r8, q8⟩ => ?_
        obtain ⟨hx, hz, w8⟩ := q8
        refine thn (mt_append (X := X.comp N sc H2.objs.size s H fp) _ s8 σ6 H8 (.ref s.heap.objs.size) [v] (.ref s.heap.objs.size) [y] (fun _ H9 => H9 = upd H8 s.heap.objs.size (.lst (acc ++ [v]))) I8 rfl (.cons r8 .nil) ⟨_, acc, v, rfl, rfl, hx, hz, rfl⟩) fun _ s9 ⟨_, H9, I9, _, q9⟩ => ?_
        subst q9
        exact again I9 w8
  exact codeAny_compStart_list (loop _ rfl) (T.self _ 0 _ _ _ st0 (loop _ rfl))
theorem elc (c : Cap X sc N src) (hc : X.calm = true) (hi : JI X tg iter wi)
    (hg : ∀ C s H fp, JG (X.comp N sc C s H fp) tg g) (ht : ∀ C s H fp, JF (X.comp N sc C s H fp) ifs tt) (he : ∀ C s H fp, JE (X.comp N sc C s H fp) elt te)
    (hs : ∀ x, foldedSetIterable iter X.env x = pure x := by intro _; rfl) : JE X (.ListComp elt [⟨tg, iter, ifs, 0⟩] sc pos) (tLc X.K wi src g tt te) := ⟨by
  intro pins s σ H Q I h
  rw [eval_ListComp]
  refine wpAny_comprehension_free (use := none) rfl hs (closureFor_eq fun x hx hk => ?_) c.kind c.names ?_
  · obtain ⟨n, k⟩ := x
    cases hk
    exact I.ok.has _ (c.free hx)
  refine thn (hi.h pins s σ H _ I h) fun v s1 h1 => thn h1 fun itv s2 h2 => ?_
  obtain ⟨it, fp, tn, J, H2, e, I2, T, st2, f2, h2⟩ := h2
  subst e
  refine comp_run (R := fun acc C => compPost (model X.prog X.w) X.A X.xe none (EP X pins σ Q) acc C) (Q := Q) c hc hg ht he I2 T st2 f2 h2 fun D C s' σ' H' hC I' q => ?_
  obtain ⟨m, hn, _⟩ := id I'.loc
  refine ⟨m, hn, fun h' sb => ?_⟩
  exact ⟨.ref D, H', I2.unblock f2 hC I' fun b hb => sb.2 b hb, rfl, q⟩⟩
theorem slc {i : Nat} {y : Str} {py spos : Pos} (hN : X.N.Nodup) (hy : X.N[i]? = some y) (hx : Loc X.env.scope y) (c : Cap X sc N src) (hc : X.calm = true) (hi : JI X tg iter wi)
    (hg : ∀ C s H fp, JG (X.comp N sc C s H fp) tg g) (ht : ∀ C s H fp, JF (X.comp N sc C s H fp) ifs tt) (he : ∀ C s H fp, JE (X.comp N sc C s H fp) elt te)
    (hsw : swapsWith (.ListComp elt [⟨tg, iter, ifs, 0⟩] sc pos) (some (.Name y py)) spos.line X.env = pure true := by rfl)
    (hf : X.fn y = true ∨ X.env.scope.names.lookup y = some .local := by first | exact .inl rfl | exact .inr rfl | assumption)
    (hs : ∀ x, foldedSetIterable iter X.env x = pure x := by intro _; rfl) : JS X (.Assign [.Name y py] (.ListComp elt [⟨tg, iter, ifs, 0⟩] sc pos) spos) (tAsg (tLc X.K wi src g tt te) (gName i)) := ⟨by
  intro pins s σ H D I h
  rw [exec_Assign_Name_used _ _ _ _ hsw]
  refine wpAny_bind (wpAny_standAt (wpAny_bind ?_))
  show wpAny _ X.A (do let _ ← comprehension (.ListComp elt [⟨tg, iter, ifs, 0⟩] sc pos) sc X.env _ (newList []) false (eval iter X.env) (some (assign (.Name y py) X.env))) _ _ s
  refine wpAny_bind (wpAny_mono (wpAny_comprehension_free (use := some (assign (.Name y py) X.env)) (Q := fun _ s' => SP X pins D .next s') rfl hs (closureFor_eq fun x hx hk => ?_) c.kind c.names ?_) (fun _ s' hq => wpAny_pure (wpAny_pure hq)) fun _ _ e => e)
  · obtain ⟨n, k⟩ := x
    cases hk
    exact I.ok.has _ (c.free hx)
  refine thn (hi.h pins s σ H _ I h) fun v s1 h1 => thn h1 fun itv s2 h2 => ?_
  obtain ⟨it, fp, tn, J, H2, e, I2, T, st2, f2, h2⟩ := h2
  subst e
  refine comp_run (R := fun acc C => compPost (model X.prog X.w) X.A X.xe (some (assign (.Name y py) X.env)) (fun _ s' => SP X pins D .next s') acc C) (Q := fun v H' => D.nx (σ.set i (some v)) H') c hc hg ht he I2 T st2 f2 h2 fun L C s' σ' H' hC I' q => ?_
  obtain ⟨m, hn, _⟩ := id I'.loc
  obtain ⟨o, es, ep, ho, r⟩ := id hn
  have I3 : Inv X pins σ H' s' := I2.unblock (h' := s'.heap) f2 hC I' fun _ _ => rfl
  have cL : C ≠ X.env.locals := Nat.ne_of_gt (Nat.lt_of_lt_of_le I2.lt hC)
  have cC : ∀ x a, X.env.cells.lookup x = some a → a ≠ C := fun x a e => by
    obtain ⟨v, o, e', _⟩ := I2.cell x a e
    exact Nat.ne_of_lt (Nat.lt_of_lt_of_le (Heap.lt_size e') hC)
  have cP : ∀ p ∈ X.pn ++ pins, p.1 ≠ C := fun p hp => Nat.ne_of_lt (Nat.lt_of_lt_of_le (Heap.lt_size (I2.pin p hp).1) hC)
  have fr : H' C = none := I'.free
  have I4 : Inv X (pins ++ [(C, o)]) σ H' s' := I3.pins_of fun p hp => (List.mem_append.mp hp).elim (fun z => I3.pin p (List.mem_append_right _ z)) fun z => by
    have e : p = (C, o) := by simpa using z
    subst e
    exact ⟨ho, fr, cL, I2.nofs hC, fun v z => by
      have r1 := r
      simp_all⟩
  show wpAny (model X.prog X.w) X.A (assign (.Name y py) X.env (.ref L)) _ _ s'
  refine thn (pg_name (pos := py) hN hy hx hf _ s' σ H' (.ref L) (.ref L) (fun σ1 H1 => D.nx σ1 H1 ∧ H1 = H') I4 rfl ⟨q, rfl⟩) fun _ s5 ⟨σ5, H5, I5, q5, e5⟩ => ?_
  subst e5
  have pC := (I5.pin (C, o) (List.mem_append_right _ (List.mem_append_right _ (by simp)))).1
  refine ⟨m, ⟨o, es, ep, pC, r⟩, fun h' sb => ?_⟩
  exact ⟨σ5, H5, I5.unpinned.turned (t' := s5.toks) (fun b u hb e => (sb.2 b hb).trans e) fr cL (.inr (Nat.le_trans I2.sz hC)) cC cP, q5⟩⟩
end
end L2
namespace L2
open PySem PySem.Spec PyProof.Rows
theorem pick_nil {σ : St} : pick σ [] = [] := rfl
theorem pick_own {σ : St} {r : List (Option Nat)} : pick σ (none :: r) = none :: pick σ r := rfl
theorem pick_cap {σ : St} {j : Nat} {r : List (Option Nat)} : pick σ (some j :: r) = (σ[j]?).join :: pick σ r := rfl
theorem join_some {α : Type} {o : Option α} : (some o).join = o := rfl
section
variable {K : PySem.W.Frag} {g : TG} {tt : TT} {te : TE} {D a : Addr} {Q : Hp → Prop} {σ : St} {H : Hp} {xs : List V} {lo : Int} {n : Nat}
theorem lc_run {J : It} (Pv : Nat → List V → St → Hp → Prop) (h0 : Pv 0 [] σ H) (hgo : ∀ i acc σ H, i < n → Pv i acc σ H → J.go i H) (hst : ∀ acc σ H, Pv n acc σ H → J.stop n H)
    (hs : ∀ i acc σ H x H', i < n → Pv i acc σ H → J.yld i H x H' → g x σ H' fun σ2 H2 => tt σ2 H2 fun b H3 => if b = true then te σ2 H3 fun v H4 => H4 D = some (.lst acc) ∧ acc.length < sizeLine ∧ Pv (i + 1) (acc ++ [v]) σ2 (upd H4 D (.lst (acc ++ [v]))) else Pv (i + 1) acc σ2 H3)
    (hd : ∀ acc σ H, Pv n acc σ H → Q H) : LcLoop J g tt te D Q σ H := by
  refine ⟨fun i m acc σ H => Pv i acc σ H ∧ i ≤ n ∧ m = n - i, ⟨n, h0, Nat.zero_le _, by omega⟩, fun i m acc σ H ⟨h, hi, hm⟩ => ?_⟩
  by_cases c : i < n
  · right
    exact ⟨hgo i acc σ H c h, Pv (i + 1), fun acc' σ' H' q => ⟨n - (i + 1), by omega, q, by omega, rfl⟩, fun x H' hy => hs i acc σ H x H' c h hy⟩
  · left
    have e : i = n := by omega
    subst e
    exact ⟨hst acc σ H h, hd acc σ H h⟩
theorem lc_list (Pv : Nat → List V → St → Hp → Prop) (h0 : Pv 0 [] σ H) (hl : ∀ i acc σ H, i ≤ xs.length → Pv i acc σ H → SqL K H a xs)
    (hs : ∀ i x acc σ H, xs[i]? = some x → Pv i acc σ H → g x σ H fun σ2 H2 => tt σ2 H2 fun b H3 => if b = true then te σ2 H3 fun v H4 => H4 D = some (.lst acc) ∧ acc.length < sizeLine ∧ Pv (i + 1) (acc ++ [v]) σ2 (upd H4 D (.lst (acc ++ [v]))) else Pv (i + 1) acc σ2 H3)
    (hd : ∀ acc σ H, Pv xs.length acc σ H → Q H) : LcLoop (Itl K a) g tt te D Q σ H := by
  refine lc_run (n := xs.length) Pv h0 (fun i acc σ H hi h => ⟨xs, _, hl i acc σ H (Nat.le_of_lt hi) h, List.getElem?_eq_getElem hi⟩) (fun acc σ H h => ⟨xs, hl _ acc σ H (Nat.le_refl _) h, Nat.le_refl _⟩) (fun i acc σ H x H' hi h hy => ?_) hd
  obtain ⟨rfl, hy⟩ := hy
  exact hs i x acc σ _ (hy xs (hl i acc σ _ (Nat.le_of_lt hi) h)) h
theorem lc_tup (Pv : Nat → List V → St → Hp → Prop) (h0 : Pv 0 [] σ H) (hl : ∀ i acc σ H, i ≤ xs.length → Pv i acc σ H → SqT K H a xs)
    (hs : ∀ i x acc σ H, xs[i]? = some x → Pv i acc σ H → g x σ H fun σ2 H2 => tt σ2 H2 fun b H3 => if b = true then te σ2 H3 fun v H4 => H4 D = some (.lst acc) ∧ acc.length < sizeLine ∧ Pv (i + 1) (acc ++ [v]) σ2 (upd H4 D (.lst (acc ++ [v]))) else Pv (i + 1) acc σ2 H3)
    (hd : ∀ acc σ H, Pv xs.length acc σ H → Q H) : LcLoop (Itt K a) g tt te D Q σ H := by
  refine lc_run (n := xs.length) Pv h0 (fun i acc σ H hi h => ⟨xs, _, hl i acc σ H (Nat.le_of_lt hi) h, List.getElem?_eq_getElem hi⟩) (fun acc σ H h => ⟨xs, hl _ acc σ H (Nat.le_refl _) h, Nat.le_refl _⟩) (fun i acc σ H x H' hi h hy => ?_) hd
  obtain ⟨rfl, hy⟩ := hy
  exact hs i x acc σ _ (hy xs (hl i acc σ _ (Nat.le_of_lt hi) h)) h
theorem tLc_list {tl : TE} {src : List (Option Nat)} {Q : VK} : tLc K (iList K tl) src g tt te σ H Q = tl σ H (fun x H1 => ∃ a, x = .ref a ∧ (∃ xs, SqL K H1 a xs) ∧ ∀ D, L2.new K H1 D → LcLoop (Itl K a) g tt te D (fun H' => Q (.ref D) H') (pick σ src) (upd H1 D (.lst []))) := rfl
theorem tLc_tup {tl : TE} {src : List (Option Nat)} {Q : VK} : tLc K (iTup K tl) src g tt te σ H Q = tl σ H (fun x H1 => ∃ a, x = .ref a ∧ (∃ xs, SqT K H1 a xs) ∧ ∀ D, L2.new K H1 D → LcLoop (Itt K a) g tt te D (fun H' => Q (.ref D) H') (pick σ src) (upd H1 D (.lst []))) := rfl
end
end L2
namespace L2
open PySem PySem.Spec PyProof.Rows
section
variable {X : Cx} {es : List Expr} {t : TA} {pos : Pos} (K : PySem.W.Frag)
theorem ix_QK (hk : X.K = K := by rfl) : IxR X (rIxQ K) := by subst hk; exact ix_Q
theorem etupQK {k} (h : JA X es t) (hk : X.K = K := by rfl) : JE X (.Tuple es k pos) (tTupQ K t) := by subst hk; exact etupQ h
theorem elstQK (h : JA X es t) (hk : X.K = K := by rfl) : JE X (.List es pos) (tLstQ K t) := by subst hk; exact elstQ h
theorem op_catQK (hk : X.K = K := by rfl) : OpR X (binaryOp .Add) (rCatQ K) := by subst hk; exact op_catQ
theorem op_notInQK (hk : X.K = K := by rfl) : OpR X (compareOp .NotIn) (rInQ K true) := by subst hk; exact op_notInQ
end
end L2
namespace L2
open PySem PySem.Spec PyProof.Rows
section
variable {X : Cx} {pins : List (Addr × Obj)} {σ : St} {H : Hp} {s : Shared}
theorem Inv.notMod (I : Inv X pins σ H s) {a : Addr} {o : HO} (h : H a = some o) : kTup X.K a = none := by
  cases e : kTup X.K a with
  | none => rfl
  | some xs =>
    obtain ⟨ob, q⟩ := kTup_look e
    rw [(I.bs a ob (I.ok.mod.kin a ob q)).2] at h
    cases h
end
theorem Kp2.kp {K : PySem.W.Frag} {p D : Addr} {H H' : Hp} {o : HO} (k : Kp2 K p D (upd H D o) H') (n : L2.new K H D) : Kp K p H H' := by
  refine ⟨fun q u e m => ?_, fun b ys e m => k.mod b ys ((Ext.new n).mod b ys e m) m⟩
  have d : q ≠ D := ne_of_none e n.1
  exact k.keep q u (by rw [upd_ne d]; exact e) m d
theorem Kp2.refl {K : PySem.W.Frag} {p D : Addr} {H : Hp} : Kp2 K p D H H := ⟨fun _ _ h _ _ => h, fun _ _ h _ => h⟩
end L2
set_option Elab.async false
set_option linter.all false
set_option maxRecDepth 100000
namespace L2
open PySem PySem.Spec PyProof.Rows
def gk {α : Type} (n m : Nat) (us ws : List α) : List α := if us.length = n ∧ ws.length = m then us ++ ws else []
structure JK (X : Cx) (kws : List Keyword) (t : TA) : Prop where h : PK X kws t
structure CalleeK (P : Program) (w : World) (K : PySem.W.Frag) (mg : Str → Option Value) (base : Heap) (x : Str) (k : Nat) (ps : List Str) (ks : List Str) (n m : Nat) (sp : Sp) : Prop where
  ex : ∃ (f : Addr) (fd : FuncData), FnOk P w K mg base CX0 k f fd ps sp ∧ KBinds K fd ps ks (gk n m) (gk n m) ∧ PySem.W.keepIn K (.ref f) = true ∧ mg x = some (.ref f)
structure CalleeD (P : Program) (w : World) (K : PySem.W.Frag) (mg : Str → Option Value) (base : Heap) (x : Str) (k : Nat) (ps : List Str) (dvs : List V) (sp : Sp) : Prop where
  ex : ∃ (f : Addr) (fd : FuncData) (ds : List Value), FnOk P w K mg base CX0 k f fd ps sp ∧ Binds K fd ps ds ∧ Vals dvs ds ∧ PySem.W.keepIn K (.ref f) = true ∧ mg x = some (.ref f)
section
variable {X : Cx} {x : Str} {k n m : Nat} {ps ks : List Str} {dvs : List V} {sp : Sp} {e : Expr} {es : List Expr} {kws : List Keyword} {t tk : TA} {te : TE} {p pos kpos : Pos} {nm : Option Str}
end
end L2
namespace L2
open PySem PySem.Spec PyProof.Rows
end L2
namespace L2
open PySem PySem.Spec PyProof.Rows
section
variable {K : PySem.W.Frag} {s : Shared} {fd : FuncData} {args : Args} {binds : List (Str × Value)} {d : Addr} {name : Str} {v cls : Value} {es : Array DictEntry} {ep : Nat} {od : Option Addr} {sl : Array (Option Value)} {α β : Type}
end
end L2
set_option Elab.async false
set_option linter.all false
set_option maxRecDepth 100000
namespace L2
open PySem PySem.Spec PyProof.Rows
section
variable {X : Cx} {o lo hi e : Expr} {to tl th te : TE} {p pos : Pos}
end
end L2
namespace L2
open PySem PySem.Spec PyProof.Rows
section
variable {X : Cx}
def rSlTQ (K : PySem.W.Frag) : V → Option Int → Option Int → Hp → VK → Prop := fun x lo hi H Q => ∃ a xs, x = .ref a ∧ tupQ K H a = some xs ∧
  ¬ (HT.sIx xs.length 0 lo = 0 ∧ HT.sIx xs.length xs.length hi = xs.length) ∧ ∀ p, L2.new K H p → Q (.ref p) (upd H p (.tup (cutV xs lo hi)))
theorem sl_tupQ : SlR X (rSlTQ X.K) := by
  intro pins s σ H x v vl vu lo hi sl Q I rx hs pl pu h
  obtain ⟨a, xs, rfl, hx, hw, q⟩ := h
  obtain ⟨T, id, h1, h2, h3⟩ := sl_tup pins s σ H (.ref a) v vl vu lo hi sl (fun v' H' => ∃ l, H l = none ∧ v' = .ref l ∧ H' = upd H l (.tup (cutV xs lo hi))) I rx hs pl pu ⟨a, xs, rfl, tupQ_sq hx, hw, fun l hl => ⟨l, hl, rfl, rfl⟩⟩
  refine ⟨T, id, h1, h2, thn h3 fun u s' ⟨v', H', I', rv, l, hl, e1, e2⟩ => ?_⟩
  subst e1 e2
  exact ⟨_, _, I', rv, q l ⟨hl, I'.notMod upd_same⟩⟩
end
end L2
set_option Elab.async false
set_option linter.all false
set_option maxRecDepth 100000
namespace L2
open PySem PySem.Spec PyProof.Rows
abbrev TBd := List V → St → Hp → (List V → St → Hp → Prop) → Prop
section
variable {elt tg iter tg1 iter1 : Expr} {ifs ifs1 : List Expr} {scope : Scope} {pos : Pos} {it acc : Value} {env : Env}
variable {prog : Program} {w : World} {A : Around} {R : Result → Shared → Prop} {s : Shared}
end
section
variable {Y : Cx} {elt tg iter tg1 iter1 : Expr} {ifs ifs1 : List Expr} {scope : Scope} {pos : Pos} {g : TG} {tt : TT} {te : TE}
end
section
variable {X : Cx} {sc : Scope} {N : List Str} {src : List (Option Nat)} {tg iter tg1 iter1 elt : Expr} {ifs ifs1 : List Expr} {wi wi1 : TI} {g g1 : TG} {tt tt1 : TT} {te : TE} {pos : Pos}
end
section
variable {K : PySem.W.Frag} {g : TG} {tt : TT} {body : TBd} {a : Addr} {acc0 : List V} {F : List V → St → Hp → Prop} {σ : St} {H : Hp} {xs : List V} {n : Nat}
end
end L2
set_option Elab.async false
set_option linter.all false
set_option maxRecDepth 100000
namespace L2
open PySem PySem.Spec PyProof.Rows
theorem vals_at {xs : List V} {us : List Value} (h : Vals xs us) : ∀ {i : Nat} {u : Value}, us[i]? = some u → ∃ x, xs[i]? = some x ∧ RelV x u := by
  induction h with
  | nil => intro i u e; simp at e
  | cons r rr ih =>
    intro i u e
    cases i with
    | zero => simp only [List.getElem?_cons_zero, Option.some.injEq] at e ⊢; exact ⟨_, rfl, e ▸ r⟩
    | succ i => simp only [List.getElem?_cons_succ] at e ⊢; exact ih e
section
variable {X : Cx}
end
section
variable {P : Program} {w : World} {A : Around} {E : Value → Shared → Prop} {s : Shared} {b0 : Array Keyed}
end
section
variable {X : Cx}
end
end L2
set_option Elab.async false
set_option linter.all false
set_option maxRecDepth 100000
namespace L2
open PySem PySem.Spec PyProof.Rows
def Rise (xs : Array Nat) : Prop := xs.toList.Pairwise (· < ·)
structure TabOk (t : SetTable) : Prop where
  bare : t.dummies = #[]
  rise : Rise t.place
section
variable {xs : Array Nat} {j : Nat}
theorem Rise.lt (h : Rise xs) {i k : Nat} (ik : i < k) (hk : k < xs.size) : xs.getD i j < xs.getD k j := by
  have hi : i < xs.size := Nat.lt_trans ik hk
  rw [Array.getD_eq_getD_getElem?, Array.getD_eq_getD_getElem?, Array.getElem?_eq_getElem hi, Array.getElem?_eq_getElem hk]
  have q := List.pairwise_iff_getElem.mp h i k (by simpa using hi) (by simpa using hk) ik
  simpa using q
theorem low_lt (h : Rise xs) {m : Nat} (hm : xs.getD m j < j) {i : Nat} (hi : i ≤ m) : xs.getD i j < j := by
  by_cases c : m < xs.size
  · by_cases e : i = m
    · rw [e]; exact hm
    · have := h.lt (j := j) (show i < m by omega) c
      omega
  · rw [Array.getD_eq_getD_getElem?, Array.getElem?_eq_none (by omega)] at hm
    exact absurd hm (Nat.lt_irrefl _)
theorem high_ge (h : Rise xs) {m : Nat} (hm : ¬ xs.getD m j < j) {i : Nat} (hi : m ≤ i) : ¬ xs.getD i j < j := fun c => hm (low_lt h c hi)
theorem below_go (h : Rise xs) : ∀ fuel lo hi, lo ≤ hi → hi ≤ xs.size → hi - lo ≤ fuel → (∀ i, i < lo → xs.getD i j < j) → (∀ i, hi ≤ i → ¬ xs.getD i j < j) →
    SetTable.below.go xs j fuel lo hi ≤ xs.size ∧ (∀ i, i < SetTable.below.go xs j fuel lo hi → xs.getD i j < j) ∧ ∀ i, SetTable.below.go xs j fuel lo hi ≤ i → ¬ xs.getD i j < j
  | 0, lo, hi, h1, h2, h3, h4, h5 => by
    have e : lo = hi := by omega
    unfold SetTable.below.go
    exact ⟨by omega, h4, fun i hi' => h5 i (by omega)⟩
  | fuel + 1, lo, hi, h1, h2, h3, h4, h5 => by
    unfold SetTable.below.go
    by_cases c : lo < hi
    · rw [if_pos c]
      dsimp only
      by_cases d : xs.getD ((lo + hi) / 2) j < j
      · rw [if_pos d]
        exact below_go h fuel _ _ (by omega) h2 (by omega) (fun i hi' => low_lt h d (by omega)) h5
      · rw [if_neg d]
        exact below_go h fuel _ _ (by omega) (by omega) (by omega) h4 (fun i hi' => high_ge h d hi')
    · rw [if_neg c]
      exact ⟨by omega, h4, fun i hi' => h5 i (by omega)⟩
theorem below_spec (h : Rise xs) (j : Nat) : SetTable.below xs j ≤ xs.size ∧ (∀ i, i < SetTable.below xs j → xs.getD i j < j) ∧ ∀ i, SetTable.below xs j ≤ i → ¬ xs.getD i j < j := by
  unfold SetTable.below
  refine below_go h _ _ _ (Nat.zero_le _) (Nat.le_refl _) (by omega) (fun i hi => absurd hi (Nat.not_lt_zero _)) (fun i hi => ?_)
  rw [Array.getD_eq_getD_getElem?, Array.getElem?_eq_none hi]
  exact Nat.lt_irrefl _
theorem Rise.insert (h : Rise xs) {j : Nat} (free : xs[SetTable.below xs j]? ≠ some j) : Rise (SetTable.insertAt xs (SetTable.below xs j) j) := by
  obtain ⟨b1, b2, b3⟩ := below_spec h j
  generalize SetTable.below xs j = p at *
  have at_ : ∀ i (hi : i < xs.size), xs.getD i j = xs.toList[i]'(by simpa using hi) := fun i hi => by
    rw [Array.getD_eq_getD_getElem?, Array.getElem?_eq_getElem hi]; simp
  unfold Rise SetTable.insertAt
  rw [Array.toList_append, Array.toList_push, Array.toList_extract, Array.toList_extract]
  simp only [List.extract_eq_drop_take, Nat.sub_zero, List.drop_zero]
  have e1 : List.take (xs.size - p) (List.drop p xs.toList) = xs.toList.drop p := List.take_of_length_le (by rw [List.length_drop]; simp)
  rw [e1, List.append_assoc]
  refine List.pairwise_append.mpr ⟨h.sublist (List.take_sublist _ _), ?_, ?_⟩
  · refine List.pairwise_append.mpr ⟨List.pairwise_singleton _ _, h.sublist (List.drop_sublist _ _), fun a ha c hc => ?_⟩
    have ea : a = j := by simpa using ha
    subst ea
    obtain ⟨i, hi, rfl⟩ := List.mem_iff_getElem.mp hc
    rw [List.length_drop] at hi
    rw [List.getElem_drop]
    have hlt : p + i < xs.size := by simp at hi; omega
    have q := b3 (p + i) (by omega)
    rw [at_ _ hlt] at q
    by_cases z : i = 0
    · subst z
      have ne : xs.toList[p + 0]'(by simpa using hlt) ≠ a := fun e => free (by
        rw [Array.getElem?_eq_getElem (by simpa using hlt)]
        simpa using e)
      omega
    · have hp : p < xs.size := by omega
      have q0 := b3 p (Nat.le_refl _)
      have q1 := h.lt (j := a) (show p < p + i by omega) hlt
      rw [at_ _ hlt] at q1
      omega
  · intro a ha c hc
    obtain ⟨i, hi, rfl⟩ := List.mem_iff_getElem.mp ha
    rw [List.length_take] at hi
    rw [List.getElem_take]
    have hlt : i < xs.size := by simp at hi; omega
    have qa := b2 i (by omega)
    rw [at_ _ hlt] at qa
    rcases List.mem_append.mp hc with z | z
    · have e : c = j := by simpa using z
      rw [e]; exact qa
    · obtain ⟨k, hk, rfl⟩ := List.mem_iff_getElem.mp z
      rw [List.length_drop] at hk
      rw [List.getElem_drop]
      exact List.pairwise_iff_getElem.mp h i (p + k) _ _ (by omega)
end
theorem has_none (j : Nat) : SetTable.has #[] j = false := by simp [SetTable.has]
theorem TabOk.slot {t : SetTable} (h : TabOk t) {j : Nat} (e : t.slot j = .empty) : t.place[SetTable.below t.place j]? ≠ some j := by
  intro c
  unfold SetTable.slot at e
  simp only [c, beq_self_eq_true, if_true] at e
  cases e
theorem probe_free {t : SetTable} (h : TabOk t) {f : Nat → Int} {x : Int} : ∀ (fuel : Nat) (p : SetTable.Probe) {j : Nat} {d : Option Nat}, p.dummy = none → SetTable.probe.go t f x fuel p = some (.empty j d) → d = none ∧ t.slot j = .empty
  | 0, p, j, d, hp, e => by unfold SetTable.probe.go at e; cases e
  | fuel + 1, p, j, d, hp, e => by
    unfold SetTable.probe.go at e
    have adv : (t.advance p).dummy = none := by unfold SetTable.advance; split <;> exact hp
    cases c : t.slot p.j with
    | empty =>
      rw [c] at e
      dsimp only at e
      cases e
      exact ⟨hp, c⟩
    | dummy =>
      exfalso
      unfold SetTable.slot at c
      dsimp only at c
      split at c
      · cases c
      · rw [h.bare, has_none] at c
        simp at c
    | live i =>
      rw [c] at e
      dsimp only at e
      split at e
      · cases e
      · exact probe_free h fuel _ adv e
theorem TabOk.standIn {t : SetTable} (n : Nat) : TabOk (t.standIn n) := ⟨rfl, by
  show (Array.range n).toList.Pairwise (· < ·)
  rw [Array.toList_range]
  exact List.pairwise_lt_range⟩
theorem TabOk.orStandIn {t : SetTable} (h : TabOk t) (n : Nat) : TabOk (t.orStandIn n) := by
  unfold SetTable.orStandIn
  split
  · exact h
  · exact .standIn n
theorem TabOk.put {t : SetTable} (h : TabOk t) {j : Nat} (e : t.slot j = .empty) : TabOk (t.put j).1 := ⟨by
  show (if SetTable.has t.dummies j then _ else t.dummies) = #[]
  rw [h.bare, has_none]
  rfl, h.rise.insert (h.slot e)⟩
theorem layNew_tab {t : SetTable} (h : TabOk t) (es : Array (Int × Value)) (hv : Int) (x : Value) : TabOk (layNew t es hv x).2.1 ∧ (layNew t es hv x).2.1.led = t.led := by
  unfold layNew
  cases c : t.freeSlot hv with
  | none => exact ⟨.standIn _, rfl⟩
  | some q =>
    obtain ⟨sl, wd⟩ := q
    have free : t.slot sl = .empty := by
      unfold SetTable.freeSlot at c
      split at c
      · next j d e =>
        unfold SetTable.probe at e
        obtain ⟨rfl, z⟩ := probe_free h _ _ rfl e
        simp only [Option.getD_none, Option.isSome_none, Option.some.injEq, Prod.mk.injEq] at c
        rw [← c.1]; exact z
      · cases c
    dsimp only
    refine ⟨(h.put free).orStandIn _, ?_⟩
    unfold SetTable.orStandIn
    split
    · rfl
    · rfl
theorem laid_rise (f : Nat → Option Nat) : ∀ l : List Nat, l.Pairwise (· < ·) → ((l.filterMap fun j => (f j).map (j, ·)).map (·.1)).Pairwise (· < ·) ∧ ∀ a ∈ (l.filterMap fun j => (f j).map (j, ·)).map (·.1), a ∈ l
  | [], _ => ⟨List.Pairwise.nil, fun a h => nomatch h⟩
  | j :: l, h => by
    obtain ⟨i1, i2⟩ := laid_rise f l (List.pairwise_cons.mp h).2
    cases c : f j with
    | none =>
      rw [List.filterMap_cons_none (by rw [c]; rfl)]
      exact ⟨i1, fun a ha => List.mem_cons_of_mem _ (i2 a ha)⟩
    | some k =>
      rw [List.filterMap_cons_some (b := (j, k)) (by rw [c]; rfl)]
      refine ⟨List.pairwise_cons.mpr ⟨fun a ha => (List.pairwise_cons.mp h).1 a (i2 a ha), i1⟩, fun a ha => ?_⟩
      rcases List.mem_cons.mp ha with z | z
      · exact z ▸ List.mem_cons_self
      · exact List.mem_cons_of_mem _ (i2 a z)
theorem relayAll_tab {t : SetTable} (es : Array (Int × Value)) (n : Nat) : TabOk (relayAll t es n).2.1 ∧ (relayAll t es n).2.1.led = t.led := by
  unfold relayAll
  cases c : t.relaid (es.map (·.1)) n with
  | none => exact ⟨.standIn _, rfl⟩
  | some q =>
    obtain ⟨t', order⟩ := q
    dsimp only
    split
    · unfold SetTable.relaid SetTable.laid at c
      cases d : SetTable.layClean (SetTable.sizeAbove n - 1) (es.map (·.1)) with
      | none => rw [d] at c; cases c
      | some owner =>
        rw [d] at c
        simp only [Option.bind_eq_bind, Option.bind_some, Option.pure_def, Option.some.injEq, Prod.mk.injEq] at c
        rw [← c.1]
        refine ⟨⟨rfl, ?_⟩, rfl⟩
        exact (laid_rise (fun j => owner.getD j none) _ List.pairwise_lt_range).1
    · exact ⟨.standIn _, rfl⟩
def ksOf (es : Array (Int × Value)) : List Int := es.toList.map fun e => numOf e.2
structure SetAt (P : Program) (w : World) (h : Heap) (a : Addr) (L : Bool) (M : Int → Prop) (n : Nat) (es : Array (Int × Value)) (ep : Nat) (t : SetTable) : Prop where
  at_ : ∃ o, h.get? a = some o ∧ o.ExactSet ∧ o.data = .set es ep t
  elems : ElemsOf (intKind P w) es.toList
  nd : (ksOf es).Nodup
  mem : ∀ k, k ∈ ksOf es ↔ M k
  len : es.size ≤ n
  fits : t.fits es.size = true
  tab : TabOk t
  led : t.led = L
def SetI (P : Program) (w : World) (h : Heap) (a : Addr) (L : Bool) (M : Int → Prop) (n : Nat) : Prop := ∃ es ep t, SetAt P w h a L M n es ep t
section
variable {P : Program} {w : World} {A : Around} {E : Value → Shared → Prop} {s : Shared}
theorem SetI.keep {h h' : Heap} {a : Addr} {L : Bool} {M : Int → Prop} {n : Nat} (q : SetI P w h a L M n) (k : ∀ o, h.get? a = some o → h'.get? a = some o) : SetI P w h' a L M n := by
  obtain ⟨es, ep, t, x⟩ := q
  obtain ⟨o, h1, h2⟩ := x.at_
  exact ⟨es, ep, t, ⟨⟨o, k o h1, h2⟩, x.elems, x.nd, x.mem, x.len, x.fits, x.tab, x.led⟩⟩
theorem is_num {k : Int} {v : Value} (h : (intKind P w).is k v = true) : numOf v = k ∧ ∃ t, v = .int k t := by
  obtain ⟨t, rfl⟩ := Value.isInt_shape h
  exact ⟨rfl, t, rfl⟩
theorem set_stored {h : Heap} {a : Addr} {o : Obj} {es0 es : Array (Int × Value)} {ep : Nat} {t0 t : SetTable} (ho : h.get? a = some o) (hx : o.ExactSet) (hd : o.data = .set es0 ep t0) :
    ∃ o', (h.update a (Obj.putSet es t)).get? a = some o' ∧ o'.ExactSet ∧ o'.data = .set es (ep + 1) t := by
  refine ⟨{ o with data := .set es (ep + 1) t }, ?_, hx, rfl⟩
  have g := Heap.get?_update_self (Obj.putSet es t) ho (by rw [putSet_of es t hd]; rfl)
  rwa [putSet_of es t hd] at g
theorem add_end {g : Bool → Sem Unit} (hg : ∀ (b : Bool) (s1 : Shared) (R : Unit → Shared → Prop), R () s1 → wpAny (model P w) A (g b) R E s1) {a : Addr} {o : Obj} {es0 es : Array (Int × Value)} {ep : Nat} {t0 t : SetTable} {L : Bool} {M : Int → Prop} {n : Nat} {wd : Bool} {R : Option Bool → Shared → Prop}
    (ho : s.heap.get? a = some o) (hx : o.ExactSet) (hd : o.data = .set es0 ep t0) (h1 : ElemsOf (intKind P w) es.toList) (h2 : (ksOf es).Nodup) (h3 : ∀ k, k ∈ ksOf es ↔ M k) (h4 : es.size ≤ n) (h5 : t.fits es.size = true) (h6 : TabOk t) (h7 : t.led = L) (hn : n < scanBound)
    (q : ∀ h', Heap.SameBut a s.heap h' → SetI P w h' a L M n → R (some true) { s with heap := h' }) :
    wpAny (model P w) A (do
      storeSet a es t
      if (!wd && t.tooFull) = true then do
        g (relayAll t es (SetTable.grown es.size)).2.2
        storeSet a (relayAll t es (SetTable.grown es.size)).1 (relayAll t es (SetTable.grown es.size)).2.1
        pure (some true)
      else pure (some true)) R E s := by
  refine wpAny_bind (wpAny_storeSet_of ho hd ?_ (fits_of_scanBound (Nat.lt_of_le_of_lt h4 hn)))
  obtain ⟨o1, g1, x1, d1⟩ := set_stored (es := es) (t := t) ho hx hd
  have sb := Heap.SameBut.update s.heap a (Obj.putSet es t)
  split
  · have pm := relayAll_perm t es (SetTable.grown es.size)
    have ft := relayAll_fits t es (SetTable.grown es.size)
    obtain ⟨tb, ld⟩ := relayAll_tab (t := t) es (SetTable.grown es.size)
    generalize relayAll t es (SetTable.grown es.size) = W at pm ft tb ld ⊢
    have kp : (ksOf W.1).Perm (ksOf es) := pm.map _
    have sz : W.1.size = es.size := by rw [← Array.length_toList, pm.length_eq, Array.length_toList]
    refine wpAny_bind (hg _ _ _ ?_)
    refine wpAny_bind (wpAny_storeSet_of g1 d1 ?_ (fits_of_scanBound (by omega)))
    obtain ⟨o2, g2, x2, d2⟩ := set_stored (es := W.1) (t := W.2.1) g1 x1 d1
    exact wpAny_pure (q _ (sb.trans (Heap.SameBut.update _ a _)) ⟨W.1, _, W.2.1, ⟨⟨o2, g2, x2, d2⟩, h1.perm pm, kp.nodup_iff.mpr h2, fun k => kp.mem_iff.trans (h3 k), by omega, ft, tb, ld.trans h7⟩⟩)
  · exact wpAny_pure (q _ sb ⟨es, _, t, ⟨⟨o1, g1, x1, d1⟩, h1, h2, h3, h4, h5, h6, h7⟩⟩)
theorem add_int {a : Addr} {L : Bool} {M : Int → Prop} {n : Nat} {k : Int} {tk : Tok} {R : Bool → Shared → Prop} (h : SetI P w s.heap a L M n) (hn : n + 1 < scanBound)
    (q : ∀ h' b, Heap.SameBut a s.heap h' → SetI P w h' a L (fun j => M j ∨ j = k) (n + 1) → R b { s with heap := h' }) : wpAny (model P w) A (setAddHashed a (.int k tk) (hashInt k)) R E s := by
  obtain ⟨es, ep, t, x⟩ := h
  obtain ⟨o, ho, hx, hd⟩ := x.at_
  have lt : es.size < scanBound := Nat.lt_of_le_of_lt x.len (by omega)
  unfold setAddHashed setAddHashedIn
  refine wpAny_holding (wpAny_bind (wpAny_setState_of ho hd x.fits ?_))
  dsimp only
  rw [byScan_of (knd := intKind P w) (x := .int k tk) rfl lt x.elems]
  simp only [↓reduceIte]
  unfold setAddByScan
  refine wpAny_bind (wpAny_bind (wpAny_rule (wpAny_bind (wpAny_setScan_of (intKind_is P w k tk) ho hd x.fits x.elems ?_))))
  cases c : es.toList.findIdx? (fun e => (intKind P w).is k e.2) with
  | some i =>
    obtain ⟨hi, p, _⟩ := List.findIdx?_eq_some_iff_getElem.mp c
    have there : M k := (x.mem k).mp (List.mem_map.mpr ⟨_, List.getElem_mem hi, (is_num p).1⟩)
    exact wpAny_pure (wpAny_pure (q s.heap false (Heap.SameBut.refl a s.heap) ⟨es, ep, t, ⟨⟨o, ho, hx, hd⟩, x.elems, x.nd, fun j => (x.mem j).trans ⟨.inl, fun z => z.elim id fun e => e ▸ there⟩, Nat.le_succ_of_le x.len, x.fits, x.tab, x.led⟩⟩))
  | none =>
    have fresh : k ∉ ksOf es := fun m => by
      obtain ⟨e, he, ek⟩ := List.mem_map.mp m
      have no := List.findIdx?_eq_none_iff.mp c e he
      obtain ⟨⟨k', hk', _⟩, _⟩ := x.elems e he
      rw [(is_num hk').1] at ek
      subst ek
      rw [hk'] at no
      cases no
    have giving : ∀ (b : Bool) {s1 : Shared} {R' : Unit → Shared → Prop}, R' () s1 → wpAny (model P w) A (match b with | true => rule "set.scan.the-table-gave-way" | false => pure ()) R' E s1 := fun b {s1 R'} z => by
      cases b with
      | true => exact wpAny_rule z
      | false => exact wpAny_pure z
    have pm := layNew_perm t es (hashInt k) (.int k tk)
    have ft := layNew_fits t es (hashInt k) (.int k tk)
    obtain ⟨tb, ld⟩ := layNew_tab x.tab es (hashInt k) (.int k tk)
    dsimp only
    generalize layNew t es (hashInt k) (.int k tk) = W at pm ft tb ld ⊢
    obtain ⟨es1, t1, wd, gv⟩ := W
    dsimp only at pm ft tb ld ⊢
    rw [Array.toList_push] at pm
    have e1 : ElemsOf (intKind P w) es1.toList := (x.elems.push (intKind_is P w k tk) rfl).perm pm
    have kp : (ksOf es1).Perm (ksOf es ++ [k]) := by
      have z := pm.map fun e => numOf e.2
      rwa [List.map_append] at z
    have n1 : (ksOf es1).Nodup := kp.nodup_iff.mpr (List.nodup_append.mpr ⟨x.nd, by simp, fun a ha b hb => by
      have e : b = k := by simpa using hb
      subst e
      exact fun z => fresh (z ▸ ha)⟩)
    have m1 : ∀ j, j ∈ ksOf es1 ↔ (M j ∨ j = k) := fun j => by
      rw [kp.mem_iff, List.mem_append, x.mem j]
      simp
    have s1 : es1.size ≤ n + 1 := by
      rw [← Array.length_toList, pm.length_eq, List.length_append, Array.length_toList]
      exact Nat.succ_le_succ x.len
    refine wpAny_bind (giving _ ?_)
    have led1 : t1.led = L := ld.trans x.led
    split
    · refine wpAny_bind ?_
      rw [hashByValue_scannable 8 (x := .int k tk) rfl]
      refine wpAny_pure ?_
      refine add_end ?_ ho hx hd e1 n1 m1 s1 ft tb led1 hn fun h' z1 z2 => ?_
      · intro b s2 R' z
        exact giving b z
      · exact wpAny_pure (q h' true z1 z2)
    · refine wpAny_bind (wpAny_pure ?_)
      refine add_end ?_ ho hx hd e1 n1 m1 s1 ft tb led1 hn fun h' z1 z2 => ?_
      · intro b s2 R' z
        exact giving b z
      · exact wpAny_pure (q h' true z1 z2)
end
theorem SetI.to {P : Program} {w : World} {h : Heap} {a : Addr} {L : Bool} {M M' : Int → Prop} {n n' : Nat} (q : SetI P w h a L M n) (e : ∀ k, M k ↔ M' k) (le : n ≤ n') : SetI P w h a L M' n' := by
  obtain ⟨es, ep, t, x⟩ := q
  exact ⟨es, ep, t, ⟨x.at_, x.elems, x.nd, fun k => (x.mem k).trans (e k), Nat.le_trans x.len le, x.fits, x.tab, x.led⟩⟩
section
variable {P : Program} {w : World} {A : Around} {R : Result → Shared → Prop} {I S : Addr} {fp wr : List Addr} {G : Array GenState → Array GenState → Prop} {n : Nat} {Pv : Nat → Value → Prop} {St : Nat → Shared → Prop} {L : Bool}
end
section
variable {P : Program} {w : World} {A : Around} {E : Value → Shared → Prop} {s : Shared}
end
end L2
set_option Elab.async false
set_option linter.all false
set_option maxRecDepth 100000
namespace L2
open PySem PySem.Spec PyProof.Rows
def SObj (h : Heap) (S : Addr) (es : Array (Int × Value)) (ep : Nat) (t : SetTable) : Prop := ∃ o, h.get? S = some o ∧ o.data = .set es ep t
section
variable {P : Program} {w : World} {A : Around} {E : Value → Shared → Prop} {s : Shared} {it S : Addr} {es : Array (Int × Value)} {ep i n : Nat} {t : SetTable} {R : Option Value → Shared → Prop}
end
section
variable {P : Program} {w : World} {A : Around} {it S T : Addr} {es : Array (Int × Value)} {ep : Nat} {t : SetTable}
theorem SObj.keep {h h' : Heap} (x : SObj h S es ep t) (k : ∀ o, h.get? S = some o → h'.get? S = some o) : SObj h' S es ep t := by
  obtain ⟨o, g, d⟩ := x
  exact ⟨o, k o g, d⟩
end
structure SetWalk (P : Program) (w : World) (A : Around) (s s' : Shared) (S it : Addr) (fp : List Addr) (vals : Array Value) (St : Nat → Heap → Prop) : Prop where
  walk : Walks P w A it fp [it] vals.size (fun i v => vals[i]? = some v) St
  st : St 0 s'.heap
  below : ∀ b ∈ fp, b < s'.heap.objs.size
  new : ∀ b ∈ fp, b = S ∨ s.heap.objs.size ≤ b
  old : s.heap.objs.size ≤ it
  gens : s'.gens = s.gens
  os : s'.os = s.os
  keep : ∀ b o, s.heap.get? b = some o → s'.heap.get? b = some o
section
variable {P : Program} {w : World} {A : Around} {E : Value → Shared → Prop} {s : Shared} {S : Addr} {L : Bool} {M : Int → Prop} {n : Nat} {es : Array (Int × Value)} {ep : Nat} {t : SetTable}
end
end L2
set_option Elab.async false
set_option linter.all false
set_option maxRecDepth 100000
namespace L2
open PySem PySem.Spec PyProof.Rows
section
variable {P : Program} {w : World} {A : Around} {E : Value → Shared → Prop} {s : Shared} {S : Addr} {M : Int → Prop} {n : Nat}
end
section
variable {X : Cx} {pins : List (Addr × Obj)} {σ : St} {H : Hp} {s : Shared}
end
end L2
set_option Elab.async false
set_option linter.all false
set_option maxRecDepth 100000
namespace L2
open PySem PySem.Spec PyProof.Rows
section
variable {X : Cx}
theorem call_tuple_ofQ : CallR X (.type "tuple") (fun xs H Q => ∃ (p : Addr) (ys : List V), xs = [.ref p] ∧ H p = some (.lst ys) ∧ ∀ l, L2.new X.K H l → Q (.ref l) (upd H l (.tup ys))) := by
  intro pins s σ H xs us Q I r h
  obtain ⟨p, ys, e, hq, q⟩ := h
  refine thn (call_tuple_of pins s σ H xs us (fun v H' => ∃ l, H l = none ∧ v = .ref l ∧ H' = upd H l (.tup ys)) I r ⟨p, ys, e, .inl ⟨SqL.of hq, fun l hl => ⟨l, hl, rfl, rfl⟩⟩⟩) fun u s' ⟨v, H', I', rv, l, hl, e1, e2⟩ => ?_
  subst e1 e2
  exact ⟨_, _, I', rv, q l ⟨hl, I'.notMod upd_same⟩⟩
end
section
variable {K : PySem.W.Frag} {g : TG} {tt : TT} {te : TE} {D a : Addr} {Q : Hp → Prop} {σ : St} {H : Hp} {xs : List V}
end
section
variable {X : Cx}
end
end L2
set_option Elab.async false
set_option linter.all false
set_option maxRecDepth 100000
namespace L2
open PySem PySem.Spec PyProof.Rows
section
variable {X : Cx}
end
section
variable {K : PySem.W.Frag} {ta : TA} {g : TG} {tb : TS} {D : Ends} {σ : St} {H : Hp} {a b : Addr} {xs ys : List V}
end
section
variable {X : Cx}
end
mutual
def wt : PyData → Nat
  | .none => 1
  | .bool _ => 1
  | .int _ => 1
  | .str _ => 1
  | .list ds => wtAll ds + 1
  | .tuple ds => wtAll ds + 1
  | .dict _ => 1
def wtAll : List PyData → Nat
  | [] => 0
  | d :: ds => wt d + wtAll ds
end
mutual
def bare : PyData → Bool
  | .none => true
  | .int i => decide (i.natAbs.log2 < 1920)
  | .list ds => bareAll ds
  | .tuple ds => bareAll ds
  | _ => false
def bareAll : List PyData → Bool
  | [] => true
  | d :: ds => bare d && bareAll ds
end
theorem listText_le (ts : List Str) : (listText ts).length ≤ piled ts + 2 := by
  cases ts with
  | nil => exact Nat.le_of_eq rfl
  | cons t r =>
    have h := textFrom_length_pos r 1 (("[" : Str) ++ (if (0 : Nat) > 0 then ", " else "" : String) ++ t) (Nat.succ_pos 0)
    have e : ((("[" : Str) ++ (if (0 : Nat) > 0 then ", " else "" : String) ++ t)).length = 1 + t.length := by
      rw [strLen_append, strLen_append]; rfl
    have hX : (listText (t :: r)).length = (textFrom 0 "[" (t :: r)).length + 1 := by
      show (textFrom 0 "[" (t :: r) ++ "]").length = _
      rw [strLen_append]; rfl
    have hY : (textFrom 0 "[" (t :: r)).length = (textFrom 1 (("[" : Str) ++ (if (0 : Nat) > 0 then ", " else "" : String) ++ t) r).length := rfl
    rw [hX, hY, h, e, piled_cons]; omega
theorem tupleText_le (ts : List Str) : (tupleText ts).length ≤ piled ts + 3 := by
  unfold tupleText
  rw [strLen_append, strLen_append]
  have e1 : ((("(" : String) : Str)).length = 1 := rfl
  have e3 : (((if ts.length == 1 then ",)" else ")" : String) : Str)).length ≤ 2 := by split <;> decide
  rw [e1]
  by_cases h : ts = []
  · subst h
    have : (Str.join ", " []).length = 0 := rfl
    omega
  · have := join_length_add ts h
    omega
mutual
theorem shown_le : ∀ {d : PyData}, bare d = true → d.shown.length + 4 ≤ 1930 * wt d
  | .none, _ => by simp only [PyData.shown, wt]; decide
  | .int i, h => by
    simp only [bare, decide_eq_true_eq] at h
    have := int_text_len_1921 h
    simp only [PyData.shown, wt]
    omega
  | .list ds, h => by
    simp only [bare] at h
    have := shownAll_le h
    have l := listText_le (PyData.shownAll ds)
    simp only [PyData.shown, wt]
    omega
  | .tuple ds, h => by
    simp only [bare] at h
    have := shownAll_le h
    have l := tupleText_le (PyData.shownAll ds)
    simp only [PyData.shown, wt]
    omega
  | .bool _, h => by simp [bare] at h
  | .str _, h => by simp [bare] at h
  | .dict _, h => by simp [bare] at h
theorem shownAll_le : ∀ {ds : List PyData}, bareAll ds = true → piled (PyData.shownAll ds) ≤ 1930 * wtAll ds
  | [], _ => by simp [PyData.shownAll, piled, wtAll]
  | d :: ds, h => by
    simp only [bareAll, Bool.and_eq_true] at h
    have h1 := shown_le h.1
    have h2 := shownAll_le h.2
    simp only [PyData.shownAll, piled_cons, wtAll]
    omega
end
mutual
theorem bare_show : ∀ {d : PyData}, bare d = true → d.showable = true ∧ d.hasDict = false
  | .none, _ => by simp only [PyData.showable, PyData.hasDict]; exact ⟨trivial, trivial⟩
  | .int i, h => by
    simp only [bare] at h
    simp only [PyData.showable, PyData.hasDict]
    exact ⟨h, trivial⟩
  | .list ds, h => by
    simp only [bare] at h
    simp only [PyData.showable, PyData.hasDict]
    exact bareAll_show h
  | .tuple ds, h => by
    simp only [bare] at h
    simp only [PyData.showable, PyData.hasDict]
    exact bareAll_show h
  | .bool _, h => by simp [bare] at h
  | .str _, h => by simp [bare] at h
  | .dict _, h => by simp [bare] at h
theorem bareAll_show : ∀ {ds : List PyData}, bareAll ds = true → PyData.showableAll ds = true ∧ PyData.hasDictAll ds = false
  | [], _ => by simp [PyData.showableAll, PyData.hasDictAll]
  | d :: ds, h => by
    simp only [bareAll, Bool.and_eq_true] at h
    have h1 := bare_show h.1
    have h2 := bareAll_show h.2
    simp only [PyData.showableAll, PyData.hasDictAll, h1.1, h1.2, h2.1, h2.2, Bool.and_self, Bool.or_self]
    exact ⟨trivial, trivial⟩
end
section
variable {X : Cx}
end
end L2
set_option Elab.async false
set_option linter.all false
set_option maxRecDepth 100000
namespace PySem
open Sem (wp)
end PySem
namespace PySem
namespace F
end F
section
variable {prog : Program} {w : World} {A : Around} {E : Value → Shared → Prop} {s : Shared}
end
section
variable {prog : Program} {w : World} {A : Around} {R : Result → Shared → Prop} {I : Addr} {fp wr : List Addr} {G : Array GenState → Array GenState → Prop} {n : Nat} {P : Nat → Value → Prop} {St : Nat → Shared → Prop} {K : Type} [DecidableEq K] {knd : KeyKind prog w K}
end
end PySem
namespace PySem
section
variable {prog : Program} {w : World} {K : Type} [DecidableEq K] {knd : KeyKind prog w K} {A : Around} {E : Value → Shared → Prop} {s : Shared}
end
end PySem
namespace L2
open PySem PySem.Spec PyProof.Rows
section
variable {X : Cx}
end
end L2
set_option Elab.async false
set_option linter.all false
set_option maxRecDepth 100000
namespace L2
open PySem PySem.Spec PyProof.Rows
section
variable {X : Cx} {pins : List (Addr × Obj)} {σ : St} {H : Hp} {s : Shared}
end
section
variable {X : Cx} {sc : Scope} {N : List Str} {src : List (Option Nat)} {tg iter elt : Expr} {ifs : List Expr} {td : TE} {g : TG} {tt : TT} {te : TE} {pos : Pos}
end
section
variable {prog : Program} {w : World} {A : Around} {R : Result → Shared → Prop} {s : Shared}
end
section
variable {X : Cx} {sc : Scope} {N : List Str} {src : List (Option Nat)} {tg iter kx vx : Expr} {ifs : List Expr} {wi : TI} {g : TG} {tt : TT} {tk tv : TE} {pos : Pos}
end
end L2
set_option Elab.async false
set_option linter.all false
set_option maxRecDepth 100000
set_option maxHeartbeats 4000000
namespace L2
open PySem PySem.Spec PyProof.Rows
section
variable {P : Program} {w : World} {A : Around} {E : Value → Shared → Prop} {s : Shared} {S : Addr} {vs : List (Key × Value)} {ep : Nat}
end
section
variable {X : Cx}
end
end L2
set_option Elab.async false
set_option linter.all false
set_option maxRecDepth 100000
set_option maxHeartbeats 4000000
namespace L2
open PySem PySem.Spec PyProof.Rows
section
variable {X : Cx}
def rSlS : V → Option Int → Option Int → Hp → VK → Prop := fun x lo hi H Q => ∃ a, x = .str a ∧ a.length ≤ sizeLine ∧ Q (.str (Txt.slice a lo hi)) H
theorem sl_str : SlR X rSlS := by
  intro pins s σ H x v vl vu lo hi sl Q I rx hs pl pu h
  obtain ⟨a, rfl, ha, q⟩ := h
  obtain ⟨t, rfl⟩ := rx
  refine ⟨"str", _, PySem.F.slot_str_getitem.lookup, typeIs_str _ _ _, ?_⟩
  have fin : ∀ t' k, EP X pins σ Q (.str (Txt.slice a lo hi) t') { s with toks := k } := fun t' k => ⟨.str _, H, I.tok k, ⟨t', rfl⟩, q⟩
  have le := Nat.le_trans (Txt.slice_le a lo hi) ha
  cases pl with
  | none =>
    cases pu with
    | none => exact wpAny_getItem_str_slice (l := none) (u := none) (st := none) hs rfl (post_val_or_str ⟨le, fun t' k => fin t' k⟩)
    | int j uj => exact wpAny_getItem_str_slice (l := none) (u := some (j, uj)) (st := none) hs rfl (post_val_or_str ⟨le, fun t' k => fin t' k⟩)
  | int i ui =>
    cases pu with
    | none => exact wpAny_getItem_str_slice (l := some (i, ui)) (u := none) (st := none) hs rfl (post_val_or_str ⟨le, fun t' k => fin t' k⟩)
    | int j uj => exact wpAny_getItem_str_slice (l := some (i, ui)) (u := some (j, uj)) (st := none) hs rfl (post_val_or_str ⟨le, fun t' k => fin t' k⟩)
theorem op_mul_str : OpR X (binaryOp .Mult) (fun x y H Q => ∃ a n, x = .str a ∧ y = .int n ∧ MulOk a n ∧ Q (.str (Txt.mul a n)) H) := by
  intro pins s σ H x y v u Q I rx ry h
  obtain ⟨a, n, rfl, rfl, ok, q⟩ := h
  obtain ⟨t, rfl⟩ := rx
  obtain ⟨t2, rfl⟩ := ry
  exact SB.mul ok fun t' k => ⟨.str _, H, I.tok k, ⟨t', rfl⟩, q⟩
theorem strs_of : ∀ {ts : List Str} {its : List Value}, Vals (ts.map V.str) its → ∃ l : List (Str × Tok), its = strValues l ∧ l.map (·.1) = ts
  | [], _, r => by rw [List.map_nil] at r; cases r; exact ⟨[], rfl, rfl⟩
  | t :: ts, _, r => by
    rw [List.map_cons] at r
    cases r with
    | cons h hr =>
      obtain ⟨u, rfl⟩ := h
      obtain ⟨l, rfl, e⟩ := strs_of hr
      exact ⟨(t, u) :: l, rfl, by rw [List.map_cons, e]⟩
def lenAll (sep : Str) (ts : List Str) : Nat := ts.foldl (fun n x => n + x.length + sep.length) 0
def rJoin (K : PySem.W.Frag) : V → List V → Hp → VK → Prop := fun x vs H Q => ∃ (sep : Str) (p : Addr) (ts : List Str), x = .str sep ∧ vs = [.ref p] ∧ SqL K H p (ts.map V.str) ∧ lenAll sep ts ≤ sizeLine ∧ (Str.join sep ts).length ≤ sizeLine ∧ Q (.str (Str.join sep ts)) H
theorem mt_join : MtR X "str.join" (rJoin X.K) := by
  intro pins s σ H x vs v us Q I rx rv h
  obtain ⟨sep, p, ts, rfl, rfl, hx, hl, hj, q⟩ := h
  obtain ⟨t, rfl⟩ := rx
  obtain ⟨u, rfl, ru⟩ := vals1 rv
  cases ru
  obtain ⟨its, r, pl, hz⟩ := I.list hx
  obtain ⟨l, rfl, el⟩ := strs_of r
  refine call_meets PySem.F.slot_str_join (typeIs_str _ _ _) PySem.F.entry_str_join (PySem.F.args_str_join_2 _ _) (meets_str_join_list sep t p l ?_) ⟨pl.isList, ?_⟩
  · rw [el]
    unfold Builtin.Str.tooLong
    rw [List.foldl_toArray]
    simpa [lenAll] using hl
  · have fin : ∀ t' k, EP X pins σ Q (.str (Str.join sep ts) t') { s with toks := k } := fun t' k => ⟨.str _, H, I.tok k, ⟨t', rfl⟩, q⟩
    have eg : ∀ l' : List (Str × Tok), Builtin.Str.glued sep (l'.map (·.1)) = Str.join sep (l'.map (·.1)) := fun l' => StrLaws.glued_eq_join sep _
    match l, el with
    | [], el =>
      have e := eg []
      rw [el] at e
      show _ ∧ _
      rw [el, e]
      exact ⟨hj, fin _ _⟩
    | [pp], el =>
      have e : pp.1 = Str.join sep ts := by rw [← el]; rfl
      show wants (EP X pins σ Q) X.xe (Except.ok (Flow.ret (Value.str pp.1 pp.2))) s
      rw [e]
      exact fin _ _
    | a :: b :: r, el =>
      show _ ∧ _
      rw [show Builtin.Str.glued sep ((a :: b :: r).map (·.1)) = Str.join sep ts from by rw [← el]; exact eg _]
      exact ⟨hj, fin _ _⟩
end
end L2
set_option Elab.async false
set_option linter.all false
set_option maxRecDepth 100000
set_option maxHeartbeats 4000000
namespace L2
open PySem PySem.Spec PyProof.Rows
theorem str_ext {a b : Str} (h : a.cps.toList = b.cps.toList) : a = b := Str.ext' (Array.toList_inj.1 h)
theorem str_len (a : Str) : a.length = a.cps.toList.length := by simp [Str.length]
theorem slice_to {x : Str} {n : Nat} (h : n ≤ x.length) : (Txt.slice x none (some (n : Int))).cps.toList = x.cps.toList.take n := by
  have e : Txt.slice x none (some (n : Int)) = StrLaws.sliceText x none (some (n : Int)) := rfl
  rw [e, StrLaws.sliceText_to ⟨by omega, by rw [str_len] at h; omega⟩]
  simp
section
variable {X : Cx}
end
end L2
set_option Elab.async false
set_option linter.all false
set_option maxRecDepth 100000
set_option maxHeartbeats 4000000
namespace L2
open PySem PySem.Spec PyProof.Rows
section
variable {X : Cx}
theorem call_strO : CallR X (.type "str") (fun xs H Q => (∃ i, xs = [.int i] ∧ i.natAbs.log2 < 1920 ∧ Q (.str (toString i)) H) ∨ (xs = [.non] ∧ Q (.str "None") H)) := by
  intro pins s σ H xs us Q I r h
  rcases h with h | ⟨rfl, q⟩
  · exact call_str_int pins s σ H xs us Q I r h
  · obtain ⟨u, rfl, r1⟩ := vals1 r
    cases r1
    exact PySem.P.str_of_none ⟨.str _, H, I.tok _, ⟨_, rfl⟩, q⟩
end
end L2
set_option Elab.async false
set_option linter.all false
set_option maxRecDepth 100000
set_option maxHeartbeats 4000000
namespace L2
open PySem PySem.Spec PyProof.Rows
def tDNewQ (K : PySem.W.Frag) : TE := fun _ H Q => ∀ p, L2.new K H p → Q (.ref p) (upd H p (.dK []))
theorem ednewQ {X : Cx} {pos : Pos} : JE X (.Dict [] [] pos) (tDNewQ X.K) := ⟨fun pins s σ H Q I h =>
  wpAny_Dict_empty ⟨.ref s.heap.objs.size, _, I.laid (a := s.heap.objs.size) (o := .dK []) (t' := s.toks) (fun _ _ q => Heap.get?_push_of_some _ q) (Nat.le_refl _) (dk_empty s.heap I.big), rfl, h _ I.new⟩⟩
end L2
namespace L2
open PySem PySem.Spec PyProof.Rows
section
variable {prog : Program} {w : World} {A : Around} {E : Value → Shared → Prop} {s : Shared}
structure ZT (g : Heap) (z ti to p1 p2 t1 t2 : Addr) (out : Value) (k1 k2 : Nat) : Prop where
  zip : IsZip g z ti to out
  its : IsPair g ti (.ref p1) (.ref p2)
  fst : IsTupIter g p1 t1 k1
  snd : IsTupIter g p2 t2 k2
end
section
variable {X : Cx}
end
section
variable {K : PySem.W.Frag} {g : TG} {tt : TT} {te : TE} {D : Addr} {σ : St} {H : Hp} {Q : Hp → Prop} {a b : Addr} {xs ys : List V}
end
section
variable {X : Cx}
end
end L2
set_option Elab.async false
set_option linter.all false
set_option maxRecDepth 100000
set_option maxHeartbeats 4000000
namespace L2
open PySem PySem.Spec PyProof.Rows
def CXO (P : Program) (w : World) : CXT := fun outer H s E e s' => ∃ (a : Addr) (cls a0 : Value) (B : Heap) (H' : Hp), e = .ref a ∧ s'.os = s.os ∧ AllBare s'.gens ∧ Heap.FlyingW B outer a cls a0 s'.heap ∧ Un (frs outer) [] H H' s.heap s'.heap ∧
  (∀ b o, s.heap.get? b = some o → H b = none → b ∉ frs outer → B.get? b = some o) ∧ (∀ b o, s.heap.get? b = some o → b ∉ frs outer → ∃ o', B.get? b = some o') ∧ HOk P w H' B ∧ s.heap.get? a = none ∧ E cls none H'
theorem no_obj {P : Program} {w : World} {H : Hp} {h : Heap} {a : Addr} {o : HO} (x : ObjOk P w H h a o) : ∃ u, h.get? a = some u := by
  cases o with
  | lst xs => obtain ⟨_, _, _, _, e⟩ := x; exact ⟨_, e⟩
  | tup xs => obtain ⟨_, _, _, u, e, _⟩ := x; exact ⟨_, e⟩
  | dK kvs => obtain ⟨_, _, _, _, o, _, _, e, _⟩ := x; exact ⟨_, e⟩
  | dT kvs => obtain ⟨_, _, _, _, o, _, _, e, _⟩ := x; exact ⟨_, e⟩
  | set S n => obtain ⟨o, _, _, _, e, _⟩ := x; exact ⟨_, e⟩
  | ins C dx fs => obtain ⟨_, _, _, e, _⟩ := x; exact ⟨_, e⟩
  | own y => exact x
  | xd fs => obtain ⟨_, ⟨_, _, _, e, _⟩, _⟩ := x; exact ⟨_, e⟩
  | rng lo hi => obtain ⟨_, _, _, e⟩ := x; exact ⟨_, e⟩
  | frz ob u => obtain ⟨e, _⟩ := x; exact ⟨_, e⟩
  | tbl ps => exact ⟨_, (show h.get? a = some _ from x)⟩
  | met f y => exact ⟨_, (show h.get? a = some _ from x)⟩
  | ext φ => exact x.2.1
section
variable {X : Cx} {E : XK}
theorem cxo_out {pins : List (Addr × Obj)} {σ : St} {H H' : Hp} {s : Shared} {h1 h2 B : Heap} {a : Addr} {cls a0 : Value} {os : OsState} {g : Array GenState} {d : Drawn} {t : Nat} (hst : X.stack = X.env :: X.outer) (hex : X.ex = [])
    (I : Inv X pins σ H s) (ho : os = s.os) (hg : AllBare g) (fl : Heap.FlyingW B X.outer a cls a0 h2) (up : h1.UpToSlots h2)
    (un : Un (frs X.stack) [] H H' s.heap h1) (kb : ∀ b o, s.heap.get? b = some o → H b = none → b ∉ frs X.stack → B.get? b = some o)
    (tb : ∀ b o, s.heap.get? b = some o → b ∉ frs X.stack → ∃ o', B.get? b = some o') (hok : HOk X.prog X.w H' B) (na : s.heap.get? a = none) (hE : E cls none H') :
    CXO X.prog X.w X.outer X.H₀ X.s₀ E (.ref a) ⟨h2, g, d, t, os⟩ := by
  have nx : ∀ b : Addr, b ∉ X.ex := fun b => by rw [hex]; simp
  have ne : ∀ b o, X.s₀.heap.get? b = some o → b ∉ frs X.outer → b ∉ frs X.stack := fun b o e n z => by
    rcases List.mem_cons.mp (I.stkSub b z) with q | q
    · have h1 := I.ok.above
      rw [← q] at h1
      exact absurd (Nat.lt_of_lt_of_le (Heap.lt_size e) h1) (Nat.lt_irrefl _)
    · exact n q
  have inS : ∀ b, b ∈ frs X.outer → b ∈ frs X.stack := fun b hb => by
    rw [hst]
    unfold frs at hb ⊢
    rw [List.filterMap_cons]
    split
    · exact hb
    · exact List.mem_cons_of_mem _ hb
  refine ⟨a, cls, a0, B, H', rfl, ho.trans I.os, hg, fl, ⟨fun b o e n hb _ => ?_, fun b o e n hb _ => ?_, fun b o e n _ => ?_, fun b o e _ => ?_, fun b xs e => un.tups b xs (I.base.tups b xs e), fun b o xs e => un.frzs b o xs (I.base.frzs b o xs e), fun b ps e => ?_⟩,
    fun b o e n hb => kb b o (I.base.keep b o e n hb (nx b)) (I.base.free b o e n (nx b)) (ne b o e hb), fun b o e hb => ?_, hok, ?_, hE⟩
  · exact fl.1 b o (kb b o (I.base.keep b o e n hb (nx b)) (I.base.free b o e n (nx b)) (ne b o e hb))
  · obtain ⟨sl, e1⟩ := I.base.slot b o e n hb (nx b)
    obtain ⟨sl', e2⟩ := un.slot b _ e1 (I.base.free b o e n (nx b)) (inS b hb) (by simp)
    obtain ⟨_, o', e3, nf⟩ := I.funs.mem hb
    rw [e1] at e3
    cases e3
    obtain ⟨sl'', e4⟩ := up b _ e2 nf
    exact ⟨sl'', e4⟩
  · obtain ⟨o', e1⟩ := I.base.there b o e (nx b)
    exact un.free b o' e1 (I.base.free b o e n (nx b)) (by simp)
  · by_cases hb : b ∈ frs X.outer
    · have n : X.H₀ b = none := I.ok.frf b hb
      obtain ⟨sl, e1⟩ := I.base.slot b o e n hb (nx b)
      obtain ⟨sl', e2⟩ := un.slot b _ e1 (I.base.free b o e n (nx b)) (inS b hb) (by simp)
      obtain ⟨_, o', e3, nf⟩ := I.funs.mem hb
      rw [e1] at e3
      cases e3
      obtain ⟨sl'', e4⟩ := up b _ e2 nf
      exact ⟨_, e4⟩
    · obtain ⟨o1, e1⟩ := I.base.there b o e (nx b)
      obtain ⟨o2, e2⟩ := tb b o1 e1 (ne b o e hb)
      exact ⟨o2, fl.1 b o2 e2⟩
  · obtain ⟨m1, e1⟩ := I.base.tbls b ps e
    obtain ⟨m2, e2⟩ := un.tbls b _ e1
    exact ⟨m1 ++ m2, by rw [e2, Array.append_assoc]⟩
  · obtain ⟨o1, e1⟩ := I.base.there b o e (nx b)
    exact tb b o1 e1 (ne b o e hb)
  · cases q : X.s₀.heap.get? a with
    | none => rfl
    | some o =>
      obtain ⟨o1, e1⟩ := I.base.there a o q (nx a)
      rw [na] at e1
      cases e1
def Cx.leaves (X : Cx) (E : XK) : Prop := X.xe = fun e s' => wpAny (model X.prog X.w) X.A (leaving X.env e) (fun _ s'' => CXO X.prog X.w X.outer X.H₀ X.s₀ E e s'') (fun e' s'' => CXO X.prog X.w X.outer X.H₀ X.s₀ E e' s'') s'
theorem pass_on (hst : X.stack = X.env :: X.outer ∧ X.env.frame = some X.env.locals) (hex : X.ex = []) (hx : X.leaves E) : Passes (CXO X.prog X.w) X E := by
  rintro pins σ H s e ⟨h', g', d', t', os'⟩ I ⟨a, cls, a0, B, H', rfl, os, bare, fl, un, kb, tb, hok, na, hE⟩
  rw [hx]
  have fr : X.A.frames = some (X.env :: X.outer) := by rw [← hst.1]; exact I.ok.frames
  have fl : Heap.FlyingW B (X.env :: X.outer) a cls a0 h' := by rw [← hst.1]; exact fl
  refine wpAny_leaves_onW (base := B) fr hst.2 fl fun h2 fl2 up => ?_
  exact cxo_out hst.1 hex I os bare fl2 up un kb tb hok na hE
end
section
variable {P : Program} {w : World} {K : PySem.W.Frag} {mg : Str → Option Value} {base : Heap} {N : List Str} {qual : Str} {scope : Scope} {f : Addr} {cd : Value} {A : Around} {outer : List Env} {s0 : Shared} {H0 : Hp} {E : XK} {CX : CXT}
theorem pass1 : Passes (CXO P w) (cxOf (CXO P w) P w K mg base N qual scope f cd A outer s0 H0 E) E := pass_on (X := cxOf (CXO P w) P w K mg base N qual scope f cd A outer s0 H0 E) ⟨rfl, rfl⟩ rfl rfl
def tRaise (E : XK) (c : Value) : TS := fun _ _ H => E c none H
structure Exc (K : PySem.W.Frag) (C : Addr) : Prop where
  is : PySem.W.excIn K C [.type "ValueError", .type "Exception", .type "BaseException", .type "object"] "ValueError.__new__" = true
theorem Exc.obj {h : Heap} {C : Addr} (X : K.In h) (e : Exc K C) : ∃ bm Nn nm q bs hdct sn sub ab col dd k0 k1 k2 k3 k5 mN, h.get? C = some (excClassObj nm q C Nn bs bm hdct sn sub ab col dd k0 k1 k2 k3 k5 "ValueError.__new__") ∧ h.Ns Nn mN ∧ mN "__init__" = none ∧ OwnTail h [.type "ValueError", .type "Exception", .type "BaseException", .type "object"] bm := by
  have q := e.is
  unfold PySem.W.excIn at q
  split at q
  · rename_i dd cd sl ho
    split at q
    · rename_i C' bm k0 k1 k2 k3 n k5 hm hs
      simp only [Bool.and_eq_true, beq_iff_eq, Bool.not_eq_true'] at q
      obtain ⟨⟨⟨⟨⟨rfl, rfl⟩, hdel⟩, ht⟩, hok⟩, hni⟩ := q
      obtain ⟨nm, bs, mro, ns, qn, hd, sn, sub, ab, col, del⟩ := cd
      have e1 : mro = .ref C' :: bm := hm
      have e2 : del = false := hdel
      subst e1 e2
      obtain ⟨l⟩ := sl
      have e3 : l = [k0, k1, k2, k3, some (.builtin "ValueError.__new__"), k5] := hs
      subst e3
      exact ⟨bm, ns, nm, qn, bs, hd, sn, sub, ab, col, dd, k0, k1, k2, k3, k5, _, X _ _ ho, .of_isNs (PySem.W.isNs_of_in X hok), PySem.W.nsMap_none_of_in X hok hni, PySem.W.tail_of_in X ht⟩
    · cases q
  · cases q
theorem sraise {C : Addr} {x y : Str} {np cpos pos sp : Pos} {j : Nat} (hC : Exc K C) (hm : mg x = some (.ref C)) (hd : A.handled = none) (hg : Gl (cxOf (CXO P w) P w K mg base N qual scope f cd A outer s0 H0 E) x) (hdb : (x == ("__debug__" : Str)) = false := by decide) :
    JS (cxOf (CXO P w) P w K mg base N qual scope f cd A outer s0 H0 E) (.Raise (some (.Call (.Name x np) [.Constant (.str y) j sp] [] cpos)) none pos) (tRaise E (.ref C)) := ⟨by
  intro pins s σ H D I h
  obtain ⟨bm, Nn, nm, q, bs, hdct, sn, sub, ab, col, dd, k0, k1, k2, k3, k5, mN, hCo, hN, hni, T⟩ := hC.obj I.mod.kin
  refine wpAny_Raise_call_subT (C := C) (nm := nm) (q := q) (N := Nn) (bs := bs) (bm := bm) (hdct := hdct) (sn := sn) (sub := sub) (ab := ab) (col := col) (dd := dd) (k0 := k0) (k1 := k1) (k2 := k2) (k3 := k3) (k5 := k5) PySem.F.excBase_ValueError (mN := mN) (T.hasType PySem.F.excBase_ValueError.hasBase) hd rfl hni (ld_glob I hg hm ⟨rfl, ?_⟩ hdb)
  have pa := pa_cons (X := cxOf (CXO P w) P w K mg base N qual scope f cd A outer s0 H0 E) (pe_str (x := y) (j := j) (pos := sp)) pa_nil
  refine Calls.evalArgs_plain (wpAny_mono (pa cpos pins s σ H (fun vs H2 => vs.length = 1 ∧ H2 = H) I ⟨rfl, rfl⟩) (fun us s2 z => ?_) fun _ _ z => z)
  obtain ⟨vs, H2, I2, r2, l2, rfl⟩ := z
  refine ⟨rfl, ?_, I2.bk _ _ hCo, hN.keeps I2.bk, T.keeps I2.bk, fun h' e hx => ?_⟩
  · show us.length ≤ _
    rw [← r2.length, l2]
    decide
  have nf : ∀ b u, H2 b = some u → b ∉ frs (cxOf (CXO P w) P w K mg base N qual scope f cd A outer s0 H0 E).stack := fun b u e z => by
    rw [I2.stkFree b z] at e
    cases e
  refine wpAny_leaves_madeW (base := PySem.W.hideAll s2.heap (frs (cxOf (CXO P w) P w K mg base N qual scope f cd A outer s0 H0 E).stack)) (h := s2.heap) I2.ok.frames rfl (fun b o q => PySem.W.of_hideAll _ q) (PySem.W.funFrames_hide I2.stack fun env he b hb => List.mem_filterMap.mpr ⟨env, he, hb⟩) hx fun h2 t fl _ _ up => ?_
  refine cxo_out (X := cxOf (CXO P w) P w K mg base N qual scope f cd A outer s0 H0 E) (H' := H2) (h1 := h') (s := s2) rfl rfl I2 rfl I2.bare fl up (Un.kept hx.keeps) (fun b o e _ n => PySem.W.hideAll_get _ e n) (fun b o e n => ⟨o, PySem.W.hideAll_get _ e n⟩) (fun b o e => (I2.hok b o e).stay (fun c u hc q => PySem.W.hideAll_get _ q ?_) (fun _ q => q) fun _ _ q => q) hx.new h
  rcases hc with z | z
  · subst z
    exact nf _ _ e
  · exact nf _ _ z⟩
end
end L2
namespace L2
open PySem PySem.Spec PyProof.Rows PySem.W PySem.Calls PySem.Builtin PySem.Builtin.ObjectAttr PySem.Builtin.Getset_descriptor
structure ExcI (K : PySem.W.Frag) (C : Addr) : Prop where
  ga : findIn K (.ref C) "__getattribute__" = some (some (.builtin "BaseException.__getattribute__"))
  gh : findIn K (.ref C) "__getattr__" = some none
  cl : findIn K (.ref C) "__class__" = some (some (.builtin "object.__class__"))
  mo : mroIn K C (.type "object") = some true
  mb : mroIn K C (.type "BaseException") = some true
  gt : specialIn K (.builtin "object.__class__") "__get__" = some (some (.builtin "getset_descriptor.__get__"))
  tk : takesIn K (.builtin "object.__class__") = some true
  is : (clsIn K C).isSome = true
def XAt (a C : Addr) (h : Heap) : Prop := ∃ o, h.get? a = some o ∧ o.cls = .ref C
section
variable {K : PySem.W.Frag} {prog : Program} {w : World} {A : Around} {E : Value → Shared → Prop} {s : Shared} {a C : Addr}
theorem XAt.ty {M : Model} {h : Heap} (x : XAt a C h) : Looks M h (typeOf (.ref a)) (.ref C) := by
  obtain ⟨o, e, c⟩ := x
  exact c ▸ (Looks.ld e).andThen .now
theorem xcls_get {R : Result → Shared → Prop} {tp : Value} (X : K.In s.heap) (x : XAt a C s.heap) (F : ExcI K C) (h : R (.ok (.ret (.ref C))) s) : codeAny (model prog w) A (.call (.builtin "getset_descriptor.__get__") ⟨[.builtin "object.__class__", .ref a, tp], []⟩) R s := by
  obtain ⟨h0, gn, dr, tk, os⟩ := s
  have l0 := x.ty (M := model prog w)
  have l1 := looks_mroIn (M := model prog w) X F.mo
  refine codeAny_call_builtin KF.slot_gs.plain KF.entry_gs (KF.slot_gs.check _ _ _ _ _ _ _ _ KF.type_class (KF.args_gs _ _ _) ?_)
  unfold Builtin.«getset_descriptor.__get__»; unfold descrGet
  rw [dga_obj]
  refine wpAny_bind (wpAny_pure ?_)
  unfold descrGetter; unfold descrCheckInstance; unfold descrNameAndClass; unfold isInstance
  simp only [KF.owner_class]
  repeat lk
  refine ⟨Code.quiet_builtin _ (by decide +kernel), codeAny_builtin KF.entry_class ?_⟩
  unfold Builtin.«object.__class__»; unfold shownTypeOf
  repeat lk
  exact h
theorem xcls_find {M : Model} {h : Heap} (X : K.In h) (F : ExcI K C) : Looks M h (find (.ref a) (.ref C) "__class__") (.bind (.builtin "getset_descriptor.__get__") (.builtin "object.__class__")) := by
  have l1 := looks_findIn (M := M) X F.cl
  have l2 := looks_specialIn (M := M) X F.gt
  have l3 := looks_takesIn (M := M) X F.tk
  exact l1.andThen (Looks.andThen (a := some (Value.builtin "getset_descriptor.__get__")) l2 ((show Looks M h (dataDescriptor? (some (.builtin "object.__class__")) (some (.builtin "getset_descriptor.__get__"))) (some (.builtin "getset_descriptor.__get__", .builtin "object.__class__")) from l3.andThen .now).andThen (Looks.tag .now)))
theorem xcls_entry {tk : Tok} {Q : Fin → Shared → Prop} (X : K.In s.heap) (x : XAt a C s.heap) (F : ExcI K C) (h : Q (.done (.ret (.ref C))) s) : wpAny (model prog w) A (Builtin.«object.__getattribute__» ⟨[.ref a, .str "__class__" tk], []⟩) Q E s := by
  obtain ⟨h0, gn, dr, tk, os⟩ := s
  have l0 := x.ty (M := model prog w)
  have l1 := xcls_find (M := model prog w) (a := a) X F
  unfold Builtin.«object.__getattribute__»
  refine wpAny_bind (wpAny_pure ?_)
  refine wpAny_bind (wpAny_pure ?_)
  refine wpAny_bind (l0.at ?_)
  refine wpAny_bind (l1.at ?_)
  show wpAny (model prog w) A (bindTo (.builtin "getset_descriptor.__get__") (.builtin "object.__class__") (.ref a) (.ref C)) _ _ _
  unfold bindTo
  show wpAny (model prog w) A (holding [.builtin "object.__class__"] (call (.builtin "getset_descriptor.__get__") [.builtin "object.__class__", .ref a, .ref C]) >>= ret) _ _ _
  exact wpAny_bind (wpAny_holding (wpAny_call (xcls_get (s := ⟨h0, gn, dr, tk, os⟩) X x F (wpAny_pure h))))
theorem xcls_call {tk : Tok} {R : Result → Shared → Prop} (X : K.In s.heap) (x : XAt a C s.heap) (F : ExcI K C) (h : R (.ok (.ret (.ref C))) s) : codeAny (model prog w) A (.call (.builtin "BaseException.__getattribute__") ⟨[.ref a, .str "__class__" tk], []⟩) R s := by
  refine codeAny_call_builtin PySem.F.attr_ValueError.ga.plain PySem.F.entry_bexc_ga ?_
  have hk : builtinKind "BaseException.__getattribute__" = some .slot := by decide +kernel
  have hp : splitId "BaseException.__getattribute__" = some ("BaseException", "__getattribute__") := by decide +kernel
  have ha := PySem.F.args_bexc_ga (.ref a) (.str "__class__" tk)
  have l0 := x.ty (M := model prog w)
  have l1 := looks_mroIn (M := model prog w) X F.mb
  have l2 : Looks (model prog w) s.heap (isInstance (.ref a) (.type "BaseException")) true := l0.andThen l1
  simp only [checkBuiltinCall, hk, hp]
  refine wpAny_bind (l2.at ?_)
  rw [if_neg (by decide)]
  exact wpAny_of_eq ha (xcls_entry X x F h)
theorem xcls_by {tk : Tok} {Q : Value → Shared → Prop} (X : K.In s.heap) (x : XAt a C s.heap) (F : ExcI K C) (h : Q (.ref C) s) : wpAny (model prog w) A (getAttrBy (.ref a) (.str "__class__" tk) false) Q E s := by
  have l0 := x.ty (M := model prog w)
  have l1 := looks_findIn (M := model prog w) X F.ga
  have l2 := looks_findIn (M := model prog w) X F.gh
  have f3 := PySem.F.attr_ValueError.ga.bind (.ref a)
  unfold getAttrBy
  refine wpAny_holding (wpAny_bind (l0.at (wpAny_bind (l1.at ?_))))
  dsimp only
  have nb : (onTheHeap (Value.ref C) && Value.builtin "BaseException.__getattribute__" == Value.builtin "object.__getattribute__") = false := by
    rw [show (Value.builtin "BaseException.__getattribute__" == Value.builtin "object.__getattribute__") = false by decide +kernel, Bool.and_false]
  rw [nb, if_neg (by decide)]
  unfold getAttrByItsOwn
  refine wpAny_bind ?_
  show wpAny (model prog w) A (typeLookup (.ref C) "__getattr__") _ _ _
  refine l2.at (wpAny_bind (wpAny_attempt (wpAny_holding ?_)))
  show wpAny (model prog w) A (boundAndCalled (.builtin "BaseException.__getattribute__") (.ref a) (.str "__class__" tk)) _ _ _
  unfold boundAndCalled
  refine wpAny_bind (wpAny_of_eq f3 ?_)
  refine wpAny_call (xcls_call (s := s) X x F ?_)
  exact wpAny_pure h
theorem xcls_attr {Q : Option Value → Shared → Prop} (X : K.In s.heap) (x : XAt a C s.heap) (F : ExcI K C) (h : Q (some (.ref C)) { s with toks := s.toks + 1 }) : wpAny (model prog w) A (getAttr? (.ref a) "__class__") Q E s := by
  unfold getAttr?; unfold getAttrBy?
  exact wpAny_bind (wpAny_mkText (wpAny_bind (wpAny_attempt (xcls_by (s := { s with toks := s.toks + 1 }) X x F (wpAny_pure h)))))
theorem kitx_exc (F : ExcI K C) : KitX K (.ref a) (.ref C) (XAt a C) where
  ty := fun _ _ _ x => x.ty
  it := fun _ _ X _ => by
    have q := F.is
    unfold clsIn at q
    split at q
    · rename_i ho
      intro A' Q' E' s' k z
      unfold isType loadHead
      exact wpAny_bind (wpAny_loadPart (k _ _ (X _ _ ho)) (wpAny_pure z))
    · cases q
  ne := fun h tp dd its n sl X e => by
    have q := F.is
    refine Bool.eq_false_iff.mpr fun z => ?_
    cases beq_iff_eq.mp z
    unfold clsIn at q
    split at q
    · rename_i ho
      have z := (X _ _ ho).symm.trans e
      cases z
    · cases q
  ca := fun X x k => xcls_attr X x F k
end
end L2
set_option Elab.async false
set_option linter.all false
set_option maxRecDepth 100000
set_option maxHeartbeats 4000000
namespace L2
open PySem PySem.Spec PyProof.Rows
def Cx.tried (X : Cx) (xe : Value → Shared → Prop) (pn : List (Addr × Obj)) : Cx := { X with xe := xe, pn := pn }
def Cx.caught (X : Cx) (a : Addr) (xe : Value → Shared → Prop) (pn : List (Addr × Obj)) : Cx := { X with A := X.A.mark (some (.ref a)), calm := false, xe := xe, pn := pn }
section
variable {X : Cx} {pins pins1 : List (Addr × Obj)} {σ : St} {H H' : Hp} {s : Shared} {xe : Value → Shared → Prop}
theorem Inv.tried (I : Inv X pins σ H s) : Inv (X.tried xe (X.pn ++ pins)) [] σ H s :=
  ⟨⟨I.ok.mod, I.ok.kind, I.ok.glob, I.ok.blt, I.ok.above, I.ok.inj, I.ok.has, I.ok.cab, I.ok.hd, I.ok.frames, I.ok.stk, I.ok.exf, I.ok.bs, I.ok.bsz, I.ok.noex, I.ok.exfs, I.ok.funs, I.ok.frf⟩, I.os, I.bare, I.base, I.loc, I.cell, I.free, I.freeC, fun p hp => I.pin p (by rw [List.append_nil] at hp; exact hp), I.hok, I.len⟩
theorem Inv.untried (I : Inv (X.tried xe (X.pn ++ pins)) pins1 σ H s) : Inv X pins σ H s :=
  ⟨⟨I.ok.mod, I.ok.kind, I.ok.glob, I.ok.blt, I.ok.above, I.ok.inj, I.ok.has, I.ok.cab, I.ok.hd, I.ok.frames, I.ok.stk, I.ok.exf, I.ok.bs, I.ok.bsz, I.ok.noex, I.ok.exfs, I.ok.funs, I.ok.frf⟩, I.os, I.bare, I.base, I.loc, I.cell, I.free, I.freeC, fun p hp => I.pin p (List.mem_append_left _ hp), I.hok, I.len⟩
theorem Inv.caught {a : Addr} (I : Inv X pins σ H s) : Inv (X.caught a xe (X.pn ++ pins)) [] σ H s :=
  ⟨⟨I.ok.mod, I.ok.kind, I.ok.glob, I.ok.blt, I.ok.above, I.ok.inj, I.ok.has, I.ok.cab, (fun z => nomatch z), I.ok.frames, I.ok.stk, I.ok.exf, I.ok.bs, I.ok.bsz, I.ok.noex, I.ok.exfs, I.ok.funs, I.ok.frf⟩, I.os, I.bare, I.base, I.loc, I.cell, I.free, I.freeC, fun p hp => I.pin p (by rw [List.append_nil] at hp; exact hp), I.hok, I.len⟩
theorem Inv.uncaught {a : Addr} (ok : X.Ok) (I : Inv (X.caught a xe (X.pn ++ pins)) pins1 σ H s) : Inv X pins σ H s :=
  ⟨ok, I.os, I.bare, I.base, I.loc, I.cell, I.free, I.freeC, fun p hp => I.pin p (List.mem_append_left _ hp), I.hok, I.len⟩
theorem Inv.track {a : Addr} {o : HO} (I : Inv X pins σ H s) (hn : H a = none) (ha : X.s₀.heap.get? a = none) (hl : a ≠ X.env.locals) (hc : ∀ x c, X.env.cells.lookup x = some c → c ≠ a) (hp : ∀ p ∈ X.pn ++ pins, p.1 ≠ a) (ok : ObjOk X.prog X.w (upd H a o) s.heap a o) : Inv X pins σ (upd H a o) s := by
  have ne : ∀ b u, H b = some u → b ≠ a := fun b u e => ne_of_none e hn
  refine ⟨I.ok, I.os, I.bare, ⟨I.base.keep, I.base.slot, fun b u e n hx => ?_, I.base.there, fun b xs e => ?_, fun b u xs e => ?_, fun b ps e => ?_⟩, I.loc, I.cell, ?_, fun x c e => ?_, fun p q => ?_, fun b u e => ?_, I.len⟩
  · rw [upd_ne (fun z => by rw [z, ha] at e; cases e)]
    exact I.base.free b u e n hx
  · have := I.base.tups b xs e
    rw [upd_ne (ne _ _ this)]
    exact this
  · have := I.base.frzs b u xs e
    rw [upd_ne (ne _ _ this)]
    exact this
  · obtain ⟨m, this⟩ := I.base.tbls b ps e
    exact ⟨m, by rw [upd_ne (ne _ _ this)]; exact this⟩
  · rw [upd_ne hl.symm]
    exact I.free
  · rw [upd_ne (hc x c e)]
    exact I.freeC x c e
  · obtain ⟨e, n, r⟩ := I.pin p q
    exact ⟨e, by rw [upd_ne (hp p q)]; exact n, r⟩
  · by_cases z : b = a
    · subst z
      rw [upd_same] at e
      cases e
      exact ok
    · rw [upd_ne z] at e
      exact (I.hok b u e).stay (fun _ _ _ q => q) (fun c q => by rw [upd_ne (ne _ _ q)]; exact q) fun c xs q => by rw [upd_ne (ne _ _ q)]; exact q
end
theorem un_up {st : List Env} {base h h1 h2 B : Heap} {H H' : Hp} (ff : h.FunFrames base st) (fr : ∀ b ∈ frs st, H b = none) (un : Un (frs st) [] H H' h h1) (kb : ∀ b o, h.get? b = some o → H b = none → b ∉ frs st → B.get? b = some o)
    (tb : ∀ b o, h.get? b = some o → b ∉ frs st → ∃ o', B.get? b = some o') (ks : B.StaysIn h2) (up : h1.UpToSlots h2) : Un (frs st) [] H H' h h2 := by
  have sl : ∀ b o, h.get? b = some o → H b = none → b ∈ frs st → ∃ sl, h2.get? b = some { o with slots := sl } := fun b o e n hb => by
    obtain ⟨s1, e1⟩ := un.slot b o e n hb (by simp)
    obtain ⟨_, o', e3, nf⟩ := ff.mem hb
    rw [e] at e3
    cases e3
    obtain ⟨s2, e2⟩ := up b _ e1 nf
    exact ⟨s2, e2⟩
  refine ⟨fun b o e n hb _ => ks b o (kb b o e n hb), fun b o e n hb _ => sl b o e n hb, un.free, fun b o e _ => ?_, un.tups, un.frzs, un.tbls⟩
  by_cases hb : b ∈ frs st
  · obtain ⟨_, e1⟩ := sl b o e (fr b hb) hb
    exact ⟨_, e1⟩
  · obtain ⟨o', e1⟩ := tb b o e hb
    exact ⟨o', ks b o' e1⟩
def Ends.gone (D : Ends) (i : Nat) : Ends := { nx := fun σ H => D.nx (σ.set i none) H, rt := D.rt, bk := fun σ H => D.bk (σ.set i none) H, ct := fun σ H => D.ct (σ.set i none) H }
theorem name_goes {X : Cx} {pins : List (Addr × Obj)} {σ : St} {H : Hp} {s : Shared} {M : Model} {A : Around} {E : Value → Shared → Prop} {Q : Unit → Shared → Prop} {n : Str} {i : Nat} {pos : Pos} (I : Inv X pins σ H s) (hN : X.N.Nodup) (hi : X.N[i]? = some n) (hl : X.env.kindOf n = some .local)
    (h : ∀ s', Inv X pins (σ.set i none) H s' → Q () s') : wpAny M A (do bindName X.env n .none; unbindBehindTheSuite X.env n pos) Q E s := by
  obtain ⟨m, hn, hv⟩ := id I.loc
  obtain ⟨oL, _, _, hoL, _⟩ := id hn
  have ne : ∀ b o, X.s₀.heap.get? b = some o → b ≠ X.env.locals := fun b o e => Nat.ne_of_lt (Nat.lt_of_lt_of_le (Heap.lt_size e) I.ok.above)
  refine wpAny_nameGoes_keeps hl hn (by rw [I.ok.kind]; rfl) fun h' v hn' hs => ?_
  refine h _ ⟨I.ok, I.os, I.bare, ⟨fun b o e n hb hx => (hs.2 b (ne b o e)).trans (I.base.keep b o e n hb hx), fun b o e n hb hx => ?_, I.base.free, fun b o e hx => ?_, I.base.tups, I.base.frzs, I.base.tbls⟩, ⟨_, hn', fun j y u e1 e2 e3 => ?_⟩, fun y c e => ?_, I.free, I.freeC, fun p hp => ?_, fun b u e => ?_, by simpa using I.len⟩
  · obtain ⟨sl, e1⟩ := I.base.slot b o e n hb hx
    exact ⟨sl, (hs.2 b (ne b o e)).trans e1⟩
  · obtain ⟨o', e1⟩ := I.base.there b o e hx
    exact ⟨o', (hs.2 b (ne b o e)).trans e1⟩
  · by_cases hj : j = i
    · subst hj
      have : j < σ.length := by rw [I.len]; exact (List.getElem?_eq_some_iff.mp hi).1
      rw [List.getElem?_set_self this] at e2
      cases e2
    · rw [List.getElem?_set_ne (Ne.symm hj)] at e2
      obtain ⟨u', r', q⟩ := hv j y u e1 e2 e3
      refine ⟨u', r', ?_⟩
      rcases q with ⟨k, e⟩ | ⟨k, c, e, z⟩
      · refine .inl ⟨k, ?_⟩
        have : y ≠ n := fun e => hj (nodup_ix hN e1 (e ▸ hi))
        show (if y = n then v else m y) = _
        rw [if_neg this]
        exact e
      · exact .inr ⟨k, c, e, z.sameBut hs (I.cne y c e)⟩
  · obtain ⟨w', z⟩ := I.cell y c e
    exact ⟨w', z.sameBut hs (I.cne y c e)⟩
  · obtain ⟨e, n, ne, r⟩ := I.pin p hp
    exact ⟨(hs.2 p.1 ne).trans e, n, ne, r⟩
  · refine (I.hok b u e).stay (fun c w' hc q => (hs.2 c ?_).trans q) (fun _ q => q) fun _ _ q => q
    rintro rfl
    rcases hc with z | z
    · rw [← z, I.free] at e
      cases e
    · rw [I.free] at z
      cases z
section
variable {X : Cx}
def tTry (K : PySem.W.Frag) (CF : Addr) (len i : Nat) (tb : XK → TS) (ts : TS) : TS := fun D σ H =>
  tb (fun cls _ H' => ∃ C, cls = .ref C ∧ ExcI K C ∧ PySem.W.exmOne K (.ref C) (.ref CF) = some true ∧ ∀ a, L2.new K H' a → ts (D.gone i) ((List.replicate len none).set i (some (.ref a))) (upd H' a (.ext (XAt a C)))) D σ H
theorem stry {x n : Str} {CF : Addr} {i : Nat} {np hp pos : Pos} {body suite : List Stmt} {b0 : Stmt} {tb : XK → TS} {ts : TS} (hN : X.N.Nodup) (hi : X.N[i]? = some n) (hl : X.env.kindOf n = some .local) (hg : Gl X x) (hm : X.mg x = some (.ref CF)) (hst : X.stack = X.env :: X.outer ∧ X.env.frame = some X.env.locals) (hex : X.ex = [])
    (hb : ∀ (E1 : XK) (xe : Value → Shared → Prop) (pn : List (Addr × Obj)), Passes (CXO X.prog X.w) (X.tried xe pn) E1 → JB (X.tried xe pn) body (tb E1)) (hs : ∀ (a : Addr) (xe : Value → Shared → Prop) (pn : List (Addr × Obj)), JB (X.caught a xe pn) (b0 :: suite) ts) (hdb : (x == ("__debug__" : Str)) = false := by decide) :
    JS X (.Try body [.ExceptHandler (some (.Name x np)) (some n) (b0 :: suite) hp] [] [] pos) (tTry X.K CF X.N.length i tb ts) := ⟨by
  intro pins s σ H D I h
  refine wpAny_Try_except (wpAny_mono ((hb _ (fun e s₁ => wpAny (model X.prog X.w) X.A (noteFrame e X.env) (fun _ s₂ => wpAny (model X.prog X.w) X.A (setFlight e none) (fun _ s₃ => wpAny (model X.prog X.w) X.A (handleBy e X.env [.ExceptHandler (some (.Name x np)) (some n) (b0 :: suite) hp]) (SP X pins D) X.xe s₃) X.xe s₂) X.xe s₁) (X.pn ++ pins) ?_).h [] s σ H D (I.tried (pins := pins)) h) (fun f s1 q => ?_) fun _ _ z => z)
  · rintro pins1 σ1 H1 s1 e ⟨h', g', d', t', os'⟩ J ⟨a, cls, a0, B, H', rfl, os, bare, fl, un, kb, tb, hok, na, C, rfl, F, hx, k⟩
    have J := J.untried
    have fr : X.A.frames = some (X.env :: X.outer) := by rw [← hst.1]; exact J.ok.frames
    have fl : Heap.FlyingW B (X.env :: X.outer) a (.ref C) a0 h' := by rw [← hst.1]; exact fl
    refine wpAny_looks_onW fr hst.2 fl fun h4 held4 up4 => wpAny_landsW held4 fun h5 fl5 up5 => ?_
    have up45 := up4.trans up5
    have mk : ∀ {h6 : Heap}, Heap.FlyingW B (X.env :: X.outer) a (.ref C) a0 h6 → h'.UpToSlots h6 → Inv X pins σ1 H' ⟨h6, g', d', t', os'⟩ := fun {h6} fl6 up6 =>
      J.call' (s' := ⟨h6, g', d', t', os'⟩) (ch := []) os (un_up J.stack J.stkFree un kb tb fl6.1 up6) (hok.kept fl6.1) bare (fun b z => absurd z (by simp))
    have J5 := mk fl5 up45
    have xa : ∀ {h6 : Heap}, Heap.FlyingW B (X.env :: X.outer) a (.ref C) a0 h6 → XAt a C h6 := fun fl6 => fl6.there
    refine wpAny_handleBy_cons (codeAny_handlers_test (Calls.Name_function_global J5.ok.kind hg (Calls.loadGlobal_global (by rw [J5.ok.glob]; exact J5.mod.glob.keeps J5.bk) hm ?_) hdb)) (by intro q; cases q)
    refine (PySem.W.exm_one J5.kIn (xa fl5).ty hx).at ?_
    show codeAny _ _ _ _ _
    refine codeAny_handlers_suite_as ?_
    refine lands_againW fl5 fun h6 fl6 up6 => ?_
    have J6 := mk fl6 (up45.trans up6)
    have ex : ∀ b o, s1.heap.get? b = some o → b ≠ a := fun b o e z => by rw [z, na] at e; cases e
    have aL : X.env.locals ≠ a := by
      obtain ⟨m, ⟨o, _, _, e, _⟩, _⟩ := J.loc
      exact ex _ o e
    have aC : ∀ y c, X.env.cells.lookup y = some c → c ≠ a := fun y c e => by
      obtain ⟨v, o, q, _⟩ := J.cell y c e
      exact ex c o q
    have hH : H' a = none := by
      cases q : H' a with
      | none => rfl
      | some u =>
        obtain ⟨o, e⟩ := no_obj (hok a u q)
        have := fl.2.1
        rw [this] at e
        cases e
    refine store_ok2 J6 hN hi (.inl hl) (v := .ref a) rfl (fun s7 J7 sm => ?_) (.inr hl)
    have x7 : XAt a C s7.heap := by
      obtain ⟨b, sb, hb⟩ := sm
      obtain ⟨o, e, c⟩ := xa fl6
      refine ⟨o, (sb.2 a ?_).trans e, c⟩
      rcases hb with rfl | hb
      · exact aL.symm
      · exact (aC _ _ hb).symm
    have J8 : Inv X pins ((List.replicate X.N.length none).set i (some (.ref a))) H' s7 := by
      refine J7.weak (by simp [J7.len]) fun j v e => ?_
      by_cases z : j = i
      · subst z
        have lt : j < X.N.length := (List.getElem?_eq_some_iff.mp hi).1
        rw [List.getElem?_set_self (by rw [List.length_replicate]; exact lt)] at e
        rw [List.getElem?_set_self (by rw [J.len]; exact lt)]
        exact e
      · rw [List.getElem?_set_ne (Ne.symm z), List.getElem?_replicate] at e
        split at e <;> cases e
    have J9 := J8.track (a := a) (o := .ext (XAt a C)) hH (by
      cases q : X.s₀.heap.get? a with
      | none => rfl
      | some o =>
        obtain ⟨o', e⟩ := J.base.there a o q (by rw [hex]; simp)
        exact absurd rfl (ex a o' e)) aL.symm aC (fun p hp => ex p.1 p.2 (J.pin p hp).1) ⟨x7, (let ⟨o, e, _⟩ := x7; ⟨o, e⟩), fun h1 h2 ⟨o, e, c⟩ k => ⟨o, k o e, c⟩⟩
    have nw := k a ⟨hH, J9.notMod upd_same⟩
    refine wpAny_mono ((hs a _ (X.pn ++ pins)).h [] s7 _ _ (D.gone i) (J9.caught (a := a)) nw) (fun f s8 q => ?_) fun _ _ z => z
    cases f with
    | next =>
      obtain ⟨σ', H2, JA, q⟩ := q
      exact name_goes (JA.uncaught J.ok) hN hi hl fun s' JB => ⟨_, _, JB, q⟩
    | brk =>
      obtain ⟨σ', H2, JA, q⟩ := q
      exact name_goes (JA.uncaught J.ok) hN hi hl fun s' JB => ⟨_, _, JB, q⟩
    | cont =>
      obtain ⟨σ', H2, JA, q⟩ := q
      exact name_goes (JA.uncaught J.ok) hN hi hl fun s' JB => ⟨_, _, JB, q⟩
    | ret u =>
      obtain ⟨v, σ', H2, JA, r, q⟩ := q
      exact name_goes (JA.uncaught J.ok) hN hi hl fun s' JB => ⟨_, _, _, JB, r, q⟩
  · cases f with
    | next =>
      obtain ⟨σ', H', J, q⟩ := q
      exact wpAny_execs_nil ⟨σ', H', J.untried, q⟩
    | brk =>
      obtain ⟨σ', H', J, q⟩ := q
      exact ⟨σ', H', J.untried, q⟩
    | cont =>
      obtain ⟨σ', H', J, q⟩ := q
      exact ⟨σ', H', J.untried, q⟩
    | ret u =>
      obtain ⟨v, σ', H', J, r, q⟩ := q
      exact ⟨v, σ', H', J.untried, r, q⟩⟩
end
end L2
set_option Elab.async false
set_option linter.all false
set_option maxRecDepth 100000
set_option maxHeartbeats 4000000
namespace L2
open PySem PySem.Spec PyProof.Rows
def lamCx (P : Program) (w : World) (K : PySem.W.Frag) (mg : Str → Option Value) (base : Heap) (N : List Str) (qual : Str) (scope : Scope) (f : Addr) (cd : Value) (A : Around) (outer : List Env) (s : Shared) (H : Hp) (E : XK) (cl : List (Str × Addr)) : Cx where
  prog := P
  w := w
  K := K
  mg := mg
  base := base
  A := A.deeper (PySem.W.envX qual scope s.heap.objs.size f cd cl)
  N := N
  s₀ := s
  H₀ := H
  env := PySem.W.envX qual scope s.heap.objs.size f cd cl
  outer := outer
  stack := PySem.W.envX qual scope s.heap.objs.size f cd cl :: outer
  ex := []
  calm := true
  fn := fun _ => false
  pn := []
  xe := fun e s' => wpAny (model P w) (A.deeper (PySem.W.envX qual scope s.heap.objs.size f cd cl)) (leaving (PySem.W.envX qual scope s.heap.objs.size f cd cl) e) (fun _ s'' => CXO P w outer H s E e s'') (fun e' s'' => CXO P w outer H s E e' s'') s'
structure Lam (K : PySem.W.Frag) (H : Hp) (h : Heap) (f : Addr) (name qual : Str) (params : Arguments) (body : Expr) (scope : Scope) (cl : List (Str × Addr)) (pm ctv : Value) (c' : Addr) (N : List Str) (σ : St) : Prop where
  obj : h.get? f = some (PySem.W.kla_obj name qual params body scope cl pm c' ctv)
  code : h.CodeRec (.ref c') qual
  free : ∀ x c, cl.lookup x = some c → H c = none ∧ ∃ v, h.IsCell c v
  inj : ∀ x y c, cl.lookup x = some c → cl.lookup y = some c → x = y
  has : ∀ x, (scope.names.lookup x = some .cell ∨ scope.names.lookup x = some .free) → ∃ c, cl.lookup x = some c
  vals : ∀ (i : Nat) (x : Str) (v : V), N[i]? = some x → σ[i]? = some (some v) → ∃ u c, RelV v u ∧ cl.lookup x = some c ∧ h.IsCell c (some u) ∧ scope.names.lookup x = some .free
  len : σ.length = N.length
section
variable {P : Program} {w : World} {K : PySem.W.Frag} {mg : Str → Option Value} {base : Heap} {N : List Str} {name qual : Str} {scope : Scope} {f c' : Addr} {A : Around} {outer : List Env} {s : Shared} {H : Hp} {E : XK} {cl : List (Str × Addr)} {params : Arguments} {body : Expr} {pm ctv : Value} {σ : St} {Q : VK} {k : Nat} {te : TE}
end
section
variable {X : Cx} {N : List Str} {name qual : Str} {scope : Scope} {f c' : Addr} {E : XK} {cl : List (Str × Addr)} {params : Arguments} {body : Expr} {pm ctv : Value} {σl : St} {k i : Nat} {te : TE} {x : Str} {p pos : Pos}
theorem Lam.on {pins : List (Addr × Obj)} {σ : St} {s : Shared} (L : Lam X.K X.H₀ X.s₀.heap f name qual params body scope cl pm ctv c' N σl) (hf : X.H₀ f = none ∧ f ∉ X.fs) (hc : X.H₀ c' = some (.ext fun h => h.CodeRec (.ref c') qual)) (hcl : ∀ x c, cl.lookup x = some c → c ∉ X.fs) (hex : X.ex = [])
    (I : Inv X pins σ X.H₀ s) : Lam X.K X.H₀ s.heap f name qual params body scope cl pm ctv c' N σl := by
  have nx : ∀ b : Addr, b ∉ X.ex := fun b => by rw [hex]; simp
  have ck : ∀ y c v, cl.lookup y = some c → X.s₀.heap.IsCell c v → s.heap.IsCell c v := fun y c v e ⟨o, q, d⟩ => ⟨o, I.base.keep c o q (L.free y c e).1 (hcl y c e) (nx c), d⟩
  refine ⟨I.base.keep f _ L.obj hf.1 hf.2 (nx f), (I.hok c' _ hc).1, fun y c e => ?_, L.inj, L.has, fun j y v e1 e2 => ?_, L.len⟩
  · obtain ⟨n, v, z⟩ := L.free y c e
    exact ⟨n, v, ck y c v e z⟩
  · obtain ⟨u, c, r, e, z, q⟩ := L.vals j y v e1 e2
    exact ⟨u, c, r, e, ck y c _ e z, q⟩
end
end L2
set_option Elab.async false
set_option linter.all false
set_option maxRecDepth 100000
set_option maxHeartbeats 4000000
namespace L2
open PySem PySem.Spec PyProof.Rows
def CTab (H : Hp) (ps : Array Value) (qual : Str) : Prop := TriplesOk ps.toList ∧ ∀ q v, codeAmong q ps.toList = some v → ∃ c', v = .ref c' ∧ H c' = some (.ext fun h => h.CodeRec (.ref c') qual)
structure LawTab (X : Cx) (c P : Addr) : Prop where
  code : X.env.code = .ref c
  hd : PySem.W.CodeHd X.base c P
  bt : ∃ bm ob, X.mg "__builtins__" = some (.ref bm) ∧ bm ≠ builtinsNs ∧ X.base.get? bm = some ob ∧ ob.cls = .type "module" ∧ ob.dict = some builtinsNs ∧ ob.data = .plain
section
variable {X : Cx} {pins : List (Addr × Obj)} {σ : St} {H : Hp} {s : Shared} {c P : Addr} {ps : Array Value} {params : Arguments} {body : Expr} {scope : Scope} {pos : Pos} {A : Around} {E : Value → Shared → Prop} {Q : Value → Shared → Prop}
structure Made (X : Cx) (pins : List (Addr × Obj)) (σ : St) (H : Hp) (P : Addr) (qual : Str) (params : Arguments) (body : Expr) (scope : Scope) (H' : Hp) (s' : Shared) (f c' : Addr) (pm ctv : Value) : Prop where
  inv : Inv X pins σ H' s'
  tab : ∃ ps', H' P = some (.tbl ps') ∧ CTab H' ps' qual
  code : H' c' = some (.ext fun h => h.CodeRec (.ref c') qual)
  keep : ∀ b o, H b = some o → b ≠ P → H' b = some o
  mod : ∀ b xs, H b = none → kTup X.K b = some xs → H' b = none
  obj : s'.heap.get? f = some (PySem.W.kla_obj "<lambda>" qual params body scope (closL X.env scope.names []) pm c' ctv)
  free : H' f = none
  above : X.s₀.heap.objs.size ≤ f
end
section
variable {X : Cx} {pins : List (Addr × Obj)} {σ : St} {H H' : Hp} {s' : Shared} {P f c' : Addr} {qual : Str} {params : Arguments} {body : Expr} {scope : Scope} {pm ctv : Value} {N : List Str} {src : List (Option Nat)}
theorem Made.lam (M : Made X pins σ H P qual params body scope H' s' f c' pm ctv) (c : Cap X scope N src) : Lam X.K H' s'.heap f "<lambda>" qual params body scope (closL X.env scope.names []) pm ctv c' N (pick σ src) := by
  have I := M.inv
  refine ⟨M.obj, (I.hok c' _ M.code).1, fun x d e => ⟨I.freeC x d (clos_look e), I.cell x d (clos_look e)⟩, fun x y d e1 e2 => I.ok.inj x y d (clos_look e1) (clos_look e2), fun x h => ?_, fun i x v e1 e2 => ?_, by unfold pick; rw [List.length_map]; exact c.len.symm⟩
  · have m : (x, NameKind.free) ∈ scope.names := by
      rcases h with h | h
      · exact absurd rfl (c.cell _ (lookup_mem h))
      · exact lookup_mem h
    obtain ⟨d, hd⟩ := I.ok.has x (c.free m)
    exact ⟨d, clos_has m hd⟩
  · obtain ⟨j, e3, e4⟩ := pick_some e2
    obtain ⟨a1, a2, a3⟩ := c.at_ e1 e3
    obtain ⟨m, _, hl⟩ := I.loc
    have vis : Vis X.env.scope x := by
      rcases a2 with z | z
      · exact .inr (.inl z)
      · exact .inr (.inr z)
    obtain ⟨u, r, q⟩ := hl j x v a1 e4 vis
    rcases q with ⟨z, _⟩ | ⟨_, d, e, z⟩
    · rw [z] at a2
      rcases a2 with z | z <;> cases z
    · exact ⟨u, d, r, clos_has (lookup_mem a3) e, z, a3⟩
theorem Made.apart (M : Made X pins σ H P qual params body scope H' s' f c' pm ctv) (hfn : ∀ x, X.fn x = true) : f ∉ frs X.stack ∧ ∀ x d, (closL X.env scope.names []).lookup x = some d → d ∉ frs X.stack := by
  have I := M.inv
  have old : ∀ b, X.s₀.heap.objs.size ≤ b → b ∉ X.fs := fun b hb z => by
    obtain ⟨_, o, e, _⟩ := I.ok.funs.mem z
    exact absurd (Nat.lt_of_lt_of_le (Heap.lt_size e) hb) (Nat.lt_irrefl _)
  refine ⟨fun z => ?_, fun x d e z => ?_⟩
  · rcases List.mem_cons.mp (I.stkSub f z) with q | q
    · obtain ⟨m, ⟨o, es, ep, e, k, _⟩, _⟩ := I.loc
      rw [← q, M.obj] at e
      cases e
      cases k
    · exact old f M.above q
  · rcases List.mem_cons.mp (I.stkSub d z) with q | q
    · exact I.cne x d (clos_look e) q
    · exact old d (I.ok.cab x d (hfn x) (clos_look e)) q
end
section
variable {P : Program} {w : World} {K : PySem.W.Frag} {mg : Str → Option Value} {base : Heap} {x qual : Str} {st : Stmt} {f : Addr} {fd : FuncData} {N ps : List Str} {k : Nat}
theorem Fun.okX {sp : Sp} (F : Fun K x qual st f fd) (S : FnScope N ps (defScope st)) (len : ∀ vs H Q E, sp vs H Q E → vs.length = ps.length)
    (hbody : ∀ (cdv : Value) (A : Around) (outer : List Env) (s : Shared) (H : Hp) (vs : List V) (Q : VK) (E : XK), Room k (A.deeper (envOfC qual (defScope st) s.heap.objs.size f cdv)) → sp vs H Q E →
      ∃ t, JB (cxOf (CXO P w) P w K mg base N qual (defScope st) f cdv A outer s H E) (defBody st) t ∧ t { nx := fun _ H' => Q .non H', rt := Q } (start N vs) H) : FnOk P w K mg base (CXO P w) (k + 1) f fd ps sp := by
  obtain ⟨oc, od, kV, doc, pm, an, cdv, ct, osl, rfl, lk, hcd⟩ := F.ex
  refine fn_of lk hcd S len fun A outer s H vs Q E hr hsp => ?_
  obtain ⟨t, h, q⟩ := hbody cdv A outer s H vs Q E hr hsp
  exact ⟨t, h.h, q⟩
structure CalleeX (P : Program) (w : World) (K : PySem.W.Frag) (mg : Str → Option Value) (base : Heap) (x : Str) (k : Nat) (ps : List Str) (sp : Sp) : Prop where
  ex : ∃ (f : Addr) (fd : FuncData), FnOk P w K mg base (CXO P w) k f fd ps sp ∧ Binds K fd ps [] ∧ PySem.W.keepIn K (.ref f) = true ∧ mg x = some (.ref f)
theorem ecallX {X : Cx} {E : XK} {sp : Sp} {e : Expr} {es : List Expr} {t : TA} {p pos : Pos} {y : Str} (C : CalleeX X.prog X.w X.K X.mg X.base y k ps sp) (hx : Passes (CXO X.prog X.w) X E) (hr : Room k X.A) (hg : Gl X y) (ha : JA X (e :: es) t)
    (hdb : (y == ("__debug__" : Str)) = false := by decide) (he : starEach (e :: es) X.env = (false, eval e X.env) :: starEach es X.env := by rfl) (hpl : (backTo pos (starEach es X.env)).any (·.1) = false := by rfl) :
    JE X (.Call (.Name y p) (e :: es) [] pos) (tCall sp [] E t) := ⟨by
  obtain ⟨f, fd, F, b, kp, m⟩ := C.ex
  exact pe_call F hr hg m kp b .nil hx ha.h hdb he hpl⟩
end
end L2
set_option Elab.async false
set_option linter.all false
set_option maxRecDepth 100000
set_option maxHeartbeats 4000000
namespace L2
open PySem PySem.Spec PyProof.Rows
section
variable {X : Cx}
theorem call_isexc : CallR X (.builtin "isinstance") (fun xs H Q => ∃ a C D b, xs = [.ref a, .ref D] ∧ H a = some (.ext (XAt a C)) ∧ ExcI X.K C ∧ PySem.W.kitOne X.K (.ref C) (.ref D) = some b ∧ Q (.bl b) H) := by
  rintro pins s σ H xs us Q I r ⟨a, C, D, b, rfl, hx, F, e, q⟩
  obtain ⟨u, w', rfl, ru, rw'⟩ := vals2 r
  cases (show w' = Value.ref D from rw')
  cases (show u = Value.ref a from ru)
  exact PySem.W.kia_one (kitx_exc F) I.kIn (I.hok a _ hx).1 e (fun z => nomatch z) fun tk => ⟨.bl b, H, I.tok tk, rfl, q⟩
end
end L2
set_option Elab.async false
set_option linter.all false
set_option maxRecDepth 100000
set_option maxHeartbeats 4000000
namespace L2
open PySem PySem.Spec PyProof.Rows
structure LamSc (params : Arguments) (body : Expr) (scope : Scope) : Prop where
  kind : scope.kind = .function
  co : scope.isCoroutine = false
  gen : scope.isGenerator = false
  cell : ∀ x ∈ scope.names, x.2 ≠ .cell
  bind : ∀ (name qual : Str) (cl : List (Str × Addr)) (pm ctv : Value) (c' : Addr), bindArgs (PySem.W.kla_fn name qual params body scope cl pm (.ref c') ctv) ⟨[], []⟩ = pure []
structure LamAt (K : PySem.W.Frag) (outer : List Env) (s : Shared) (H : Hp) (f c' : Addr) (name qual : Str) (params : Arguments) (body : Expr) (scope : Scope) (cl : List (Str × Addr)) (pm ctv : Value) (N : List Str) (σl : St) : Prop where
  lam : Lam K H s.heap f name qual params body scope cl pm ctv c' N σl
  free : H f = none ∧ f ∉ frs outer
  code : H c' = some (.ext fun h => h.CodeRec (.ref c') qual)
  cls : ∀ x d, cl.lookup x = some d → d ∉ frs outer
  sc : LamSc params body scope
structure Asker (P : Program) (w : World) (K : PySem.W.Frag) (mg : Str → Option Value) (base : Heap) (y : Str) (k : Nat) (tw : (XK → TE) → St → Hp → VK → Prop) : Prop where
  up : ∀ te te' : XK → TE, (∀ E σ H Q, te E σ H Q → te' E σ H Q) → ∀ σ H Q, tw te σ H Q → tw te' σ H Q
  ex : ∃ fW, PySem.W.keepIn K (.ref fW) = true ∧ mg y = some (.ref fW) ∧ ∀ (A : Around) (outer : List Env) (s : Shared) (H : Hp) (f c' : Addr) (name qual : Str) (params : Arguments) (body : Expr) (scope : Scope) (cl : List (Str × Addr)) (pm ctv : Value) (N : List Str) (σl : St) (te : XK → TE) (Q : VK),
    (∀ E E' σ H Q Q', te E σ H Q → (∀ c x H', E c x H' → E' c x H') → (∀ v H', Q v H' → Q' v H') → te E' σ H Q') → Room (k + 2) A → Env0 P w K mg base A outer s H → LamAt K outer s H f c' name qual params body scope cl pm ctv N σl →
    (∀ (E : XK) (A' : Around) (outer' : List Env) (s1 : Shared), Room k (A'.deeper (PySem.W.envX qual scope s1.heap.objs.size f (.ref c') cl)) → JE (lamCx P w K mg base N qual scope f (.ref c') A' outer' s1 H E cl) body (te E)) → tw te σl H Q →
    codeAny (model P w) A (.call (.ref fW) ⟨[.ref f], []⟩) (CR CX0 outer P w H s Q fun _ _ _ => False) s
structure Tabd (K : PySem.W.Frag) (T : Addr) (qual : Str) (H H' : Hp) : Prop where
  tab : ∃ ps, H' T = some (.tbl ps) ∧ CTab H' ps qual
  keep : ∀ b o, H b = some o → b ≠ T → H' b = some o
  mod : ∀ b xs, H b = none → kTup K b = some xs → H' b = none
end L2
set_option Elab.async false
set_option linter.all false
set_option maxRecDepth 100000
set_option maxHeartbeats 4000000
namespace L2
open PySem PySem.Spec PyProof.Rows HT
section
variable {prog : Program} {w : World} {A : Around} {E : Value → Shared → Prop} {s : Shared}
theorem getItem_tuple_all {t sl : Addr} {items : Array Value} {vl vu : Value} {lo hi : Option Int} {Q : Value → Shared → Prop} (ht : IsTup s.heap t items) (hs : s.heap.IsSliceOf sl vl vu .none) (pl : IsPart vl lo) (pu : IsPart vu hi)
    (hw : sIx items.size 0 lo = 0 ∧ sIx items.size items.size hi = items.size) (h : Q (.ref t) s) : wpAny (model prog w) A (getItem (.ref t) (.ref sl)) Q E s := by
  obtain ⟨os, hos, hcs, hds⟩ := id hs
  have hTs : s.TypeIs (.ref sl) "slice" := ⟨os, hos, hcs⟩
  unfold getItem
  refine wpAny_holding ?_
  first | refine wpAny_bind (wpAny_pure ?_) | skip
  refine wpAny_bind (wpAny_sequenceKey ht.typeIs (by decide) ?_)
  refine wpAny_bind (wpAny_callSpecial?_slot (name := Str.ofString "__getitem__") ht.typeIs PyProof.Rows.slot_tuple_getitem
    (wpAny_call_entry PyProof.Rows.slot_tuple_getitem ht.typeIs entry_tuple_getitem ?_ (args_tuple_getitem _ _)))
  show wpAny _ _ (Builtin.Tuple.tupleItemsOf (.ref t) >>= _) _ _ s
  refine wpAny_bind (tupleItemsOf_ ht ?_)
  refine wpAny_bind (wpAny_typeOf hTs ?_)
  rw [if_pos (by decide)]
  refine wpAny_bind (sliceApplied_gen hs pl pu ?_)
  have hyes : ((((sIx items.size 0 lo : Nat) : Int) == 0 && (1 : Int) == 1 && (sIx items.size items.size hi - sIx items.size 0 lo) == items.size) = true) := by
    rw [hw.1, hw.2]
    simp
  show wpAny _ _ (if (((sIx items.size 0 lo : Nat) : Int) == 0 && (1 : Int) == 1 && (sIx items.size items.size hi - sIx items.size 0 lo) == items.size) = true then _ else _) _ _ s
  rw [if_pos hyes]
  unfold Builtin.Tuple.tupleIsExact
  refine wpAny_bind (wpAny_bind (wpAny_typeOf ht.typeIs (wpAny_pure ?_)))
  rw [if_pos (by decide)]
  exact wpAny_bind (wpAny_rule (wpAny_pure ⟨_, rfl, wpAny_pure h⟩))
end
theorem ex_seal {X : Cx} {all rest : List Stmt} {t2 : TS} {G : TS → Prop} (h2 : JB X rest t2) (k : ∀ r, JB X rest r → r = t2 → ∃ t, JB X all t ∧ G t) : ∃ t, JB X all t ∧ G t := k t2 h2 rfl
theorem cxN {CX : CXT} {P : Program} {w : World} {K : PySem.W.Frag} {mg : Str → Option Value} {base : Heap} {N : List Str} {qual : Str} {scope : Scope} {f : Addr} {cd : Value} {A : Around} {outer : List Env} {s : Shared} {H : Hp} {E : XK} : (cxOf CX P w K mg base N qual scope f cd A outer s H E).N = N := rfl
section
variable {X : Cx}
def rSlTW (K : PySem.W.Frag) : V → Option Int → Option Int → Hp → VK → Prop := fun x lo hi H Q => ∃ a xs, x = .ref a ∧ tupQ K H a = some xs ∧
  (if HT.sIx xs.length 0 lo = 0 ∧ HT.sIx xs.length xs.length hi = xs.length then Q (.ref a) H else ∀ p, L2.new K H p → Q (.ref p) (upd H p (.tup (cutV xs lo hi))))
theorem sl_tupW : SlR X (rSlTW X.K) := by
  intro pins s σ H x v vl vu lo hi sl Q I rx hs pl pu h
  obtain ⟨a, xs, rfl, hx, h⟩ := h
  split at h
  · rename_i hw
    cases rx
    obtain ⟨its, r, ht, hz⟩ := I.tuple (tupQ_sq hx)
    have hlen : its.toArray.size = xs.length := by rw [List.size_toArray]; exact r.length.symm
    refine ⟨"tuple", _, PyProof.Rows.slot_tuple_getitem.lookup, ht.typeIs, ?_⟩
    exact getItem_tuple_all ht hs pl pu (by rw [hlen]; exact hw) ⟨.ref a, H, I, rfl, h⟩
  · rename_i hw
    exact sl_tupQ pins s σ H (.ref a) v vl vu lo hi sl Q I rx hs pl pu ⟨a, xs, rfl, hx, hw, h⟩
def rCatTQ (K : PySem.W.Frag) : R2 := fun x y H Q => ∃ a b xs ys, x = .ref a ∧ y = .ref b ∧ tupQ K H a = some xs ∧ tupQ K H b = some ys ∧ xs ≠ [] ∧ xs.length + ys.length ≤ sizeLine ∧
  (if ys = [] then Q (.ref a) H else ∀ p, L2.new K H p → Q (.ref p) (upd H p (.tup (xs ++ ys))))
theorem op_catTQ : OpR X (binaryOp .Add) (rCatTQ X.K) := by
  intro pins s σ H x y v u Q I rx ry h
  obtain ⟨a, b, xs, ys, rfl, rfl, ha, hb, hx, hz, h⟩ := h
  refine thn (op_catT pins s σ H _ _ v u (fun v' H' => (ys = [] ∧ v' = .ref a ∧ H' = H) ∨ (ys ≠ [] ∧ ∃ l, H l = none ∧ v' = .ref l ∧ H' = upd H l (.tup (xs ++ ys)))) I rx ry ⟨a, b, xs, ys, rfl, rfl, tupQ_sq ha, tupQ_sq hb, hx, hz, fun e => .inl ⟨e, rfl, rfl⟩, fun e l hl => .inr ⟨e, l, hl, rfl, rfl⟩⟩) fun u' s' ⟨v', H', I', rv, q⟩ => ?_
  rcases q with ⟨e, rfl, rfl⟩ | ⟨e, l, hl, rfl, rfl⟩
  · rw [if_pos e] at h
    exact ⟨_, _, I', rv, h⟩
  · rw [if_neg e] at h
    exact ⟨_, _, I', rv, h l ⟨hl, I'.notMod upd_same⟩⟩
def rSlTX (K : PySem.W.Frag) : V → Option Int → Option Int → Hp → VK → Prop := fun x lo hi H Q => ∃ a xs, x = .ref a ∧ tupQ K H a = some xs ∧ ∀ q H', tupQ K H' q = some (cutV xs lo hi) → Ext K H H' → Q (.ref q) H'
theorem sl_tupX : SlR X (rSlTX X.K) := by
  intro pins s σ H x v vl vu lo hi sl Q I rx hs pl pu h
  obtain ⟨a, xs, rfl, hx, h⟩ := h
  refine sl_tupW pins s σ H (.ref a) v vl vu lo hi sl Q I rx hs pl pu ⟨a, xs, rfl, hx, ?_⟩
  split
  · rename_i hw
    refine h a H ?_ Ext.refl
    have : cutV xs lo hi = xs := by
      unfold cutV
      rw [hw.1, hw.2]
      simp
    rw [this]
    exact hx
  · exact fun p np => h p _ tupQ_updT (Ext.new np)
def rCatTX (K : PySem.W.Frag) : R2 := fun x y H Q => ∃ a b xs ys, x = .ref a ∧ y = .ref b ∧ tupQ K H a = some xs ∧ tupQ K H b = some ys ∧ xs ≠ [] ∧ xs.length + ys.length ≤ sizeLine ∧ ∀ q H', tupQ K H' q = some (xs ++ ys) → Ext K H H' → Q (.ref q) H'
theorem op_catTX : OpR X (binaryOp .Add) (rCatTX X.K) := by
  intro pins s σ H x y v u Q I rx ry h
  obtain ⟨a, b, xs, ys, rfl, rfl, ha, hb, hx, hz, h⟩ := h
  refine op_catTQ pins s σ H _ _ v u Q I rx ry ⟨a, b, xs, ys, rfl, rfl, ha, hb, hx, hz, ?_⟩
  split
  · rename_i e
    refine h a H ?_ Ext.refl
    rw [e, List.append_nil]
    exact ha
  · exact fun p np => h p _ tupQ_updT (Ext.new np)
theorem call_isexcK (K : PySem.W.Frag) (hk : X.K = K := by rfl) : CallR X (.builtin "isinstance") (fun xs H Q => ∃ a C D b, xs = [.ref a, .ref D] ∧ H a = some (.ext (XAt a C)) ∧ ExcI K C ∧ PySem.W.kitOne K (.ref C) (.ref D) = some b ∧ Q (.bl b) H) := by subst hk; exact call_isexc
end
structure XT (K : PySem.W.Frag) (T : Addr) (q : Str) (H H' : Hp) : Prop where
  was : ∃ ps, H T = some (.tbl ps)
  tab : ∃ ps, H' T = some (.tbl ps) ∧ CTab H' ps q
  keep : ∀ b o, H b = some o → b ≠ T → H' b = some o
  mod : ∀ b xs, H b = none → kTup K b = some xs → H' b = none
section
variable {K : PySem.W.Frag} {T : Addr} {q : Str} {H H1 H2 : Hp}
theorem CTab.ext {ps : Array Value} (h : CTab H ps q) (x : ∀ b o, H b = some o → (∀ ps, o ≠ .tbl ps) → H1 b = some o) : CTab H1 ps q := ⟨h.1, fun p v e => by
  obtain ⟨c, rfl, hc⟩ := h.2 p v e
  exact ⟨c, rfl, x _ _ hc nofun⟩⟩
theorem XT.refl (h : ∃ ps, H T = some (.tbl ps) ∧ CTab H ps q) : XT K T q H H := ⟨let ⟨ps, e, _⟩ := h; ⟨ps, e⟩, h, fun _ _ e _ => e, fun _ _ e _ => e⟩
theorem XT.trans (x : XT K T q H H1) (y : XT K T q H1 H2) : XT K T q H H2 := ⟨x.was, y.tab, fun b o e n => y.keep b o (x.keep b o e n) n, fun b xs e k => y.mod b xs (x.mod b xs e k) k⟩
theorem XT.ext (x : XT K T q H H1) (y : Ext K H1 H2) : XT K T q H H2 := by
  obtain ⟨ps, e, c⟩ := x.tab
  exact ⟨x.was, ⟨ps, y.same _ _ e, c.ext fun b o h _ => y.same b o h⟩, fun b o e n => y.same _ _ (x.keep b o e n), fun b xs e k => y.mod b xs (x.mod b xs e k) k⟩
theorem XT.at (x : XT K T q H H1) {b : Addr} {o : HO} (h : H b = some o) (n : ∀ ps, o ≠ .tbl ps) : H1 b = some o := x.keep b o h fun z => by
  obtain ⟨ps, e⟩ := x.was
  rw [z, e] at h
  cases h
  exact n _ rfl
theorem XT.tup (x : XT K T q H H1) {a : Addr} {vs : List V} (h : tupQ K H a = some vs) : tupQ K H1 a = some vs := by
  unfold tupQ at h ⊢
  split at h
  · next e => rw [x.at e nofun]; exact h
  · cases h
  · next e => rw [x.mod a vs e h]; exact h
end
end L2
set_option Elab.async false
set_option linter.all false
set_option maxRecDepth 100000
set_option maxHeartbeats 4000000
namespace L2
open PySem PySem.Spec PyProof.Rows
section
variable {X : Cx}
end
section
variable {X : Cx}
def rCatTX0 (K : PySem.W.Frag) : R2 := fun x y H Q => ∃ a b xs ys, x = .ref a ∧ y = .ref b ∧ tupQ K H a = some xs ∧ tupQ K H b = some ys ∧ xs.length + ys.length ≤ sizeLine ∧ ∀ q H', tupQ K H' q = some (xs ++ ys) → Ext K H H' → Q (.ref q) H'
end
mutual
theorem eqv_refl : ∀ (d : PyData), d.canLay0 = true → PyData.eqv d d = true
  | .none, _ => by simp [PyData.eqv]
  | .bool b, _ => by simp [PyData.eqv]
  | .int i, _ => by simp [PyData.eqv]
  | .str x, _ => by simp [PyData.eqv]
  | .list ds, h => by
    simp only [PyData.canLay0] at h
    simp only [PyData.eqv]
    exact eqvAll_refl ds h
  | .tuple ds, h => by
    simp only [PyData.canLay0] at h
    simp only [PyData.eqv]
    exact eqvAll_refl ds h
  | .dict _, h => by simp [PyData.canLay0] at h
theorem eqvAll_refl : ∀ (ds : List PyData), PyData.canLayAll0 ds = true → PyData.eqvAll ds ds = true
  | [], _ => by simp [PyData.eqvAll]
  | d :: ds, h => by
    simp only [PyData.canLayAll0, Bool.and_eq_true] at h
    simp only [PyData.eqvAll, Bool.and_eq_true]
    exact ⟨eqv_refl d h.1, eqvAll_refl ds h.2⟩
end
end L2
set_option Elab.async false
set_option linter.all false
set_option maxRecDepth 100000
set_option maxHeartbeats 4000000
namespace L2
open PySem PySem.Spec PyProof.Rows
section
variable {X : Cx} {o e value : Expr} {f : Str} {pos pos' tpos p : Pos} {ta tv te : TE}
theorem efld (he : JE X e ta) (hb : attributeBase e f X.env (eval e X.env) = eval e X.env := by rfl) : JE X (.Attribute e f pos) (tFld X.K ta f) := ⟨pe_fld he.h hb⟩
theorem sfld (ha : JE X o ta) (hv : JE X value tv) (hs : swapsWith value (some (.Attribute o f pos')) pos.line X.env = pure false := by rfl) : JS X (.Assign [.Attribute o f pos'] value pos) (sFld X.K ta tv f) := ⟨ps_fld ha.h hv.h hs⟩
end
structure FunD (K : PySem.W.Frag) (x qual : Str) (st : Stmt) (f : Addr) (fd : FuncData) : Prop where
  ex : ∃ (oc : Value) (od : Option Addr) (dV kV doc pm : Value) (an : Option Addr) (cdv ct : Value) (osl : Array (Option Value)),
    fd = PySem.W.fnOf x qual (defArgs st) (defBody st) (defScope st) dV kV doc pm an cdv ct ∧ K.lookup f = some ⟨oc, od, .func fd, osl⟩ ∧ PySem.W.codeIn K cdv qual = true
section
variable {P : Program} {w : World} {K : PySem.W.Frag} {mg : Str → Option Value} {base : Heap} {x qual : Str} {st : Stmt} {f : Addr} {fd : FuncData} {N ps : List Str} {k : Nat} {sp : Sp}
theorem fund_mk {oc : Value} {od an : Option Addr} {osl : Array (Option Value)} {dV kV doc pm cdv ct : Value} (l : K.lookup f = some ⟨oc, od, .func (PySem.W.fnOf x qual (defArgs st) (defBody st) (defScope st) dV kV doc pm an cdv ct), osl⟩)
    (c : PySem.W.codeIn K cdv qual = true) : FunD K x qual st f (PySem.W.fnOf x qual (defArgs st) (defBody st) (defScope st) dV kV doc pm an cdv ct) := ⟨oc, od, dV, kV, doc, pm, an, cdv, ct, osl, rfl, l, c⟩
theorem FunD.okX (F : FunD K x qual st f fd) (S : FnScope N ps (defScope st)) (len : ∀ vs H Q E, sp vs H Q E → vs.length = ps.length)
    (hbody : ∀ (cdv : Value) (A : Around) (outer : List Env) (s : Shared) (H : Hp) (vs : List V) (Q : VK) (E : XK), Room k (A.deeper (envOfC qual (defScope st) s.heap.objs.size f cdv)) → sp vs H Q E →
      ∃ t, JB (cxOf (CXO P w) P w K mg base N qual (defScope st) f cdv A outer s H E) (defBody st) t ∧ t { nx := fun _ H' => Q .non H', rt := Q } (start N vs) H) : FnOk P w K mg base (CXO P w) (k + 1) f fd ps sp := by
  obtain ⟨oc, od, dV, kV, doc, pm, an, cdv, ct, osl, rfl, lk, hcd⟩ := F.ex
  refine fn_of lk hcd S len fun A outer s H vs Q E hr hsp => ?_
  obtain ⟨t, h, q⟩ := hbody cdv A outer s H vs Q E hr hsp
  exact ⟨t, h.h, q⟩
end
def tMakeQ (K : PySem.W.Frag) (C : Addr) (sp : Sp) (dvs : List V) (E : XK) (t : TA) : TE := fun σ H Q => t σ H fun vs H1 => ∀ x dx, new K H1 x → new K H1 dx → dx ≠ x →
  sp (.ref x :: (vs ++ dvs)) (upd (upd H1 dx (.own x)) x (.ins C dx [])) (fun v H2 => v = .non ∧ Q (.ref x) H2) E
structure MakerX (P : Program) (w : World) (K : PySem.W.Frag) (mg : Str → Option Value) (base : Heap) (x : Str) (k : Nat) (ps : List Str) (dvs : List V) (C : Addr) (sp : Sp) : Prop where
  ex : ∃ (f : Addr) (fd : FuncData) (ds : List Value), Mk K C f ∧ FnOk P w K mg base (CXO P w) k f fd ps sp ∧ Binds K fd ps ds ∧ Vals dvs ds ∧ mg x = some (.ref C)
section
variable {X : Cx} {CX : CXT} {k : Nat} {f C : Addr} {fd : FuncData} {ps : List Str} {sp : Sp} {dvs : List V} {ds : List Value} {E : XK} {y : Str} {p pos : Pos} {e : Expr} {es : List Expr} {t : TA}
theorem run_makeQ {pins : List (Addr × Obj)} {σ : St} {H : Hp} {s : Shared} {Q : VK} {us : List Value} {vs : List V} (M : Mk X.K C f) (F : FnOk X.prog X.w X.K X.mg X.base CX k f fd ps sp) (hr : Room (k + 1) X.A) (hb : Binds X.K fd ps ds) (hd : Vals dvs ds)
    (hx : Passes CX X E) (I : Inv X pins σ H s) (r : Vals vs us)
    (h : ∀ x dx, new X.K H x → new X.K H dx → dx ≠ x → sp (.ref x :: (vs ++ dvs)) (upd (upd H dx (.own x)) x (.ins C dx [])) (fun v H2 => v = .non ∧ Q (.ref x) H2) E) :
    wpAny (model X.prog X.w) X.A (call (.ref C) us) (EP X pins σ Q) X.xe s := by
  have I2 := Inv.made (C := C) I
  have hq := h (s.heap.objs.size + 1) s.heap.objs.size ⟨I.hok.fresh (Nat.le_succ _), I2.notMod upd_same⟩ I.new (Nat.ne_of_lt (Nat.lt_succ_self _))
  have r2 : Vals (V.ref (s.heap.objs.size + 1) :: (vs ++ dvs)) (Value.ref (s.heap.objs.size + 1) :: (us ++ ds)) := .cons rfl (r.append hd)
  have hl : (Value.ref (s.heap.objs.size + 1) :: us ++ ds).length = ps.length := by
    have e := r2.length
    rw [F.len _ _ _ _ hq] at e
    exact e.symm
  refine wpAny_call (make_map (f := f) I.kIn M.makes M.init (beq_iff_eq.mp M.fn) (codeAny_mono (F.run _ X.stack _ _ ⟨Value.ref (s.heap.objs.size + 1) :: us, []⟩ (Value.ref (s.heap.objs.size + 1) :: (us ++ ds)) _ _ E (hr.make C us [])
    (I2.env0.make C us []) (hb _ (Value.ref (s.heap.objs.size + 1) :: us) I2.kIn hl) r2 hq) fun r s' hq' => ?_))
  cases r with
  | error e => exact hx pins σ _ _ e s' I2 hq'
  | ok fl =>
    cases fl with
    | ret u =>
      obtain ⟨v, H', I3, rv, ev, q3⟩ := I2.after hq'
      subst ev
      exact ⟨rv, ⟨V.ref (s.heap.objs.size + 1), H', I3, rfl, q3⟩⟩
    | next => exact False.elim hq'
    | brk => exact False.elim hq'
    | cont => exact False.elim hq'
theorem emakeX (M : MakerX X.prog X.w X.K X.mg X.base y k ps dvs C sp) (hx : Passes (CXO X.prog X.w) X E) (hr : Room (k + 1) X.A) (hg : Gl X y) (ha : JA X (e :: es) t)
    (hdb : (y == ("__debug__" : Str)) = false := by decide) (he : starEach (e :: es) X.env = (false, eval e X.env) :: starEach es X.env := by rfl) (hpl : (backTo pos (starEach es X.env)).any (·.1) = false := by rfl) :
    JE X (.Call (.Name y p) (e :: es) [] pos) (tMakeQ X.K C sp dvs E t) := ⟨by
  intro pins s σ H Q I h
  obtain ⟨f, fd, ds, M, F, b, vd, mm⟩ := M.ex
  refine wpAny_Call_Name_kw (ld_glob I hg mm ?_ hdb)
  refine PySem.W.callWith_K (h₀ := X.base) I.ok.mod.kin M.kp (thn (ha.h pos pins s σ H _ I h) fun us s1 ⟨vs, H1, I1, r, q⟩ => ⟨I1.kIn, ?_⟩) he hpl
  exact run_makeQ M F hr b vd hx I1 r q⟩
theorem emakeX0 (M : MakerX X.prog X.w X.K X.mg X.base y k ps dvs C sp) (hx : Passes (CXO X.prog X.w) X E) (hr : Room (k + 1) X.A) (hg : Gl X y)
    (hdb : (y == ("__debug__" : Str)) = false := by decide) : JE X (.Call (.Name y p) [] [] pos) (tMakeQ X.K C sp dvs E tNil) := ⟨by
  intro pins s σ H Q I h
  obtain ⟨f, fd, ds, M, F, b, vd, mm⟩ := M.ex
  refine wpAny_Call_Name_kw (ld_glob I hg mm ?_ hdb)
  exact PySem.W.callWith_K0 I.kIn M.kp (run_makeQ (us := []) M F hr b vd hx I .nil h)⟩
end
theorem Ext.made {K : PySem.W.Frag} {H : Hp} {x dx : Addr} {o o' : HO} (n : L2.new K H x) (m : L2.new K H dx) (ne : dx ≠ x) : Ext K H (upd (upd H dx o') x o) :=
  (Ext.new m).trans (Ext.new (new_upd.mpr ⟨ne.symm, n⟩))
structure KDict (P : Program) (w : World) (K : PySem.W.Frag) (a : Addr) (vs : List (Key × Value)) : Prop where
  of : ∀ h : Heap, K.In h → h.DictOf (mixKind P w) a vs
  ne : (a == sysModules) = false
section
variable {X : Cx} {a : Addr} {vs : List (Key × Value)} {o i : Expr} {to ti : TE} {pos : Pos}
theorem op_inKD (d : KDict X.prog X.w X.K a vs) : OpR X (compareOp .In) (fun x y H Q => ∃ k, x = kV k ∧ y = .ref a ∧ Q (.bl (valueAt vs k).isSome) H) := by
  intro pins s σ H x y v u Q I rx ry h
  obtain ⟨k, rfl, rfl, q⟩ := h
  cases (show u = Value.ref a from ry)
  exact wpAny_in_of (kV_is rx) d.ne (d.of _ I.kIn).mapOf ⟨.bl _, H, I.tok _, rfl, q⟩
theorem ekdget (d : KDict X.prog X.w X.K a vs) (ho : JE X o to) (hi : JE X i ti) (hs : NoSl i) : JE X (.Subscript o i pos) (fun σ H Q => to σ H fun x H1 => ti σ H1 fun y H2 => ∃ k v u, x = .ref a ∧ y = kV k ∧ valueAt vs k = some u ∧ RelV v u ∧ Q v H2) := ⟨by
  intro pins s σ H Q I h
  refine subD_of PySem.F.slot_dict_getitem.lookup hs (thn (ho.h pins s σ H _ I h) fun u s1 ⟨x, H1, I1, rx, q1⟩ => thn (hi.h pins s1 σ H1 _ I1 q1) fun iv s2 ⟨y, H2, I2, ry, k, v, u', ex, ey, l, rv, q2⟩ => ?_)
  subst ex ey
  obtain rfl : u = Value.ref a := rx
  have dd := d.of _ I2.kIn
  refine ⟨?_, wpAny_getItem_of (kV_is ry) dd.mapOf l ⟨v, H2, I2.tok _, rv, q2⟩⟩
  exact dd.typeIs⟩
end
theorem kdict_strs {P : Program} {w : World} {K : PySem.W.Frag} {a : Addr} {es : List (Str × Tok × Value)} {n : Nat} (l : K.lookup a = some ⟨.type "dict", none, .dict (es.map fun e => (⟨PyData.keyHash w.params e.1, .str e.1 e.2.1, e.2.2⟩ : DictEntry)).toArray n, #[]⟩)
    (nd : (es.map fun e => ((.inr e.1 : Key))).Nodup) (ne : (a == sysModules) = false) : KDict P w K a (es.map fun e => ((.inr e.1 : Key), e.2.2)) := by
  refine ⟨fun h X => ⟨_, _, _, X a _ l, ⟨rfl, rfl, rfl⟩, rfl, ?_, ?_, ?_⟩, ne⟩
  · intro e he
    have he := Array.mem_toList_iff.mpr he
    rw [List.toList_toArray] at he
    obtain ⟨z, _, rfl⟩ := List.mem_map.mp he
    exact ⟨.inr z.1, by show (z.1 == z.1) = true; simp, rfl⟩
  · rw [List.toList_toArray]
    clear l nd
    induction es with
    | nil => exact .nil
    | cons z r ih => exact .cons (by show (z.1 == z.1) = true; simp) rfl ih
  · rw [List.map_map]
    exact nd
section
variable {X : Cx}
def rIndexS : V → List V → Hp → VK → Prop := fun x vs H Q => ∃ (l : Addr) (xs : List Str) (y : Str) (j : Nat), x = .ref l ∧ vs = [.str y] ∧ H l = some (.lst (xs.map V.str)) ∧ xs[j]? = some y ∧ (∀ m, m < j → xs[m]? ≠ some y) ∧ Q (.int j) H
theorem mt_indexS : MtM X "list.index" rIndexS := by
  intro pins s σ H x vs v us Q I rx rv h
  obtain ⟨l, xs, y, j, rfl, rfl, hH, hj, hm, q⟩ := h
  cases rx
  obtain ⟨u, rfl, ru⟩ := rv.one
  obtain ⟨z, its, n, r, hl, e⟩ := I.lstM hH
  have hlen : its.length = xs.length := by rw [← r.length, List.length_map]
  have hlt : j < xs.length := (List.getElem?_eq_some_iff.mp hj).1
  have hsz : its.toArray.size = xs.length := by simp [hlen]
  have hle : xs.length ≤ sizeLine := by simpa using z
  have fs : (xs.map V.str).all flatV = true := by rw [List.all_map]; exact List.all_eq_true.mpr fun _ _ => rfl
  have at_ : ∀ m (hm : m < its.length), ∃ z, xs[m]? = some z ∧ RelV (.str z) its[m] := fun m hm => by
    obtain ⟨w, hw, rw'⟩ := vals_at r (i := m) (u := its[m]) (List.getElem?_eq_getElem hm)
    rw [List.getElem?_map] at hw
    obtain ⟨z, hz, rfl⟩ := Option.map_eq_some_iff.mp hw
    exact ⟨z, hz, rw'⟩
  refine call_meets F.slot_list_index ⟨_, e, rfl⟩ F.entry_list_index (F.args_list_index_2 _ _) (SeqAt.list_indexAt l its.toArray n none #[] u (eqU (.str y)) j (by rw [hsz]; exact hlt) ?_ ?_ ?_) ⟨e, fun w hw => mem_eqAt ru rfl r fs w (by simpa using hw), ?_⟩
  · have : (sizeLine : Int) < 2 ^ 63 - 1 := by decide
    omega
  · obtain ⟨z, hz, rz⟩ := at_ j (by omega)
    rw [hj] at hz
    cases hz
    rw [List.getElem_toArray, eqU_of rz rfl]
    simp [eqV]
  · intro m hm1 hm2
    obtain ⟨z, hz, rz⟩ := at_ m (by omega)
    rw [List.getElem_toArray, eqU_of rz rfl]
    have := hm m hm2
    rw [hz] at this
    simp only [eqV]
    simpa using fun q => this (by rw [q])
  · exact ⟨.int j, H, I.tok _, ⟨_, rfl⟩, q⟩
end
section
variable {X : Cx}
end
end L2
set_option Elab.async false
set_option linter.all false
set_option maxRecDepth 100000
set_option maxHeartbeats 4000000
namespace HT
open PySem PySem.Spec PyProof.Rows
section
variable {prog : Program} {w : World} {A : Around} {E : Value → Shared → Prop} {s : Shared}
end
end HT
namespace L2
open PySem PySem.Spec PyProof.Rows
section
variable {X : Cx} {e : Expr} {te : TE} {pos : Pos}
end
end L2
set_option Elab.async false
set_option linter.all false
set_option maxRecDepth 100000
set_option maxHeartbeats 4000000
namespace L2
open PySem PySem.Spec PyProof.Rows
structure MethC (P : Program) (w : World) (K : PySem.W.Frag) (mg : Str → Option Value) (base : Heap) (C : Addr) (m : Str) (k : Nat) (ps : List Str) (dvs : List V) (sp : Sp) : Prop where
  ex : ∃ (f : Addr) (fd : FuncData) (ds : List Value), Meth K C m f ∧ FnOk P w K mg base CX0 k f fd ps sp ∧ Binds K fd ps ds ∧ Vals dvs ds
structure MethX (P : Program) (w : World) (K : PySem.W.Frag) (mg : Str → Option Value) (base : Heap) (C : Addr) (m : Str) (k : Nat) (ps : List Str) (dvs : List V) (sp : Sp) : Prop where
  ex : ∃ (f : Addr) (fd : FuncData) (ds : List Value), Meth K C m f ∧ FnOk P w K mg base (CXO P w) k f fd ps sp ∧ Binds K fd ps ds ∧ Vals dvs ds
structure Maker (P : Program) (w : World) (K : PySem.W.Frag) (mg : Str → Option Value) (base : Heap) (x : Str) (k : Nat) (ps : List Str) (dvs : List V) (C : Addr) (sp : Sp) : Prop where
  ex : ∃ (f : Addr) (fd : FuncData) (ds : List Value), Mk K C f ∧ FnOk P w K mg base CX0 k f fd ps sp ∧ Binds K fd ps ds ∧ Vals dvs ds ∧ mg x = some (.ref C)
section
variable {X : Cx} {k : Nat} {C : Addr} {ps : List Str} {sp : Sp} {dvs : List V} {E : XK} {m y : Str} {apos pos p : Pos} {o e value : Expr} {es : List Expr} {t : TA} {ta tv : TE} {pl : Sem Bool}
theorem emeth0 (M : MethC X.prog X.w X.K X.mg X.base C m k ps dvs sp) (c : Cls X.K C) (hr : Room k X.A) (ho : JE X o ta)
    (ht : eval (.Call (.Attribute o m apos) [] [] pos) X.env = (do
      let ov ← eval o X.env
      standAt apos.atName
      let (f, first) ← holding [ov] (getMethod ov m pl)
      callWith pos f first (backTo pos (starEach [] X.env)) (backToKw pos (keywordEach [] X.env))) := by rfl) :
    JE X (.Call (.Attribute o m apos) [] [] pos) (tMeth C m sp dvs E0 ta tNil) := ⟨by
  obtain ⟨f, fd, ds, hm, F, b, vd⟩ := M.ex
  exact pe_meth0 ho.h c hm F hr b vd pass0 ht⟩
end
section
variable {P : Program} {w : World} {K : PySem.W.Frag} {mg : Str → Option Value} {base : Heap} {x qual : Str} {st : Stmt} {f : Addr} {fd : FuncData} {N ps : List Str} {k : Nat} {sp : Sp}
theorem FunD.okJ (F : FunD K x qual st f fd) (S : FnScope N ps (defScope st)) (len : ∀ vs H Q E, sp vs H Q E → vs.length = ps.length)
    (hbody : ∀ (cdv : Value) (A : Around) (outer : List Env) (s : Shared) (H : Hp) (vs : List V) (Q : VK) (E : XK), Room k (A.deeper (envOfC qual (defScope st) s.heap.objs.size f cdv)) → sp vs H Q E →
      ∃ t, JB (cxOf CX0 P w K mg base N qual (defScope st) f cdv A outer s H E).nox (defBody st) t ∧ t { nx := fun _ H' => Q .non H', rt := Q } (start N vs) H) : FnOk P w K mg base CX0 (k + 1) f fd ps sp := by
  obtain ⟨oc, od, dV, kV, doc, pm, an, cdv, ct, osl, rfl, lk, hcd⟩ := F.ex
  refine fn_of lk hcd S len fun A outer s H vs Q E hr hsp => ?_
  obtain ⟨t, h, q⟩ := hbody cdv A outer s H vs Q E hr hsp
  exact ⟨t, h.h.nox, q⟩
end
section
variable {X : Cx}
theorem call_isinstC : CallR X (.builtin "isinstance") (fun xs H Q => ∃ x C t b, xs = [x, .ref C] ∧ TyOf X.K H x t ∧ PySem.W.kitOne X.K t (.ref C) = some b ∧ Q (.bl b) H) := by
  intro pins s σ H xs us Q I r h
  obtain ⟨x, C, t, b, rfl, ty, e, q⟩ := h
  obtain ⟨u, w', rfl, ru, rw'⟩ := vals2 r
  cases rw'
  exact isinst_ok I ru ty e fun tk => ⟨.bl b, H, I.tok tk, rfl, q⟩
end
end L2
set_option Elab.async false
set_option linter.all false
set_option maxRecDepth 100000
set_option maxHeartbeats 4000000
namespace L2
open PySem PySem.Spec PyProof.Rows
section
variable {X : Cx}
def rNeE (K : PySem.W.Frag) : R2 := fun x y H Q => ∃ l b xs, x = .ref l ∧ y = .ref b ∧ SqL K H l xs ∧ SqL K H b [] ∧ Q (.bl (!xs.isEmpty)) H
theorem op_neE (hu : X.A.units < cLine) : OpR X (compareOp .NotEq) (rNeE X.K) := by
  intro pins s σ H x y v u Q I rx ry h
  obtain ⟨l, b, xs, rfl, rfl, h1, h2, q⟩ := h
  cases rx
  cases ry
  obtain ⟨its, rv, p, _⟩ := I.list h1
  obtain ⟨its2, rv2, p2, _⟩ := I.list h2
  cases rv2
  have fin : ∀ k : Bool, k = (!xs.isEmpty) → EP X pins σ Q (.bool k) s := fun k e => ⟨.bl k, H, I, rfl, by rw [e]; exact q⟩
  cases rv with
  | nil => exact SeqAt.RcNeAt.lists (e := fun _ => true) p.isList p2.isList rfl hu (fun j h1 => by simp at h1) X.prog X.w X.xe _ (fin _ (by simp))
  | cons a b => exact SeqAt.RcNeAt.lists_lengths p.isList p2.isList (by simp) hu X.prog X.w X.xe _ (fin _ rfl)
end
section
variable {P : Program} {w : World} {A : Around} {E : Value → Shared → Prop} {s : Shared} {S : Addr} {vs : List (Key × Value)} {ep : Nat}
end
section
variable {X : Cx}
end
end L2
set_option Elab.async false
set_option linter.all false
set_option maxRecDepth 100000
set_option maxHeartbeats 4000000
namespace L2
open PySem PySem.Spec PyProof.Rows
section
variable {X : Cx}
end
end L2
set_option Elab.async false
set_option linter.all false
set_option maxRecDepth 100000
set_option maxHeartbeats 4000000
namespace L2
open PySem PySem.Spec PyProof.Rows
section
variable {X : Cx}
def rIsascii : V → List V → Hp → VK → Prop := fun x vs H Q => ∃ a, x = .str a ∧ vs = [] ∧ Q (.bl (Txt.isascii a)) H
theorem mt_isascii : MtR X "str.isascii" rIsascii := by
  intro pins s σ H x vs v us Q I rx rv h
  obtain ⟨a, rfl, rfl, q⟩ := h
  obtain ⟨t, rfl⟩ := rx
  cases rv
  exact call_meets PySem.F.slot_str_isascii (typeIs_str _ _ _) PySem.F.entry_str_isascii (PySem.F.args_str_isascii_1 _) (gives_str_isascii a t).meets (show (Made.val _).post _ s from ⟨.bl _, H, I, rfl, q⟩)
def rIsdigit : V → List V → Hp → VK → Prop := fun x vs H Q => ∃ a, x = .str a ∧ vs = [] ∧ Q (.bl (Txt.isdigit a)) H
theorem mt_isdigit : MtR X "str.isdigit" rIsdigit := by
  intro pins s σ H x vs v us Q I rx rv h
  obtain ⟨a, rfl, rfl, q⟩ := h
  obtain ⟨t, rfl⟩ := rx
  cases rv
  exact call_meets PySem.F.slot_str_isdigit (typeIs_str _ _ _) PySem.F.entry_str_isdigit (PySem.F.args_str_isdigit_1 _) (gives_str_isdigit a t).meets (show (Made.val _).post _ s from ⟨.bl _, H, I, rfl, q⟩)
def rRemPre : V → List V → Hp → VK → Prop := fun x vs H Q => ∃ a b, x = .str a ∧ vs = [.str b] ∧ a.length ≤ sizeLine ∧ Q (.str (Txt.removeprefix a b)) H
theorem mt_removeprefix : MtR X "str.removeprefix" rRemPre := by
  intro pins s σ H x vs v us Q I rx rv h
  obtain ⟨a, b, rfl, rfl, ha, q⟩ := h
  obtain ⟨t, rfl⟩ := rx
  obtain ⟨u, rfl, ru⟩ := vals1 rv
  obtain ⟨t2, rfl⟩ := ru
  exact call_meets PySem.F.slot_str_removeprefix (typeIs_str _ _ _) PySem.F.entry_str_removeprefix (PySem.F.args_str_removeprefix_2 _ _) (gives_str_removeprefix a b t t2).meets (post_affix ha _ fun t' k => ⟨.str _, H, I.tok k, ⟨t', rfl⟩, q⟩)
theorem vals_strs : ∀ (ts : List Str) (k : Nat), Vals (ts.map V.str) (strsFrom k ts)
  | [], _ => .nil
  | t :: ts, k => .cons ⟨_, rfl⟩ (vals_strs ts (k + 1))
def rSplit (K : PySem.W.Frag) : V → List V → Hp → VK → Prop := fun x vs H Q => ∃ a b, x = .str a ∧ vs = [.str b] ∧ (b.length == 0) = false ∧ a.length ≤ sizeLine ∧ (Txt.split a b).length ≤ sizeLine ∧ ∀ D, L2.new K H D → Q (.ref D) (upd H D (.lst ((Txt.split a b).map V.str)))
theorem mt_split : MtR X "str.split" (rSplit X.K) := by
  intro pins s σ H x vs v us Q I rx rv h
  obtain ⟨a, b, rfl, rfl, hb, ha, hn, q⟩ := h
  obtain ⟨t, rfl⟩ := rx
  obtain ⟨u, rfl, ru⟩ := vals1 rv
  obtain ⟨t2, rfl⟩ := ru
  have fin : ∀ {its : List Value} {k : Nat}, Vals ((Txt.split a b).map V.str) its → EP X pins σ Q (.ref s.heap.objs.size) { s with toks := k, heap := s.heap.push { cls := .type "list", data := .seq its.toArray } } := fun {its k} vv => by
    have I2 : Inv X pins σ (upd H s.heap.objs.size (.lst ((Txt.split a b).map V.str))) { s with toks := k, heap := s.heap.push { cls := .type "list", data := .seq its.toArray } } :=
      I.laid (t' := k) (fun b ob q => Heap.get?_push_of_some _ q) (Nat.le_refl _) ⟨by rw [List.length_map]; exact hn, its, 0, vv, Heap.get?_push_size _ rfl⟩
    exact ⟨.ref s.heap.objs.size, _, I2, rfl, q _ ⟨I.hok.fresh (Nat.le_refl _), I2.notMod upd_same⟩⟩
  have e1 : ∀ {ts : List Str}, Txt.split a b = ts → ∀ {its : List Value} {k : Nat}, Vals (ts.map V.str) its → EP X pins σ Q (.ref s.heap.objs.size) { s with toks := k, heap := s.heap.push { cls := .type "list", data := .seq its.toArray } } := fun {ts} e {its k} vv => fin (by rw [e]; exact vv)
  have one : Vals ([a].map V.str) [.str a t] := .cons ⟨t, rfl⟩ .nil
  cases h1 : (decide (a.length < b.length) || decide (Builtin.Str.strKind a < Builtin.Str.strKind b)) with
  | true => exact call_meets PySem.F.slot_str_split (typeIs_str _ _ _) PySem.F.entry_str_split (PySem.F.args_str_split_2 _ _) (meets_str_split_cannot_occur a b t t2 h1) (e1 (by unfold Txt.split; rw [if_pos h1]) (its := [.str a t]) (k := s.toks) one)
  | false =>
    cases h2 : (Builtin.Str.occurrences a b 0 a.length (a.length + 1)).isEmpty with
    | true => exact call_meets PySem.F.slot_str_split (typeIs_str _ _ _) PySem.F.entry_str_split (PySem.F.args_str_split_2 _ _) (meets_str_split_not_found a b t t2 h1 hb h2) (e1 (by unfold Txt.split; rw [h1, h2, if_neg (by decide), if_pos rfl]) (its := [.str a t]) (k := s.toks) one)
    | false =>
      have e2 : Txt.split a b = Builtin.Str.partsBetween a (Builtin.Str.occurrences a b 0 a.length (a.length + 1)) b.length := by unfold Txt.split; rw [h1, h2, if_neg (by decide), if_neg (by decide)]
      exact call_meets PySem.F.slot_str_split (typeIs_str _ _ _) PySem.F.entry_str_split (PySem.F.args_str_split_2 _ _) (meets_str_split_sep a b t t2 h1 hb h2 ha (e2 ▸ hn)) (e1 e2 (vals_strs _ _))
theorem call_intT : CallR X (.type "int") (fun xs H Q => ∃ a n, xs = [.str a] ∧ PySem.intText? a = some n ∧ a.length ≤ 640 ∧ Q (.int n) H) := by
  intro pins s σ H xs us Q I r h
  obtain ⟨a, n, rfl, hn, hl, q⟩ := h
  obtain ⟨u, rfl, ru⟩ := vals1 r
  obtain ⟨t, rfl⟩ := ru
  exact PySem.W.KIN.call_text hn hl ⟨.int n, H, I.tok _, ⟨_, rfl⟩, q⟩
end
end L2
set_option Elab.async false
set_option linter.all false
set_option maxRecDepth 100000
set_option maxHeartbeats 4000000
namespace L2
open PySem PySem.Spec PyProof.Rows PySem.W
section
variable {prog : Program} {w : World} {A : Around} {E : Value → Shared → Prop} {s : Shared}
theorem star_list {l : Addr} {items : Array Value} {n i : Nat} {Q : List Value → Shared → Prop} (hl : s.heap.IsList l items) (hh : A.handled = none) (hi : i < n) (hn : n ≤ items.size + 1) (hz : items.size ≤ sizeLine)
    (h : ∀ h₂ tk, Heap.ExtBut s.heap.objs.size s.heap h₂ → Q (items.toList.take i ++ [.ref h₂.objs.size] ++ (items.toList.drop i).drop (items.size + 1 - n))
      { s with heap := h₂.push { cls := .type "list", data := .seq ((items.toList.drop i).take (items.size + 1 - n)).toArray }, toks := tk }) : wpAny (model prog w) A (unpackItems (.ref l) n (some i)) Q E s := by
  have hlt : l ≠ s.heap.objs.size := by obtain ⟨o, ho, _⟩ := hl; exact Nat.ne_of_lt (Heap.lt_size ho)
  have hll : l < s.heap.objs.size := by obtain ⟨o, ho, _⟩ := hl; exact Heap.lt_size ho
  unfold unpackItems
  refine wpAny_bind ?_
  unfold notIterableAtAll
  refine wpAny_bind (wpAny_specialOf hl.typeIs slot_list_iter.lookup ?_)
  refine wpAny_pure ?_
  simp only [Bool.false_eq_true, if_false]
  refine wpAny_bind (wpAny_holding (wpAny_pyIter_list hl ?_))
  refine wpAny_bind (wpAny_holding (kun_draw hlt i 0 _ _ ⟨_, Heap.get?_push_size _ rfl, rfl, rfl⟩ (hl.push _) (by omega) fun h₁ hit₁ hs₁ => ?_))
  have hl₁ : h₁.IsList l items := (hl.push _).extBut hs₁.extBut hlt
  rw [Nat.zero_add] at hit₁
  have hit₁' := hit₁
  obtain ⟨oi, hoi, _⟩ := hit₁'
  have hl₁' := hl₁
  obtain ⟨ol, hol, _⟩ := hl₁'
  rw [List.drop_zero]
  have hfl : (items.toList.take i).length = i := by rw [List.length_take, Array.length_toList]; omega
  rw [if_neg (show ¬ ((items.toList.take i).length < i) by rw [hfl]; omega)]
  refine wpAny_bind (wpAny_holding (kun_collect (s := { s with heap := h₁ }) (T := "list_iterator") (.inr (.inr (.inl rfl))) (Walks.list (A := A.in1) hh s.heap.objs.size l hlt items) (fun j u st => st.1.typeIs) (k := i) (by omega) ⟨hit₁, hl₁⟩ (Heap.lt_size hoi) (Heap.lt_size hol) (fun h₂ tk hk => ?_) hz))
  have hrl : (items.toList.drop i).length = items.size - i := by rw [List.length_drop, Array.length_toList]
  have hmid : (items.toList.drop i).length - (n - 1 - i) = items.size + 1 - n := by rw [hrl]; omega
  show wpAny _ _ (if (items.toList.drop i).length < n - 1 - i then _ else _) _ _ _
  rw [if_neg (by rw [hrl]; omega)]
  show wpAny _ _ (newList ((items.toList.drop i).take ((items.toList.drop i).length - (n - 1 - i))) >>= fun d => pure (items.toList.take i ++ [d] ++ (items.toList.drop i).drop ((items.toList.drop i).length - (n - 1 - i)))) _ _ _
  rw [hmid]
  have he : Heap.ExtBut s.heap.objs.size s.heap h₂ := fun b o hb e => hk b o hb (hs₁.extBut b o hb (Heap.get?_push_of_some _ e))
  exact wpAny_bind (wpAny_newList (s := { s with heap := h₂, toks := tk }) (wpAny_pure (h h₂ tk he)) (by rw [List.length_take, hrl]; omega))
end
section
variable {X : Cx} {es : List Expr} {pos : Pos} {e : Expr}
theorem vals_take {vs : List V} {us : List Value} (h : Vals vs us) : ∀ n : Nat, Vals (vs.take n) (us.take n) := by
  induction h with
  | nil => intro n; simp; exact .nil
  | cons a b ih => intro n; cases n with
    | zero => exact .nil
    | succ n => exact .cons a (ih n)
theorem vals_drop {vs : List V} {us : List Value} (h : Vals vs us) : ∀ n : Nat, Vals (vs.drop n) (us.drop n) := by
  induction h with
  | nil => intro n; simp; exact .nil
  | cons a b ih => intro n; cases n with
    | zero => exact .cons a b
    | succ n => exact ih n
theorem vals_app {vs ws : List V} {us xs : List Value} (h : Vals vs us) (h2 : Vals ws xs) : Vals (vs ++ ws) (us ++ xs) := by
  induction h with
  | nil => exact h2
  | cons a b ih => exact .cons a ih
def gStarL (K : PySem.W.Frag) (n i : Nat) (t : TGs) : TG := fun v σ H Q => ∃ a xs, v = .ref a ∧ SqL K H a xs ∧ n ≤ xs.length + 1 ∧
  ∀ D, L2.new K H D → t (xs.take i ++ .ref D :: (xs.drop i).drop (xs.length + 1 - n)) σ (upd H D (.lst ((xs.drop i).take (xs.length + 1 - n)))) Q
theorem gstarL {k : Nat} {t : TGs} {n i : Nat} (hc : X.calm = true) (h : JGs X es t) (hi : i < n := by decide) (hn : (assignEach es X.env).length = n := by rfl) (hst : (assignEach es X.env).findIdx? (·.1) = some i := by rfl) : JG X (.Tuple es k pos) (gStarL X.K n i t) := ⟨by
  intro pins s σ H v u Q I r hw
  obtain ⟨a, xs, e1, hq, hl, hw⟩ := hw
  subst e1
  cases r
  obtain ⟨its, rv, ht, hz⟩ := I.list hq
  have ln : xs.length = its.length := rv.length
  rw [assign_Tuple]
  refine wpAny_bind (wpAny_standAt ?_)
  unfold unpack
  rw [hn, hst]
  refine wpAny_bind (wpAny_holding (star_list ht.isList (I.ok.hd hc) hi (by simpa [← ln] using hl) (by simpa [← ln] using hz) fun h₂ tk hx => ?_))
  have I0 : Inv X pins σ H { s with heap := h₂, toks := tk } := I.kept (t' := tk) fun b o e => hx b o (Nat.ne_of_lt (Heap.lt_size e)) e
  have I1 : Inv X pins σ (upd H h₂.objs.size (.lst ((xs.drop i).take (xs.length + 1 - n)))) { s with heap := h₂.push { cls := .type "list", data := .seq ((its.drop i).take (xs.length + 1 - n)).toArray }, toks := tk } :=
    I0.laid (t' := tk) (fun b ob q => Heap.get?_push_of_some _ q) (Nat.le_refl _) ⟨by rw [List.length_take, List.length_drop]; omega, _, 0, vals_take (vals_drop rv i) _, Heap.get?_push_size _ rfl⟩
  have := h.h pins _ σ _ _ (its.take i ++ [.ref h₂.objs.size] ++ (its.drop i).drop (xs.length + 1 - n)) Q I1 (by
    rw [List.append_assoc]
    exact vals_app (vals_take rv i) (.cons rfl (vals_drop (vals_drop rv i) _))) (hw _ ⟨I0.hok.fresh (Nat.le_refl _), I1.notMod upd_same⟩)
  simpa [← ln] using this⟩
theorem gconsS {t : TG} {u : TGs} (h1 : JG X e t) (h2 : JGs X es u) {p : Pos} (hs : (assignEach (.Starred e p :: es) X.env).map (·.2) = assign e X.env :: (assignEach es X.env).map (·.2) := by rfl) : JGs X (.Starred e p :: es) (gCons t u) := ⟨by
  intro pins s σ H vs us Q I r h
  obtain ⟨v, vr, e1, h⟩ := h
  subst e1
  cases r with
  | cons r rr =>
    rw [hs]
    refine assignInOrder_cons (thn (h1.h pins s σ H _ _ _ I r h) fun _ s1 ⟨σ1, H1, I1, q1⟩ => ?_)
    exact h2.h pins s1 σ1 H1 _ _ Q I1 rr q1⟩
theorem call_strI {C : Addr} {k : Nat} {ps : List Str} {sp : Sp} (M : MethC X.prog X.w X.K X.mg X.base C "__str__" k ps [] sp) (hr : Room (k + 2) X.A) :
    CallR X (.type "str") (fun xs H Q => ∃ a dx fs, xs = [.ref a] ∧ H a = some (.ins C dx fs) ∧ sp [.ref a] H (fun v H' => ∃ t, v = .str t ∧ Q (.str t) H') E0) := by
  intro pins s σ H xs us Q I r h
  obtain ⟨a, dx, fs, rfl, ea, hsp⟩ := h
  obtain ⟨u, rfl, ru⟩ := r.one
  cases (show u = Value.ref a from ru)
  obtain ⟨f, fd, ds, hm, F, b, vd⟩ := M.ex
  cases vd
  obtain ⟨mA, O, _⟩ := ins_get I.hok ea
  obtain ⟨od, J, _⟩ := O.look
  have hl := F.len _ _ _ _ hsp
  refine kso_call hr.in1.in1.units0 I.kIn J hm.at_ hm.fn ?_
  refine wpAny_call (codeAny_mono (F.run X.A.in1.in1 X.stack s H ⟨[.ref a], []⟩ [.ref a] [.ref a] _ E0 hr.in1.in1 I.env0.in1.in1 (by have := b s [.ref a] I.kIn (by rw [List.append_nil]; exact hl); rwa [List.append_nil] at this) (.cons rfl .nil) hsp) fun r s' hq => ?_)
  cases r with
  | error e => exact pass0 pins σ H s e s' I hq
  | ok fl =>
    cases fl with
    | ret u =>
      obtain ⟨v, H', I', rv, t, rfl, q⟩ := I.after hq
      obtain ⟨t', rfl⟩ := rv
      exact ⟨.str t, H', I', ⟨_, rfl⟩, q⟩
    | next => exact False.elim hq
    | brk => exact False.elim hq
    | cont => exact False.elim hq
theorem run_own {k : Nat} {ps : List Str} {sp : Sp} {f : Addr} {fd : FuncData} {pins : List (Addr × Obj)} {σ : St} {H : Hp} {s : Shared} {A : Around} {vs : List V} {us : List Value} {Q : VK} {R : Value → Shared → Prop}
    (F : FnOk X.prog X.w X.K X.mg X.base CX0 k f fd ps sp) (b : Binds X.K fd ps []) (hr : Room k A) (he : Env0 X.prog X.w X.K X.mg X.base A X.stack s H) (I : Inv X pins σ H s) (rv : Vals vs us) (hsp : sp vs H Q E0)
    (h : ∀ v u H' s', Inv X pins σ H' s' → RelV v u → Q v H' → R u s') : wpAny (model X.prog X.w) A (call (.ref f) us) R X.xe s := by
  have hl := F.len _ _ _ _ hsp
  refine wpAny_call (codeAny_mono (F.run A X.stack s H ⟨us, []⟩ us vs _ E0 hr he (by have := b s us I.kIn (by rw [List.append_nil, ← rv.length]; exact hl); rwa [List.append_nil] at this) rv hsp) fun r s' hq => ?_)
  cases r with
  | error e => exact pass0 pins σ H s e s' I hq
  | ok fl =>
    cases fl with
    | ret u =>
      obtain ⟨v, H', I', rv, q⟩ := I.after hq
      exact h v u H' s' I' rv q
    | next => exact False.elim hq
    | brk => exact False.elim hq
    | cont => exact False.elim hq
structure EqCls (K : PySem.W.Frag) (C D : Addr) : Prop where
  nf : notFirst K C (.ref D) = true
  ne : findIn K (.ref C) "__ne__" = some (some (.builtin "object.__ne__"))
  ob : subIn K (.ref C) (.type "object") = some true
theorem rc_own {op : CmpOp} {A : Around} {E : Value → Shared → Prop} {s : Shared} {K : PySem.W.Frag} {x y C D : Addr} {ox oy : Obj} {od od' : Option Obj} {P : Program} {w : World} {Q : Value → Shared → Prop} (hu : A.units < cLine) (Z : K.In s.heap) (J : InstAt s.heap x ox C od) (J' : InstAt s.heap y oy D od') (hn : notFirst K C (.ref D) = true)
    (one : wpAny (model P w) A (tryCompare (.ref x) (cmpInfo op).2.1 (.ref y)) (fun r s' => ∃ v, r = some v ∧ Q v s') E s) : wpAny (model P w) A (richCompare op (.ref x) (.ref y)) Q E s := by
  unfold richCompare
  simp only [oneThing_ref]
  refine wpAny_holding (wpAny_bind (wpAny_cRoomFor hu ?_))
  refine wpAny_bind (J.type.here (wpAny_bind (J'.type.here ?_)))
  split
  · rename_i q
    have e : subIn K (.ref D) (.ref C) = some false := by
      rcases Bool.or_eq_true_iff.mp hn with e | e
      · rw [beq_iff_eq.mp e] at q; simp at q
      · exact beq_iff_eq.mp e
    refine wpAny_bind ((looks_subIn Z e).here ?_)
    simp only [Bool.false_eq_true, if_false]
    refine wpAny_bind (wpAny_mono one (fun r s' z => ?_) fun _ _ e => e)
    obtain ⟨v, rfl, hq⟩ := z
    exact wpAny_pure hq
  · refine wpAny_bind (wpAny_pure ?_)
    simp only [Bool.false_eq_true, if_false]
    refine wpAny_bind (wpAny_mono one (fun r s' z => ?_) fun _ _ e => e)
    obtain ⟨v, rfl, hq⟩ := z
    exact wpAny_pure hq
def rEqO (K : PySem.W.Frag) (C : Addr) (sp : Sp) : R2 := fun x y H Q => ∃ a dx fs c D dy gs, x = .ref a ∧ y = .ref c ∧ H a = some (.ins C dx fs) ∧ H c = some (.ins D dy gs) ∧ EqCls K C D ∧ sp [.ref a, .ref c] H (fun v H' => ∃ b, v = .bl b ∧ Q (.bl b) H') E0
theorem bind_ne {K : PySem.W.Frag} {M : Model} {h : Heap} (self : Value) : Looks M h (bindSpecial (.builtin "object.__ne__") self) (.builtin "object.__ne__", [self]) := Looks.of_pure (by kernel_rfl)
def rNeO (K : PySem.W.Frag) (C : Addr) (sp : Sp) : R2 := fun x y H Q => ∃ a dx fs c D dy gs, x = .ref a ∧ y = .ref c ∧ H a = some (.ins C dx fs) ∧ H c = some (.ins D dy gs) ∧ EqCls K C D ∧ sp [.ref a, .ref c] H (fun v H' => ∃ b, v = .bl b ∧ Q (.bl !b) H') E0
theorem op_neO {C : Addr} {k : Nat} {ps : List Str} {sp : Sp} (M : MethC X.prog X.w X.K X.mg X.base C "__eq__" k ps [] sp) (hr : Room (k + 1) X.A) : OpR X (compareOp .NotEq) (rNeO X.K C sp) := by
  intro pins s σ H x y v u Q I rx ry h
  obtain ⟨a, dx, fs, c, D, dy, gs, rfl, rfl, ea, ec, q, hsp⟩ := h
  cases (show v = Value.ref a from rx)
  cases (show u = Value.ref c from ry)
  obtain ⟨f, fd, ds, hm, F, b, vd⟩ := M.ex
  cases vd
  obtain ⟨mA, O, _⟩ := ins_get I.hok ea
  obtain ⟨od, J, _⟩ := O.look
  obtain ⟨mA', O', _⟩ := ins_get I.hok ec
  obtain ⟨od', J', _⟩ := O'.look
  show wpAny _ _ (richCompare .NotEq _ _) _ _ _
  refine rc_own hr.units0 I.kIn J J' q.nf ?_
  show wpAny _ _ (tryCompare _ "__ne__" _) _ _ _
  unfold tryCompare
  simp only [callSpecialIfBound?, bindSpecialIfBound?]
  have core : wpAny (model X.prog X.w) X.A (call (.builtin "object.__ne__") [.ref a, .ref c]) (fun r s' => ∃ b, r = .bool b ∧ EP X pins σ Q (.bool b) s') X.xe s := by
    refine wpAny_call (codeAny_call_builtin (by decide +kernel) PySem.F.cmpEntry_ne (check_slot PySem.F.cmpKind_ne PySem.F.cmpSplit_ne (J.type.andThen (looks_subIn I.kIn q.ob)) (PySem.F.cmpArgs_ne _ _) ?_))
    unfold Builtin.«object.__ne__»
    repeat (first
      | with_reducible refine wpAny_cRoomFor hr.in1.units0 ?_
      | (refine wpAny_bind (m := callSpecialIfBound? (.ref a) (Str.ofString "__eq__") [.ref c])
          (ifBound_K I.kIn J hm.at_ hm.fn (run_own F b hr.in1 I.env0.in1 I (.cons (show RelV (.ref a) (.ref a) from rfl) (.cons (show RelV (.ref c) (.ref c) from rfl) .nil)) hsp fun v u H' s' I' rv hq => ?_)))
      | wp_step)
    obtain ⟨b, rfl, hq⟩ := hq
    cases (show u = Value.bool b from rv)
    have fin : ∃ b', Value.bool (!b) = .bool b' ∧ EP X pins σ Q (.bool b') s' := ⟨_, rfl, .bl (!b), H', I', rfl, hq⟩
    repeat (first | exact fin | exact wpAny_pure fin | exact wpAny_truthy_bool fin | (refine wpAny_bind (m := truthy (.bool _)) (wpAny_truthy_bool ?_)) | wp_step)
  refine wpAny_bind (wpAny_holding (wpAny_bind (wpAny_bind (wpAny_bind (J.type.here ((looks_findIn I.kIn q.ne).here ?_))))))
  have fin : wpAny (model X.prog X.w) X.A (call (.builtin "object.__ne__") ([.ref a] ++ [.ref c]) >>= fun v => pure (some v)) (fun r s' => ∃ b, r = some (.bool b) ∧ EP X pins σ Q (.bool b) s') X.xe s := wpAny_bind (wpAny_mono core (fun v s' ⟨b, e, h'⟩ => wpAny_pure ⟨b, by rw [e], h'⟩) fun _ _ h' => h')
  refine wpAny_bind (wpAny_askSetting (wpAny_ite ?_))
  split
  · refine wpAny_bind ((bind_ne (K := X.K) _).here (wpAny_pure ?_))
    refine wpAny_mono fin (fun r s' ⟨b, e, h'⟩ => ?_) fun _ _ z => z
    subst e
    exact wpAny_pure ⟨_, rfl, h'⟩
  · refine wpAny_tryCatch (wpAny_bind ((bind_ne (K := X.K) _).here (wpAny_pure ?_)))
    refine wpAny_mono fin (fun r s' ⟨b, e, h'⟩ => ?_) fun _ _ z => z
    subst e
    exact wpAny_pure ⟨_, rfl, h'⟩
theorem call_isinstCQ : CallR X (.builtin "isinstance") (fun xs H Q => ∃ x C t b, xs = [x, .ref C] ∧ TyQ X.K H x t ∧ PySem.W.kitOne X.K t (.ref C) = some b ∧ Q (.bl b) H) := by
  intro pins s σ H xs us Q I r h
  obtain ⟨x, C, t, b, rfl, ty, e, q⟩ := h
  rcases ty with ty | ⟨a, ys, rfl, ht, rfl⟩
  · exact call_isinstC pins s σ H _ us Q I r ⟨x, C, t, b, rfl, ty, e, q⟩
  · obtain ⟨u, w', rfl, ru, rw'⟩ := vals2 r
    cases rw'
    cases (show u = Value.ref a from ru)
    obtain ⟨its, _, ob, hz⟩ := I.tuple (tupQ_sq ht)
    obtain ⟨o, h1, h2, _⟩ := ob
    exact PySem.W.kia_one PySem.W.kitx_tuple I.kIn ⟨o, h1, h2⟩ e (fun z => nomatch z) fun tk => ⟨.bl b, H, I.tok tk, rfl, q⟩
end
end L2
set_option Elab.async false
set_option linter.all false
set_option maxRecDepth 100000
set_option maxHeartbeats 4000000
namespace L2
open PySem PySem.Spec PyProof.Rows
def bareL : List Nat → List Nat
  | 45 :: cs => cs
  | l => l
def isFig (c : Nat) : Bool := decide (48 ≤ c) && decide (c ≤ 57)
def figL (l : List Nat) : Bool := !(bareL l).isEmpty && (bareL l).all isFig && decide ((bareL l).length ≤ 60) && !(decide ((bareL l).head? = some 48) && decide (l ≠ [48]))
def figV (l : List Nat) : Int := match l with
  | 45 :: cs => -((NumText.digitsVal cs : Nat) : Int)
  | l => ((NumText.digitsVal l : Nat) : Int)
def readFig (t : Str) : Option Int := if figL t.cps.toList = true then some (figV t.cps.toList) else none
theorem bareL_ne {l : List Nat} (h : l.head? ≠ some 45) : bareL l = l := by
  unfold bareL
  split
  · exact absurd rfl h
  · rfl
theorem figV_ne {l : List Nat} (h : l.head? ≠ some 45) : figV l = ((NumText.digitsVal l : Nat) : Int) := by
  unfold figV
  split
  · exact absurd rfl h
  · rfl
theorem minus_cps : (Str.ofString "-").cps.toList = [45] := by decide +kernel
theorem bare_cps (t : Str) : (Txt.removeprefix t "-").cps.toList = bareL t.cps.toList := by
  rw [StrLaws.removeprefix_eq t "-", StrLaws.subAt_eq, minus_cps, show (Str.ofString "-").length = 1 from by decide +kernel]
  have hl : t.length = t.cps.toList.length := by simp [Str.length]
  rw [hl]
  cases e : t.cps.toList with
  | nil => simp [bareL, e]
  | cons c r =>
    by_cases z : c = 45
    · subst z
      simp [bareL]
    · rw [bareL_ne (by simp [z])]
      simp [z, e]
theorem digit_ascii : ∀ c, c < 128 → Unicode.isDigit c = isFig c := by decide +kernel
theorem figs_of (b : Str) : (Txt.isascii b && Txt.isdigit b) = (!(b.cps.toList).isEmpty && b.cps.toList.all isFig) := by
  unfold Txt.isascii Txt.isdigit
  have hl : b.length = b.cps.toList.length := by simp [Str.length]
  rw [hl, ← Array.all_toList, ← Array.all_toList]
  generalize b.cps.toList = l
  rw [Bool.eq_iff_iff]
  simp only [Bool.and_eq_true, List.all_eq_true, decide_eq_true_eq, Bool.not_eq_true', List.isEmpty_eq_false_iff, ne_eq]
  constructor
  · rintro ⟨h1, h2, h3⟩
    refine ⟨fun e => by subst e; simp at h2, fun c hc => ?_⟩
    rw [← digit_ascii c (h1 c hc)]
    exact h3 c hc
  · rintro ⟨h1, h2⟩
    have lt : ∀ c ∈ l, c < 128 := fun c hc => by
      have := h2 c hc
      simp only [isFig, Bool.and_eq_true, decide_eq_true_eq] at this
      omega
    refine ⟨lt, List.length_pos_iff.mpr h1, fun c hc => ?_⟩
    rw [digit_ascii c (lt c hc)]
    exact h2 c hc
theorem allDigits {cs : List Nat} (h : cs.all isFig = true) : NumText.AllDigits cs := by
  intro c hc
  have := List.all_eq_true.mp h c hc
  unfold isFig at this
  simpa using this
theorem figL_of {l : List Nat} (h : figL l = true) : bareL l ≠ [] ∧ NumText.AllDigits (bareL l) ∧ (bareL l).length ≤ 60 ∧ ((bareL l).head? = some 48 → l = [48]) := by
  simp only [figL, Bool.and_eq_true, Bool.not_eq_true', List.isEmpty_eq_false_iff, decide_eq_true_eq, Bool.and_eq_false_imp, decide_eq_false_iff_not, ne_eq, Classical.not_not] at h
  exact ⟨h.1.1.1, allDigits h.1.1.2, h.1.2, h.2⟩
theorem fig_len {t : Str} (h : figL t.cps.toList = true) : t.length ≤ 61 := by
  obtain ⟨h1, h2, h3, h4⟩ := figL_of h
  have hl : t.length = t.cps.toList.length := by simp [Str.length]
  rw [hl]
  cases e : t.cps.toList with
  | nil => simp
  | cons c r =>
    by_cases z : c = 45
    · subst z
      rw [e] at h3
      simp only [bareL] at h3
      rw [List.length_cons]; omega
    · rw [e, bareL_ne (by simp [z])] at h3
      omega
theorem fig_int {t : Str} (h : figL t.cps.toList = true) : PySem.intText? t = some (figV t.cps.toList) := by
  have hlen := fig_len h
  obtain ⟨h1, h2, h3, h4⟩ := figL_of h
  cases e : t.cps.toList with
  | nil => rw [e] at h1; exact absurd rfl h1
  | cons c r =>
    by_cases z : c = 45
    · subst z
      rw [e] at h1 h2
      exact PySem.intText_neg e h2 h1 (by omega)
    · have n45 : (c :: r).head? ≠ some 45 := by simp [z]
      rw [figV_ne n45, ← e]
      rw [e, bareL_ne n45, ← e] at h2
      exact PySem.intText_digits h2 (by rw [e]; simp) (by omega)
theorem ofNat_toNat {c : Nat} (h : 48 ≤ c ∧ c ≤ 57) : (Char.ofNat c).toNat = c := by
  obtain ⟨h1, h2⟩ := h
  have : ∀ c, c < 58 → (Char.ofNat c).toNat = c := by decide
  exact this c (by omega)
theorem map_back : ∀ {cs : List Nat}, NumText.AllDigits cs → (cs.map Char.ofNat).map Char.toNat = cs
  | [], _ => rfl
  | c :: cs, h => by rw [List.map_cons, List.map_cons, ofNat_toNat h.head, map_back h.tail]
theorem digits_back {cs : List Nat} (h : NumText.AllDigits cs) (h0 : cs ≠ []) (h1 : cs.head? = some 48 → cs = [48]) : (Nat.toDigits 10 (NumText.digitsVal cs)).map Char.toNat = cs := by
  rw [NumText.toDigits_digitsVal (cs.length - 1) cs (by have := List.length_pos_iff.mpr h0; omega) h ?_]
  · exact map_back h
  · cases cs with
    | nil => exact absurd rfl h0
    | cons c r =>
      by_cases z : c = 48
      · subst z
        have := h1 rfl
        injection this with _ e
        subst e
        exact .inl rfl
      · exact .inr ⟨c, r, rfl, by have := h.head; omega⟩
theorem fig_str {t : Str} (h : figL t.cps.toList = true) : PySem.Str.ofString (toString (figV t.cps.toList)) = t := by
  obtain ⟨h1, h2, h3, h4⟩ := figL_of h
  have key : (PySem.Str.ofString (toString (figV t.cps.toList))).cps.toList = t.cps.toList := by
    cases e : t.cps.toList with
    | nil => rw [e] at h1; exact absurd rfl h1
    | cons c r =>
      by_cases z : c = 45
      · subst z
        rw [e] at h1 h2 h4
        have h4' : r.head? ≠ some 48 := fun q => by have := h4 q; simp at this
        have pos : 0 < NumText.digitsVal r := by
          cases r with
          | nil => exact absurd rfl h1
          | cons d s => exact NumText.digitsVal_pos (by have := h2.head; have : d ≠ 48 := fun q => h4' (by rw [q]; rfl); omega)
        show (PySem.Str.ofString (toString (-((NumText.digitsVal r : Nat) : Int)))).cps.toList = 45 :: r
        rw [signs_ofString]
        obtain ⟨m, hm⟩ : ∃ m, NumText.digitsVal r = m + 1 := ⟨NumText.digitsVal r - 1, by omega⟩
        have back := digits_back h2 h1 (fun q => absurd q h4')
        rw [show bareL (45 :: r) = r from rfl] at back
        rw [hm] at back ⊢
        show (Int.repr (Int.negSucc m)).toList.map Char.toNat = 45 :: r
        show ("-" ++ Nat.repr (m + 1)).toList.map Char.toNat = 45 :: r
        rw [String.toList_append, List.map_append, Nat.toList_repr, back]
        rfl
      · have n45 : (c :: r).head? ≠ some 45 := by simp [z]
        rw [figV_ne n45, signs_ofString]
        rw [e, bareL_ne n45] at h1 h2 h4
        show (Nat.repr _).toList.map Char.toNat = _
        rw [Nat.toList_repr]
        exact digits_back h2 h1 h4
  have := StrLaws.mk_of_toList key
  rw [this]
end L2
set_option Elab.async false
set_option linter.all false
set_option maxRecDepth 100000
set_option maxHeartbeats 4000000
namespace L2
open PySem PySem.Spec PyProof.Rows
theorem call_strA {X : Cx} : CallR X (.type "str") (fun xs H Q => (∃ i, xs = [.int i] ∧ i.natAbs.log2 < 1920 ∧ Q (.str (toString i)) H) ∨ (∃ t, xs = [.str t] ∧ Q (.str t) H)) := by
  intro pins s σ H xs us Q I r h
  rcases h with ⟨i, rfl, h1, q⟩ | ⟨t, rfl, q⟩
  · exact call_strO pins s σ H _ us Q I r (.inl ⟨i, rfl, h1, q⟩)
  · obtain ⟨u, rfl, ru⟩ := vals1 r
    obtain ⟨tk, rfl⟩ := ru
    exact PySem.P.str_of_str ⟨.str t, H, I, ⟨tk, rfl⟩, q⟩
end L2
set_option Elab.async false
set_option linter.all false
set_option maxRecDepth 100000
set_option maxHeartbeats 4000000
namespace L2
open PySem PySem.Spec PyProof.Rows PySem.W PySem.AutoSeq1 PySem.MeetsSeq
section
variable {P : Program} {w : World} {A : Around} {E : Value → Shared → Prop} {s : Shared} {K : PySem.W.Frag} {x C : Addr} {ox : Obj} {od : Option Obj}
end
inductive Odd (K : PySem.W.Frag) (H : Hp) : V → Prop where
  | non : Odd K H .non
  | int (i : Int) : Odd K H (.int i)
  | str (t : Str) : Odd K H (.str t)
  | tup {a : Addr} {xs : List V} (h : SqT K H a xs) : Odd K H (.ref a)
  | lst {a : Addr} {xs : List V} (h : SqL K H a xs) : Odd K H (.ref a)
structure OddCls (K : PySem.W.Frag) (C : Addr) : Prop where
  t : subIn K (.ref C) (.type "tuple") = some false
  l : subIn K (.ref C) (.type "list") = some false
  i : subIn K (.ref C) (.type "int") = some false
  s : subIn K (.ref C) (.type "str") = some false
  n : subIn K (.ref C) (.type "NoneType") = some false
section
variable {X : Cx} {pins : List (Addr × Obj)} {σ : St} {H : Hp} {s : Shared} {A : Around} {E : Value → Shared → Prop} {x C dx : Addr} {fs : List (Str × V)}
end
section
variable {X : Cx}
def rInO (K : PySem.W.Frag) (C : Addr) (sp : Sp) : R2 := fun x y H Q => ∃ a dx fs l vs, x = .ref a ∧ y = .ref l ∧ H a = some (.ins C dx fs) ∧ H l = some (.lst vs) ∧ (∀ y ∈ vs, Odd K H y) ∧ (∀ y ∈ vs, ∀ Q : VK, Q (.bl false) H → sp [.ref a, y] H Q E0) ∧ Q (.bl false) H
end
end L2
set_option Elab.async false
set_option linter.all false
set_option maxRecDepth 100000
set_option maxHeartbeats 4000000
namespace L2
open PySem PySem.Spec PyProof.Rows
def Itx (x : Str) : It := ⟨fun i _ => i < x.cps.size, fun i H v H' => H' = H ∧ ∃ c, x.cps[i]? = some c ∧ v = .str ⟨#[c]⟩, fun i _ => x.cps.size ≤ i⟩
theorem turn_text {P : Program} {w : World} {K : PySem.W.Frag} {tg : Expr} (x : Str) (t : Tok) (it : Addr) (ty : String) (hty : ty = "str_ascii_iterator" ∨ ty = "str_iterator") : Turn P w K tg (Itx x) [it] it (fun i h => h.IsStrIter it ty x t i) where
  mem := by simp
  obj := fun i h st b hb => by
    have e : b = it := by simpa using hb
    subst e
    obtain ⟨o, e, c, d⟩ := st
    exact ⟨o, e, fun v z => by rw [d] at z; cases z⟩
  keep := fun i h h' st k => by
    obtain ⟨o, e, c, d⟩ := st
    exact ⟨o, k it (by simp) o e, c, d⟩
  item := by
    intro X hP hw hK hc i pins s σ H E I hf st hg
    subst hP hw hK
    obtain ⟨f0, f1, f2, f3, f4, f5⟩ := hf it (by simp)
    have hx : x.cps[i]? = some (x.cps[i]'hg) := Array.getElem?_eq_getElem hg
    have fin : ∀ h', h'.IsStrIter it ty x t (i + 1) → Heap.SameBut it s.heap h' → ∃ u, some (Value.str ⟨#[x.cps[i]'hg]⟩ s.toks) = some u ∧
      wpAny (model X.prog X.w) X.A (letOwnedTupleGo tg (.ref it) u) (fun _ s2 => ∃ y H', Inv X pins σ H' s2 ∧ RelV y u ∧ (Itx x).yld i H y H' ∧ s2.heap.IsStrIter it ty x t (i + 1) ∧ ∀ b ∈ [it], H' b = none) E { s with heap := h', toks := s.toks + 1 } := fun h' st' sb => by
      have I1 : Inv X pins σ H { s with heap := h', toks := s.toks + 1 } := I.turned (fun b o hb e => (sb.2 b hb).trans e) f0 f1 f3 f4 f5
      obtain ⟨o, e, c, d⟩ := id st'
      exact ⟨_, rfl, go_of (s := { s with heap := h', toks := s.toks + 1 }) e c d (by rcases hty with rfl | rfl <;> decide) ⟨.str ⟨#[x.cps[i]'hg]⟩, H, I1, ⟨_, rfl⟩, ⟨rfl, _, hx, rfl⟩, st', fun b hb => (hf b hb).1⟩⟩
    rcases hty with rfl | rfl
    · exact wpAny_pyNext_ascii_item st hx fin
    · exact wpAny_pyNext_wide_item st hx fin
  done := by
    intro X hP hw hK hc i pins s σ H E I hf st hg
    subst hP hw hK
    obtain ⟨f0, f1, f2, f3, f4, f5⟩ := hf it (by simp)
    have hx : x.cps[i]? = none := Array.getElem?_eq_none hg
    rcases hty with rfl | rfl
    · exact wpAny_pyNext_ascii_end (I.ok.hd hc) st hx fun h' eb => ⟨rfl, I.turned (t' := s.toks) (fun b o hb e => eb b o hb e) f0 f1 f3 f4 f5⟩
    · exact wpAny_pyNext_wide_end (I.ok.hd hc) st hx fun h' eb => ⟨rfl, I.turned (t' := s.toks) (fun b o hb e => eb b o hb e) f0 f1 f3 f4 f5⟩
  self := fun _ _ _ _ _ st h => by
    rcases hty with rfl | rfl
    · exact wpAny_pyIter_striter_ascii st h
    · exact wpAny_pyIter_striter_wide st h
section
variable {X : Cx}
def iText (tl : TE) : TI := fun σ H R => tl σ H fun v H1 => ∃ x : Str, v = .str x ∧ R (Itx x) H1
theorem itext {tg l : Expr} {tl : TE} (hl : JE X l tl) : JI X tg l (iText tl) := ⟨by
  intro pins s σ H R I h
  refine thn (hl.h pins s σ H _ I h) fun v s1 ⟨y, H1, I1, r1, q1⟩ => ?_
  obtain ⟨x, rfl, q⟩ := q1
  obtain ⟨t, rfl⟩ := r1
  have fin : ∀ ty, (ty = "str_ascii_iterator" ∨ ty = "str_iterator") → PIE X pins σ tg R (.ref s1.heap.objs.size) { s1 with heap := s1.heap.push { cls := .type ty, data := .fields #[.str x t, .int 0 0] } } := fun ty hty =>
    ⟨s1.heap.objs.size, [s1.heap.objs.size], _, _, H1, rfl, I1.kept (t' := s1.toks) fun b o e => Heap.get?_push_of_some _ e, turn_text x t _ ty hty, ⟨_, Heap.get?_push_size _ rfl, rfl, rfl⟩, fun b hb => by
      have e : b = s1.heap.objs.size := by simpa using hb
      subst e
      exact I1.fpOk (Nat.le_refl _) (I1.hok.fresh (Nat.le_refl _)), q⟩
  cases ha : x.cps.all (· < 128) with
  | true => exact wpAny_pyIter_ascii ha (fin _ (.inl rfl))
  | false => exact wpAny_pyIter_wide ha (fin _ (.inr rfl))⟩
theorem op_notInS : OpR X (compareOp .NotIn) (fun x y H Q => ∃ a b, x = .str a ∧ y = .str b ∧ Q (.bl (!Txt.contains b a)) H) := by
  intro pins s σ H x y v u Q I rx ry h
  obtain ⟨a, b, rfl, rfl, q⟩ := h
  obtain ⟨t, rfl⟩ := rx
  obtain ⟨t2, rfl⟩ := ry
  exact SB.notContains ⟨.bl _, H, I, rfl, q⟩
def rUpper : V → List V → Hp → VK → Prop := fun x vs H Q => ∃ a, x = .str a ∧ vs = [] ∧ a.length ≤ 5592405 ∧ Q (.str (Txt.upper a)) H
theorem mt_upper : MtR X "str.upper" rUpper := by
  intro pins s σ H x vs v us Q I rx rv h
  obtain ⟨a, rfl, rfl, ha, q⟩ := h
  obtain ⟨t, rfl⟩ := rx
  cases rv
  exact call_gives PySem.F.slot_str_upper (typeIs_str _ _ _) PySem.F.entry_str_upper (PySem.F.args_str_upper_1 _) (gives_str_upper a t (fit_upper ha)) ⟨fit_le (fit_upper ha), ⟨.str _, H, I.tok _, ⟨_, rfl⟩, q⟩⟩
end
section
variable {K : PySem.W.Frag} {g : TG} {tt : TT} {te : TE} {D : Addr} {Q : Hp → Prop} {σ : St} {H : Hp} {x : Str} {tb : TS} {DD : Ends}
theorem tLc_text {tl : TE} {src : List (Option Nat)} {Q : VK} : tLc K (iText tl) src g tt te σ H Q = tl σ H (fun v H1 => ∃ x : Str, v = .str x ∧ ∀ D, L2.new K H1 D → LcLoop (Itx x) g tt te D (fun H' => Q (.ref D) H') (pick σ src) (upd H1 D (.lst []))) := rfl
theorem lc_text (Pv : Nat → List V → St → Hp → Prop) (h0 : Pv 0 [] σ H)
    (hs : ∀ i c acc σ H, x.cps.toList[i]? = some c → Pv i acc σ H → g (.str ⟨#[c]⟩) σ H fun σ2 H2 => tt σ2 H2 fun b H3 => if b = true then te σ2 H3 fun v H4 => H4 D = some (.lst acc) ∧ acc.length < sizeLine ∧ Pv (i + 1) (acc ++ [v]) σ2 (upd H4 D (.lst (acc ++ [v]))) else Pv (i + 1) acc σ2 H3)
    (hd : ∀ acc σ H, Pv x.cps.toList.length acc σ H → Q H) : LcLoop (Itx x) g tt te D Q σ H := by
  refine lc_run (n := x.cps.toList.length) Pv h0 (fun i acc σ H hi h => by show i < x.cps.size; simpa using hi) (fun acc σ H h => by show x.cps.size ≤ _; simp) (fun i acc σ H v H' hi h hy => ?_) hd
  obtain ⟨rfl, c, hc, rfl⟩ := hy
  exact hs i c acc σ _ (by rw [Array.getElem?_toList]; exact hc) h
theorem lc_signs {p : Nat → Bool} {v0 : Option V} {rest : St} (nD : new K H D) (hz : x.length ≤ 16777216)
    (test : ∀ c ∈ x.cps.toList, ∀ H' (R : Bool → Hp → Prop), R (p c) H' → tt (some (.str ⟨#[c]⟩) :: rest) H' R)
    (elt : ∀ c ∈ x.cps.toList, ∀ H' (R : VK), R (.str ⟨#[c]⟩) H' → te (some (.str ⟨#[c]⟩) :: rest) H' R)
    (fin : ∀ H', H' D = some (.lst ((x.cps.toList.filter p).map fun c => V.str ⟨#[c]⟩)) → Ext K H H' → Q H') : LcLoop (Itx x) (gName 0) tt te D Q (v0 :: rest) (upd H D (.lst [])) := by
  refine lc_text (fun i acc σ' H' => ∃ (v0 : Option V), σ' = v0 :: rest ∧ H' D = some (.lst acc) ∧ acc = ((x.cps.toList.take i).filter p).map (fun c => V.str ⟨#[c]⟩) ∧ Kp K D (upd H D (.lst [])) H') ?_ ?_ ?_
  · exact ⟨_, rfl, upd_same, rfl, Kp.refl⟩
  · rintro i c acc σ' H' hc ⟨v0, rfl, hD, rfl, k⟩
    have mc := List.mem_of_getElem? hc
    have hlen : (((x.cps.toList.take i).filter p).map fun c => V.str ⟨#[c]⟩).length < sizeLine := by
      rw [List.length_map]
      have h1 := List.length_filter_le p (x.cps.toList.take i)
      have h2 : i < x.cps.toList.length := (List.getElem?_eq_some_iff.mp hc).1
      have h3 : x.length = x.cps.toList.length := by simp [Str.length]
      have h4 := sizeLine_eq
      rw [List.length_take] at h1
      omega
    unfold gName
    refine test c mc H' _ ?_
    rw [List.take_add_one, hc, Option.toList_some, List.filter_append]
    cases e : p c with
    | true =>
      rw [if_pos rfl]
      refine elt c mc H' _ ⟨hD, hlen, _, rfl, upd_same, ?_, k.trans (Kp.upd hD)⟩
      rw [List.map_append]
      simp [e]
    | false =>
      rw [if_neg (by decide)]
      exact ⟨_, rfl, hD, by simp [e], k⟩
  · rintro acc σ' H' ⟨v0, rfl, hD, rfl, k⟩
    rw [List.take_length] at hD
    exact fin H' hD (k.ext nD)
end
theorem FnOk.quiet {P : Program} {w : World} {K : PySem.W.Frag} {mg : Str → Option Value} {base : Heap} {k : Nat} {f : Addr} {fd : FuncData} {ps : List Str} {sp sp' : Sp} (F : FnOk P w K mg base (CXO P w) k f fd ps sp)
    (h : ∀ vs H Q E, sp' vs H Q E → sp vs H Q fun _ _ _ => False) : FnOk P w K mg base CX0 k f fd ps sp' :=
  ⟨fun vs H Q E q => F.len vs H Q _ (h _ _ _ _ q), fun A outer s H args us vs Q E hr he hb hv hs => codeAny_mono (F.run A outer s H args us vs Q _ hr he hb hv (h _ _ _ _ hs)) fun r s' z => by
    cases r with
    | ok fl => cases fl <;> exact z
    | error e =>
      obtain ⟨_, _, _, _, _, _, _, _, _, _, _, _, _, _, q⟩ := z
      exact q⟩
theorem CalleeX.quiet {P : Program} {w : World} {K : PySem.W.Frag} {mg : Str → Option Value} {base : Heap} {x : Str} {k : Nat} {ps : List Str} {sp sp' : Sp} (C : CalleeX P w K mg base x k ps sp)
    (h : ∀ vs H Q E, sp' vs H Q E → sp vs H Q fun _ _ _ => False) : Callee P w K mg base x k ps sp' := by
  obtain ⟨f, fd, F, b, kp, m⟩ := C.ex
  exact ⟨f, fd, F.quiet h, b, kp, m⟩
end L2
set_option Elab.async false
set_option linter.all false
set_option maxRecDepth 100000
set_option maxHeartbeats 4000000
namespace K13
open PySem L2
local macro_rules | `(tactic| walk_at "rd") => `(tactic| simp only [tSeq, tNext, tIfS, tAsg, gName, gSub, tRet, tRetN, tDrop, tVar, tC, tOp, tUn, rI0, rI, rU, tTest, tB, tAndV, tOrV, tNotV, tAnd, tOr, tNot, tIf, tChain, tCB, tCons, tNil, tLst, tTup, tCallC, List.getElem?_cons_zero, List.getElem?_cons_succ, List.set_cons_zero, List.set_cons_succ, Option.some.injEq, V.int.injEq, V.bl.injEq, V.ref.injEq, V.ty.injEq, V.str.injEq, List.cons.injEq, exists_eq_left', exists_eq_left, exists_and_left, and_true, true_and, and_assoc, cxK, rIxF, rSetL, rEq, rNe, scal, HO.lst.injEq, HO.tup.injEq, upd_none, ixN_10, ixN_20, ixN_21, ixN_30, ixN_31, ixN_32, upd_same, seqAt_updL, seqAt_updT, atI_0, atI_1, atI_2, atI_3, decide_eq_true_eq, L2.start, List.map_cons, List.map_nil, List.length_cons, List.length_nil, Nat.reduceAdd, Nat.reduceSub, List.replicate_succ, List.replicate_zero, List.cons_append, List.nil_append, List.append_nil, tFor_rng1, tFor_rng2, tFor_list, tFor_tup, CDv, CMul, CPow, sizeLine_eq, Int.reduceLE, Int.reduceLT, Int.reducePow, Int.reduceToNat, Int.reduceAdd, Int.reduceSub, Int.reduceMul, Int.reduceNeg, Nat.reduceLeDiff, Nat.reducePow, Nat.reduceLT, Int.reduceEq, true_or, or_true, ite_true, ite_false, if_true, if_false, Bool.not_true, Bool.not_false, Bool.false_eq_true, decide_true, decide_false, rIxQ, seqQ_updL, seqQ_updT, tupQ_updT, tSl, tNoPart, tPart, rSlQ, rSlTX, rCatQ, rCatTX, rCatTX0, tTupQ, tLstQ, new_upd, tNever, rEqD, rInQ, gTupQ, gCons, gNil, tBM, rAppend, tMakeQ, sFld, tFld, tMeth, tBM0, cxN, tCall, tRaise, tTry, Ends.gone, pick_nil, pick_own, pick_cap, join_some, tLc_list, tYes, tyV, tDNewQ, tFor_list, rEqO, rNeO, rInO, tLc_tup, gStarL, rIxS, rIsascii, rIsdigit, rRemPre, rSplit, tLc_text, rNeE, rSlS, rIndexS, rUpper, rJoin])
local macro_rules | `(tactic| walk_at "rn") => `(tactic| simp only [tSeq, tNext, tIfS, tAsg, gName, gSub, tRet, tRetN, tDrop, tVar, tC, tOp, tUn, rI0, rI, rU, tTest, tB, tAndV, tOrV, tNotV, tAnd, tOr, tNot, tIf, tChain, tCB, tCons, tNil, tLst, tTup, tCallC, List.getElem?_cons_zero, List.getElem?_cons_succ, List.set_cons_zero, List.set_cons_succ, Option.some.injEq, V.int.injEq, V.bl.injEq, V.ref.injEq, V.ty.injEq, V.str.injEq, List.cons.injEq, exists_eq_left', exists_eq_left, exists_and_left, and_true, true_and, and_assoc, cxK, rIxF, rSetL, rEq, rNe, scal, HO.lst.injEq, HO.tup.injEq, upd_none, ixN_10, ixN_20, ixN_21, ixN_30, ixN_31, ixN_32, upd_same, seqAt_updL, seqAt_updT, atI_0, atI_1, atI_2, atI_3, decide_eq_true_eq, L2.start, List.map_cons, List.map_nil, List.length_cons, List.length_nil, Nat.reduceAdd, Nat.reduceSub, List.replicate_succ, List.replicate_zero, List.cons_append, List.nil_append, List.append_nil, tFor_rng1, tFor_rng2, tFor_list, tFor_tup, CDv, CMul, CPow, sizeLine_eq, Int.reduceLE, Int.reduceLT, Int.reducePow, Int.reduceToNat, Int.reduceAdd, Int.reduceSub, Int.reduceMul, Int.reduceNeg, Nat.reduceLeDiff, Nat.reducePow, Nat.reduceLT, Int.reduceEq, true_or, or_true, ite_true, ite_false, if_true, if_false, Bool.not_true, Bool.not_false, Bool.false_eq_true, decide_true, decide_false, rIxQ, seqQ_updL, seqQ_updT, tupQ_updT, tSl, tNoPart, tPart, rSlQ, rSlTX, rCatQ, rCatTX, rCatTX0, tTupQ, tLstQ, tNever, rEqD, rInQ, gTupQ, gCons, gNil, tBM, rAppend, tMakeQ, sFld, tFld, tMeth, tBM0, cxN, tCall, tRaise, tTry, Ends.gone, pick_nil, pick_own, pick_cap, join_some, tLc_list, tYes, tyV, tDNewQ, tFor_list, rEqO, rNeO, rInO, tLc_tup, gStarL, rIxS, rIsascii, rIsdigit, rRemPre, rSplit, tLc_text, rNeE, rSlS, rIndexS, rUpper, rJoin])
local macro_rules | `(tactic| simp_arith [$hs,*]) => `(tactic| simp only [tSeq, tNext, tIfS, tAsg, gName, gSub, tRet, tRetN, tDrop, tVar, tC, tOp, tUn, rI0, rI, rU, tTest, tB, tAndV, tOrV, tNotV, tAnd, tOr, tNot, tIf, tChain, tCB, tCons, tNil, tLst, tTup, tCallC, List.getElem?_cons_zero, List.getElem?_cons_succ, List.set_cons_zero, List.set_cons_succ, Option.some.injEq, V.int.injEq, V.bl.injEq, V.ref.injEq, V.ty.injEq, V.str.injEq, List.cons.injEq, exists_eq_left', exists_eq_left, exists_and_left, and_true, true_and, and_assoc, cxK, rIxF, rSetL, rEq, rNe, scal, HO.lst.injEq, HO.tup.injEq, upd_none, ixN_10, ixN_20, ixN_21, ixN_30, ixN_31, ixN_32, upd_same, seqAt_updL, seqAt_updT, atI_0, atI_1, atI_2, atI_3, decide_eq_true_eq, L2.start, List.map_cons, List.map_nil, List.length_cons, List.length_nil, Nat.reduceAdd, Nat.reduceSub, List.replicate_succ, List.replicate_zero, List.cons_append, List.nil_append, List.append_nil, tFor_rng1, tFor_rng2, tFor_list, tFor_tup, CDv, CMul, CPow, sizeLine_eq, Int.reduceLE, Int.reduceLT, Int.reducePow, Int.reduceToNat, Int.reduceAdd, Int.reduceSub, Int.reduceMul, Int.reduceNeg, Nat.reduceLeDiff, Nat.reducePow, Nat.reduceLT, Int.reduceEq, true_or, or_true, ite_true, ite_false, if_true, if_false, Bool.not_true, Bool.not_false, Bool.false_eq_true, decide_true, decide_false, rIxQ, seqQ_updL, seqQ_updT, tupQ_updT, tSl, tNoPart, tPart, rSlQ, rSlTX, rCatQ, rCatTX, rCatTX0, tTupQ, tLstQ, tNever, rEqD, rInQ, gTupQ, gCons, gNil, tBM, rAppend, tMakeQ, sFld, tFld, tMeth, tBM0, cxN, tCall, tRaise, tTry, Ends.gone, pick_nil, pick_own, pick_cap, join_some, tLc_list, tYes, tyV, tDNewQ, tFor_list, rEqO, rNeO, rInO, tLc_tup, gStarL, rIxS, rIsascii, rIsdigit, rRemPre, rSplit, tLc_text, rNeE, rSlS, rIndexS, rUpper, rJoin, $hs,*])
def top (i : Nat) : Stmt := PySem.Challenge.pw_notefall_k13_words_read.main.body.getD i (.Pass ⟨0, 0, 0, 0⟩)
abbrev s_is_number : Stmt := top 11
abbrev s_is_whole : Stmt := top 12
abbrev s_is_whole_from : Stmt := top 13
abbrev s_is_key : Stmt := top 14
abbrev s_is_stretch : Stmt := top 15
abbrev s_figures_of : Stmt := top 20
abbrev s_are_figures : Stmt := top 21
abbrev s_read_figures : Stmt := top 22
abbrev s_is_amount : Stmt := top 27
abbrev s_check_things : Stmt := top 28
abbrev s_word_of : Stmt := top 29
abbrev s_Deed___str__ : Stmt := inClass (top 30) 4
abbrev s_Deed___eq__ : Stmt := inClass (top 30) 5
abbrev s_Put___init__ : Stmt := inClass (top 31) 0
abbrev s_Put_told : Stmt := inClass (top 31) 1
abbrev s_Drop___init__ : Stmt := inClass (top 32) 0
abbrev s_Drop_told : Stmt := inClass (top 32) 1
abbrev s_Add___init__ : Stmt := inClass (top 33) 0
abbrev s_Add_told : Stmt := inClass (top 33) 1
abbrev s_Wipe___init__ : Stmt := inClass (top 34) 0
abbrev s_Wipe_told : Stmt := inClass (top 34) 1
abbrev s_Raise___init__ : Stmt := inClass (top 35) 0
abbrev s_Raise_told : Stmt := inClass (top 35) 1
abbrev s_Level___init__ : Stmt := inClass (top 36) 0
abbrev s_Level_told : Stmt := inClass (top 36) 1
abbrev s_Mark___init__ : Stmt := inClass (top 37) 0
abbrev s_Mark_told : Stmt := inClass (top 37) 1
abbrev s_Forget___init__ : Stmt := inClass (top 38) 0
abbrev s_Forget_told : Stmt := inClass (top 38) 1
abbrev s_has_form : Stmt := top 39
abbrev s_deed_of : Stmt := top 40
abbrev s_read_words : Stmt := top 41
abbrev s__law_well : Stmt := top 43
abbrev s__law_draw : Stmt := top 44
abbrev s__law_key : Stmt := top 45
abbrev s__law_amount : Stmt := top 46
abbrev s__law_stretch : Stmt := top 47
abbrev s__law_deed : Stmt := top 48
abbrev s__law_whole : Stmt := top 49
abbrev s__law_number : Stmt := top 50
abbrev s__law_read : Stmt := top 51
abbrev s__law_sign : Stmt := top 52
abbrev s__law_spoilt : Stmt := top 53
abbrev s__law_word : Stmt := top 54
abbrev s_law : Stmt := top 55
structure XC (K : PySem.W.Frag) (C cF c0 c1 c2 c3 c4 c5 : Addr) : Prop where
  x : Exc K C
  i : ExcI K C
  m : PySem.W.exmOne K (.ref C) (.ref cF) = some true
  k0 : PySem.W.kitOne K (.ref C) (.ref c0) = some true
  k1 : PySem.W.kitOne K (.ref C) (.ref c1) = some false
  k2 : PySem.W.kitOne K (.ref C) (.ref c2) = some false
  k3 : PySem.W.kitOne K (.ref C) (.ref c3) = some false
  k4 : PySem.W.kitOne K (.ref C) (.ref c4) = some false
  k5 : PySem.W.kitOne K (.ref C) (.ref c5) = some false
def things : List (Str × Int) := [("put", 3), ("drop", 2), ("add", 3), ("wipe", 3), ("raise", 4), ("level", 4), ("mark", 1), ("forget", 2)]
def thv (u1 u2 u3 u4 u5 u6 u7 u8 : Tok) : List (Key × Value) := [(.inr "put", .int 3 u1), (.inr "drop", .int 2 u2), (.inr "add", .int 3 u3), (.inr "wipe", .int 3 u4), (.inr "raise", .int 4 u5), (.inr "level", .int 4 u6), (.inr "mark", .int 1 u7), (.inr "forget", .int 2 u8)]
theorem thv_at {u1 u2 u3 u4 u5 u6 u7 u8 : Tok} (x : Str) : (valueAt (thv u1 u2 u3 u4 u5 u6 u7 u8) (.inr x) = none ∧ things.lookup x = none) ∨ ∃ n t, valueAt (thv u1 u2 u3 u4 u5 u6 u7 u8) (.inr x) = some (.int n t) ∧ things.lookup x = some n := by
  have key : ∀ (l : List (Str × Int × Tok)), (valueAt (l.map fun e => ((.inr e.1 : Key), Value.int e.2.1 e.2.2)) (.inr x) = none ∧ (l.map fun e => (e.1, e.2.1)).lookup x = none) ∨ ∃ n t, valueAt (l.map fun e => ((.inr e.1 : Key), Value.int e.2.1 e.2.2)) (.inr x) = some (.int n t) ∧ (l.map fun e => (e.1, e.2.1)).lookup x = some n := by
    intro l
    induction l with
    | nil => exact .inl ⟨rfl, rfl⟩
    | cons e r ih =>
      by_cases z : e.1 = x
      · refine .inr ⟨e.2.1, e.2.2, ?_, ?_⟩
        · simp [valueAt, z]
        · simp [List.lookup, z]
      · have z' : (x == e.1) = false := by simpa using fun q => z q.symm
        simp only [valueAt, List.map_cons, List.find?_cons, List.lookup, z', Sum.inr.injEq, z, decide_false] at ih ⊢
        exact ih
  exact key [("put", 3, u1), ("drop", 2, u2), ("add", 3, u3), ("wipe", 3, u4), ("raise", 4, u5), ("level", 4, u6), ("mark", 1, u7), ("forget", 2, u8)]
structure B (P : Program) (w : World) (K : PySem.W.Frag) (mg : Str → Option Value) (aTh cF cD cK cS cM cA cP : Addr) (tE tM tN tF u1 u2 u3 u4 u5 u6 u7 u8 : Tok) : Prop where
  len : mg "len" = none
  isinstance : mg "isinstance" = none
  int : mg "int" = none
  bool : mg "bool" = none
  tuple : mg "tuple" = none
  str : mg "str" = none
  min : mg "min" = none
  END : mg "END" = some (.int 1000000000000 tE)
  MOST_VALUE : mg "MOST_VALUE" = some (.int 1000000000000000000000000000000 tM)
  MOST_FIGURES : mg "MOST_FIGURES" = some (.int 60 tF)
  NO_MORE : mg "NO_MORE" = some (.str "no more" tN)
  THINGS : mg "THINGS" = some (.ref aTh)
  FallError : mg "FallError" = some (.ref cF)
  NoDeed : mg "NoDeed" = some (.ref cD)
  NoKey : mg "NoKey" = some (.ref cK)
  NoStretch : mg "NoStretch" = some (.ref cS)
  NoMark : mg "NoMark" = some (.ref cM)
  NoAction : mg "NoAction" = some (.ref cA)
  NoPage : mg "NoPage" = some (.ref cP)
  xD : XC K cD cF cD cK cS cM cA cP
  things : KDict P w K aTh (thv u1 u2 u3 u4 u5 u6 u7 u8)
section
variable {P : Program} {w : World} {K : PySem.W.Frag} {mg : Str → Option Value} {aTh cF cD cK cS cM cA cP : Addr} {tE tM tN tF u1 u2 u3 u4 u5 u6 u7 u8 : Tok}
theorem B.END_is (_ : B P w K mg aTh cF cD cK cS cM cA cP tE tM tN tF u1 u2 u3 u4 u5 u6 u7 u8) : RelV (.int 1000000000000) (.int 1000000000000 tE) := ⟨tE, rfl⟩
theorem B.MOST_VALUE_is (_ : B P w K mg aTh cF cD cK cS cM cA cP tE tM tN tF u1 u2 u3 u4 u5 u6 u7 u8) : RelV (.int 1000000000000000000000000000000) (.int 1000000000000000000000000000000 tM) := ⟨tM, rfl⟩
theorem B.MOST_FIGURES_is (_ : B P w K mg aTh cF cD cK cS cM cA cP tE tM tN tF u1 u2 u3 u4 u5 u6 u7 u8) : RelV (.int 60) (.int 60 tF) := ⟨tF, rfl⟩
theorem B.NO_MORE_is (_ : B P w K mg aTh cF cD cK cS cM cA cP tE tM tN tF u1 u2 u3 u4 u5 u6 u7 u8) : RelV (.str "no more") (.str "no more" tN) := ⟨tN, rfl⟩
theorem B.THINGS_is (_ : B P w K mg aTh cF cD cK cS cM cA cP tE tM tN tF u1 u2 u3 u4 u5 u6 u7 u8) : RelV (.ref aTh) (.ref aTh) := rfl
theorem B.NoDeed_is (_ : B P w K mg aTh cF cD cK cS cM cA cP tE tM tN tF u1 u2 u3 u4 u5 u6 u7 u8) : RelV (.ref cD) (.ref cD) := rfl
theorem B.NoKey_is (_ : B P w K mg aTh cF cD cK cS cM cA cP tE tM tN tF u1 u2 u3 u4 u5 u6 u7 u8) : RelV (.ref cK) (.ref cK) := rfl
theorem B.NoStretch_is (_ : B P w K mg aTh cF cD cK cS cM cA cP tE tM tN tF u1 u2 u3 u4 u5 u6 u7 u8) : RelV (.ref cS) (.ref cS) := rfl
theorem B.NoMark_is (_ : B P w K mg aTh cF cD cK cS cM cA cP tE tM tN tF u1 u2 u3 u4 u5 u6 u7 u8) : RelV (.ref cM) (.ref cM) := rfl
theorem B.NoAction_is (_ : B P w K mg aTh cF cD cK cS cM cA cP tE tM tN tF u1 u2 u3 u4 u5 u6 u7 u8) : RelV (.ref cA) (.ref cA) := rfl
theorem B.NoPage_is (_ : B P w K mg aTh cF cD cK cS cM cA cP tE tM tN tF u1 u2 u3 u4 u5 u6 u7 u8) : RelV (.ref cP) (.ref cP) := rfl
theorem B.x_NoDeed (b : B P w K mg aTh cF cD cK cS cM cA cP tE tM tN tF u1 u2 u3 u4 u5 u6 u7 u8) : Exc K cD := b.xD.x
end
inductive Kd where
  | put | drop | add | wipe | raise | level | mark | forget
  deriving DecidableEq
def Kd.word : Kd → Str
  | .put => "put"
  | .drop => "drop"
  | .add => "add"
  | .wipe => "wipe"
  | .raise => "raise"
  | .level => "level"
  | .mark => "mark"
  | .forget => "forget"
def Kd.names : Kd → List Str
  | .put => ["key", "value"]
  | .drop => ["key"]
  | .add => ["key", "by"]
  | .wipe => ["low", "high"]
  | .raise => ["low", "high", "by"]
  | .level => ["low", "high", "value"]
  | .mark => []
  | .forget => ["mark"]
structure Cs where
  cPut : Addr
  cDrop : Addr
  cAdd : Addr
  cWipe : Addr
  cRaise : Addr
  cLevel : Addr
  cMark : Addr
  cForget : Addr
def Cs.at (s : Cs) : Kd → Addr
  | .put => s.cPut
  | .drop => s.cDrop
  | .add => s.cAdd
  | .wipe => s.cWipe
  | .raise => s.cRaise
  | .level => s.cLevel
  | .mark => s.cMark
  | .forget => s.cForget
def okKey (i : Int) : Prop := 0 ≤ i ∧ i ≤ 999999999999
def okAm (i : Int) : Prop := -1000000000000000000000000000000 ≤ i ∧ i ≤ 1000000000000000000000000000000
def okSt (i j : Int) : Prop := 0 ≤ i ∧ i < j ∧ j ≤ 1000000000000
def Kd.ok : Kd → List Int → Prop
  | .put, us => ∃ k v, us = [k, v] ∧ okKey k ∧ okAm v
  | .drop, us => ∃ k, us = [k] ∧ okKey k
  | .add, us => ∃ k v, us = [k, v] ∧ okKey k ∧ okAm v
  | .wipe, us => ∃ l h, us = [l, h] ∧ okSt l h
  | .raise, us => ∃ l h v, us = [l, h, v] ∧ okSt l h ∧ okAm v
  | .level, us => ∃ l h v, us = [l, h, v] ∧ okSt l h ∧ okAm v
  | .mark, us => us = []
  | .forget, us => ∃ m, us = [m] ∧ 1 ≤ m
def Kd.told (k : Kd) (us : List Int) : List V := .str k.word :: us.map V.int
def Kd.flds (k : Kd) (us : List Int) : List (Str × V) := k.names.zip (us.map V.int)
def DeedAt (C : Addr) (H : Hp) (a : Addr) (k : Kd) (us : List Int) : Prop := ∃ dx, H a = some (.ins C dx (k.flds us))
def on : Option Int → V
  | none => .non
  | some i => .int i
def Kd.okO (k : Kd) (os : List (Option Int)) : Prop := ∃ us : List Int, os = us.map some ∧ k.ok us
def wO (lo hi : Int) : Option Int → Bool
  | some i => decide (lo ≤ i ∧ i ≤ hi)
  | none => false
def fO (lo : Int) : Option Int → Bool
  | some i => decide (lo ≤ i)
  | none => false
def sO : Option Int → Option Int → Bool
  | some i, some j => decide (0 ≤ i ∧ i < j ∧ j ≤ 1000000000000)
  | _, _ => false
def isKey (o : Option Int) : Bool := wO 0 999999999999 o
def isAm (o : Option Int) : Bool := wO (-1000000000000000000000000000000) 1000000000000000000000000000000 o
theorem isKey_of {o : Option Int} (h : isKey o = true) : ∃ i, o = some i ∧ okKey i := by
  cases o with
  | none => cases h
  | some i => exact ⟨i, rfl, of_decide_eq_true (p := 0 ≤ i ∧ i ≤ 999999999999) h⟩
theorem isAm_of {o : Option Int} (h : isAm o = true) : ∃ i, o = some i ∧ okAm i := by
  cases o with
  | none => cases h
  | some i => exact ⟨i, rfl, of_decide_eq_true (p := -1000000000000000000000000000000 ≤ i ∧ i ≤ 1000000000000000000000000000000) h⟩
theorem sO_of {o p : Option Int} (h : sO o p = true) : ∃ i j, o = some i ∧ p = some j ∧ okSt i j := by
  cases o with
  | none => cases h
  | some i =>
    cases p with
    | none => cases h
    | some j => exact ⟨i, j, rfl, rfl, of_decide_eq_true (p := 0 ≤ i ∧ i < j ∧ j ≤ 1000000000000) h⟩
theorem fO_of {o : Option Int} (h : fO 1 o = true) : ∃ i, o = some i ∧ 1 ≤ i := by
  cases o with
  | none => cases h
  | some i => exact ⟨i, rfl, of_decide_eq_true h⟩
section
variable {P : Program} {w : World} {K : PySem.W.Frag} {mg : Str → Option Value} {base : Heap}
def spNumO : Sp := fun vs H Q _ => ∃ o, vs = [on o] ∧ Q (.bl o.isSome) H
def spWholeO : Sp := fun vs H Q _ => ∃ o lo hi, vs = [on o, .int lo, .int hi] ∧ Q (.bl (wO lo hi o)) H
def spFromO : Sp := fun vs H Q _ => ∃ o lo, vs = [on o, .int lo] ∧ Q (.bl (fO lo o)) H
def spKeyO : Sp := fun vs H Q _ => ∃ o, vs = [on o] ∧ Q (.bl (isKey o)) H
def spAmO : Sp := fun vs H Q _ => ∃ o, vs = [on o] ∧ Q (.bl (isAm o)) H
def spStO : Sp := fun vs H Q _ => ∃ o p, vs = [on o, on p] ∧ Q (.bl (sO o p)) H
def spChk (cD : Addr) : Sp := fun vs H Q E => ∃ b, vs = [.bl b, .str "no more"] ∧ if b = true then Q .non H else E (.ref cD) none H
def spInit (k : Kd) (C cD : Addr) : Sp := fun vs H Q E => ∃ x dx os, vs = .ref x :: (os.map on ++ [.str "no more"]) ∧ os.length = k.names.length ∧ H x = some (.ins C dx []) ∧
  (∀ us : List Int, os = us.map some → k.ok us → Q .non (upd H x (.ins C dx (k.flds us)))) ∧ (¬ k.okO os → E (.ref cD) none H)
def spTold (K : PySem.W.Frag) (k : Kd) (C : Addr) : Sp := fun vs H Q _ => ∃ a us, vs = [.ref a] ∧ k.ok us ∧ DeedAt C H a k us ∧ ∀ T, new K H T → Q (.ref T) (upd H T (.tup (k.told us)))
theorem sc_is_number : FnScope ["thing"] ["thing"] (defScope s_is_number) := ⟨rfl, rfl, rfl, by decide +kernel, rfl, by decide +kernel, by decide +kernel⟩
theorem ok_is_number {f : Addr} {fd : FuncData} (F : Fun K "is_number" "is_number" s_is_number f fd) {aTh cF cD cK cS cM cA cP : Addr} {tE tM tN tF u1 u2 u3 u4 u5 u6 u7 u8 : Tok} (B : B P w K mg aTh cF cD cK cS cM cA cP tE tM tN tF u1 u2 u3 u4 u5 u6 u7 u8)  : FnOk P w K mg base CX0 1 f fd ["thing"] spNumO := by
  refine F.okJ sc_is_number (fun vs H Q E h => ?_) (fun cdv A outer s H vs Q E hr h => ?_)
  · obtain ⟨o, rfl, _⟩ := h
    rfl
  obtain ⟨o, rfl, q⟩ := h
  refine ⟨_, (bone (sret (eand (ecallB call_isinstQ rfl B.isinstance bt_isinstance (acons (ev 0) (acons (etyp rfl B.int bt_int) anil))) (eone (enot (ecallB call_isinstQ rfl B.isinstance bt_isinstance (acons (ev 0) (acons (etyp rfl B.bool bt_bool) anil)))))))), ?_⟩
  try walk_at "rn"
  cases o with
  | none => exact ⟨_, .inl .non, false, rfl, q⟩
  | some i => exact ⟨_, .inl (.int i), true, rfl, _, .inl (.int i), false, rfl, q⟩
theorem sc_is_whole : FnScope ["thing", "low", "high"] ["thing", "low", "high"] (defScope s_is_whole) := ⟨rfl, rfl, rfl, by decide +kernel, rfl, by decide +kernel, by decide +kernel⟩
theorem ok_is_whole {f : Addr} {fd : FuncData} (F : Fun K "is_whole" "is_whole" s_is_whole f fd) {aTh cF cD cK cS cM cA cP : Addr} {tE tM tN tF u1 u2 u3 u4 u5 u6 u7 u8 : Tok} (B : B P w K mg aTh cF cD cK cS cM cA cP tE tM tN tF u1 u2 u3 u4 u5 u6 u7 u8) (C_is_number : Callee P w K mg base "is_number" 1 ["thing"] spNumO) : FnOk P w K mg base CX0 2 f fd ["thing", "low", "high"] spWholeO := by
  refine F.okJ sc_is_whole (fun vs H Q E h => ?_) (fun cdv A outer s H vs Q E hr h => ?_)
  · obtain ⟨o, lo, hi, rfl, _⟩ := h
    rfl
  obtain ⟨o, lo, hi, rfl, q⟩ := h
  refine ⟨_, (bone (sret (eand (ecall C_is_number (hr.mono (by decide)) rfl (acons (ev 0) anil)) (eone (echain op_le op_le (ev 1) (ev 0) (ev 2)))))), ?_⟩
  try walk_at "rn"
  refine ⟨o, rfl, _, rfl, ?_⟩
  cases o with
  | none => exact iteF' (by decide) q
  | some i =>
    refine iteT' rfl ⟨_, rfl, ?_⟩
    simp only [wO] at q
    split
    · rename_i c
      simp only [c, true_and] at q
      exact ⟨_, rfl, q⟩
    · rename_i c
      simp only [c, false_and, decide_false] at q
      exact q
theorem sc_is_whole_from : FnScope ["thing", "low"] ["thing", "low"] (defScope s_is_whole_from) := ⟨rfl, rfl, rfl, by decide +kernel, rfl, by decide +kernel, by decide +kernel⟩
theorem ok_is_whole_from {f : Addr} {fd : FuncData} (F : Fun K "is_whole_from" "is_whole_from" s_is_whole_from f fd) {aTh cF cD cK cS cM cA cP : Addr} {tE tM tN tF u1 u2 u3 u4 u5 u6 u7 u8 : Tok} (B : B P w K mg aTh cF cD cK cS cM cA cP tE tM tN tF u1 u2 u3 u4 u5 u6 u7 u8) (C_is_number : Callee P w K mg base "is_number" 1 ["thing"] spNumO) : FnOk P w K mg base CX0 2 f fd ["thing", "low"] spFromO := by
  refine F.okJ sc_is_whole_from (fun vs H Q E h => ?_) (fun cdv A outer s H vs Q E hr h => ?_)
  · obtain ⟨o, lo, rfl, _⟩ := h
    rfl
  obtain ⟨o, lo, rfl, q⟩ := h
  refine ⟨_, (bone (sret (eand (ecall C_is_number (hr.mono (by decide)) rfl (acons (ev 0) anil)) (eone (ecmp op_le (ev 1) (ev 0) (nomark _)))))), ?_⟩
  try walk_at "rn"
  refine ⟨o, rfl, _, rfl, ?_⟩
  cases o with
  | none => exact iteF' (by decide) q
  | some i => exact iteT' rfl ⟨_, rfl, q⟩
theorem sc_is_key : FnScope ["thing"] ["thing"] (defScope s_is_key) := ⟨rfl, rfl, rfl, by decide +kernel, rfl, by decide +kernel, by decide +kernel⟩
theorem ok_is_key {f : Addr} {fd : FuncData} (F : Fun K "is_key" "is_key" s_is_key f fd) {aTh cF cD cK cS cM cA cP : Addr} {tE tM tN tF u1 u2 u3 u4 u5 u6 u7 u8 : Tok} (B : B P w K mg aTh cF cD cK cS cM cA cP tE tM tN tF u1 u2 u3 u4 u5 u6 u7 u8) (C_is_whole : Callee P w K mg base "is_whole" 2 ["thing", "low", "high"] spWholeO) : FnOk P w K mg base CX0 3 f fd ["thing"] spKeyO := by
  refine F.okJ sc_is_key (fun vs H Q E h => ?_) (fun cdv A outer s H vs Q E hr h => ?_)
  · obtain ⟨o, rfl, _⟩ := h
    rfl
  obtain ⟨o, rfl, q⟩ := h
  refine ⟨_, (bone (sret (ecall C_is_whole (hr.mono (by decide)) rfl (acons (ev 0) (acons ei (acons (eop op_sub (eglob rfl B.END B.END_is) ei) anil)))))), ?_⟩
  try walk_at "rn"
  exact ⟨o, 0, 999999999999, rfl, q⟩
theorem sc_is_stretch : FnScope ["low", "high"] ["low", "high"] (defScope s_is_stretch) := ⟨rfl, rfl, rfl, by decide +kernel, rfl, by decide +kernel, by decide +kernel⟩
theorem ok_is_stretch {f : Addr} {fd : FuncData} (F : Fun K "is_stretch" "is_stretch" s_is_stretch f fd) {aTh cF cD cK cS cM cA cP : Addr} {tE tM tN tF u1 u2 u3 u4 u5 u6 u7 u8 : Tok} (B : B P w K mg aTh cF cD cK cS cM cA cP tE tM tN tF u1 u2 u3 u4 u5 u6 u7 u8) (C_is_whole : Callee P w K mg base "is_whole" 2 ["thing", "low", "high"] spWholeO) : FnOk P w K mg base CX0 3 f fd ["low", "high"] spStO := by
  refine F.okJ sc_is_stretch (fun vs H Q E h => ?_) (fun cdv A outer s H vs Q E hr h => ?_)
  · obtain ⟨o, p, rfl, _⟩ := h
    rfl
  obtain ⟨o, p, rfl, q⟩ := h
  refine ⟨_, (bone (sret (eand (ecall C_is_whole (hr.mono (by decide)) rfl (acons (ev 0) (acons ei (acons (eglob rfl B.END B.END_is) anil)))) (eand (ecall C_is_whole (hr.mono (by decide)) rfl (acons (ev 1) (acons ei (acons (eglob rfl B.END B.END_is) anil)))) (eone (ecmp op_lt (ev 0) (ev 1) (nomark _))))))), ?_⟩
  try walk_at "rn"
  refine ⟨o, 0, 1000000000000, rfl, _, rfl, ?_⟩
  cases o with
  | none => exact iteF' (by decide) (by cases p <;> exact q)
  | some i =>
    by_cases c : 0 ≤ i ∧ i ≤ 1000000000000
    · refine iteT' (decide_eq_true c) ⟨p, 0, 1000000000000, rfl, _, rfl, ?_⟩
      cases p with
      | none => exact iteF' (by decide) q
      | some j =>
        by_cases d : 0 ≤ j ∧ j ≤ 1000000000000
        · refine iteT' (decide_eq_true d) ⟨_, rfl, _, rfl, ?_⟩
          rw [show decide (i < j) = sO (some i) (some j) from decide_eq_decide.mpr ⟨fun z => ⟨c.1, z, d.2⟩, fun z => z.2.1⟩]
          exact q
        · refine iteF' (by simp only [wO]; rw [decide_eq_false d]; decide) ?_
          rw [show sO (some i) (some j) = false from decide_eq_false fun z => absurd ⟨by omega, z.2.2⟩ d] at q
          exact q
    · refine iteF' (by simp only [wO]; rw [decide_eq_false c]; decide) ?_
      rw [show sO (some i) p = false from by
        cases p with
        | none => rfl
        | some j => exact decide_eq_false fun z => c ⟨z.1, by omega⟩] at q
      exact q
theorem sc_is_amount : FnScope ["thing"] ["thing"] (defScope s_is_amount) := ⟨rfl, rfl, rfl, by decide +kernel, rfl, by decide +kernel, by decide +kernel⟩
theorem ok_is_amount {f : Addr} {fd : FuncData} (F : Fun K "is_amount" "is_amount" s_is_amount f fd) {aTh cF cD cK cS cM cA cP : Addr} {tE tM tN tF u1 u2 u3 u4 u5 u6 u7 u8 : Tok} (B : B P w K mg aTh cF cD cK cS cM cA cP tE tM tN tF u1 u2 u3 u4 u5 u6 u7 u8) (C_is_whole : Callee P w K mg base "is_whole" 2 ["thing", "low", "high"] spWholeO) : FnOk P w K mg base CX0 3 f fd ["thing"] spAmO := by
  refine F.okJ sc_is_amount (fun vs H Q E h => ?_) (fun cdv A outer s H vs Q E hr h => ?_)
  · obtain ⟨o, rfl, _⟩ := h
    rfl
  obtain ⟨o, rfl, q⟩ := h
  refine ⟨_, (bone (sret (ecall C_is_whole (hr.mono (by decide)) rfl (acons (ev 0) (acons (eun un_neg (eglob rfl B.MOST_VALUE B.MOST_VALUE_is)) (acons (eglob rfl B.MOST_VALUE B.MOST_VALUE_is) anil)))))), ?_⟩
  try walk_at "rn"
  exact ⟨o, _, _, rfl, q⟩
theorem sc_check_things : FnScope ["fit", "more"] ["fit", "more"] (defScope s_check_things) := ⟨rfl, rfl, rfl, by decide +kernel, rfl, by decide +kernel, by decide +kernel⟩
theorem ok_check_things {f : Addr} {fd : FuncData} (F : Fun K "check_things" "check_things" s_check_things f fd) {aTh cF cD cK cS cM cA cP : Addr} {tE tM tN tF u1 u2 u3 u4 u5 u6 u7 u8 : Tok} (B : B P w K mg aTh cF cD cK cS cM cA cP tE tM tN tF u1 u2 u3 u4 u5 u6 u7 u8) : FnOk P w K mg base (CXO P w) 1 f fd ["fit", "more"] (spChk cD) := by
  refine F.okX sc_check_things (fun vs H Q E h => ?_) (fun cdv A outer s H vs Q E hr h => ?_)
  · obtain ⟨b, rfl, _⟩ := h
    rfl
  obtain ⟨b, rfl, q⟩ := h
  refine ⟨_, (bone (sif (tw (wor (tnot (ttruth (ev 0) (fun _ => rfl))) (wor (tnot (tval (ecallB call_isinstQ rfl B.isinstance bt_isinstance (acons (ev 1) (acons (etyp rfl B.str bt_str) anil))))) (wor1 (tcmp op_ne (ev 1) (eglob rfl B.NO_MORE B.NO_MORE_is) (nomark _)))))) (bone (sraise B.x_NoDeed B.NoDeed hr.hd rfl)) bnil)), ?_⟩
  try walk_at "rn"
  refine ⟨b, rfl, ?_⟩
  cases b
  · exact q
  · exact ⟨_, .inl (.str _), _, rfl, q⟩
theorem upd_self {H : Hp} {a : Addr} {o : HO} (h : H a = some o) : upd H a o = H := by
  funext b
  by_cases z : b = a
  · subst z; rw [upd_same, h]
  · rw [upd_ne z]
theorem put_lt {f : Str} {y : V} {fs : List (Str × V)} {n : Nat} (h : fs.length ≤ n) (hn : n < 999) : (putF f y fs).length ≤ n + 1 := by
  have := length_putF f y fs
  omega
theorem sc_Put___init__ : FnScope ["self", "key", "value", "more"] ["self", "key", "value", "more"] (defScope s_Put___init__) := ⟨rfl, rfl, rfl, by decide +kernel, rfl, by decide +kernel, by decide +kernel⟩
theorem ok_Put___init__ {f cPut : Addr} {fd : FuncData} (F : FunD K "__init__" "Put.__init__" s_Put___init__ f fd) {aTh cF cD cK cS cM cA cP : Addr} {tE tM tN tF u1 u2 u3 u4 u5 u6 u7 u8 : Tok} (B : B P w K mg aTh cF cD cK cS cM cA cP tE tM tN tF u1 u2 u3 u4 u5 u6 u7 u8) (c : Cls K cPut) (n_key : NoAttr K cPut "key") (n_value : NoAttr K cPut "value") (C_check_things : CalleeX P w K mg base "check_things" 1 ["fit", "more"] (spChk cD)) (C_is_key : Callee P w K mg base "is_key" 3 ["thing"] spKeyO) (C_is_amount : Callee P w K mg base "is_amount" 3 ["thing"] spAmO) : FnOk P w K mg base (CXO P w) 4 f fd ["self", "key", "value", "more"] (spInit .put cPut cD) := by
  refine F.okX sc_Put___init__ (fun vs H Q E h => ?_) (fun cdv A outer s H vs Q E hr h => ?_)
  · obtain ⟨x, dx, os, rfl, hl, _⟩ := h
    simp only [List.length_cons, List.length_append, List.length_map, List.length_nil, hl]
    rfl
  obtain ⟨x, dx, os, rfl, hl, hx, q, qn⟩ := h
  obtain ⟨o0, o1, rfl⟩ : ∃ o0 o1, os = [o0, o1] := by
    rcases os with _ | ⟨a0, _ | ⟨a1, _ | ⟨a2, _ | ⟨a3, os⟩⟩⟩⟩ <;> simp only [Kd.names, List.length_cons, List.length_nil] at hl <;> first | omega | exact ⟨_, _, rfl⟩
  refine ⟨_, (bcons (sexpr (ecallX C_check_things pass1 (hr.mono (by decide)) rfl (acons (eand (ecall C_is_key (hr.mono (by decide)) rfl (acons (ev 1) anil)) (eone (ecall C_is_amount (hr.mono (by decide)) rfl (acons (ev 2) anil)))) (acons (ev 3) anil))))
      (bcons (sfld (ev 0) (ev 1))
      (bone (sfld (ev 0) (ev 2))))), ?_⟩
  try walk_at "rn"
  refine ⟨o0, rfl, _, rfl, ?_⟩
  cases c0 : isKey o0
  · refine iteF' (by decide) ⟨false, rfl, qn ?_⟩
    rintro ⟨us, e, i, j, rfl, h1, h2⟩
    cases e
    exact absurd (show isKey (some i) = true from decide_eq_true h1) (by rw [c0]; decide)
  obtain ⟨i, rfl, k1⟩ := isKey_of c0
  refine iteT' rfl ⟨o1, rfl, ?_⟩
  cases c1 : isAm o1
  · refine ⟨false, rfl, qn ?_⟩
    rintro ⟨us, e, i, j, rfl, h1, h2⟩
    cases e
    exact absurd (show isAm (some j) = true from decide_eq_true h2) (by rw [c1]; decide)
  obtain ⟨j, rfl, k2⟩ := isAm_of c1
  exact ⟨true, rfl, _, _, _, hx, c, n_key, by decide, _, _, _, rfl, c, n_value, Nat.lt_of_le_of_lt (put_lt (Nat.zero_le 0 : ([] : List (Str × V)).length ≤ 0) (by decide)) (by decide), by first | exact q [i, j] rfl ⟨i, j, rfl, k1, k2⟩ | (simp only [upd_upd]; exact q [i, j] rfl ⟨i, j, rfl, k1, k2⟩)⟩
theorem sc_Drop___init__ : FnScope ["self", "key", "more"] ["self", "key", "more"] (defScope s_Drop___init__) := ⟨rfl, rfl, rfl, by decide +kernel, rfl, by decide +kernel, by decide +kernel⟩
theorem ok_Drop___init__ {f cDrop : Addr} {fd : FuncData} (F : FunD K "__init__" "Drop.__init__" s_Drop___init__ f fd) {aTh cF cD cK cS cM cA cP : Addr} {tE tM tN tF u1 u2 u3 u4 u5 u6 u7 u8 : Tok} (B : B P w K mg aTh cF cD cK cS cM cA cP tE tM tN tF u1 u2 u3 u4 u5 u6 u7 u8) (c : Cls K cDrop) (n_key : NoAttr K cDrop "key") (C_check_things : CalleeX P w K mg base "check_things" 1 ["fit", "more"] (spChk cD)) (C_is_key : Callee P w K mg base "is_key" 3 ["thing"] spKeyO) : FnOk P w K mg base (CXO P w) 4 f fd ["self", "key", "more"] (spInit .drop cDrop cD) := by
  refine F.okX sc_Drop___init__ (fun vs H Q E h => ?_) (fun cdv A outer s H vs Q E hr h => ?_)
  · obtain ⟨x, dx, os, rfl, hl, _⟩ := h
    simp only [List.length_cons, List.length_append, List.length_map, List.length_nil, hl]
    rfl
  obtain ⟨x, dx, os, rfl, hl, hx, q, qn⟩ := h
  obtain ⟨o0, rfl⟩ : ∃ o0, os = [o0] := by
    rcases os with _ | ⟨a0, _ | ⟨a1, _ | ⟨a2, _ | ⟨a3, os⟩⟩⟩⟩ <;> simp only [Kd.names, List.length_cons, List.length_nil] at hl <;> first | omega | exact ⟨_, rfl⟩
  refine ⟨_, (bcons (sexpr (ecallX C_check_things pass1 (hr.mono (by decide)) rfl (acons (ecall C_is_key (hr.mono (by decide)) rfl (acons (ev 1) anil)) (acons (ev 2) anil))))
      (bone (sfld (ev 0) (ev 1)))), ?_⟩
  try walk_at "rn"
  refine ⟨o0, rfl, ?_⟩
  cases c0 : isKey o0
  · refine ⟨false, rfl, qn ?_⟩
    rintro ⟨us, e, i, rfl, h1⟩
    cases e
    exact absurd (show isKey (some i) = true from decide_eq_true h1) (by rw [c0]; decide)
  obtain ⟨i, rfl, k1⟩ := isKey_of c0
  exact ⟨true, rfl, _, _, _, hx, c, n_key, by decide, by first | exact q [i] rfl ⟨i, rfl, k1⟩ | (simp only [upd_upd]; exact q [i] rfl ⟨i, rfl, k1⟩)⟩
theorem sc_Add___init__ : FnScope ["self", "key", "by", "more"] ["self", "key", "by", "more"] (defScope s_Add___init__) := ⟨rfl, rfl, rfl, by decide +kernel, rfl, by decide +kernel, by decide +kernel⟩
theorem ok_Add___init__ {f cAdd : Addr} {fd : FuncData} (F : FunD K "__init__" "Add.__init__" s_Add___init__ f fd) {aTh cF cD cK cS cM cA cP : Addr} {tE tM tN tF u1 u2 u3 u4 u5 u6 u7 u8 : Tok} (B : B P w K mg aTh cF cD cK cS cM cA cP tE tM tN tF u1 u2 u3 u4 u5 u6 u7 u8) (c : Cls K cAdd) (n_key : NoAttr K cAdd "key") (n_by : NoAttr K cAdd "by") (C_check_things : CalleeX P w K mg base "check_things" 1 ["fit", "more"] (spChk cD)) (C_is_key : Callee P w K mg base "is_key" 3 ["thing"] spKeyO) (C_is_amount : Callee P w K mg base "is_amount" 3 ["thing"] spAmO) : FnOk P w K mg base (CXO P w) 4 f fd ["self", "key", "by", "more"] (spInit .add cAdd cD) := by
  refine F.okX sc_Add___init__ (fun vs H Q E h => ?_) (fun cdv A outer s H vs Q E hr h => ?_)
  · obtain ⟨x, dx, os, rfl, hl, _⟩ := h
    simp only [List.length_cons, List.length_append, List.length_map, List.length_nil, hl]
    rfl
  obtain ⟨x, dx, os, rfl, hl, hx, q, qn⟩ := h
  obtain ⟨o0, o1, rfl⟩ : ∃ o0 o1, os = [o0, o1] := by
    rcases os with _ | ⟨a0, _ | ⟨a1, _ | ⟨a2, _ | ⟨a3, os⟩⟩⟩⟩ <;> simp only [Kd.names, List.length_cons, List.length_nil] at hl <;> first | omega | exact ⟨_, _, rfl⟩
  refine ⟨_, (bcons (sexpr (ecallX C_check_things pass1 (hr.mono (by decide)) rfl (acons (eand (ecall C_is_key (hr.mono (by decide)) rfl (acons (ev 1) anil)) (eone (ecall C_is_amount (hr.mono (by decide)) rfl (acons (ev 2) anil)))) (acons (ev 3) anil))))
      (bcons (sfld (ev 0) (ev 1))
      (bone (sfld (ev 0) (ev 2))))), ?_⟩
  try walk_at "rn"
  refine ⟨o0, rfl, _, rfl, ?_⟩
  cases c0 : isKey o0
  · refine iteF' (by decide) ⟨false, rfl, qn ?_⟩
    rintro ⟨us, e, i, j, rfl, h1, h2⟩
    cases e
    exact absurd (show isKey (some i) = true from decide_eq_true h1) (by rw [c0]; decide)
  obtain ⟨i, rfl, k1⟩ := isKey_of c0
  refine iteT' rfl ⟨o1, rfl, ?_⟩
  cases c1 : isAm o1
  · refine ⟨false, rfl, qn ?_⟩
    rintro ⟨us, e, i, j, rfl, h1, h2⟩
    cases e
    exact absurd (show isAm (some j) = true from decide_eq_true h2) (by rw [c1]; decide)
  obtain ⟨j, rfl, k2⟩ := isAm_of c1
  exact ⟨true, rfl, _, _, _, hx, c, n_key, by decide, _, _, _, rfl, c, n_by, Nat.lt_of_le_of_lt (put_lt (Nat.zero_le 0 : ([] : List (Str × V)).length ≤ 0) (by decide)) (by decide), by first | exact q [i, j] rfl ⟨i, j, rfl, k1, k2⟩ | (simp only [upd_upd]; exact q [i, j] rfl ⟨i, j, rfl, k1, k2⟩)⟩
theorem sc_Wipe___init__ : FnScope ["self", "low", "high", "more"] ["self", "low", "high", "more"] (defScope s_Wipe___init__) := ⟨rfl, rfl, rfl, by decide +kernel, rfl, by decide +kernel, by decide +kernel⟩
theorem ok_Wipe___init__ {f cWipe : Addr} {fd : FuncData} (F : FunD K "__init__" "Wipe.__init__" s_Wipe___init__ f fd) {aTh cF cD cK cS cM cA cP : Addr} {tE tM tN tF u1 u2 u3 u4 u5 u6 u7 u8 : Tok} (B : B P w K mg aTh cF cD cK cS cM cA cP tE tM tN tF u1 u2 u3 u4 u5 u6 u7 u8) (c : Cls K cWipe) (n_low : NoAttr K cWipe "low") (n_high : NoAttr K cWipe "high") (C_check_things : CalleeX P w K mg base "check_things" 1 ["fit", "more"] (spChk cD)) (C_is_stretch : Callee P w K mg base "is_stretch" 3 ["low", "high"] spStO) : FnOk P w K mg base (CXO P w) 4 f fd ["self", "low", "high", "more"] (spInit .wipe cWipe cD) := by
  refine F.okX sc_Wipe___init__ (fun vs H Q E h => ?_) (fun cdv A outer s H vs Q E hr h => ?_)
  · obtain ⟨x, dx, os, rfl, hl, _⟩ := h
    simp only [List.length_cons, List.length_append, List.length_map, List.length_nil, hl]
    rfl
  obtain ⟨x, dx, os, rfl, hl, hx, q, qn⟩ := h
  obtain ⟨o0, o1, rfl⟩ : ∃ o0 o1, os = [o0, o1] := by
    rcases os with _ | ⟨a0, _ | ⟨a1, _ | ⟨a2, _ | ⟨a3, os⟩⟩⟩⟩ <;> simp only [Kd.names, List.length_cons, List.length_nil] at hl <;> first | omega | exact ⟨_, _, rfl⟩
  refine ⟨_, (bcons (sexpr (ecallX C_check_things pass1 (hr.mono (by decide)) rfl (acons (ecall C_is_stretch (hr.mono (by decide)) rfl (acons (ev 1) (acons (ev 2) anil))) (acons (ev 3) anil))))
      (bcons (sfld (ev 0) (ev 1))
      (bone (sfld (ev 0) (ev 2))))), ?_⟩
  try walk_at "rn"
  refine ⟨o0, o1, rfl, ?_⟩
  cases c0 : sO o0 o1
  · refine ⟨false, rfl, qn ?_⟩
    rintro ⟨us, e, i, j, rfl, h1⟩
    cases e
    exact absurd (show sO (some i) (some j) = true from decide_eq_true h1) (by rw [c0]; decide)
  obtain ⟨i, j, rfl, rfl, k1⟩ := sO_of c0
  exact ⟨true, rfl, _, _, _, hx, c, n_low, by decide, _, _, _, rfl, c, n_high, Nat.lt_of_le_of_lt (put_lt (Nat.zero_le 0 : ([] : List (Str × V)).length ≤ 0) (by decide)) (by decide), by first | exact q [i, j] rfl ⟨i, j, rfl, k1⟩ | (simp only [upd_upd]; exact q [i, j] rfl ⟨i, j, rfl, k1⟩)⟩
theorem sc_Raise___init__ : FnScope ["self", "low", "high", "by", "more"] ["self", "low", "high", "by", "more"] (defScope s_Raise___init__) := ⟨rfl, rfl, rfl, by decide +kernel, rfl, by decide +kernel, by decide +kernel⟩
theorem ok_Raise___init__ {f cRaise : Addr} {fd : FuncData} (F : FunD K "__init__" "Raise.__init__" s_Raise___init__ f fd) {aTh cF cD cK cS cM cA cP : Addr} {tE tM tN tF u1 u2 u3 u4 u5 u6 u7 u8 : Tok} (B : B P w K mg aTh cF cD cK cS cM cA cP tE tM tN tF u1 u2 u3 u4 u5 u6 u7 u8) (c : Cls K cRaise) (n_low : NoAttr K cRaise "low") (n_high : NoAttr K cRaise "high") (n_by : NoAttr K cRaise "by") (C_check_things : CalleeX P w K mg base "check_things" 1 ["fit", "more"] (spChk cD)) (C_is_stretch : Callee P w K mg base "is_stretch" 3 ["low", "high"] spStO) (C_is_amount : Callee P w K mg base "is_amount" 3 ["thing"] spAmO) : FnOk P w K mg base (CXO P w) 4 f fd ["self", "low", "high", "by", "more"] (spInit .raise cRaise cD) := by
  refine F.okX sc_Raise___init__ (fun vs H Q E h => ?_) (fun cdv A outer s H vs Q E hr h => ?_)
  · obtain ⟨x, dx, os, rfl, hl, _⟩ := h
    simp only [List.length_cons, List.length_append, List.length_map, List.length_nil, hl]
    rfl
  obtain ⟨x, dx, os, rfl, hl, hx, q, qn⟩ := h
  obtain ⟨o0, o1, o2, rfl⟩ : ∃ o0 o1 o2, os = [o0, o1, o2] := by
    rcases os with _ | ⟨a0, _ | ⟨a1, _ | ⟨a2, _ | ⟨a3, os⟩⟩⟩⟩ <;> simp only [Kd.names, List.length_cons, List.length_nil] at hl <;> first | omega | exact ⟨_, _, _, rfl⟩
  refine ⟨_, (bcons (sexpr (ecallX C_check_things pass1 (hr.mono (by decide)) rfl (acons (eand (ecall C_is_stretch (hr.mono (by decide)) rfl (acons (ev 1) (acons (ev 2) anil))) (eone (ecall C_is_amount (hr.mono (by decide)) rfl (acons (ev 3) anil)))) (acons (ev 4) anil))))
      (bcons (sfld (ev 0) (ev 1))
      (bcons (sfld (ev 0) (ev 2))
      (bone (sfld (ev 0) (ev 3)))))), ?_⟩
  try walk_at "rn"
  refine ⟨o0, o1, rfl, _, rfl, ?_⟩
  cases c0 : sO o0 o1
  · refine iteF' (by decide) ⟨false, rfl, qn ?_⟩
    rintro ⟨us, e, i, j, l, rfl, h1, h2⟩
    cases e
    exact absurd (show sO (some i) (some j) = true from decide_eq_true h1) (by rw [c0]; decide)
  obtain ⟨i, j, rfl, rfl, k1⟩ := sO_of c0
  refine iteT' rfl ⟨o2, rfl, ?_⟩
  cases c1 : isAm o2
  · refine ⟨false, rfl, qn ?_⟩
    rintro ⟨us, e, i, j, l, rfl, h1, h2⟩
    cases e
    exact absurd (show isAm (some l) = true from decide_eq_true h2) (by rw [c1]; decide)
  obtain ⟨l, rfl, k2⟩ := isAm_of c1
  exact ⟨true, rfl, _, _, _, hx, c, n_low, by decide, _, _, _, rfl, c, n_high, Nat.lt_of_le_of_lt (put_lt (Nat.zero_le 0 : ([] : List (Str × V)).length ≤ 0) (by decide)) (by decide), _, _, _, rfl, c, n_by, Nat.lt_of_le_of_lt (put_lt (put_lt (Nat.zero_le 0 : ([] : List (Str × V)).length ≤ 0) (by decide)) (by decide)) (by decide), by first | exact q [i, j, l] rfl ⟨i, j, l, rfl, k1, k2⟩ | (simp only [upd_upd]; exact q [i, j, l] rfl ⟨i, j, l, rfl, k1, k2⟩)⟩
theorem sc_Level___init__ : FnScope ["self", "low", "high", "value", "more"] ["self", "low", "high", "value", "more"] (defScope s_Level___init__) := ⟨rfl, rfl, rfl, by decide +kernel, rfl, by decide +kernel, by decide +kernel⟩
theorem ok_Level___init__ {f cLevel : Addr} {fd : FuncData} (F : FunD K "__init__" "Level.__init__" s_Level___init__ f fd) {aTh cF cD cK cS cM cA cP : Addr} {tE tM tN tF u1 u2 u3 u4 u5 u6 u7 u8 : Tok} (B : B P w K mg aTh cF cD cK cS cM cA cP tE tM tN tF u1 u2 u3 u4 u5 u6 u7 u8) (c : Cls K cLevel) (n_low : NoAttr K cLevel "low") (n_high : NoAttr K cLevel "high") (n_value : NoAttr K cLevel "value") (C_check_things : CalleeX P w K mg base "check_things" 1 ["fit", "more"] (spChk cD)) (C_is_stretch : Callee P w K mg base "is_stretch" 3 ["low", "high"] spStO) (C_is_amount : Callee P w K mg base "is_amount" 3 ["thing"] spAmO) : FnOk P w K mg base (CXO P w) 4 f fd ["self", "low", "high", "value", "more"] (spInit .level cLevel cD) := by
  refine F.okX sc_Level___init__ (fun vs H Q E h => ?_) (fun cdv A outer s H vs Q E hr h => ?_)
  · obtain ⟨x, dx, os, rfl, hl, _⟩ := h
    simp only [List.length_cons, List.length_append, List.length_map, List.length_nil, hl]
    rfl
  obtain ⟨x, dx, os, rfl, hl, hx, q, qn⟩ := h
  obtain ⟨o0, o1, o2, rfl⟩ : ∃ o0 o1 o2, os = [o0, o1, o2] := by
    rcases os with _ | ⟨a0, _ | ⟨a1, _ | ⟨a2, _ | ⟨a3, os⟩⟩⟩⟩ <;> simp only [Kd.names, List.length_cons, List.length_nil] at hl <;> first | omega | exact ⟨_, _, _, rfl⟩
  refine ⟨_, (bcons (sexpr (ecallX C_check_things pass1 (hr.mono (by decide)) rfl (acons (eand (ecall C_is_stretch (hr.mono (by decide)) rfl (acons (ev 1) (acons (ev 2) anil))) (eone (ecall C_is_amount (hr.mono (by decide)) rfl (acons (ev 3) anil)))) (acons (ev 4) anil))))
      (bcons (sfld (ev 0) (ev 1))
      (bcons (sfld (ev 0) (ev 2))
      (bone (sfld (ev 0) (ev 3)))))), ?_⟩
  try walk_at "rn"
  refine ⟨o0, o1, rfl, _, rfl, ?_⟩
  cases c0 : sO o0 o1
  · refine iteF' (by decide) ⟨false, rfl, qn ?_⟩
    rintro ⟨us, e, i, j, l, rfl, h1, h2⟩
    cases e
    exact absurd (show sO (some i) (some j) = true from decide_eq_true h1) (by rw [c0]; decide)
  obtain ⟨i, j, rfl, rfl, k1⟩ := sO_of c0
  refine iteT' rfl ⟨o2, rfl, ?_⟩
  cases c1 : isAm o2
  · refine ⟨false, rfl, qn ?_⟩
    rintro ⟨us, e, i, j, l, rfl, h1, h2⟩
    cases e
    exact absurd (show isAm (some l) = true from decide_eq_true h2) (by rw [c1]; decide)
  obtain ⟨l, rfl, k2⟩ := isAm_of c1
  exact ⟨true, rfl, _, _, _, hx, c, n_low, by decide, _, _, _, rfl, c, n_high, Nat.lt_of_le_of_lt (put_lt (Nat.zero_le 0 : ([] : List (Str × V)).length ≤ 0) (by decide)) (by decide), _, _, _, rfl, c, n_value, Nat.lt_of_le_of_lt (put_lt (put_lt (Nat.zero_le 0 : ([] : List (Str × V)).length ≤ 0) (by decide)) (by decide)) (by decide), by first | exact q [i, j, l] rfl ⟨i, j, l, rfl, k1, k2⟩ | (simp only [upd_upd]; exact q [i, j, l] rfl ⟨i, j, l, rfl, k1, k2⟩)⟩
theorem sc_Mark___init__ : FnScope ["self", "more"] ["self", "more"] (defScope s_Mark___init__) := ⟨rfl, rfl, rfl, by decide +kernel, rfl, by decide +kernel, by decide +kernel⟩
theorem ok_Mark___init__ {f cMark : Addr} {fd : FuncData} (F : FunD K "__init__" "Mark.__init__" s_Mark___init__ f fd) {aTh cF cD cK cS cM cA cP : Addr} {tE tM tN tF u1 u2 u3 u4 u5 u6 u7 u8 : Tok} (B : B P w K mg aTh cF cD cK cS cM cA cP tE tM tN tF u1 u2 u3 u4 u5 u6 u7 u8) (c : Cls K cMark)  (C_check_things : CalleeX P w K mg base "check_things" 1 ["fit", "more"] (spChk cD))  : FnOk P w K mg base (CXO P w) 2 f fd ["self", "more"] (spInit .mark cMark cD) := by
  refine F.okX sc_Mark___init__ (fun vs H Q E h => ?_) (fun cdv A outer s H vs Q E hr h => ?_)
  · obtain ⟨x, dx, os, rfl, hl, _⟩ := h
    simp only [List.length_cons, List.length_append, List.length_map, List.length_nil, hl]
    rfl
  obtain ⟨x, dx, os, rfl, hl, hx, q, qn⟩ := h
  obtain rfl : os = [] := List.eq_nil_of_length_eq_zero hl
  refine ⟨_, (bone (sexpr (ecallX C_check_things pass1 (hr.mono (by decide)) rfl (acons ebl (acons (ev 1) anil))))), ?_⟩
  try walk_at "rn"
  have q := q [] rfl rfl
  rw [show upd H x (.ins cMark dx (Kd.flds .mark [])) = H from upd_self hx] at q
  exact ⟨true, rfl, q⟩
theorem sc_Forget___init__ : FnScope ["self", "mark", "more"] ["self", "mark", "more"] (defScope s_Forget___init__) := ⟨rfl, rfl, rfl, by decide +kernel, rfl, by decide +kernel, by decide +kernel⟩
theorem ok_Forget___init__ {f cForget : Addr} {fd : FuncData} (F : FunD K "__init__" "Forget.__init__" s_Forget___init__ f fd) {aTh cF cD cK cS cM cA cP : Addr} {tE tM tN tF u1 u2 u3 u4 u5 u6 u7 u8 : Tok} (B : B P w K mg aTh cF cD cK cS cM cA cP tE tM tN tF u1 u2 u3 u4 u5 u6 u7 u8) (c : Cls K cForget) (n_mark : NoAttr K cForget "mark") (C_check_things : CalleeX P w K mg base "check_things" 1 ["fit", "more"] (spChk cD)) (C_is_whole_from : Callee P w K mg base "is_whole_from" 2 ["thing", "low"] spFromO) : FnOk P w K mg base (CXO P w) 3 f fd ["self", "mark", "more"] (spInit .forget cForget cD) := by
  refine F.okX sc_Forget___init__ (fun vs H Q E h => ?_) (fun cdv A outer s H vs Q E hr h => ?_)
  · obtain ⟨x, dx, os, rfl, hl, _⟩ := h
    simp only [List.length_cons, List.length_append, List.length_map, List.length_nil, hl]
    rfl
  obtain ⟨x, dx, os, rfl, hl, hx, q, qn⟩ := h
  obtain ⟨o0, rfl⟩ : ∃ o0, os = [o0] := by
    rcases os with _ | ⟨a0, _ | ⟨a1, _ | ⟨a2, _ | ⟨a3, os⟩⟩⟩⟩ <;> simp only [Kd.names, List.length_cons, List.length_nil] at hl <;> first | omega | exact ⟨_, rfl⟩
  refine ⟨_, (bcons (sexpr (ecallX C_check_things pass1 (hr.mono (by decide)) rfl (acons (ecall C_is_whole_from (hr.mono (by decide)) rfl (acons (ev 1) (acons ei anil))) (acons (ev 2) anil))))
      (bone (sfld (ev 0) (ev 1)))), ?_⟩
  try walk_at "rn"
  refine ⟨o0, 1, rfl, ?_⟩
  cases c0 : fO 1 o0
  · refine ⟨false, rfl, qn ?_⟩
    rintro ⟨us, e, i, rfl, h1⟩
    cases e
    exact absurd (show fO 1 (some i) = true from decide_eq_true h1) (by rw [c0]; decide)
  obtain ⟨i, rfl, k1⟩ := fO_of c0
  exact ⟨true, rfl, _, _, _, hx, c, n_mark, by decide, by first | exact q [i] rfl ⟨i, rfl, k1⟩ | (simp only [upd_upd]; exact q [i] rfl ⟨i, rfl, k1⟩)⟩
theorem sc_Put_told : FnScope ["self"] ["self"] (defScope s_Put_told) := ⟨rfl, rfl, rfl, by decide +kernel, rfl, by decide +kernel, by decide +kernel⟩
theorem ok_Put_told {f cPut : Addr} {fd : FuncData} (F : Fun K "told" "Put.told" s_Put_told f fd) {aTh cF cD cK cS cM cA cP : Addr} {tE tM tN tF u1 u2 u3 u4 u5 u6 u7 u8 : Tok} (B : B P w K mg aTh cF cD cK cS cM cA cP tE tM tN tF u1 u2 u3 u4 u5 u6 u7 u8) (c_Put : Cls K cPut) (n_key : NoAttr K cPut "key") (n_value : NoAttr K cPut "value") : FnOk P w K mg base CX0 1 f fd ["self"] (spTold K .put cPut) := by
  refine F.okJ sc_Put_told (fun vs H Q E h => ?_) (fun cdv A outer s H vs Q E hr h => ?_)
  · obtain ⟨a, us, rfl, _⟩ := h
    rfl
  obtain ⟨a, us, rfl, ok, ⟨dx, ha⟩, q⟩ := h
  obtain ⟨u0, u1, rfl, _⟩ := ok
  refine ⟨_, (bone (sret (etupQ (acons estr (acons (efld (ev 0)) (acons (efld (ev 0)) anil)))))), ?_⟩
  try walk_at "rn"
  exact ⟨_, _, _, ha, c_Put, n_key, _, rfl, _, _, _, ha, c_Put, n_value, _, rfl, q⟩
theorem sc_Drop_told : FnScope ["self"] ["self"] (defScope s_Drop_told) := ⟨rfl, rfl, rfl, by decide +kernel, rfl, by decide +kernel, by decide +kernel⟩
theorem ok_Drop_told {f cDrop : Addr} {fd : FuncData} (F : Fun K "told" "Drop.told" s_Drop_told f fd) {aTh cF cD cK cS cM cA cP : Addr} {tE tM tN tF u1 u2 u3 u4 u5 u6 u7 u8 : Tok} (B : B P w K mg aTh cF cD cK cS cM cA cP tE tM tN tF u1 u2 u3 u4 u5 u6 u7 u8) (c_Drop : Cls K cDrop) (n_key : NoAttr K cDrop "key") : FnOk P w K mg base CX0 1 f fd ["self"] (spTold K .drop cDrop) := by
  refine F.okJ sc_Drop_told (fun vs H Q E h => ?_) (fun cdv A outer s H vs Q E hr h => ?_)
  · obtain ⟨a, us, rfl, _⟩ := h
    rfl
  obtain ⟨a, us, rfl, ok, ⟨dx, ha⟩, q⟩ := h
  obtain ⟨u0, rfl, _⟩ := ok
  refine ⟨_, (bone (sret (etupQ (acons estr (acons (efld (ev 0)) anil))))), ?_⟩
  try walk_at "rn"
  exact ⟨_, _, _, ha, c_Drop, n_key, _, rfl, q⟩
theorem sc_Add_told : FnScope ["self"] ["self"] (defScope s_Add_told) := ⟨rfl, rfl, rfl, by decide +kernel, rfl, by decide +kernel, by decide +kernel⟩
theorem ok_Add_told {f cAdd : Addr} {fd : FuncData} (F : Fun K "told" "Add.told" s_Add_told f fd) {aTh cF cD cK cS cM cA cP : Addr} {tE tM tN tF u1 u2 u3 u4 u5 u6 u7 u8 : Tok} (B : B P w K mg aTh cF cD cK cS cM cA cP tE tM tN tF u1 u2 u3 u4 u5 u6 u7 u8) (c_Add : Cls K cAdd) (n_key : NoAttr K cAdd "key") (n_by : NoAttr K cAdd "by") : FnOk P w K mg base CX0 1 f fd ["self"] (spTold K .add cAdd) := by
  refine F.okJ sc_Add_told (fun vs H Q E h => ?_) (fun cdv A outer s H vs Q E hr h => ?_)
  · obtain ⟨a, us, rfl, _⟩ := h
    rfl
  obtain ⟨a, us, rfl, ok, ⟨dx, ha⟩, q⟩ := h
  obtain ⟨u0, u1, rfl, _⟩ := ok
  refine ⟨_, (bone (sret (etupQ (acons estr (acons (efld (ev 0)) (acons (efld (ev 0)) anil)))))), ?_⟩
  try walk_at "rn"
  exact ⟨_, _, _, ha, c_Add, n_key, _, rfl, _, _, _, ha, c_Add, n_by, _, rfl, q⟩
theorem sc_Wipe_told : FnScope ["self"] ["self"] (defScope s_Wipe_told) := ⟨rfl, rfl, rfl, by decide +kernel, rfl, by decide +kernel, by decide +kernel⟩
theorem ok_Wipe_told {f cWipe : Addr} {fd : FuncData} (F : Fun K "told" "Wipe.told" s_Wipe_told f fd) {aTh cF cD cK cS cM cA cP : Addr} {tE tM tN tF u1 u2 u3 u4 u5 u6 u7 u8 : Tok} (B : B P w K mg aTh cF cD cK cS cM cA cP tE tM tN tF u1 u2 u3 u4 u5 u6 u7 u8) (c_Wipe : Cls K cWipe) (n_low : NoAttr K cWipe "low") (n_high : NoAttr K cWipe "high") : FnOk P w K mg base CX0 1 f fd ["self"] (spTold K .wipe cWipe) := by
  refine F.okJ sc_Wipe_told (fun vs H Q E h => ?_) (fun cdv A outer s H vs Q E hr h => ?_)
  · obtain ⟨a, us, rfl, _⟩ := h
    rfl
  obtain ⟨a, us, rfl, ok, ⟨dx, ha⟩, q⟩ := h
  obtain ⟨u0, u1, rfl, _⟩ := ok
  refine ⟨_, (bone (sret (etupQ (acons estr (acons (efld (ev 0)) (acons (efld (ev 0)) anil)))))), ?_⟩
  try walk_at "rn"
  exact ⟨_, _, _, ha, c_Wipe, n_low, _, rfl, _, _, _, ha, c_Wipe, n_high, _, rfl, q⟩
theorem sc_Raise_told : FnScope ["self"] ["self"] (defScope s_Raise_told) := ⟨rfl, rfl, rfl, by decide +kernel, rfl, by decide +kernel, by decide +kernel⟩
theorem ok_Raise_told {f cRaise : Addr} {fd : FuncData} (F : Fun K "told" "Raise.told" s_Raise_told f fd) {aTh cF cD cK cS cM cA cP : Addr} {tE tM tN tF u1 u2 u3 u4 u5 u6 u7 u8 : Tok} (B : B P w K mg aTh cF cD cK cS cM cA cP tE tM tN tF u1 u2 u3 u4 u5 u6 u7 u8) (c_Raise : Cls K cRaise) (n_low : NoAttr K cRaise "low") (n_high : NoAttr K cRaise "high") (n_by : NoAttr K cRaise "by") : FnOk P w K mg base CX0 1 f fd ["self"] (spTold K .raise cRaise) := by
  refine F.okJ sc_Raise_told (fun vs H Q E h => ?_) (fun cdv A outer s H vs Q E hr h => ?_)
  · obtain ⟨a, us, rfl, _⟩ := h
    rfl
  obtain ⟨a, us, rfl, ok, ⟨dx, ha⟩, q⟩ := h
  obtain ⟨u0, u1, u2, rfl, _⟩ := ok
  refine ⟨_, (bone (sret (etupQ (acons estr (acons (efld (ev 0)) (acons (efld (ev 0)) (acons (efld (ev 0)) anil))))))), ?_⟩
  try walk_at "rn"
  exact ⟨_, _, _, ha, c_Raise, n_low, _, rfl, _, _, _, ha, c_Raise, n_high, _, rfl, _, _, _, ha, c_Raise, n_by, _, rfl, q⟩
theorem sc_Level_told : FnScope ["self"] ["self"] (defScope s_Level_told) := ⟨rfl, rfl, rfl, by decide +kernel, rfl, by decide +kernel, by decide +kernel⟩
theorem ok_Level_told {f cLevel : Addr} {fd : FuncData} (F : Fun K "told" "Level.told" s_Level_told f fd) {aTh cF cD cK cS cM cA cP : Addr} {tE tM tN tF u1 u2 u3 u4 u5 u6 u7 u8 : Tok} (B : B P w K mg aTh cF cD cK cS cM cA cP tE tM tN tF u1 u2 u3 u4 u5 u6 u7 u8) (c_Level : Cls K cLevel) (n_low : NoAttr K cLevel "low") (n_high : NoAttr K cLevel "high") (n_value : NoAttr K cLevel "value") : FnOk P w K mg base CX0 1 f fd ["self"] (spTold K .level cLevel) := by
  refine F.okJ sc_Level_told (fun vs H Q E h => ?_) (fun cdv A outer s H vs Q E hr h => ?_)
  · obtain ⟨a, us, rfl, _⟩ := h
    rfl
  obtain ⟨a, us, rfl, ok, ⟨dx, ha⟩, q⟩ := h
  obtain ⟨u0, u1, u2, rfl, _⟩ := ok
  refine ⟨_, (bone (sret (etupQ (acons estr (acons (efld (ev 0)) (acons (efld (ev 0)) (acons (efld (ev 0)) anil))))))), ?_⟩
  try walk_at "rn"
  exact ⟨_, _, _, ha, c_Level, n_low, _, rfl, _, _, _, ha, c_Level, n_high, _, rfl, _, _, _, ha, c_Level, n_value, _, rfl, q⟩
theorem sc_Mark_told : FnScope ["self"] ["self"] (defScope s_Mark_told) := ⟨rfl, rfl, rfl, by decide +kernel, rfl, by decide +kernel, by decide +kernel⟩
theorem ok_Mark_told {f cMark : Addr} {fd : FuncData} (F : Fun K "told" "Mark.told" s_Mark_told f fd) {aTh cF cD cK cS cM cA cP : Addr} {tE tM tN tF u1 u2 u3 u4 u5 u6 u7 u8 : Tok} (B : B P w K mg aTh cF cD cK cS cM cA cP tE tM tN tF u1 u2 u3 u4 u5 u6 u7 u8) (c_Mark : Cls K cMark)  : FnOk P w K mg base CX0 1 f fd ["self"] (spTold K .mark cMark) := by
  refine F.okJ sc_Mark_told (fun vs H Q E h => ?_) (fun cdv A outer s H vs Q E hr h => ?_)
  · obtain ⟨a, us, rfl, _⟩ := h
    rfl
  obtain ⟨a, us, rfl, ok, ⟨dx, ha⟩, q⟩ := h
  obtain rfl := ok
  refine ⟨_, (bone (sret (etupQ (acons estr anil)))), ?_⟩
  try walk_at "rn"
  exact q
theorem sc_Forget_told : FnScope ["self"] ["self"] (defScope s_Forget_told) := ⟨rfl, rfl, rfl, by decide +kernel, rfl, by decide +kernel, by decide +kernel⟩
theorem ok_Forget_told {f cForget : Addr} {fd : FuncData} (F : Fun K "told" "Forget.told" s_Forget_told f fd) {aTh cF cD cK cS cM cA cP : Addr} {tE tM tN tF u1 u2 u3 u4 u5 u6 u7 u8 : Tok} (B : B P w K mg aTh cF cD cK cS cM cA cP tE tM tN tF u1 u2 u3 u4 u5 u6 u7 u8) (c_Forget : Cls K cForget) (n_mark : NoAttr K cForget "mark") : FnOk P w K mg base CX0 1 f fd ["self"] (spTold K .forget cForget) := by
  refine F.okJ sc_Forget_told (fun vs H Q E h => ?_) (fun cdv A outer s H vs Q E hr h => ?_)
  · obtain ⟨a, us, rfl, _⟩ := h
    rfl
  obtain ⟨a, us, rfl, ok, ⟨dx, ha⟩, q⟩ := h
  obtain ⟨u0, rfl, _⟩ := ok
  refine ⟨_, (bone (sret (etupQ (acons estr (acons (efld (ev 0)) anil))))), ?_⟩
  try walk_at "rn"
  exact ⟨_, _, _, ha, c_Forget, n_mark, _, rfl, q⟩
end
theorem lc_mapXT {α : Type} {K : PySem.W.Frag} {c D : Addr} {L : List α} {f g : α → V} {te : TE} {v0 : Option V} {rest : St} {H : Hp} {Q : Hp → Prop} (hk : tupQ K H c = some (L.map f)) (nD : new K H D) (hz : L.length ≤ 1000)
    (elt : ∀ q ∈ L, ∀ H' (Q : VK), Ext K H H' → (∀ H'', Ext K H' H'' → Q (g q) H'') → te (some (f q) :: rest) H' Q)
    (fin : ∀ H', H' D = some (.lst (L.map g)) → Ext K H H' → Q H') : LcLoop (Itt K c) (gName 0) tYes te D Q (v0 :: rest) (upd H D (.lst [])) := by
  refine lc_tup (xs := L.map f) (fun i acc σ' H' => ∃ (v0 : Option V), σ' = v0 :: rest ∧ H' D = some (.lst acc) ∧ acc = (L.take i).map g ∧ Kp K D (upd H D (.lst [])) H') ?_ ?_ ?_ ?_
  · exact ⟨_, rfl, upd_same, rfl, Kp.refl⟩
  · rintro i acc σ' H' _ ⟨v0, rfl, hD, rfl, k⟩
    exact tupQ_sq ((k.ext nD).tup hk)
  · rintro i x acc σ' H' hx ⟨v0, rfl, hD, rfl, k⟩
    rw [List.getElem?_map] at hx
    obtain ⟨q, ek, rfl⟩ := Option.map_eq_some_iff.mp hx
    have hlen : ((L.take i).map g).length ≤ 1000 := by rw [List.length_map, List.length_take]; omega
    unfold gName tYes
    refine iteT ?_
    refine elt q (List.mem_of_getElem? ek) H' _ (k.ext nD) fun H'' x'' => ⟨x''.at hD, Nat.lt_of_le_of_lt hlen (by decide), _, rfl, upd_same, ?_, k.trans (x''.kp.trans (Kp.upd (x''.at hD)))⟩
    rw [List.take_add_one, ek, Option.toList_some, List.map_append]
    rfl
  · rintro acc σ' H' ⟨v0, rfl, hD, rfl, k⟩
    rw [List.length_map, List.take_length] at hD
    exact fin H' hD (k.ext nD)
abbrev Itm := Str ⊕ Int
def itV : Itm → V
  | .inl t => .str t
  | .inr i => .int i
def numT (i : Int) : Str := Str.ofString (toString i)
def itT : Itm → Str
  | .inl t => t
  | .inr i => numT i
def Kd.items (k : Kd) (us : List Int) : List Itm := .inl k.word :: us.map .inr
def Kd.text (k : Kd) (us : List Int) : Str := Str.join (Str.ofString " ") ((k.items us).map itT)
theorem Kd.told_items (k : Kd) (us : List Int) : k.told us = (k.items us).map itV := by
  unfold Kd.told Kd.items
  rw [List.map_cons, List.map_map]
  rfl
def itS : Itm → Prop
  | .inl t => t.length ≤ 101
  | .inr i => i.natAbs < 10 ^ 100
theorem numT_len {i : Int} (h : i.natAbs < 10 ^ 100) : (numT i).length ≤ 101 := by
  unfold numT
  rw [PySem.ofString_length]
  exact int_text_length_le10 (by decide) h
theorem num_log {i : Int} (h : i.natAbs < 10 ^ 100) : i.natAbs.log2 < 1920 := by
  by_cases e : i.natAbs = 0
  · rw [e]; decide
  · exact Nat.lt_trans ((Nat.log2_lt (k := 400) e).2 (Nat.lt_trans h (by decide))) (by decide)
theorem itS_len {q : Itm} (h : itS q) : (itT q).length ≤ 101 := by
  cases q with
  | inl t => exact h
  | inr i => exact numT_len h
def sm (us : List Int) : Prop := ∀ i ∈ us, i.natAbs < 10 ^ 60
theorem Kd.len {k : Kd} {us : List Int} (h : k.ok us) : us.length = k.names.length := by
  cases k <;> simp only [Kd.ok] at h
  · obtain ⟨a, b, rfl, _⟩ := h; rfl
  · obtain ⟨a, rfl, _⟩ := h; rfl
  · obtain ⟨a, b, rfl, _⟩ := h; rfl
  · obtain ⟨a, b, rfl, _⟩ := h; rfl
  · obtain ⟨a, b, c, rfl, _⟩ := h; rfl
  · obtain ⟨a, b, c, rfl, _⟩ := h; rfl
  · subst h; rfl
  · obtain ⟨a, rfl, _⟩ := h; rfl
theorem Kd.three (k : Kd) : k.names.length ≤ 3 := by cases k <;> decide
theorem Kd.itsS {k : Kd} {us : List Int} (h : k.ok us) (h2 : sm us) : (k.items us).length ≤ 4 ∧ ∀ q ∈ k.items us, itS q := by
  have h1 := Kd.len h
  have h3 := Kd.three k
  refine ⟨by simp only [Kd.items, List.length_cons, List.length_map]; omega, fun q hq => ?_⟩
  rcases List.mem_cons.mp hq with rfl | hq
  · show k.word.length ≤ 101
    cases k <;> decide +kernel
  · obtain ⟨i, hi, rfl⟩ := List.mem_map.mp hq
    exact Nat.lt_trans (h2 i hi) (by decide)
theorem lenAll_le {sep : Str} {m : Nat} (ts : List Str) (h : ∀ t ∈ ts, t.length ≤ m) : lenAll sep ts ≤ ts.length * (m + sep.length) := by
  have e : ∀ (ts : List Str) (k : Nat), (∀ t ∈ ts, t.length ≤ m) → ts.foldl (fun n x => n + x.length + sep.length) k ≤ k + ts.length * (m + sep.length) := by
    intro ts
    induction ts with
    | nil => intro k _; simp
    | cons x r ih =>
      intro k h
      rw [List.foldl_cons, List.length_cons, Nat.add_mul]
      have h1 := ih (k + x.length + sep.length) fun t m => h t (List.mem_cons_of_mem _ m)
      have h2 := h x List.mem_cons_self
      omega
  have := e ts 0 h
  unfold lenAll
  omega
theorem join_le {sep : Str} {m : Nat} : ∀ (ts : List Str), (∀ t ∈ ts, t.length ≤ m) → (Str.join sep ts).length ≤ ts.length * (m + sep.length)
  | [], _ => by simp [Str.join, Str.empty, Str.length]
  | [x], h => by
    have := h x List.mem_cons_self
    show x.length ≤ 1 * (m + sep.length)
    omega
  | x :: y :: r, h => by
    have e := join_le (sep := sep) (y :: r) fun t m => h t (List.mem_cons_of_mem _ m)
    have h2 := h x List.mem_cons_self
    show (x ++ sep ++ Str.join sep (y :: r)).length ≤ _
    rw [Str.length_append, Str.length_append, List.length_cons (a := x), Nat.add_mul]
    omega
def Kd.toldD (k : Kd) (us : List Int) : PyData := .tuple (.str k.word :: us.map .int)
section
variable {P : Program} {w : World} {K : PySem.W.Frag} {mg : Str → Option Value} {base : Heap}
structure DC (K : PySem.W.Frag) (C cDeed : Addr) : Prop where
  cl : Cls K C
  ca : PySem.W.findIn K (.ref C) "__class__" = some (some (.builtin "object.__class__"))
  gt : PySem.W.specialIn K (.builtin "object.__class__") "__get__" = some (some (.builtin "getset_descriptor.__get__"))
  tk : PySem.W.takesIn K (.builtin "object.__class__") = some true
  mo : PySem.W.mroIn K C (.type "object") = some true
  isD : PySem.W.kitOne K (.ref C) (.ref cDeed) = some true
theorem zip_no {f : Str} : ∀ {ns : List Str} {vs : List V}, f ∉ ns → (ns.zip vs).lookup f = none
  | [], _, _ => rfl
  | n :: ns, [], _ => rfl
  | n :: ns, v :: vs, h => by
    rw [List.zip_cons_cons, List.lookup_cons]
    have : (f == n) = false := by simpa using fun e : f = n => h (by rw [e]; exact List.mem_cons_self)
    rw [this]
    exact zip_no fun m => h (List.mem_cons_of_mem _ m)
theorem no_told (k : Kd) (us : List Int) : (k.flds us).lookup ("told" : Str) = none := zip_no (show ("told" : Str) ∉ k.names by cases k <;> decide +kernel)
theorem shaped_told {k : Kd} {us : List Int} (ok : k.ok us) : SeqAt.shaped (k.toldD us) = true := by
  cases k
  · obtain ⟨a, b, rfl, _⟩ := ok; simp only [SeqAt.shaped, Kd.toldD, List.map, PyData.canLay0, PyData.canLayAll0, PyData.depth, PyData.depthAll]; decide +kernel
  · obtain ⟨a, rfl, _⟩ := ok; simp only [SeqAt.shaped, Kd.toldD, List.map, PyData.canLay0, PyData.canLayAll0, PyData.depth, PyData.depthAll]; decide +kernel
  · obtain ⟨a, b, rfl, _⟩ := ok; simp only [SeqAt.shaped, Kd.toldD, List.map, PyData.canLay0, PyData.canLayAll0, PyData.depth, PyData.depthAll]; decide +kernel
  · obtain ⟨a, b, rfl, _⟩ := ok; simp only [SeqAt.shaped, Kd.toldD, List.map, PyData.canLay0, PyData.canLayAll0, PyData.depth, PyData.depthAll]; decide +kernel
  · obtain ⟨a, b, c, rfl, _⟩ := ok; simp only [SeqAt.shaped, Kd.toldD, List.map, PyData.canLay0, PyData.canLayAll0, PyData.depth, PyData.depthAll]; decide +kernel
  · obtain ⟨a, b, c, rfl, _⟩ := ok; simp only [SeqAt.shaped, Kd.toldD, List.map, PyData.canLay0, PyData.canLayAll0, PyData.depth, PyData.depthAll]; decide +kernel
  · obtain rfl := ok; simp only [SeqAt.shaped, Kd.toldD, List.map, PyData.canLay0, PyData.canLayAll0, PyData.depth, PyData.depthAll]; decide +kernel
  · obtain ⟨a, rfl, _⟩ := ok; simp only [SeqAt.shaped, Kd.toldD, List.map, PyData.canLay0, PyData.canLayAll0, PyData.depth, PyData.depthAll]; decide +kernel
def spFig : Sp := fun vs H Q _ => ∃ i : Int, vs = [.int i] ∧ i.natAbs < 10 ^ 100 ∧ Q (.str (numT i)) H
def spWordOf : Sp := fun vs H Q _ => ∃ q : Itm, vs = [itV q] ∧ itS q ∧ Q (.str (itT q)) H
def spStr (K : PySem.W.Frag) (cs : Cs) : Sp := fun vs H Q _ => ∃ a k us, vs = [.ref a] ∧ Kd.ok k us ∧ sm us ∧ DeedAt (cs.at k) H a k us ∧ ∀ H', Ext K H H' → Q (.str (k.text us)) H'
def spEq (K : PySem.W.Frag) (cs : Cs) (cDeed : Addr) : Sp := fun vs H Q _ => ∃ a v k us, vs = [.ref a, v] ∧ Kd.ok k us ∧ DeedAt (cs.at k) H a k us ∧
  ((∃ b k' us', v = .ref b ∧ Kd.ok k' us' ∧ DeedAt (cs.at k') H b k' us' ∧ ∀ H', Ext K H H' → Q (.bl (PyData.eqv (k.toldD us) (k'.toldD us'))) H') ∨ (∃ t, TyQ K H v t ∧ PySem.W.kitOne K t (.ref cDeed) = some false ∧ Q (.bl false) H))
def spForm (K : PySem.W.Frag) : Sp := fun vs H Q _ => ∃ r x os, vs = [.ref r] ∧ tupQ K H r = some (.str x :: List.map on os) ∧ Q (.bl (decide (things.lookup x = some ((os.length : Int) + 1)))) H
def IsD (x : Str) (os : List (Option Int)) : Prop := ∃ k : Kd, x = k.word ∧ k.okO os
def spDeed (K : PySem.W.Frag) (cs : Cs) (cD : Addr) : Sp := fun vs H Q E => ∃ r x os, vs = [.ref r] ∧ tupQ K H r = some (.str x :: List.map on os) ∧
  (∀ (k : Kd) us, x = k.word → os = us.map some → k.ok us → ∀ a H', Ext K H H' → DeedAt (cs.at k) H' a k us → Q (.ref a) H') ∧ (¬ IsD x os → ∀ H', Ext K H H' → E (.ref cD) none H')
theorem DeedAt.ext {C : Addr} {H H' : Hp} {a : Addr} {k : Kd} {us : List Int} (h : DeedAt C H a k us) (x : Ext K H H') : DeedAt C H' a k us := let ⟨dx, e⟩ := h; ⟨dx, x.at e⟩
theorem DeedAt.ty {C cDeed : Addr} {H : Hp} {a : Addr} {k : Kd} {us : List Int} (h : DeedAt C H a k us) (d : DC K C cDeed) : TyOf K H (.ref a) (.ref C) := let ⟨_, e⟩ := h; .ins e d.cl d.ca d.gt d.tk d.mo
theorem isAll_ints {H : Hp} : ∀ us : List Int, IsAll K H (us.map PyData.int) (us.map V.int)
  | [] => by unfold IsAll; rfl
  | i :: us => by
    rw [List.map_cons, List.map_cons]
    unfold IsAll
    exact ⟨_, _, rfl, by unfold Is; rfl, isAll_ints us⟩
theorem isTold {H : Hp} {T : Addr} {k : Kd} {us : List Int} (h : tupQ K H T = some (k.told us)) : Is K H (k.toldD us) (.ref T) := by
  unfold Kd.toldD Is
  refine ⟨T, _, rfl, tupQ_sq h, ?_⟩
  unfold IsAll
  exact ⟨_, _, rfl, by unfold Is; rfl, isAll_ints us⟩
theorem sc_figures_of : FnScope ["number"] ["number"] (defScope s_figures_of) := ⟨rfl, rfl, rfl, by decide +kernel, rfl, by decide +kernel, by decide +kernel⟩
theorem ok_figures_of {f : Addr} {fd : FuncData} (F : Fun K "figures_of" "figures_of" s_figures_of f fd) {aTh cF cD cK cS cM cA cP : Addr} {tE tM tN tF u1 u2 u3 u4 u5 u6 u7 u8 : Tok} (B : B P w K mg aTh cF cD cK cS cM cA cP tE tM tN tF u1 u2 u3 u4 u5 u6 u7 u8)  : FnOk P w K mg base CX0 1 f fd ["number"] spFig := by
  refine F.okJ sc_figures_of (fun vs H Q E h => ?_) (fun cdv A outer s H vs Q E hr h => ?_)
  · obtain ⟨i, rfl, _⟩ := h
    rfl
  obtain ⟨i, rfl, h, q⟩ := h
  refine ⟨_, (bone (sret (ecallTy call_str_int rfl B.str bt_str (acons (ev 0) anil)))), ?_⟩
  try walk_at "rn"
  exact ⟨num_log h, q⟩
theorem sc_word_of : FnScope ["thing"] ["thing"] (defScope s_word_of) := ⟨rfl, rfl, rfl, by decide +kernel, rfl, by decide +kernel, by decide +kernel⟩
theorem ok_word_of {f : Addr} {fd : FuncData} (F : Fun K "word_of" "word_of" s_word_of f fd) {aTh cF cD cK cS cM cA cP : Addr} {tE tM tN tF u1 u2 u3 u4 u5 u6 u7 u8 : Tok} (B : B P w K mg aTh cF cD cK cS cM cA cP tE tM tN tF u1 u2 u3 u4 u5 u6 u7 u8) (C_figures_of : Callee P w K mg base "figures_of" 1 ["number"] spFig) : FnOk P w K mg base CX0 2 f fd ["thing"] spWordOf := by
  refine F.okJ sc_word_of (fun vs H Q E h => ?_) (fun cdv A outer s H vs Q E hr h => ?_)
  · obtain ⟨z, rfl, _⟩ := h
    rfl
  obtain ⟨z, rfl, sz, q⟩ := h
  refine ⟨_, (bone (sret (eif (tval (ecallB call_isinstQ rfl B.isinstance bt_isinstance (acons (ev 0) (acons (etyp rfl B.str bt_str) anil)))) (ev 0) (ecall C_figures_of (hr.mono (by decide)) rfl (acons (ev 0) anil))))), ?_⟩
  try walk_at "rn"
  cases z with
  | inl t => exact ⟨_, .inl (.str _), true, rfl, q⟩
  | inr i => exact ⟨_, .inl (.int _), false, rfl, i, rfl, sz, q⟩
theorem sc_Deed___str__ : FnScope ["self"] ["self"] (defScope s_Deed___str__) := ⟨rfl, rfl, rfl, by decide +kernel, rfl, by decide +kernel, by decide +kernel⟩
theorem ok_Deed___str__ {f : Addr} {fd : FuncData} (F : Fun K "__str__" "Deed.__str__" s_Deed___str__ f fd) {aTh cF cD cK cS cM cA cP : Addr} {tE tM tN tF u1 u2 u3 u4 u5 u6 u7 u8 : Tok} (B : B P w K mg aTh cF cD cK cS cM cA cP tE tM tN tF u1 u2 u3 u4 u5 u6 u7 u8) {cs : Cs} (MT : ∀ k : Kd, MethC P w K mg base (cs.at k) "told" 1 ["self"] [] (spTold K k (cs.at k))) {cDeed : Addr} (dc : ∀ k : Kd, DC K (cs.at k) cDeed) (C_word_of : Callee P w K mg base "word_of" 2 ["thing"] spWordOf) : FnOk P w K mg base CX0 3 f fd ["self"] (spStr K cs) := by
  refine F.okJ sc_Deed___str__ (fun vs H Q E h => ?_) (fun cdv A outer s H vs Q E hr h => ?_)
  · obtain ⟨a, k, us, rfl, _⟩ := h
    rfl
  obtain ⟨a, k, us, rfl, ok, hs, ha, q⟩ := h
  refine ⟨_, (bone (sret (ebm PySem.F.plainAttrs_str PySem.F.slot_str_join PySem.F.type_str_join mt_join estr (acons (elc (Cap.mk (N := ["thing"]) (src := [none]) rfl rfl) rfl (itup (emeth0 (MT k) (dc k).cl (hr.mono (by decide)) (ev 0))) (fun _ _ _ _ => (gname (i := 0) (show (["thing"] : List Str).Nodup from by decide +kernel) rfl (Or.inl rfl))) (fun _ _ _ _ => fnone) (fun _ _ _ _ => (ecall C_word_of (hr.mono (by decide)) rfl (acons (ev 0) anil)))) anil)))), ?_⟩
  try walk_at "rn"
  obtain ⟨dx, e⟩ := ha
  obtain ⟨z1, z2⟩ := Kd.itsS ok hs
  refine ⟨dx, _, e, no_told k us, a, us, rfl, ok, ⟨dx, e⟩, fun T nT => ⟨T, rfl, ⟨_, tupQ_sq tupQ_updT⟩, fun D nD => ?_⟩⟩
  have hk : tupQ K (upd H T (.tup (k.told us))) T = some ((k.items us).map itV) := by rw [← Kd.told_items]; exact tupQ_updT
  refine lc_mapXT (f := itV) (g := fun q => V.str (itT q)) hk nD (by omega) (fun z hz H' Q' xx qq => ?_) (fun H1 hD x1 => ?_)
  · try walk_at "rn"
    exact ⟨z, rfl, z2 z hz, qq _ Ext.refl⟩
  have z3 : ∀ t ∈ (k.items us).map itT, t.length ≤ 101 := fun t ht => by
    obtain ⟨z, hz, rfl⟩ := List.mem_map.mp ht
    exact itS_len (z2 z hz)
  have l1 := lenAll_le (sep := Str.ofString " ") _ z3
  have l2 := join_le (sep := Str.ofString " ") _ z3
  rw [List.length_map, show (Str.ofString " ").length = 1 from by decide +kernel] at l1 l2
  have sz := sizeLine_eq
  refine ⟨(k.items us).map itT, by rw [List.map_map]; exact SqL.of hD, by omega, by omega, q _ ((Ext.new nT).trans x1)⟩
theorem sc_Deed___eq__ : FnScope ["self", "other"] ["self", "other"] (defScope s_Deed___eq__) := ⟨rfl, rfl, rfl, by decide +kernel, rfl, by decide +kernel, by decide +kernel⟩
theorem ok_Deed___eq__ {f : Addr} {fd : FuncData} (F : Fun K "__eq__" "Deed.__eq__" s_Deed___eq__ f fd) {aTh cF cD cK cS cM cA cP : Addr} {tE tM tN tF u1 u2 u3 u4 u5 u6 u7 u8 : Tok} (B : B P w K mg aTh cF cD cK cS cM cA cP tE tM tN tF u1 u2 u3 u4 u5 u6 u7 u8) {cs : Cs} (MT : ∀ k : Kd, MethC P w K mg base (cs.at k) "told" 1 ["self"] [] (spTold K k (cs.at k))) {cDeed : Addr} (dc : ∀ k : Kd, DC K (cs.at k) cDeed) (Dd : mg "Deed" = some (.ref cDeed)) : FnOk P w K mg base CX0 2 f fd ["self", "other"] (spEq K cs cDeed) := by
  refine F.okJ sc_Deed___eq__ (fun vs H Q E h => ?_) (fun cdv A outer s H vs Q E hr h => ?_)
  · obtain ⟨a, v, k, us, rfl, _⟩ := h
    rfl
  obtain ⟨a, v, k, us, rfl, ok, ⟨dx, ea⟩, ⟨b, k', us', rfl, ok', hb, q⟩ | ⟨t, ty, kt, q⟩⟩ := h
  · refine ⟨_, (bone (sret (eand (ecallB call_isinstCQ rfl B.isinstance bt_isinstance (acons (ev 1) (acons (eglob rfl Dd (show RelV (.ref cDeed) (.ref cDeed) from rfl)) anil))) (eone (ecmp (op_eqD hr.units) (emeth0 (MT k) (dc k).cl (hr.mono (by decide)) (ev 0)) (emeth0 (MT k') (dc k').cl (hr.mono (by decide)) (ev 1)) (nomark _)))))), ?_⟩
    try walk_at "rn"
    refine ⟨_, .inl (hb.ty (dc k')), true, (dc k').isD, iteT' rfl ?_⟩
    obtain ⟨dy, eb⟩ := hb
    exact ⟨dx, _, ea, no_told k us, a, us, rfl, ok, ⟨dx, ea⟩, fun T nT => ⟨dy, _, (Ext.new nT).at eb, no_told k' us', b, us', rfl, ok', ⟨dy, (Ext.new nT).at eb⟩, fun T2 n2 => ⟨_, isTold ((Ext.new n2).tup tupQ_updT), _, isTold tupQ_updT, shaped_told ok, shaped_told ok', q _ ((Ext.new nT).trans (Ext.new n2))⟩⟩⟩
  · obtain ⟨k', _⟩ : ∃ k' : Kd, k' = k := ⟨k, rfl⟩
    refine ⟨_, (bone (sret (eand (ecallB call_isinstCQ rfl B.isinstance bt_isinstance (acons (ev 1) (acons (eglob rfl Dd (show RelV (.ref cDeed) (.ref cDeed) from rfl)) anil))) (eone (ecmp (op_eqD hr.units) (emeth0 (MT k) (dc k).cl (hr.mono (by decide)) (ev 0)) (emeth0 (MT k') (dc k').cl (hr.mono (by decide)) (ev 1)) (nomark _)))))), ?_⟩
    try walk_at "rn"
    exact ⟨t, ty, false, kt, iteF' (by decide) q⟩
theorem things_at (k : Kd) : things.lookup k.word = some ((k.names.length : Int) + 1) := by cases k <;> decide +kernel
theorem things_of {x : Str} {n : Nat} (h : things.lookup x = some ((n : Int) + 1)) : ∃ k : Kd, x = k.word ∧ n = k.names.length := by
  by_cases c0 : x = "put"
  · subst c0
    have := (things_at .put).symm.trans h
    exact ⟨.put, rfl, by have := Option.some.inj this; omega⟩
  by_cases c1 : x = "drop"
  · subst c1
    have := (things_at .drop).symm.trans h
    exact ⟨.drop, rfl, by have := Option.some.inj this; omega⟩
  by_cases c2 : x = "add"
  · subst c2
    have := (things_at .add).symm.trans h
    exact ⟨.add, rfl, by have := Option.some.inj this; omega⟩
  by_cases c3 : x = "wipe"
  · subst c3
    have := (things_at .wipe).symm.trans h
    exact ⟨.wipe, rfl, by have := Option.some.inj this; omega⟩
  by_cases c4 : x = "raise"
  · subst c4
    have := (things_at .raise).symm.trans h
    exact ⟨.raise, rfl, by have := Option.some.inj this; omega⟩
  by_cases c5 : x = "level"
  · subst c5
    have := (things_at .level).symm.trans h
    exact ⟨.level, rfl, by have := Option.some.inj this; omega⟩
  by_cases c6 : x = "mark"
  · subst c6
    have := (things_at .mark).symm.trans h
    exact ⟨.mark, rfl, by have := Option.some.inj this; omega⟩
  by_cases c7 : x = "forget"
  · subst c7
    have := (things_at .forget).symm.trans h
    exact ⟨.forget, rfl, by have := Option.some.inj this; omega⟩
  have e : things.lookup x = none := by
    simp only [things, List.lookup, show (x == ("put" : Str)) = false from by simpa using c0, show (x == ("drop" : Str)) = false from by simpa using c1, show (x == ("add" : Str)) = false from by simpa using c2, show (x == ("wipe" : Str)) = false from by simpa using c3, show (x == ("raise" : Str)) = false from by simpa using c4, show (x == ("level" : Str)) = false from by simpa using c5, show (x == ("mark" : Str)) = false from by simpa using c6, show (x == ("forget" : Str)) = false from by simpa using c7]
  rw [e] at h
  cases h
theorem isD_form {x : Str} {os : List (Option Int)} (h : IsD x os) : things.lookup x = some ((os.length : Int) + 1) := by
  obtain ⟨k, rfl, us, rfl, ok⟩ := h
  rw [things_at, List.length_map, Kd.len ok]
theorem word_inj {k j : Kd} (h : k.word = j.word) : k = j := by
  cases k <;> cases j <;> first | rfl | exact absurd h (by decide +kernel)
theorem sc_has_form : FnScope ["told"] ["told"] (defScope s_has_form) := ⟨rfl, rfl, rfl, by decide +kernel, rfl, by decide +kernel, by decide +kernel⟩
theorem ok_has_form {f : Addr} {fd : FuncData} (F : Fun K "has_form" "has_form" s_has_form f fd) {aTh cF cD cK cS cM cA cP : Addr} {tE tM tN tF u1 u2 u3 u4 u5 u6 u7 u8 : Tok} (B : B P w K mg aTh cF cD cK cS cM cA cP tE tM tN tF u1 u2 u3 u4 u5 u6 u7 u8) : FnOk P w K mg base CX0 1 f fd ["told"] (spForm K) := by
  refine F.okJ sc_has_form (fun vs H Q E h => ?_) (fun cdv A outer s H vs Q E hr h => ?_)
  · obtain ⟨r, x, os, rfl, _⟩ := h
    rfl
  obtain ⟨r, x, os, rfl, hr1, q⟩ := h
  refine ⟨_, (bcons (sif (tw (wor (tnot (tval (ecallB call_isinstQ rfl B.isinstance bt_isinstance (acons (ev 0) (acons (etyp rfl B.tuple bt_tuple) anil))))) (wor (tcmp op_eq (ecallB call_lenQ rfl B.len bt_len (acons (ev 0) anil)) ei (nomark _)) (wor1 (tnot (tval (ecallB call_isinstQ rfl B.isinstance bt_isinstance (acons (eix ix_Q (ev 0) ei (fun _ _ => rfl)) (acons (etyp rfl B.str bt_str) anil))))))))) (bone (sret ebl)) bnil)
      (bone (sret (eand (ecmp (op_inKD B.things) (eix ix_Q (ev 0) ei (fun _ _ => rfl)) (eglob rfl B.THINGS B.THINGS_is) (by with_unfolding_all rfl)) (eone (ecmp op_eq (ecallB call_lenQ rfl B.len bt_len (acons (ev 0) anil)) (ekdget B.things (eglob rfl B.THINGS B.THINGS_is) (eix ix_Q (ev 0) ei (fun _ _ => rfl)) (fun _ _ => rfl)) (nomark _))))))), ?_⟩
  try walk_at "rn"
  refine ⟨_, .inr ⟨_, _, rfl, hr1, rfl⟩, true, rfl, ?_⟩
  simp_arith [seqQ_T hr1]
  refine iteF' (by simp; omega) ⟨_, .inl (.str _), true, rfl, iteF' (by decide) ⟨.inr x, rfl, ?_⟩⟩
  rcases thv_at (u1 := u1) (u2 := u2) (u3 := u3) (u4 := u4) (u5 := u5) (u6 := u6) (u7 := u7) (u8 := u8) x with ⟨e1, e2⟩ | ⟨n, t, e1, e2⟩
  · rw [e1]
    rw [e2] at q
    exact iteF' (by simp) (by simpa using q)
  · rw [e1]
    rw [e2] at q
    refine iteT' (by simp) ⟨.inr x, rfl, .int n, .int n t, e1, ⟨t, rfl⟩, rfl, ?_⟩
    rw [show decide (some n = some ((os.length : Int) + 1)) = decide (V.int (((V.str x :: List.map on os).length : Nat) : Int) = V.int n) from decide_eq_decide.mpr ⟨fun z => by rw [Option.some.inj z]; simp, fun z => by have := V.int.inj z; simp at this; rw [← this]⟩] at q
    exact q
theorem made_ok {C cD : Addr} {k : Kd} {os : List (Option Int)} {H : Hp} {Q : VK} {E : XK} (hl : os.length = k.names.length) (q : ∀ us : List Int, os = us.map some → k.ok us → ∀ a H', Ext K H H' → DeedAt C H' a k us → Q (.ref a) H') (qn : ¬ k.okO os → ∀ H', Ext K H H' → E (.ref cD) none H') :
    ∀ x dx, new K H x → new K H dx → dx ≠ x → spInit k C cD (.ref x :: (os.map on ++ [.str "no more"])) (upd (upd H dx (.own x)) x (.ins C dx [])) (fun v H2 => v = .non ∧ Q (.ref x) H2) E := by
  intro x dx n1 n2 ne
  refine ⟨x, dx, os, rfl, hl, upd_same, fun us e ok => ⟨rfl, q us e ok _ _ ?_ ⟨dx, upd_same⟩⟩, fun h => qn h _ (Ext.made n1 n2 ne)⟩
  rw [upd_upd]
  exact Ext.made n1 n2 ne
theorem sc_deed_of : FnScope ["told", "word"] ["told"] (defScope s_deed_of) := ⟨rfl, rfl, rfl, by decide +kernel, rfl, by decide +kernel, by decide +kernel⟩
theorem ok_deed_of {f : Addr} {fd : FuncData} (F : Fun K "deed_of" "deed_of" s_deed_of f fd) {aTh cF cD cK cS cM cA cP : Addr} {tE tM tN tF u1 u2 u3 u4 u5 u6 u7 u8 : Tok} (B : B P w K mg aTh cF cD cK cS cM cA cP tE tM tN tF u1 u2 u3 u4 u5 u6 u7 u8) {cs : Cs} (C_has_form : Callee P w K mg base "has_form" 1 ["told"] (spForm K)) (M_Put : MakerX P w K mg base "Put" 4 ["self", "key", "value", "more"] [.str "no more"] cs.cPut (spInit .put cs.cPut cD)) (M_Drop : MakerX P w K mg base "Drop" 4 ["self", "key", "more"] [.str "no more"] cs.cDrop (spInit .drop cs.cDrop cD)) (M_Add : MakerX P w K mg base "Add" 4 ["self", "key", "by", "more"] [.str "no more"] cs.cAdd (spInit .add cs.cAdd cD)) (M_Wipe : MakerX P w K mg base "Wipe" 4 ["self", "low", "high", "more"] [.str "no more"] cs.cWipe (spInit .wipe cs.cWipe cD)) (M_Raise : MakerX P w K mg base "Raise" 4 ["self", "low", "high", "by", "more"] [.str "no more"] cs.cRaise (spInit .raise cs.cRaise cD)) (M_Level : MakerX P w K mg base "Level" 4 ["self", "low", "high", "value", "more"] [.str "no more"] cs.cLevel (spInit .level cs.cLevel cD)) (M_Mark : MakerX P w K mg base "Mark" 2 ["self", "more"] [.str "no more"] cs.cMark (spInit .mark cs.cMark cD)) (M_Forget : MakerX P w K mg base "Forget" 3 ["self", "mark", "more"] [.str "no more"] cs.cForget (spInit .forget cs.cForget cD)) : FnOk P w K mg base (CXO P w) 6 f fd ["told"] (spDeed K cs cD) := by
  refine F.okX sc_deed_of (fun vs H Q E h => ?_) (fun cdv A outer s H vs Q E hr h => ?_)
  · obtain ⟨r, x, os, rfl, _⟩ := h
    rfl
  obtain ⟨r, x, os, rfl, hr1, q, qn⟩ := h
  refine ⟨_, (bcons (sif (tnot (tval (ecall C_has_form (hr.mono (by decide)) rfl (acons (ev 0) anil)))) (bone (sraise B.x_NoDeed B.NoDeed hr.hd rfl)) bnil)
      (bcons (sset (i := 1) sc_deed_of.nd rfl (Or.inl rfl) (eix ix_Q (ev 0) ei (fun _ _ => rfl)))
      (bcons (sif (tcmp op_eq (ev 1) estr (nomark _)) (bone (sret (emakeX M_Put pass1 (hr.mono (by decide)) rfl (acons (eix ix_Q (ev 0) ei (fun _ _ => rfl)) (acons (eix ix_Q (ev 0) ei (fun _ _ => rfl)) anil))))) bnil)
      (bcons (sif (tcmp op_eq (ev 1) estr (nomark _)) (bone (sret (emakeX M_Drop pass1 (hr.mono (by decide)) rfl (acons (eix ix_Q (ev 0) ei (fun _ _ => rfl)) anil)))) bnil)
      (bcons (sif (tcmp op_eq (ev 1) estr (nomark _)) (bone (sret (emakeX M_Add pass1 (hr.mono (by decide)) rfl (acons (eix ix_Q (ev 0) ei (fun _ _ => rfl)) (acons (eix ix_Q (ev 0) ei (fun _ _ => rfl)) anil))))) bnil)
      (bcons (sif (tcmp op_eq (ev 1) estr (nomark _)) (bone (sret (emakeX M_Wipe pass1 (hr.mono (by decide)) rfl (acons (eix ix_Q (ev 0) ei (fun _ _ => rfl)) (acons (eix ix_Q (ev 0) ei (fun _ _ => rfl)) anil))))) bnil)
      (bcons (sif (tcmp op_eq (ev 1) estr (nomark _)) (bone (sret (emakeX M_Raise pass1 (hr.mono (by decide)) rfl (acons (eix ix_Q (ev 0) ei (fun _ _ => rfl)) (acons (eix ix_Q (ev 0) ei (fun _ _ => rfl)) (acons (eix ix_Q (ev 0) ei (fun _ _ => rfl)) anil)))))) bnil)
      (bcons (sif (tcmp op_eq (ev 1) estr (nomark _)) (bone (sret (emakeX M_Level pass1 (hr.mono (by decide)) rfl (acons (eix ix_Q (ev 0) ei (fun _ _ => rfl)) (acons (eix ix_Q (ev 0) ei (fun _ _ => rfl)) (acons (eix ix_Q (ev 0) ei (fun _ _ => rfl)) anil)))))) bnil)
      (bcons (sif (tcmp op_eq (ev 1) estr (nomark _)) (bone (sret (emakeX0 M_Mark pass1 (hr.mono (by decide)) rfl))) bnil)
      (bone (sret (emakeX M_Forget pass1 (hr.mono (by decide)) rfl (acons (eix ix_Q (ev 0) ei (fun _ _ => rfl)) anil))))))))))))), ?_⟩
  try walk_at "rn"
  refine ⟨r, x, os, rfl, hr1, _, rfl, ?_⟩
  cases c0 : decide (things.lookup x = some ((os.length : Int) + 1))
  · exact qn (fun z => of_decide_eq_false c0 (isD_form z)) _ Ext.refl
  simp_arith [seqQ_T hr1]
  obtain ⟨k, rfl, hl⟩ := things_of (of_decide_eq_true c0)
  have qn' : ¬ k.okO os → ∀ H', Ext K H H' → E (.ref cD) none H' := fun z => qn fun ⟨j, e, h⟩ => z (by rw [word_inj e]; exact h)
  cases k
  · rcases os with _ | ⟨o0, _ | ⟨o1, _ | ⟨o2, _ | ⟨o3, os⟩⟩⟩⟩ <;> simp only [Kd.names, List.length_cons, List.length_nil] at hl <;> try omega
    exact iteT' rfl (⟨_, rfl, _, rfl, made_ok (C := cs.cPut) rfl (fun us e ok => q .put us rfl e ok) qn'⟩)
  · rcases os with _ | ⟨o0, _ | ⟨o1, _ | ⟨o2, _ | ⟨o3, os⟩⟩⟩⟩ <;> simp only [Kd.names, List.length_cons, List.length_nil] at hl <;> try omega
    exact iteF' (show ¬ (Kd.word .drop = "put") by decide +kernel) (iteT' rfl (⟨_, rfl, made_ok (C := cs.cDrop) rfl (fun us e ok => q .drop us rfl e ok) qn'⟩))
  · rcases os with _ | ⟨o0, _ | ⟨o1, _ | ⟨o2, _ | ⟨o3, os⟩⟩⟩⟩ <;> simp only [Kd.names, List.length_cons, List.length_nil] at hl <;> try omega
    exact iteF' (show ¬ (Kd.word .add = "put") by decide +kernel) (iteF' (show ¬ (Kd.word .add = "drop") by decide +kernel) (iteT' rfl (⟨_, rfl, _, rfl, made_ok (C := cs.cAdd) rfl (fun us e ok => q .add us rfl e ok) qn'⟩)))
  · rcases os with _ | ⟨o0, _ | ⟨o1, _ | ⟨o2, _ | ⟨o3, os⟩⟩⟩⟩ <;> simp only [Kd.names, List.length_cons, List.length_nil] at hl <;> try omega
    exact iteF' (show ¬ (Kd.word .wipe = "put") by decide +kernel) (iteF' (show ¬ (Kd.word .wipe = "drop") by decide +kernel) (iteF' (show ¬ (Kd.word .wipe = "add") by decide +kernel) (iteT' rfl (⟨_, rfl, _, rfl, made_ok (C := cs.cWipe) rfl (fun us e ok => q .wipe us rfl e ok) qn'⟩))))
  · rcases os with _ | ⟨o0, _ | ⟨o1, _ | ⟨o2, _ | ⟨o3, os⟩⟩⟩⟩ <;> simp only [Kd.names, List.length_cons, List.length_nil] at hl <;> try omega
    exact iteF' (show ¬ (Kd.word .raise = "put") by decide +kernel) (iteF' (show ¬ (Kd.word .raise = "drop") by decide +kernel) (iteF' (show ¬ (Kd.word .raise = "add") by decide +kernel) (iteF' (show ¬ (Kd.word .raise = "wipe") by decide +kernel) (iteT' rfl (⟨_, rfl, _, rfl, _, rfl, made_ok (C := cs.cRaise) rfl (fun us e ok => q .raise us rfl e ok) qn'⟩)))))
  · rcases os with _ | ⟨o0, _ | ⟨o1, _ | ⟨o2, _ | ⟨o3, os⟩⟩⟩⟩ <;> simp only [Kd.names, List.length_cons, List.length_nil] at hl <;> try omega
    exact iteF' (show ¬ (Kd.word .level = "put") by decide +kernel) (iteF' (show ¬ (Kd.word .level = "drop") by decide +kernel) (iteF' (show ¬ (Kd.word .level = "add") by decide +kernel) (iteF' (show ¬ (Kd.word .level = "wipe") by decide +kernel) (iteF' (show ¬ (Kd.word .level = "raise") by decide +kernel) (iteT' rfl (⟨_, rfl, _, rfl, _, rfl, made_ok (C := cs.cLevel) rfl (fun us e ok => q .level us rfl e ok) qn'⟩))))))
  · rcases os with _ | ⟨o0, _ | ⟨o1, _ | ⟨o2, _ | ⟨o3, os⟩⟩⟩⟩ <;> simp only [Kd.names, List.length_cons, List.length_nil] at hl <;> try omega
    exact iteF' (show ¬ (Kd.word .mark = "put") by decide +kernel) (iteF' (show ¬ (Kd.word .mark = "drop") by decide +kernel) (iteF' (show ¬ (Kd.word .mark = "add") by decide +kernel) (iteF' (show ¬ (Kd.word .mark = "wipe") by decide +kernel) (iteF' (show ¬ (Kd.word .mark = "raise") by decide +kernel) (iteF' (show ¬ (Kd.word .mark = "level") by decide +kernel) (iteT' rfl (made_ok (C := cs.cMark) rfl (fun us e ok => q .mark us rfl e ok) qn')))))))
  · rcases os with _ | ⟨o0, _ | ⟨o1, _ | ⟨o2, _ | ⟨o3, os⟩⟩⟩⟩ <;> simp only [Kd.names, List.length_cons, List.length_nil] at hl <;> try omega
    exact iteF' (show ¬ (Kd.word .forget = "put") by decide +kernel) (iteF' (show ¬ (Kd.word .forget = "drop") by decide +kernel) (iteF' (show ¬ (Kd.word .forget = "add") by decide +kernel) (iteF' (show ¬ (Kd.word .forget = "wipe") by decide +kernel) (iteF' (show ¬ (Kd.word .forget = "raise") by decide +kernel) (iteF' (show ¬ (Kd.word .forget = "level") by decide +kernel) (iteF' (show ¬ (Kd.word .forget = "mark") by decide +kernel) (⟨_, rfl, made_ok (C := cs.cForget) rfl (fun us e ok => q .forget us rfl e ok) qn'⟩)))))))
end
theorem str_ext {x y : Str} (h : x.cps.toList = y.cps.toList) : x = y := by
  cases x; cases y
  simp only at h
  rw [Array.toList_inj.mp h]
theorem split_ne (x : Str) (c : Nat) : Txt.split x ⟨#[c]⟩ ≠ [] := by
  unfold Txt.split
  split
  · simp
  · split
    · simp
    · rw [StrLaws.partsBetween_eq]
      cases Builtin.Str.occurrences x ⟨#[c]⟩ 0 x.length (x.length + 1) <;> simp [StrLaws.partsFrom]
theorem blank_is : Str.ofString " " = ⟨#[32]⟩ := by decide +kernel
theorem digits_lt {cs : List Nat} (h : NumText.AllDigits cs) : NumText.digitsVal cs < 10 ^ cs.length := by
  have key : ∀ (cs : List Nat) (a : Nat), NumText.AllDigits cs → cs.foldl (fun acc c => acc * 10 + (c - 48)) a < (a + 1) * 10 ^ cs.length := by
    intro cs
    induction cs with
    | nil => intro a _; simp
    | cons c r ih =>
      intro a h
      have h1 := h.head
      have h2 := ih (a * 10 + (c - 48)) h.tail
      rw [List.foldl_cons, List.length_cons, Nat.pow_succ]
      refine Nat.lt_of_lt_of_le h2 ?_
      rw [show (a + 1) * (10 ^ r.length * 10) = (a * 10 + 10) * 10 ^ r.length from by rw [Nat.mul_comm (10 ^ r.length), ← Nat.mul_assoc, Nat.add_mul, Nat.one_mul]]
      exact Nat.mul_le_mul_right _ (by omega)
  have := key cs 0 h
  rw [Nat.zero_add, Nat.one_mul] at this
  exact this
theorem fig_small {l : List Nat} (h : figL l = true) : (figV l).natAbs < 10 ^ 60 := by
  obtain ⟨h1, h2, h3, h4⟩ := figL_of h
  have key : ∀ cs : List Nat, NumText.AllDigits cs → cs.length ≤ 60 → NumText.digitsVal cs < 10 ^ 60 := fun cs a b => Nat.lt_of_lt_of_le (digits_lt a) (Nat.pow_le_pow_right (by decide) b)
  by_cases hh : l.head? = some 45
  · cases l with
    | nil => cases hh
    | cons c r =>
      simp only [List.head?_cons, Option.some.injEq] at hh
      subst hh
      have := key r h2 h3
      show (-((NumText.digitsVal r : Nat) : Int)).natAbs < _
      omega
  · rw [bareL_ne hh] at h2 h3
    rw [figV_ne hh]
    have := key l h2 h3
    omega
def pX (t : Str) : Str := (Txt.split t (Str.ofString " ")).headD default
def pO (t : Str) : List (Option Int) := (Txt.split t (Str.ofString " ")).tail.map readFig
theorem parts_eq (t : Str) : Txt.split t (Str.ofString " ") = pX t :: (Txt.split t (Str.ofString " ")).tail := by
  have := split_ne t 32
  rw [← blank_is] at this
  unfold pX
  cases h : Txt.split t (Str.ofString " ") with
  | nil => exact absurd h this
  | cons x r => rfl
theorem join_len {c : Nat} : ∀ {ps : List Str}, ps.length ≤ (Str.join ⟨#[c]⟩ ps).length + 1 ∧ ∀ p ∈ ps, p.length ≤ (Str.join ⟨#[c]⟩ ps).length
  | [] => by simp
  | [x] => by
    refine ⟨by simp, fun p hp => ?_⟩
    rw [List.mem_singleton.mp hp]
    exact Nat.le_refl _
  | x :: y :: r => by
    obtain ⟨h1, h2⟩ := join_len (c := c) (ps := y :: r)
    have e : (Str.join ⟨#[c]⟩ (x :: y :: r)).length = x.length + 1 + (Str.join ⟨#[c]⟩ (y :: r)).length := by
      show (x ++ ⟨#[c]⟩ ++ Str.join ⟨#[c]⟩ (y :: r)).length = _
      rw [Str.length_append, Str.length_append]
      rfl
    rw [e, List.length_cons]
    refine ⟨by omega, fun p hp => ?_⟩
    rcases List.mem_cons.mp hp with rfl | hp
    · omega
    · have := h2 p hp
      omega
theorem split_len (t : Str) : (Txt.split t (Str.ofString " ")).length ≤ t.length + 1 ∧ ∀ p ∈ Txt.split t (Str.ofString " "), p.length ≤ t.length := by
  have := join_len (c := 32) (ps := Txt.split t ⟨#[32]⟩)
  rw [StrLaws.join_split] at this
  rw [blank_is]
  exact this
theorem text_of {t : Str} {k : Kd} {us : List Int} (h1 : pX t = k.word) (h2 : pO t = us.map some) : k.text us = t ∧ sm us := by
  have key : ∀ (rest : List Str) (us : List Int), rest.map readFig = us.map some → us.map numT = rest ∧ sm us := by
    intro rest
    induction rest with
    | nil => intro us h; cases us with
      | nil => exact ⟨rfl, fun i hi => by simp at hi⟩
      | cons u us => cases h
    | cons p rest ih =>
      intro us h
      cases us with
      | nil => cases h
      | cons u us =>
        rw [List.map_cons, List.map_cons] at h
        obtain ⟨e1, e2⟩ := List.cons.inj h
        obtain ⟨f1, f2⟩ := ih us e2
        unfold readFig at e1
        split at e1
        · rename_i hf
          obtain rfl := Option.some.inj e1
          refine ⟨by rw [List.map_cons, f1]; exact congrArg (· :: rest) (fig_str hf), fun i hi => ?_⟩
          rcases List.mem_cons.mp hi with rfl | hi
          · exact fig_small hf
          · exact f2 i hi
        · cases e1
  obtain ⟨f1, f2⟩ := key _ us h2
  refine ⟨?_, f2⟩
  have e := StrLaws.join_split t ⟨#[32]⟩
  rw [← blank_is, parts_eq, h1, ← f1] at e
  rw [← e]
  unfold Kd.text Kd.items
  rw [List.map_cons, List.map_map]
  rfl
theorem lc_mapY {α : Type} {K : PySem.W.Frag} {c D : Addr} {L : List α} {f g : α → V} {te : TE} {v0 : Option V} {rest : St} {H : Hp} {Q : Hp → Prop} (hk : SqL K H c (L.map f)) (nD : new K H D) (hz : L.length ≤ 16000000)
    (elt : ∀ q ∈ L, ∀ H' (Q : VK), Ext K H H' → (∀ H'', Ext K H' H'' → Q (g q) H'') → te (some (f q) :: rest) H' Q)
    (fin : ∀ H', H' D = some (.lst (L.map g)) → Ext K H H' → Q H') : LcLoop (Itl K c) (gName 0) tYes te D Q (v0 :: rest) (upd H D (.lst [])) := by
  refine lc_list (xs := L.map f) (fun i acc σ' H' => ∃ (v0 : Option V), σ' = v0 :: rest ∧ H' D = some (.lst acc) ∧ acc = (L.take i).map g ∧ Kp K D (upd H D (.lst [])) H') ?_ ?_ ?_ ?_
  · exact ⟨_, rfl, upd_same, rfl, Kp.refl⟩
  · rintro i acc σ' H' _ ⟨v0, rfl, hD, rfl, k⟩
    exact (k.ext nD).same.seq hk
  · rintro i x acc σ' H' hx ⟨v0, rfl, hD, rfl, k⟩
    rw [List.getElem?_map] at hx
    obtain ⟨q, ek, rfl⟩ := Option.map_eq_some_iff.mp hx
    have hlen : ((L.take i).map g).length ≤ 16000000 := by rw [List.length_map, List.length_take]; omega
    unfold gName tYes
    refine iteT ?_
    refine elt q (List.mem_of_getElem? ek) H' _ (k.ext nD) fun H'' x'' => ⟨x''.at hD, Nat.lt_of_le_of_lt hlen (by decide), _, rfl, upd_same, ?_, k.trans (x''.kp.trans (Kp.upd (x''.at hD)))⟩
    rw [List.take_add_one, ek, Option.toList_some, List.map_append]
    rfl
  · rintro acc σ' H' ⟨v0, rfl, hD, rfl, k⟩
    rw [List.length_map, List.take_length] at hD
    exact fin H' hD (k.ext nD)
section
variable {P : Program} {w : World} {K : PySem.W.Frag} {mg : Str → Option Value} {base : Heap}
def NoStr (K : PySem.W.Frag) (H : Hp) (v : V) : Prop := ∃ t, TyQ K H v t ∧ PySem.W.kitOne K t (.type "str") = some false
def spAre : Sp := fun vs H Q _ => ∃ t : Str, vs = [.str t] ∧ t.length ≤ 16777216 ∧ Q (.bl (Txt.isascii t && Txt.isdigit t && decide (t.length ≤ 60))) H
def spRF : Sp := fun vs H Q _ => ∃ t : Str, vs = [.str t] ∧ t.length ≤ 16777216 ∧ Q (on (readFig t)) H
def spRW (K : PySem.W.Frag) (cs : Cs) (cD : Addr) : Sp := fun vs H Q E => ∃ v, vs = [v] ∧ ((∃ t : Str, v = .str t ∧ t.length ≤ 10000000 ∧
  (∀ (k : Kd) us, pX t = k.word → pO t = us.map some → k.ok us → ∀ a H', Ext K H H' → DeedAt (cs.at k) H' a k us → Q (.ref a) H') ∧ (¬ IsD (pX t) (pO t) → ∀ H', Ext K H H' → E (.ref cD) none H')) ∨ (NoStr K H v ∧ E (.ref cD) none H))
theorem sc_are_figures : FnScope ["text"] ["text"] (defScope s_are_figures) := ⟨rfl, rfl, rfl, by decide +kernel, rfl, by decide +kernel, by decide +kernel⟩
theorem ok_are_figures {f : Addr} {fd : FuncData} (F : Fun K "are_figures" "are_figures" s_are_figures f fd) {aTh cF cD cK cS cM cA cP : Addr} {tE tM tN tF u1 u2 u3 u4 u5 u6 u7 u8 : Tok} (B : B P w K mg aTh cF cD cK cS cM cA cP tE tM tN tF u1 u2 u3 u4 u5 u6 u7 u8) : FnOk P w K mg base CX0 1 f fd ["text"] spAre := by
  refine F.okJ sc_are_figures (fun vs H Q E h => ?_) (fun cdv A outer s H vs Q E hr h => ?_)
  · obtain ⟨t, rfl, _⟩ := h
    rfl
  obtain ⟨t, rfl, hl, q⟩ := h
  refine ⟨_, (bone (sret (eand (ebm0 PySem.F.plainAttrs_str PySem.F.slot_str_isascii PySem.F.type_str_isascii mt_isascii (ev 0)) (eand (ebm0 PySem.F.plainAttrs_str PySem.F.slot_str_isdigit PySem.F.type_str_isdigit mt_isdigit (ev 0)) (eone (ecmp op_le (ecallB call_len_str rfl B.len bt_len (acons (ev 0) anil)) (eglob rfl B.MOST_FIGURES B.MOST_FIGURES_is) (nomark _))))))), ?_⟩
  try walk_at "rn"
  cases h1 : Txt.isascii t
  · rw [h1] at q
    exact iteF' (by decide) q
  cases h2 : Txt.isdigit t
  · rw [h1, h2] at q
    exact iteT' rfl (iteF' (by decide) q)
  · rw [h1, h2] at q
    refine iteT' rfl (iteT' rfl ⟨hl, ?_⟩)
    rw [show decide ((t.length : Int) ≤ 60) = (true && true && decide (t.length ≤ 60)) from by simp only [Bool.true_and]; exact decide_eq_decide.mpr (by omega)]
    exact q
theorem bare_len (t : Str) : (Txt.removeprefix t (Str.ofString "-")).length = (bareL t.cps.toList).length := by rw [← bare_cps]; simp [Str.length]
theorem bareL_le : ∀ l : List Nat, (bareL l).length ≤ l.length := by
  intro l
  unfold bareL
  split
  · simp
  · exact Nat.le_refl _
theorem are_eq (t : Str) : (Txt.isascii (Txt.removeprefix t (Str.ofString "-")) && Txt.isdigit (Txt.removeprefix t (Str.ofString "-")) && decide ((Txt.removeprefix t (Str.ofString "-")).length ≤ 60)) = (!(bareL t.cps.toList).isEmpty && (bareL t.cps.toList).all isFig && decide ((bareL t.cps.toList).length ≤ 60)) := by
  rw [figs_of, bare_cps, bare_len]
theorem str_one {c : Nat} : (⟨#[c]⟩ : Str) = Str.ofString "0" ↔ c = 48 := by
  constructor
  · intro h
    have := congrArg (fun s : Str => s.cps.toList) h
    have h0 : (Str.ofString "0").cps.toList = [48] := by decide +kernel
    simp only [h0] at this
    simpa using this
  · intro h
    subst h
    exact str_ext (by decide +kernel)
theorem is_zero {t : Str} : t.cps.toList = [48] ↔ t = Str.ofString "0" := by
  constructor
  · intro h
    exact str_ext (by rw [h]; decide +kernel)
  · intro h
    subst h
    decide +kernel
theorem sc_read_figures : FnScope ["text", "bare"] ["text"] (defScope s_read_figures) := ⟨rfl, rfl, rfl, by decide +kernel, rfl, by decide +kernel, by decide +kernel⟩
theorem ok_read_figures {f : Addr} {fd : FuncData} (F : Fun K "read_figures" "read_figures" s_read_figures f fd) {aTh cF cD cK cS cM cA cP : Addr} {tE tM tN tF u1 u2 u3 u4 u5 u6 u7 u8 : Tok} (B : B P w K mg aTh cF cD cK cS cM cA cP tE tM tN tF u1 u2 u3 u4 u5 u6 u7 u8) (C_are_figures : Callee P w K mg base "are_figures" 1 ["text"] spAre) : FnOk P w K mg base CX0 2 f fd ["text"] spRF := by
  refine F.okJ sc_read_figures (fun vs H Q E h => ?_) (fun cdv A outer s H vs Q E hr h => ?_)
  · obtain ⟨t, rfl, _⟩ := h
    rfl
  obtain ⟨t, rfl, ht, q⟩ := h
  have hbl := bare_len t
  have hle := bareL_le t.cps.toList
  have hl : t.length = t.cps.toList.length := by simp [Str.length]
  refine ⟨_, (bcons (sif (tnot (tval (ecallB call_isinstQ rfl B.isinstance bt_isinstance (acons (ev 0) (acons (etyp rfl B.str bt_str) anil))))) (bone (sret enon)) bnil)
      (bcons (sset (i := 1) sc_read_figures.nd rfl (Or.inl rfl) (ebm PySem.F.plainAttrs_str PySem.F.slot_str_removeprefix PySem.F.type_str_removeprefix mt_removeprefix (ev 0) (acons estr anil)))
      (bcons (sif (tnot (tval (ecall C_are_figures (hr.mono (by decide)) rfl (acons (ev 1) anil)))) (bone (sret enon)) bnil)
      (bcons (sif (tw (wand (tcmp op_eq (eix ix_str (ev 1) ei (fun _ _ => rfl)) estr (nomark _)) (wand1 (tcmp op_ne (ev 0) estr (nomark _))))) (bone (sret enon)) bnil)
      (bone (sret (ecallTy call_intT rfl B.int bt_int (acons (ev 0) anil)))))))), ?_⟩
  try walk_at "rn"
  refine ⟨_, .inl (.str _), true, rfl, iteF' (by decide) ⟨by omega, _, rfl, by omega, _, rfl, ?_⟩⟩
  rw [are_eq]
  unfold readFig at q
  cases ca : (!(bareL t.cps.toList).isEmpty && (bareL t.cps.toList).all isFig && decide ((bareL t.cps.toList).length ≤ 60))
  · refine iteT' (by decide) ?_
    rw [if_neg (by unfold figL; rw [ca]; simp)] at q
    exact q
  refine iteF' (by decide) ?_
  have ne : bareL t.cps.toList ≠ [] := by
    simp only [Bool.and_eq_true, Bool.not_eq_true', List.isEmpty_eq_false_iff] at ca
    exact ca.1.1
  have fin : figL t.cps.toList = true → ∃ x, intText? t = some x ∧ t.length ≤ 640 ∧ Q (V.int x) H := fun hf => by
    rw [if_pos hf] at q
    exact ⟨_, fig_int hf, by have := fig_len hf; omega, q⟩
  refine ⟨by omega, ?_⟩
  rw [bare_cps]
  cases e : bareL t.cps.toList with
  | nil => exact absurd e ne
  | cons c r =>
    refine ⟨c, atI_0, ?_⟩
    by_cases hc : c = 48
    · rw [if_pos (str_one.mpr hc)]
      by_cases hz : t = Str.ofString "0"
      · rw [decide_eq_true hz]
        exact iteF' (by decide) (fin (by unfold figL; rw [ca, is_zero.mpr hz]; decide))
      · rw [decide_eq_false hz]
        refine iteT' (by decide) ?_
        rw [if_neg (by unfold figL; rw [ca, e, hc]; simp [show t.cps.toList ≠ [48] from fun z => hz (is_zero.mp z)])] at q
        exact q
    · rw [if_neg (fun z => hc (str_one.mp z))]
      exact fin (by unfold figL; rw [ca, e]; simp [hc])
theorem sc_read_words : FnScope ["text", "word", "numbers"] ["text"] (defScope s_read_words) := ⟨rfl, rfl, rfl, by decide +kernel, rfl, by decide +kernel, by decide +kernel⟩
theorem ok_read_words {f : Addr} {fd : FuncData} (F : Fun K "read_words" "read_words" s_read_words f fd) {aTh cF cD cK cS cM cA cP : Addr} {tE tM tN tF u1 u2 u3 u4 u5 u6 u7 u8 : Tok} (B : B P w K mg aTh cF cD cK cS cM cA cP tE tM tN tF u1 u2 u3 u4 u5 u6 u7 u8) {cs : Cs} (C_deed_of : CalleeX P w K mg base "deed_of" 6 ["told"] (spDeed K cs cD)) (C_read_figures : Callee P w K mg base "read_figures" 2 ["text"] spRF) : FnOk P w K mg base (CXO P w) 7 f fd ["text"] (spRW K cs cD) := by
  refine F.okX sc_read_words (fun vs H Q E h => ?_) (fun cdv A outer s H vs Q E hr h => ?_)
  · obtain ⟨v, rfl, _⟩ := h
    rfl
  obtain ⟨v, rfl, ⟨t, rfl, l3, q, qn⟩ | ⟨⟨ty, h1, h2⟩, qn⟩⟩ := h
  · obtain ⟨s1, s2⟩ := split_len t
    refine ⟨_, (bcons (sif (tnot (tval (ecallB call_isinstQ rfl B.isinstance bt_isinstance (acons (ev 0) (acons (etyp rfl B.str bt_str) anil))))) (bone (sraise B.x_NoDeed B.NoDeed hr.hd rfl)) bnil)
      (bcons (sasg (ebm PySem.F.plainAttrs_str PySem.F.slot_str_split PySem.F.type_str_split mt_split (ev 0) (acons estr anil)) (gstarL (n := 2) (i := 1) rfl (gcons (gname (i := 1) sc_read_words.nd rfl (Or.inl rfl)) (gconsS (gname (i := 2) sc_read_words.nd rfl (Or.inl rfl)) gnil))))
      (bone (sret (ecallX C_deed_of pass1 (hr.mono (by decide)) rfl (acons (eop op_catTX (etupQ (acons (ev 1) anil)) (ecallTy call_tuple_ofQ rfl B.tuple bt_tuple (acons (elc (Cap.mk (N := ["number"]) (src := [none]) rfl rfl) rfl (ilist (ev 2)) (fun _ _ _ _ => (gname (i := 0) (show (["number"] : List Str).Nodup from by decide +kernel) rfl (Or.inl rfl))) (fun _ _ _ _ => fnone) (fun _ _ _ _ => (ecall C_read_figures (hr.mono (by decide)) rfl (acons (ev 0) anil)))) anil))) anil)))))), ?_⟩
    try walk_at "rn"
    refine ⟨_, .inl (.str _), true, rfl, iteF' (by decide) ⟨by decide +kernel, by omega, by omega, fun D nD => ?_⟩⟩
    rw [parts_eq] at s1 s2 ⊢
    have lt : ∀ p ∈ (Txt.split t (Str.ofString " ")).tail, p.length ≤ t.length := fun p hp => s2 p (List.mem_cons_of_mem _ hp)
    unfold pO at q qn
    generalize (Txt.split t (Str.ofString " ")).tail = rest at s1 lt q qn ⊢
    rw [List.length_cons] at s1
    refine ⟨_, SqL.of upd_same, by simp, fun D1 n1 => ?_⟩
    rw [show List.take ((List.map V.str (pX t :: rest)).length + 1 - 2) (List.drop 1 (List.map V.str (pX t :: rest))) = rest.map V.str from by simp; exact List.take_of_length_le (by simp)]
    refine ⟨V.str (pX t), [V.ref D1], by simp, V.ref D1, [], rfl, rfl, fun p np => ⟨D1, rfl, ⟨_, SqL.of ((Ext.new np).at upd_same)⟩, fun D2 n2 => ?_⟩⟩
    refine lc_mapY (f := V.str) (g := fun p => on (readFig p)) (SqL.of ((Ext.new np).at upd_same)) n2 (by omega) (fun p hp H' Q' xx qq => ?_) (fun H1 hD x1 => ?_)
    · try walk_at "rn"
      exact ⟨p, rfl, by have := lt p hp; omega, qq _ Ext.refl⟩
    refine ⟨_, hD, fun l nl => ⟨_, ((x1.trans (Ext.new nl)).tup tupQ_updT), by simp, by simp only [List.length_cons, List.length_nil, List.length_map]; have := sizeLine_eq; omega, fun q' H' ht x' => ?_⟩⟩
    have xx := (Ext.new (K := K) nD).trans ((Ext.new n1).trans ((Ext.new np).trans (x1.trans ((Ext.new nl).trans x'))))
    refine ⟨q', pX t, rest.map readFig, rfl, by rw [ht, List.map_map]; rfl, fun k us e1 e2 ok a H'' x2 hd => q k us e1 e2 ok a H'' (xx.trans x2) hd, fun z H'' x2 => qn z H'' (xx.trans x2)⟩
  · refine ⟨_, (bcons (sif (tnot (tval (ecallB call_isinstQ rfl B.isinstance bt_isinstance (acons (ev 0) (acons (etyp rfl B.str bt_str) anil))))) (bone (sraise B.x_NoDeed B.NoDeed hr.hd rfl)) bnil)
      (bcons (sasg (ebm PySem.F.plainAttrs_str PySem.F.slot_str_split PySem.F.type_str_split mt_split (ev 0) (acons estr anil)) (gstarL (n := 2) (i := 1) rfl (gcons (gname (i := 1) sc_read_words.nd rfl (Or.inl rfl)) (gconsS (gname (i := 2) sc_read_words.nd rfl (Or.inl rfl)) gnil))))
      (bone (sret (ecallX C_deed_of pass1 (hr.mono (by decide)) rfl (acons (eop op_catTX (etupQ (acons (ev 1) anil)) (ecallTy call_tuple_ofQ rfl B.tuple bt_tuple (acons (elc (Cap.mk (N := ["number"]) (src := [none]) rfl rfl) rfl (ilist (ev 2)) (fun _ _ _ _ => (gname (i := 0) (show (["number"] : List Str).Nodup from by decide +kernel) rfl (Or.inl rfl))) (fun _ _ _ _ => fnone) (fun _ _ _ _ => (ecall C_read_figures (hr.mono (by decide)) rfl (acons (ev 0) anil)))) anil))) anil)))))), ?_⟩
    try walk_at "rn"
    exact ⟨ty, h1, false, h2, iteT' rfl qn⟩
end
theorem sm_of {k : Kd} {us : List Int} (h : k.ok us) (n : k ≠ .forget) : sm us := by
  unfold sm
  cases k <;> simp only [Kd.ok, okKey, okAm, okSt] at h
  · obtain ⟨a, b, rfl, h1, h2⟩ := h; simp only [List.mem_cons, List.not_mem_nil, or_false]; rintro i (rfl | rfl) <;> omega
  · obtain ⟨a, rfl, h1⟩ := h; simp only [List.mem_cons, List.not_mem_nil, or_false]; rintro i rfl; omega
  · obtain ⟨a, b, rfl, h1, h2⟩ := h; simp only [List.mem_cons, List.not_mem_nil, or_false]; rintro i (rfl | rfl) <;> omega
  · obtain ⟨a, b, rfl, h1⟩ := h; simp only [List.mem_cons, List.not_mem_nil, or_false]; rintro i (rfl | rfl) <;> omega
  · obtain ⟨a, b, c, rfl, h1, h2⟩ := h; simp only [List.mem_cons, List.not_mem_nil, or_false]; rintro i (rfl | rfl | rfl) <;> omega
  · obtain ⟨a, b, c, rfl, h1, h2⟩ := h; simp only [List.mem_cons, List.not_mem_nil, or_false]; rintro i (rfl | rfl | rfl) <;> omega
  · subst h; intro i hi; cases hi
  · exact absurd rfl n
section
variable {P : Program} {w : World} {K : PySem.W.Frag} {mg : Str → Option Value} {base : Heap}
def L3 (x y z : Int) : HO := .lst [.int x, .int y, .int z]
def spWell (K : PySem.W.Frag) : Sp := fun vs H Q _ => ∃ c, vs = [.int c] ∧ ∀ (p : Addr) (x y z : Int), new K H p → Q (.ref p) (upd H p (L3 x y z))
def spDraw (K : PySem.W.Frag) : Sp := fun vs H Q _ => ∃ p x y z m, vs = [.ref p, .int m] ∧ H p = some (L3 x y z) ∧ 0 < m ∧ m < 10 ^ 100 ∧
  ∀ (r x y z : Int) (H' : Hp), 0 ≤ r → r < m → H' p = some (L3 x y z) → Kp K p H H' → Q (.int r) H'
theorem sc__law_well : FnScope ["_law_cell"] ["_law_cell"] (defScope s__law_well) := ⟨rfl, rfl, rfl, by decide +kernel, rfl, by decide +kernel, by decide +kernel⟩
theorem ok__law_well {f : Addr} {fd : FuncData} (F : Fun K "_law_well" "_law_well" s__law_well f fd) {aTh cF cD cK cS cM cA cP : Addr} {tE tM tN tF u1 u2 u3 u4 u5 u6 u7 u8 : Tok} (B : B P w K mg aTh cF cD cK cS cM cA cP tE tM tN tF u1 u2 u3 u4 u5 u6 u7 u8) : FnOk P w K mg base CX0 1 f fd ["_law_cell"] (spWell K) := by
  refine F.okJ sc__law_well (fun vs H Q E h => ?_) (fun cdv A outer s H vs Q E hr h => ?_)
  · obtain ⟨c, rfl, _⟩ := h
    rfl
  obtain ⟨c, rfl, q⟩ := h
  refine ⟨_, (bone (sret (elstQ (acons (eop op_mul (ev 0) (ecallTy call_intB rfl B.int bt_int (acons (ecmp op_ge (ev 0) (epowc 1000000000000000000) (nomark _)) anil))) (acons (ev 0) (acons ei anil)))))), ?_⟩
  try walk_at "rd"
  refine ⟨?_, fun p hp => q p _ _ _ hp⟩
  right
  split <;> decide
theorem sc__law_draw : FnScope ["_law_well_here", "_law_many", "_law_found", "_law_low"] ["_law_well_here", "_law_many"] (defScope s__law_draw) := ⟨rfl, rfl, rfl, by decide +kernel, rfl, by decide +kernel, by decide +kernel⟩
theorem ok__law_draw {f : Addr} {fd : FuncData} (F : Fun K "_law_draw" "_law_draw" s__law_draw f fd) {aTh cF cD cK cS cM cA cP : Addr} {tE tM tN tF u1 u2 u3 u4 u5 u6 u7 u8 : Tok} (B : B P w K mg aTh cF cD cK cS cM cA cP tE tM tN tF u1 u2 u3 u4 u5 u6 u7 u8) : FnOk P w K mg base CX0 1 f fd ["_law_well_here", "_law_many"] (spDraw K) := by
  refine F.okJ sc__law_draw (fun vs H Q E h => ?_) (fun cdv A outer s H vs Q E hr h => ?_)
  · obtain ⟨p, x, y, z, m, rfl, _⟩ := h
    rfl
  obtain ⟨p, x, y, z, m, rfl, hp, h0, h1, q⟩ := h
  unfold L3 at hp
  refine ⟨_, (bcons (sif (tcmp op_gt (eix ix_Q (ev 0) ei (fun _ _ => rfl)) ei (nomark _)) (bcons (sset (i := 2) sc__law_draw.nd rfl (Or.inl rfl) (eop op_mod (eix ix_Q (ev 0) ei (fun _ _ => rfl)) (ev 1)))
      (bcons (sasg (eop op_fdivP (eix ix_Q (ev 0) ei (fun _ _ => rfl)) (ev 1)) (gsub (ev 0) ei set_list))
      (bone (sret (ev 2))))) bnil)
      (bcons (sasg (eop op_add (eix ix_Q (ev 0) ei (fun _ _ => rfl)) ei) (gsub (ev 0) ei set_list))
      (bcons (sset (i := 3) sc__law_draw.nd rfl (Or.inl rfl) (eop op_add (eop op_mod (eix ix_Q (ev 0) ei (fun _ _ => rfl)) ei) (eop op_mul (eop op_fdivP (eix ix_Q (ev 0) ei (fun _ _ => rfl)) ei) ei)))
      (bcons (sset (i := 3) sc__law_draw.nd rfl (Or.inl rfl) (eop op_mod (eop op_mul (eop op_add (eop op_add (ev 3) (eop op_mul ei (eix ix_Q (ev 0) ei (fun _ _ => rfl)))) ei) ei) ei))
      (bcons (sset (i := 3) sc__law_draw.nd rfl (Or.inl rfl) (eop op_mod (eop op_mul (ev 3) (eop op_add (eop op_add (eop op_fdivP (ev 3) ei) ei) (eix ix_Q (ev 0) ei (fun _ _ => rfl)))) ei))
      (bone (sret (eop op_mod (eop op_mod (eop op_mul (ev 3) (eop op_add (eop op_fdivP (ev 3) ei) ei)) ei) (ev 1))))))))), ?_⟩
  simp only [tSeq, tNext, tIfS, tAsg, gName, gSub, tRet, tRetN, tDrop, tVar, tC, tOp, tUn, rI0, rI, rU, tTest, tB, tAndV, tOrV, tNotV, tAnd, tOr, tNot, tIf, tChain, tCB, tCons, tNil, tLst, tTup, tCallC, List.getElem?_cons_zero, List.getElem?_cons_succ, List.set_cons_zero, List.set_cons_succ, Option.some.injEq, V.int.injEq, V.bl.injEq, V.ref.injEq, V.ty.injEq, V.str.injEq, List.cons.injEq, exists_eq_left', exists_eq_left, exists_and_left, and_true, true_and, and_assoc, cxK, rIxF, rSetL, rEq, rNe, scal, HO.lst.injEq, HO.tup.injEq, upd_none, ixN_10, ixN_20, ixN_21, ixN_30, ixN_31, ixN_32, upd_same, seqAt_updL, seqAt_updT, atI_0, atI_1, atI_2, atI_3, decide_eq_true_eq, L2.start, List.map_cons, List.map_nil, List.length_cons, List.length_nil, Nat.reduceAdd, Nat.reduceSub, List.replicate_succ, List.replicate_zero, List.cons_append, List.nil_append, List.append_nil, tFor_rng1, tFor_rng2, tFor_list, tFor_tup, CDv, CMul, CPow, sizeLine_eq, Int.reduceLE, Int.reduceLT, Int.reducePow, Int.reduceToNat, Int.reduceAdd, Int.reduceSub, Int.reduceMul, Int.reduceNeg, Nat.reduceLeDiff, Nat.reducePow, Nat.reduceLT, Int.reduceEq, true_or, or_true, ite_true, ite_false, if_true, if_false, Bool.not_true, Bool.not_false, Bool.false_eq_true, decide_true, decide_false, rIxQ, seqQ_updL, seqQ_updT, tupQ_updT, tSl, tNoPart, tPart, rSlQ, rSlTX, rCatQ, rCatTX, rCatTX0, tTupQ, tLstQ, new_upd, tNever, rEqD, rInQ, gTupQ, gCons, gNil, tBM, rAppend, tMakeQ, sFld, tFld, tMeth, tBM0, cxN, tCall, tRaise, tTry, Ends.gone, pick_nil, pick_own, pick_cap, join_some, tLc_list, tYes, tyV, tDNewQ, tFor_list, rEqO, rNeO, rInO, tLc_tup, gStarL, rIxS, rIsascii, rIsdigit, rRemPre, rSplit, tLc_text, rNeE, rSlS, rIndexS, rUpper, rJoin, hp,  seqQ_lst hp]
  have g : ∀ (u v z : Int), Kp K p H (upd H p (L3 u v z)) := fun u v z => Kp.upd hp
  refine ite2 (fun c => ⟨h0, h0, by omega, ?_⟩) (fun c => ?_)
  · exact q _ _ _ _ _ (Int.emod_nonneg _ (by omega)) (Int.emod_lt_of_pos _ h0) upd_same (g _ _ _)
  · refine ⟨?_, ?_, h0, q _ _ _ _ _ (Int.emod_nonneg _ (by omega)) (Int.emod_lt_of_pos _ h0) upd_same (g _ _ _)⟩
    all_goals omega
def spInt (K : PySem.W.Frag) (ok : Int → Prop) : Sp := fun vs H Q _ => ∃ p x y z, vs = [.ref p] ∧ H p = some (L3 x y z) ∧ ∀ (n x y z : Int) (H' : Hp), ok n → H' p = some (L3 x y z) → Kp K p H H' → Q (.int n) H'
def spPair (K : PySem.W.Frag) : Sp := fun vs H Q _ => ∃ p x y z, vs = [.ref p] ∧ H p = some (L3 x y z) ∧ ∀ (b : Addr) (m n x y z : Int) (H' : Hp), okSt m n → tupQ K H' b = some [.int m, .int n] → H' p = some (L3 x y z) → Kp K p H H' → Q (.ref b) H'
theorem sc__law_key : FnScope ["_law_well_here", "_law_way", "_law_base"] ["_law_well_here"] (defScope s__law_key) := ⟨rfl, rfl, rfl, by decide +kernel, rfl, by decide +kernel, by decide +kernel⟩
theorem ok__law_key {f : Addr} {fd : FuncData} (F : Fun K "_law_key" "_law_key" s__law_key f fd) {aTh cF cD cK cS cM cA cP : Addr} {tE tM tN tF u1 u2 u3 u4 u5 u6 u7 u8 : Tok} (B : B P w K mg aTh cF cD cK cS cM cA cP tE tM tN tF u1 u2 u3 u4 u5 u6 u7 u8) (C__law_draw : Callee P w K mg base "_law_draw" 1 ["_law_well_here", "_law_many"] (spDraw K)) : FnOk P w K mg base CX0 2 f fd ["_law_well_here"] (spInt K okKey) := by
  refine F.okJ sc__law_key (fun vs H Q E h => ?_) (fun cdv A outer s H vs Q E hr h => ?_)
  · obtain ⟨p, x, y, z, rfl, _⟩ := h
    rfl
  obtain ⟨p, x, y, z, rfl, hp, q⟩ := h
  refine ⟨_, (bcons (sset (i := 1) sc__law_key.nd rfl (Or.inl rfl) (ecall C__law_draw (hr.mono (by decide)) rfl (acons (ev 0) (acons ei anil))))
      (bcons (sset (i := 2) sc__law_key.nd rfl (Or.inl rfl) (eix ix_Q (elstQ (acons ei (acons (eop op_sub (epowc 1000000000000) ei) (acons ei (acons (epowc 1000000) (acons ei anil)))))) (ecall C__law_draw (hr.mono (by decide)) rfl (acons (ev 0) (acons ei anil))) (fun _ _ => rfl)))
      (bcons (sif (tcmp op_eq (ev 1) ei (nomark _)) (bone (sret (eop op_add (eop op_mul (ecall C__law_draw (hr.mono (by decide)) rfl (acons (ev 0) (acons (epowc 1000000) anil))) (epowc 1000000)) (ecall C__law_draw (hr.mono (by decide)) rfl (acons (ev 0) (acons (epowc 1000000) anil)))))) bnil)
      (bone (sret (eop op_add (ev 2) (ecall C__law_draw (hr.mono (by decide)) rfl (acons (ev 0) (acons ei anil))))))))), ?_⟩
  try walk_at "rn"
  refine ⟨p, _, _, _, 6, rfl, hp, by decide, by omega, fun way x y z H1 w0 w1 g1 k1 => ?_⟩
  try walk_at "rn"
  intro b1 n1
  have x1 := Ext.new (K := K) (o := .lst [V.int 0, V.int 999999999976, V.int 1000, V.int 1000000, V.int 1000]) n1
  refine ⟨p, _, _, _, 5, rfl, x1.at g1, by decide, by omega, fun r x y z H2 r0 r1 g2 k2 => ?_⟩
  simp_arith [seqQ_lst (k2.keep b1 _ upd_same (ne_of_none g1 n1.1).symm)]
  obtain ⟨v, ev, mv⟩ := atI_in (xs := [V.int 0, V.int 999999999976, V.int 1000, V.int 1000000, V.int 1000]) r0 r1
  obtain ⟨b, rfl, hb0, hb1⟩ : ∃ n : Int, v = .int n ∧ 0 ≤ n ∧ n ≤ 999999999976 := by
    simp only [List.mem_cons, List.not_mem_nil, or_false] at mv
    rcases mv with rfl | rfl | rfl | rfl | rfl <;> exact ⟨_, rfl, by decide, by decide⟩
  have kk := k1.trans (x1.kp.trans k2)
  refine ⟨_, ev, ?_⟩
  try walk_at "rn"
  refine ite2 (fun c => ?_) (fun c => ?_)
  · refine ⟨p, _, _, _, _, rfl, g2, by decide, by omega, fun r x y z H3 r0 r1 g3 k3 => ?_⟩
    try walk_at "rn"
    refine ⟨p, _, _, _, _, rfl, g3, by decide, by omega, fun r' x y z H4 r0' r1' g4 k4 => ?_⟩
    try walk_at "rn"
    exact q _ _ _ _ _ (by unfold okKey; omega) g4 (kk.trans (k3.trans k4))
  · refine ⟨p, _, _, _, 24, rfl, g2, by decide, by omega, fun r x y z H3 r0 r1 g3 k3 => ?_⟩
    try walk_at "rn"
    exact q _ _ _ _ _ (by unfold okKey; omega) g3 (kk.trans k3)
theorem sc__law_amount : FnScope ["_law_well_here", "_law_way", "_law_sign_here", "_law_near"] ["_law_well_here"] (defScope s__law_amount) := ⟨rfl, rfl, rfl, by decide +kernel, rfl, by decide +kernel, by decide +kernel⟩
theorem ok__law_amount {f : Addr} {fd : FuncData} (F : Fun K "_law_amount" "_law_amount" s__law_amount f fd) {aTh cF cD cK cS cM cA cP : Addr} {tE tM tN tF u1 u2 u3 u4 u5 u6 u7 u8 : Tok} (B : B P w K mg aTh cF cD cK cS cM cA cP tE tM tN tF u1 u2 u3 u4 u5 u6 u7 u8) (C__law_draw : Callee P w K mg base "_law_draw" 1 ["_law_well_here", "_law_many"] (spDraw K)) : FnOk P w K mg base CX0 2 f fd ["_law_well_here"] (spInt K okAm) := by
  refine F.okJ sc__law_amount (fun vs H Q E h => ?_) (fun cdv A outer s H vs Q E hr h => ?_)
  · obtain ⟨p, x, y, z, rfl, _⟩ := h
    rfl
  obtain ⟨p, x, y, z, rfl, hp, q⟩ := h
  refine ⟨_, (bcons (sset (i := 1) sc__law_amount.nd rfl (Or.inl rfl) (ecall C__law_draw (hr.mono (by decide)) rfl (acons (ev 0) (acons ei anil))))
      (bcons (sset (i := 2) sc__law_amount.nd rfl (Or.inl rfl) (eix ix_Q (elstQ (acons ei (acons ei (acons (eun un_neg ei) anil)))) (ecall C__law_draw (hr.mono (by decide)) rfl (acons (ev 0) (acons ei anil))) (fun _ _ => rfl)))
      (bcons (sset (i := 3) sc__law_amount.nd rfl (Or.inl rfl) (ecall C__law_draw (hr.mono (by decide)) rfl (acons (ev 0) (acons (eix ix_Q (elstQ (acons ei (acons ei (acons (epowc 1000000000) (acons (epowc 1000000000) (acons (epowc 1000000000) anil)))))) (ev 1) (fun _ _ => rfl)) anil))))
      (bcut (sif (tcmp op_eq (ev 1) ei (nomark _)) (bone (sset (i := 3) sc__law_amount.nd rfl (Or.inl rfl) (eop op_add (eop op_mul (ev 3) (epowc 1000000000)) (ecall C__law_draw (hr.mono (by decide)) rfl (acons (ev 0) (acons (epowc 1000000000) anil)))))) bnil)
      (bcut (sif (tcmp op_eq (ev 1) ei (nomark _)) (bone (sset (i := 3) sc__law_amount.nd rfl (Or.inl rfl) (eop op_sub (epowc 1000000000000000000000000000000) (ev 3)))) bnil)
      (bone (sret (eop op_mul (ev 2) (ev 3))))))))), ?_⟩
  try walk_at "rn"
  refine ⟨p, _, _, _, 5, rfl, hp, by decide, by omega, fun way x y z H1 w0 w1 g1 k1 => ?_⟩
  try walk_at "rn"
  intro b1 n1
  have x1 := Ext.new (K := K) (o := .lst [.int 1, .int 1, .int (-1)]) n1
  refine ⟨p, _, _, _, 3, rfl, x1.at g1, by decide, by omega, fun r x y z H2 r0 r1 g2 k2 => ?_⟩
  simp_arith [seqQ_lst (k2.keep b1 _ upd_same (ne_of_none g1 n1.1).symm)]
  obtain ⟨v, ev, mv⟩ := atI_in (xs := [V.int 1, V.int 1, V.int (-1)]) r0 r1
  obtain ⟨sg, rfl, hsg⟩ : ∃ n, v = V.int n ∧ (n = 1 ∨ n = -1) := by
    simp only [List.mem_cons, List.not_mem_nil, or_false] at mv
    rcases mv with rfl | rfl | rfl
    · exact ⟨_, rfl, .inl rfl⟩
    · exact ⟨_, rfl, .inl rfl⟩
    · exact ⟨_, rfl, .inr rfl⟩
  refine ⟨_, ev, fun b2 n2 => ?_⟩
  have x2 := Ext.new (K := K) (o := .lst [V.int 4, V.int 30, V.int 1000000000, V.int 1000000000, V.int 1000000000]) n2
  obtain ⟨u, eu, mu⟩ := atI_in (xs := [V.int 4, V.int 30, V.int 1000000000, V.int 1000000000, V.int 1000000000]) w0 w1
  obtain ⟨m, rfl, hm0, hm1⟩ : ∃ n, u = V.int n ∧ 0 < n ∧ n ≤ 1000000000 := by
    simp only [List.mem_cons, List.not_mem_nil, or_false] at mu
    rcases mu with rfl | rfl | rfl | rfl | rfl <;> exact ⟨_, rfl, by decide, by decide⟩
  refine ⟨_, eu, p, _, _, _, m, rfl, x2.at g2, hm0, by omega, fun near x y z H3 e0 e1 g3 k3 => ?_⟩
  try walk_at "rn"
  have kk := k1.trans (x1.kp.trans (k2.trans (x2.kp.trans k3)))
  refine ⟨fun σ H4 => ∃ (n x y z : Int), σ = [some (V.ref p), some (V.int way), some (V.int sg), some (V.int n)] ∧ (0 ≤ n ∧ n ≤ 1000000000000000000) ∧ H4 p = some (L3 x y z) ∧ Kp K p H H4, ?_, ?_⟩
  · try walk_at "rn"
    refine ite2 (fun c => ?_) (fun c => ?_)
    · refine ⟨p, _, _, _, 1000000000, rfl, g3, by decide, by omega, fun d x y z H4 d0 d1 g4 k4 => ?_⟩
      try walk_at "rn"
      exact ⟨by omega, by omega, _, _, _, g4, kk.trans k4⟩
    · exact ⟨by omega, by omega, _, _, _, g3, kk⟩
  rintro σ H4 ⟨n, x, y, z, rfl, hn, g4, k4⟩
  refine ⟨fun σ H5 => ∃ (n x y z : Int), σ = [some (V.ref p), some (V.int way), some (V.int sg), some (V.int n)] ∧ (0 ≤ n ∧ n ≤ 1000000000000000000000000000000) ∧ H5 p = some (L3 x y z) ∧ Kp K p H H5, ?_, ?_⟩
  · try walk_at "rn"
    refine ite2 (fun c => ?_) (fun c => ?_)
    · exact ⟨by omega, by omega, _, _, _, g4, k4⟩
    · exact ⟨by omega, by omega, _, _, _, g4, k4⟩
  rintro σ H5 ⟨n, x, y, z, rfl, hn, g5, k5⟩
  try walk_at "rn"
  exact ⟨.inl ⟨by omega, by omega⟩, q _ _ _ _ _ (by unfold okAm; rcases hsg with rfl | rfl <;> omega) g5 k5⟩
theorem sc__law_stretch : FnScope ["_law_well_here", "_law_way", "_law_low", "_law_far"] ["_law_well_here"] (defScope s__law_stretch) := ⟨rfl, rfl, rfl, by decide +kernel, rfl, by decide +kernel, by decide +kernel⟩
theorem ok__law_stretch {f : Addr} {fd : FuncData} (F : Fun K "_law_stretch" "_law_stretch" s__law_stretch f fd) {aTh cF cD cK cS cM cA cP : Addr} {tE tM tN tF u1 u2 u3 u4 u5 u6 u7 u8 : Tok} (B : B P w K mg aTh cF cD cK cS cM cA cP tE tM tN tF u1 u2 u3 u4 u5 u6 u7 u8) (C__law_draw : Callee P w K mg base "_law_draw" 1 ["_law_well_here", "_law_many"] (spDraw K)) (C__law_key : Callee P w K mg base "_law_key" 2 ["_law_well_here"] (spInt K okKey)) : FnOk P w K mg base CX0 3 f fd ["_law_well_here"] (spPair K) := by
  refine F.okJ sc__law_stretch (fun vs H Q E h => ?_) (fun cdv A outer s H vs Q E hr h => ?_)
  · obtain ⟨p, x, y, z, rfl, _⟩ := h
    rfl
  obtain ⟨p, x, y, z, rfl, hp, q⟩ := h
  refine ⟨_, (bcons (sset (i := 1) sc__law_stretch.nd rfl (Or.inl rfl) (ecall C__law_draw (hr.mono (by decide)) rfl (acons (ev 0) (acons ei anil))))
      (bcons (sset (i := 2) sc__law_stretch.nd rfl (Or.inl rfl) (ecall C__law_key (hr.mono (by decide)) rfl (acons (ev 0) anil)))
      (bcons (sif (tcmp op_eq (ev 1) ei (nomark _)) (bone (sret (etupQ (acons ei (acons (epowc 1000000000000) anil))))) bnil)
      (bcons (sif (tcmp op_eq (ev 1) ei (nomark _)) (bone (sret (etupQ (acons (ev 2) (acons (epowc 1000000000000) anil))))) bnil)
      (bcons (sset (i := 3) sc__law_stretch.nd rfl (Or.inl rfl) (eix ix_Q (elstQ (acons ei (acons (eop op_add ei (ecall C__law_draw (hr.mono (by decide)) rfl (acons (ev 0) (acons ei anil)))) (acons (eop op_add ei (ecall C__law_draw (hr.mono (by decide)) rfl (acons (ev 0) (acons (epowc 1000000000) anil)))) anil)))) (eop op_mod (ev 1) ei) (fun _ _ => rfl)))
      (bone (sret (etupQ (acons (ev 2) (acons (ecallB (call_min2 rfl) rfl B.min bt_min (acons (epowc 1000000000000) (acons (eop op_add (ev 2) (ev 3)) anil))) anil)))))))))), ?_⟩
  try walk_at "rn"
  refine ⟨p, _, _, _, 8, rfl, hp, by decide, by omega, fun way x y z H1 w0 w1 g1 k1 => ?_⟩
  try walk_at "rn"
  refine ⟨p, _, _, _, rfl, g1, fun k x y z H2 hk g2 k2 => ?_⟩
  unfold okKey at hk
  have k12 := k1.trans k2
  try walk_at "rn"
  refine ite2 (fun c => fun b3 n3 => ?_) (fun c => ?_)
  · exact q b3 0 1000000000000 _ _ _ _ (by unfold okSt; omega) tupQ_updT ((Ext.new n3).at g2) (k12.trans (Ext.new n3).kp)
  refine ite2 (fun c => fun b3 n3 => ?_) (fun c => ?_)
  · exact q b3 k 1000000000000 _ _ _ _ (by unfold okSt; omega) tupQ_updT ((Ext.new n3).at g2) (k12.trans (Ext.new n3).kp)
  refine ⟨p, _, _, _, 20, rfl, g2, by decide, by omega, fun d x y z H3 d0 _ g3 k3 => ?_⟩
  try walk_at "rn"
  refine ⟨p, _, _, _, _, rfl, g3, by decide, by omega, fun d' x y z H4 d0' _ g4 k4 => ?_⟩
  try walk_at "rn"
  intro b5 n5
  obtain ⟨v, ev, mv⟩ := atI_in (xs := [V.int 1, V.int (1 + d), V.int (1 + d')]) (k := way % 3) (by omega) (by show way % 3 < 3; omega)
  obtain ⟨fa, rfl, hfa⟩ : ∃ n : Int, v = .int n ∧ 1 ≤ n := by
    simp only [List.mem_cons, List.not_mem_nil, or_false] at mv
    rcases mv with rfl | rfl | rfl
    · exact ⟨_, rfl, by decide⟩
    · exact ⟨_, rfl, by omega⟩
    · exact ⟨_, rfl, by omega⟩
  refine ⟨_, ev, ?_⟩
  try walk_at "rn"
  intro b6 n6
  have x6 := (Ext.new (K := K) (o := .lst [.int 1, .int (1 + d), .int (1 + d')]) n5)
  exact q b6 k _ _ _ _ _ (by unfold okSt; omega) tupQ_updT ((x6.trans (Ext.new n6)).at g4) (k12.trans (k3.trans (k4.trans (x6.trans (Ext.new n6)).kp)))
def words8 : List Str := ["put", "drop", "add", "wipe", "raise", "level", "mark", "forget"]
def spDeedL (K : PySem.W.Frag) : Sp := fun vs H Q _ => ∃ p x y z, vs = [.ref p] ∧ H p = some (L3 x y z) ∧ ∀ (b : Addr) (k : Kd) (us : List Int) (x y z : Int) (H' : Hp), k.ok us → sm us → tupQ K H' b = some (k.told us) → H' p = some (L3 x y z) → Kp K p H H' → Q (.ref b) H'
theorem told_cut {x : Str} {ns : List Int} {i : Int} (h : 1 ≤ i) : cutV (.str x :: ns.map V.int) none (some i) = .str x :: (ns.take (i.toNat - 1)).map V.int := by
  obtain ⟨k, rfl⟩ : ∃ k : Nat, i = (k : Int) := ⟨i.toNat, by omega⟩
  rw [cutV_to]
  obtain ⟨j, rfl⟩ : ∃ j : Nat, k = j + 1 := ⟨k - 1, by omega⟩
  rw [List.take_succ_cons, List.map_take]
  rfl
theorem sc__law_deed : FnScope ["_law_well_here", "_law_way", "_law_word_here", "_law_low", "_law_high"] ["_law_well_here"] (defScope s__law_deed) := ⟨rfl, rfl, rfl, by decide +kernel, rfl, by decide +kernel, by decide +kernel⟩
theorem ok__law_deed {f : Addr} {fd : FuncData} (F : Fun K "_law_deed" "_law_deed" s__law_deed f fd) {aTh cF cD cK cS cM cA cP : Addr} {tE tM tN tF u1 u2 u3 u4 u5 u6 u7 u8 : Tok} (B : B P w K mg aTh cF cD cK cS cM cA cP tE tM tN tF u1 u2 u3 u4 u5 u6 u7 u8) (C__law_draw : Callee P w K mg base "_law_draw" 1 ["_law_well_here", "_law_many"] (spDraw K)) (C__law_key : Callee P w K mg base "_law_key" 2 ["_law_well_here"] (spInt K okKey)) (C__law_amount : Callee P w K mg base "_law_amount" 2 ["_law_well_here"] (spInt K okAm)) (C__law_stretch : Callee P w K mg base "_law_stretch" 3 ["_law_well_here"] (spPair K)) : FnOk P w K mg base CX0 4 f fd ["_law_well_here"] (spDeedL K) := by
  refine F.okJ sc__law_deed (fun vs H Q E h => ?_) (fun cdv A outer s H vs Q E hr h => ?_)
  · obtain ⟨p, x, y, z, rfl, _⟩ := h
    rfl
  obtain ⟨p, x, y, z, rfl, hp, q⟩ := h
  refine ⟨_, (bcons (sset (i := 1) sc__law_deed.nd rfl (Or.inl rfl) (ecall C__law_draw (hr.mono (by decide)) rfl (acons (ev 0) (acons ei anil))))
      (bcons (sset (i := 2) sc__law_deed.nd rfl (Or.inl rfl) (eix ix_Q (elstQ (acons estr (acons estr (acons estr (acons estr (acons estr (acons estr (acons estr (acons estr anil))))))))) (ev 1) (fun _ _ => rfl)))
      (bcons (sif (tcmp op_lt (ev 1) ei (nomark _)) (bone (sret (eslice sl_tupX (etupQ (acons (ev 2) (acons (ecall C__law_key (hr.mono (by decide)) rfl (acons (ev 0) anil)) (acons (ecall C__law_amount (hr.mono (by decide)) rfl (acons (ev 0) anil)) anil)))) onone (osome (eix ix_Q (elstQ (acons ei (acons ei (acons ei anil)))) (ev 1) (fun _ _ => rfl)))))) bnil)
      (bcons (sif (tcmp op_lt (ev 1) ei (nomark _)) (bcons (sasg (ecall C__law_stretch (hr.mono (by decide)) rfl (acons (ev 0) anil)) (gtupQ (n := 2) rfl (gcons (gname (i := 3) sc__law_deed.nd rfl (Or.inl rfl)) (gcons (gname (i := 4) sc__law_deed.nd rfl (Or.inl rfl)) gnil))))
      (bone (sret (eslice sl_tupX (etupQ (acons (ev 2) (acons (ev 3) (acons (ev 4) (acons (ecall C__law_amount (hr.mono (by decide)) rfl (acons (ev 0) anil)) anil))))) onone (osome (eix ix_Q (elstQ (acons ei (acons ei (acons ei anil)))) (eop op_sub (ev 1) ei) (fun _ _ => rfl))))))) bnil)
      (bone (sret (eslice sl_tupX (etupQ (acons (ev 2) (acons (eop op_add ei (ecall C__law_draw (hr.mono (by decide)) rfl (acons (ev 0) (acons (eix ix_Q (elstQ (acons ei (acons ei (acons (epowc 1000000000) anil)))) (ecall C__law_draw (hr.mono (by decide)) rfl (acons (ev 0) (acons ei anil))) (fun _ _ => rfl)) anil)))) anil))) onone (osome (eop op_sub (ev 1) ei))))))))), ?_⟩
  try walk_at "rn"
  refine ⟨p, _, _, _, 8, rfl, hp, by decide, by omega, fun way x y z H1 w0 w1 g1 k1 => ?_⟩
  try walk_at "rn"
  intro b1 n1
  have x1 := Ext.new (K := K) (o := .lst (words8.map V.str)) n1
  obtain ⟨v, ev, mv⟩ := atI_in (xs := words8.map V.str) w0 w1
  obtain ⟨wd, mw, rfl⟩ := List.mem_map.mp mv
  refine ⟨_, ev, ?_⟩
  try walk_at "rn"
  refine ite2 (fun c => ?_) (fun c => ?_)
  · refine ⟨p, _, _, _, rfl, x1.at g1, fun k x y z H2 hk g2 k2 => ?_⟩
    refine ⟨p, _, _, _, rfl, g2, fun a x y z H3 ha g3 k3 => ?_⟩
    intro b4 n4 b5 n5
    have x4 := Ext.new (K := K) (o := .tup [V.str wd, V.int k, V.int a]) n4
    have x5 := Ext.new (K := K) (o := .lst [V.int 3, V.int 2, V.int 3]) n5
    rcases (by omega : way = 0 ∨ way = 1 ∨ way = 2) with rfl | rfl | rfl
    · cases (show V.str wd = V.str "put" from Option.some.inj (ev.symm.trans rfl))
      refine ⟨_, rfl, 3, rfl, _, x5.tup tupQ_updT, fun b6 H6 t6 x6 => ?_⟩
      rw [show [V.str "put", V.int k, V.int a] = .str "put" :: [k, a].map V.int from rfl, told_cut (by decide)] at t6
      exact q b6 .put [k, a] _ _ _ _ ⟨k, a, rfl, hk, ha⟩ (sm_of (k := .put) ⟨k, a, rfl, hk, ha⟩ (by decide)) t6 ((x4.trans (x5.trans x6)).at g3) (k1.trans (x1.kp.trans (k2.trans (k3.trans (x4.trans (x5.trans x6)).kp))))
    · cases (show V.str wd = V.str "drop" from Option.some.inj (ev.symm.trans rfl))
      refine ⟨_, rfl, 2, rfl, _, x5.tup tupQ_updT, fun b6 H6 t6 x6 => ?_⟩
      rw [show [V.str "drop", V.int k, V.int a] = .str "drop" :: [k, a].map V.int from rfl, told_cut (by decide)] at t6
      exact q b6 .drop [k] _ _ _ _ ⟨k, rfl, hk⟩ (sm_of (k := .drop) ⟨k, rfl, hk⟩ (by decide)) t6 ((x4.trans (x5.trans x6)).at g3) (k1.trans (x1.kp.trans (k2.trans (k3.trans (x4.trans (x5.trans x6)).kp))))
    · cases (show V.str wd = V.str "add" from Option.some.inj (ev.symm.trans rfl))
      refine ⟨_, rfl, 3, rfl, _, x5.tup tupQ_updT, fun b6 H6 t6 x6 => ?_⟩
      rw [show [V.str "add", V.int k, V.int a] = .str "add" :: [k, a].map V.int from rfl, told_cut (by decide)] at t6
      exact q b6 .add [k, a] _ _ _ _ ⟨k, a, rfl, hk, ha⟩ (sm_of (k := .add) ⟨k, a, rfl, hk, ha⟩ (by decide)) t6 ((x4.trans (x5.trans x6)).at g3) (k1.trans (x1.kp.trans (k2.trans (k3.trans (x4.trans (x5.trans x6)).kp))))
  refine ite2 (fun c => ?_) (fun c => ?_)
  · refine ⟨p, _, _, _, rfl, x1.at g1, fun b m n x y z H2 hs t2 g2 k2 => ⟨b, rfl, _, t2, rfl, _, _, rfl, _, _, rfl, rfl, ?_⟩⟩
    refine ⟨p, _, _, _, rfl, g2, fun a x y z H3 ha g3 k3 => ?_⟩
    intro b4 n4 b5 n5
    have x4 := Ext.new (K := K) (o := .tup [V.str wd, V.int m, V.int n, V.int a]) n4
    have x5 := Ext.new (K := K) (o := .lst [V.int 3, V.int 4, V.int 4]) n5
    rcases (by omega : way = 3 ∨ way = 4 ∨ way = 5) with rfl | rfl | rfl
    · cases (show V.str wd = V.str "wipe" from Option.some.inj (ev.symm.trans rfl))
      refine ⟨_, rfl, 3, rfl, _, x5.tup tupQ_updT, fun b6 H6 t6 x6 => ?_⟩
      rw [show [V.str "wipe", V.int m, V.int n, V.int a] = .str "wipe" :: [m, n, a].map V.int from rfl, told_cut (by decide)] at t6
      exact q b6 .wipe [m, n] _ _ _ _ ⟨m, n, rfl, hs⟩ (sm_of (k := .wipe) ⟨m, n, rfl, hs⟩ (by decide)) t6 ((x4.trans (x5.trans x6)).at g3) (k1.trans (x1.kp.trans (k2.trans (k3.trans (x4.trans (x5.trans x6)).kp))))
    · cases (show V.str wd = V.str "raise" from Option.some.inj (ev.symm.trans rfl))
      refine ⟨_, rfl, 4, rfl, _, x5.tup tupQ_updT, fun b6 H6 t6 x6 => ?_⟩
      rw [show [V.str "raise", V.int m, V.int n, V.int a] = .str "raise" :: [m, n, a].map V.int from rfl, told_cut (by decide)] at t6
      exact q b6 .raise [m, n, a] _ _ _ _ ⟨m, n, a, rfl, hs, ha⟩ (sm_of (k := .raise) ⟨m, n, a, rfl, hs, ha⟩ (by decide)) t6 ((x4.trans (x5.trans x6)).at g3) (k1.trans (x1.kp.trans (k2.trans (k3.trans (x4.trans (x5.trans x6)).kp))))
    · cases (show V.str wd = V.str "level" from Option.some.inj (ev.symm.trans rfl))
      refine ⟨_, rfl, 4, rfl, _, x5.tup tupQ_updT, fun b6 H6 t6 x6 => ?_⟩
      rw [show [V.str "level", V.int m, V.int n, V.int a] = .str "level" :: [m, n, a].map V.int from rfl, told_cut (by decide)] at t6
      exact q b6 .level [m, n, a] _ _ _ _ ⟨m, n, a, rfl, hs, ha⟩ (sm_of (k := .level) ⟨m, n, a, rfl, hs, ha⟩ (by decide)) t6 ((x4.trans (x5.trans x6)).at g3) (k1.trans (x1.kp.trans (k2.trans (k3.trans (x4.trans (x5.trans x6)).kp))))
  · have ev0 := ev
    intro b2 n2
    have x2 := Ext.new (K := K) (o := .lst [V.int 4, V.int 300, V.int 1000000000]) n2
    have m2 : b2 ≠ p := (ne_of_none (x1.at g1) n2.1).symm
    refine ⟨p, _, _, _, 3, rfl, (x1.trans x2).at g1, by decide, by omega, fun r x y z H3 r0 r1 g3 k3 => ⟨_, rfl, _, seqQ_lst (k3.keep b2 _ upd_same m2), ?_⟩⟩
    obtain ⟨v, ev, mv⟩ := atI_in (xs := [V.int 4, V.int 300, V.int 1000000000]) r0 r1
    obtain ⟨m, rfl, hm0, hm1⟩ : ∃ n, v = V.int n ∧ 0 < n ∧ n ≤ 1000000000 := by
      simp only [List.mem_cons, List.not_mem_nil, or_false] at mv
      rcases mv with rfl | rfl | rfl <;> exact ⟨_, rfl, by decide, by decide⟩
    refine ⟨_, ev, p, _, _, _, m, rfl, g3, hm0, by omega, fun t x y z H4 t0 t1 g4 k4 => ⟨_, rfl, fun b5 n5 b6 H6 t6 x6 => ?_⟩⟩
    have x5 := Ext.new (K := K) (o := .tup [V.str wd, V.int (1 + t)]) n5
    rw [show [V.str wd, V.int (1 + t)] = .str wd :: [1 + t].map V.int from rfl, told_cut (by omega)] at t6
    rcases (by omega : way = 6 ∨ way = 7) with rfl | rfl
    · cases (show V.str wd = V.str "mark" from Option.some.inj (ev0.symm.trans rfl))
      exact q b6 .mark [] _ _ _ _ rfl (by intro i hi; cases hi) t6 ((x5.trans x6).at g4) (k1.trans (x1.kp.trans (x2.kp.trans (k3.trans (k4.trans (x5.trans x6).kp)))))
    · cases (show V.str wd = V.str "forget" from Option.some.inj (ev0.symm.trans rfl))
      exact q b6 .forget [1 + t] _ _ _ _ ⟨_, rfl, by omega⟩ (by intro i hi; rw [List.mem_singleton.mp hi]; omega) t6 ((x5.trans x6).at g4) (k1.trans (x1.kp.trans (x2.kp.trans (k3.trans (k4.trans (x5.trans x6).kp)))))
end
theorem slice_from {x : Str} {n : Nat} (h : n ≤ x.length) : (Txt.slice x (some (n : Int)) none).cps.toList = x.cps.toList.drop n := by
  have e : Txt.slice x (some (n : Int)) none = StrLaws.sliceText x (some (n : Int)) none := rfl
  rw [e, StrLaws.sliceText_from ⟨by omega, by rw [str_len] at h; omega⟩]
  simp
  exact List.take_of_length_le (by simp)
theorem head_minus (t : Str) : Txt.slice t none (some 1) = Str.ofString "-" ↔ t.cps.toList.head? = some 45 := by
  by_cases h : 1 ≤ t.length
  · have e := slice_to (x := t) (n := 1) h
    constructor
    · intro z
      have : t.cps.toList.take 1 = [45] := by rw [← e]; show (Txt.slice t none (some 1)).cps.toList = _; rw [z]; decide +kernel
      cases q : t.cps.toList with
      | nil => rw [q] at this; cases this
      | cons c r => rw [q] at this; simpa using this
    · intro z
      refine str_ext ?_
      show (Txt.slice t none (some ((1 : Nat) : Int))).cps.toList = _
      rw [e]
      cases q : t.cps.toList with
      | nil => rw [q] at z; cases z
      | cons c r => rw [q] at z; simp only [List.head?_cons, Option.some.injEq] at z; subst z; simp [minus_cps]
  · have h0 : t.length = 0 := by omega
    have e : t.cps.toList = [] := by rw [str_len] at h0; exact List.eq_nil_of_length_eq_zero h0
    constructor
    · intro z
      have := Txt.slice_le t none (some 1)
      rw [z, h0] at this
      exact absurd this (by decide +kernel)
    · intro z; rw [e] at z; cases z
theorem bare_from (t : Str) : (Txt.slice t (some (if t.cps.toList.head? = some 45 then 1 else 0)) none).cps.toList = bareL t.cps.toList := by
  split
  · rename_i h
    cases q : t.cps.toList with
    | nil => rw [q] at h; cases h
    | cons c r =>
      rw [q] at h
      simp only [List.head?_cons, Option.some.injEq] at h
      subst h
      have := slice_from (x := t) (n := 1) (by rw [str_len, q]; simp)
      rw [q] at this
      exact this
  · rename_i h
    rw [bareL_ne h]
    exact slice_from (x := t) (n := 0) (by omega)
theorem bare_is (t : Str) : ∃ b : Str, Txt.slice t (some (if Txt.slice t none (some 1) = Str.ofString "-" then 1 else 0)) none = b ∧ b.cps.toList = bareL t.cps.toList := by
  refine ⟨_, rfl, ?_⟩
  rw [← bare_from t]
  simp only [head_minus]
theorem signs_of (c : Nat) : Txt.contains (Str.ofString "0123456789") ⟨#[c]⟩ = isFig c := by
  show (!(Builtin.Str.occurrences (Str.ofString "0123456789") ⟨#[c]⟩ 0 (Str.ofString "0123456789").length 1).isEmpty) = _
  rw [StrLaws.found_one, show (Str.ofString "0123456789").cps.toList = [48, 49, 50, 51, 52, 53, 54, 55, 56, 57] from by decide +kernel]
  unfold isFig
  rw [Bool.eq_iff_iff]
  simp only [List.mem_cons, List.not_mem_nil, or_false, decide_eq_true_eq, Bool.and_eq_true]
  omega
section
variable {P : Program} {w : World} {K : PySem.W.Frag} {mg : Str → Option Value} {base : Heap}
def spWholeL : Sp := fun vs H Q _ => ∃ i lo hi, vs = [.int i, .int lo, .int hi] ∧ Q (.bl (decide (lo ≤ i ∧ i ≤ hi))) H
theorem sc__law_whole : FnScope ["_law_thing", "_law_low", "_law_high"] ["_law_thing", "_law_low", "_law_high"] (defScope s__law_whole) := ⟨rfl, rfl, rfl, by decide +kernel, rfl, by decide +kernel, by decide +kernel⟩
theorem ok__law_whole {f : Addr} {fd : FuncData} (F : Fun K "_law_whole" "_law_whole" s__law_whole f fd) {aTh cF cD cK cS cM cA cP : Addr} {tE tM tN tF u1 u2 u3 u4 u5 u6 u7 u8 : Tok} (B : B P w K mg aTh cF cD cK cS cM cA cP tE tM tN tF u1 u2 u3 u4 u5 u6 u7 u8) : FnOk P w K mg base CX0 1 f fd ["_law_thing", "_law_low", "_law_high"] spWholeL := by
  refine F.okJ sc__law_whole (fun vs H Q E h => ?_) (fun cdv A outer s H vs Q E hr h => ?_)
  · obtain ⟨i, lo, hi, rfl, _⟩ := h
    rfl
  obtain ⟨i, lo, hi, rfl, q⟩ := h
  refine ⟨_, (bone (sret (eand (ecallB call_isinstQ rfl B.isinstance bt_isinstance (acons (ev 0) (acons (etyp rfl B.int bt_int) anil))) (eone (echain op_le op_le (ev 1) (ev 0) (ev 2)))))), ?_⟩
  try walk_at "rn"
  refine ⟨_, .inl (.int _), true, rfl, iteT' rfl ?_⟩
  split
  · rename_i c
    simp only [c, true_and] at q
    exact q
  · rename_i c
    simp only [c, false_and, decide_false] at q
    exact q
def spNumL (K : PySem.W.Frag) : Sp := fun vs H Q _ => ∃ t : Str, vs = [.str t] ∧ t.length ≤ 10000000 ∧ ∀ H', Ext K H H' → Q (on (readFig t)) H'
theorem sc__law_number : FnScope ["_law_word_here", "_law_figures"] ["_law_word_here"] (defScope s__law_number) := ⟨rfl, rfl, rfl, by decide +kernel, rfl, by decide +kernel, by decide +kernel⟩
theorem ok__law_number {f : Addr} {fd : FuncData} (F : Fun K "_law_number" "_law_number" s__law_number f fd) {aTh cF cD cK cS cM cA cP : Addr} {tE tM tN tF u1 u2 u3 u4 u5 u6 u7 u8 : Tok} (B : B P w K mg aTh cF cD cK cS cM cA cP tE tM tN tF u1 u2 u3 u4 u5 u6 u7 u8) : FnOk P w K mg base CX0 1 f fd ["_law_word_here"] (spNumL K) := by
  refine F.okJ sc__law_number (fun vs H Q E h => ?_) (fun cdv A outer s H vs Q E hr h => ?_)
  · obtain ⟨t, rfl, _⟩ := h
    rfl
  obtain ⟨t, rfl, ht, q⟩ := h
  refine ⟨_, (bcons (sset (i := 1) sc__law_number.nd rfl (Or.inl rfl) (eslice sl_str (ev 0) (osome (ecallTy call_intB rfl B.int bt_int (acons (ecmp op_eq (eslice sl_str (ev 0) onone (osome ei)) estr (nomark _)) anil))) onone))
      (bcons (sif (tw (wor (tcmp op_eq (ev 1) estr (nomark _)) (wor1 (tcmp op_gt (ecallB call_len_str rfl B.len bt_len (acons (ev 1) anil)) ei (nomark _))))) (bone (sret enon)) bnil)
      (bcons (sif (tcmp (op_neE (Nat.lt_of_le_of_lt (Nat.le_add_right _ 64) hr.units)) (elc (Cap.mk (N := ["_law_sign_here"]) (src := [none]) rfl rfl) rfl (itext (ev 1)) (fun _ _ _ _ => (gname (i := 0) (show (["_law_sign_here"] : List Str).Nodup from by decide +kernel) rfl (Or.inl rfl))) (fun _ _ _ _ => (fone (tcmp op_notInS (ev 0) estr (by with_unfolding_all rfl)))) (fun _ _ _ _ => (ev 0))) (elstQ anil) (nomark _)) (bone (sret enon)) bnil)
      (bcons (sif (tw (wand (tcmp op_eq (eix ix_str (ev 1) ei (fun _ _ => rfl)) estr (nomark _)) (wand1 (tcmp op_ne (ev 0) estr (nomark _))))) (bone (sret enon)) bnil)
      (bone (sret (ecallTy call_intT rfl B.int bt_int (acons (ev 0) anil)))))))), ?_⟩
  try walk_at "rn"
  obtain ⟨b, eb, hb⟩ := bare_is t
  rw [eb]
  have hl : b.length = (bareL t.cps.toList).length := by rw [str_len, hb]
  have hle := bareL_le t.cps.toList
  have htl : t.length = t.cps.toList.length := by simp [Str.length]
  refine ⟨by omega, by omega, ?_⟩
  have nil_iff : b = Str.ofString "" ↔ bareL t.cps.toList = [] := by
    rw [← hb]
    exact ⟨fun z => by rw [z]; decide +kernel, fun z => str_ext (by rw [z]; decide +kernel)⟩
  unfold readFig at q
  refine ite2 (fun c => ?_) (fun c => ?_)
  · have := q H Ext.refl
    rw [if_neg (by unfold figL; rw [nil_iff.mp c]; simp)] at this
    exact this
  refine ⟨by omega, ite2 (fun d => ?_) (fun d => ?_)⟩
  · have := q H Ext.refl
    rw [if_neg (by unfold figL; rw [decide_eq_false (show ¬ (bareL t.cps.toList).length ≤ 60 by omega)]; simp)] at this
    exact this
  have ne : bareL t.cps.toList ≠ [] := fun z => c (nil_iff.mpr z)
  intro D nD
  refine lc_signs (p := fun c => !isFig c) nD (by omega) (fun c hc H' R r => ?_) (fun c hc H' R r => ?_) (fun H' hD x' => ?_)
  · try walk_at "rn"
    rw [signs_of]
    exact r
  · try walk_at "rn"
    exact r
  intro p np
  refine ⟨_, (Ext.new np).same.seq (SqL.of hD), SqL.of upd_same, ?_⟩
  have xx := x'.trans (Ext.new (K := K) (o := .lst []) np)
  have key : (!((b.cps.toList.filter fun c => !isFig c).map fun c => V.str ⟨#[c]⟩).isEmpty) = !((bareL t.cps.toList).all isFig) := by
    rw [hb]
    congr 1
    rw [Bool.eq_iff_iff, List.isEmpty_iff, List.map_eq_nil_iff, List.filter_eq_nil_iff, List.all_eq_true]
    simp
  rw [key]
  have ca0 : (!(bareL t.cps.toList).isEmpty) = true := by simp [ne]
  have ca2 : decide ((bareL t.cps.toList).length ≤ 60) = true := decide_eq_true (by omega)
  cases ca1 : (bareL t.cps.toList).all isFig with
  | false =>
    refine iteT' (by decide) ?_
    have := q _ xx
    rw [if_neg (by unfold figL; rw [ca1]; simp)] at this
    exact this
  | true =>
    refine iteF' (by decide) ⟨by omega, ?_⟩
    have fin : figL t.cps.toList = true → ∃ x, intText? t = some x ∧ t.length ≤ 640 ∧ Q (V.int x) (upd H' p (.lst [])) := fun hf => by
      have := q _ xx
      rw [if_pos hf] at this
      exact ⟨_, fig_int hf, by have := fig_len hf; omega, this⟩
    rw [hb]
    cases e : bareL t.cps.toList with
    | nil => exact absurd e ne
    | cons c r =>
      refine ⟨c, atI_0, ?_⟩
      by_cases hc : c = 48
      · rw [if_pos (str_one.mpr hc)]
        by_cases hz : t = Str.ofString "0"
        · rw [decide_eq_true hz]
          exact iteF' (by decide) (fin (by unfold figL; rw [ca0, ca1, ca2, is_zero.mpr hz]; decide))
        · rw [decide_eq_false hz]
          refine iteT' (by decide) ?_
          have := q _ xx
          rw [if_neg (by unfold figL; rw [ca0, ca1, ca2, e, hc]; simp [show t.cps.toList ≠ [48] from fun z => hz (is_zero.mp z)])] at this
          exact this
      · rw [if_neg (fun z => hc (str_one.mp z))]
        exact fin (by unfold figL; rw [ca0, ca1, ca2, e]; simp [hc])
end
def Kd.ix : Kd → Nat
  | .put => 0
  | .drop => 1
  | .add => 2
  | .wipe => 3
  | .raise => 4
  | .level => 5
  | .mark => 6
  | .forget => 7
theorem ix_word (k : Kd) : words8[k.ix]? = some k.word := by cases k <;> rfl
theorem ix_first (k : Kd) : ∀ m, m < k.ix → words8[m]? ≠ some k.word := by
  have : ∀ k : Kd, ∀ m : Fin 8, m.val < k.ix → words8[m.val]? ≠ some k.word := by intro k; cases k <;> decide +kernel
  intro m hm
  exact this k ⟨m, by have : k.ix < 8 := by { cases k <;> decide }; omega⟩ hm
theorem ix_len (k : Kd) : atI [V.int 3, V.int 2, V.int 3, V.int 3, V.int 4, V.int 4, V.int 1, V.int 2] (k.ix : Int) = some (.int ((k.names.length : Int) + 1)) := by cases k <;> rfl
theorem in_words {x : Str} : inV (.str x) (words8.map V.str) = true ↔ ∃ k : Kd, x = k.word := by
  unfold inV
  rw [List.any_eq_true]
  constructor
  · rintro ⟨y, hy, e⟩
    obtain ⟨z, hz, rfl⟩ := List.mem_map.mp hy
    have e : z = x := by simpa [eqV] using e
    subst e
    simp only [words8, List.mem_cons, List.not_mem_nil, or_false] at hz
    rcases hz with rfl | rfl | rfl | rfl | rfl | rfl | rfl | rfl
    · exact ⟨.put, rfl⟩
    · exact ⟨.drop, rfl⟩
    · exact ⟨.add, rfl⟩
    · exact ⟨.wipe, rfl⟩
    · exact ⟨.raise, rfl⟩
    · exact ⟨.level, rfl⟩
    · exact ⟨.mark, rfl⟩
    · exact ⟨.forget, rfl⟩
  · rintro ⟨k, rfl⟩
    exact ⟨.str k.word, List.mem_map.mpr ⟨_, List.mem_of_getElem? (ix_word k), rfl⟩, by simp [eqV]⟩
theorem flat_strs (l : List Str) : (l.map V.str).all flatV = true := by
  rw [List.all_eq_true]
  intro v hv
  obtain ⟨t, _, rfl⟩ := List.mem_map.mp hv
  rfl
theorem flat_on (l : List (Option Int)) : (l.map on).all flatV = true := by
  rw [List.all_eq_true]
  intro v hv
  obtain ⟨t, _, rfl⟩ := List.mem_map.mp hv
  cases t <;> rfl
theorem none_in : ∀ os : List (Option Int), (inV .non (os.map on) = true ∧ ∀ us : List Int, os ≠ us.map some) ∨ (inV .non (os.map on) = false ∧ ∃ us : List Int, os = us.map some)
  | [] => .inr ⟨rfl, [], rfl⟩
  | none :: os => .inl ⟨rfl, fun us e => by cases us <;> cases e⟩
  | some i :: os => by
    have e : inV .non ((some i :: os).map on) = inV .non (os.map on) := by simp [inV, on, eqV]
    rw [e]
    rcases none_in os with ⟨h1, h2⟩ | ⟨h1, us, rfl⟩
    · exact .inl ⟨h1, fun us z => by
        cases us with
        | nil => cases z
        | cons u us => exact h2 us (List.cons.inj z).2⟩
    · exact .inr ⟨h1, i :: us, rfl⟩
section
variable {P : Program} {w : World} {K : PySem.W.Frag} {mg : Str → Option Value} {base : Heap}
def spRead (K : PySem.W.Frag) : Sp := fun vs H Q _ => ∃ v, vs = [v] ∧ ((∃ t : Str, v = .str t ∧ t.length ≤ 10000000 ∧
  (∀ (k : Kd) us, pX t = k.word → pO t = us.map some → k.ok us → ∀ b H', Ext K H H' → tupQ K H' b = some (k.told us) → Q (.ref b) H') ∧ (¬ IsD (pX t) (pO t) → ∀ H', Ext K H H' → Q .non H')) ∨ (NoStr K H v ∧ Q .non H))
theorem sc__law_read : FnScope ["_law_text", "_law_parts", "_law_words", "_law_way", "_law_numbers"] ["_law_text"] (defScope s__law_read) := ⟨rfl, rfl, rfl, by decide +kernel, rfl, by decide +kernel, by decide +kernel⟩
theorem ok__law_read {f : Addr} {fd : FuncData} (F : Fun K "_law_read" "_law_read" s__law_read f fd) {aTh cF cD cK cS cM cA cP : Addr} {tE tM tN tF u1 u2 u3 u4 u5 u6 u7 u8 : Tok} (B : B P w K mg aTh cF cD cK cS cM cA cP tE tM tN tF u1 u2 u3 u4 u5 u6 u7 u8) (C__law_number : Callee P w K mg base "_law_number" 1 ["_law_word_here"] (spNumL K)) (C__law_whole : Callee P w K mg base "_law_whole" 1 ["_law_thing", "_law_low", "_law_high"] spWholeL) : FnOk P w K mg base CX0 2 f fd ["_law_text"] (spRead K) := by
  refine F.okJ sc__law_read (fun vs H Q E h => ?_) (fun cdv A outer s H vs Q E hr h => ?_)
  · obtain ⟨v, rfl, _⟩ := h
    rfl
  obtain ⟨v, rfl, h⟩ := h
  refine ex_seal (rest := (defBody s__law_read).drop 10) (bone (sret (ecallTy call_tuple_ofQ rfl B.tuple bt_tuple (acons (eop op_catQ (elstQ (acons (eix ix_Q (ev 1) ei (fun _ _ => rfl)) anil)) (ev 4)) anil)))) fun r10 J10 e10 => ?_
  refine ex_seal (rest := (defBody s__law_read).drop 9) (bcons (sif (tw (wand (tcmp op_inQ (ev 3) (elstQ (acons ei (acons ei (acons ei (acons ei anil))))) (by with_unfolding_all rfl)) (wand1 (tnot (tval (ecall C__law_whole (hr.mono (by decide)) rfl (acons (eix ix_Q (ev 4) (eun un_neg ei) (fun _ _ => rfl)) (acons (eop op_sub ei (epowc 1000000000000000000000000000000)) (acons (epowc 1000000000000000000000000000000) anil))))))))) (bone (sret enon)) bnil)
      J10) fun r9 J9 e9 => ?_
  refine ex_seal (rest := (defBody s__law_read).drop 8) (bcons (sif (tw (wand (tchain op_lt op_lt ei (ev 3) ei) (wand1 (tnot (tval (ecall C__law_whole (hr.mono (by decide)) rfl (acons (eix ix_Q (ev 4) ei (fun _ _ => rfl)) (acons (eop op_add (eix ix_Q (ev 4) ei (fun _ _ => rfl)) ei) (acons (epowc 1000000000000) anil))))))))) (bone (sret enon)) bnil)
      J9) fun r8 J8 e8 => ?_
  refine ex_seal (rest := (defBody s__law_read).drop 7) (bcons (sif (tw (wand (tcmp op_lt (ev 3) ei (nomark _)) (wand1 (tnot (tval (ecall C__law_whole (hr.mono (by decide)) rfl (acons (eix ix_Q (ev 4) ei (fun _ _ => rfl)) (acons ei (acons (eop op_sub (epowc 1000000000000) ei) anil))))))))) (bone (sret enon)) bnil)
      J8) fun r7 J7 e7 => ?_
  refine ex_seal (rest := (defBody s__law_read).drop 6) (bcons (sif (tw (wor (tcmp op_inQ enon (ev 4) (by with_unfolding_all rfl)) (wor1 (tw (wand (tcmp op_eq (ev 3) ei (nomark _)) (wand1 (tcmp op_lt (eix ix_Q (ev 4) ei (fun _ _ => rfl)) ei (nomark _)))))))) (bone (sret enon)) bnil)
      J7) fun r6 J6 e6 => ?_
  refine ex_seal (rest := (defBody s__law_read).drop 5) (bcons (slc (i := 4) sc__law_read.nd rfl (Or.inl rfl) (Cap.mk (N := ["_law_one"]) (src := [none]) rfl rfl) rfl (ilist (eslice sl_listQ (ev 1) (osome ei) onone)) (fun _ _ _ _ => (gname (i := 0) (show (["_law_one"] : List Str).Nodup from by decide +kernel) rfl (Or.inl rfl))) (fun _ _ _ _ => fnone) (fun _ _ _ _ => (ecall C__law_number (hr.mono (by decide)) rfl (acons (ev 0) anil))))
      J6) fun r5 J5 e5 => ?_
  refine ex_seal (rest := (defBody s__law_read).drop 4) (bcons (sset (i := 3) sc__law_read.nd rfl (Or.inl rfl) (ebm PySem.F.plainAttrs_list PySem.F.slot_list_index PySem.F.type_list_index mt_indexS (ev 2) (acons (eix ix_Q (ev 1) ei (fun _ _ => rfl)) anil)))
      J5) fun r4 J4 e4 => ?_
  refine ex_seal (rest := (defBody s__law_read).drop 3) (bcons (sif (tw (wor (tcmp op_notInQ (eix ix_Q (ev 1) ei (fun _ _ => rfl)) (ev 2) (by with_unfolding_all rfl)) (wor1 (tcmp op_ne (ecallB call_lenQ rfl B.len bt_len (acons (ev 1) anil)) (eix ix_Q (elstQ (acons ei (acons ei (acons ei (acons ei (acons ei (acons ei (acons ei (acons ei anil))))))))) (ebm PySem.F.plainAttrs_list PySem.F.slot_list_index PySem.F.type_list_index mt_indexS (ev 2) (acons (eix ix_Q (ev 1) ei (fun _ _ => rfl)) anil)) (fun _ _ => rfl)) (nomark _))))) (bone (sret enon)) bnil)
      J4) fun r3 J3 e3 => ?_
  refine ⟨_, (bcons (sif (tnot (tval (ecallB call_isinstQ rfl B.isinstance bt_isinstance (acons (ev 0) (acons (etyp rfl B.str bt_str) anil))))) (bone (sret enon)) bnil)
      (bcons (sset (i := 1) sc__law_read.nd rfl (Or.inl rfl) (ebm PySem.F.plainAttrs_str PySem.F.slot_str_split PySem.F.type_str_split mt_split (ev 0) (acons estr anil)))
      (bcons (sset (i := 2) sc__law_read.nd rfl (Or.inl rfl) (elstQ (acons estr (acons estr (acons estr (acons estr (acons estr (acons estr (acons estr (acons estr anil))))))))))
      J3))), ?_⟩
  try walk_at "rn"
  obtain ⟨t, rfl, l3, q, qn⟩ | ⟨⟨ty, h1, h2⟩, qn⟩ := h
  case inr => exact ⟨ty, h1, false, h2, iteT' rfl qn⟩
  obtain ⟨s1, s2⟩ := split_len t
  refine ⟨_, .inl (.str _), true, rfl, iteF' (by decide) ⟨trivial, t, rfl, by decide +kernel, by omega, by omega, fun D nD W nW => ?_⟩⟩
  have xG := (Ext.new (K := K) (o := .lst (List.map V.str (Txt.split t (Str.ofString " ")))) nD).trans (Ext.new (o := .lst (words8.map V.str)) nW)
  have hD := (Ext.new (o := .lst (words8.map V.str)) nW).at (upd_same (H := H) (a := D) (o := .lst (List.map V.str (Txt.split t (Str.ofString " ")))))
  have hW := upd_same (H := upd H D (.lst (List.map V.str (Txt.split t (Str.ofString " "))))) (a := W) (o := .lst (words8.map V.str))
  change r3 _ _ (upd (upd H D (.lst (List.map V.str (Txt.split t (Str.ofString " "))))) W (.lst (words8.map V.str)))
  generalize upd (upd H D (.lst (List.map V.str (Txt.split t (Str.ofString " "))))) W (.lst (words8.map V.str)) = G at xG hD hW ⊢
  rw [parts_eq] at s1 s2 hD
  have lt : ∀ p ∈ (Txt.split t (Str.ofString " ")).tail, p.length ≤ t.length := fun p hp => s2 p (List.mem_cons_of_mem _ hp)
  unfold pO at q qn
  generalize (Txt.split t (Str.ofString " ")).tail = rest at s1 lt q qn hD
  rw [List.length_cons] at s1
  rw [e3]
  simp_arith [seqQ_lst hD,  seqQ_lst hW]
  refine ⟨rfl, flat_strs _, ?_⟩
  by_cases hx : ∃ k : Kd, pX t = k.word
  case neg =>
    have e : inV (V.str (pX t)) (List.map V.str words8) = false := by
      cases h : inV (V.str (pX t)) (List.map V.str words8) with
      | false => rfl
      | true => exact absurd (in_words.mp h) hx
    rw [e]
    exact iteT' rfl (qn (fun ⟨k, e, _⟩ => hx ⟨k, e⟩) _ xG)
  obtain ⟨k, hk⟩ := hx
  rw [in_words.mpr ⟨k, hk⟩, hk]
  refine iteF' (by decide) fun p np => ?_
  have xp := Ext.new (K := K) (o := .lst [V.int 3, V.int 2, V.int 3, V.int 3, V.int 4, V.int 4, V.int 1, V.int 2]) np
  refine ⟨.inl ⟨_, SqL.of (xp.at hW)⟩, _, seqQ_lst (xp.at hD), _, by rw [hk]; exact atI_0, words8, k.word, rfl, xp.at hW, k.ix, ix_word k, ix_first k, _, ix_len k, rfl, ?_⟩
  by_cases hl : rest.length = k.names.length
  case neg =>
    refine iteT' (by simp; omega) (qn ?_ _ (xG.trans xp))
    rintro ⟨j, e, us, e2, ok⟩
    obtain rfl := word_inj (hk.symm.trans e)
    have := Kd.len ok
    have h2 := congrArg List.length e2
    rw [List.length_map, List.length_map] at h2
    exact hl (h2.trans this)
  refine iteF' (by simp; omega) ?_
  have xG2 := xG.trans xp
  have hD2 := xp.at hD
  have hW2 := xp.at hW
  generalize upd G p (.lst [V.int 3, V.int 2, V.int 3, V.int 3, V.int 4, V.int 4, V.int 1, V.int 2]) = G2 at xG2 hD2 hW2 ⊢
  clear xp np hD hW xG
  rw [e4]
  simp_arith [seqQ_lst hD2,  seqQ_lst hW2]
  refine ⟨.inl ⟨_, SqL.of hW2⟩, words8, hW2, k.ix, by rw [hk]; exact ix_word k, by rw [hk]; exact ix_first k, ?_⟩
  rw [e5]
  try walk_at "rn"
  refine ⟨_, SqL.of hD2, fun S nS => ⟨⟨_, SqL.of upd_same⟩, fun N nN => ?_⟩⟩
  rw [show cutV (List.map V.str (pX t :: rest)) (some 1) none = rest.map V.str from cutV_from _ 1]
  refine lc_mapY (f := V.str) (g := fun p => on (readFig p)) (H := upd G2 S (.lst (rest.map V.str))) (SqL.of upd_same) (by rw [show cutV (List.map V.str (pX t :: rest)) (some 1) none = rest.map V.str from cutV_from _ 1] at nN; exact nN) (by omega) (fun p hp H' Q' xx qq => ?_) (fun G3 hN x3 => ?_)
  · try walk_at "rn"
    exact ⟨p, rfl, by have := lt p hp; omega, qq⟩
  have xG3 := xG2.trans ((Ext.new nS).trans x3)
  have hD3 := ((Ext.new nS).trans x3).at hD2
  rw [show rest.map (fun p => on (readFig p)) = (rest.map readFig).map on from by rw [List.map_map]; rfl] at hN
  have hlo : (rest.map readFig).length = k.names.length := by rw [List.length_map]; exact hl
  generalize rest.map readFig = os at hN hlo q qn
  clear x3 nN nS hD2 hW2 xG2
  rw [e6]
  rcases none_in os with ⟨i1, i2⟩ | ⟨i1, us, rfl⟩
  · simp_arith [seqQ_lst hN]
    exact ⟨rfl, flat_on _, iteT' i1 (qn (fun ⟨_, _, us, e, _⟩ => i2 us e) _ xG3)⟩
  rw [List.length_map] at hlo
  rw [show (us.map some).map on = us.map V.int from by rw [List.map_map]; rfl] at hN i1
  have qnx : ¬ k.ok us → ∀ G', Ext K G3 G' → Q .non G' := fun z G' x' => qn (fun ⟨j, e, vs, e2, ok⟩ => z (by
    obtain rfl := word_inj (hk.symm.trans e)
    rw [show us = vs from List.map_inj_right (fun _ _ => Option.some.inj) |>.mp e2]
    exact ok)) _ (xG3.trans x')
  have qn' : ¬ k.ok us → Q .non G3 := fun z => qnx z _ Ext.refl
  have q' : k.ok us → ∀ b H', Ext K G3 H' → tupQ K H' b = some (k.told us) → Q (.ref b) H' := fun ok b H' x h => q k us hk rfl ok b H' (xG3.trans x) h
  clear q qn
  simp_arith [seqQ_lst hN,  i1]
  refine ⟨rfl, by rw [List.all_eq_true]; intro v hv; obtain ⟨i, _, rfl⟩ := List.mem_map.mp hv; rfl, ?_⟩
  have fin : k.ok us → ∀ G', Ext K G3 G' → r10 { nx := fun _ H' => Q V.non H', rt := Q } [some (V.str t), some (V.ref D), some (V.ref W), some (V.int (k.ix : Int)), some (V.ref N)] G' := fun ok G' xx => by
    rw [e10]
    simp_arith [seqQ_lst (xx.at hD3)]
    intro p np
    refine ⟨_, (Ext.new np).at (xx.at hN), by simp only [List.length_map, hlo]; have := Kd.three k; have := sizeLine_eq; omega, fun p2 n2 T nT => q' ok T _ (xx.trans ((Ext.new np).trans ((Ext.new n2).trans (Ext.new nT)))) ?_⟩
    rw [tupQ_updT, hk]
    rfl
  clear hD3 hk J3 J4 J5 J6 J7 J8 J9 J10 e3 e4 e5 e6 e10
  obtain ⟨wy, hw⟩ : ∃ wy : Int, wy = k.ix := ⟨_, rfl⟩
  rw [← hw] at fin ⊢
  cases k
  · obtain rfl : wy = 0 := hw
    obtain ⟨a, b, rfl⟩ : ∃ a b, us = [a, b] := by
      rcases us with _ | ⟨a0, _ | ⟨a1, _ | ⟨a2, _ | ⟨a3, us⟩⟩⟩⟩ <;> simp only [Kd.names, List.length_cons, List.length_nil] at hlo <;> first | omega | exact ⟨_, _, rfl⟩
    refine iteF' (by decide) ?_
    rw [e7]
    simp_arith [seqQ_lst hN]
    refine ⟨a, 0, 999999999999, rfl, _, rfl, ?_⟩
    by_cases c1 : 0 ≤ a ∧ a ≤ 999999999999
    case neg =>
      rw [decide_eq_false c1]
      refine iteT' (by decide) (qn' ?_)
      rintro ⟨x, y, e, h1, h2⟩
      cases e
      exact c1 h1
    rw [decide_eq_true c1]
    refine iteF' (by decide) ?_
    rw [e8]
    simp_arith [seqQ_lst hN]
    rw [e9]
    try walk_at "rn"
    intro p np
    refine ⟨rfl, rfl, iteT' (by decide) ⟨_, seqQ_lst ((Ext.new (K := K) np).at hN), _, rfl, b, _, _, rfl, _, rfl, ?_⟩⟩
    by_cases c3 : -1000000000000000000000000000000 ≤ b ∧ b ≤ 1000000000000000000000000000000
    case neg =>
      rw [decide_eq_false c3]
      refine iteT' (by decide) (qnx ?_ _ (Ext.new np))
      rintro ⟨x, y, e, h1, h2⟩
      cases e
      exact c3 h2
    rw [decide_eq_true c3]
    exact iteF' (by decide) (fin ⟨a, b, rfl, c1, c3⟩ _ (Ext.new np))
  · obtain rfl : wy = 1 := hw
    obtain ⟨a, rfl⟩ : ∃ a, us = [a] := by
      rcases us with _ | ⟨a0, _ | ⟨a1, _ | ⟨a2, _ | ⟨a3, us⟩⟩⟩⟩ <;> simp only [Kd.names, List.length_cons, List.length_nil] at hlo <;> first | omega | exact ⟨_, rfl⟩
    refine iteF' (by decide) ?_
    rw [e7]
    simp_arith [seqQ_lst hN]
    refine ⟨a, 0, 999999999999, rfl, _, rfl, ?_⟩
    by_cases c1 : 0 ≤ a ∧ a ≤ 999999999999
    case neg =>
      rw [decide_eq_false c1]
      refine iteT' (by decide) (qn' ?_)
      rintro ⟨x, e, h1⟩
      cases e
      exact c1 h1
    rw [decide_eq_true c1]
    refine iteF' (by decide) ?_
    rw [e8]
    simp_arith [seqQ_lst hN]
    rw [e9]
    try walk_at "rn"
    intro p np
    exact ⟨rfl, rfl, iteF' (by decide) (fin ⟨a, rfl, c1⟩ _ (Ext.new np))⟩
  · obtain rfl : wy = 2 := hw
    obtain ⟨a, b, rfl⟩ : ∃ a b, us = [a, b] := by
      rcases us with _ | ⟨a0, _ | ⟨a1, _ | ⟨a2, _ | ⟨a3, us⟩⟩⟩⟩ <;> simp only [Kd.names, List.length_cons, List.length_nil] at hlo <;> first | omega | exact ⟨_, _, rfl⟩
    refine iteF' (by decide) ?_
    rw [e7]
    simp_arith [seqQ_lst hN]
    refine ⟨a, 0, 999999999999, rfl, _, rfl, ?_⟩
    by_cases c1 : 0 ≤ a ∧ a ≤ 999999999999
    case neg =>
      rw [decide_eq_false c1]
      refine iteT' (by decide) (qn' ?_)
      rintro ⟨x, y, e, h1, h2⟩
      cases e
      exact c1 h1
    rw [decide_eq_true c1]
    refine iteF' (by decide) ?_
    rw [e8]
    simp_arith [seqQ_lst hN]
    rw [e9]
    try walk_at "rn"
    intro p np
    refine ⟨rfl, rfl, iteT' (by decide) ⟨_, seqQ_lst ((Ext.new (K := K) np).at hN), _, rfl, b, _, _, rfl, _, rfl, ?_⟩⟩
    by_cases c3 : -1000000000000000000000000000000 ≤ b ∧ b ≤ 1000000000000000000000000000000
    case neg =>
      rw [decide_eq_false c3]
      refine iteT' (by decide) (qnx ?_ _ (Ext.new np))
      rintro ⟨x, y, e, h1, h2⟩
      cases e
      exact c3 h2
    rw [decide_eq_true c3]
    exact iteF' (by decide) (fin ⟨a, b, rfl, c1, c3⟩ _ (Ext.new np))
  · obtain rfl : wy = 3 := hw
    obtain ⟨a, b, rfl⟩ : ∃ a b, us = [a, b] := by
      rcases us with _ | ⟨a0, _ | ⟨a1, _ | ⟨a2, _ | ⟨a3, us⟩⟩⟩⟩ <;> simp only [Kd.names, List.length_cons, List.length_nil] at hlo <;> first | omega | exact ⟨_, _, rfl⟩
    refine iteF' (by decide) ?_
    rw [e7]
    simp_arith [seqQ_lst hN]
    refine ⟨a, 0, 999999999999, rfl, _, rfl, ?_⟩
    by_cases c1 : 0 ≤ a ∧ a ≤ 999999999999
    case neg =>
      rw [decide_eq_false c1]
      refine iteT' (by decide) (qn' ?_)
      rintro ⟨x, y, e, h1⟩
      cases e
      exact c1 ⟨h1.1, by have := h1.2; omega⟩
    rw [decide_eq_true c1]
    refine iteF' (by decide) ?_
    rw [e8]
    simp_arith [seqQ_lst hN]
    refine ⟨b, a + 1, 1000000000000, rfl, _, rfl, ?_⟩
    by_cases c2 : a + 1 ≤ b ∧ b ≤ 1000000000000
    case neg =>
      rw [decide_eq_false c2]
      refine iteT' (by decide) (qn' ?_)
      rintro ⟨x, y, e, h1⟩
      cases e
      exact c2 ⟨by have := h1.2; omega, h1.2.2⟩
    rw [decide_eq_true c2]
    refine iteF' (by decide) ?_
    rw [e9]
    try walk_at "rn"
    intro p np
    exact ⟨rfl, rfl, iteF' (by decide) (fin ⟨a, b, rfl, c1.1, by omega, c2.2⟩ _ (Ext.new np))⟩
  · obtain rfl : wy = 4 := hw
    obtain ⟨a, b, c, rfl⟩ : ∃ a b c, us = [a, b, c] := by
      rcases us with _ | ⟨a0, _ | ⟨a1, _ | ⟨a2, _ | ⟨a3, us⟩⟩⟩⟩ <;> simp only [Kd.names, List.length_cons, List.length_nil] at hlo <;> first | omega | exact ⟨_, _, _, rfl⟩
    refine iteF' (by decide) ?_
    rw [e7]
    simp_arith [seqQ_lst hN]
    refine ⟨a, 0, 999999999999, rfl, _, rfl, ?_⟩
    by_cases c1 : 0 ≤ a ∧ a ≤ 999999999999
    case neg =>
      rw [decide_eq_false c1]
      refine iteT' (by decide) (qn' ?_)
      rintro ⟨x, y, z, e, h1, h2⟩
      cases e
      exact c1 ⟨h1.1, by have := h1.2; omega⟩
    rw [decide_eq_true c1]
    refine iteF' (by decide) ?_
    rw [e8]
    simp_arith [seqQ_lst hN]
    refine ⟨b, a + 1, 1000000000000, rfl, _, rfl, ?_⟩
    by_cases c2 : a + 1 ≤ b ∧ b ≤ 1000000000000
    case neg =>
      rw [decide_eq_false c2]
      refine iteT' (by decide) (qn' ?_)
      rintro ⟨x, y, z, e, h1, h2⟩
      cases e
      exact c2 ⟨by have := h1.2; omega, h1.2.2⟩
    rw [decide_eq_true c2]
    refine iteF' (by decide) ?_
    rw [e9]
    try walk_at "rn"
    intro p np
    refine ⟨rfl, rfl, iteT' (by decide) ⟨_, seqQ_lst ((Ext.new (K := K) np).at hN), _, rfl, c, _, _, rfl, _, rfl, ?_⟩⟩
    by_cases c3 : -1000000000000000000000000000000 ≤ c ∧ c ≤ 1000000000000000000000000000000
    case neg =>
      rw [decide_eq_false c3]
      refine iteT' (by decide) (qnx ?_ _ (Ext.new np))
      rintro ⟨x, y, z, e, h1, h2⟩
      cases e
      exact c3 h2
    rw [decide_eq_true c3]
    exact iteF' (by decide) (fin ⟨a, b, c, rfl, ⟨c1.1, by omega, c2.2⟩, c3⟩ _ (Ext.new np))
  · obtain rfl : wy = 5 := hw
    obtain ⟨a, b, c, rfl⟩ : ∃ a b c, us = [a, b, c] := by
      rcases us with _ | ⟨a0, _ | ⟨a1, _ | ⟨a2, _ | ⟨a3, us⟩⟩⟩⟩ <;> simp only [Kd.names, List.length_cons, List.length_nil] at hlo <;> first | omega | exact ⟨_, _, _, rfl⟩
    refine iteF' (by decide) ?_
    rw [e7]
    simp_arith [seqQ_lst hN]
    refine ⟨a, 0, 999999999999, rfl, _, rfl, ?_⟩
    by_cases c1 : 0 ≤ a ∧ a ≤ 999999999999
    case neg =>
      rw [decide_eq_false c1]
      refine iteT' (by decide) (qn' ?_)
      rintro ⟨x, y, z, e, h1, h2⟩
      cases e
      exact c1 ⟨h1.1, by have := h1.2; omega⟩
    rw [decide_eq_true c1]
    refine iteF' (by decide) ?_
    rw [e8]
    simp_arith [seqQ_lst hN]
    refine ⟨b, a + 1, 1000000000000, rfl, _, rfl, ?_⟩
    by_cases c2 : a + 1 ≤ b ∧ b ≤ 1000000000000
    case neg =>
      rw [decide_eq_false c2]
      refine iteT' (by decide) (qn' ?_)
      rintro ⟨x, y, z, e, h1, h2⟩
      cases e
      exact c2 ⟨by have := h1.2; omega, h1.2.2⟩
    rw [decide_eq_true c2]
    refine iteF' (by decide) ?_
    rw [e9]
    try walk_at "rn"
    intro p np
    refine ⟨rfl, rfl, iteT' (by decide) ⟨_, seqQ_lst ((Ext.new (K := K) np).at hN), _, rfl, c, _, _, rfl, _, rfl, ?_⟩⟩
    by_cases c3 : -1000000000000000000000000000000 ≤ c ∧ c ≤ 1000000000000000000000000000000
    case neg =>
      rw [decide_eq_false c3]
      refine iteT' (by decide) (qnx ?_ _ (Ext.new np))
      rintro ⟨x, y, z, e, h1, h2⟩
      cases e
      exact c3 h2
    rw [decide_eq_true c3]
    exact iteF' (by decide) (fin ⟨a, b, c, rfl, ⟨c1.1, by omega, c2.2⟩, c3⟩ _ (Ext.new np))
  · obtain rfl : wy = 6 := hw
    obtain rfl : us = [] := List.eq_nil_of_length_eq_zero hlo
    refine iteF' (by decide) ?_
    rw [e7]
    try walk_at "rn"
    rw [e8]
    try walk_at "rn"
    rw [e9]
    try walk_at "rn"
    intro p np
    exact ⟨rfl, rfl, iteF' (by decide) (fin rfl _ (Ext.new np))⟩
  · obtain rfl : wy = 7 := hw
    obtain ⟨a, rfl⟩ : ∃ a, us = [a] := by
      rcases us with _ | ⟨a0, _ | ⟨a1, _ | ⟨a2, _ | ⟨a3, us⟩⟩⟩⟩ <;> simp only [Kd.names, List.length_cons, List.length_nil] at hlo <;> first | omega | exact ⟨_, rfl⟩
    refine iteT' rfl ⟨_, atI_0, _, rfl, ite2 (fun c => qn' ?_) (fun c => ?_)⟩
    · rintro ⟨m, e, h⟩
      cases e
      omega
    rw [e7]
    try walk_at "rn"
    rw [e8]
    try walk_at "rn"
    rw [e9]
    try walk_at "rn"
    intro p np
    exact ⟨rfl, rfl, iteF' (by decide) (fin ⟨a, rfl, by omega⟩ _ (Ext.new np))⟩
end
section
variable {P : Program} {w : World} {K : PySem.W.Frag} {mg : Str → Option Value} {base : Heap}
def spSign (K : PySem.W.Frag) : Sp := fun vs H Q _ => ∃ p x y z, vs = [.ref p] ∧ H p = some (L3 x y z) ∧ ∀ (c : Nat) (x y z : Int) (H' : Hp), H' p = some (L3 x y z) → Kp K p H H' → Q (.str ⟨#[c]⟩) H'
theorem sc__law_sign : FnScope ["_law_well_here", "_law_way", "_law_some"] ["_law_well_here"] (defScope s__law_sign) := ⟨rfl, rfl, rfl, by decide +kernel, rfl, by decide +kernel, by decide +kernel⟩
theorem ok__law_sign {f : Addr} {fd : FuncData} (F : Fun K "_law_sign" "_law_sign" s__law_sign f fd) {aTh cF cD cK cS cM cA cP : Addr} {tE tM tN tF u1 u2 u3 u4 u5 u6 u7 u8 : Tok} (B : B P w K mg aTh cF cD cK cS cM cA cP tE tM tN tF u1 u2 u3 u4 u5 u6 u7 u8) (C__law_draw : Callee P w K mg base "_law_draw" 1 ["_law_well_here", "_law_many"] (spDraw K)) : FnOk P w K mg base CX0 2 f fd ["_law_well_here"] (spSign K) := by
  refine F.okJ sc__law_sign (fun vs H Q E h => ?_) (fun cdv A outer s H vs Q E hr h => ?_)
  · obtain ⟨p, x, y, z, rfl, _⟩ := h
    rfl
  obtain ⟨p, x, y, z, rfl, hp, q⟩ := h
  refine ⟨_, (bcons (sset (i := 1) sc__law_sign.nd rfl (Or.inl rfl) (ecall C__law_draw (hr.mono (by decide)) rfl (acons (ev 0) (acons ei anil))))
      (bcons (sset (i := 2) sc__law_sign.nd rfl (Or.inl rfl) estr)
      (bcons (sset (i := 2) sc__law_sign.nd rfl (Or.inl rfl) (eix ix_Q (elstQ (acons (eop op_add_str (ev 2) estr) (acons estr anil))) (ev 1) (fun _ _ => rfl)))
      (bone (sret (eix ix_str (ev 2) (ecall C__law_draw (hr.mono (by decide)) rfl (acons (ev 0) (acons (ecallB call_len_str rfl B.len bt_len (acons (ev 2) anil)) anil))) (fun _ _ => rfl))))))), ?_⟩
  try walk_at "rn"
  refine ⟨p, _, _, _, 2, rfl, hp, by decide, by omega, fun way x y z H1 w0 w1 g1 k1 => ?_⟩
  try walk_at "rn"
  refine ⟨by decide +kernel, fun p1 n1 => ?_⟩
  obtain ⟨v, ev, mv⟩ := atI_in (xs := [V.str (Str.ofString " !\"#$&'()*+,-./0123456789:;<=>?@ABCDEFGHIJKLMNOPQRSTUVWXYZ[\\]^_`" ++ Str.ofString "abcdefghijklmnopqrstuvwxyz{|}~\n"), V.str (Str.ofString "0123456789- ")]) w0 w1
  obtain ⟨z, rfl, z0, z1⟩ : ∃ z : Str, v = .str z ∧ 0 < z.length ∧ z.length ≤ 1000 := by
    simp only [List.mem_cons, List.not_mem_nil, or_false] at mv
    rcases mv with rfl | rfl
    · exact ⟨_, rfl, by decide +kernel, by decide +kernel⟩
    · exact ⟨_, rfl, by decide +kernel, by decide +kernel⟩
  have x1 := Ext.new (K := K) (o := .lst [V.str (Str.ofString " !\"#$&'()*+,-./0123456789:;<=>?@ABCDEFGHIJKLMNOPQRSTUVWXYZ[\\]^_`" ++ Str.ofString "abcdefghijklmnopqrstuvwxyz{|}~\n"), V.str (Str.ofString "0123456789- ")]) n1
  refine ⟨_, ev, z, rfl, by omega, p, _, _, _, _, rfl, x1.at g1, by omega, by omega, fun r x y z' H2 r0 r1 g2 k2 => ⟨z, rfl, r, rfl, by omega, ?_⟩⟩
  obtain ⟨c, ec, _⟩ := atI_in (xs := z.cps.toList) r0 (by rw [str_len] at r1; exact r1)
  exact ⟨c, ec, q _ _ _ _ _ g2 (k1.trans (x1.kp.trans k2))⟩
def Odd (K : PySem.W.Frag) (H : Hp) (v : V) : Prop := (∃ t : Str, v = .str t ∧ t.length ≤ 10000000) ∨ NoStr K H v
def spSpoil (K : PySem.W.Frag) : Sp := fun vs H Q _ => ∃ p x y z t, vs = [.ref p, .str t] ∧ H p = some (L3 x y z) ∧ t.length ≤ 408 ∧ ∀ (v : V) (x y z : Int) (H' : Hp), Odd K H' v → H' p = some (L3 x y z) → Kp K p H H' → Q v H'
def Tx (n : Nat) (v : V) : Prop := ∃ t : Str, v = .str t ∧ t.length ≤ n
theorem txs {n : Nat} : ∀ {vs : List V}, (∀ v ∈ vs, Tx n v) → ∃ ts : List Str, vs = ts.map V.str ∧ ∀ t ∈ ts, t.length ≤ n
  | [], _ => ⟨[], rfl, by simp⟩
  | v :: vs, h => by
    obtain ⟨t, rfl, ht⟩ := h v List.mem_cons_self
    obtain ⟨ts, rfl, h2⟩ := txs fun v hv => h v (List.mem_cons_of_mem _ hv)
    exact ⟨t :: ts, rfl, by
      intro u hu
      rcases List.mem_cons.mp hu with rfl | hu
      · exact ht
      · exact h2 u hu⟩
theorem mem_cut {xs : List V} {lo hi : Option Int} {v : V} (h : v ∈ cutV xs lo hi) : v ∈ xs := List.mem_of_mem_drop (List.mem_of_mem_take h)
theorem mulT {c : Nat} {n : Int} {N : Nat} (hn : n ≤ (N : Int)) : (Txt.mul ⟨#[c]⟩ n).length ≤ N := PyProof.Rows.len_mul_one rfl hn
theorem mulOk1 {x : Str} {n : Int} (hx : x.length = 1) (h0 : 1 ≤ n) (h : n ≤ 5000) : MulOk x n := by
  refine ⟨?_, fun _ _ => ?_, fun _ _ => PyProof.Rows.short24 ?_⟩
  · simp only [Bool.or_eq_false_iff, decide_eq_false_iff_not]
    omega
  · have : 1 ≤ (2 ^ 63 - 1 : Int) / n := Int.le_ediv_of_mul_le (by omega) (by omega)
    omega
  · rw [hx]
    omega
theorem join_ok {n : Nat} {ts : List Str} (h : ∀ t ∈ ts, t.length ≤ n) (hz : ts.length * (n + 1) ≤ 10000000) : lenAll (Str.ofString " ") ts ≤ 16777216 ∧ (Str.join (Str.ofString " ") ts).length ≤ 10000000 := by
  have l1 := lenAll_le (sep := Str.ofString " ") ts h
  have l2 := join_le (sep := Str.ofString " ") ts h
  rw [show (Str.ofString " ").length = 1 from by decide +kernel] at l1 l2
  omega
theorem sc__law_spoilt : FnScope ["_law_well_here", "_law_text", "_law_way", "_law_at", "_law_parts", "_law_k", "_law_sign_here", "_law_odd"] ["_law_well_here", "_law_text"] (defScope s__law_spoilt) := ⟨rfl, rfl, rfl, by decide +kernel, rfl, by decide +kernel, by decide +kernel⟩
theorem ok__law_spoilt {f : Addr} {fd : FuncData} (F : Fun K "_law_spoilt" "_law_spoilt" s__law_spoilt f fd) {aTh cF cD cK cS cM cA cP : Addr} {tE tM tN tF u1 u2 u3 u4 u5 u6 u7 u8 : Tok} (B : B P w K mg aTh cF cD cK cS cM cA cP tE tM tN tF u1 u2 u3 u4 u5 u6 u7 u8) (C__law_draw : Callee P w K mg base "_law_draw" 1 ["_law_well_here", "_law_many"] (spDraw K)) (C__law_sign : Callee P w K mg base "_law_sign" 2 ["_law_well_here"] (spSign K)) : FnOk P w K mg base CX0 3 f fd ["_law_well_here", "_law_text"] (spSpoil K) := by
  refine F.okJ sc__law_spoilt (fun vs H Q E h => ?_) (fun cdv A outer s H vs Q E hr h => ?_)
  · obtain ⟨p, x, y, z, t, rfl, _⟩ := h
    rfl
  obtain ⟨p, x, y, z, t, rfl, hp, ht, q⟩ := h
  obtain ⟨s1, s2⟩ := split_len t
  refine ex_seal (rest := (defBody s__law_spoilt).drop 14) (bone (sret (eix ix_Q (elstQ (acons enon (acons ei (acons (elstQ (acons (ev 1) anil)) (acons (etupQ (acons (ev 1) anil)) (acons ebl (acons ednewQ (acons (ecallTy call_tuple_ofQ rfl B.tuple bt_tuple (acons (ev 4) anil)) (acons (ev 4) anil))))))))) (ecall C__law_draw (hr.mono (by decide)) rfl (acons (ev 0) (acons ei anil))) (fun _ _ => rfl)))) fun r14 J14 e14 => ?_
  refine ex_seal (rest := (defBody s__law_spoilt).drop 13) (bcons (sif (tcmp op_eq (ev 2) ei (nomark _)) (bone (sret (eix ix_Q (elstQ (acons (eop op_add_str (ev 1) estr) (acons (eop op_add_str estr (ev 1)) (acons (eop op_add_str (ev 1) estr) (acons (eop op_add_str estr (ev 1)) (acons estr (acons estr (acons (eop op_add_str (ev 1) (ev 1)) anil)))))))) (ecall C__law_draw (hr.mono (by decide)) rfl (acons (ev 0) (acons ei anil))) (fun _ _ => rfl)))) bnil)
      J14) fun r13 J13 e13 => ?_
  refine ex_seal (rest := (defBody s__law_spoilt).drop 12) (bcons (sif (tcmp op_lt (ev 2) ei (nomark _)) (bone (sret (ebm PySem.F.plainAttrs_str PySem.F.slot_str_join PySem.F.type_str_join mt_join estr (acons (eop op_catQ (eop op_catQ (eslice sl_listQ (ev 4) onone (osome (ev 5))) (elstQ (acons (eix ix_Q (ev 7) (ecall C__law_draw (hr.mono (by decide)) rfl (acons (ev 0) (acons ei anil))) (fun _ _ => rfl)) anil))) (eslice sl_listQ (ev 4) (osome (eop op_add (ev 5) ei)) onone)) anil)))) bnil)
      J13) fun r12 J12 e12 => ?_
  refine ex_seal (rest := (defBody s__law_spoilt).drop 11) (bcons (sset (i := 7) sc__law_spoilt.nd rfl (Or.inl rfl) (eop op_catQ (ev 7) (elstQ (acons estr (acons estr (acons estr (acons estr (acons (eop op_add_str estr (eop op_mul_str estr ei)) anil))))))))
      J12) fun r11 J11 e11 => ?_
  refine ex_seal (rest := (defBody s__law_spoilt).drop 10) (bcons (sset (i := 7) sc__law_spoilt.nd rfl (Or.inl rfl) (eop op_catQ (ev 7) (elstQ (acons estr (acons (eop op_mul_str estr ei) (acons (eop op_add_str estr (eop op_mul_str estr ei)) (acons (eop op_add_str estr (eop op_mul_str estr ei)) (acons (eop op_mul_str estr ei) (acons (eop op_add_str estr (eop op_mul_str estr ei)) anil)))))))))
      J11) fun r10 J10 e10 => ?_
  refine ex_seal (rest := (defBody s__law_spoilt).drop 9) (bcons (sset (i := 7) sc__law_spoilt.nd rfl (Or.inl rfl) (elstQ (acons (eop op_add_str estr (eix ix_Q (ev 4) (ev 5) (fun _ _ => rfl))) (acons (eop op_add_str estr (eix ix_Q (ev 4) (ev 5) (fun _ _ => rfl))) (acons (eop op_add_str estr (eix ix_Q (ev 4) (ev 5) (fun _ _ => rfl))) (acons (eop op_add_str (eix ix_Q (ev 4) (ev 5) (fun _ _ => rfl)) estr) (acons (ebm0 PySem.F.plainAttrs_str PySem.F.slot_str_upper PySem.F.type_str_upper mt_upper (eix ix_Q (ev 4) (ev 5) (fun _ _ => rfl))) anil)))))))
      J10) fun r9 J9 e9 => ?_
  refine ex_seal (rest := (defBody s__law_spoilt).drop 8) (bcons (sif (tcmp op_eq (ev 2) ei (nomark _)) (bone (sret (ebm PySem.F.plainAttrs_str PySem.F.slot_str_join PySem.F.type_str_join mt_join estr (acons (eop op_catQ (eslice sl_listQ (ev 4) (osome (ev 5)) onone) (eslice sl_listQ (ev 4) onone (osome (ev 5)))) anil)))) bnil)
      J9) fun r8 J8 e8 => ?_
  refine ex_seal (rest := (defBody s__law_spoilt).drop 7) (bcons (sif (tcmp op_eq (ev 2) ei (nomark _)) (bone (sret (eop op_add_str (eop op_add_str (eslice sl_str (ev 1) onone (osome (ev 3))) (ev 6)) (eslice sl_str (ev 1) (osome (eop op_add (ev 3) ei)) onone)))) bnil)
      J8) fun r7 J7 e7 => ?_
  refine ex_seal (rest := (defBody s__law_spoilt).drop 6) (bcons (sif (tcmp op_eq (ev 2) ei (nomark _)) (bone (sret (eop op_add_str (eslice sl_str (ev 1) onone (osome (ev 3))) (eslice sl_str (ev 1) (osome (eop op_add (ev 3) ei)) onone)))) bnil)
      J7) fun r6 J6 e6 => ?_
  refine ex_seal (rest := (defBody s__law_spoilt).drop 5) (bcons (sif (tcmp op_eq (ev 2) ei (nomark _)) (bone (sret (eop op_add_str (eop op_add_str (eslice sl_str (ev 1) onone (osome (ev 3))) (ev 6)) (eslice sl_str (ev 1) (osome (ev 3)) onone)))) bnil)
      J6) fun r5 J5 e5 => ?_
  refine ⟨_, (bcons (sset (i := 2) sc__law_spoilt.nd rfl (Or.inl rfl) (ecall C__law_draw (hr.mono (by decide)) rfl (acons (ev 0) (acons ei anil))))
      (bcons (sset (i := 3) sc__law_spoilt.nd rfl (Or.inl rfl) (ecall C__law_draw (hr.mono (by decide)) rfl (acons (ev 0) (acons (eop op_add (ecallB call_len_str rfl B.len bt_len (acons (ev 1) anil)) ei) anil))))
      (bcons (sset (i := 4) sc__law_spoilt.nd rfl (Or.inl rfl) (ebm PySem.F.plainAttrs_str PySem.F.slot_str_split PySem.F.type_str_split mt_split (ev 1) (acons estr anil)))
      (bcons (sset (i := 5) sc__law_spoilt.nd rfl (Or.inl rfl) (ecall C__law_draw (hr.mono (by decide)) rfl (acons (ev 0) (acons (ecallB call_lenQ rfl B.len bt_len (acons (ev 4) anil)) anil))))
      (bcons (sset (i := 6) sc__law_spoilt.nd rfl (Or.inl rfl) (ecall C__law_sign (hr.mono (by decide)) rfl (acons (ev 0) anil)))
      J5))))), ?_⟩
  try walk_at "rn"
  refine ⟨p, _, _, _, 10, rfl, hp, by decide, by omega, fun way x y z H1 w0 w1 g1 k1 => ?_⟩
  try walk_at "rn"
  refine ⟨by omega, p, _, _, _, _, rfl, g1, by omega, by omega, fun at' x y z H2 a0 a1 g2 k2 => ?_⟩
  try walk_at "rn"
  refine ⟨by decide +kernel, by omega, by omega, fun D nD => ?_⟩
  have xD := Ext.new (K := K) (o := .lst (List.map V.str (Txt.split t (Str.ofString " ")))) nD
  have eD := upd_same (H := H2) (a := D) (o := .lst (List.map V.str (Txt.split t (Str.ofString " "))))
  have sne : 0 < (Txt.split t (Str.ofString " ")).length := by rw [parts_eq]; simp
  have pD : p ≠ D := ne_of_none g2 nD.1
  generalize Txt.split t (Str.ofString " ") = ps at s1 s2 sne xD eD ⊢
  refine ⟨p, _, _, _, (ps.length : Int), by simp, xD.at g2, by omega, by omega, fun kk x y z H3 b0 b1 g3 k3 => ?_⟩
  try walk_at "rn"
  refine ⟨p, _, _, _, rfl, g3, fun c x y z G g4 k4 => ?_⟩
  try walk_at "rn"
  have hD : G D = some (.lst (ps.map V.str)) := (k3.trans k4).keep D _ eD pD.symm
  have kG : Kp K p H G := k1.trans (k2.trans (xD.kp.trans (k3.trans k4)))
  have allT : ∀ v ∈ ps.map V.str, Tx 408 v := fun v hv => by
    obtain ⟨u, hu, rfl⟩ := List.mem_map.mp hv
    exact ⟨u, rfl, Nat.le_trans (s2 u hu) ht⟩
  have sl : ∀ i j, (Txt.slice t i j).length ≤ 408 := fun i j => Nat.le_trans (Txt.slice_le _ _ _) ht
  have one : (⟨#[c]⟩ : Str).length = 1 := rfl
  have fin : ∀ (u : Str) (G' : Hp), u.length ≤ 10000000 → Ext K G G' → Q (.str u) G' := fun u G' h xx => q _ _ _ _ _ (.inl ⟨u, rfl, h⟩) (xx.at g4) (kG.trans xx.kp)
  clear k1 k2 k3 k4 g1 g2 g3 xD eD nD
  rw [e5]
  try walk_at "rn"
  refine ite2 (fun c5 => ?_) (fun c5 => ?_)
  · have h1 := sl none (some at')
    have h2 := sl (some at') none
    exact ⟨by omega, by rw [one]; omega, by omega, by rw [Str.length_append, one]; omega, fin _ _ (by rw [Str.length_append, Str.length_append, one]; omega) Ext.refl⟩
  rw [e6]
  try walk_at "rn"
  refine ite2 (fun c6 => ?_) (fun c6 => ?_)
  · have h1 := sl none (some at')
    have h2 := sl (some (at' + 1)) none
    exact ⟨by omega, by omega, by omega, fin _ _ (by rw [Str.length_append]; omega) Ext.refl⟩
  rw [e7]
  try walk_at "rn"
  refine ite2 (fun c7 => ?_) (fun c7 => ?_)
  · have h1 := sl none (some at')
    have h2 := sl (some (at' + 1)) none
    exact ⟨by omega, by rw [one]; omega, by omega, by rw [Str.length_append, one]; omega, fin _ _ (by rw [Str.length_append, Str.length_append, one]; omega) Ext.refl⟩
  rw [e8]
  try walk_at "rn"
  refine ite2 (fun c8 => ?_) (fun c8 => ?_)
  · have l1 := cutV_length (ps.map V.str) (some kk) none
    have l2 := cutV_length (ps.map V.str) none (some kk)
    rw [List.length_map] at l1 l2
    refine ⟨_, SqL.of hD, fun p1 n1 => ⟨_, SqL.of ((Ext.new n1).at hD), fun p2 n2 => ⟨_, (Ext.new n2).at upd_same, by omega, fun p3 n3 => ?_⟩⟩⟩
    obtain ⟨ts, ets, hts⟩ := txs (n := 408) (vs := cutV (ps.map V.str) (some kk) none ++ cutV (ps.map V.str) none (some kk)) (fun v hv => by
      rcases List.mem_append.mp hv with hv | hv
      · exact allT v (mem_cut hv)
      · exact allT v (mem_cut hv))
    have lts : ts.length = (cutV (ps.map V.str) (some kk) none ++ cutV (ps.map V.str) none (some kk)).length := by rw [ets, List.length_map]
    rw [List.length_append] at lts
    obtain ⟨j1, j2⟩ := join_ok hts (by omega)
    rw [ets]
    exact ⟨ts, SqL.of upd_same, j1, by omega, fin _ _ j2 ((Ext.new n1).trans ((Ext.new n2).trans (by rw [← ets]; exact Ext.new n3)))⟩
  rw [e9]
  obtain ⟨pv, ep, mp⟩ := atI_in (xs := ps.map V.str) b0 (by rw [List.length_map]; exact b1)
  obtain ⟨pt, hpt, rfl⟩ := List.mem_map.mp mp
  have hpl : pt.length ≤ 408 := Nat.le_trans (s2 pt hpt) ht
  simp_arith [seqQ_lst hD]
  have z1 : (Str.ofString "0").length = 1 := by decide +kernel
  have z2 : (Str.ofString "-").length = 1 := by decide +kernel
  have z3 : (Str.ofString "+").length = 1 := by decide +kernel
  have z4 : (Str.ofString ".0").length = 2 := by decide +kernel
  have zu := PyProof.Rows.len_upper pt
  refine ⟨_, ep, pt, rfl, by omega, _, ep, pt, rfl, by omega, _, ep, pt, rfl, by omega, _, ep, pt, rfl, by omega, _, ep, trivial, pt, rfl, by omega, fun O1 n1 => ?_⟩
  have x1 := Ext.new (K := K) (o := .lst [V.str (Str.ofString "0" ++ pt), V.str (Str.ofString "-" ++ pt), V.str (Str.ofString "+" ++ pt), V.str (pt ++ Str.ofString ".0"), V.str (Txt.upper pt)]) n1
  have o1 := upd_same (H := G) (a := O1) (o := .lst [V.str (Str.ofString "0" ++ pt), V.str (Str.ofString "-" ++ pt), V.str (Str.ofString "+" ++ pt), V.str (pt ++ Str.ofString ".0"), V.str (Txt.upper pt)])
  have t1 : ∀ v ∈ [V.str (Str.ofString "0" ++ pt), V.str (Str.ofString "-" ++ pt), V.str (Str.ofString "+" ++ pt), V.str (pt ++ Str.ofString ".0"), V.str (Txt.upper pt)], Tx 5000 v := by
    intro v hv
    simp only [List.mem_cons, List.not_mem_nil, or_false] at hv
    rcases hv with rfl | rfl | rfl | rfl | rfl
    · exact ⟨_, rfl, by rw [Str.length_append]; omega⟩
    · exact ⟨_, rfl, by rw [Str.length_append]; omega⟩
    · exact ⟨_, rfl, by rw [Str.length_append]; omega⟩
    · exact ⟨_, rfl, by rw [Str.length_append]; omega⟩
    · exact ⟨_, rfl, by omega⟩
  have h5 : [V.str (Str.ofString "0" ++ pt), V.str (Str.ofString "-" ++ pt), V.str (Str.ofString "+" ++ pt), V.str (pt ++ Str.ofString ".0"), V.str (Txt.upper pt)].length = 5 := rfl
  generalize [V.str (Str.ofString "0" ++ pt), V.str (Str.ofString "-" ++ pt), V.str (Str.ofString "+" ++ pt), V.str (pt ++ Str.ofString ".0"), V.str (Txt.upper pt)] = os1 at x1 o1 t1 h5 ⊢
  generalize upd G O1 (.lst os1) = G1 at x1 o1 ⊢
  rw [e10]
  try walk_at "rn"
  have z5 : (Str.ofString "1").length = 1 := by decide +kernel
  have z6 : (Str.ofString "9").length = 1 := by decide +kernel
  have z7 : (Str.ofString "-1").length = 2 := by decide +kernel
  have m1 : (Txt.mul (Str.ofString "1") 61).length ≤ 61 := mulT (c := 49) (by decide)
  have m2 : (Txt.mul (Str.ofString "9") 61).length ≤ 61 := mulT (c := 57) (by decide)
  have m3 : (Txt.mul (Str.ofString "0") 30).length ≤ 30 := mulT (c := 48) (by decide)
  have m4 : (Txt.mul (Str.ofString "9") 5000).length ≤ 5000 := mulT (c := 57) (by decide)
  have m5 : (Txt.mul (Str.ofString "0") 12).length ≤ 12 := mulT (c := 48) (by decide)
  refine ⟨mulOk1 z5 (by decide) (by decide), mulOk1 z6 (by decide) (by decide), by omega, mulOk1 z1 (by decide) (by decide), by omega, mulOk1 z6 (by decide) (by decide), mulOk1 z1 (by decide) (by decide), by omega, fun q2 nq2 => ⟨_, (Ext.new nq2).at o1, by omega, fun O2 n2 => ?_⟩⟩
  have t2 : ∀ v ∈ os1 ++ [V.str (Str.ofString "-0"), V.str (Txt.mul (Str.ofString "1") 61), V.str (Str.ofString "-" ++ Txt.mul (Str.ofString "9") 61), V.str (Str.ofString "1" ++ Txt.mul (Str.ofString "0") 30), V.str (Txt.mul (Str.ofString "9") 5000), V.str (Str.ofString "1" ++ Txt.mul (Str.ofString "0") 12)], Tx 5000 v := by
    intro v hv
    rcases List.mem_append.mp hv with hv | hv
    · exact t1 v hv
    simp only [List.mem_cons, List.not_mem_nil, or_false] at hv
    rcases hv with rfl | rfl | rfl | rfl | rfl | rfl
    · exact ⟨_, rfl, by decide +kernel⟩
    · exact ⟨_, rfl, by omega⟩
    · exact ⟨_, rfl, by rw [Str.length_append]; omega⟩
    · exact ⟨_, rfl, by rw [Str.length_append]; omega⟩
    · exact ⟨_, rfl, by omega⟩
    · exact ⟨_, rfl, by rw [Str.length_append]; omega⟩
  have h11 : (os1 ++ [V.str (Str.ofString "-0"), V.str (Txt.mul (Str.ofString "1") 61), V.str (Str.ofString "-" ++ Txt.mul (Str.ofString "9") 61), V.str (Str.ofString "1" ++ Txt.mul (Str.ofString "0") 30), V.str (Txt.mul (Str.ofString "9") 5000), V.str (Str.ofString "1" ++ Txt.mul (Str.ofString "0") 12)]).length = 11 := by rw [List.length_append, h5]; rfl
  have x2 := (x1.trans (Ext.new (o := .lst [V.str (Str.ofString "-0"), V.str (Txt.mul (Str.ofString "1") 61), V.str (Str.ofString "-" ++ Txt.mul (Str.ofString "9") 61), V.str (Str.ofString "1" ++ Txt.mul (Str.ofString "0") 30), V.str (Txt.mul (Str.ofString "9") 5000), V.str (Str.ofString "1" ++ Txt.mul (Str.ofString "0") 12)]) nq2)).trans (Ext.new (o := .lst (os1 ++ [V.str (Str.ofString "-0"), V.str (Txt.mul (Str.ofString "1") 61), V.str (Str.ofString "-" ++ Txt.mul (Str.ofString "9") 61), V.str (Str.ofString "1" ++ Txt.mul (Str.ofString "0") 30), V.str (Txt.mul (Str.ofString "9") 5000), V.str (Str.ofString "1" ++ Txt.mul (Str.ofString "0") 12)])) n2)
  have o2 := upd_same (H := upd G1 q2 (.lst [V.str (Str.ofString "-0"), V.str (Txt.mul (Str.ofString "1") 61), V.str (Str.ofString "-" ++ Txt.mul (Str.ofString "9") 61), V.str (Str.ofString "1" ++ Txt.mul (Str.ofString "0") 30), V.str (Txt.mul (Str.ofString "9") 5000), V.str (Str.ofString "1" ++ Txt.mul (Str.ofString "0") 12)])) (a := O2) (o := .lst (os1 ++ [V.str (Str.ofString "-0"), V.str (Txt.mul (Str.ofString "1") 61), V.str (Str.ofString "-" ++ Txt.mul (Str.ofString "9") 61), V.str (Str.ofString "1" ++ Txt.mul (Str.ofString "0") 30), V.str (Txt.mul (Str.ofString "9") 5000), V.str (Str.ofString "1" ++ Txt.mul (Str.ofString "0") 12)]))
  generalize upd (upd G1 q2 (.lst [V.str (Str.ofString "-0"), V.str (Txt.mul (Str.ofString "1") 61), V.str (Str.ofString "-" ++ Txt.mul (Str.ofString "9") 61), V.str (Str.ofString "1" ++ Txt.mul (Str.ofString "0") 30), V.str (Txt.mul (Str.ofString "9") 5000), V.str (Str.ofString "1" ++ Txt.mul (Str.ofString "0") 12)])) O2 (.lst (os1 ++ [V.str (Str.ofString "-0"), V.str (Txt.mul (Str.ofString "1") 61), V.str (Str.ofString "-" ++ Txt.mul (Str.ofString "9") 61), V.str (Str.ofString "1" ++ Txt.mul (Str.ofString "0") 30), V.str (Txt.mul (Str.ofString "9") 5000), V.str (Str.ofString "1" ++ Txt.mul (Str.ofString "0") 12)])) = G2 at x2 o2 ⊢
  generalize os1 ++ [V.str (Str.ofString "-0"), V.str (Txt.mul (Str.ofString "1") 61), V.str (Str.ofString "-" ++ Txt.mul (Str.ofString "9") 61), V.str (Str.ofString "1" ++ Txt.mul (Str.ofString "0") 30), V.str (Txt.mul (Str.ofString "9") 5000), V.str (Str.ofString "1" ++ Txt.mul (Str.ofString "0") 12)] = os2 at x2 o2 t2 h11
  clear nq2 n2 x1 o1 t1 h5 n1
  rw [e11]
  try walk_at "rn"
  refine ⟨mulOk1 z1 (by decide) (by decide), by omega, fun q3 nq3 => ⟨_, (Ext.new nq3).at o2, by omega, fun O3 n3 => ?_⟩⟩
  have t3 : ∀ v ∈ os2 ++ [V.str (Str.ofString "-1"), V.str (Str.ofString "0"), V.str (Str.ofString "1e3"), V.str (Str.ofString ""), V.str (Str.ofString "-1" ++ Txt.mul (Str.ofString "0") 30)], Tx 5000 v := by
    intro v hv
    rcases List.mem_append.mp hv with hv | hv
    · exact t2 v hv
    simp only [List.mem_cons, List.not_mem_nil, or_false] at hv
    rcases hv with rfl | rfl | rfl | rfl | rfl
    · exact ⟨_, rfl, by decide +kernel⟩
    · exact ⟨_, rfl, by decide +kernel⟩
    · exact ⟨_, rfl, by decide +kernel⟩
    · exact ⟨_, rfl, by decide +kernel⟩
    · exact ⟨_, rfl, by rw [Str.length_append]; omega⟩
  have h16 : (os2 ++ [V.str (Str.ofString "-1"), V.str (Str.ofString "0"), V.str (Str.ofString "1e3"), V.str (Str.ofString ""), V.str (Str.ofString "-1" ++ Txt.mul (Str.ofString "0") 30)]).length = 16 := by rw [List.length_append, h11]; rfl
  have x3 := (x2.trans (Ext.new (o := .lst [V.str (Str.ofString "-1"), V.str (Str.ofString "0"), V.str (Str.ofString "1e3"), V.str (Str.ofString ""), V.str (Str.ofString "-1" ++ Txt.mul (Str.ofString "0") 30)]) nq3)).trans (Ext.new (o := .lst (os2 ++ [V.str (Str.ofString "-1"), V.str (Str.ofString "0"), V.str (Str.ofString "1e3"), V.str (Str.ofString ""), V.str (Str.ofString "-1" ++ Txt.mul (Str.ofString "0") 30)])) n3)
  have o3 := upd_same (H := upd G2 q3 (.lst [V.str (Str.ofString "-1"), V.str (Str.ofString "0"), V.str (Str.ofString "1e3"), V.str (Str.ofString ""), V.str (Str.ofString "-1" ++ Txt.mul (Str.ofString "0") 30)])) (a := O3) (o := .lst (os2 ++ [V.str (Str.ofString "-1"), V.str (Str.ofString "0"), V.str (Str.ofString "1e3"), V.str (Str.ofString ""), V.str (Str.ofString "-1" ++ Txt.mul (Str.ofString "0") 30)]))
  generalize upd (upd G2 q3 (.lst [V.str (Str.ofString "-1"), V.str (Str.ofString "0"), V.str (Str.ofString "1e3"), V.str (Str.ofString ""), V.str (Str.ofString "-1" ++ Txt.mul (Str.ofString "0") 30)])) O3 (.lst (os2 ++ [V.str (Str.ofString "-1"), V.str (Str.ofString "0"), V.str (Str.ofString "1e3"), V.str (Str.ofString ""), V.str (Str.ofString "-1" ++ Txt.mul (Str.ofString "0") 30)])) = G3 at x3 o3 ⊢
  generalize os2 ++ [V.str (Str.ofString "-1"), V.str (Str.ofString "0"), V.str (Str.ofString "1e3"), V.str (Str.ofString ""), V.str (Str.ofString "-1" ++ Txt.mul (Str.ofString "0") 30)] = os3 at x3 o3 t3 h16
  clear nq3 n3 x2 o2 t2 h11
  have hD3 := x3.at hD
  have g5 := x3.at g4
  have fin' : ∀ (v : V) (x y z : Int) (G' : Hp), Odd K G' v → G' p = some (L3 x y z) → Kp K p G3 G' → Q v G' := fun v x y z G' h g kk => q v x y z G' h g (kG.trans (x3.kp.trans kk))
  have pO : p ≠ O3 := fun z => by
    subst z
    rw [o3] at g5
    have := HO.lst.inj (Option.some.inj g5)
    rw [this] at h16
    cases h16
  clear fin
  rw [e12]
  try walk_at "rn"
  refine ite2 (fun c12 => ?_) (fun c12 => ?_)
  · have l1 := cutV_length (ps.map V.str) none (some kk)
    have l2 := cutV_length (ps.map V.str) (some (kk + 1)) none
    rw [List.length_map] at l1 l2
    refine ⟨_, SqL.of hD3, fun q1 n1 => ⟨p, _, _, _, 16, rfl, (Ext.new n1).at g5, by decide, by omega, fun r x y z H5 r0 r1 g6 k6 => ⟨_, rfl, _, seqQ_lst (k6.keep O3 _ ((Ext.new n1).at o3) pO.symm), ?_⟩⟩⟩
    obtain ⟨ov, eo, mo⟩ := atI_in (xs := os3) r0 (by rw [h16]; exact r1)
    refine ⟨_, eo, fun q2 n2 => ⟨_, (Ext.new n2).at (k6.keep q1 _ upd_same (ne_of_none g5 n1.1).symm), by omega, fun q3 n3 => ⟨_, SqL.of (((Ext.new n2).trans (Ext.new n3)).at (k6.keep D _ ((Ext.new n1).at hD3) pD.symm)), fun q4 n4 => ⟨_, (Ext.new n4).at upd_same, by rw [List.length_append, List.length_singleton]; omega, fun q5 n5 => ?_⟩⟩⟩⟩
    obtain ⟨ts, ets, hts⟩ := txs (n := 5000) (vs := cutV (ps.map V.str) none (some kk) ++ [ov] ++ cutV (ps.map V.str) (some (kk + 1)) none) (fun v hv => by
      rcases List.mem_append.mp hv with hv | hv
      · rcases List.mem_append.mp hv with hv | hv
        · obtain ⟨u, e, h⟩ := allT v (mem_cut hv)
          exact ⟨u, e, by omega⟩
        · rw [List.mem_singleton.mp hv]
          exact t3 ov mo
      · obtain ⟨u, e, h⟩ := allT v (mem_cut hv)
        exact ⟨u, e, by omega⟩)
    have lts : ts.length = (cutV (ps.map V.str) none (some kk) ++ [ov] ++ cutV (ps.map V.str) (some (kk + 1)) none).length := by rw [ets, List.length_map]
    rw [List.length_append, List.length_append, List.length_singleton] at lts
    obtain ⟨j1, j2⟩ := join_ok hts (by omega)
    rw [ets]
    have xx := (Ext.new (K := K) (o := .lst [ov]) n2).trans ((Ext.new (o := .lst (cutV (ps.map V.str) none (some kk) ++ [ov])) n3).trans ((Ext.new (o := .lst (cutV (ps.map V.str) (some (kk + 1)) none)) n4).trans (Ext.new (o := .lst (cutV (ps.map V.str) none (some kk) ++ [ov] ++ cutV (ps.map V.str) (some (kk + 1)) none)) n5)))
    rw [ets] at xx
    exact ⟨ts, SqL.of upd_same, j1, by omega, fin' _ _ _ _ _ (.inl ⟨_, rfl, j2⟩) (xx.at g6) ((Ext.new n1).kp.trans (k6.trans xx.kp))⟩
  rw [e13]
  try walk_at "rn"
  refine ite2 (fun c13 => ?_) (fun c13 => ?_)
  · have y1 : (Str.ofString " ").length = 1 := by decide +kernel
    have y2 : (Str.ofString "\n").length = 1 := by decide +kernel
    refine ⟨by omega, by omega, by omega, by omega, by omega, fun q1 n1 => ⟨p, _, _, _, 7, rfl, (Ext.new n1).at g5, by decide, by omega, fun r x y z H5 r0 r1 g6 k6 => ⟨_, rfl, _, seqQ_lst (k6.keep q1 _ upd_same (ne_of_none g5 n1.1).symm), ?_⟩⟩⟩
    obtain ⟨ov, eo, mo⟩ := atI_in (xs := [V.str (t ++ Str.ofString " "), V.str (Str.ofString " " ++ t), V.str (t ++ Str.ofString "\n"), V.str (Str.ofString "\n" ++ t), V.str (Str.ofString ""), V.str (Str.ofString " "), V.str (t ++ t)]) r0 r1
    refine ⟨_, eo, fin' _ _ _ _ _ (.inl ?_) g6 ((Ext.new n1).kp.trans k6)⟩
    simp only [List.mem_cons, List.not_mem_nil, or_false] at mo
    rcases mo with rfl | rfl | rfl | rfl | rfl | rfl | rfl
    · exact ⟨_, rfl, by rw [Str.length_append]; omega⟩
    · exact ⟨_, rfl, by rw [Str.length_append]; omega⟩
    · exact ⟨_, rfl, by rw [Str.length_append]; omega⟩
    · exact ⟨_, rfl, by rw [Str.length_append]; omega⟩
    · exact ⟨_, rfl, by decide +kernel⟩
    · exact ⟨_, rfl, by decide +kernel⟩
    · exact ⟨_, rfl, by rw [Str.length_append]; omega⟩
  rw [e14]
  try walk_at "rn"
  intro q1 n1 q2 n2 q3 n3
  have y1 := Ext.new (K := K) (o := .lst [V.str t]) n1
  have y2 := Ext.new (K := K) (o := .tup [V.str t]) n2
  have y3 := Ext.new (K := K) (o := .dK []) n3
  refine ⟨_, (y1.trans (y2.trans y3)).at hD3, fun q4 n4 q5 n5 => ?_⟩
  have y4 := Ext.new (K := K) (o := .tup (ps.map V.str)) n4
  have y5 := Ext.new (K := K) (o := .lst [V.non, V.int 5, V.ref q1, V.ref q2, V.bl true, V.ref q3, V.ref q4, V.ref D]) n5
  have hp0 := y1.at g5
  have hp1 := y2.at hp0
  have hp2 := y3.at hp1
  have hp3 := y4.at hp2
  refine ⟨p, _, _, _, 8, rfl, y5.at hp3, by decide, by omega, fun r x y z H5 r0 r1 g6 k6 => ⟨_, rfl, _, seqQ_lst (k6.keep q5 _ upd_same (ne_of_none hp3 n5.1).symm), ?_⟩⟩
  obtain ⟨ov, eo, mo⟩ := atI_in (xs := [V.non, V.int 5, V.ref q1, V.ref q2, V.bl true, V.ref q3, V.ref q4, V.ref D]) r0 r1
  refine ⟨_, eo, fin' _ _ _ _ _ (.inr ?_) g6 (((y1.trans (y2.trans (y3.trans (y4.trans y5)))).kp).trans k6)⟩
  simp only [List.mem_cons, List.not_mem_nil, or_false] at mo
  rcases mo with rfl | rfl | rfl | rfl | rfl | rfl | rfl | rfl
  · exact ⟨_, .inl .non, rfl⟩
  · exact ⟨_, .inl (.int _), rfl⟩
  · exact ⟨_, .inl (.lst (k6.keep q1 _ ((y2.trans (y3.trans (y4.trans y5))).at upd_same) (ne_of_none g5 n1.1).symm)), rfl⟩
  · exact ⟨_, .inl (.tup (k6.keep q2 _ ((y3.trans (y4.trans y5)).at upd_same) (ne_of_none hp0 n2.1).symm)), rfl⟩
  · exact ⟨_, .inl (.bl _), rfl⟩
  · exact ⟨_, .inl (.dK (k6.keep q3 _ ((y4.trans y5).at upd_same) (ne_of_none hp1 n3.1).symm)), rfl⟩
  · exact ⟨_, .inl (.tup (k6.keep q4 _ (y5.at upd_same) (ne_of_none hp2 n4.1).symm)), rfl⟩
  · exact ⟨_, .inl (.lst (k6.keep D _ ((y1.trans (y2.trans (y3.trans (y4.trans y5)))).at hD3) pD.symm)), rfl⟩
end
section
variable {X : Cx} {cs : Cs}
def tMethS (cs : Cs) (m : Str) (sp : Kd → Sp) (dvs : List V) (E : XK) (ta : TE) (t : TA) : TE := fun σ H Q => ∃ j : Kd, tMeth (cs.at j) m (sp j) dvs E ta t σ H Q
theorem emeth0s {m : Str} {k : Nat} {ps : List Str} {dvs : List V} {sp : Kd → Sp} {o : Expr} {ta : TE} {apos pos : Pos} {pl : Sem Bool} (M : ∀ j : Kd, MethC X.prog X.w X.K X.mg X.base (cs.at j) m k ps dvs (sp j)) (c : ∀ j : Kd, Cls X.K (cs.at j)) (hr : Room k X.A) (ho : JE X o ta)
    (ht : eval (.Call (.Attribute o m apos) [] [] pos) X.env = (do
      let ov ← eval o X.env
      standAt apos.atName
      let (f, first) ← holding [ov] (getMethod ov m pl)
      callWith pos f first (backTo pos (starEach [] X.env)) (backToKw pos (keywordEach [] X.env))) := by rfl) :
    JE X (.Call (.Attribute o m apos) [] [] pos) (tMethS cs m sp dvs E0 ta tNil) := ⟨fun pins s σ H Q I ⟨j, h⟩ => (emeth0 (M j) (c j) hr ho ht).h pins s σ H Q I h⟩
theorem op_neOs {k : Nat} {ps : List Str} {sp : Sp} (M : ∀ j : Kd, MethC X.prog X.w X.K X.mg X.base (cs.at j) "__eq__" k ps [] sp) (hr : Room (k + 1) X.A) : OpR X (compareOp .NotEq) (fun x y H Q => ∃ j : Kd, rNeO X.K (cs.at j) sp x y H Q) :=
  fun pins s σ H x y v u Q I rx ry ⟨j, h⟩ => op_neO (M j) hr pins s σ H x y v u Q I rx ry h
theorem call_strIs {k : Nat} {ps : List Str} {sp : Sp} (M : ∀ j : Kd, MethC X.prog X.w X.K X.mg X.base (cs.at j) "__str__" k ps [] sp) (hr : Room (k + 2) X.A) :
    CallR X (.type "str") (fun xs H Q => ∃ (j : Kd) (a dx : Addr) (fs : List (Str × V)), xs = [.ref a] ∧ H a = some (.ins (cs.at j) dx fs) ∧ sp [.ref a] H (fun v H' => ∃ t, v = .str t ∧ Q (.str t) H') E0) :=
  fun pins s σ H xs us Q I r ⟨j, h⟩ => call_strI (M j) hr pins s σ H xs us Q I r h
end
local macro_rules | `(tactic| walk_at "rd") => `(tactic| simp only [tSeq, tNext, tIfS, tAsg, gName, gSub, tRet, tRetN, tDrop, tVar, tC, tOp, tUn, rI0, rI, rU, tTest, tB, tAndV, tOrV, tNotV, tAnd, tOr, tNot, tIf, tChain, tCB, tCons, tNil, tLst, tTup, tCallC, List.getElem?_cons_zero, List.getElem?_cons_succ, List.set_cons_zero, List.set_cons_succ, Option.some.injEq, V.int.injEq, V.bl.injEq, V.ref.injEq, V.ty.injEq, V.str.injEq, List.cons.injEq, exists_eq_left', exists_eq_left, exists_and_left, and_true, true_and, and_assoc, cxK, rIxF, rSetL, rEq, rNe, scal, HO.lst.injEq, HO.tup.injEq, upd_none, ixN_10, ixN_20, ixN_21, ixN_30, ixN_31, ixN_32, upd_same, seqAt_updL, seqAt_updT, atI_0, atI_1, atI_2, atI_3, decide_eq_true_eq, L2.start, List.map_cons, List.map_nil, List.length_cons, List.length_nil, Nat.reduceAdd, Nat.reduceSub, List.replicate_succ, List.replicate_zero, List.cons_append, List.nil_append, List.append_nil, tFor_rng1, tFor_rng2, tFor_list, tFor_tup, CDv, CMul, CPow, sizeLine_eq, Int.reduceLE, Int.reduceLT, Int.reducePow, Int.reduceToNat, Int.reduceAdd, Int.reduceSub, Int.reduceMul, Int.reduceNeg, Nat.reduceLeDiff, Nat.reducePow, Nat.reduceLT, Int.reduceEq, true_or, or_true, ite_true, ite_false, if_true, if_false, Bool.not_true, Bool.not_false, Bool.false_eq_true, decide_true, decide_false, rIxQ, seqQ_updL, seqQ_updT, tupQ_updT, tSl, tNoPart, tPart, rSlQ, rSlTX, rCatQ, rCatTX, rCatTX0, tTupQ, tLstQ, new_upd, tNever, rEqD, rInQ, gTupQ, gCons, gNil, tBM, rAppend, tMakeQ, sFld, tFld, tMeth, tBM0, cxN, tCall, tRaise, tTry, Ends.gone, pick_nil, pick_own, pick_cap, join_some, tLc_list, tYes, tyV, tDNewQ, tFor_list, rEqO, rNeO, rInO, tLc_tup, gStarL, rIxS, rIsascii, rIsdigit, rRemPre, rSplit, tLc_text, rNeE, rSlS, rIndexS, rUpper, rJoin, tMethS])
local macro_rules | `(tactic| walk_at "rn") => `(tactic| simp only [tSeq, tNext, tIfS, tAsg, gName, gSub, tRet, tRetN, tDrop, tVar, tC, tOp, tUn, rI0, rI, rU, tTest, tB, tAndV, tOrV, tNotV, tAnd, tOr, tNot, tIf, tChain, tCB, tCons, tNil, tLst, tTup, tCallC, List.getElem?_cons_zero, List.getElem?_cons_succ, List.set_cons_zero, List.set_cons_succ, Option.some.injEq, V.int.injEq, V.bl.injEq, V.ref.injEq, V.ty.injEq, V.str.injEq, List.cons.injEq, exists_eq_left', exists_eq_left, exists_and_left, and_true, true_and, and_assoc, cxK, rIxF, rSetL, rEq, rNe, scal, HO.lst.injEq, HO.tup.injEq, upd_none, ixN_10, ixN_20, ixN_21, ixN_30, ixN_31, ixN_32, upd_same, seqAt_updL, seqAt_updT, atI_0, atI_1, atI_2, atI_3, decide_eq_true_eq, L2.start, List.map_cons, List.map_nil, List.length_cons, List.length_nil, Nat.reduceAdd, Nat.reduceSub, List.replicate_succ, List.replicate_zero, List.cons_append, List.nil_append, List.append_nil, tFor_rng1, tFor_rng2, tFor_list, tFor_tup, CDv, CMul, CPow, sizeLine_eq, Int.reduceLE, Int.reduceLT, Int.reducePow, Int.reduceToNat, Int.reduceAdd, Int.reduceSub, Int.reduceMul, Int.reduceNeg, Nat.reduceLeDiff, Nat.reducePow, Nat.reduceLT, Int.reduceEq, true_or, or_true, ite_true, ite_false, if_true, if_false, Bool.not_true, Bool.not_false, Bool.false_eq_true, decide_true, decide_false, rIxQ, seqQ_updL, seqQ_updT, tupQ_updT, tSl, tNoPart, tPart, rSlQ, rSlTX, rCatQ, rCatTX, rCatTX0, tTupQ, tLstQ, tNever, rEqD, rInQ, gTupQ, gCons, gNil, tBM, rAppend, tMakeQ, sFld, tFld, tMeth, tBM0, cxN, tCall, tRaise, tTry, Ends.gone, pick_nil, pick_own, pick_cap, join_some, tLc_list, tYes, tyV, tDNewQ, tFor_list, rEqO, rNeO, rInO, tLc_tup, gStarL, rIxS, rIsascii, rIsdigit, rRemPre, rSplit, tLc_text, rNeE, rSlS, rIndexS, rUpper, rJoin, tMethS])
local macro_rules | `(tactic| simp_arith [$hs,*]) => `(tactic| simp only [tSeq, tNext, tIfS, tAsg, gName, gSub, tRet, tRetN, tDrop, tVar, tC, tOp, tUn, rI0, rI, rU, tTest, tB, tAndV, tOrV, tNotV, tAnd, tOr, tNot, tIf, tChain, tCB, tCons, tNil, tLst, tTup, tCallC, List.getElem?_cons_zero, List.getElem?_cons_succ, List.set_cons_zero, List.set_cons_succ, Option.some.injEq, V.int.injEq, V.bl.injEq, V.ref.injEq, V.ty.injEq, V.str.injEq, List.cons.injEq, exists_eq_left', exists_eq_left, exists_and_left, and_true, true_and, and_assoc, cxK, rIxF, rSetL, rEq, rNe, scal, HO.lst.injEq, HO.tup.injEq, upd_none, ixN_10, ixN_20, ixN_21, ixN_30, ixN_31, ixN_32, upd_same, seqAt_updL, seqAt_updT, atI_0, atI_1, atI_2, atI_3, decide_eq_true_eq, L2.start, List.map_cons, List.map_nil, List.length_cons, List.length_nil, Nat.reduceAdd, Nat.reduceSub, List.replicate_succ, List.replicate_zero, List.cons_append, List.nil_append, List.append_nil, tFor_rng1, tFor_rng2, tFor_list, tFor_tup, CDv, CMul, CPow, sizeLine_eq, Int.reduceLE, Int.reduceLT, Int.reducePow, Int.reduceToNat, Int.reduceAdd, Int.reduceSub, Int.reduceMul, Int.reduceNeg, Nat.reduceLeDiff, Nat.reducePow, Nat.reduceLT, Int.reduceEq, true_or, or_true, ite_true, ite_false, if_true, if_false, Bool.not_true, Bool.not_false, Bool.false_eq_true, decide_true, decide_false, rIxQ, seqQ_updL, seqQ_updT, tupQ_updT, tSl, tNoPart, tPart, rSlQ, rSlTX, rCatQ, rCatTX, rCatTX0, tTupQ, tLstQ, tNever, rEqD, rInQ, gTupQ, gCons, gNil, tBM, rAppend, tMakeQ, sFld, tFld, tMeth, tBM0, cxN, tCall, tRaise, tTry, Ends.gone, pick_nil, pick_own, pick_cap, join_some, tLc_list, tYes, tyV, tDNewQ, tFor_list, rEqO, rNeO, rInO, tLc_tup, gStarL, rIxS, rIsascii, rIsdigit, rRemPre, rSplit, tLc_text, rNeE, rSlS, rIndexS, rUpper, rJoin, tMethS, $hs,*])
section
variable {P : Program} {w : World} {K : PySem.W.Frag} {mg : Str → Option Value} {base : Heap}
def spWord (K : PySem.W.Frag) (cs : Cs) : Sp := fun vs H Q _ => ∃ v, vs = [v] ∧ ((∃ t : Str, v = .str t ∧ t.length ≤ 10000000 ∧
  (∀ (k : Kd) us, pX t = k.word → pO t = us.map some → k.ok us → ∀ a b H', Ext K H H' → DeedAt (cs.at k) H' a k us → tupQ K H' b = some [.str "told", .ref a] → Q (.ref b) H') ∧
  (¬ IsD (pX t) (pO t) → ∀ b H', Ext K H H' → tupQ K H' b = some [.str "deed", .non] → Q (.ref b) H')) ∨ (NoStr K H v ∧ ∀ b H', Ext K H H' → tupQ K H' b = some [.str "deed", .non] → Q (.ref b) H'))
theorem word_of_words {cs : Cs} {cD : Addr} {v : V} {H : Hp} {Q : VK} {E E1 : XK} (h : spWord K cs [v] H Q E1) (caught : ∀ H', Ext K H H' → (∀ b H'', Ext K H H'' → tupQ K H'' b = some [.str "deed", .non] → Q (.ref b) H'') → E (.ref cD) none H') :
    spRW K cs cD [v] H (fun x H1 => ∀ p, new K H1 p → Q (V.ref p) (upd H1 p (HO.tup [V.str (Str.ofString "told"), x]))) E := by
  obtain ⟨v', e, h⟩ := h
  cases e
  rcases h with ⟨t, rfl, l, q, qn⟩ | ⟨ns, qn⟩
  · exact ⟨_, rfl, .inl ⟨t, rfl, l, fun k us e1 e2 ok a H' x' hd p np => q k us e1 e2 ok a p _ (x'.trans (Ext.new np)) (hd.ext (Ext.new np)) tupQ_updT, fun z H' x' => caught H' x' (qn z)⟩⟩
  · exact ⟨_, rfl, .inr ⟨ns, caught H Ext.refl qn⟩⟩
theorem sc__law_word : FnScope ["_law_text", "_law_found", "e", "_law_kinds"] ["_law_text"] (defScope s__law_word) := ⟨rfl, rfl, rfl, by decide +kernel, rfl, by decide +kernel, by decide +kernel⟩
theorem ok__law_word {f : Addr} {fd : FuncData} (F : Fun K "_law_word" "_law_word" s__law_word f fd) {aTh cF cD cK cS cM cA cP : Addr} {tE tM tN tF u1 u2 u3 u4 u5 u6 u7 u8 : Tok} (B : B P w K mg aTh cF cD cK cS cM cA cP tE tM tN tF u1 u2 u3 u4 u5 u6 u7 u8) {cs : Cs} (C_read_words : CalleeX P w K mg base "read_words" 7 ["text"] (spRW K cs cD)) : FnOk P w K mg base CX0 8 f fd ["_law_text"] (spWord K cs) := by
  refine F.okJ sc__law_word (fun vs H Q E h => ?_) (fun cdv A outer s H vs Q E hr h => ?_)
  · obtain ⟨v, rfl, _⟩ := h
    rfl
  have h0 := h
  obtain ⟨v, rfl, h⟩ := h
  refine ⟨_, (bcons (sset (i := 1) sc__law_word.nd rfl (Or.inl rfl) enon)
      (bcons (stry (i := 2) sc__law_word.nd rfl rfl rfl B.FallError ⟨rfl, rfl⟩ rfl (fun E1 xe pn hp => (bone (sset (i := 1) sc__law_word.nd rfl (Or.inl rfl) (etupQK K (acons estr (acons (ecallX C_read_words hp (hr.mono (by decide)) rfl (acons (ev 0) anil)) anil))))))
        (fun a xe pn => (bcons (sset (i := 3) sc__law_word.nd rfl (Or.inl rfl) (elstQK K (acons (ecallB (call_isexcK K) rfl B.isinstance bt_isinstance (acons (ev 2) (acons (eglob rfl B.NoKey B.NoKey_is) anil))) (acons (ecallB (call_isexcK K) rfl B.isinstance bt_isinstance (acons (ev 2) (acons (eglob rfl B.NoStretch B.NoStretch_is) anil))) (acons (ecallB (call_isexcK K) rfl B.isinstance bt_isinstance (acons (ev 2) (acons (eglob rfl B.NoMark B.NoMark_is) anil))) anil)))))
      (bcons (sset (i := 3) sc__law_word.nd rfl (Or.inl rfl) (eop (op_catQK K) (ev 3) (elstQK K (acons (ecallB (call_isexcK K) rfl B.isinstance bt_isinstance (acons (ev 2) (acons (eglob rfl B.NoAction B.NoAction_is) anil))) (acons (ecallB (call_isexcK K) rfl B.isinstance bt_isinstance (acons (ev 2) (acons (eglob rfl B.NoPage B.NoPage_is) anil))) anil)))))
      (bone (sset (i := 1) sc__law_word.nd rfl (Or.inl rfl) (etupQK K (acons (eix (ix_QK K) (elstQK K (acons estr (acons estr anil))) (ecallTy call_intB rfl B.int bt_int (acons (eand (ecallB (call_isexcK K) rfl B.isinstance bt_isinstance (acons (ev 2) (acons (eglob rfl B.NoDeed B.NoDeed_is) anil))) (eone (ecmp (op_notInQK K) ebl (ev 3) (by with_unfolding_all rfl)))) anil)) (fun _ _ => rfl)) (acons enon anil)))))))))
      (bone (sret (ev 1))))), ?_⟩
  try walk_at "rn"
  have X := B.xD
  refine word_of_words h0 fun H' x' q => ?_
  refine ⟨cD, rfl, X.i, X.m, fun a na => ⟨cD, rfl, X.i, _, X.k1, cD, rfl, X.i, _, X.k2, cD, rfl, X.i, _, X.k3, fun p1 n1 => ?_⟩⟩
  have x0 := Ext.new (K := K) (o := .ext (XAt a cD)) na
  have x1 := Ext.new (K := K) (o := .lst [V.bl false, V.bl false, V.bl false]) n1
  have ha := x1.same _ _ (upd_same (H := H') (a := a) (o := .ext (XAt a cD)))
  have e1 := upd_same (H := upd H' a (.ext (XAt a cD))) (a := p1) (o := .lst [V.bl false, V.bl false, V.bl false])
  have xx := x'.trans (x0.trans x1)
  generalize upd (upd H' a (.ext (XAt a cD))) p1 (.lst [V.bl false, V.bl false, V.bl false]) = G at ha e1 xx ⊢
  refine ⟨cD, ha, X.i, _, X.k4, cD, ha, X.i, _, X.k5, fun p2 n2 => ?_⟩
  have x2 := Ext.new (K := K) (o := .lst [V.bl false, V.bl false]) n2
  refine ⟨_, x2.same _ _ e1, by decide, fun p3 n3 p4 n4 => ?_⟩
  have x3 := Ext.new (K := K) (o := .lst ([V.bl false, V.bl false, V.bl false] ++ [V.bl false, V.bl false])) n3
  have x4 := Ext.new (K := K) (o := .lst [V.str "other", V.str "deed"]) n4
  have e3 := x4.same _ _ (upd_same (H := upd G p2 (.lst [V.bl false, V.bl false])) (a := p3) (o := .lst ([V.bl false, V.bl false, V.bl false] ++ [V.bl false, V.bl false])))
  have e4 := upd_same (H := upd (upd G p2 (.lst [V.bl false, V.bl false])) p3 (.lst ([V.bl false, V.bl false, V.bl false] ++ [V.bl false, V.bl false]))) (a := p4) (o := .lst [V.str "other", V.str "deed"])
  have ha4 := (x2.trans (x3.trans x4)).same _ _ ha
  have xx4 := xx.trans (x2.trans (x3.trans x4))
  generalize upd (upd (upd G p2 (.lst [V.bl false, V.bl false])) p3 (.lst ([V.bl false, V.bl false, V.bl false] ++ [V.bl false, V.bl false]))) p4 (.lst [V.str "other", V.str "deed"]) = G4 at e3 e4 ha4 xx4 ⊢
  exact ⟨cD, ha4, X.i, _, X.k0, iteT' rfl ⟨_, seqQ_lst e3, rfl, by decide, _, rfl, fun p np => q p _ (xx4.trans (Ext.new np)) tupQ_updT⟩⟩
def spLaw (K : PySem.W.Frag) : Sp := fun vs H Q _ => ∃ (a : Addr) (ns : List Int), vs = [.ref a] ∧ SqL K H a (ns.map V.int) ∧ ns.length ≤ 63 ∧ Only H ∧ ∀ H', Q (.bl true) H'
def spDeedQ (K : PySem.W.Frag) (cs : Cs) : Sp := fun vs H Q _ => ∃ r k us, vs = [.ref r] ∧ tupQ K H r = some (Kd.told k us) ∧ Kd.ok k us ∧ ∀ a H', Ext K H H' → DeedAt (cs.at k) H' a k us → Q (.ref a) H'
theorem deedQ {cs : Cs} {cD : Addr} : ∀ (vs : List V) (H : Hp) (Q : VK) (E : XK), spDeedQ K cs vs H Q E → spDeed K cs cD vs H Q fun _ _ _ => False := by
  rintro vs H Q E ⟨r, k, us, rfl, h, ok, q⟩
  refine ⟨r, k.word, us.map some, rfl, by rw [h, List.map_map]; rfl, fun j vs e1 e2 ok2 a H' x d => ?_, fun z => absurd ⟨k, rfl, us, rfl, ok⟩ z⟩
  obtain rfl := word_inj e1
  obtain rfl : us = vs := (List.map_inj_right fun _ _ => Option.some.inj).mp e2
  exact q a H' x d
theorem sc_law : FnScope ["_law_script", "_law_cell", "_law_well_here", "_law_way", "_law_text", "_law_due", "_law_word_here", "_law_deed_here"] ["_law_script"] (defScope s_law) := ⟨rfl, rfl, rfl, by decide +kernel, rfl, by decide +kernel, by decide +kernel⟩
theorem ok_law {f : Addr} {fd : FuncData} (F : Fun K "law" "law" s_law f fd) {aTh cF cD cK cS cM cA cP : Addr} {tE tM tN tF u1 u2 u3 u4 u5 u6 u7 u8 : Tok} (B : B P w K mg aTh cF cD cK cS cM cA cP tE tM tN tF u1 u2 u3 u4 u5 u6 u7 u8) {cs : Cs} {cDeed : Addr} (dc : ∀ k : Kd, DC K (cs.at k) cDeed) (MT : ∀ k : Kd, MethC P w K mg base (cs.at k) "told" 1 ["self"] [] (spTold K k (cs.at k))) (ME : ∀ k : Kd, MethC P w K mg base (cs.at k) "__eq__" 2 ["self", "other"] [] (spEq K cs cDeed)) (MR : ∀ k : Kd, MethC P w K mg base (cs.at k) "__str__" 3 ["self"] [] (spStr K cs)) (ec : ∀ k j : Kd, EqCls K (cs.at k) (cs.at j))
    (C__law_well : Callee P w K mg base "_law_well" 1 ["_law_cell"] (spWell K)) (C__law_draw : Callee P w K mg base "_law_draw" 1 ["_law_well_here", "_law_many"] (spDraw K)) (C__law_deed : Callee P w K mg base "_law_deed" 4 ["_law_well_here"] (spDeedL K)) (C__law_spoilt : Callee P w K mg base "_law_spoilt" 3 ["_law_well_here", "_law_text"] (spSpoil K)) (C__law_read : Callee P w K mg base "_law_read" 2 ["_law_text"] (spRead K))
    (C__law_word : Callee P w K mg base "_law_word" 8 ["_law_text"] (spWord K cs)) (Q_deed_of : Callee P w K mg base "deed_of" 6 ["told"] (spDeedQ K cs)) :
    FnOk P w K mg base CX0 9 f fd ["_law_script"] (spLaw K) := by
  refine F.okJ sc_law (fun vs H Q E h => ?_) (fun cdv A outer s H vs Q E hr h => ?_)
  · obtain ⟨a, ns, rfl, _⟩ := h
    rfl
  obtain ⟨a, ns, rfl, hS, h63, ho, q⟩ := h
  refine ⟨_, (bcons (sfor PassesOwn.never rfl (ilist (eop op_catQ (elstQ (acons ei (acons ei anil))) (eslice sl_listQ (ev 0) onone (osome ei)))) (gname (i := 1) sc_law.nd rfl (Or.inl rfl))
        (bcons (sset (i := 2) sc_law.nd rfl (Or.inl rfl) (ecall C__law_well (hr.mono (by decide)) rfl (acons (ev 1) anil)))
      (bcons (sset (i := 3) sc_law.nd rfl (Or.inl rfl) (ecall C__law_draw (hr.mono (by decide)) rfl (acons (ev 2) (acons ei anil))))
      (bcons (sset (i := 4) sc_law.nd rfl (Or.inl rfl) (ebm PySem.F.plainAttrs_str PySem.F.slot_str_join PySem.F.type_str_join mt_join estr (acons (elc (Cap.mk (N := ["_law_one"]) (src := [none]) rfl rfl) rfl (itup (ecall C__law_deed (hr.mono (by decide)) rfl (acons (ev 2) anil))) (fun _ _ _ _ => (gname (i := 0) (show (["_law_one"] : List Str).Nodup from by decide +kernel) rfl (Or.inl rfl))) (fun _ _ _ _ => fnone) (fun _ _ _ _ => (ecallTy call_strA rfl B.str bt_str (acons (ev 0) anil)))) anil)))
      (bcut (sif (tcmp op_gt (ev 3) ei (nomark _)) (bone (sset (i := 4) sc_law.nd rfl (Or.inl rfl) (ecall C__law_spoilt (hr.mono (by decide)) rfl (acons (ev 2) (acons (ev 4) anil))))) bnil)
      (bcons (sset (i := 5) sc_law.nd rfl (Or.inl rfl) (ecall C__law_read (hr.mono (by decide)) rfl (acons (ev 4) anil)))
      (bcons (sasg (ecall C__law_word (hr.mono (by decide)) rfl (acons (ev 4) anil)) (gtupQ (n := 2) rfl (gcons (gname (i := 6) sc_law.nd rfl (Or.inl rfl)) (gcons (gname (i := 7) sc_law.nd rfl (Or.inl rfl)) gnil))))
      (bcons (sif (tcmp op_ne (ev 6) (eix ix_Q (elstQ (acons estr (acons estr anil))) (ecallTy call_intB rfl B.int bt_int (acons (ecmp op_isN (ev 5) enon (nomark _)) anil)) (fun _ _ => rfl)) (nomark _)) (bone (sret ebl)) bnil)
      (bcons (sif (tw (wand (tcmp op_notN (ev 5) enon (nomark _)) (wand1 (tw (wor (tcmp (op_neD hr.units) (emeth0s MT (fun k => (dc k).cl) (hr.mono (by decide)) (ev 7)) (ev 5) (nomark _)) (wor1 (tcmp op_ne (ecallTy (call_strIs MR (hr.mono (by decide))) rfl B.str bt_str (acons (ev 7) anil)) (ev 4) (nomark _)))))))) (bone (sret ebl)) bnil)
      (bone (sif (tw (wand (tcmp op_notN (ev 5) enon (nomark _)) (wand1 (tcmp (op_neOs ME (hr.mono (by decide))) (ev 7) (ecall Q_deed_of (hr.mono (by decide)) rfl (acons (ev 5) anil)) (nomark _))))) (bone (sret ebl)) bnil)))))))))))
      (bone (sret ebl))), ?_⟩
  try walk_at "rn"
  intro b0 n0
  refine ⟨_, (Ext.new n0).same.seq hS, fun b1 n1 => ⟨_, (Ext.new n1).at upd_same, ?_, fun b2 n2 => ⟨⟨_, SqL.of upd_same⟩, ?_⟩⟩⟩
  · have z1 := cutV_length (ns.map V.int) none (some 16)
    rw [List.length_map] at z1
    simp only [List.length_cons, List.length_nil]
    omega
  have allI : ∀ x ∈ ([V.int 0, V.int 3] ++ cutV (ns.map V.int) none (some 16) : List V), ∃ c : Int, x = .int c := by
    intro x hx
    rcases List.mem_append.mp hx with hx | h
    · simp only [List.mem_cons, List.not_mem_nil, or_false] at hx
      rcases hx with rfl | rfl
      · exact ⟨_, rfl⟩
      · exact ⟨_, rfl⟩
    · obtain ⟨c, _, rfl⟩ := List.mem_map.mp (List.mem_of_mem_drop (List.mem_of_mem_take h))
      exact ⟨c, rfl⟩
  obtain ⟨G, eqG⟩ : ∃ G, G = (upd (upd (upd H b0 (.lst [.int 0, .int 3])) b1 (.lst (cutV (ns.map V.int) none (some 16)))) b2 (.lst ([V.int 0, V.int 3] ++ cutV (ns.map V.int) none (some 16)))) := ⟨_, rfl⟩
  have eG : G b2 = some (.lst ([V.int 0, V.int 3] ++ cutV (ns.map V.int) none (some 16))) := by rw [eqG]; exact upd_same
  rw [← eqG]
  clear eqG
  refine loop_list (xs := [V.int 0, V.int 3] ++ cutV (ns.map V.int) none (some 16)) (fun i σ H2 => ∃ (v1 v2 v3 v4 v5 v6 v7 : Option V), σ = [some (.ref a), v1, v2, v3, v4, v5, v6, v7] ∧ Ext K G H2) ⟨_, _, _, _, _, _, _, rfl, Ext.refl⟩ ?_ ?_ ?_
  · rintro i σ H2 _ ⟨_, _, _, _, _, _, _, _, x⟩
    exact SqL.of (x.at eG)
  · rintro i x σ H0 hi ⟨v1, v2, v3, v4, v5, v6, v7, rfl, x0⟩
    obtain ⟨c, rfl⟩ := allI x (List.mem_of_getElem? hi)
    try walk_at "rn"
    refine ⟨c, rfl, fun p x y z np => ⟨p, _, _, _, 5, rfl, upd_same, by decide, by omega, fun way x y z H1 w0 w1 g1 k1 => ⟨p, _, _, _, rfl, g1, fun b k us x y z H2 ok hs t2 g2 k2 => ⟨b, rfl, ⟨_, tupQ_sq t2⟩, fun D nD => ?_⟩⟩⟩⟩
    have xE : Ext K H0 H2 := Kp.ext (k1.trans k2) np
    obtain ⟨z1, z2⟩ := Kd.itsS ok hs
    have z3 : ∀ t ∈ (k.items us).map itT, t.length ≤ 101 := fun t ht => by
      obtain ⟨z, hz, rfl⟩ := List.mem_map.mp ht
      exact itS_len (z2 z hz)
    have l1 := lenAll_le (sep := Str.ofString " ") _ z3
    have l2 := join_le (sep := Str.ofString " ") _ z3
    rw [List.length_map, show (Str.ofString " ").length = 1 from by decide +kernel] at l1 l2
    have sz := sizeLine_eq
    refine lc_mapXT (f := itV) (g := fun q => V.str (itT q)) (L := k.items us) (by rw [← Kd.told_items]; exact t2) nD (by omega) (fun z hz H' Q' xx qq => ?_) (fun H3 hD x3 => ?_)
    · try walk_at "rn"
      cases z with
      | inl t => exact .inr ⟨t, rfl, qq _ Ext.refl⟩
      | inr i => exact .inl ⟨i, rfl, num_log (z2 _ hz), qq _ Ext.refl⟩
    refine ⟨(k.items us).map itT, by rw [List.map_map]; exact SqL.of hD, by omega, by omega, ?_⟩
    have xB := x0.trans (xE.trans x3)
    have g3 := x3.at g2
    have lT : (Str.join (Str.ofString " ") ((k.items us).map itT)).length ≤ 408 := by omega
    generalize Str.join (Str.ofString " ") ((k.items us).map itT) = T at lT
    have kB := k1.trans (k2.trans x3.kp)
    clear hD x3 xE nD t2 g2 k1 k2 g1 l1 l2 z1 z2 z3
    refine ⟨fun σ H' => ∃ v4, σ = [some (.ref a), some (.int c), some (.ref p), some (.int way), some v4, v5, v6, v7] ∧ Odd K H' v4 ∧ Ext K G H', ?_, ?_⟩
    · try walk_at "rn"
      refine ite2 (fun c => ?_) (fun c => ?_)
      · exact ⟨p, _, _, _, T, rfl, g3, lT, fun v x y z H' h g kk => ⟨h, x0.trans (Kp.ext (kB.trans kk) np)⟩⟩
      · exact ⟨.inl ⟨T, rfl, by omega⟩, xB⟩
    rintro σ H4 ⟨v4, rfl, od, x4⟩
    try walk_at "rn"
    have none : ∀ H5, Ext K H4 H5 → ∀ b6 H6, Ext K H5 H6 → tupQ K H6 b6 = some [.str "deed", .non] → ∀ q1, new K H6 q1 → Ext K G (upd H6 q1 (.lst [V.str "told", V.str "deed"])) := fun H5 x5 b6 H6 x6 t6 q1 n1 => x4.trans (x5.trans (x6.trans (Ext.new n1)))
    by_cases hd : ∃ t, v4 = .str t ∧ t.length ≤ 10000000 ∧ IsD (pX t) (pO t)
    case neg =>
      rcases od with ⟨t, rfl, lt⟩ | ns
      · have nd : ¬ IsD (pX t) (pO t) := fun z => hd ⟨t, rfl, lt, z⟩
        exact ⟨_, rfl, .inl ⟨t, rfl, lt, fun k us e1 e2 ok => absurd ⟨k, e1, us, e2, ok⟩ nd, fun _ H5 x5 => ⟨_, rfl, .inl ⟨t, rfl, lt, fun k us e1 e2 ok => absurd ⟨k, e1, us, e2, ok⟩ nd, fun _ b6 H6 x6 t6 => ⟨b6, rfl, _, t6, rfl, _, _, rfl, _, _, rfl, rfl, fun q1 n1 => ⟨_, rfl, rfl, iteF' (by decide) (iteF' (by decide) (iteF' (by decide) (none H5 x5 b6 H6 x6 t6 q1 n1)))⟩⟩⟩⟩⟩⟩
      · exact ⟨_, rfl, .inr ⟨ns, _, rfl, .inr ⟨ns, fun b6 H6 x6 t6 => ⟨b6, rfl, _, t6, rfl, _, _, rfl, _, _, rfl, rfl, fun q1 n1 => ⟨_, rfl, rfl, iteF' (by decide) (iteF' (by decide) (iteF' (by decide) (none H4 Ext.refl b6 H6 x6 t6 q1 n1)))⟩⟩⟩⟩⟩
    obtain ⟨t, rfl, lt, kd, e1, us', e2, okd⟩ := hd
    obtain ⟨ht1, hs1⟩ := text_of e1 e2
    have isd : IsD (pX t) (pO t) := ⟨kd, e1, us', e2, okd⟩
    refine ⟨_, rfl, .inl ⟨t, rfl, lt, fun k1 us1 f1 f2 ok1 r H5 x5 t5 => ?_, fun z => absurd isd z⟩⟩
    obtain rfl := word_inj (e1.symm.trans f1)
    obtain rfl : us' = us1 := (List.map_inj_right fun _ _ => Option.some.inj).mp (e2.symm.trans f2)
    refine ⟨_, rfl, .inl ⟨t, rfl, lt, fun k1 us1 f1 f2 ok1 o b6 H6 x6 dO t6 => ?_, fun z => absurd isd z⟩⟩
    obtain rfl := word_inj (e1.symm.trans f1)
    obtain rfl : us' = us1 := (List.map_inj_right fun _ _ => Option.some.inj).mp (e2.symm.trans f2)
    refine ⟨b6, rfl, _, t6, rfl, _, _, rfl, _, _, rfl, rfl, fun q1 n1 => ⟨_, rfl, rfl, iteF' (by simp) (iteT' (by simp) ?_)⟩⟩
    have x7 := Ext.new (K := K) (o := .lst [V.str "told", V.str "deed"]) n1
    obtain ⟨dy, ed⟩ := dO.ext x7
    have tr := (x6.trans x7).tup t5
    have x47 := x4.trans (x5.trans (x6.trans x7))
    clear dO t6 t5 x5 x6 x7 n1
    refine ⟨kd, o, rfl, dy, _, ed, no_told kd us', o, us', rfl, ok1, ⟨dy, ed⟩, fun T2 nT => ?_⟩
    have xT := Ext.new (K := K) (o := .tup (kd.told us')) nT
    have same : PyData.eqv (kd.toldD us') (kd.toldD us') = true := eqv_refl _ (SeqAt.canLay_of_shaped (shaped_told ok1))
    refine ⟨_, isTold tupQ_updT, _, isTold (xT.tup tr), shaped_told ok1, shaped_told ok1, iteF' (by rw [same]; decide) ?_⟩
    refine ⟨kd, o, rfl, dy, _, xT.at ed, o, kd, us', rfl, ok1, hs1, ⟨dy, xT.at ed⟩, fun H8 x8 => ⟨_, rfl, rfl, iteF' (by rw [ht1]; simp) (iteT' (by simp) ?_)⟩⟩
    have X8 := xT.trans x8
    refine ⟨r, kd, us', rfl, X8.tup tr, ok1, fun a2 H9 x9 d9 => ?_⟩
    obtain ⟨y9, e9⟩ := d9
    have X9 := X8.trans x9
    exact ⟨kd, o, rfl, dy, _, a2, rfl, X9.at ed, cs.at kd, _, _, e9, ec kd kd, o, .ref a2, kd, us', rfl, ok1, ⟨dy, X9.at ed⟩, .inl ⟨a2, kd, us', rfl, ok1, ⟨_, e9⟩, fun H10 x10 => ⟨_, rfl, iteF' (by rw [same]; decide) (x47.trans (X9.trans x10))⟩⟩⟩
  · rintro σ H2 ⟨v1, v2, v3, v4, v5, v6, v7, rfl, x0⟩
    try walk_at "rn"
    exact q _
end
theorem all_mk {l : PySem.W.OpenLaw} {w : World} {K : PySem.W.Frag} {h : Heap} {mg : Str → Option Value} {fa f1 f2 f3 f4 f5 f6 f7 f8 f9 f10 f11 f12 f13 f14 f15 f16 f17 f18 f19 f20 f21 f22 f23 f24 f25 f26 f27 f28 f29 f30 f31 f32 f33 f34 f35 f36 f37 f38 f39 f40 f41 f42 f43 f44 f45 : Addr} {od1 an1 od2 an2 od3 an3 od4 an4 od5 an5 od6 an6 od7 an7 od8 an8 od9 an9 od10 an10 od11 an11 od12 an12 od13 an13 od14 an14 od15 an15 od16 an16 od17 an17 od18 an18 od19 an19 od20 an20 od21 an21 od22 an22 od23 an23 od24 an24 od25 an25 od26 an26 od27 an27 od28 an28 od29 an29 od30 an30 od31 an31 od32 an32 od33 an33 od34 an34 od35 an35 od36 an36 od37 an37 od38 an38 od39 an39 od40 an40 od41 an41 od42 an42 od43 an43 od44 an44 od45 an45 : Option Addr} {sl1 sl2 sl3 sl4 sl5 sl6 sl7 sl8 sl9 sl10 sl11 sl12 sl13 sl14 sl15 sl16 sl17 sl18 sl19 sl20 sl21 sl22 sl23 sl24 sl25 sl26 sl27 sl28 sl29 sl30 sl31 sl32 sl33 sl34 sl35 sl36 sl37 sl38 sl39 sl40 sl41 sl42 sl43 sl44 sl45 : Array (Option Value)} {oc1 kV1 dc1 pm1 cd1 ct1 oc2 kV2 dc2 pm2 cd2 ct2 oc3 kV3 dc3 pm3 cd3 ct3 oc4 kV4 dc4 pm4 cd4 ct4 oc5 kV5 dc5 pm5 cd5 ct5 oc6 kV6 dc6 pm6 cd6 ct6 oc7 kV7 dc7 pm7 cd7 ct7 oc8 kV8 dc8 pm8 cd8 ct8 oc9 kV9 dc9 pm9 cd9 ct9 oc10 kV10 dc10 pm10 cd10 ct10 oc11 kV11 dc11 pm11 cd11 ct11 oc12 kV12 dc12 pm12 cd12 ct12 oc13 kV13 dc13 pm13 cd13 ct13 oc14 kV14 dc14 pm14 cd14 ct14 oc15 kV15 dc15 pm15 cd15 ct15 oc16 kV16 dc16 pm16 cd16 ct16 oc17 kV17 dc17 pm17 cd17 ct17 oc18 kV18 dc18 pm18 cd18 ct18 oc19 kV19 dc19 pm19 cd19 ct19 oc20 kV20 dc20 pm20 cd20 ct20 oc21 kV21 dc21 pm21 cd21 ct21 oc22 kV22 dc22 pm22 cd22 ct22 oc23 kV23 dc23 pm23 cd23 ct23 oc24 kV24 dc24 pm24 cd24 ct24 oc25 kV25 dc25 pm25 cd25 ct25 oc26 kV26 dc26 pm26 cd26 ct26 oc27 kV27 dc27 pm27 cd27 ct27 oc28 kV28 dc28 pm28 cd28 ct28 oc29 kV29 dc29 pm29 cd29 ct29 oc30 kV30 dc30 pm30 cd30 ct30 oc31 kV31 dc31 pm31 cd31 ct31 oc32 kV32 dc32 pm32 cd32 ct32 oc33 kV33 dc33 pm33 cd33 ct33 oc34 kV34 dc34 pm34 cd34 ct34 oc35 kV35 dc35 pm35 cd35 ct35 oc36 kV36 dc36 pm36 cd36 ct36 oc37 kV37 dc37 pm37 cd37 ct37 oc38 kV38 dc38 pm38 cd38 ct38 oc39 kV39 dc39 pm39 cd39 ct39 oc40 kV40 dc40 pm40 cd40 ct40 oc41 kV41 dc41 pm41 cd41 ct41 oc42 kV42 dc42 pm42 cd42 ct42 oc43 kV43 dc43 pm43 cd43 ct43 oc44 kV44 dc44 pm44 cd44 ct44 oc45 kV45 dc45 pm45 cd45 ct45 : Value} {tE : Tok} {tM : Tok} {tF : Tok} {tN : Tok} {aTh : Addr} {cF : Addr} {cD : Addr} {cK : Addr} {cS : Addr} {cM : Addr} {cA : Addr} {cP : Addr} {cDeed : Addr} {cPut : Addr} {cDrop : Addr} {cAdd : Addr} {cWipe : Addr} {cRaise : Addr} {cLevel : Addr} {cMark : Addr} {cForget : Addr} {s1 s2 s3 s4 s5 s6 s7 s8 u1 u2 u3 u4 u5 u6 u7 u8 : Tok} {nT : Nat} {coD : Value} {doD : Option Addr} {cdD : ClassData} {slD : Array (Option Value)} {d12 : Addr} {do12 : Option Addr} {dn12 : Nat} {ds12 : Array (Option Value)} {dx12 : Value} {t12 : Tok} {d14 : Addr} {do14 : Option Addr} {dn14 : Nat} {ds14 : Array (Option Value)} {dx14 : Value} {t14 : Tok} {d16 : Addr} {do16 : Option Addr} {dn16 : Nat} {ds16 : Array (Option Value)} {dx16 : Value} {t16 : Tok} {d18 : Addr} {do18 : Option Addr} {dn18 : Nat} {ds18 : Array (Option Value)} {dx18 : Value} {t18 : Tok} {d20 : Addr} {do20 : Option Addr} {dn20 : Nat} {ds20 : Array (Option Value)} {dx20 : Value} {t20 : Tok} {d22 : Addr} {do22 : Option Addr} {dn22 : Nat} {ds22 : Array (Option Value)} {dx22 : Value} {t22 : Tok} {d24 : Addr} {do24 : Option Addr} {dn24 : Nat} {ds24 : Array (Option Value)} {dx24 : Value} {t24 : Tok} {d26 : Addr} {do26 : Option Addr} {dn26 : Nat} {ds26 : Array (Option Value)} {dx26 : Value} {t26 : Tok} (X : K.In h) (G : h.Ns mainGlobals mg) (hfa : mg "law" = some (.ref fa))
    (na_Put_key : PySem.W.findIn K (.ref cPut) "key" = some none)
    (na_Put_value : PySem.W.findIn K (.ref cPut) "value" = some none)
    (qa_Put : PySem.W.plainGet K cPut Str.empty = true) (qb_Put : PySem.W.hasDictIn K cPut = true) (qc_Put : PySem.W.plainOver K cPut = true) (qd_Put : PySem.W.findIn K (.ref cPut) "__setattr__" = some (some (.builtin "object.__setattr__")))
    (na_Drop_key : PySem.W.findIn K (.ref cDrop) "key" = some none)
    (qa_Drop : PySem.W.plainGet K cDrop Str.empty = true) (qb_Drop : PySem.W.hasDictIn K cDrop = true) (qc_Drop : PySem.W.plainOver K cDrop = true) (qd_Drop : PySem.W.findIn K (.ref cDrop) "__setattr__" = some (some (.builtin "object.__setattr__")))
    (na_Add_by : PySem.W.findIn K (.ref cAdd) "by" = some none)
    (na_Add_key : PySem.W.findIn K (.ref cAdd) "key" = some none)
    (qa_Add : PySem.W.plainGet K cAdd Str.empty = true) (qb_Add : PySem.W.hasDictIn K cAdd = true) (qc_Add : PySem.W.plainOver K cAdd = true) (qd_Add : PySem.W.findIn K (.ref cAdd) "__setattr__" = some (some (.builtin "object.__setattr__")))
    (na_Wipe_high : PySem.W.findIn K (.ref cWipe) "high" = some none)
    (na_Wipe_low : PySem.W.findIn K (.ref cWipe) "low" = some none)
    (qa_Wipe : PySem.W.plainGet K cWipe Str.empty = true) (qb_Wipe : PySem.W.hasDictIn K cWipe = true) (qc_Wipe : PySem.W.plainOver K cWipe = true) (qd_Wipe : PySem.W.findIn K (.ref cWipe) "__setattr__" = some (some (.builtin "object.__setattr__")))
    (na_Raise_by : PySem.W.findIn K (.ref cRaise) "by" = some none)
    (na_Raise_high : PySem.W.findIn K (.ref cRaise) "high" = some none)
    (na_Raise_low : PySem.W.findIn K (.ref cRaise) "low" = some none)
    (qa_Raise : PySem.W.plainGet K cRaise Str.empty = true) (qb_Raise : PySem.W.hasDictIn K cRaise = true) (qc_Raise : PySem.W.plainOver K cRaise = true) (qd_Raise : PySem.W.findIn K (.ref cRaise) "__setattr__" = some (some (.builtin "object.__setattr__")))
    (na_Level_high : PySem.W.findIn K (.ref cLevel) "high" = some none)
    (na_Level_low : PySem.W.findIn K (.ref cLevel) "low" = some none)
    (na_Level_value : PySem.W.findIn K (.ref cLevel) "value" = some none)
    (qa_Level : PySem.W.plainGet K cLevel Str.empty = true) (qb_Level : PySem.W.hasDictIn K cLevel = true) (qc_Level : PySem.W.plainOver K cLevel = true) (qd_Level : PySem.W.findIn K (.ref cLevel) "__setattr__" = some (some (.builtin "object.__setattr__")))
    (qa_Mark : PySem.W.plainGet K cMark Str.empty = true) (qb_Mark : PySem.W.hasDictIn K cMark = true) (qc_Mark : PySem.W.plainOver K cMark = true) (qd_Mark : PySem.W.findIn K (.ref cMark) "__setattr__" = some (some (.builtin "object.__setattr__")))
    (na_Forget_mark : PySem.W.findIn K (.ref cForget) "mark" = some none)
    (qa_Forget : PySem.W.plainGet K cForget Str.empty = true) (qb_Forget : PySem.W.hasDictIn K cForget = true) (qc_Forget : PySem.W.plainOver K cForget = true) (qd_Forget : PySem.W.findIn K (.ref cForget) "__setattr__" = some (some (.builtin "object.__setattr__")))
    (qa_Deed : PySem.W.plainGet K cDeed Str.empty = true) (qb_Deed : PySem.W.hasDictIn K cDeed = true) (qc_Deed : PySem.W.plainOver K cDeed = true) (qd_Deed : PySem.W.findIn K (.ref cDeed) "__setattr__" = some (some (.builtin "object.__setattr__")))
    (a1 : PySem.W.nsIn K mainGlobals "is_number" = some (some (.ref f1))) (l1 : K.lookup f1 = some ⟨oc1, od1, .func (PySem.W.fnOf "is_number" "is_number" (defArgs s_is_number) (defBody s_is_number) (defScope s_is_number) .none kV1 dc1 pm1 an1 cd1 ct1), sl1⟩) (c1 : PySem.W.codeIn K cd1 "is_number" = true) (k1 : PySem.W.keepIn K (.ref f1) = true)
    (a2 : PySem.W.nsIn K mainGlobals "is_whole" = some (some (.ref f2))) (l2 : K.lookup f2 = some ⟨oc2, od2, .func (PySem.W.fnOf "is_whole" "is_whole" (defArgs s_is_whole) (defBody s_is_whole) (defScope s_is_whole) .none kV2 dc2 pm2 an2 cd2 ct2), sl2⟩) (c2 : PySem.W.codeIn K cd2 "is_whole" = true) (k2 : PySem.W.keepIn K (.ref f2) = true)
    (a3 : PySem.W.nsIn K mainGlobals "is_whole_from" = some (some (.ref f3))) (l3 : K.lookup f3 = some ⟨oc3, od3, .func (PySem.W.fnOf "is_whole_from" "is_whole_from" (defArgs s_is_whole_from) (defBody s_is_whole_from) (defScope s_is_whole_from) .none kV3 dc3 pm3 an3 cd3 ct3), sl3⟩) (c3 : PySem.W.codeIn K cd3 "is_whole_from" = true) (k3 : PySem.W.keepIn K (.ref f3) = true)
    (a4 : PySem.W.nsIn K mainGlobals "is_key" = some (some (.ref f4))) (l4 : K.lookup f4 = some ⟨oc4, od4, .func (PySem.W.fnOf "is_key" "is_key" (defArgs s_is_key) (defBody s_is_key) (defScope s_is_key) .none kV4 dc4 pm4 an4 cd4 ct4), sl4⟩) (c4 : PySem.W.codeIn K cd4 "is_key" = true) (k4 : PySem.W.keepIn K (.ref f4) = true)
    (a5 : PySem.W.nsIn K mainGlobals "is_stretch" = some (some (.ref f5))) (l5 : K.lookup f5 = some ⟨oc5, od5, .func (PySem.W.fnOf "is_stretch" "is_stretch" (defArgs s_is_stretch) (defBody s_is_stretch) (defScope s_is_stretch) .none kV5 dc5 pm5 an5 cd5 ct5), sl5⟩) (c5 : PySem.W.codeIn K cd5 "is_stretch" = true) (k5 : PySem.W.keepIn K (.ref f5) = true)
    (a6 : PySem.W.nsIn K mainGlobals "figures_of" = some (some (.ref f6))) (l6 : K.lookup f6 = some ⟨oc6, od6, .func (PySem.W.fnOf "figures_of" "figures_of" (defArgs s_figures_of) (defBody s_figures_of) (defScope s_figures_of) .none kV6 dc6 pm6 an6 cd6 ct6), sl6⟩) (c6 : PySem.W.codeIn K cd6 "figures_of" = true) (k6 : PySem.W.keepIn K (.ref f6) = true)
    (a7 : PySem.W.nsIn K mainGlobals "are_figures" = some (some (.ref f7))) (l7 : K.lookup f7 = some ⟨oc7, od7, .func (PySem.W.fnOf "are_figures" "are_figures" (defArgs s_are_figures) (defBody s_are_figures) (defScope s_are_figures) .none kV7 dc7 pm7 an7 cd7 ct7), sl7⟩) (c7 : PySem.W.codeIn K cd7 "are_figures" = true) (k7 : PySem.W.keepIn K (.ref f7) = true)
    (a8 : PySem.W.nsIn K mainGlobals "read_figures" = some (some (.ref f8))) (l8 : K.lookup f8 = some ⟨oc8, od8, .func (PySem.W.fnOf "read_figures" "read_figures" (defArgs s_read_figures) (defBody s_read_figures) (defScope s_read_figures) .none kV8 dc8 pm8 an8 cd8 ct8), sl8⟩) (c8 : PySem.W.codeIn K cd8 "read_figures" = true) (k8 : PySem.W.keepIn K (.ref f8) = true)
    (a9 : PySem.W.nsIn K mainGlobals "is_amount" = some (some (.ref f9))) (l9 : K.lookup f9 = some ⟨oc9, od9, .func (PySem.W.fnOf "is_amount" "is_amount" (defArgs s_is_amount) (defBody s_is_amount) (defScope s_is_amount) .none kV9 dc9 pm9 an9 cd9 ct9), sl9⟩) (c9 : PySem.W.codeIn K cd9 "is_amount" = true) (k9 : PySem.W.keepIn K (.ref f9) = true)
    (a10 : PySem.W.nsIn K mainGlobals "check_things" = some (some (.ref f10))) (l10 : K.lookup f10 = some ⟨oc10, od10, .func (PySem.W.fnOf "check_things" "check_things" (defArgs s_check_things) (defBody s_check_things) (defScope s_check_things) .none kV10 dc10 pm10 an10 cd10 ct10), sl10⟩) (c10 : PySem.W.codeIn K cd10 "check_things" = true) (k10 : PySem.W.keepIn K (.ref f10) = true)
    (a11 : PySem.W.nsIn K mainGlobals "word_of" = some (some (.ref f11))) (l11 : K.lookup f11 = some ⟨oc11, od11, .func (PySem.W.fnOf "word_of" "word_of" (defArgs s_word_of) (defBody s_word_of) (defScope s_word_of) .none kV11 dc11 pm11 an11 cd11 ct11), sl11⟩) (c11 : PySem.W.codeIn K cd11 "word_of" = true) (k11 : PySem.W.keepIn K (.ref f11) = true)
    (l12 : K.lookup f12 = some ⟨oc12, od12, .func (PySem.W.fnOf "__init__" "Put.__init__" (defArgs s_Put___init__) (defBody s_Put___init__) (defScope s_Put___init__) (.ref d12) kV12 dc12 pm12 an12 cd12 ct12), sl12⟩) (c12 : PySem.W.codeIn K cd12 "Put.__init__" = true) (ld12 : K.lookup d12 = some ⟨dx12, do12, .seq #[.none, .none, .str "no more" t12] dn12, ds12⟩)
    (k12 : PySem.W.makesIn K cPut = true) (i12 : PySem.W.findIn K (.ref cPut) "__init__" = some (some (.ref f12))) (n12 : PySem.W.isFn K (.ref f12) = true) (p12 : PySem.W.keepIn K (.ref cPut) = true)
    (bd12 : ∀ S (u0 u1 u2 : Value), PySem.W.peek K S (bindArgs (PySem.W.fnOf "__init__" "Put.__init__" (defArgs s_Put___init__) (defBody s_Put___init__) (defScope s_Put___init__) (.ref d12) kV12 dc12 pm12 an12 cd12 ct12) ⟨[u0, u1, u2], []⟩) = some [(("self" : Str), u0), (("key" : Str), u1), (("value" : Str), u2), (("more" : Str), .str "no more" t12)])
    (q12a : PySem.W.plainGet K cPut Str.empty = true) (q12b : PySem.W.hasDictIn K cPut = true) (q12c : PySem.W.plainOver K cPut = true) (q12d : PySem.W.findIn K (.ref cPut) "__setattr__" = some (some (.builtin "object.__setattr__")))
    (na12key : PySem.W.findIn K (.ref cPut) "key" = some none)
    (na12value : PySem.W.findIn K (.ref cPut) "value" = some none)
    (i13 : PySem.W.findIn K (.ref cPut) "told" = some (some (.ref f13))) (l13 : K.lookup f13 = some ⟨oc13, od13, .func (PySem.W.fnOf "told" "Put.told" (defArgs s_Put_told) (defBody s_Put_told) (defScope s_Put_told) .none kV13 dc13 pm13 an13 cd13 ct13), sl13⟩) (c13 : PySem.W.codeIn K cd13 "Put.told" = true) (k13 : PySem.W.keepIn K (.ref f13) = true) (n13 : PySem.W.isFn K (.ref f13) = true)
    (l14 : K.lookup f14 = some ⟨oc14, od14, .func (PySem.W.fnOf "__init__" "Drop.__init__" (defArgs s_Drop___init__) (defBody s_Drop___init__) (defScope s_Drop___init__) (.ref d14) kV14 dc14 pm14 an14 cd14 ct14), sl14⟩) (c14 : PySem.W.codeIn K cd14 "Drop.__init__" = true) (ld14 : K.lookup d14 = some ⟨dx14, do14, .seq #[.none, .str "no more" t14] dn14, ds14⟩)
    (k14 : PySem.W.makesIn K cDrop = true) (i14 : PySem.W.findIn K (.ref cDrop) "__init__" = some (some (.ref f14))) (n14 : PySem.W.isFn K (.ref f14) = true) (p14 : PySem.W.keepIn K (.ref cDrop) = true)
    (bd14 : ∀ S (u0 u1 : Value), PySem.W.peek K S (bindArgs (PySem.W.fnOf "__init__" "Drop.__init__" (defArgs s_Drop___init__) (defBody s_Drop___init__) (defScope s_Drop___init__) (.ref d14) kV14 dc14 pm14 an14 cd14 ct14) ⟨[u0, u1], []⟩) = some [(("self" : Str), u0), (("key" : Str), u1), (("more" : Str), .str "no more" t14)])
    (q14a : PySem.W.plainGet K cDrop Str.empty = true) (q14b : PySem.W.hasDictIn K cDrop = true) (q14c : PySem.W.plainOver K cDrop = true) (q14d : PySem.W.findIn K (.ref cDrop) "__setattr__" = some (some (.builtin "object.__setattr__")))
    (na14key : PySem.W.findIn K (.ref cDrop) "key" = some none)
    (i15 : PySem.W.findIn K (.ref cDrop) "told" = some (some (.ref f15))) (l15 : K.lookup f15 = some ⟨oc15, od15, .func (PySem.W.fnOf "told" "Drop.told" (defArgs s_Drop_told) (defBody s_Drop_told) (defScope s_Drop_told) .none kV15 dc15 pm15 an15 cd15 ct15), sl15⟩) (c15 : PySem.W.codeIn K cd15 "Drop.told" = true) (k15 : PySem.W.keepIn K (.ref f15) = true) (n15 : PySem.W.isFn K (.ref f15) = true)
    (l16 : K.lookup f16 = some ⟨oc16, od16, .func (PySem.W.fnOf "__init__" "Add.__init__" (defArgs s_Add___init__) (defBody s_Add___init__) (defScope s_Add___init__) (.ref d16) kV16 dc16 pm16 an16 cd16 ct16), sl16⟩) (c16 : PySem.W.codeIn K cd16 "Add.__init__" = true) (ld16 : K.lookup d16 = some ⟨dx16, do16, .seq #[.none, .none, .str "no more" t16] dn16, ds16⟩)
    (k16 : PySem.W.makesIn K cAdd = true) (i16 : PySem.W.findIn K (.ref cAdd) "__init__" = some (some (.ref f16))) (n16 : PySem.W.isFn K (.ref f16) = true) (p16 : PySem.W.keepIn K (.ref cAdd) = true)
    (bd16 : ∀ S (u0 u1 u2 : Value), PySem.W.peek K S (bindArgs (PySem.W.fnOf "__init__" "Add.__init__" (defArgs s_Add___init__) (defBody s_Add___init__) (defScope s_Add___init__) (.ref d16) kV16 dc16 pm16 an16 cd16 ct16) ⟨[u0, u1, u2], []⟩) = some [(("self" : Str), u0), (("key" : Str), u1), (("by" : Str), u2), (("more" : Str), .str "no more" t16)])
    (q16a : PySem.W.plainGet K cAdd Str.empty = true) (q16b : PySem.W.hasDictIn K cAdd = true) (q16c : PySem.W.plainOver K cAdd = true) (q16d : PySem.W.findIn K (.ref cAdd) "__setattr__" = some (some (.builtin "object.__setattr__")))
    (na16key : PySem.W.findIn K (.ref cAdd) "key" = some none)
    (na16by : PySem.W.findIn K (.ref cAdd) "by" = some none)
    (i17 : PySem.W.findIn K (.ref cAdd) "told" = some (some (.ref f17))) (l17 : K.lookup f17 = some ⟨oc17, od17, .func (PySem.W.fnOf "told" "Add.told" (defArgs s_Add_told) (defBody s_Add_told) (defScope s_Add_told) .none kV17 dc17 pm17 an17 cd17 ct17), sl17⟩) (c17 : PySem.W.codeIn K cd17 "Add.told" = true) (k17 : PySem.W.keepIn K (.ref f17) = true) (n17 : PySem.W.isFn K (.ref f17) = true)
    (l18 : K.lookup f18 = some ⟨oc18, od18, .func (PySem.W.fnOf "__init__" "Wipe.__init__" (defArgs s_Wipe___init__) (defBody s_Wipe___init__) (defScope s_Wipe___init__) (.ref d18) kV18 dc18 pm18 an18 cd18 ct18), sl18⟩) (c18 : PySem.W.codeIn K cd18 "Wipe.__init__" = true) (ld18 : K.lookup d18 = some ⟨dx18, do18, .seq #[.none, .none, .str "no more" t18] dn18, ds18⟩)
    (k18 : PySem.W.makesIn K cWipe = true) (i18 : PySem.W.findIn K (.ref cWipe) "__init__" = some (some (.ref f18))) (n18 : PySem.W.isFn K (.ref f18) = true) (p18 : PySem.W.keepIn K (.ref cWipe) = true)
    (bd18 : ∀ S (u0 u1 u2 : Value), PySem.W.peek K S (bindArgs (PySem.W.fnOf "__init__" "Wipe.__init__" (defArgs s_Wipe___init__) (defBody s_Wipe___init__) (defScope s_Wipe___init__) (.ref d18) kV18 dc18 pm18 an18 cd18 ct18) ⟨[u0, u1, u2], []⟩) = some [(("self" : Str), u0), (("low" : Str), u1), (("high" : Str), u2), (("more" : Str), .str "no more" t18)])
    (q18a : PySem.W.plainGet K cWipe Str.empty = true) (q18b : PySem.W.hasDictIn K cWipe = true) (q18c : PySem.W.plainOver K cWipe = true) (q18d : PySem.W.findIn K (.ref cWipe) "__setattr__" = some (some (.builtin "object.__setattr__")))
    (na18low : PySem.W.findIn K (.ref cWipe) "low" = some none)
    (na18high : PySem.W.findIn K (.ref cWipe) "high" = some none)
    (i19 : PySem.W.findIn K (.ref cWipe) "told" = some (some (.ref f19))) (l19 : K.lookup f19 = some ⟨oc19, od19, .func (PySem.W.fnOf "told" "Wipe.told" (defArgs s_Wipe_told) (defBody s_Wipe_told) (defScope s_Wipe_told) .none kV19 dc19 pm19 an19 cd19 ct19), sl19⟩) (c19 : PySem.W.codeIn K cd19 "Wipe.told" = true) (k19 : PySem.W.keepIn K (.ref f19) = true) (n19 : PySem.W.isFn K (.ref f19) = true)
    (l20 : K.lookup f20 = some ⟨oc20, od20, .func (PySem.W.fnOf "__init__" "Raise.__init__" (defArgs s_Raise___init__) (defBody s_Raise___init__) (defScope s_Raise___init__) (.ref d20) kV20 dc20 pm20 an20 cd20 ct20), sl20⟩) (c20 : PySem.W.codeIn K cd20 "Raise.__init__" = true) (ld20 : K.lookup d20 = some ⟨dx20, do20, .seq #[.none, .none, .none, .str "no more" t20] dn20, ds20⟩)
    (k20 : PySem.W.makesIn K cRaise = true) (i20 : PySem.W.findIn K (.ref cRaise) "__init__" = some (some (.ref f20))) (n20 : PySem.W.isFn K (.ref f20) = true) (p20 : PySem.W.keepIn K (.ref cRaise) = true)
    (bd20 : ∀ S (u0 u1 u2 u3 : Value), PySem.W.peek K S (bindArgs (PySem.W.fnOf "__init__" "Raise.__init__" (defArgs s_Raise___init__) (defBody s_Raise___init__) (defScope s_Raise___init__) (.ref d20) kV20 dc20 pm20 an20 cd20 ct20) ⟨[u0, u1, u2, u3], []⟩) = some [(("self" : Str), u0), (("low" : Str), u1), (("high" : Str), u2), (("by" : Str), u3), (("more" : Str), .str "no more" t20)])
    (q20a : PySem.W.plainGet K cRaise Str.empty = true) (q20b : PySem.W.hasDictIn K cRaise = true) (q20c : PySem.W.plainOver K cRaise = true) (q20d : PySem.W.findIn K (.ref cRaise) "__setattr__" = some (some (.builtin "object.__setattr__")))
    (na20low : PySem.W.findIn K (.ref cRaise) "low" = some none)
    (na20high : PySem.W.findIn K (.ref cRaise) "high" = some none)
    (na20by : PySem.W.findIn K (.ref cRaise) "by" = some none)
    (i21 : PySem.W.findIn K (.ref cRaise) "told" = some (some (.ref f21))) (l21 : K.lookup f21 = some ⟨oc21, od21, .func (PySem.W.fnOf "told" "Raise.told" (defArgs s_Raise_told) (defBody s_Raise_told) (defScope s_Raise_told) .none kV21 dc21 pm21 an21 cd21 ct21), sl21⟩) (c21 : PySem.W.codeIn K cd21 "Raise.told" = true) (k21 : PySem.W.keepIn K (.ref f21) = true) (n21 : PySem.W.isFn K (.ref f21) = true)
    (l22 : K.lookup f22 = some ⟨oc22, od22, .func (PySem.W.fnOf "__init__" "Level.__init__" (defArgs s_Level___init__) (defBody s_Level___init__) (defScope s_Level___init__) (.ref d22) kV22 dc22 pm22 an22 cd22 ct22), sl22⟩) (c22 : PySem.W.codeIn K cd22 "Level.__init__" = true) (ld22 : K.lookup d22 = some ⟨dx22, do22, .seq #[.none, .none, .none, .str "no more" t22] dn22, ds22⟩)
    (k22 : PySem.W.makesIn K cLevel = true) (i22 : PySem.W.findIn K (.ref cLevel) "__init__" = some (some (.ref f22))) (n22 : PySem.W.isFn K (.ref f22) = true) (p22 : PySem.W.keepIn K (.ref cLevel) = true)
    (bd22 : ∀ S (u0 u1 u2 u3 : Value), PySem.W.peek K S (bindArgs (PySem.W.fnOf "__init__" "Level.__init__" (defArgs s_Level___init__) (defBody s_Level___init__) (defScope s_Level___init__) (.ref d22) kV22 dc22 pm22 an22 cd22 ct22) ⟨[u0, u1, u2, u3], []⟩) = some [(("self" : Str), u0), (("low" : Str), u1), (("high" : Str), u2), (("value" : Str), u3), (("more" : Str), .str "no more" t22)])
    (q22a : PySem.W.plainGet K cLevel Str.empty = true) (q22b : PySem.W.hasDictIn K cLevel = true) (q22c : PySem.W.plainOver K cLevel = true) (q22d : PySem.W.findIn K (.ref cLevel) "__setattr__" = some (some (.builtin "object.__setattr__")))
    (na22low : PySem.W.findIn K (.ref cLevel) "low" = some none)
    (na22high : PySem.W.findIn K (.ref cLevel) "high" = some none)
    (na22value : PySem.W.findIn K (.ref cLevel) "value" = some none)
    (i23 : PySem.W.findIn K (.ref cLevel) "told" = some (some (.ref f23))) (l23 : K.lookup f23 = some ⟨oc23, od23, .func (PySem.W.fnOf "told" "Level.told" (defArgs s_Level_told) (defBody s_Level_told) (defScope s_Level_told) .none kV23 dc23 pm23 an23 cd23 ct23), sl23⟩) (c23 : PySem.W.codeIn K cd23 "Level.told" = true) (k23 : PySem.W.keepIn K (.ref f23) = true) (n23 : PySem.W.isFn K (.ref f23) = true)
    (l24 : K.lookup f24 = some ⟨oc24, od24, .func (PySem.W.fnOf "__init__" "Mark.__init__" (defArgs s_Mark___init__) (defBody s_Mark___init__) (defScope s_Mark___init__) (.ref d24) kV24 dc24 pm24 an24 cd24 ct24), sl24⟩) (c24 : PySem.W.codeIn K cd24 "Mark.__init__" = true) (ld24 : K.lookup d24 = some ⟨dx24, do24, .seq #[.str "no more" t24] dn24, ds24⟩)
    (k24 : PySem.W.makesIn K cMark = true) (i24 : PySem.W.findIn K (.ref cMark) "__init__" = some (some (.ref f24))) (n24 : PySem.W.isFn K (.ref f24) = true) (p24 : PySem.W.keepIn K (.ref cMark) = true)
    (bd24 : ∀ S (u0 : Value), PySem.W.peek K S (bindArgs (PySem.W.fnOf "__init__" "Mark.__init__" (defArgs s_Mark___init__) (defBody s_Mark___init__) (defScope s_Mark___init__) (.ref d24) kV24 dc24 pm24 an24 cd24 ct24) ⟨[u0], []⟩) = some [(("self" : Str), u0), (("more" : Str), .str "no more" t24)])
    (q24a : PySem.W.plainGet K cMark Str.empty = true) (q24b : PySem.W.hasDictIn K cMark = true) (q24c : PySem.W.plainOver K cMark = true) (q24d : PySem.W.findIn K (.ref cMark) "__setattr__" = some (some (.builtin "object.__setattr__")))
    (i25 : PySem.W.findIn K (.ref cMark) "told" = some (some (.ref f25))) (l25 : K.lookup f25 = some ⟨oc25, od25, .func (PySem.W.fnOf "told" "Mark.told" (defArgs s_Mark_told) (defBody s_Mark_told) (defScope s_Mark_told) .none kV25 dc25 pm25 an25 cd25 ct25), sl25⟩) (c25 : PySem.W.codeIn K cd25 "Mark.told" = true) (k25 : PySem.W.keepIn K (.ref f25) = true) (n25 : PySem.W.isFn K (.ref f25) = true)
    (l26 : K.lookup f26 = some ⟨oc26, od26, .func (PySem.W.fnOf "__init__" "Forget.__init__" (defArgs s_Forget___init__) (defBody s_Forget___init__) (defScope s_Forget___init__) (.ref d26) kV26 dc26 pm26 an26 cd26 ct26), sl26⟩) (c26 : PySem.W.codeIn K cd26 "Forget.__init__" = true) (ld26 : K.lookup d26 = some ⟨dx26, do26, .seq #[.none, .str "no more" t26] dn26, ds26⟩)
    (k26 : PySem.W.makesIn K cForget = true) (i26 : PySem.W.findIn K (.ref cForget) "__init__" = some (some (.ref f26))) (n26 : PySem.W.isFn K (.ref f26) = true) (p26 : PySem.W.keepIn K (.ref cForget) = true)
    (bd26 : ∀ S (u0 u1 : Value), PySem.W.peek K S (bindArgs (PySem.W.fnOf "__init__" "Forget.__init__" (defArgs s_Forget___init__) (defBody s_Forget___init__) (defScope s_Forget___init__) (.ref d26) kV26 dc26 pm26 an26 cd26 ct26) ⟨[u0, u1], []⟩) = some [(("self" : Str), u0), (("mark" : Str), u1), (("more" : Str), .str "no more" t26)])
    (q26a : PySem.W.plainGet K cForget Str.empty = true) (q26b : PySem.W.hasDictIn K cForget = true) (q26c : PySem.W.plainOver K cForget = true) (q26d : PySem.W.findIn K (.ref cForget) "__setattr__" = some (some (.builtin "object.__setattr__")))
    (na26mark : PySem.W.findIn K (.ref cForget) "mark" = some none)
    (i27 : PySem.W.findIn K (.ref cForget) "told" = some (some (.ref f27))) (l27 : K.lookup f27 = some ⟨oc27, od27, .func (PySem.W.fnOf "told" "Forget.told" (defArgs s_Forget_told) (defBody s_Forget_told) (defScope s_Forget_told) .none kV27 dc27 pm27 an27 cd27 ct27), sl27⟩) (c27 : PySem.W.codeIn K cd27 "Forget.told" = true) (k27 : PySem.W.keepIn K (.ref f27) = true) (n27 : PySem.W.isFn K (.ref f27) = true)
    (i28 : PySem.W.findIn K (.ref cDeed) "__str__" = some (some (.ref f28))) (l28 : K.lookup f28 = some ⟨oc28, od28, .func (PySem.W.fnOf "__str__" "Deed.__str__" (defArgs s_Deed___str__) (defBody s_Deed___str__) (defScope s_Deed___str__) .none kV28 dc28 pm28 an28 cd28 ct28), sl28⟩) (c28 : PySem.W.codeIn K cd28 "Deed.__str__" = true) (k28 : PySem.W.keepIn K (.ref f28) = true) (n28 : PySem.W.isFn K (.ref f28) = true)
    (i29 : PySem.W.findIn K (.ref cDeed) "__eq__" = some (some (.ref f29))) (l29 : K.lookup f29 = some ⟨oc29, od29, .func (PySem.W.fnOf "__eq__" "Deed.__eq__" (defArgs s_Deed___eq__) (defBody s_Deed___eq__) (defScope s_Deed___eq__) .none kV29 dc29 pm29 an29 cd29 ct29), sl29⟩) (c29 : PySem.W.codeIn K cd29 "Deed.__eq__" = true) (k29 : PySem.W.keepIn K (.ref f29) = true) (n29 : PySem.W.isFn K (.ref f29) = true)
    (a30 : PySem.W.nsIn K mainGlobals "has_form" = some (some (.ref f30))) (l30 : K.lookup f30 = some ⟨oc30, od30, .func (PySem.W.fnOf "has_form" "has_form" (defArgs s_has_form) (defBody s_has_form) (defScope s_has_form) .none kV30 dc30 pm30 an30 cd30 ct30), sl30⟩) (c30 : PySem.W.codeIn K cd30 "has_form" = true) (k30 : PySem.W.keepIn K (.ref f30) = true)
    (a31 : PySem.W.nsIn K mainGlobals "deed_of" = some (some (.ref f31))) (l31 : K.lookup f31 = some ⟨oc31, od31, .func (PySem.W.fnOf "deed_of" "deed_of" (defArgs s_deed_of) (defBody s_deed_of) (defScope s_deed_of) .none kV31 dc31 pm31 an31 cd31 ct31), sl31⟩) (c31 : PySem.W.codeIn K cd31 "deed_of" = true) (k31 : PySem.W.keepIn K (.ref f31) = true)
    (a32 : PySem.W.nsIn K mainGlobals "read_words" = some (some (.ref f32))) (l32 : K.lookup f32 = some ⟨oc32, od32, .func (PySem.W.fnOf "read_words" "read_words" (defArgs s_read_words) (defBody s_read_words) (defScope s_read_words) .none kV32 dc32 pm32 an32 cd32 ct32), sl32⟩) (c32 : PySem.W.codeIn K cd32 "read_words" = true) (k32 : PySem.W.keepIn K (.ref f32) = true)
    (a33 : PySem.W.nsIn K mainGlobals "_law_well" = some (some (.ref f33))) (l33 : K.lookup f33 = some ⟨oc33, od33, .func (PySem.W.fnOf "_law_well" "_law_well" (defArgs s__law_well) (defBody s__law_well) (defScope s__law_well) .none kV33 dc33 pm33 an33 cd33 ct33), sl33⟩) (c33 : PySem.W.codeIn K cd33 "_law_well" = true) (k33 : PySem.W.keepIn K (.ref f33) = true)
    (a34 : PySem.W.nsIn K mainGlobals "_law_draw" = some (some (.ref f34))) (l34 : K.lookup f34 = some ⟨oc34, od34, .func (PySem.W.fnOf "_law_draw" "_law_draw" (defArgs s__law_draw) (defBody s__law_draw) (defScope s__law_draw) .none kV34 dc34 pm34 an34 cd34 ct34), sl34⟩) (c34 : PySem.W.codeIn K cd34 "_law_draw" = true) (k34 : PySem.W.keepIn K (.ref f34) = true)
    (a35 : PySem.W.nsIn K mainGlobals "_law_key" = some (some (.ref f35))) (l35 : K.lookup f35 = some ⟨oc35, od35, .func (PySem.W.fnOf "_law_key" "_law_key" (defArgs s__law_key) (defBody s__law_key) (defScope s__law_key) .none kV35 dc35 pm35 an35 cd35 ct35), sl35⟩) (c35 : PySem.W.codeIn K cd35 "_law_key" = true) (k35 : PySem.W.keepIn K (.ref f35) = true)
    (a36 : PySem.W.nsIn K mainGlobals "_law_amount" = some (some (.ref f36))) (l36 : K.lookup f36 = some ⟨oc36, od36, .func (PySem.W.fnOf "_law_amount" "_law_amount" (defArgs s__law_amount) (defBody s__law_amount) (defScope s__law_amount) .none kV36 dc36 pm36 an36 cd36 ct36), sl36⟩) (c36 : PySem.W.codeIn K cd36 "_law_amount" = true) (k36 : PySem.W.keepIn K (.ref f36) = true)
    (a37 : PySem.W.nsIn K mainGlobals "_law_stretch" = some (some (.ref f37))) (l37 : K.lookup f37 = some ⟨oc37, od37, .func (PySem.W.fnOf "_law_stretch" "_law_stretch" (defArgs s__law_stretch) (defBody s__law_stretch) (defScope s__law_stretch) .none kV37 dc37 pm37 an37 cd37 ct37), sl37⟩) (c37 : PySem.W.codeIn K cd37 "_law_stretch" = true) (k37 : PySem.W.keepIn K (.ref f37) = true)
    (a38 : PySem.W.nsIn K mainGlobals "_law_deed" = some (some (.ref f38))) (l38 : K.lookup f38 = some ⟨oc38, od38, .func (PySem.W.fnOf "_law_deed" "_law_deed" (defArgs s__law_deed) (defBody s__law_deed) (defScope s__law_deed) .none kV38 dc38 pm38 an38 cd38 ct38), sl38⟩) (c38 : PySem.W.codeIn K cd38 "_law_deed" = true) (k38 : PySem.W.keepIn K (.ref f38) = true)
    (a39 : PySem.W.nsIn K mainGlobals "_law_whole" = some (some (.ref f39))) (l39 : K.lookup f39 = some ⟨oc39, od39, .func (PySem.W.fnOf "_law_whole" "_law_whole" (defArgs s__law_whole) (defBody s__law_whole) (defScope s__law_whole) .none kV39 dc39 pm39 an39 cd39 ct39), sl39⟩) (c39 : PySem.W.codeIn K cd39 "_law_whole" = true) (k39 : PySem.W.keepIn K (.ref f39) = true)
    (a40 : PySem.W.nsIn K mainGlobals "_law_number" = some (some (.ref f40))) (l40 : K.lookup f40 = some ⟨oc40, od40, .func (PySem.W.fnOf "_law_number" "_law_number" (defArgs s__law_number) (defBody s__law_number) (defScope s__law_number) .none kV40 dc40 pm40 an40 cd40 ct40), sl40⟩) (c40 : PySem.W.codeIn K cd40 "_law_number" = true) (k40 : PySem.W.keepIn K (.ref f40) = true)
    (a41 : PySem.W.nsIn K mainGlobals "_law_read" = some (some (.ref f41))) (l41 : K.lookup f41 = some ⟨oc41, od41, .func (PySem.W.fnOf "_law_read" "_law_read" (defArgs s__law_read) (defBody s__law_read) (defScope s__law_read) .none kV41 dc41 pm41 an41 cd41 ct41), sl41⟩) (c41 : PySem.W.codeIn K cd41 "_law_read" = true) (k41 : PySem.W.keepIn K (.ref f41) = true)
    (a42 : PySem.W.nsIn K mainGlobals "_law_sign" = some (some (.ref f42))) (l42 : K.lookup f42 = some ⟨oc42, od42, .func (PySem.W.fnOf "_law_sign" "_law_sign" (defArgs s__law_sign) (defBody s__law_sign) (defScope s__law_sign) .none kV42 dc42 pm42 an42 cd42 ct42), sl42⟩) (c42 : PySem.W.codeIn K cd42 "_law_sign" = true) (k42 : PySem.W.keepIn K (.ref f42) = true)
    (a43 : PySem.W.nsIn K mainGlobals "_law_spoilt" = some (some (.ref f43))) (l43 : K.lookup f43 = some ⟨oc43, od43, .func (PySem.W.fnOf "_law_spoilt" "_law_spoilt" (defArgs s__law_spoilt) (defBody s__law_spoilt) (defScope s__law_spoilt) .none kV43 dc43 pm43 an43 cd43 ct43), sl43⟩) (c43 : PySem.W.codeIn K cd43 "_law_spoilt" = true) (k43 : PySem.W.keepIn K (.ref f43) = true)
    (a44 : PySem.W.nsIn K mainGlobals "_law_word" = some (some (.ref f44))) (l44 : K.lookup f44 = some ⟨oc44, od44, .func (PySem.W.fnOf "_law_word" "_law_word" (defArgs s__law_word) (defBody s__law_word) (defScope s__law_word) .none kV44 dc44 pm44 an44 cd44 ct44), sl44⟩) (c44 : PySem.W.codeIn K cd44 "_law_word" = true) (k44 : PySem.W.keepIn K (.ref f44) = true)
    (a45 : PySem.W.nsIn K mainGlobals "law" = some (some (.ref f45))) (l45 : K.lookup f45 = some ⟨oc45, od45, .func (PySem.W.fnOf "law" "law" (defArgs s_law) (defBody s_law) (defScope s_law) .none kV45 dc45 pm45 an45 cd45 ct45), sl45⟩) (c45 : PySem.W.codeIn K cd45 "law" = true) (k45 : PySem.W.keepIn K (.ref f45) = true)
    (z_len : PySem.W.nsIn K mainGlobals "len" = some none)
    (z_isinstance : PySem.W.nsIn K mainGlobals "isinstance" = some none)
    (z_int : PySem.W.nsIn K mainGlobals "int" = some none)
    (z_bool : PySem.W.nsIn K mainGlobals "bool" = some none)
    (z_tuple : PySem.W.nsIn K mainGlobals "tuple" = some none)
    (z_str : PySem.W.nsIn K mainGlobals "str" = some none)
    (z_min : PySem.W.nsIn K mainGlobals "min" = some none)
    (z_END : PySem.W.nsIn K mainGlobals "END" = some (some (.int 1000000000000 tE)))
    (z_MOST_VALUE : PySem.W.nsIn K mainGlobals "MOST_VALUE" = some (some (.int 1000000000000000000000000000000 tM)))
    (z_MOST_FIGURES : PySem.W.nsIn K mainGlobals "MOST_FIGURES" = some (some (.int 60 tF)))
    (z_NO_MORE : PySem.W.nsIn K mainGlobals "NO_MORE" = some (some (.str "no more" tN)))
    (z_THINGS : PySem.W.nsIn K mainGlobals "THINGS" = some (some (.ref aTh)))
    (z_FallError : PySem.W.nsIn K mainGlobals "FallError" = some (some (.ref cF)))
    (z_NoDeed : PySem.W.nsIn K mainGlobals "NoDeed" = some (some (.ref cD)))
    (z_NoKey : PySem.W.nsIn K mainGlobals "NoKey" = some (some (.ref cK)))
    (z_NoStretch : PySem.W.nsIn K mainGlobals "NoStretch" = some (some (.ref cS)))
    (z_NoMark : PySem.W.nsIn K mainGlobals "NoMark" = some (some (.ref cM)))
    (z_NoAction : PySem.W.nsIn K mainGlobals "NoAction" = some (some (.ref cA)))
    (z_NoPage : PySem.W.nsIn K mainGlobals "NoPage" = some (some (.ref cP)))
    (z_Deed : PySem.W.nsIn K mainGlobals "Deed" = some (some (.ref cDeed)))
    (z_Put : PySem.W.nsIn K mainGlobals "Put" = some (some (.ref cPut)))
    (z_Drop : PySem.W.nsIn K mainGlobals "Drop" = some (some (.ref cDrop)))
    (z_Add : PySem.W.nsIn K mainGlobals "Add" = some (some (.ref cAdd)))
    (z_Wipe : PySem.W.nsIn K mainGlobals "Wipe" = some (some (.ref cWipe)))
    (z_Raise : PySem.W.nsIn K mainGlobals "Raise" = some (some (.ref cRaise)))
    (z_Level : PySem.W.nsIn K mainGlobals "Level" = some (some (.ref cLevel)))
    (z_Mark : PySem.W.nsIn K mainGlobals "Mark" = some (some (.ref cMark)))
    (z_Forget : PySem.W.nsIn K mainGlobals "Forget" = some (some (.ref cForget)))
    (z_kT : K.lookup aTh = some ⟨.type "dict", none, .dict (List.toArray (⟨PyData.keyHash w.params "put", .str "put" s1, .int 3 u1⟩ :: ⟨PyData.keyHash w.params "drop", .str "drop" s2, .int 2 u2⟩ :: ⟨PyData.keyHash w.params "add", .str "add" s3, .int 3 u3⟩ :: ⟨PyData.keyHash w.params "wipe", .str "wipe" s4, .int 3 u4⟩ :: ⟨PyData.keyHash w.params "raise", .str "raise" s5, .int 4 u5⟩ :: ⟨PyData.keyHash w.params "level", .str "level" s6, .int 4 u6⟩ :: ⟨PyData.keyHash w.params "mark", .str "mark" s7, .int 1 u7⟩ :: ⟨PyData.keyHash w.params "forget", .str "forget" s8, .int 2 u8⟩ :: [])) nT, #[]⟩)
    (z_tne : (aTh == sysModules) = false)
    (z_gt : PySem.W.specialIn K (.builtin "object.__class__") "__get__" = some (some (.builtin "getset_descriptor.__get__")))
    (z_tk : PySem.W.takesIn K (.builtin "object.__class__") = some true)
    (z_xD : PySem.W.excIn K cD [.type "ValueError", .type "Exception", .type "BaseException", .type "object"] "ValueError.__new__" = true)
    (z_gaD : PySem.W.findIn K (.ref cD) "__getattribute__" = some (some (.builtin "BaseException.__getattribute__")))
    (z_ghD : PySem.W.findIn K (.ref cD) "__getattr__" = some none)
    (z_clD : PySem.W.findIn K (.ref cD) "__class__" = some (some (.builtin "object.__class__")))
    (z_moD : PySem.W.mroIn K cD (.type "object") = some true)
    (z_mbD : PySem.W.mroIn K cD (.type "BaseException") = some true)
    (z_isD : K.lookup cD = some ⟨coD, doD, .cls cdD, slD⟩)
    (z_mD : PySem.W.exmOne K (.ref cD) (.ref cF) = some true)
    (z_kx0 : PySem.W.kitOne K (.ref cD) (.ref cD) = some true)
    (z_kx1 : PySem.W.kitOne K (.ref cD) (.ref cK) = some false)
    (z_kx2 : PySem.W.kitOne K (.ref cD) (.ref cS) = some false)
    (z_kx3 : PySem.W.kitOne K (.ref cD) (.ref cM) = some false)
    (z_kx4 : PySem.W.kitOne K (.ref cD) (.ref cA) = some false)
    (z_kx5 : PySem.W.kitOne K (.ref cD) (.ref cP) = some false)
    (z_caPut : PySem.W.findIn K (.ref cPut) "__class__" = some (some (.builtin "object.__class__")))
    (z_moPut : PySem.W.mroIn K cPut (.type "object") = some true)
    (z_kDPut : PySem.W.kitOne K (.ref cPut) (.ref cDeed) = some true)
    (z_nePut : PySem.W.findIn K (.ref cPut) "__ne__" = some (some (.builtin "object.__ne__")))
    (z_nfPutDrop : PySem.W.subIn K (.ref cDrop) (.ref cPut) = some false)
    (z_nfPutAdd : PySem.W.subIn K (.ref cAdd) (.ref cPut) = some false)
    (z_nfPutWipe : PySem.W.subIn K (.ref cWipe) (.ref cPut) = some false)
    (z_nfPutRaise : PySem.W.subIn K (.ref cRaise) (.ref cPut) = some false)
    (z_nfPutLevel : PySem.W.subIn K (.ref cLevel) (.ref cPut) = some false)
    (z_nfPutMark : PySem.W.subIn K (.ref cMark) (.ref cPut) = some false)
    (z_nfPutForget : PySem.W.subIn K (.ref cForget) (.ref cPut) = some false)
    (z_mtPutstr : PySem.W.findIn K (.ref cPut) "__str__" = some (some (.ref f28)))
    (z_mtPuteq : PySem.W.findIn K (.ref cPut) "__eq__" = some (some (.ref f29)))
    (z_caDrop : PySem.W.findIn K (.ref cDrop) "__class__" = some (some (.builtin "object.__class__")))
    (z_moDrop : PySem.W.mroIn K cDrop (.type "object") = some true)
    (z_kDDrop : PySem.W.kitOne K (.ref cDrop) (.ref cDeed) = some true)
    (z_neDrop : PySem.W.findIn K (.ref cDrop) "__ne__" = some (some (.builtin "object.__ne__")))
    (z_nfDropPut : PySem.W.subIn K (.ref cPut) (.ref cDrop) = some false)
    (z_nfDropAdd : PySem.W.subIn K (.ref cAdd) (.ref cDrop) = some false)
    (z_nfDropWipe : PySem.W.subIn K (.ref cWipe) (.ref cDrop) = some false)
    (z_nfDropRaise : PySem.W.subIn K (.ref cRaise) (.ref cDrop) = some false)
    (z_nfDropLevel : PySem.W.subIn K (.ref cLevel) (.ref cDrop) = some false)
    (z_nfDropMark : PySem.W.subIn K (.ref cMark) (.ref cDrop) = some false)
    (z_nfDropForget : PySem.W.subIn K (.ref cForget) (.ref cDrop) = some false)
    (z_mtDropstr : PySem.W.findIn K (.ref cDrop) "__str__" = some (some (.ref f28)))
    (z_mtDropeq : PySem.W.findIn K (.ref cDrop) "__eq__" = some (some (.ref f29)))
    (z_caAdd : PySem.W.findIn K (.ref cAdd) "__class__" = some (some (.builtin "object.__class__")))
    (z_moAdd : PySem.W.mroIn K cAdd (.type "object") = some true)
    (z_kDAdd : PySem.W.kitOne K (.ref cAdd) (.ref cDeed) = some true)
    (z_neAdd : PySem.W.findIn K (.ref cAdd) "__ne__" = some (some (.builtin "object.__ne__")))
    (z_nfAddPut : PySem.W.subIn K (.ref cPut) (.ref cAdd) = some false)
    (z_nfAddDrop : PySem.W.subIn K (.ref cDrop) (.ref cAdd) = some false)
    (z_nfAddWipe : PySem.W.subIn K (.ref cWipe) (.ref cAdd) = some false)
    (z_nfAddRaise : PySem.W.subIn K (.ref cRaise) (.ref cAdd) = some false)
    (z_nfAddLevel : PySem.W.subIn K (.ref cLevel) (.ref cAdd) = some false)
    (z_nfAddMark : PySem.W.subIn K (.ref cMark) (.ref cAdd) = some false)
    (z_nfAddForget : PySem.W.subIn K (.ref cForget) (.ref cAdd) = some false)
    (z_mtAddstr : PySem.W.findIn K (.ref cAdd) "__str__" = some (some (.ref f28)))
    (z_mtAddeq : PySem.W.findIn K (.ref cAdd) "__eq__" = some (some (.ref f29)))
    (z_caWipe : PySem.W.findIn K (.ref cWipe) "__class__" = some (some (.builtin "object.__class__")))
    (z_moWipe : PySem.W.mroIn K cWipe (.type "object") = some true)
    (z_kDWipe : PySem.W.kitOne K (.ref cWipe) (.ref cDeed) = some true)
    (z_neWipe : PySem.W.findIn K (.ref cWipe) "__ne__" = some (some (.builtin "object.__ne__")))
    (z_nfWipePut : PySem.W.subIn K (.ref cPut) (.ref cWipe) = some false)
    (z_nfWipeDrop : PySem.W.subIn K (.ref cDrop) (.ref cWipe) = some false)
    (z_nfWipeAdd : PySem.W.subIn K (.ref cAdd) (.ref cWipe) = some false)
    (z_nfWipeRaise : PySem.W.subIn K (.ref cRaise) (.ref cWipe) = some false)
    (z_nfWipeLevel : PySem.W.subIn K (.ref cLevel) (.ref cWipe) = some false)
    (z_nfWipeMark : PySem.W.subIn K (.ref cMark) (.ref cWipe) = some false)
    (z_nfWipeForget : PySem.W.subIn K (.ref cForget) (.ref cWipe) = some false)
    (z_mtWipestr : PySem.W.findIn K (.ref cWipe) "__str__" = some (some (.ref f28)))
    (z_mtWipeeq : PySem.W.findIn K (.ref cWipe) "__eq__" = some (some (.ref f29)))
    (z_caRaise : PySem.W.findIn K (.ref cRaise) "__class__" = some (some (.builtin "object.__class__")))
    (z_moRaise : PySem.W.mroIn K cRaise (.type "object") = some true)
    (z_kDRaise : PySem.W.kitOne K (.ref cRaise) (.ref cDeed) = some true)
    (z_neRaise : PySem.W.findIn K (.ref cRaise) "__ne__" = some (some (.builtin "object.__ne__")))
    (z_nfRaisePut : PySem.W.subIn K (.ref cPut) (.ref cRaise) = some false)
    (z_nfRaiseDrop : PySem.W.subIn K (.ref cDrop) (.ref cRaise) = some false)
    (z_nfRaiseAdd : PySem.W.subIn K (.ref cAdd) (.ref cRaise) = some false)
    (z_nfRaiseWipe : PySem.W.subIn K (.ref cWipe) (.ref cRaise) = some false)
    (z_nfRaiseLevel : PySem.W.subIn K (.ref cLevel) (.ref cRaise) = some false)
    (z_nfRaiseMark : PySem.W.subIn K (.ref cMark) (.ref cRaise) = some false)
    (z_nfRaiseForget : PySem.W.subIn K (.ref cForget) (.ref cRaise) = some false)
    (z_mtRaisestr : PySem.W.findIn K (.ref cRaise) "__str__" = some (some (.ref f28)))
    (z_mtRaiseeq : PySem.W.findIn K (.ref cRaise) "__eq__" = some (some (.ref f29)))
    (z_caLevel : PySem.W.findIn K (.ref cLevel) "__class__" = some (some (.builtin "object.__class__")))
    (z_moLevel : PySem.W.mroIn K cLevel (.type "object") = some true)
    (z_kDLevel : PySem.W.kitOne K (.ref cLevel) (.ref cDeed) = some true)
    (z_neLevel : PySem.W.findIn K (.ref cLevel) "__ne__" = some (some (.builtin "object.__ne__")))
    (z_nfLevelPut : PySem.W.subIn K (.ref cPut) (.ref cLevel) = some false)
    (z_nfLevelDrop : PySem.W.subIn K (.ref cDrop) (.ref cLevel) = some false)
    (z_nfLevelAdd : PySem.W.subIn K (.ref cAdd) (.ref cLevel) = some false)
    (z_nfLevelWipe : PySem.W.subIn K (.ref cWipe) (.ref cLevel) = some false)
    (z_nfLevelRaise : PySem.W.subIn K (.ref cRaise) (.ref cLevel) = some false)
    (z_nfLevelMark : PySem.W.subIn K (.ref cMark) (.ref cLevel) = some false)
    (z_nfLevelForget : PySem.W.subIn K (.ref cForget) (.ref cLevel) = some false)
    (z_mtLevelstr : PySem.W.findIn K (.ref cLevel) "__str__" = some (some (.ref f28)))
    (z_mtLeveleq : PySem.W.findIn K (.ref cLevel) "__eq__" = some (some (.ref f29)))
    (z_caMark : PySem.W.findIn K (.ref cMark) "__class__" = some (some (.builtin "object.__class__")))
    (z_moMark : PySem.W.mroIn K cMark (.type "object") = some true)
    (z_kDMark : PySem.W.kitOne K (.ref cMark) (.ref cDeed) = some true)
    (z_neMark : PySem.W.findIn K (.ref cMark) "__ne__" = some (some (.builtin "object.__ne__")))
    (z_nfMarkPut : PySem.W.subIn K (.ref cPut) (.ref cMark) = some false)
    (z_nfMarkDrop : PySem.W.subIn K (.ref cDrop) (.ref cMark) = some false)
    (z_nfMarkAdd : PySem.W.subIn K (.ref cAdd) (.ref cMark) = some false)
    (z_nfMarkWipe : PySem.W.subIn K (.ref cWipe) (.ref cMark) = some false)
    (z_nfMarkRaise : PySem.W.subIn K (.ref cRaise) (.ref cMark) = some false)
    (z_nfMarkLevel : PySem.W.subIn K (.ref cLevel) (.ref cMark) = some false)
    (z_nfMarkForget : PySem.W.subIn K (.ref cForget) (.ref cMark) = some false)
    (z_mtMarkstr : PySem.W.findIn K (.ref cMark) "__str__" = some (some (.ref f28)))
    (z_mtMarkeq : PySem.W.findIn K (.ref cMark) "__eq__" = some (some (.ref f29)))
    (z_caForget : PySem.W.findIn K (.ref cForget) "__class__" = some (some (.builtin "object.__class__")))
    (z_moForget : PySem.W.mroIn K cForget (.type "object") = some true)
    (z_kDForget : PySem.W.kitOne K (.ref cForget) (.ref cDeed) = some true)
    (z_neForget : PySem.W.findIn K (.ref cForget) "__ne__" = some (some (.builtin "object.__ne__")))
    (z_nfForgetPut : PySem.W.subIn K (.ref cPut) (.ref cForget) = some false)
    (z_nfForgetDrop : PySem.W.subIn K (.ref cDrop) (.ref cForget) = some false)
    (z_nfForgetAdd : PySem.W.subIn K (.ref cAdd) (.ref cForget) = some false)
    (z_nfForgetWipe : PySem.W.subIn K (.ref cWipe) (.ref cForget) = some false)
    (z_nfForgetRaise : PySem.W.subIn K (.ref cRaise) (.ref cForget) = some false)
    (z_nfForgetLevel : PySem.W.subIn K (.ref cLevel) (.ref cForget) = some false)
    (z_nfForgetMark : PySem.W.subIn K (.ref cMark) (.ref cForget) = some false)
    (z_mtForgetstr : PySem.W.findIn K (.ref cForget) "__str__" = some (some (.ref f28)))
    (z_mtForgeteq : PySem.W.findIn K (.ref cForget) "__eq__" = some (some (.ref f29))) :
    ∃ fd : FuncData, (∀ (s : Shared) (v : Value), BindsTo s fd ⟨[v], []⟩ [("_law_script", v)]) ∧ ∀ base : Heap, K.In base → base.Ns mainGlobals mg → FnOk l.prog w K mg base CX0 9 fa fd ["_law_script"] (spLaw K) := by
  have e := hfa.symm.trans (PySem.W.mg_of X G a45)
  cases e
  have B := (B.mk (PySem.W.mg_none_of X G z_len) (PySem.W.mg_none_of X G z_isinstance) (PySem.W.mg_none_of X G z_int) (PySem.W.mg_none_of X G z_bool) (PySem.W.mg_none_of X G z_tuple) (PySem.W.mg_none_of X G z_str) (PySem.W.mg_none_of X G z_min) (PySem.W.mg_of X G z_END) (PySem.W.mg_of X G z_MOST_VALUE) (PySem.W.mg_of X G z_MOST_FIGURES) (PySem.W.mg_of X G z_NO_MORE) (PySem.W.mg_of X G z_THINGS) (PySem.W.mg_of X G z_FallError) (PySem.W.mg_of X G z_NoDeed) (PySem.W.mg_of X G z_NoKey) (PySem.W.mg_of X G z_NoStretch) (PySem.W.mg_of X G z_NoMark) (PySem.W.mg_of X G z_NoAction) (PySem.W.mg_of X G z_NoPage) ⟨⟨z_xD⟩, ⟨z_gaD, z_ghD, z_clD, z_moD, z_mbD, z_gt, z_tk, by unfold PySem.W.clsIn; rw [z_isD]; rfl⟩, z_mD, z_kx0, z_kx1, z_kx2, z_kx3, z_kx4, z_kx5⟩ (kdict_strs (es := [("put", s1, .int 3 u1), ("drop", s2, .int 2 u2), ("add", s3, .int 3 u3), ("wipe", s4, .int 3 u4), ("raise", s5, .int 4 u5), ("level", s6, .int 4 u6), ("mark", s7, .int 1 u7), ("forget", s8, .int 2 u8)]) z_kT (show ([.inr "put", .inr "drop", .inr "add", .inr "wipe", .inr "raise", .inr "level", .inr "mark", .inr "forget"] : List Key).Nodup from by decide +kernel) z_tne) : B l.prog w K mg aTh cF cD cK cS cM cA cP tE tM tN tF u1 u2 u3 u4 u5 u6 u7 u8)
  have F1 := fun_mk (st := s_is_number) l1 c1 k1
  have b1 := F1.binds (ps := ["thing"]) fun _ _ _ _ _ _ us hl => match us, hl with | [_], _ => rfl
  have F2 := fun_mk (st := s_is_whole) l2 c2 k2
  have b2 := F2.binds (ps := ["thing", "low", "high"]) fun _ _ _ _ _ _ us hl => match us, hl with | [_, _, _], _ => rfl
  have F3 := fun_mk (st := s_is_whole_from) l3 c3 k3
  have b3 := F3.binds (ps := ["thing", "low"]) fun _ _ _ _ _ _ us hl => match us, hl with | [_, _], _ => rfl
  have F4 := fun_mk (st := s_is_key) l4 c4 k4
  have b4 := F4.binds (ps := ["thing"]) fun _ _ _ _ _ _ us hl => match us, hl with | [_], _ => rfl
  have F5 := fun_mk (st := s_is_stretch) l5 c5 k5
  have b5 := F5.binds (ps := ["low", "high"]) fun _ _ _ _ _ _ us hl => match us, hl with | [_, _], _ => rfl
  have F6 := fun_mk (st := s_figures_of) l6 c6 k6
  have b6 := F6.binds (ps := ["number"]) fun _ _ _ _ _ _ us hl => match us, hl with | [_], _ => rfl
  have F7 := fun_mk (st := s_are_figures) l7 c7 k7
  have b7 := F7.binds (ps := ["text"]) fun _ _ _ _ _ _ us hl => match us, hl with | [_], _ => rfl
  have F8 := fun_mk (st := s_read_figures) l8 c8 k8
  have b8 := F8.binds (ps := ["text"]) fun _ _ _ _ _ _ us hl => match us, hl with | [_], _ => rfl
  have F9 := fun_mk (st := s_is_amount) l9 c9 k9
  have b9 := F9.binds (ps := ["thing"]) fun _ _ _ _ _ _ us hl => match us, hl with | [_], _ => rfl
  have F10 := fun_mk (st := s_check_things) l10 c10 k10
  have b10 := F10.binds (ps := ["fit", "more"]) fun _ _ _ _ _ _ us hl => match us, hl with | [_, _], _ => rfl
  have F11 := fun_mk (st := s_word_of) l11 c11 k11
  have b11 := F11.binds (ps := ["thing"]) fun _ _ _ _ _ _ us hl => match us, hl with | [_], _ => rfl
  have F13 := fun_mk (st := s_Put_told) l13 c13 k13
  have b13 := F13.binds (ps := ["self"]) fun _ _ _ _ _ _ us hl => match us, hl with | [_], _ => rfl
  have F15 := fun_mk (st := s_Drop_told) l15 c15 k15
  have b15 := F15.binds (ps := ["self"]) fun _ _ _ _ _ _ us hl => match us, hl with | [_], _ => rfl
  have F17 := fun_mk (st := s_Add_told) l17 c17 k17
  have b17 := F17.binds (ps := ["self"]) fun _ _ _ _ _ _ us hl => match us, hl with | [_], _ => rfl
  have F19 := fun_mk (st := s_Wipe_told) l19 c19 k19
  have b19 := F19.binds (ps := ["self"]) fun _ _ _ _ _ _ us hl => match us, hl with | [_], _ => rfl
  have F21 := fun_mk (st := s_Raise_told) l21 c21 k21
  have b21 := F21.binds (ps := ["self"]) fun _ _ _ _ _ _ us hl => match us, hl with | [_], _ => rfl
  have F23 := fun_mk (st := s_Level_told) l23 c23 k23
  have b23 := F23.binds (ps := ["self"]) fun _ _ _ _ _ _ us hl => match us, hl with | [_], _ => rfl
  have F25 := fun_mk (st := s_Mark_told) l25 c25 k25
  have b25 := F25.binds (ps := ["self"]) fun _ _ _ _ _ _ us hl => match us, hl with | [_], _ => rfl
  have F27 := fun_mk (st := s_Forget_told) l27 c27 k27
  have b27 := F27.binds (ps := ["self"]) fun _ _ _ _ _ _ us hl => match us, hl with | [_], _ => rfl
  have F28 := fun_mk (st := s_Deed___str__) l28 c28 k28
  have b28 := F28.binds (ps := ["self"]) fun _ _ _ _ _ _ us hl => match us, hl with | [_], _ => rfl
  have F29 := fun_mk (st := s_Deed___eq__) l29 c29 k29
  have b29 := F29.binds (ps := ["self", "other"]) fun _ _ _ _ _ _ us hl => match us, hl with | [_, _], _ => rfl
  have F30 := fun_mk (st := s_has_form) l30 c30 k30
  have b30 := F30.binds (ps := ["told"]) fun _ _ _ _ _ _ us hl => match us, hl with | [_], _ => rfl
  have F31 := fun_mk (st := s_deed_of) l31 c31 k31
  have b31 := F31.binds (ps := ["told"]) fun _ _ _ _ _ _ us hl => match us, hl with | [_], _ => rfl
  have F32 := fun_mk (st := s_read_words) l32 c32 k32
  have b32 := F32.binds (ps := ["text"]) fun _ _ _ _ _ _ us hl => match us, hl with | [_], _ => rfl
  have F33 := fun_mk (st := s__law_well) l33 c33 k33
  have b33 := F33.binds (ps := ["_law_cell"]) fun _ _ _ _ _ _ us hl => match us, hl with | [_], _ => rfl
  have F34 := fun_mk (st := s__law_draw) l34 c34 k34
  have b34 := F34.binds (ps := ["_law_well_here", "_law_many"]) fun _ _ _ _ _ _ us hl => match us, hl with | [_, _], _ => rfl
  have F35 := fun_mk (st := s__law_key) l35 c35 k35
  have b35 := F35.binds (ps := ["_law_well_here"]) fun _ _ _ _ _ _ us hl => match us, hl with | [_], _ => rfl
  have F36 := fun_mk (st := s__law_amount) l36 c36 k36
  have b36 := F36.binds (ps := ["_law_well_here"]) fun _ _ _ _ _ _ us hl => match us, hl with | [_], _ => rfl
  have F37 := fun_mk (st := s__law_stretch) l37 c37 k37
  have b37 := F37.binds (ps := ["_law_well_here"]) fun _ _ _ _ _ _ us hl => match us, hl with | [_], _ => rfl
  have F38 := fun_mk (st := s__law_deed) l38 c38 k38
  have b38 := F38.binds (ps := ["_law_well_here"]) fun _ _ _ _ _ _ us hl => match us, hl with | [_], _ => rfl
  have F39 := fun_mk (st := s__law_whole) l39 c39 k39
  have b39 := F39.binds (ps := ["_law_thing", "_law_low", "_law_high"]) fun _ _ _ _ _ _ us hl => match us, hl with | [_, _, _], _ => rfl
  have F40 := fun_mk (st := s__law_number) l40 c40 k40
  have b40 := F40.binds (ps := ["_law_word_here"]) fun _ _ _ _ _ _ us hl => match us, hl with | [_], _ => rfl
  have F41 := fun_mk (st := s__law_read) l41 c41 k41
  have b41 := F41.binds (ps := ["_law_text"]) fun _ _ _ _ _ _ us hl => match us, hl with | [_], _ => rfl
  have F42 := fun_mk (st := s__law_sign) l42 c42 k42
  have b42 := F42.binds (ps := ["_law_well_here"]) fun _ _ _ _ _ _ us hl => match us, hl with | [_], _ => rfl
  have F43 := fun_mk (st := s__law_spoilt) l43 c43 k43
  have b43 := F43.binds (ps := ["_law_well_here", "_law_text"]) fun _ _ _ _ _ _ us hl => match us, hl with | [_, _], _ => rfl
  have F44 := fun_mk (st := s__law_word) l44 c44 k44
  have b44 := F44.binds (ps := ["_law_text"]) fun _ _ _ _ _ _ us hl => match us, hl with | [_], _ => rfl
  have F45 := fun_mk (st := s_law) l45 c45 k45
  refine ⟨PySem.W.fnOf "law" "law" (defArgs s_law) (defBody s_law) (defScope s_law) .none kV45 dc45 pm45 an45 cd45 ct45, fun s v => .of_eq rfl, fun base _ _ => ?_⟩
  have c_Put : Cls K cPut := ⟨qa_Put, qb_Put, qc_Put, qd_Put⟩
  have c_Drop : Cls K cDrop := ⟨qa_Drop, qb_Drop, qc_Drop, qd_Drop⟩
  have c_Add : Cls K cAdd := ⟨qa_Add, qb_Add, qc_Add, qd_Add⟩
  have c_Wipe : Cls K cWipe := ⟨qa_Wipe, qb_Wipe, qc_Wipe, qd_Wipe⟩
  have c_Raise : Cls K cRaise := ⟨qa_Raise, qb_Raise, qc_Raise, qd_Raise⟩
  have c_Level : Cls K cLevel := ⟨qa_Level, qb_Level, qc_Level, qd_Level⟩
  have c_Mark : Cls K cMark := ⟨qa_Mark, qb_Mark, qc_Mark, qd_Mark⟩
  have c_Forget : Cls K cForget := ⟨qa_Forget, qb_Forget, qc_Forget, qd_Forget⟩
  have c_Deed : Cls K cDeed := ⟨qa_Deed, qb_Deed, qc_Deed, qd_Deed⟩
  have C_is_number : Callee l.prog w K mg base "is_number" 1 ["thing"] spNumO := ⟨f1, _, ok_is_number F1 B    , b1, k1, PySem.W.mg_of X G a1⟩
  have C_is_whole : Callee l.prog w K mg base "is_whole" 2 ["thing", "low", "high"] spWholeO := ⟨f2, _, ok_is_whole F2 B (C_is_number := C_is_number)   , b2, k2, PySem.W.mg_of X G a2⟩
  have C_is_whole_from : Callee l.prog w K mg base "is_whole_from" 2 ["thing", "low"] spFromO := ⟨f3, _, ok_is_whole_from F3 B (C_is_number := C_is_number)   , b3, k3, PySem.W.mg_of X G a3⟩
  have C_is_key : Callee l.prog w K mg base "is_key" 3 ["thing"] spKeyO := ⟨f4, _, ok_is_key F4 B (C_is_whole := C_is_whole)   , b4, k4, PySem.W.mg_of X G a4⟩
  have C_is_stretch : Callee l.prog w K mg base "is_stretch" 3 ["low", "high"] spStO := ⟨f5, _, ok_is_stretch F5 B (C_is_whole := C_is_whole)   , b5, k5, PySem.W.mg_of X G a5⟩
  have C_figures_of : Callee l.prog w K mg base "figures_of" 1 ["number"] spFig := ⟨f6, _, ok_figures_of F6 B    , b6, k6, PySem.W.mg_of X G a6⟩
  have C_are_figures : Callee l.prog w K mg base "are_figures" 1 ["text"] spAre := ⟨f7, _, ok_are_figures F7 B    , b7, k7, PySem.W.mg_of X G a7⟩
  have C_read_figures : Callee l.prog w K mg base "read_figures" 2 ["text"] spRF := ⟨f8, _, ok_read_figures F8 B (C_are_figures := C_are_figures)   , b8, k8, PySem.W.mg_of X G a8⟩
  have C_is_amount : Callee l.prog w K mg base "is_amount" 3 ["thing"] spAmO := ⟨f9, _, ok_is_amount F9 B (C_is_whole := C_is_whole)   , b9, k9, PySem.W.mg_of X G a9⟩
  have C_check_things : CalleeX l.prog w K mg base "check_things" 1 ["fit", "more"] (spChk cD) := ⟨f10, _, ok_check_things F10 B    , b10, k10, PySem.W.mg_of X G a10⟩
  have C_word_of : Callee l.prog w K mg base "word_of" 2 ["thing"] spWordOf := ⟨f11, _, ok_word_of F11 B (C_figures_of := C_figures_of)   , b11, k11, PySem.W.mg_of X G a11⟩
  have M_Put : MakerX l.prog w K mg base "Put" 4 ["self", "key", "value", "more"] [.str "no more"] cPut (spInit .put cPut cD) := ⟨f12, _, [.str "no more" t12], ⟨k12, i12, n12, p12⟩, ok_Put___init__ (fund_mk (st := s_Put___init__) l12 c12) B ⟨q12a, q12b, q12c, q12d⟩ na12key na12value (C_check_things := C_check_things) (C_is_key := C_is_key) (C_is_amount := C_is_amount) , fun s us hK hl => match us, (show us.length = 3 by simpa using hl) with | [_, _, _], _ => PySem.W.kp_binds hK fun S => bd12 S _ _ _, .cons ⟨t12, rfl⟩ .nil, PySem.W.mg_of X G z_Put⟩
  have MC_Put_told : MethC l.prog w K mg base cPut "told" 1 ["self"] [] (spTold K .put cPut) := ⟨f13, _, [], ⟨i13, n13, k13⟩, ok_Put_told F13 B  (c_Put := c_Put) (n_key := na_Put_key) (n_value := na_Put_value)  , b13, .nil⟩
  have M_Drop : MakerX l.prog w K mg base "Drop" 4 ["self", "key", "more"] [.str "no more"] cDrop (spInit .drop cDrop cD) := ⟨f14, _, [.str "no more" t14], ⟨k14, i14, n14, p14⟩, ok_Drop___init__ (fund_mk (st := s_Drop___init__) l14 c14) B ⟨q14a, q14b, q14c, q14d⟩ na14key (C_check_things := C_check_things) (C_is_key := C_is_key) , fun s us hK hl => match us, (show us.length = 2 by simpa using hl) with | [_, _], _ => PySem.W.kp_binds hK fun S => bd14 S _ _, .cons ⟨t14, rfl⟩ .nil, PySem.W.mg_of X G z_Drop⟩
  have MC_Drop_told : MethC l.prog w K mg base cDrop "told" 1 ["self"] [] (spTold K .drop cDrop) := ⟨f15, _, [], ⟨i15, n15, k15⟩, ok_Drop_told F15 B  (c_Drop := c_Drop) (n_key := na_Drop_key)  , b15, .nil⟩
  have M_Add : MakerX l.prog w K mg base "Add" 4 ["self", "key", "by", "more"] [.str "no more"] cAdd (spInit .add cAdd cD) := ⟨f16, _, [.str "no more" t16], ⟨k16, i16, n16, p16⟩, ok_Add___init__ (fund_mk (st := s_Add___init__) l16 c16) B ⟨q16a, q16b, q16c, q16d⟩ na16key na16by (C_check_things := C_check_things) (C_is_key := C_is_key) (C_is_amount := C_is_amount) , fun s us hK hl => match us, (show us.length = 3 by simpa using hl) with | [_, _, _], _ => PySem.W.kp_binds hK fun S => bd16 S _ _ _, .cons ⟨t16, rfl⟩ .nil, PySem.W.mg_of X G z_Add⟩
  have MC_Add_told : MethC l.prog w K mg base cAdd "told" 1 ["self"] [] (spTold K .add cAdd) := ⟨f17, _, [], ⟨i17, n17, k17⟩, ok_Add_told F17 B  (c_Add := c_Add) (n_key := na_Add_key) (n_by := na_Add_by)  , b17, .nil⟩
  have M_Wipe : MakerX l.prog w K mg base "Wipe" 4 ["self", "low", "high", "more"] [.str "no more"] cWipe (spInit .wipe cWipe cD) := ⟨f18, _, [.str "no more" t18], ⟨k18, i18, n18, p18⟩, ok_Wipe___init__ (fund_mk (st := s_Wipe___init__) l18 c18) B ⟨q18a, q18b, q18c, q18d⟩ na18low na18high (C_check_things := C_check_things) (C_is_stretch := C_is_stretch) , fun s us hK hl => match us, (show us.length = 3 by simpa using hl) with | [_, _, _], _ => PySem.W.kp_binds hK fun S => bd18 S _ _ _, .cons ⟨t18, rfl⟩ .nil, PySem.W.mg_of X G z_Wipe⟩
  have MC_Wipe_told : MethC l.prog w K mg base cWipe "told" 1 ["self"] [] (spTold K .wipe cWipe) := ⟨f19, _, [], ⟨i19, n19, k19⟩, ok_Wipe_told F19 B  (c_Wipe := c_Wipe) (n_low := na_Wipe_low) (n_high := na_Wipe_high)  , b19, .nil⟩
  have M_Raise : MakerX l.prog w K mg base "Raise" 4 ["self", "low", "high", "by", "more"] [.str "no more"] cRaise (spInit .raise cRaise cD) := ⟨f20, _, [.str "no more" t20], ⟨k20, i20, n20, p20⟩, ok_Raise___init__ (fund_mk (st := s_Raise___init__) l20 c20) B ⟨q20a, q20b, q20c, q20d⟩ na20low na20high na20by (C_check_things := C_check_things) (C_is_stretch := C_is_stretch) (C_is_amount := C_is_amount) , fun s us hK hl => match us, (show us.length = 4 by simpa using hl) with | [_, _, _, _], _ => PySem.W.kp_binds hK fun S => bd20 S _ _ _ _, .cons ⟨t20, rfl⟩ .nil, PySem.W.mg_of X G z_Raise⟩
  have MC_Raise_told : MethC l.prog w K mg base cRaise "told" 1 ["self"] [] (spTold K .raise cRaise) := ⟨f21, _, [], ⟨i21, n21, k21⟩, ok_Raise_told F21 B  (c_Raise := c_Raise) (n_low := na_Raise_low) (n_high := na_Raise_high) (n_by := na_Raise_by)  , b21, .nil⟩
  have M_Level : MakerX l.prog w K mg base "Level" 4 ["self", "low", "high", "value", "more"] [.str "no more"] cLevel (spInit .level cLevel cD) := ⟨f22, _, [.str "no more" t22], ⟨k22, i22, n22, p22⟩, ok_Level___init__ (fund_mk (st := s_Level___init__) l22 c22) B ⟨q22a, q22b, q22c, q22d⟩ na22low na22high na22value (C_check_things := C_check_things) (C_is_stretch := C_is_stretch) (C_is_amount := C_is_amount) , fun s us hK hl => match us, (show us.length = 4 by simpa using hl) with | [_, _, _, _], _ => PySem.W.kp_binds hK fun S => bd22 S _ _ _ _, .cons ⟨t22, rfl⟩ .nil, PySem.W.mg_of X G z_Level⟩
  have MC_Level_told : MethC l.prog w K mg base cLevel "told" 1 ["self"] [] (spTold K .level cLevel) := ⟨f23, _, [], ⟨i23, n23, k23⟩, ok_Level_told F23 B  (c_Level := c_Level) (n_low := na_Level_low) (n_high := na_Level_high) (n_value := na_Level_value)  , b23, .nil⟩
  have M_Mark : MakerX l.prog w K mg base "Mark" 2 ["self", "more"] [.str "no more"] cMark (spInit .mark cMark cD) := ⟨f24, _, [.str "no more" t24], ⟨k24, i24, n24, p24⟩, ok_Mark___init__ (fund_mk (st := s_Mark___init__) l24 c24) B ⟨q24a, q24b, q24c, q24d⟩  (C_check_things := C_check_things) , fun s us hK hl => match us, (show us.length = 1 by simpa using hl) with | [_], _ => PySem.W.kp_binds hK fun S => bd24 S _, .cons ⟨t24, rfl⟩ .nil, PySem.W.mg_of X G z_Mark⟩
  have MC_Mark_told : MethC l.prog w K mg base cMark "told" 1 ["self"] [] (spTold K .mark cMark) := ⟨f25, _, [], ⟨i25, n25, k25⟩, ok_Mark_told F25 B  (c_Mark := c_Mark)   , b25, .nil⟩
  have M_Forget : MakerX l.prog w K mg base "Forget" 3 ["self", "mark", "more"] [.str "no more"] cForget (spInit .forget cForget cD) := ⟨f26, _, [.str "no more" t26], ⟨k26, i26, n26, p26⟩, ok_Forget___init__ (fund_mk (st := s_Forget___init__) l26 c26) B ⟨q26a, q26b, q26c, q26d⟩ na26mark (C_check_things := C_check_things) (C_is_whole_from := C_is_whole_from) , fun s us hK hl => match us, (show us.length = 2 by simpa using hl) with | [_, _], _ => PySem.W.kp_binds hK fun S => bd26 S _ _, .cons ⟨t26, rfl⟩ .nil, PySem.W.mg_of X G z_Forget⟩
  have MC_Forget_told : MethC l.prog w K mg base cForget "told" 1 ["self"] [] (spTold K .forget cForget) := ⟨f27, _, [], ⟨i27, n27, k27⟩, ok_Forget_told F27 B  (c_Forget := c_Forget) (n_mark := na_Forget_mark)  , b27, .nil⟩
  have dc : ∀ k : Kd, DC K (Cs.at (Cs.mk cPut cDrop cAdd cWipe cRaise cLevel cMark cForget) k) cDeed := fun k => match k with | .put => ⟨c_Put, z_caPut, z_gt, z_tk, z_moPut, z_kDPut⟩ | .drop => ⟨c_Drop, z_caDrop, z_gt, z_tk, z_moDrop, z_kDDrop⟩ | .add => ⟨c_Add, z_caAdd, z_gt, z_tk, z_moAdd, z_kDAdd⟩ | .wipe => ⟨c_Wipe, z_caWipe, z_gt, z_tk, z_moWipe, z_kDWipe⟩ | .raise => ⟨c_Raise, z_caRaise, z_gt, z_tk, z_moRaise, z_kDRaise⟩ | .level => ⟨c_Level, z_caLevel, z_gt, z_tk, z_moLevel, z_kDLevel⟩ | .mark => ⟨c_Mark, z_caMark, z_gt, z_tk, z_moMark, z_kDMark⟩ | .forget => ⟨c_Forget, z_caForget, z_gt, z_tk, z_moForget, z_kDForget⟩
  have MT : ∀ k : Kd, MethC l.prog w K mg base (Cs.at (Cs.mk cPut cDrop cAdd cWipe cRaise cLevel cMark cForget) k) "told" 1 ["self"] [] (spTold K k (Cs.at (Cs.mk cPut cDrop cAdd cWipe cRaise cLevel cMark cForget) k)) := fun k => match k with | .put => MC_Put_told | .drop => MC_Drop_told | .add => MC_Add_told | .wipe => MC_Wipe_told | .raise => MC_Raise_told | .level => MC_Level_told | .mark => MC_Mark_told | .forget => MC_Forget_told
  have MC_Deed___str__ : MethC l.prog w K mg base cDeed "__str__" 3 ["self"] [] (spStr K (Cs.mk cPut cDrop cAdd cWipe cRaise cLevel cMark cForget)) := ⟨f28, _, [], ⟨i28, n28, k28⟩, ok_Deed___str__ F28 B (C_word_of := C_word_of)   (MT := MT) (dc := dc) , b28, .nil⟩
  have MC_Deed___eq__ : MethC l.prog w K mg base cDeed "__eq__" 2 ["self", "other"] [] (spEq K (Cs.mk cPut cDrop cAdd cWipe cRaise cLevel cMark cForget) cDeed) := ⟨f29, _, [], ⟨i29, n29, k29⟩, ok_Deed___eq__ F29 B    (MT := MT) (dc := dc) (Dd := PySem.W.mg_of X G z_Deed) , b29, .nil⟩
  have oR := ok_Deed___str__ F28 B (MT := MT) (dc := dc) (C_word_of := C_word_of)
  have oE := ok_Deed___eq__ F29 B (MT := MT) (dc := dc) (Dd := PySem.W.mg_of X G z_Deed)
  have MR : ∀ k : Kd, MethC l.prog w K mg base (Cs.at (Cs.mk cPut cDrop cAdd cWipe cRaise cLevel cMark cForget) k) "__str__" 3 ["self"] [] (spStr K (Cs.mk cPut cDrop cAdd cWipe cRaise cLevel cMark cForget)) := fun k => match k with | .put => ⟨f28, _, [], ⟨z_mtPutstr, n28, k28⟩, oR, b28, .nil⟩ | .drop => ⟨f28, _, [], ⟨z_mtDropstr, n28, k28⟩, oR, b28, .nil⟩ | .add => ⟨f28, _, [], ⟨z_mtAddstr, n28, k28⟩, oR, b28, .nil⟩ | .wipe => ⟨f28, _, [], ⟨z_mtWipestr, n28, k28⟩, oR, b28, .nil⟩ | .raise => ⟨f28, _, [], ⟨z_mtRaisestr, n28, k28⟩, oR, b28, .nil⟩ | .level => ⟨f28, _, [], ⟨z_mtLevelstr, n28, k28⟩, oR, b28, .nil⟩ | .mark => ⟨f28, _, [], ⟨z_mtMarkstr, n28, k28⟩, oR, b28, .nil⟩ | .forget => ⟨f28, _, [], ⟨z_mtForgetstr, n28, k28⟩, oR, b28, .nil⟩
  have ME : ∀ k : Kd, MethC l.prog w K mg base (Cs.at (Cs.mk cPut cDrop cAdd cWipe cRaise cLevel cMark cForget) k) "__eq__" 2 ["self", "other"] [] (spEq K (Cs.mk cPut cDrop cAdd cWipe cRaise cLevel cMark cForget) cDeed) := fun k => match k with | .put => ⟨f29, _, [], ⟨z_mtPuteq, n29, k29⟩, oE, b29, .nil⟩ | .drop => ⟨f29, _, [], ⟨z_mtDropeq, n29, k29⟩, oE, b29, .nil⟩ | .add => ⟨f29, _, [], ⟨z_mtAddeq, n29, k29⟩, oE, b29, .nil⟩ | .wipe => ⟨f29, _, [], ⟨z_mtWipeeq, n29, k29⟩, oE, b29, .nil⟩ | .raise => ⟨f29, _, [], ⟨z_mtRaiseeq, n29, k29⟩, oE, b29, .nil⟩ | .level => ⟨f29, _, [], ⟨z_mtLeveleq, n29, k29⟩, oE, b29, .nil⟩ | .mark => ⟨f29, _, [], ⟨z_mtMarkeq, n29, k29⟩, oE, b29, .nil⟩ | .forget => ⟨f29, _, [], ⟨z_mtForgeteq, n29, k29⟩, oE, b29, .nil⟩
  have C_has_form : Callee l.prog w K mg base "has_form" 1 ["told"] (spForm K) := ⟨f30, _, ok_has_form F30 B    , b30, k30, PySem.W.mg_of X G a30⟩
  have C_deed_of : CalleeX l.prog w K mg base "deed_of" 6 ["told"] (spDeed K (Cs.mk cPut cDrop cAdd cWipe cRaise cLevel cMark cForget) cD) := ⟨f31, _, ok_deed_of F31 B (C_has_form := C_has_form) (M_Forget := M_Forget) (M_Put := M_Put) (M_Drop := M_Drop) (M_Add := M_Add) (M_Wipe := M_Wipe) (M_Raise := M_Raise) (M_Level := M_Level) (M_Mark := M_Mark)   , b31, k31, PySem.W.mg_of X G a31⟩
  have C_read_words : CalleeX l.prog w K mg base "read_words" 7 ["text"] (spRW K (Cs.mk cPut cDrop cAdd cWipe cRaise cLevel cMark cForget) cD) := ⟨f32, _, ok_read_words F32 B (C_deed_of := C_deed_of) (C_read_figures := C_read_figures)   , b32, k32, PySem.W.mg_of X G a32⟩
  have C__law_well : Callee l.prog w K mg base "_law_well" 1 ["_law_cell"] (spWell K) := ⟨f33, _, ok__law_well F33 B    , b33, k33, PySem.W.mg_of X G a33⟩
  have C__law_draw : Callee l.prog w K mg base "_law_draw" 1 ["_law_well_here", "_law_many"] (spDraw K) := ⟨f34, _, ok__law_draw F34 B    , b34, k34, PySem.W.mg_of X G a34⟩
  have C__law_key : Callee l.prog w K mg base "_law_key" 2 ["_law_well_here"] (spInt K okKey) := ⟨f35, _, ok__law_key F35 B (C__law_draw := C__law_draw)   , b35, k35, PySem.W.mg_of X G a35⟩
  have C__law_amount : Callee l.prog w K mg base "_law_amount" 2 ["_law_well_here"] (spInt K okAm) := ⟨f36, _, ok__law_amount F36 B (C__law_draw := C__law_draw)   , b36, k36, PySem.W.mg_of X G a36⟩
  have C__law_stretch : Callee l.prog w K mg base "_law_stretch" 3 ["_law_well_here"] (spPair K) := ⟨f37, _, ok__law_stretch F37 B (C__law_draw := C__law_draw) (C__law_key := C__law_key)   , b37, k37, PySem.W.mg_of X G a37⟩
  have C__law_deed : Callee l.prog w K mg base "_law_deed" 4 ["_law_well_here"] (spDeedL K) := ⟨f38, _, ok__law_deed F38 B (C__law_draw := C__law_draw) (C__law_stretch := C__law_stretch) (C__law_key := C__law_key) (C__law_amount := C__law_amount)   , b38, k38, PySem.W.mg_of X G a38⟩
  have C__law_whole : Callee l.prog w K mg base "_law_whole" 1 ["_law_thing", "_law_low", "_law_high"] spWholeL := ⟨f39, _, ok__law_whole F39 B    , b39, k39, PySem.W.mg_of X G a39⟩
  have C__law_number : Callee l.prog w K mg base "_law_number" 1 ["_law_word_here"] (spNumL K) := ⟨f40, _, ok__law_number F40 B    , b40, k40, PySem.W.mg_of X G a40⟩
  have C__law_read : Callee l.prog w K mg base "_law_read" 2 ["_law_text"] (spRead K) := ⟨f41, _, ok__law_read F41 B (C__law_number := C__law_number) (C__law_whole := C__law_whole)   , b41, k41, PySem.W.mg_of X G a41⟩
  have C__law_sign : Callee l.prog w K mg base "_law_sign" 2 ["_law_well_here"] (spSign K) := ⟨f42, _, ok__law_sign F42 B (C__law_draw := C__law_draw)   , b42, k42, PySem.W.mg_of X G a42⟩
  have C__law_spoilt : Callee l.prog w K mg base "_law_spoilt" 3 ["_law_well_here", "_law_text"] (spSpoil K) := ⟨f43, _, ok__law_spoilt F43 B (C__law_draw := C__law_draw) (C__law_sign := C__law_sign)   , b43, k43, PySem.W.mg_of X G a43⟩
  have C__law_word : Callee l.prog w K mg base "_law_word" 8 ["_law_text"] (spWord K (Cs.mk cPut cDrop cAdd cWipe cRaise cLevel cMark cForget)) := ⟨f44, _, ok__law_word F44 B (C_read_words := C_read_words)   , b44, k44, PySem.W.mg_of X G a44⟩
  have ec : ∀ k j : Kd, EqCls K (Cs.at (Cs.mk cPut cDrop cAdd cWipe cRaise cLevel cMark cForget) k) (Cs.at (Cs.mk cPut cDrop cAdd cWipe cRaise cLevel cMark cForget) j) := fun k j => match k, j with | .put, .put => ⟨by unfold PySem.W.notFirst; simp [Cs.at], z_nePut, z_moPut⟩ | .put, .drop => ⟨by unfold PySem.W.notFirst; simp [Cs.at, z_nfPutDrop], z_nePut, z_moPut⟩ | .put, .add => ⟨by unfold PySem.W.notFirst; simp [Cs.at, z_nfPutAdd], z_nePut, z_moPut⟩ | .put, .wipe => ⟨by unfold PySem.W.notFirst; simp [Cs.at, z_nfPutWipe], z_nePut, z_moPut⟩ | .put, .raise => ⟨by unfold PySem.W.notFirst; simp [Cs.at, z_nfPutRaise], z_nePut, z_moPut⟩ | .put, .level => ⟨by unfold PySem.W.notFirst; simp [Cs.at, z_nfPutLevel], z_nePut, z_moPut⟩ | .put, .mark => ⟨by unfold PySem.W.notFirst; simp [Cs.at, z_nfPutMark], z_nePut, z_moPut⟩ | .put, .forget => ⟨by unfold PySem.W.notFirst; simp [Cs.at, z_nfPutForget], z_nePut, z_moPut⟩ | .drop, .put => ⟨by unfold PySem.W.notFirst; simp [Cs.at, z_nfDropPut], z_neDrop, z_moDrop⟩ | .drop, .drop => ⟨by unfold PySem.W.notFirst; simp [Cs.at], z_neDrop, z_moDrop⟩ | .drop, .add => ⟨by unfold PySem.W.notFirst; simp [Cs.at, z_nfDropAdd], z_neDrop, z_moDrop⟩ | .drop, .wipe => ⟨by unfold PySem.W.notFirst; simp [Cs.at, z_nfDropWipe], z_neDrop, z_moDrop⟩ | .drop, .raise => ⟨by unfold PySem.W.notFirst; simp [Cs.at, z_nfDropRaise], z_neDrop, z_moDrop⟩ | .drop, .level => ⟨by unfold PySem.W.notFirst; simp [Cs.at, z_nfDropLevel], z_neDrop, z_moDrop⟩ | .drop, .mark => ⟨by unfold PySem.W.notFirst; simp [Cs.at, z_nfDropMark], z_neDrop, z_moDrop⟩ | .drop, .forget => ⟨by unfold PySem.W.notFirst; simp [Cs.at, z_nfDropForget], z_neDrop, z_moDrop⟩ | .add, .put => ⟨by unfold PySem.W.notFirst; simp [Cs.at, z_nfAddPut], z_neAdd, z_moAdd⟩ | .add, .drop => ⟨by unfold PySem.W.notFirst; simp [Cs.at, z_nfAddDrop], z_neAdd, z_moAdd⟩ | .add, .add => ⟨by unfold PySem.W.notFirst; simp [Cs.at], z_neAdd, z_moAdd⟩ | .add, .wipe => ⟨by unfold PySem.W.notFirst; simp [Cs.at, z_nfAddWipe], z_neAdd, z_moAdd⟩ | .add, .raise => ⟨by unfold PySem.W.notFirst; simp [Cs.at, z_nfAddRaise], z_neAdd, z_moAdd⟩ | .add, .level => ⟨by unfold PySem.W.notFirst; simp [Cs.at, z_nfAddLevel], z_neAdd, z_moAdd⟩ | .add, .mark => ⟨by unfold PySem.W.notFirst; simp [Cs.at, z_nfAddMark], z_neAdd, z_moAdd⟩ | .add, .forget => ⟨by unfold PySem.W.notFirst; simp [Cs.at, z_nfAddForget], z_neAdd, z_moAdd⟩ | .wipe, .put => ⟨by unfold PySem.W.notFirst; simp [Cs.at, z_nfWipePut], z_neWipe, z_moWipe⟩ | .wipe, .drop => ⟨by unfold PySem.W.notFirst; simp [Cs.at, z_nfWipeDrop], z_neWipe, z_moWipe⟩ | .wipe, .add => ⟨by unfold PySem.W.notFirst; simp [Cs.at, z_nfWipeAdd], z_neWipe, z_moWipe⟩ | .wipe, .wipe => ⟨by unfold PySem.W.notFirst; simp [Cs.at], z_neWipe, z_moWipe⟩ | .wipe, .raise => ⟨by unfold PySem.W.notFirst; simp [Cs.at, z_nfWipeRaise], z_neWipe, z_moWipe⟩ | .wipe, .level => ⟨by unfold PySem.W.notFirst; simp [Cs.at, z_nfWipeLevel], z_neWipe, z_moWipe⟩ | .wipe, .mark => ⟨by unfold PySem.W.notFirst; simp [Cs.at, z_nfWipeMark], z_neWipe, z_moWipe⟩ | .wipe, .forget => ⟨by unfold PySem.W.notFirst; simp [Cs.at, z_nfWipeForget], z_neWipe, z_moWipe⟩ | .raise, .put => ⟨by unfold PySem.W.notFirst; simp [Cs.at, z_nfRaisePut], z_neRaise, z_moRaise⟩ | .raise, .drop => ⟨by unfold PySem.W.notFirst; simp [Cs.at, z_nfRaiseDrop], z_neRaise, z_moRaise⟩ | .raise, .add => ⟨by unfold PySem.W.notFirst; simp [Cs.at, z_nfRaiseAdd], z_neRaise, z_moRaise⟩ | .raise, .wipe => ⟨by unfold PySem.W.notFirst; simp [Cs.at, z_nfRaiseWipe], z_neRaise, z_moRaise⟩ | .raise, .raise => ⟨by unfold PySem.W.notFirst; simp [Cs.at], z_neRaise, z_moRaise⟩ | .raise, .level => ⟨by unfold PySem.W.notFirst; simp [Cs.at, z_nfRaiseLevel], z_neRaise, z_moRaise⟩ | .raise, .mark => ⟨by unfold PySem.W.notFirst; simp [Cs.at, z_nfRaiseMark], z_neRaise, z_moRaise⟩ | .raise, .forget => ⟨by unfold PySem.W.notFirst; simp [Cs.at, z_nfRaiseForget], z_neRaise, z_moRaise⟩ | .level, .put => ⟨by unfold PySem.W.notFirst; simp [Cs.at, z_nfLevelPut], z_neLevel, z_moLevel⟩ | .level, .drop => ⟨by unfold PySem.W.notFirst; simp [Cs.at, z_nfLevelDrop], z_neLevel, z_moLevel⟩ | .level, .add => ⟨by unfold PySem.W.notFirst; simp [Cs.at, z_nfLevelAdd], z_neLevel, z_moLevel⟩ | .level, .wipe => ⟨by unfold PySem.W.notFirst; simp [Cs.at, z_nfLevelWipe], z_neLevel, z_moLevel⟩ | .level, .raise => ⟨by unfold PySem.W.notFirst; simp [Cs.at, z_nfLevelRaise], z_neLevel, z_moLevel⟩ | .level, .level => ⟨by unfold PySem.W.notFirst; simp [Cs.at], z_neLevel, z_moLevel⟩ | .level, .mark => ⟨by unfold PySem.W.notFirst; simp [Cs.at, z_nfLevelMark], z_neLevel, z_moLevel⟩ | .level, .forget => ⟨by unfold PySem.W.notFirst; simp [Cs.at, z_nfLevelForget], z_neLevel, z_moLevel⟩ | .mark, .put => ⟨by unfold PySem.W.notFirst; simp [Cs.at, z_nfMarkPut], z_neMark, z_moMark⟩ | .mark, .drop => ⟨by unfold PySem.W.notFirst; simp [Cs.at, z_nfMarkDrop], z_neMark, z_moMark⟩ | .mark, .add => ⟨by unfold PySem.W.notFirst; simp [Cs.at, z_nfMarkAdd], z_neMark, z_moMark⟩ | .mark, .wipe => ⟨by unfold PySem.W.notFirst; simp [Cs.at, z_nfMarkWipe], z_neMark, z_moMark⟩ | .mark, .raise => ⟨by unfold PySem.W.notFirst; simp [Cs.at, z_nfMarkRaise], z_neMark, z_moMark⟩ | .mark, .level => ⟨by unfold PySem.W.notFirst; simp [Cs.at, z_nfMarkLevel], z_neMark, z_moMark⟩ | .mark, .mark => ⟨by unfold PySem.W.notFirst; simp [Cs.at], z_neMark, z_moMark⟩ | .mark, .forget => ⟨by unfold PySem.W.notFirst; simp [Cs.at, z_nfMarkForget], z_neMark, z_moMark⟩ | .forget, .put => ⟨by unfold PySem.W.notFirst; simp [Cs.at, z_nfForgetPut], z_neForget, z_moForget⟩ | .forget, .drop => ⟨by unfold PySem.W.notFirst; simp [Cs.at, z_nfForgetDrop], z_neForget, z_moForget⟩ | .forget, .add => ⟨by unfold PySem.W.notFirst; simp [Cs.at, z_nfForgetAdd], z_neForget, z_moForget⟩ | .forget, .wipe => ⟨by unfold PySem.W.notFirst; simp [Cs.at, z_nfForgetWipe], z_neForget, z_moForget⟩ | .forget, .raise => ⟨by unfold PySem.W.notFirst; simp [Cs.at, z_nfForgetRaise], z_neForget, z_moForget⟩ | .forget, .level => ⟨by unfold PySem.W.notFirst; simp [Cs.at, z_nfForgetLevel], z_neForget, z_moForget⟩ | .forget, .mark => ⟨by unfold PySem.W.notFirst; simp [Cs.at, z_nfForgetMark], z_neForget, z_moForget⟩ | .forget, .forget => ⟨by unfold PySem.W.notFirst; simp [Cs.at], z_neForget, z_moForget⟩
  have Q_deed_of := C_deed_of.quiet (deedQ (K := K) (cs := (Cs.mk cPut cDrop cAdd cWipe cRaise cLevel cMark cForget)) (cD := cD))
  exact ok_law F45 B (C__law_well := C__law_well) (C__law_draw := C__law_draw) (C__law_read := C__law_read) (C__law_word := C__law_word) (C__law_spoilt := C__law_spoilt) (C__law_deed := C__law_deed) (dc := dc) (MT := MT) (ME := ME) (MR := MR) (ec := ec) (Q_deed_of := Q_deed_of)
theorem walk {l : PySem.W.OpenLaw} {q : Program} {loose : List Str} {XP : (Str → Option Value) → Heap → Prop} {YP : World → Heap → Prop} {d : DefRec} {K : Params → PySem.W.Frag} (hn : l.most = some 63) (hdf : d.params.defaults = [])
    (hY : ∀ (w : World) (h : Heap), YP w h → (K w.params).In h)
    (F : ∀ (w : World) (mg : Str → Option Value) (fa : Addr) (h : Heap), (K w.params).In h → h.Ns mainGlobals mg → mg d.name = some (.ref fa) →
      ∃ fd : FuncData, (∀ (s : Shared) (u : Value), BindsTo s fd ⟨[u], []⟩ [("_law_script", u)]) ∧ ∀ base : Heap, (K w.params).In base → base.Ns mainGlobals mg → FnOk l.prog w (K w.params) mg base CX0 9 fa fd ["_law_script"] (spLaw (K w.params))) :
    PySem.W.WalkO q loose XP YP l.row.toRowW d [] (fun f vs => PySem.call f vs) :=
  L2.walk_of (n := 63) (k := 9) (x := "_law_script") (CX := fun _ => CX0) (sp := fun w => spLaw (K w.params)) hn (by decide) hdf ⟨rfl, by decide, by decide, rfl⟩ hY F (fun _ _ a ns hl ho hS => ⟨a, ns, rfl, hS, hl, ho, fun _ => rfl⟩) fun _ _ _ _ _ z => z
abbrev kh (P : Params) (x : Str) : Int := PyData.keyHash P x
def hK (P : Params) : PySem.W.Frag :=
 (nat_lit 2, ⟨.none, none, (.dict (List.toArray ( [])) 0), #[]⟩) ::
 (nat_lit 3, ⟨(.type "dict"), none, (.dict (List.toArray (⟨kh P "__name__", (.str "__name__" 165), (.str "law_notefall_k13_words_read" 886)⟩ :: ⟨kh P "__doc__", (.str "__doc__" 166), .none⟩ :: ⟨kh P "__package__", (.str "__package__" 167), .none⟩ :: ⟨kh P "__loader__", (.str "__loader__" 168), (.builtin "__main__.__loader__#opaque")⟩ :: ⟨kh P "__spec__", (.str "__spec__" 169), .none⟩ :: ⟨kh P "__annotations__", (.str "__annotations__" 170), (.ref 6)⟩ :: ⟨kh P "__builtins__", (.str "__builtins__" 171), (.ref 4)⟩ :: ⟨kh P "__file__", (.str "__file__" 173), (.str "/claim/cut.py" 172)⟩ :: ⟨kh P "__cached__", (.str "__cached__" 174), .none⟩ :: ⟨kh P "_wall", (.str "_wall" 193), (.ref 21)⟩ :: ⟨kh P "FallError", (.str "FallError" 213), (.ref 31)⟩ :: ⟨kh P "NoAction", (.str "NoAction" 229), (.ref 44)⟩ :: ⟨kh P "NoDeed", (.str "NoDeed" 245), (.ref 56)⟩ :: ⟨kh P "NoKey", (.str "NoKey" 261), (.ref 68)⟩ :: ⟨kh P "NoStretch", (.str "NoStretch" 277), (.ref 80)⟩ :: ⟨kh P "NoMark", (.str "NoMark" 293), (.ref 92)⟩ :: ⟨kh P "NoPage", (.str "NoPage" 309), (.ref 104)⟩ :: ⟨kh P "END", (.str "END" 315), (.int 1000000000000 314)⟩ :: ⟨kh P "is_number", (.str "is_number" 322), (.ref 113)⟩ :: ⟨kh P "is_whole", (.str "is_whole" 331), (.ref 120)⟩ :: ⟨kh P "is_whole_from", (.str "is_whole_from" 339), (.ref 127)⟩ :: ⟨kh P "is_key", (.str "is_key" 346), (.ref 134)⟩ :: ⟨kh P "is_stretch", (.str "is_stretch" 354), (.ref 141)⟩ :: ⟨kh P "GONE", (.str "GONE" 356), (.ref 142)⟩ :: ⟨kh P "CLEARING", (.str "CLEARING" 359), (.ref 145)⟩ :: ⟨kh P "MOST_FIGURES", (.str "MOST_FIGURES" 363), (.int 60 362)⟩ :: ⟨kh P "figures_of", (.str "figures_of" 370), (.ref 152)⟩ :: ⟨kh P "are_figures", (.str "are_figures" 377), (.ref 159)⟩ :: ⟨kh P "read_figures", (.str "read_figures" 385), (.ref 166)⟩ :: ⟨kh P "MOST_VALUE", (.str "MOST_VALUE" 391), (.int 1000000000000000000000000000000 390)⟩ :: ⟨kh P "THINGS", (.str "THINGS" 416), (.ref 167)⟩ :: ⟨kh P "NO_MORE", (.str "NO_MORE" 418), (.str "no more" 417)⟩ :: ⟨kh P "is_amount", (.str "is_amount" 425), (.ref 174)⟩ :: ⟨kh P "check_things", (.str "check_things" 433), (.ref 181)⟩ :: ⟨kh P "word_of", (.str "word_of" 440), (.ref 188)⟩ :: ⟨kh P "Deed", (.str "Deed" 504), (.ref 238)⟩ :: ⟨kh P "Put", (.str "Put" 553), (.ref 281)⟩ :: ⟨kh P "Drop", (.str "Drop" 600), (.ref 322)⟩ :: ⟨kh P "Add", (.str "Add" 649), (.ref 363)⟩ :: ⟨kh P "Wipe", (.str "Wipe" 698), (.ref 404)⟩ :: ⟨kh P "Raise", (.str "Raise" 749), (.ref 445)⟩ :: ⟨kh P "Level", (.str "Level" 800), (.ref 486)⟩ :: ⟨kh P "Mark", (.str "Mark" 831), (.ref 513)⟩ :: ⟨kh P "Forget", (.str "Forget" 864), (.ref 540)⟩ :: ⟨kh P "has_form", (.str "has_form" 871), (.ref 549)⟩ :: ⟨kh P "deed_of", (.str "deed_of" 879), (.ref 556)⟩ :: ⟨kh P "read_words", (.str "read_words" 885), (.ref 561)⟩ :: ⟨kh P "_law_well", (.str "_law_well" 894), (.ref 568)⟩ :: ⟨kh P "_law_draw", (.str "_law_draw" 904), (.ref 575)⟩ :: ⟨kh P "_law_key", (.str "_law_key" 913), (.ref 582)⟩ :: ⟨kh P "_law_amount", (.str "_law_amount" 923), (.ref 589)⟩ :: ⟨kh P "_law_stretch", (.str "_law_stretch" 933), (.ref 596)⟩ :: ⟨kh P "_law_deed", (.str "_law_deed" 944), (.ref 603)⟩ :: ⟨kh P "_law_whole", (.str "_law_whole" 953), (.ref 610)⟩ :: ⟨kh P "_law_number", (.str "_law_number" 959), (.ref 615)⟩ :: ⟨kh P "_law_read", (.str "_law_read" 965), (.ref 620)⟩ :: ⟨kh P "_law_sign", (.str "_law_sign" 974), (.ref 627)⟩ :: ⟨kh P "_law_spoilt", (.str "_law_spoilt" 988), (.ref 634)⟩ :: ⟨kh P "_law_word", (.str "_law_word" 998), (.ref 641)⟩ :: ⟨kh P "law", (.str "law" 1004), (.ref 646)⟩ :: [])) 60), #[]⟩) ::
 (nat_lit 15, ⟨(.type "tuple"), none, (.seq #[] 0), #[]⟩) ::
 (nat_lit 17, ⟨(.type "tuple"), none, (.seq #[(.str "k" 190)] 0), #[]⟩) ::
 (nat_lit 18, ⟨(.type "tuple"), none, (.seq #[] 0), #[]⟩) ::
 (nat_lit 20, ⟨(.type "code"), none, (.fields #[(.str "_wall" 187), (.str "_wall" 188), (.str "/claim/cut.py" 189), (.int 1 0), (.int 1 0), (.int 0 0), (.int 0 0), (.int 3 0), (.ref 15), (.bool true), (.int 181 0), (.ref 16), .none, (.ref 17), (.ref 18), (.ref 19), (.int 191 0), (.int 1 0), (.str "/claim/cut.py" 192)]), #[]⟩) ::
 (nat_lit 21, ⟨(.type "function"), none, (.func ⟨"_wall", "_wall", defArgs (top 0), .stmts (defBody (top 0)), defScope (top 0), 3, [], .none, .none, .none, (.str "__main__" 164), none, (.ref 20), .none, 0⟩), #[]⟩) ::
 (nat_lit 22, ⟨(.type "tuple"), none, (.seq #[(.type "ValueError")] 0), #[]⟩) ::
 (nat_lit 29, ⟨(.type "tuple"), none, (.seq #[] 0), #[]⟩) ::
 (nat_lit 30, ⟨(.type "dict"), none, (.dict (List.toArray (⟨kh P "__module__", (.str "__module__" 203), (.str "notefall.errors" 194)⟩ :: ⟨kh P "__firstlineno__", (.str "__firstlineno__" 207), (.int 5 206)⟩ :: ⟨kh P "__static_attributes__", (.str "__static_attributes__" 208), (.ref 29)⟩ :: ⟨kh P "__weakref__", (.str "__weakref__" 210), (.ref 32)⟩ :: ⟨kh P "__doc__", (.str "__doc__" 211), .none⟩ :: [])) 3), #[]⟩) ::
 (nat_lit 31, ⟨(.type "type"), none, (.cls ⟨"FallError", [(.type "ValueError")], [(.ref 31), (.type "ValueError"), (.type "Exception"), (.type "BaseException"), (.type "object")], 30, "FallError", true, [], [(.ref 44), (.ref 56), (.ref 68), (.ref 80), (.ref 92), (.ref 104)], false, none, false⟩), #[(some (.ref 22)), none, (some (.str "FallError" 196)), (some (.str "FallError" 204)), (some (.builtin "ValueError.__new__")), (some (.bool true))]⟩) ::
 (nat_lit 32, ⟨(.type "getset_descriptor"), none, (.fields #[(.str "__weakref__" 209), (.ref 31), (.builtin "ExceptionGroup.__weakref__"), .none]), #[]⟩) ::
 (nat_lit 35, ⟨(.type "tuple"), none, (.seq #[(.ref 31)] 0), #[]⟩) ::
 (nat_lit 42, ⟨(.type "tuple"), none, (.seq #[] 0), #[]⟩) ::
 (nat_lit 43, ⟨(.type "dict"), none, (.dict (List.toArray (⟨kh P "__module__", (.str "__module__" 221), (.str "notefall.errors" 194)⟩ :: ⟨kh P "__firstlineno__", (.str "__firstlineno__" 225), (.int 7 224)⟩ :: ⟨kh P "__static_attributes__", (.str "__static_attributes__" 226), (.ref 42)⟩ :: ⟨kh P "__doc__", (.str "__doc__" 227), .none⟩ :: [])) 2), #[]⟩) ::
 (nat_lit 44, ⟨(.type "type"), none, (.cls ⟨"NoAction", [(.ref 31)], [(.ref 44), (.ref 31), (.type "ValueError"), (.type "Exception"), (.type "BaseException"), (.type "object")], 43, "NoAction", true, [], [], false, none, false⟩), #[(some (.ref 35)), none, (some (.str "NoAction" 214)), (some (.str "NoAction" 222)), (some (.builtin "ValueError.__new__")), (some (.bool true))]⟩) ::
 (nat_lit 47, ⟨(.type "tuple"), none, (.seq #[(.ref 31)] 0), #[]⟩) ::
 (nat_lit 54, ⟨(.type "tuple"), none, (.seq #[] 0), #[]⟩) ::
 (nat_lit 55, ⟨(.type "dict"), none, (.dict (List.toArray (⟨kh P "__module__", (.str "__module__" 237), (.str "notefall.errors" 194)⟩ :: ⟨kh P "__firstlineno__", (.str "__firstlineno__" 241), (.int 9 240)⟩ :: ⟨kh P "__static_attributes__", (.str "__static_attributes__" 242), (.ref 54)⟩ :: ⟨kh P "__doc__", (.str "__doc__" 243), .none⟩ :: [])) 2), #[]⟩) ::
 (nat_lit 56, ⟨(.type "type"), none, (.cls ⟨"NoDeed", [(.ref 31)], [(.ref 56), (.ref 31), (.type "ValueError"), (.type "Exception"), (.type "BaseException"), (.type "object")], 55, "NoDeed", true, [], [], false, none, false⟩), #[(some (.ref 47)), none, (some (.str "NoDeed" 230)), (some (.str "NoDeed" 238)), (some (.builtin "ValueError.__new__")), (some (.bool true))]⟩) ::
 (nat_lit 59, ⟨(.type "tuple"), none, (.seq #[(.ref 31)] 0), #[]⟩) ::
 (nat_lit 66, ⟨(.type "tuple"), none, (.seq #[] 0), #[]⟩) ::
 (nat_lit 67, ⟨(.type "dict"), none, (.dict (List.toArray (⟨kh P "__module__", (.str "__module__" 253), (.str "notefall.errors" 194)⟩ :: ⟨kh P "__firstlineno__", (.str "__firstlineno__" 257), (.int 11 256)⟩ :: ⟨kh P "__static_attributes__", (.str "__static_attributes__" 258), (.ref 66)⟩ :: ⟨kh P "__doc__", (.str "__doc__" 259), .none⟩ :: [])) 2), #[]⟩) ::
 (nat_lit 68, ⟨(.type "type"), none, (.cls ⟨"NoKey", [(.ref 31)], [(.ref 68), (.ref 31), (.type "ValueError"), (.type "Exception"), (.type "BaseException"), (.type "object")], 67, "NoKey", true, [], [], false, none, false⟩), #[(some (.ref 59)), none, (some (.str "NoKey" 246)), (some (.str "NoKey" 254)), (some (.builtin "ValueError.__new__")), (some (.bool true))]⟩) ::
 (nat_lit 71, ⟨(.type "tuple"), none, (.seq #[(.ref 31)] 0), #[]⟩) ::
 (nat_lit 78, ⟨(.type "tuple"), none, (.seq #[] 0), #[]⟩) ::
 (nat_lit 79, ⟨(.type "dict"), none, (.dict (List.toArray (⟨kh P "__module__", (.str "__module__" 269), (.str "notefall.errors" 194)⟩ :: ⟨kh P "__firstlineno__", (.str "__firstlineno__" 273), (.int 13 272)⟩ :: ⟨kh P "__static_attributes__", (.str "__static_attributes__" 274), (.ref 78)⟩ :: ⟨kh P "__doc__", (.str "__doc__" 275), .none⟩ :: [])) 2), #[]⟩) ::
 (nat_lit 80, ⟨(.type "type"), none, (.cls ⟨"NoStretch", [(.ref 31)], [(.ref 80), (.ref 31), (.type "ValueError"), (.type "Exception"), (.type "BaseException"), (.type "object")], 79, "NoStretch", true, [], [], false, none, false⟩), #[(some (.ref 71)), none, (some (.str "NoStretch" 262)), (some (.str "NoStretch" 270)), (some (.builtin "ValueError.__new__")), (some (.bool true))]⟩) ::
 (nat_lit 83, ⟨(.type "tuple"), none, (.seq #[(.ref 31)] 0), #[]⟩) ::
 (nat_lit 90, ⟨(.type "tuple"), none, (.seq #[] 0), #[]⟩) ::
 (nat_lit 91, ⟨(.type "dict"), none, (.dict (List.toArray (⟨kh P "__module__", (.str "__module__" 285), (.str "notefall.errors" 194)⟩ :: ⟨kh P "__firstlineno__", (.str "__firstlineno__" 289), (.int 15 288)⟩ :: ⟨kh P "__static_attributes__", (.str "__static_attributes__" 290), (.ref 90)⟩ :: ⟨kh P "__doc__", (.str "__doc__" 291), .none⟩ :: [])) 2), #[]⟩) ::
 (nat_lit 92, ⟨(.type "type"), none, (.cls ⟨"NoMark", [(.ref 31)], [(.ref 92), (.ref 31), (.type "ValueError"), (.type "Exception"), (.type "BaseException"), (.type "object")], 91, "NoMark", true, [], [], false, none, false⟩), #[(some (.ref 83)), none, (some (.str "NoMark" 278)), (some (.str "NoMark" 286)), (some (.builtin "ValueError.__new__")), (some (.bool true))]⟩) ::
 (nat_lit 95, ⟨(.type "tuple"), none, (.seq #[(.ref 31)] 0), #[]⟩) ::
 (nat_lit 102, ⟨(.type "tuple"), none, (.seq #[] 0), #[]⟩) ::
 (nat_lit 103, ⟨(.type "dict"), none, (.dict (List.toArray (⟨kh P "__module__", (.str "__module__" 301), (.str "notefall.errors" 194)⟩ :: ⟨kh P "__firstlineno__", (.str "__firstlineno__" 305), (.int 17 304)⟩ :: ⟨kh P "__static_attributes__", (.str "__static_attributes__" 306), (.ref 102)⟩ :: ⟨kh P "__doc__", (.str "__doc__" 307), .none⟩ :: [])) 2), #[]⟩) ::
 (nat_lit 104, ⟨(.type "type"), none, (.cls ⟨"NoPage", [(.ref 31)], [(.ref 104), (.ref 31), (.type "ValueError"), (.type "Exception"), (.type "BaseException"), (.type "object")], 103, "NoPage", true, [], [], false, none, false⟩), #[(some (.ref 95)), none, (some (.str "NoPage" 294)), (some (.str "NoPage" 302)), (some (.builtin "ValueError.__new__")), (some (.bool true))]⟩) ::
 (nat_lit 107, ⟨(.type "tuple"), none, (.seq #[] 0), #[]⟩) ::
 (nat_lit 109, ⟨(.type "tuple"), none, (.seq #[(.str "thing" 319)] 0), #[]⟩) ::
 (nat_lit 110, ⟨(.type "tuple"), none, (.seq #[] 0), #[]⟩) ::
 (nat_lit 112, ⟨(.type "code"), none, (.fields #[(.str "is_number" 316), (.str "is_number" 317), (.str "/claim/cut.py" 318), (.int 21 0), (.int 1 0), (.int 0 0), (.int 0 0), (.int 3 0), (.ref 107), (.bool true), (.int 181 0), (.ref 108), .none, (.ref 109), (.ref 110), (.ref 111), (.int 320 0), (.int 21 0), (.str "/claim/cut.py" 321)]), #[]⟩) ::
 (nat_lit 113, ⟨(.type "function"), none, (.func ⟨"is_number", "is_number", defArgs (top 11), .stmts (defBody (top 11)), defScope (top 11), 3, [], .none, .none, .none, (.str "notefall.wholes" 310), none, (.ref 112), .none, 0⟩), #[]⟩) ::
 (nat_lit 114, ⟨(.type "tuple"), none, (.seq #[] 0), #[]⟩) ::
 (nat_lit 116, ⟨(.type "tuple"), none, (.seq #[(.str "thing" 326), (.str "low" 327), (.str "high" 328)] 0), #[]⟩) ::
 (nat_lit 117, ⟨(.type "tuple"), none, (.seq #[] 0), #[]⟩) ::
 (nat_lit 119, ⟨(.type "code"), none, (.fields #[(.str "is_whole" 323), (.str "is_whole" 324), (.str "/claim/cut.py" 325), (.int 23 0), (.int 3 0), (.int 0 0), (.int 0 0), (.int 3 0), (.ref 114), (.bool true), (.int 181 0), (.ref 115), .none, (.ref 116), (.ref 117), (.ref 118), (.int 329 0), (.int 23 0), (.str "/claim/cut.py" 330)]), #[]⟩) ::
 (nat_lit 120, ⟨(.type "function"), none, (.func ⟨"is_whole", "is_whole", defArgs (top 12), .stmts (defBody (top 12)), defScope (top 12), 3, [], .none, .none, .none, (.str "notefall.wholes" 310), none, (.ref 119), .none, 0⟩), #[]⟩) ::
 (nat_lit 121, ⟨(.type "tuple"), none, (.seq #[] 0), #[]⟩) ::
 (nat_lit 123, ⟨(.type "tuple"), none, (.seq #[(.str "thing" 335), (.str "low" 336)] 0), #[]⟩) ::
 (nat_lit 124, ⟨(.type "tuple"), none, (.seq #[] 0), #[]⟩) ::
 (nat_lit 126, ⟨(.type "code"), none, (.fields #[(.str "is_whole_from" 332), (.str "is_whole_from" 333), (.str "/claim/cut.py" 334), (.int 25 0), (.int 2 0), (.int 0 0), (.int 0 0), (.int 3 0), (.ref 121), (.bool true), (.int 181 0), (.ref 122), .none, (.ref 123), (.ref 124), (.ref 125), (.int 337 0), (.int 25 0), (.str "/claim/cut.py" 338)]), #[]⟩) ::
 (nat_lit 127, ⟨(.type "function"), none, (.func ⟨"is_whole_from", "is_whole_from", defArgs (top 13), .stmts (defBody (top 13)), defScope (top 13), 3, [], .none, .none, .none, (.str "notefall.wholes" 310), none, (.ref 126), .none, 0⟩), #[]⟩) ::
 (nat_lit 128, ⟨(.type "tuple"), none, (.seq #[] 0), #[]⟩) ::
 (nat_lit 130, ⟨(.type "tuple"), none, (.seq #[(.str "thing" 343)] 0), #[]⟩) ::
 (nat_lit 131, ⟨(.type "tuple"), none, (.seq #[] 0), #[]⟩) ::
 (nat_lit 133, ⟨(.type "code"), none, (.fields #[(.str "is_key" 340), (.str "is_key" 341), (.str "/claim/cut.py" 342), (.int 27 0), (.int 1 0), (.int 0 0), (.int 0 0), (.int 3 0), (.ref 128), (.bool true), (.int 181 0), (.ref 129), .none, (.ref 130), (.ref 131), (.ref 132), (.int 344 0), (.int 27 0), (.str "/claim/cut.py" 345)]), #[]⟩) ::
 (nat_lit 134, ⟨(.type "function"), none, (.func ⟨"is_key", "is_key", defArgs (top 14), .stmts (defBody (top 14)), defScope (top 14), 3, [], .none, .none, .none, (.str "notefall.wholes" 310), none, (.ref 133), .none, 0⟩), #[]⟩) ::
 (nat_lit 135, ⟨(.type "tuple"), none, (.seq #[] 0), #[]⟩) ::
 (nat_lit 137, ⟨(.type "tuple"), none, (.seq #[(.str "low" 350), (.str "high" 351)] 0), #[]⟩) ::
 (nat_lit 138, ⟨(.type "tuple"), none, (.seq #[] 0), #[]⟩) ::
 (nat_lit 140, ⟨(.type "code"), none, (.fields #[(.str "is_stretch" 347), (.str "is_stretch" 348), (.str "/claim/cut.py" 349), (.int 29 0), (.int 2 0), (.int 0 0), (.int 0 0), (.int 3 0), (.ref 135), (.bool true), (.int 181 0), (.ref 136), .none, (.ref 137), (.ref 138), (.ref 139), (.int 352 0), (.int 29 0), (.str "/claim/cut.py" 353)]), #[]⟩) ::
 (nat_lit 141, ⟨(.type "function"), none, (.func ⟨"is_stretch", "is_stretch", defArgs (top 15), .stmts (defBody (top 15)), defScope (top 15), 3, [], .none, .none, .none, (.str "notefall.wholes" 310), none, (.ref 140), .none, 0⟩), #[]⟩) ::
 (nat_lit 142, ⟨(.type "tuple"), none, (.seq #[(.str "gone" 355)] 0), #[]⟩) ::
 (nat_lit 143, ⟨(.type "tuple"), none, (.seq #[(.str "gone" 357)] 0), #[]⟩) ::
 (nat_lit 144, ⟨(.type "tuple"), none, (.seq #[(.str "gone" 358)] 0), #[]⟩) ::
 (nat_lit 145, ⟨(.type "tuple"), none, (.seq #[(.ref 143), (.ref 144)] 0), #[]⟩) ::
 (nat_lit 146, ⟨(.type "tuple"), none, (.seq #[] 0), #[]⟩) ::
 (nat_lit 148, ⟨(.type "tuple"), none, (.seq #[(.str "number" 367)] 0), #[]⟩) ::
 (nat_lit 149, ⟨(.type "tuple"), none, (.seq #[] 0), #[]⟩) ::
 (nat_lit 151, ⟨(.type "code"), none, (.fields #[(.str "figures_of" 364), (.str "figures_of" 365), (.str "/claim/cut.py" 366), (.int 35 0), (.int 1 0), (.int 0 0), (.int 0 0), (.int 3 0), (.ref 146), (.bool true), (.int 181 0), (.ref 147), .none, (.ref 148), (.ref 149), (.ref 150), (.int 368 0), (.int 35 0), (.str "/claim/cut.py" 369)]), #[]⟩) ::
 (nat_lit 152, ⟨(.type "function"), none, (.func ⟨"figures_of", "figures_of", defArgs (top 20), .stmts (defBody (top 20)), defScope (top 20), 3, [], .none, .none, .none, (.str "notefall.figures" 360), none, (.ref 151), .none, 0⟩), #[]⟩) ::
 (nat_lit 153, ⟨(.type "tuple"), none, (.seq #[] 0), #[]⟩) ::
 (nat_lit 155, ⟨(.type "tuple"), none, (.seq #[(.str "text" 374)] 0), #[]⟩) ::
 (nat_lit 156, ⟨(.type "tuple"), none, (.seq #[] 0), #[]⟩) ::
 (nat_lit 158, ⟨(.type "code"), none, (.fields #[(.str "are_figures" 371), (.str "are_figures" 372), (.str "/claim/cut.py" 373), (.int 37 0), (.int 1 0), (.int 0 0), (.int 0 0), (.int 3 0), (.ref 153), (.bool true), (.int 181 0), (.ref 154), .none, (.ref 155), (.ref 156), (.ref 157), (.int 375 0), (.int 37 0), (.str "/claim/cut.py" 376)]), #[]⟩) ::
 (nat_lit 159, ⟨(.type "function"), none, (.func ⟨"are_figures", "are_figures", defArgs (top 21), .stmts (defBody (top 21)), defScope (top 21), 3, [], .none, .none, .none, (.str "notefall.figures" 360), none, (.ref 158), .none, 0⟩), #[]⟩) ::
 (nat_lit 160, ⟨(.type "tuple"), none, (.seq #[] 0), #[]⟩) ::
 (nat_lit 162, ⟨(.type "tuple"), none, (.seq #[(.str "text" 381), (.str "bare" 382)] 0), #[]⟩) ::
 (nat_lit 163, ⟨(.type "tuple"), none, (.seq #[] 0), #[]⟩) ::
 (nat_lit 165, ⟨(.type "code"), none, (.fields #[(.str "read_figures" 378), (.str "read_figures" 379), (.str "/claim/cut.py" 380), (.int 39 0), (.int 1 0), (.int 0 0), (.int 0 0), (.int 3 0), (.ref 160), (.bool true), (.int 181 0), (.ref 161), .none, (.ref 162), (.ref 163), (.ref 164), (.int 383 0), (.int 39 0), (.str "/claim/cut.py" 384)]), #[]⟩) ::
 (nat_lit 166, ⟨(.type "function"), none, (.func ⟨"read_figures", "read_figures", defArgs (top 22), .stmts (defBody (top 22)), defScope (top 22), 3, [], .none, .none, .none, (.str "notefall.figures" 360), none, (.ref 165), .none, 0⟩), #[]⟩) ::
 (nat_lit 167, ⟨(.type "dict"), none, (.dict (List.toArray (⟨kh P "put", (.str "put" 392), (.int 3 393)⟩ :: ⟨kh P "drop", (.str "drop" 394), (.int 2 395)⟩ :: ⟨kh P "add", (.str "add" 396), (.int 3 397)⟩ :: ⟨kh P "wipe", (.str "wipe" 398), (.int 3 399)⟩ :: ⟨kh P "raise", (.str "raise" 400), (.int 4 401)⟩ :: ⟨kh P "level", (.str "level" 402), (.int 4 403)⟩ :: ⟨kh P "mark", (.str "mark" 404), (.int 1 405)⟩ :: ⟨kh P "forget", (.str "forget" 406), (.int 2 407)⟩ :: [])) 8), #[]⟩) ::
 (nat_lit 168, ⟨(.type "tuple"), none, (.seq #[] 0), #[]⟩) ::
 (nat_lit 170, ⟨(.type "tuple"), none, (.seq #[(.str "thing" 422)] 0), #[]⟩) ::
 (nat_lit 171, ⟨(.type "tuple"), none, (.seq #[] 0), #[]⟩) ::
 (nat_lit 173, ⟨(.type "code"), none, (.fields #[(.str "is_amount" 419), (.str "is_amount" 420), (.str "/claim/cut.py" 421), (.int 52 0), (.int 1 0), (.int 0 0), (.int 0 0), (.int 3 0), (.ref 168), (.bool true), (.int 181 0), (.ref 169), .none, (.ref 170), (.ref 171), (.ref 172), (.int 423 0), (.int 52 0), (.str "/claim/cut.py" 424)]), #[]⟩) ::
 (nat_lit 174, ⟨(.type "function"), none, (.func ⟨"is_amount", "is_amount", defArgs (top 27), .stmts (defBody (top 27)), defScope (top 27), 3, [], .none, .none, .none, (.str "notefall.deeds" 386), none, (.ref 173), .none, 0⟩), #[]⟩) ::
 (nat_lit 175, ⟨(.type "tuple"), none, (.seq #[] 0), #[]⟩) ::
 (nat_lit 177, ⟨(.type "tuple"), none, (.seq #[(.str "fit" 429), (.str "more" 430)] 0), #[]⟩) ::
 (nat_lit 178, ⟨(.type "tuple"), none, (.seq #[] 0), #[]⟩) ::
 (nat_lit 180, ⟨(.type "code"), none, (.fields #[(.str "check_things" 426), (.str "check_things" 427), (.str "/claim/cut.py" 428), (.int 54 0), (.int 2 0), (.int 0 0), (.int 0 0), (.int 3 0), (.ref 175), (.bool true), (.int 181 0), (.ref 176), .none, (.ref 177), (.ref 178), (.ref 179), (.int 431 0), (.int 54 0), (.str "/claim/cut.py" 432)]), #[]⟩) ::
 (nat_lit 181, ⟨(.type "function"), none, (.func ⟨"check_things", "check_things", defArgs (top 28), .stmts (defBody (top 28)), defScope (top 28), 3, [], .none, .none, .none, (.str "notefall.deeds" 386), none, (.ref 180), .none, 0⟩), #[]⟩) ::
 (nat_lit 182, ⟨(.type "tuple"), none, (.seq #[] 0), #[]⟩) ::
 (nat_lit 184, ⟨(.type "tuple"), none, (.seq #[(.str "thing" 437)] 0), #[]⟩) ::
 (nat_lit 185, ⟨(.type "tuple"), none, (.seq #[] 0), #[]⟩) ::
 (nat_lit 187, ⟨(.type "code"), none, (.fields #[(.str "word_of" 434), (.str "word_of" 435), (.str "/claim/cut.py" 436), (.int 57 0), (.int 1 0), (.int 0 0), (.int 0 0), (.int 3 0), (.ref 182), (.bool true), (.int 181 0), (.ref 183), .none, (.ref 184), (.ref 185), (.ref 186), (.int 438 0), (.int 57 0), (.str "/claim/cut.py" 439)]), #[]⟩) ::
 (nat_lit 188, ⟨(.type "function"), none, (.func ⟨"word_of", "word_of", defArgs (top 29), .stmts (defBody (top 29)), defScope (top 29), 3, [], .none, .none, .none, (.str "notefall.deeds" 386), none, (.ref 187), .none, 0⟩), #[]⟩) ::
 (nat_lit 196, ⟨(.type "tuple"), none, (.seq #[] 0), #[]⟩) ::
 (nat_lit 198, ⟨(.type "tuple"), none, (.seq #[(.str "self" 456)] 0), #[]⟩) ::
 (nat_lit 199, ⟨(.type "tuple"), none, (.seq #[] 0), #[]⟩) ::
 (nat_lit 201, ⟨(.type "code"), none, (.fields #[(.str "told" 453), (.str "Deed.told" 454), (.str "/claim/cut.py" 455), (.int 61 0), (.int 1 0), (.int 0 0), (.int 0 0), (.int 3 0), (.ref 196), (.bool true), (.int 181 0), (.ref 197), .none, (.ref 198), (.ref 199), (.ref 200), (.int 457 0), (.int 61 0), (.str "/claim/cut.py" 458)]), #[]⟩) ::
 (nat_lit 202, ⟨(.type "function"), none, (.func ⟨"told", "Deed.told", defArgs (inClass (top 30) 0), .stmts (defBody (inClass (top 30) 0)), defScope (inClass (top 30) 0), 3, [], .none, .none, .none, (.str "notefall.deeds" 386), none, (.ref 201), .none, 0⟩), #[]⟩) ::
 (nat_lit 203, ⟨(.type "tuple"), none, (.seq #[] 0), #[]⟩) ::
 (nat_lit 205, ⟨(.type "tuple"), none, (.seq #[(.str "self" 463)] 0), #[]⟩) ::
 (nat_lit 206, ⟨(.type "tuple"), none, (.seq #[] 0), #[]⟩) ::
 (nat_lit 208, ⟨(.type "code"), none, (.fields #[(.str "action" 460), (.str "Deed.action" 461), (.str "/claim/cut.py" 462), (.int 64 0), (.int 1 0), (.int 0 0), (.int 0 0), (.int 3 0), (.ref 203), (.bool true), (.int 181 0), (.ref 204), .none, (.ref 205), (.ref 206), (.ref 207), (.int 464 0), (.int 64 0), (.str "/claim/cut.py" 465)]), #[]⟩) ::
 (nat_lit 209, ⟨(.type "function"), none, (.func ⟨"action", "Deed.action", defArgs (inClass (top 30) 1), .stmts (defBody (inClass (top 30) 1)), defScope (inClass (top 30) 1), 3, [], .none, .none, .none, (.str "notefall.deeds" 386), none, (.ref 208), .none, 0⟩), #[]⟩) ::
 (nat_lit 210, ⟨(.type "tuple"), none, (.seq #[] 0), #[]⟩) ::
 (nat_lit 212, ⟨(.type "tuple"), none, (.seq #[(.str "self" 470)] 0), #[]⟩) ::
 (nat_lit 213, ⟨(.type "tuple"), none, (.seq #[] 0), #[]⟩) ::
 (nat_lit 215, ⟨(.type "code"), none, (.fields #[(.str "span" 467), (.str "Deed.span" 468), (.str "/claim/cut.py" 469), (.int 67 0), (.int 1 0), (.int 0 0), (.int 0 0), (.int 3 0), (.ref 210), (.bool true), (.int 181 0), (.ref 211), .none, (.ref 212), (.ref 213), (.ref 214), (.int 471 0), (.int 67 0), (.str "/claim/cut.py" 472)]), #[]⟩) ::
 (nat_lit 216, ⟨(.type "function"), none, (.func ⟨"span", "Deed.span", defArgs (inClass (top 30) 2), .stmts (defBody (inClass (top 30) 2)), defScope (inClass (top 30) 2), 3, [], .none, .none, .none, (.str "notefall.deeds" 386), none, (.ref 215), .none, 0⟩), #[]⟩) ::
 (nat_lit 217, ⟨(.type "tuple"), none, (.seq #[] 0), #[]⟩) ::
 (nat_lit 219, ⟨(.type "tuple"), none, (.seq #[(.str "self" 477), (.str "number" 478)] 0), #[]⟩) ::
 (nat_lit 220, ⟨(.type "tuple"), none, (.seq #[] 0), #[]⟩) ::
 (nat_lit 222, ⟨(.type "code"), none, (.fields #[(.str "note" 474), (.str "Deed.note" 475), (.str "/claim/cut.py" 476), (.int 70 0), (.int 2 0), (.int 0 0), (.int 0 0), (.int 3 0), (.ref 217), (.bool true), (.int 181 0), (.ref 218), .none, (.ref 219), (.ref 220), (.ref 221), (.int 479 0), (.int 70 0), (.str "/claim/cut.py" 480)]), #[]⟩) ::
 (nat_lit 223, ⟨(.type "function"), none, (.func ⟨"note", "Deed.note", defArgs (inClass (top 30) 3), .stmts (defBody (inClass (top 30) 3)), defScope (inClass (top 30) 3), 3, [], .none, .none, .none, (.str "notefall.deeds" 386), none, (.ref 222), .none, 0⟩), #[]⟩) ::
 (nat_lit 224, ⟨(.type "tuple"), none, (.seq #[] 0), #[]⟩) ::
 (nat_lit 227, ⟨(.type "code"), none, (.fields #[(.str "__str__" 482), (.str "Deed.__str__" 483), (.str "/claim/cut.py" 484), (.int 73 0), (.int 1 0), (.int 0 0), (.int 0 0), (.int 3 0), (.ref 224), (.bool true), (.int 181 0), (.ref 225), .none, .none, .none, (.ref 226), (.int 485 0), (.int 73 0), (.str "/claim/cut.py" 486)]), #[]⟩) ::
 (nat_lit 228, ⟨(.type "function"), none, (.func ⟨"__str__", "Deed.__str__", defArgs (inClass (top 30) 4), .stmts (defBody (inClass (top 30) 4)), defScope (inClass (top 30) 4), 3, [], .none, .none, .none, (.str "notefall.deeds" 386), none, (.ref 227), .none, 0⟩), #[]⟩) ::
 (nat_lit 229, ⟨(.type "tuple"), none, (.seq #[] 0), #[]⟩) ::
 (nat_lit 231, ⟨(.type "tuple"), none, (.seq #[(.str "self" 491), (.str "other" 492)] 0), #[]⟩) ::
 (nat_lit 232, ⟨(.type "tuple"), none, (.seq #[] 0), #[]⟩) ::
 (nat_lit 234, ⟨(.type "code"), none, (.fields #[(.str "__eq__" 488), (.str "Deed.__eq__" 489), (.str "/claim/cut.py" 490), (.int 76 0), (.int 2 0), (.int 0 0), (.int 0 0), (.int 3 0), (.ref 229), (.bool true), (.int 181 0), (.ref 230), .none, (.ref 231), (.ref 232), (.ref 233), (.int 493 0), (.int 76 0), (.str "/claim/cut.py" 494)]), #[]⟩) ::
 (nat_lit 235, ⟨(.type "function"), none, (.func ⟨"__eq__", "Deed.__eq__", defArgs (inClass (top 30) 5), .stmts (defBody (inClass (top 30) 5)), defScope (inClass (top 30) 5), 3, [], .none, .none, .none, (.str "notefall.deeds" 386), none, (.ref 234), .none, 0⟩), #[]⟩) ::
 (nat_lit 236, ⟨(.type "tuple"), none, (.seq #[] 0), #[]⟩) ::
 (nat_lit 237, ⟨(.type "dict"), none, (.dict (List.toArray (⟨kh P "__module__", (.str "__module__" 448), (.str "notefall.deeds" 386)⟩ :: ⟨kh P "__firstlineno__", (.str "__firstlineno__" 452), (.int 59 451)⟩ :: ⟨kh P "told", (.str "told" 459), (.ref 202)⟩ :: ⟨kh P "action", (.str "action" 466), (.ref 209)⟩ :: ⟨kh P "span", (.str "span" 473), (.ref 216)⟩ :: ⟨kh P "note", (.str "note" 481), (.ref 223)⟩ :: ⟨kh P "__str__", (.str "__str__" 487), (.ref 228)⟩ :: ⟨kh P "__eq__", (.str "__eq__" 495), (.ref 235)⟩ :: ⟨kh P "__static_attributes__", (.str "__static_attributes__" 496), (.ref 236)⟩ :: ⟨kh P "__dict__", (.str "__dict__" 498), (.ref 239)⟩ :: ⟨kh P "__weakref__", (.str "__weakref__" 500), (.ref 240)⟩ :: ⟨kh P "__doc__", (.str "__doc__" 501), .none⟩ :: ⟨kh P "__hash__", (.str "__hash__" 502), .none⟩ :: [])) 5), #[]⟩) ::
 (nat_lit 238, ⟨(.type "type"), none, (.cls ⟨"Deed", [(.type "object")], [(.ref 238), (.type "object")], 237, "Deed", true, [], [(.ref 281), (.ref 322), (.ref 363), (.ref 404), (.ref 445), (.ref 486), (.ref 513), (.ref 540)], false, none, false⟩), #[none, none, (some (.str "Deed" 441)), (some (.str "Deed" 449)), (some (.builtin "object.__new__")), (some (.bool true))]⟩) ::
 (nat_lit 239, ⟨(.type "getset_descriptor"), none, (.fields #[(.str "__dict__" 497), (.ref 238), (.builtin "function.__dict__"), (.builtin "function.__dict__#set")]), #[]⟩) ::
 (nat_lit 240, ⟨(.type "getset_descriptor"), none, (.fields #[(.str "__weakref__" 499), (.ref 238), (.builtin "ExceptionGroup.__weakref__"), .none]), #[]⟩) ::
 (nat_lit 243, ⟨(.type "tuple"), none, (.seq #[(.ref 238)] 0), #[]⟩) ::
 (nat_lit 250, ⟨(.type "tuple"), none, (.seq #[.none, .none, (.str "no more" 417)] 0), #[]⟩) ::
 (nat_lit 251, ⟨(.type "tuple"), none, (.seq #[] 0), #[]⟩) ::
 (nat_lit 253, ⟨(.type "tuple"), none, (.seq #[(.str "self" 520), (.str "key" 521), (.str "value" 522), (.str "more" 523)] 0), #[]⟩) ::
 (nat_lit 254, ⟨(.type "tuple"), none, (.seq #[] 0), #[]⟩) ::
 (nat_lit 256, ⟨(.type "code"), none, (.fields #[(.str "__init__" 517), (.str "Put.__init__" 518), (.str "/claim/cut.py" 519), (.int 80 0), (.int 4 0), (.int 0 0), (.int 0 0), (.int 3 0), (.ref 251), (.bool true), (.int 181 0), (.ref 252), .none, (.ref 253), (.ref 254), (.ref 255), (.int 524 0), (.int 80 0), (.str "/claim/cut.py" 525)]), #[]⟩) ::
 (nat_lit 257, ⟨(.type "function"), none, (.func ⟨"__init__", "Put.__init__", defArgs (inClass (top 31) 0), .stmts (defBody (inClass (top 31) 0)), defScope (inClass (top 31) 0), 3, [], (.ref 250), .none, .none, (.str "notefall.deeds" 386), none, (.ref 256), .none, 0⟩), #[]⟩) ::
 (nat_lit 258, ⟨(.type "tuple"), none, (.seq #[] 0), #[]⟩) ::
 (nat_lit 260, ⟨(.type "tuple"), none, (.seq #[(.str "self" 530)] 0), #[]⟩) ::
 (nat_lit 261, ⟨(.type "tuple"), none, (.seq #[] 0), #[]⟩) ::
 (nat_lit 263, ⟨(.type "code"), none, (.fields #[(.str "told" 527), (.str "Put.told" 528), (.str "/claim/cut.py" 529), (.int 85 0), (.int 1 0), (.int 0 0), (.int 0 0), (.int 3 0), (.ref 258), (.bool true), (.int 181 0), (.ref 259), .none, (.ref 260), (.ref 261), (.ref 262), (.int 531 0), (.int 85 0), (.str "/claim/cut.py" 532)]), #[]⟩) ::
 (nat_lit 264, ⟨(.type "function"), none, (.func ⟨"told", "Put.told", defArgs (inClass (top 31) 1), .stmts (defBody (inClass (top 31) 1)), defScope (inClass (top 31) 1), 3, [], .none, .none, .none, (.str "notefall.deeds" 386), none, (.ref 263), .none, 0⟩), #[]⟩) ::
 (nat_lit 265, ⟨(.type "tuple"), none, (.seq #[] 0), #[]⟩) ::
 (nat_lit 267, ⟨(.type "tuple"), none, (.seq #[(.str "self" 537)] 0), #[]⟩) ::
 (nat_lit 268, ⟨(.type "tuple"), none, (.seq #[] 0), #[]⟩) ::
 (nat_lit 270, ⟨(.type "code"), none, (.fields #[(.str "action" 534), (.str "Put.action" 535), (.str "/claim/cut.py" 536), (.int 88 0), (.int 1 0), (.int 0 0), (.int 0 0), (.int 3 0), (.ref 265), (.bool true), (.int 181 0), (.ref 266), .none, (.ref 267), (.ref 268), (.ref 269), (.int 538 0), (.int 88 0), (.str "/claim/cut.py" 539)]), #[]⟩) ::
 (nat_lit 271, ⟨(.type "function"), none, (.func ⟨"action", "Put.action", defArgs (inClass (top 31) 2), .stmts (defBody (inClass (top 31) 2)), defScope (inClass (top 31) 2), 3, [], .none, .none, .none, (.str "notefall.deeds" 386), none, (.ref 270), .none, 0⟩), #[]⟩) ::
 (nat_lit 272, ⟨(.type "tuple"), none, (.seq #[] 0), #[]⟩) ::
 (nat_lit 274, ⟨(.type "tuple"), none, (.seq #[(.str "self" 544)] 0), #[]⟩) ::
 (nat_lit 275, ⟨(.type "tuple"), none, (.seq #[] 0), #[]⟩) ::
 (nat_lit 277, ⟨(.type "code"), none, (.fields #[(.str "span" 541), (.str "Put.span" 542), (.str "/claim/cut.py" 543), (.int 91 0), (.int 1 0), (.int 0 0), (.int 0 0), (.int 3 0), (.ref 272), (.bool true), (.int 181 0), (.ref 273), .none, (.ref 274), (.ref 275), (.ref 276), (.int 545 0), (.int 91 0), (.str "/claim/cut.py" 546)]), #[]⟩) ::
 (nat_lit 278, ⟨(.type "function"), none, (.func ⟨"span", "Put.span", defArgs (inClass (top 31) 3), .stmts (defBody (inClass (top 31) 3)), defScope (inClass (top 31) 3), 3, [], .none, .none, .none, (.str "notefall.deeds" 386), none, (.ref 277), .none, 0⟩), #[]⟩) ::
 (nat_lit 279, ⟨(.type "tuple"), none, (.seq #[(.str "key" 548), (.str "value" 549)] 0), #[]⟩) ::
 (nat_lit 280, ⟨(.type "dict"), none, (.dict (List.toArray (⟨kh P "__module__", (.str "__module__" 512), (.str "notefall.deeds" 386)⟩ :: ⟨kh P "__firstlineno__", (.str "__firstlineno__" 516), (.int 78 515)⟩ :: ⟨kh P "__init__", (.str "__init__" 526), (.ref 257)⟩ :: ⟨kh P "told", (.str "told" 533), (.ref 264)⟩ :: ⟨kh P "action", (.str "action" 540), (.ref 271)⟩ :: ⟨kh P "span", (.str "span" 547), (.ref 278)⟩ :: ⟨kh P "__static_attributes__", (.str "__static_attributes__" 550), (.ref 279)⟩ :: ⟨kh P "__doc__", (.str "__doc__" 551), .none⟩ :: [])) 2), #[]⟩) ::
 (nat_lit 281, ⟨(.type "type"), none, (.cls ⟨"Put", [(.ref 238)], [(.ref 281), (.ref 238), (.type "object")], 280, "Put", true, [], [], false, none, false⟩), #[(some (.ref 243)), none, (some (.str "Put" 505)), (some (.str "Put" 513)), (some (.builtin "object.__new__")), (some (.bool true))]⟩) ::
 (nat_lit 284, ⟨(.type "tuple"), none, (.seq #[(.ref 238)] 0), #[]⟩) ::
 (nat_lit 291, ⟨(.type "tuple"), none, (.seq #[.none, (.str "no more" 417)] 0), #[]⟩) ::
 (nat_lit 292, ⟨(.type "tuple"), none, (.seq #[] 0), #[]⟩) ::
 (nat_lit 294, ⟨(.type "tuple"), none, (.seq #[(.str "self" 569), (.str "key" 570), (.str "more" 571)] 0), #[]⟩) ::
 (nat_lit 295, ⟨(.type "tuple"), none, (.seq #[] 0), #[]⟩) ::
 (nat_lit 297, ⟨(.type "code"), none, (.fields #[(.str "__init__" 566), (.str "Drop.__init__" 567), (.str "/claim/cut.py" 568), (.int 95 0), (.int 3 0), (.int 0 0), (.int 0 0), (.int 3 0), (.ref 292), (.bool true), (.int 181 0), (.ref 293), .none, (.ref 294), (.ref 295), (.ref 296), (.int 572 0), (.int 95 0), (.str "/claim/cut.py" 573)]), #[]⟩) ::
 (nat_lit 298, ⟨(.type "function"), none, (.func ⟨"__init__", "Drop.__init__", defArgs (inClass (top 32) 0), .stmts (defBody (inClass (top 32) 0)), defScope (inClass (top 32) 0), 3, [], (.ref 291), .none, .none, (.str "notefall.deeds" 386), none, (.ref 297), .none, 0⟩), #[]⟩) ::
 (nat_lit 299, ⟨(.type "tuple"), none, (.seq #[] 0), #[]⟩) ::
 (nat_lit 301, ⟨(.type "tuple"), none, (.seq #[(.str "self" 578)] 0), #[]⟩) ::
 (nat_lit 302, ⟨(.type "tuple"), none, (.seq #[] 0), #[]⟩) ::
 (nat_lit 304, ⟨(.type "code"), none, (.fields #[(.str "told" 575), (.str "Drop.told" 576), (.str "/claim/cut.py" 577), (.int 99 0), (.int 1 0), (.int 0 0), (.int 0 0), (.int 3 0), (.ref 299), (.bool true), (.int 181 0), (.ref 300), .none, (.ref 301), (.ref 302), (.ref 303), (.int 579 0), (.int 99 0), (.str "/claim/cut.py" 580)]), #[]⟩) ::
 (nat_lit 305, ⟨(.type "function"), none, (.func ⟨"told", "Drop.told", defArgs (inClass (top 32) 1), .stmts (defBody (inClass (top 32) 1)), defScope (inClass (top 32) 1), 3, [], .none, .none, .none, (.str "notefall.deeds" 386), none, (.ref 304), .none, 0⟩), #[]⟩) ::
 (nat_lit 306, ⟨(.type "tuple"), none, (.seq #[] 0), #[]⟩) ::
 (nat_lit 308, ⟨(.type "tuple"), none, (.seq #[(.str "self" 585)] 0), #[]⟩) ::
 (nat_lit 309, ⟨(.type "tuple"), none, (.seq #[] 0), #[]⟩) ::
 (nat_lit 311, ⟨(.type "code"), none, (.fields #[(.str "action" 582), (.str "Drop.action" 583), (.str "/claim/cut.py" 584), (.int 102 0), (.int 1 0), (.int 0 0), (.int 0 0), (.int 3 0), (.ref 306), (.bool true), (.int 181 0), (.ref 307), .none, (.ref 308), (.ref 309), (.ref 310), (.int 586 0), (.int 102 0), (.str "/claim/cut.py" 587)]), #[]⟩) ::
 (nat_lit 312, ⟨(.type "function"), none, (.func ⟨"action", "Drop.action", defArgs (inClass (top 32) 2), .stmts (defBody (inClass (top 32) 2)), defScope (inClass (top 32) 2), 3, [], .none, .none, .none, (.str "notefall.deeds" 386), none, (.ref 311), .none, 0⟩), #[]⟩) ::
 (nat_lit 313, ⟨(.type "tuple"), none, (.seq #[] 0), #[]⟩) ::
 (nat_lit 315, ⟨(.type "tuple"), none, (.seq #[(.str "self" 592)] 0), #[]⟩) ::
 (nat_lit 316, ⟨(.type "tuple"), none, (.seq #[] 0), #[]⟩) ::
 (nat_lit 318, ⟨(.type "code"), none, (.fields #[(.str "span" 589), (.str "Drop.span" 590), (.str "/claim/cut.py" 591), (.int 105 0), (.int 1 0), (.int 0 0), (.int 0 0), (.int 3 0), (.ref 313), (.bool true), (.int 181 0), (.ref 314), .none, (.ref 315), (.ref 316), (.ref 317), (.int 593 0), (.int 105 0), (.str "/claim/cut.py" 594)]), #[]⟩) ::
 (nat_lit 319, ⟨(.type "function"), none, (.func ⟨"span", "Drop.span", defArgs (inClass (top 32) 3), .stmts (defBody (inClass (top 32) 3)), defScope (inClass (top 32) 3), 3, [], .none, .none, .none, (.str "notefall.deeds" 386), none, (.ref 318), .none, 0⟩), #[]⟩) ::
 (nat_lit 320, ⟨(.type "tuple"), none, (.seq #[(.str "key" 596)] 0), #[]⟩) ::
 (nat_lit 321, ⟨(.type "dict"), none, (.dict (List.toArray (⟨kh P "__module__", (.str "__module__" 561), (.str "notefall.deeds" 386)⟩ :: ⟨kh P "__firstlineno__", (.str "__firstlineno__" 565), (.int 93 564)⟩ :: ⟨kh P "__init__", (.str "__init__" 574), (.ref 298)⟩ :: ⟨kh P "told", (.str "told" 581), (.ref 305)⟩ :: ⟨kh P "action", (.str "action" 588), (.ref 312)⟩ :: ⟨kh P "span", (.str "span" 595), (.ref 319)⟩ :: ⟨kh P "__static_attributes__", (.str "__static_attributes__" 597), (.ref 320)⟩ :: ⟨kh P "__doc__", (.str "__doc__" 598), .none⟩ :: [])) 2), #[]⟩) ::
 (nat_lit 322, ⟨(.type "type"), none, (.cls ⟨"Drop", [(.ref 238)], [(.ref 322), (.ref 238), (.type "object")], 321, "Drop", true, [], [], false, none, false⟩), #[(some (.ref 284)), none, (some (.str "Drop" 554)), (some (.str "Drop" 562)), (some (.builtin "object.__new__")), (some (.bool true))]⟩) ::
 (nat_lit 325, ⟨(.type "tuple"), none, (.seq #[(.ref 238)] 0), #[]⟩) ::
 (nat_lit 332, ⟨(.type "tuple"), none, (.seq #[.none, .none, (.str "no more" 417)] 0), #[]⟩) ::
 (nat_lit 333, ⟨(.type "tuple"), none, (.seq #[] 0), #[]⟩) ::
 (nat_lit 335, ⟨(.type "tuple"), none, (.seq #[(.str "self" 616), (.str "key" 617), (.str "by" 618), (.str "more" 619)] 0), #[]⟩) ::
 (nat_lit 336, ⟨(.type "tuple"), none, (.seq #[] 0), #[]⟩) ::
 (nat_lit 338, ⟨(.type "code"), none, (.fields #[(.str "__init__" 613), (.str "Add.__init__" 614), (.str "/claim/cut.py" 615), (.int 109 0), (.int 4 0), (.int 0 0), (.int 0 0), (.int 3 0), (.ref 333), (.bool true), (.int 181 0), (.ref 334), .none, (.ref 335), (.ref 336), (.ref 337), (.int 620 0), (.int 109 0), (.str "/claim/cut.py" 621)]), #[]⟩) ::
 (nat_lit 339, ⟨(.type "function"), none, (.func ⟨"__init__", "Add.__init__", defArgs (inClass (top 33) 0), .stmts (defBody (inClass (top 33) 0)), defScope (inClass (top 33) 0), 3, [], (.ref 332), .none, .none, (.str "notefall.deeds" 386), none, (.ref 338), .none, 0⟩), #[]⟩) ::
 (nat_lit 340, ⟨(.type "tuple"), none, (.seq #[] 0), #[]⟩) ::
 (nat_lit 342, ⟨(.type "tuple"), none, (.seq #[(.str "self" 626)] 0), #[]⟩) ::
 (nat_lit 343, ⟨(.type "tuple"), none, (.seq #[] 0), #[]⟩) ::
 (nat_lit 345, ⟨(.type "code"), none, (.fields #[(.str "told" 623), (.str "Add.told" 624), (.str "/claim/cut.py" 625), (.int 114 0), (.int 1 0), (.int 0 0), (.int 0 0), (.int 3 0), (.ref 340), (.bool true), (.int 181 0), (.ref 341), .none, (.ref 342), (.ref 343), (.ref 344), (.int 627 0), (.int 114 0), (.str "/claim/cut.py" 628)]), #[]⟩) ::
 (nat_lit 346, ⟨(.type "function"), none, (.func ⟨"told", "Add.told", defArgs (inClass (top 33) 1), .stmts (defBody (inClass (top 33) 1)), defScope (inClass (top 33) 1), 3, [], .none, .none, .none, (.str "notefall.deeds" 386), none, (.ref 345), .none, 0⟩), #[]⟩) ::
 (nat_lit 347, ⟨(.type "tuple"), none, (.seq #[] 0), #[]⟩) ::
 (nat_lit 349, ⟨(.type "tuple"), none, (.seq #[(.str "self" 633)] 0), #[]⟩) ::
 (nat_lit 350, ⟨(.type "tuple"), none, (.seq #[] 0), #[]⟩) ::
 (nat_lit 352, ⟨(.type "code"), none, (.fields #[(.str "action" 630), (.str "Add.action" 631), (.str "/claim/cut.py" 632), (.int 117 0), (.int 1 0), (.int 0 0), (.int 0 0), (.int 3 0), (.ref 347), (.bool true), (.int 181 0), (.ref 348), .none, (.ref 349), (.ref 350), (.ref 351), (.int 634 0), (.int 117 0), (.str "/claim/cut.py" 635)]), #[]⟩) ::
 (nat_lit 353, ⟨(.type "function"), none, (.func ⟨"action", "Add.action", defArgs (inClass (top 33) 2), .stmts (defBody (inClass (top 33) 2)), defScope (inClass (top 33) 2), 3, [], .none, .none, .none, (.str "notefall.deeds" 386), none, (.ref 352), .none, 0⟩), #[]⟩) ::
 (nat_lit 354, ⟨(.type "tuple"), none, (.seq #[] 0), #[]⟩) ::
 (nat_lit 356, ⟨(.type "tuple"), none, (.seq #[(.str "self" 640)] 0), #[]⟩) ::
 (nat_lit 357, ⟨(.type "tuple"), none, (.seq #[] 0), #[]⟩) ::
 (nat_lit 359, ⟨(.type "code"), none, (.fields #[(.str "span" 637), (.str "Add.span" 638), (.str "/claim/cut.py" 639), (.int 120 0), (.int 1 0), (.int 0 0), (.int 0 0), (.int 3 0), (.ref 354), (.bool true), (.int 181 0), (.ref 355), .none, (.ref 356), (.ref 357), (.ref 358), (.int 641 0), (.int 120 0), (.str "/claim/cut.py" 642)]), #[]⟩) ::
 (nat_lit 360, ⟨(.type "function"), none, (.func ⟨"span", "Add.span", defArgs (inClass (top 33) 3), .stmts (defBody (inClass (top 33) 3)), defScope (inClass (top 33) 3), 3, [], .none, .none, .none, (.str "notefall.deeds" 386), none, (.ref 359), .none, 0⟩), #[]⟩) ::
 (nat_lit 361, ⟨(.type "tuple"), none, (.seq #[(.str "by" 644), (.str "key" 645)] 0), #[]⟩) ::
 (nat_lit 362, ⟨(.type "dict"), none, (.dict (List.toArray (⟨kh P "__module__", (.str "__module__" 608), (.str "notefall.deeds" 386)⟩ :: ⟨kh P "__firstlineno__", (.str "__firstlineno__" 612), (.int 107 611)⟩ :: ⟨kh P "__init__", (.str "__init__" 622), (.ref 339)⟩ :: ⟨kh P "told", (.str "told" 629), (.ref 346)⟩ :: ⟨kh P "action", (.str "action" 636), (.ref 353)⟩ :: ⟨kh P "span", (.str "span" 643), (.ref 360)⟩ :: ⟨kh P "__static_attributes__", (.str "__static_attributes__" 646), (.ref 361)⟩ :: ⟨kh P "__doc__", (.str "__doc__" 647), .none⟩ :: [])) 2), #[]⟩) ::
 (nat_lit 363, ⟨(.type "type"), none, (.cls ⟨"Add", [(.ref 238)], [(.ref 363), (.ref 238), (.type "object")], 362, "Add", true, [], [], false, none, false⟩), #[(some (.ref 325)), none, (some (.str "Add" 601)), (some (.str "Add" 609)), (some (.builtin "object.__new__")), (some (.bool true))]⟩) ::
 (nat_lit 366, ⟨(.type "tuple"), none, (.seq #[(.ref 238)] 0), #[]⟩) ::
 (nat_lit 373, ⟨(.type "tuple"), none, (.seq #[.none, .none, (.str "no more" 417)] 0), #[]⟩) ::
 (nat_lit 374, ⟨(.type "tuple"), none, (.seq #[] 0), #[]⟩) ::
 (nat_lit 376, ⟨(.type "tuple"), none, (.seq #[(.str "self" 665), (.str "low" 666), (.str "high" 667), (.str "more" 668)] 0), #[]⟩) ::
 (nat_lit 377, ⟨(.type "tuple"), none, (.seq #[] 0), #[]⟩) ::
 (nat_lit 379, ⟨(.type "code"), none, (.fields #[(.str "__init__" 662), (.str "Wipe.__init__" 663), (.str "/claim/cut.py" 664), (.int 124 0), (.int 4 0), (.int 0 0), (.int 0 0), (.int 3 0), (.ref 374), (.bool true), (.int 181 0), (.ref 375), .none, (.ref 376), (.ref 377), (.ref 378), (.int 669 0), (.int 124 0), (.str "/claim/cut.py" 670)]), #[]⟩) ::
 (nat_lit 380, ⟨(.type "function"), none, (.func ⟨"__init__", "Wipe.__init__", defArgs (inClass (top 34) 0), .stmts (defBody (inClass (top 34) 0)), defScope (inClass (top 34) 0), 3, [], (.ref 373), .none, .none, (.str "notefall.deeds" 386), none, (.ref 379), .none, 0⟩), #[]⟩) ::
 (nat_lit 381, ⟨(.type "tuple"), none, (.seq #[] 0), #[]⟩) ::
 (nat_lit 383, ⟨(.type "tuple"), none, (.seq #[(.str "self" 675)] 0), #[]⟩) ::
 (nat_lit 384, ⟨(.type "tuple"), none, (.seq #[] 0), #[]⟩) ::
 (nat_lit 386, ⟨(.type "code"), none, (.fields #[(.str "told" 672), (.str "Wipe.told" 673), (.str "/claim/cut.py" 674), (.int 129 0), (.int 1 0), (.int 0 0), (.int 0 0), (.int 3 0), (.ref 381), (.bool true), (.int 181 0), (.ref 382), .none, (.ref 383), (.ref 384), (.ref 385), (.int 676 0), (.int 129 0), (.str "/claim/cut.py" 677)]), #[]⟩) ::
 (nat_lit 387, ⟨(.type "function"), none, (.func ⟨"told", "Wipe.told", defArgs (inClass (top 34) 1), .stmts (defBody (inClass (top 34) 1)), defScope (inClass (top 34) 1), 3, [], .none, .none, .none, (.str "notefall.deeds" 386), none, (.ref 386), .none, 0⟩), #[]⟩) ::
 (nat_lit 388, ⟨(.type "tuple"), none, (.seq #[] 0), #[]⟩) ::
 (nat_lit 390, ⟨(.type "tuple"), none, (.seq #[(.str "self" 682)] 0), #[]⟩) ::
 (nat_lit 391, ⟨(.type "tuple"), none, (.seq #[] 0), #[]⟩) ::
 (nat_lit 393, ⟨(.type "code"), none, (.fields #[(.str "action" 679), (.str "Wipe.action" 680), (.str "/claim/cut.py" 681), (.int 132 0), (.int 1 0), (.int 0 0), (.int 0 0), (.int 3 0), (.ref 388), (.bool true), (.int 181 0), (.ref 389), .none, (.ref 390), (.ref 391), (.ref 392), (.int 683 0), (.int 132 0), (.str "/claim/cut.py" 684)]), #[]⟩) ::
 (nat_lit 394, ⟨(.type "function"), none, (.func ⟨"action", "Wipe.action", defArgs (inClass (top 34) 2), .stmts (defBody (inClass (top 34) 2)), defScope (inClass (top 34) 2), 3, [], .none, .none, .none, (.str "notefall.deeds" 386), none, (.ref 393), .none, 0⟩), #[]⟩) ::
 (nat_lit 395, ⟨(.type "tuple"), none, (.seq #[] 0), #[]⟩) ::
 (nat_lit 397, ⟨(.type "tuple"), none, (.seq #[(.str "self" 689)] 0), #[]⟩) ::
 (nat_lit 398, ⟨(.type "tuple"), none, (.seq #[] 0), #[]⟩) ::
 (nat_lit 400, ⟨(.type "code"), none, (.fields #[(.str "span" 686), (.str "Wipe.span" 687), (.str "/claim/cut.py" 688), (.int 135 0), (.int 1 0), (.int 0 0), (.int 0 0), (.int 3 0), (.ref 395), (.bool true), (.int 181 0), (.ref 396), .none, (.ref 397), (.ref 398), (.ref 399), (.int 690 0), (.int 135 0), (.str "/claim/cut.py" 691)]), #[]⟩) ::
 (nat_lit 401, ⟨(.type "function"), none, (.func ⟨"span", "Wipe.span", defArgs (inClass (top 34) 3), .stmts (defBody (inClass (top 34) 3)), defScope (inClass (top 34) 3), 3, [], .none, .none, .none, (.str "notefall.deeds" 386), none, (.ref 400), .none, 0⟩), #[]⟩) ::
 (nat_lit 402, ⟨(.type "tuple"), none, (.seq #[(.str "high" 693), (.str "low" 694)] 0), #[]⟩) ::
 (nat_lit 403, ⟨(.type "dict"), none, (.dict (List.toArray (⟨kh P "__module__", (.str "__module__" 657), (.str "notefall.deeds" 386)⟩ :: ⟨kh P "__firstlineno__", (.str "__firstlineno__" 661), (.int 122 660)⟩ :: ⟨kh P "__init__", (.str "__init__" 671), (.ref 380)⟩ :: ⟨kh P "told", (.str "told" 678), (.ref 387)⟩ :: ⟨kh P "action", (.str "action" 685), (.ref 394)⟩ :: ⟨kh P "span", (.str "span" 692), (.ref 401)⟩ :: ⟨kh P "__static_attributes__", (.str "__static_attributes__" 695), (.ref 402)⟩ :: ⟨kh P "__doc__", (.str "__doc__" 696), .none⟩ :: [])) 2), #[]⟩) ::
 (nat_lit 404, ⟨(.type "type"), none, (.cls ⟨"Wipe", [(.ref 238)], [(.ref 404), (.ref 238), (.type "object")], 403, "Wipe", true, [], [], false, none, false⟩), #[(some (.ref 366)), none, (some (.str "Wipe" 650)), (some (.str "Wipe" 658)), (some (.builtin "object.__new__")), (some (.bool true))]⟩) ::
 (nat_lit 407, ⟨(.type "tuple"), none, (.seq #[(.ref 238)] 0), #[]⟩) ::
 (nat_lit 414, ⟨(.type "tuple"), none, (.seq #[.none, .none, .none, (.str "no more" 417)] 0), #[]⟩) ::
 (nat_lit 415, ⟨(.type "tuple"), none, (.seq #[] 0), #[]⟩) ::
 (nat_lit 417, ⟨(.type "tuple"), none, (.seq #[(.str "self" 714), (.str "low" 715), (.str "high" 716), (.str "by" 717), (.str "more" 718)] 0), #[]⟩) ::
 (nat_lit 418, ⟨(.type "tuple"), none, (.seq #[] 0), #[]⟩) ::
 (nat_lit 420, ⟨(.type "code"), none, (.fields #[(.str "__init__" 711), (.str "Raise.__init__" 712), (.str "/claim/cut.py" 713), (.int 139 0), (.int 5 0), (.int 0 0), (.int 0 0), (.int 3 0), (.ref 415), (.bool true), (.int 181 0), (.ref 416), .none, (.ref 417), (.ref 418), (.ref 419), (.int 719 0), (.int 139 0), (.str "/claim/cut.py" 720)]), #[]⟩) ::
 (nat_lit 421, ⟨(.type "function"), none, (.func ⟨"__init__", "Raise.__init__", defArgs (inClass (top 35) 0), .stmts (defBody (inClass (top 35) 0)), defScope (inClass (top 35) 0), 3, [], (.ref 414), .none, .none, (.str "notefall.deeds" 386), none, (.ref 420), .none, 0⟩), #[]⟩) ::
 (nat_lit 422, ⟨(.type "tuple"), none, (.seq #[] 0), #[]⟩) ::
 (nat_lit 424, ⟨(.type "tuple"), none, (.seq #[(.str "self" 725)] 0), #[]⟩) ::
 (nat_lit 425, ⟨(.type "tuple"), none, (.seq #[] 0), #[]⟩) ::
 (nat_lit 427, ⟨(.type "code"), none, (.fields #[(.str "told" 722), (.str "Raise.told" 723), (.str "/claim/cut.py" 724), (.int 145 0), (.int 1 0), (.int 0 0), (.int 0 0), (.int 3 0), (.ref 422), (.bool true), (.int 181 0), (.ref 423), .none, (.ref 424), (.ref 425), (.ref 426), (.int 726 0), (.int 145 0), (.str "/claim/cut.py" 727)]), #[]⟩) ::
 (nat_lit 428, ⟨(.type "function"), none, (.func ⟨"told", "Raise.told", defArgs (inClass (top 35) 1), .stmts (defBody (inClass (top 35) 1)), defScope (inClass (top 35) 1), 3, [], .none, .none, .none, (.str "notefall.deeds" 386), none, (.ref 427), .none, 0⟩), #[]⟩) ::
 (nat_lit 429, ⟨(.type "tuple"), none, (.seq #[] 0), #[]⟩) ::
 (nat_lit 431, ⟨(.type "tuple"), none, (.seq #[(.str "self" 732)] 0), #[]⟩) ::
 (nat_lit 432, ⟨(.type "tuple"), none, (.seq #[] 0), #[]⟩) ::
 (nat_lit 434, ⟨(.type "code"), none, (.fields #[(.str "action" 729), (.str "Raise.action" 730), (.str "/claim/cut.py" 731), (.int 148 0), (.int 1 0), (.int 0 0), (.int 0 0), (.int 3 0), (.ref 429), (.bool true), (.int 181 0), (.ref 430), .none, (.ref 431), (.ref 432), (.ref 433), (.int 733 0), (.int 148 0), (.str "/claim/cut.py" 734)]), #[]⟩) ::
 (nat_lit 435, ⟨(.type "function"), none, (.func ⟨"action", "Raise.action", defArgs (inClass (top 35) 2), .stmts (defBody (inClass (top 35) 2)), defScope (inClass (top 35) 2), 3, [], .none, .none, .none, (.str "notefall.deeds" 386), none, (.ref 434), .none, 0⟩), #[]⟩) ::
 (nat_lit 436, ⟨(.type "tuple"), none, (.seq #[] 0), #[]⟩) ::
 (nat_lit 438, ⟨(.type "tuple"), none, (.seq #[(.str "self" 739)] 0), #[]⟩) ::
 (nat_lit 439, ⟨(.type "tuple"), none, (.seq #[] 0), #[]⟩) ::
 (nat_lit 441, ⟨(.type "code"), none, (.fields #[(.str "span" 736), (.str "Raise.span" 737), (.str "/claim/cut.py" 738), (.int 151 0), (.int 1 0), (.int 0 0), (.int 0 0), (.int 3 0), (.ref 436), (.bool true), (.int 181 0), (.ref 437), .none, (.ref 438), (.ref 439), (.ref 440), (.int 740 0), (.int 151 0), (.str "/claim/cut.py" 741)]), #[]⟩) ::
 (nat_lit 442, ⟨(.type "function"), none, (.func ⟨"span", "Raise.span", defArgs (inClass (top 35) 3), .stmts (defBody (inClass (top 35) 3)), defScope (inClass (top 35) 3), 3, [], .none, .none, .none, (.str "notefall.deeds" 386), none, (.ref 441), .none, 0⟩), #[]⟩) ::
 (nat_lit 443, ⟨(.type "tuple"), none, (.seq #[(.str "by" 743), (.str "high" 744), (.str "low" 745)] 0), #[]⟩) ::
 (nat_lit 444, ⟨(.type "dict"), none, (.dict (List.toArray (⟨kh P "__module__", (.str "__module__" 706), (.str "notefall.deeds" 386)⟩ :: ⟨kh P "__firstlineno__", (.str "__firstlineno__" 710), (.int 137 709)⟩ :: ⟨kh P "__init__", (.str "__init__" 721), (.ref 421)⟩ :: ⟨kh P "told", (.str "told" 728), (.ref 428)⟩ :: ⟨kh P "action", (.str "action" 735), (.ref 435)⟩ :: ⟨kh P "span", (.str "span" 742), (.ref 442)⟩ :: ⟨kh P "__static_attributes__", (.str "__static_attributes__" 746), (.ref 443)⟩ :: ⟨kh P "__doc__", (.str "__doc__" 747), .none⟩ :: [])) 2), #[]⟩) ::
 (nat_lit 445, ⟨(.type "type"), none, (.cls ⟨"Raise", [(.ref 238)], [(.ref 445), (.ref 238), (.type "object")], 444, "Raise", true, [], [], false, none, false⟩), #[(some (.ref 407)), none, (some (.str "Raise" 699)), (some (.str "Raise" 707)), (some (.builtin "object.__new__")), (some (.bool true))]⟩) ::
 (nat_lit 448, ⟨(.type "tuple"), none, (.seq #[(.ref 238)] 0), #[]⟩) ::
 (nat_lit 455, ⟨(.type "tuple"), none, (.seq #[.none, .none, .none, (.str "no more" 417)] 0), #[]⟩) ::
 (nat_lit 456, ⟨(.type "tuple"), none, (.seq #[] 0), #[]⟩) ::
 (nat_lit 458, ⟨(.type "tuple"), none, (.seq #[(.str "self" 765), (.str "low" 766), (.str "high" 767), (.str "value" 768), (.str "more" 769)] 0), #[]⟩) ::
 (nat_lit 459, ⟨(.type "tuple"), none, (.seq #[] 0), #[]⟩) ::
 (nat_lit 461, ⟨(.type "code"), none, (.fields #[(.str "__init__" 762), (.str "Level.__init__" 763), (.str "/claim/cut.py" 764), (.int 155 0), (.int 5 0), (.int 0 0), (.int 0 0), (.int 3 0), (.ref 456), (.bool true), (.int 181 0), (.ref 457), .none, (.ref 458), (.ref 459), (.ref 460), (.int 770 0), (.int 155 0), (.str "/claim/cut.py" 771)]), #[]⟩) ::
 (nat_lit 462, ⟨(.type "function"), none, (.func ⟨"__init__", "Level.__init__", defArgs (inClass (top 36) 0), .stmts (defBody (inClass (top 36) 0)), defScope (inClass (top 36) 0), 3, [], (.ref 455), .none, .none, (.str "notefall.deeds" 386), none, (.ref 461), .none, 0⟩), #[]⟩) ::
 (nat_lit 463, ⟨(.type "tuple"), none, (.seq #[] 0), #[]⟩) ::
 (nat_lit 465, ⟨(.type "tuple"), none, (.seq #[(.str "self" 776)] 0), #[]⟩) ::
 (nat_lit 466, ⟨(.type "tuple"), none, (.seq #[] 0), #[]⟩) ::
 (nat_lit 468, ⟨(.type "code"), none, (.fields #[(.str "told" 773), (.str "Level.told" 774), (.str "/claim/cut.py" 775), (.int 161 0), (.int 1 0), (.int 0 0), (.int 0 0), (.int 3 0), (.ref 463), (.bool true), (.int 181 0), (.ref 464), .none, (.ref 465), (.ref 466), (.ref 467), (.int 777 0), (.int 161 0), (.str "/claim/cut.py" 778)]), #[]⟩) ::
 (nat_lit 469, ⟨(.type "function"), none, (.func ⟨"told", "Level.told", defArgs (inClass (top 36) 1), .stmts (defBody (inClass (top 36) 1)), defScope (inClass (top 36) 1), 3, [], .none, .none, .none, (.str "notefall.deeds" 386), none, (.ref 468), .none, 0⟩), #[]⟩) ::
 (nat_lit 470, ⟨(.type "tuple"), none, (.seq #[] 0), #[]⟩) ::
 (nat_lit 472, ⟨(.type "tuple"), none, (.seq #[(.str "self" 783)] 0), #[]⟩) ::
 (nat_lit 473, ⟨(.type "tuple"), none, (.seq #[] 0), #[]⟩) ::
 (nat_lit 475, ⟨(.type "code"), none, (.fields #[(.str "action" 780), (.str "Level.action" 781), (.str "/claim/cut.py" 782), (.int 164 0), (.int 1 0), (.int 0 0), (.int 0 0), (.int 3 0), (.ref 470), (.bool true), (.int 181 0), (.ref 471), .none, (.ref 472), (.ref 473), (.ref 474), (.int 784 0), (.int 164 0), (.str "/claim/cut.py" 785)]), #[]⟩) ::
 (nat_lit 476, ⟨(.type "function"), none, (.func ⟨"action", "Level.action", defArgs (inClass (top 36) 2), .stmts (defBody (inClass (top 36) 2)), defScope (inClass (top 36) 2), 3, [], .none, .none, .none, (.str "notefall.deeds" 386), none, (.ref 475), .none, 0⟩), #[]⟩) ::
 (nat_lit 477, ⟨(.type "tuple"), none, (.seq #[] 0), #[]⟩) ::
 (nat_lit 479, ⟨(.type "tuple"), none, (.seq #[(.str "self" 790)] 0), #[]⟩) ::
 (nat_lit 480, ⟨(.type "tuple"), none, (.seq #[] 0), #[]⟩) ::
 (nat_lit 482, ⟨(.type "code"), none, (.fields #[(.str "span" 787), (.str "Level.span" 788), (.str "/claim/cut.py" 789), (.int 167 0), (.int 1 0), (.int 0 0), (.int 0 0), (.int 3 0), (.ref 477), (.bool true), (.int 181 0), (.ref 478), .none, (.ref 479), (.ref 480), (.ref 481), (.int 791 0), (.int 167 0), (.str "/claim/cut.py" 792)]), #[]⟩) ::
 (nat_lit 483, ⟨(.type "function"), none, (.func ⟨"span", "Level.span", defArgs (inClass (top 36) 3), .stmts (defBody (inClass (top 36) 3)), defScope (inClass (top 36) 3), 3, [], .none, .none, .none, (.str "notefall.deeds" 386), none, (.ref 482), .none, 0⟩), #[]⟩) ::
 (nat_lit 484, ⟨(.type "tuple"), none, (.seq #[(.str "high" 794), (.str "low" 795), (.str "value" 796)] 0), #[]⟩) ::
 (nat_lit 485, ⟨(.type "dict"), none, (.dict (List.toArray (⟨kh P "__module__", (.str "__module__" 757), (.str "notefall.deeds" 386)⟩ :: ⟨kh P "__firstlineno__", (.str "__firstlineno__" 761), (.int 153 760)⟩ :: ⟨kh P "__init__", (.str "__init__" 772), (.ref 462)⟩ :: ⟨kh P "told", (.str "told" 779), (.ref 469)⟩ :: ⟨kh P "action", (.str "action" 786), (.ref 476)⟩ :: ⟨kh P "span", (.str "span" 793), (.ref 483)⟩ :: ⟨kh P "__static_attributes__", (.str "__static_attributes__" 797), (.ref 484)⟩ :: ⟨kh P "__doc__", (.str "__doc__" 798), .none⟩ :: [])) 2), #[]⟩) ::
 (nat_lit 486, ⟨(.type "type"), none, (.cls ⟨"Level", [(.ref 238)], [(.ref 486), (.ref 238), (.type "object")], 485, "Level", true, [], [], false, none, false⟩), #[(some (.ref 448)), none, (some (.str "Level" 750)), (some (.str "Level" 758)), (some (.builtin "object.__new__")), (some (.bool true))]⟩) ::
 (nat_lit 489, ⟨(.type "tuple"), none, (.seq #[(.ref 238)] 0), #[]⟩) ::
 (nat_lit 496, ⟨(.type "tuple"), none, (.seq #[(.str "no more" 417)] 0), #[]⟩) ::
 (nat_lit 497, ⟨(.type "tuple"), none, (.seq #[] 0), #[]⟩) ::
 (nat_lit 499, ⟨(.type "tuple"), none, (.seq #[(.str "self" 816), (.str "more" 817)] 0), #[]⟩) ::
 (nat_lit 500, ⟨(.type "tuple"), none, (.seq #[] 0), #[]⟩) ::
 (nat_lit 502, ⟨(.type "code"), none, (.fields #[(.str "__init__" 813), (.str "Mark.__init__" 814), (.str "/claim/cut.py" 815), (.int 171 0), (.int 2 0), (.int 0 0), (.int 0 0), (.int 3 0), (.ref 497), (.bool true), (.int 181 0), (.ref 498), .none, (.ref 499), (.ref 500), (.ref 501), (.int 818 0), (.int 171 0), (.str "/claim/cut.py" 819)]), #[]⟩) ::
 (nat_lit 503, ⟨(.type "function"), none, (.func ⟨"__init__", "Mark.__init__", defArgs (inClass (top 37) 0), .stmts (defBody (inClass (top 37) 0)), defScope (inClass (top 37) 0), 3, [], (.ref 496), .none, .none, (.str "notefall.deeds" 386), none, (.ref 502), .none, 0⟩), #[]⟩) ::
 (nat_lit 504, ⟨(.type "tuple"), none, (.seq #[] 0), #[]⟩) ::
 (nat_lit 506, ⟨(.type "tuple"), none, (.seq #[(.str "self" 824)] 0), #[]⟩) ::
 (nat_lit 507, ⟨(.type "tuple"), none, (.seq #[] 0), #[]⟩) ::
 (nat_lit 509, ⟨(.type "code"), none, (.fields #[(.str "told" 821), (.str "Mark.told" 822), (.str "/claim/cut.py" 823), (.int 174 0), (.int 1 0), (.int 0 0), (.int 0 0), (.int 3 0), (.ref 504), (.bool true), (.int 181 0), (.ref 505), .none, (.ref 506), (.ref 507), (.ref 508), (.int 825 0), (.int 174 0), (.str "/claim/cut.py" 826)]), #[]⟩) ::
 (nat_lit 510, ⟨(.type "function"), none, (.func ⟨"told", "Mark.told", defArgs (inClass (top 37) 1), .stmts (defBody (inClass (top 37) 1)), defScope (inClass (top 37) 1), 3, [], .none, .none, .none, (.str "notefall.deeds" 386), none, (.ref 509), .none, 0⟩), #[]⟩) ::
 (nat_lit 511, ⟨(.type "tuple"), none, (.seq #[] 0), #[]⟩) ::
 (nat_lit 512, ⟨(.type "dict"), none, (.dict (List.toArray (⟨kh P "__module__", (.str "__module__" 808), (.str "notefall.deeds" 386)⟩ :: ⟨kh P "__firstlineno__", (.str "__firstlineno__" 812), (.int 169 811)⟩ :: ⟨kh P "__init__", (.str "__init__" 820), (.ref 503)⟩ :: ⟨kh P "told", (.str "told" 827), (.ref 510)⟩ :: ⟨kh P "__static_attributes__", (.str "__static_attributes__" 828), (.ref 511)⟩ :: ⟨kh P "__doc__", (.str "__doc__" 829), .none⟩ :: [])) 2), #[]⟩) ::
 (nat_lit 513, ⟨(.type "type"), none, (.cls ⟨"Mark", [(.ref 238)], [(.ref 513), (.ref 238), (.type "object")], 512, "Mark", true, [], [], false, none, false⟩), #[(some (.ref 489)), none, (some (.str "Mark" 801)), (some (.str "Mark" 809)), (some (.builtin "object.__new__")), (some (.bool true))]⟩) ::
 (nat_lit 516, ⟨(.type "tuple"), none, (.seq #[(.ref 238)] 0), #[]⟩) ::
 (nat_lit 523, ⟨(.type "tuple"), none, (.seq #[.none, (.str "no more" 417)] 0), #[]⟩) ::
 (nat_lit 524, ⟨(.type "tuple"), none, (.seq #[] 0), #[]⟩) ::
 (nat_lit 526, ⟨(.type "tuple"), none, (.seq #[(.str "self" 847), (.str "mark" 848), (.str "more" 849)] 0), #[]⟩) ::
 (nat_lit 527, ⟨(.type "tuple"), none, (.seq #[] 0), #[]⟩) ::
 (nat_lit 529, ⟨(.type "code"), none, (.fields #[(.str "__init__" 844), (.str "Forget.__init__" 845), (.str "/claim/cut.py" 846), (.int 178 0), (.int 3 0), (.int 0 0), (.int 0 0), (.int 3 0), (.ref 524), (.bool true), (.int 181 0), (.ref 525), .none, (.ref 526), (.ref 527), (.ref 528), (.int 850 0), (.int 178 0), (.str "/claim/cut.py" 851)]), #[]⟩) ::
 (nat_lit 530, ⟨(.type "function"), none, (.func ⟨"__init__", "Forget.__init__", defArgs (inClass (top 38) 0), .stmts (defBody (inClass (top 38) 0)), defScope (inClass (top 38) 0), 3, [], (.ref 523), .none, .none, (.str "notefall.deeds" 386), none, (.ref 529), .none, 0⟩), #[]⟩) ::
 (nat_lit 531, ⟨(.type "tuple"), none, (.seq #[] 0), #[]⟩) ::
 (nat_lit 533, ⟨(.type "tuple"), none, (.seq #[(.str "self" 856)] 0), #[]⟩) ::
 (nat_lit 534, ⟨(.type "tuple"), none, (.seq #[] 0), #[]⟩) ::
 (nat_lit 536, ⟨(.type "code"), none, (.fields #[(.str "told" 853), (.str "Forget.told" 854), (.str "/claim/cut.py" 855), (.int 182 0), (.int 1 0), (.int 0 0), (.int 0 0), (.int 3 0), (.ref 531), (.bool true), (.int 181 0), (.ref 532), .none, (.ref 533), (.ref 534), (.ref 535), (.int 857 0), (.int 182 0), (.str "/claim/cut.py" 858)]), #[]⟩) ::
 (nat_lit 537, ⟨(.type "function"), none, (.func ⟨"told", "Forget.told", defArgs (inClass (top 38) 1), .stmts (defBody (inClass (top 38) 1)), defScope (inClass (top 38) 1), 3, [], .none, .none, .none, (.str "notefall.deeds" 386), none, (.ref 536), .none, 0⟩), #[]⟩) ::
 (nat_lit 538, ⟨(.type "tuple"), none, (.seq #[(.str "mark" 860)] 0), #[]⟩) ::
 (nat_lit 539, ⟨(.type "dict"), none, (.dict (List.toArray (⟨kh P "__module__", (.str "__module__" 839), (.str "notefall.deeds" 386)⟩ :: ⟨kh P "__firstlineno__", (.str "__firstlineno__" 843), (.int 176 842)⟩ :: ⟨kh P "__init__", (.str "__init__" 852), (.ref 530)⟩ :: ⟨kh P "told", (.str "told" 859), (.ref 537)⟩ :: ⟨kh P "__static_attributes__", (.str "__static_attributes__" 861), (.ref 538)⟩ :: ⟨kh P "__doc__", (.str "__doc__" 862), .none⟩ :: [])) 2), #[]⟩) ::
 (nat_lit 540, ⟨(.type "type"), none, (.cls ⟨"Forget", [(.ref 238)], [(.ref 540), (.ref 238), (.type "object")], 539, "Forget", true, [], [], false, none, false⟩), #[(some (.ref 516)), none, (some (.str "Forget" 832)), (some (.str "Forget" 840)), (some (.builtin "object.__new__")), (some (.bool true))]⟩) ::
 (nat_lit 543, ⟨(.type "tuple"), none, (.seq #[] 0), #[]⟩) ::
 (nat_lit 545, ⟨(.type "tuple"), none, (.seq #[(.str "told" 868)] 0), #[]⟩) ::
 (nat_lit 546, ⟨(.type "tuple"), none, (.seq #[] 0), #[]⟩) ::
 (nat_lit 548, ⟨(.type "code"), none, (.fields #[(.str "has_form" 865), (.str "has_form" 866), (.str "/claim/cut.py" 867), (.int 184 0), (.int 1 0), (.int 0 0), (.int 0 0), (.int 3 0), (.ref 543), (.bool true), (.int 181 0), (.ref 544), .none, (.ref 545), (.ref 546), (.ref 547), (.int 869 0), (.int 184 0), (.str "/claim/cut.py" 870)]), #[]⟩) ::
 (nat_lit 549, ⟨(.type "function"), none, (.func ⟨"has_form", "has_form", defArgs (top 39), .stmts (defBody (top 39)), defScope (top 39), 3, [], .none, .none, .none, (.str "notefall.deeds" 386), none, (.ref 548), .none, 0⟩), #[]⟩) ::
 (nat_lit 550, ⟨(.type "tuple"), none, (.seq #[] 0), #[]⟩) ::
 (nat_lit 552, ⟨(.type "tuple"), none, (.seq #[(.str "told" 875), (.str "word" 876)] 0), #[]⟩) ::
 (nat_lit 553, ⟨(.type "tuple"), none, (.seq #[] 0), #[]⟩) ::
 (nat_lit 555, ⟨(.type "code"), none, (.fields #[(.str "deed_of" 872), (.str "deed_of" 873), (.str "/claim/cut.py" 874), (.int 188 0), (.int 1 0), (.int 0 0), (.int 0 0), (.int 3 0), (.ref 550), (.bool true), (.int 181 0), (.ref 551), .none, (.ref 552), (.ref 553), (.ref 554), (.int 877 0), (.int 188 0), (.str "/claim/cut.py" 878)]), #[]⟩) ::
 (nat_lit 556, ⟨(.type "function"), none, (.func ⟨"deed_of", "deed_of", defArgs (top 40), .stmts (defBody (top 40)), defScope (top 40), 3, [], .none, .none, .none, (.str "notefall.deeds" 386), none, (.ref 555), .none, 0⟩), #[]⟩) ::
 (nat_lit 557, ⟨(.type "tuple"), none, (.seq #[] 0), #[]⟩) ::
 (nat_lit 560, ⟨(.type "code"), none, (.fields #[(.str "read_words" 880), (.str "read_words" 881), (.str "/claim/cut.py" 882), (.int 207 0), (.int 1 0), (.int 0 0), (.int 0 0), (.int 3 0), (.ref 557), (.bool true), (.int 181 0), (.ref 558), .none, .none, .none, (.ref 559), (.int 883 0), (.int 207 0), (.str "/claim/cut.py" 884)]), #[]⟩) ::
 (nat_lit 561, ⟨(.type "function"), none, (.func ⟨"read_words", "read_words", defArgs (top 41), .stmts (defBody (top 41)), defScope (top 41), 3, [], .none, .none, .none, (.str "notefall.deeds" 386), none, (.ref 560), .none, 0⟩), #[]⟩) ::
 (nat_lit 562, ⟨(.type "tuple"), none, (.seq #[] 0), #[]⟩) ::
 (nat_lit 564, ⟨(.type "tuple"), none, (.seq #[(.str "_law_cell" 891)] 0), #[]⟩) ::
 (nat_lit 565, ⟨(.type "tuple"), none, (.seq #[] 0), #[]⟩) ::
 (nat_lit 567, ⟨(.type "code"), none, (.fields #[(.str "_law_well" 888), (.str "_law_well" 889), (.str "/claim/cut.py" 890), (.int 213 0), (.int 1 0), (.int 0 0), (.int 0 0), (.int 3 0), (.ref 562), (.bool true), (.int 181 0), (.ref 563), .none, (.ref 564), (.ref 565), (.ref 566), (.int 892 0), (.int 213 0), (.str "/claim/cut.py" 893)]), #[]⟩) ::
 (nat_lit 568, ⟨(.type "function"), none, (.func ⟨"_law_well", "_law_well", defArgs (top 43), .stmts (defBody (top 43)), defScope (top 43), 3, [], .none, .none, .none, (.str "law_notefall_k13_words_read" 886), none, (.ref 567), .none, 0⟩), #[]⟩) ::
 (nat_lit 569, ⟨(.type "tuple"), none, (.seq #[] 0), #[]⟩) ::
 (nat_lit 571, ⟨(.type "tuple"), none, (.seq #[(.str "_law_well_here" 898), (.str "_law_many" 899), (.str "_law_found" 900), (.str "_law_low" 901)] 0), #[]⟩) ::
 (nat_lit 572, ⟨(.type "tuple"), none, (.seq #[] 0), #[]⟩) ::
 (nat_lit 574, ⟨(.type "code"), none, (.fields #[(.str "_law_draw" 895), (.str "_law_draw" 896), (.str "/claim/cut.py" 897), (.int 215 0), (.int 2 0), (.int 0 0), (.int 0 0), (.int 3 0), (.ref 569), (.bool true), (.int 181 0), (.ref 570), .none, (.ref 571), (.ref 572), (.ref 573), (.int 902 0), (.int 215 0), (.str "/claim/cut.py" 903)]), #[]⟩) ::
 (nat_lit 575, ⟨(.type "function"), none, (.func ⟨"_law_draw", "_law_draw", defArgs (top 44), .stmts (defBody (top 44)), defScope (top 44), 3, [], .none, .none, .none, (.str "law_notefall_k13_words_read" 886), none, (.ref 574), .none, 0⟩), #[]⟩) ::
 (nat_lit 576, ⟨(.type "tuple"), none, (.seq #[] 0), #[]⟩) ::
 (nat_lit 578, ⟨(.type "tuple"), none, (.seq #[(.str "_law_well_here" 908), (.str "_law_way" 909), (.str "_law_base" 910)] 0), #[]⟩) ::
 (nat_lit 579, ⟨(.type "tuple"), none, (.seq #[] 0), #[]⟩) ::
 (nat_lit 581, ⟨(.type "code"), none, (.fields #[(.str "_law_key" 905), (.str "_law_key" 906), (.str "/claim/cut.py" 907), (.int 225 0), (.int 1 0), (.int 0 0), (.int 0 0), (.int 3 0), (.ref 576), (.bool true), (.int 181 0), (.ref 577), .none, (.ref 578), (.ref 579), (.ref 580), (.int 911 0), (.int 225 0), (.str "/claim/cut.py" 912)]), #[]⟩) ::
 (nat_lit 582, ⟨(.type "function"), none, (.func ⟨"_law_key", "_law_key", defArgs (top 45), .stmts (defBody (top 45)), defScope (top 45), 3, [], .none, .none, .none, (.str "law_notefall_k13_words_read" 886), none, (.ref 581), .none, 0⟩), #[]⟩) ::
 (nat_lit 583, ⟨(.type "tuple"), none, (.seq #[] 0), #[]⟩) ::
 (nat_lit 585, ⟨(.type "tuple"), none, (.seq #[(.str "_law_well_here" 917), (.str "_law_way" 918), (.str "_law_sign_here" 919), (.str "_law_near" 920)] 0), #[]⟩) ::
 (nat_lit 586, ⟨(.type "tuple"), none, (.seq #[] 0), #[]⟩) ::
 (nat_lit 588, ⟨(.type "code"), none, (.fields #[(.str "_law_amount" 914), (.str "_law_amount" 915), (.str "/claim/cut.py" 916), (.int 231 0), (.int 1 0), (.int 0 0), (.int 0 0), (.int 3 0), (.ref 583), (.bool true), (.int 181 0), (.ref 584), .none, (.ref 585), (.ref 586), (.ref 587), (.int 921 0), (.int 231 0), (.str "/claim/cut.py" 922)]), #[]⟩) ::
 (nat_lit 589, ⟨(.type "function"), none, (.func ⟨"_law_amount", "_law_amount", defArgs (top 46), .stmts (defBody (top 46)), defScope (top 46), 3, [], .none, .none, .none, (.str "law_notefall_k13_words_read" 886), none, (.ref 588), .none, 0⟩), #[]⟩) ::
 (nat_lit 590, ⟨(.type "tuple"), none, (.seq #[] 0), #[]⟩) ::
 (nat_lit 592, ⟨(.type "tuple"), none, (.seq #[(.str "_law_well_here" 927), (.str "_law_way" 928), (.str "_law_low" 929), (.str "_law_far" 930)] 0), #[]⟩) ::
 (nat_lit 593, ⟨(.type "tuple"), none, (.seq #[] 0), #[]⟩) ::
 (nat_lit 595, ⟨(.type "code"), none, (.fields #[(.str "_law_stretch" 924), (.str "_law_stretch" 925), (.str "/claim/cut.py" 926), (.int 240 0), (.int 1 0), (.int 0 0), (.int 0 0), (.int 3 0), (.ref 590), (.bool true), (.int 181 0), (.ref 591), .none, (.ref 592), (.ref 593), (.ref 594), (.int 931 0), (.int 240 0), (.str "/claim/cut.py" 932)]), #[]⟩) ::
 (nat_lit 596, ⟨(.type "function"), none, (.func ⟨"_law_stretch", "_law_stretch", defArgs (top 47), .stmts (defBody (top 47)), defScope (top 47), 3, [], .none, .none, .none, (.str "law_notefall_k13_words_read" 886), none, (.ref 595), .none, 0⟩), #[]⟩) ::
 (nat_lit 597, ⟨(.type "tuple"), none, (.seq #[] 0), #[]⟩) ::
 (nat_lit 599, ⟨(.type "tuple"), none, (.seq #[(.str "_law_well_here" 937), (.str "_law_way" 938), (.str "_law_word_here" 939), (.str "_law_low" 940), (.str "_law_high" 941)] 0), #[]⟩) ::
 (nat_lit 600, ⟨(.type "tuple"), none, (.seq #[] 0), #[]⟩) ::
 (nat_lit 602, ⟨(.type "code"), none, (.fields #[(.str "_law_deed" 934), (.str "_law_deed" 935), (.str "/claim/cut.py" 936), (.int 249 0), (.int 1 0), (.int 0 0), (.int 0 0), (.int 3 0), (.ref 597), (.bool true), (.int 181 0), (.ref 598), .none, (.ref 599), (.ref 600), (.ref 601), (.int 942 0), (.int 249 0), (.str "/claim/cut.py" 943)]), #[]⟩) ::
 (nat_lit 603, ⟨(.type "function"), none, (.func ⟨"_law_deed", "_law_deed", defArgs (top 48), .stmts (defBody (top 48)), defScope (top 48), 3, [], .none, .none, .none, (.str "law_notefall_k13_words_read" 886), none, (.ref 602), .none, 0⟩), #[]⟩) ::
 (nat_lit 604, ⟨(.type "tuple"), none, (.seq #[] 0), #[]⟩) ::
 (nat_lit 606, ⟨(.type "tuple"), none, (.seq #[(.str "_law_thing" 948), (.str "_law_low" 949), (.str "_law_high" 950)] 0), #[]⟩) ::
 (nat_lit 607, ⟨(.type "tuple"), none, (.seq #[] 0), #[]⟩) ::
 (nat_lit 609, ⟨(.type "code"), none, (.fields #[(.str "_law_whole" 945), (.str "_law_whole" 946), (.str "/claim/cut.py" 947), (.int 258 0), (.int 3 0), (.int 0 0), (.int 0 0), (.int 3 0), (.ref 604), (.bool true), (.int 181 0), (.ref 605), .none, (.ref 606), (.ref 607), (.ref 608), (.int 951 0), (.int 258 0), (.str "/claim/cut.py" 952)]), #[]⟩) ::
 (nat_lit 610, ⟨(.type "function"), none, (.func ⟨"_law_whole", "_law_whole", defArgs (top 49), .stmts (defBody (top 49)), defScope (top 49), 3, [], .none, .none, .none, (.str "law_notefall_k13_words_read" 886), none, (.ref 609), .none, 0⟩), #[]⟩) ::
 (nat_lit 611, ⟨(.type "tuple"), none, (.seq #[] 0), #[]⟩) ::
 (nat_lit 614, ⟨(.type "code"), none, (.fields #[(.str "_law_number" 954), (.str "_law_number" 955), (.str "/claim/cut.py" 956), (.int 260 0), (.int 1 0), (.int 0 0), (.int 0 0), (.int 3 0), (.ref 611), (.bool true), (.int 181 0), (.ref 612), .none, .none, .none, (.ref 613), (.int 957 0), (.int 260 0), (.str "/claim/cut.py" 958)]), #[]⟩) ::
 (nat_lit 615, ⟨(.type "function"), none, (.func ⟨"_law_number", "_law_number", defArgs (top 50), .stmts (defBody (top 50)), defScope (top 50), 3, [], .none, .none, .none, (.str "law_notefall_k13_words_read" 886), none, (.ref 614), .none, 0⟩), #[]⟩) ::
 (nat_lit 616, ⟨(.type "tuple"), none, (.seq #[] 0), #[]⟩) ::
 (nat_lit 619, ⟨(.type "code"), none, (.fields #[(.str "_law_read" 960), (.str "_law_read" 961), (.str "/claim/cut.py" 962), (.int 269 0), (.int 1 0), (.int 0 0), (.int 0 0), (.int 3 0), (.ref 616), (.bool true), (.int 181 0), (.ref 617), .none, .none, .none, (.ref 618), (.int 963 0), (.int 269 0), (.str "/claim/cut.py" 964)]), #[]⟩) ::
 (nat_lit 620, ⟨(.type "function"), none, (.func ⟨"_law_read", "_law_read", defArgs (top 51), .stmts (defBody (top 51)), defScope (top 51), 3, [], .none, .none, .none, (.str "law_notefall_k13_words_read" 886), none, (.ref 619), .none, 0⟩), #[]⟩) ::
 (nat_lit 621, ⟨(.type "tuple"), none, (.seq #[] 0), #[]⟩) ::
 (nat_lit 623, ⟨(.type "tuple"), none, (.seq #[(.str "_law_well_here" 969), (.str "_law_way" 970), (.str "_law_some" 971)] 0), #[]⟩) ::
 (nat_lit 624, ⟨(.type "tuple"), none, (.seq #[] 0), #[]⟩) ::
 (nat_lit 626, ⟨(.type "code"), none, (.fields #[(.str "_law_sign" 966), (.str "_law_sign" 967), (.str "/claim/cut.py" 968), (.int 287 0), (.int 1 0), (.int 0 0), (.int 0 0), (.int 3 0), (.ref 621), (.bool true), (.int 181 0), (.ref 622), .none, (.ref 623), (.ref 624), (.ref 625), (.int 972 0), (.int 287 0), (.str "/claim/cut.py" 973)]), #[]⟩) ::
 (nat_lit 627, ⟨(.type "function"), none, (.func ⟨"_law_sign", "_law_sign", defArgs (top 52), .stmts (defBody (top 52)), defScope (top 52), 3, [], .none, .none, .none, (.str "law_notefall_k13_words_read" 886), none, (.ref 626), .none, 0⟩), #[]⟩) ::
 (nat_lit 628, ⟨(.type "tuple"), none, (.seq #[] 0), #[]⟩) ::
 (nat_lit 630, ⟨(.type "tuple"), none, (.seq #[(.str "_law_well_here" 978), (.str "_law_text" 979), (.str "_law_way" 980), (.str "_law_at" 981), (.str "_law_parts" 982), (.str "_law_k" 983), (.str "_law_sign_here" 984), (.str "_law_odd" 985)] 0), #[]⟩) ::
 (nat_lit 631, ⟨(.type "tuple"), none, (.seq #[] 0), #[]⟩) ::
 (nat_lit 633, ⟨(.type "code"), none, (.fields #[(.str "_law_spoilt" 975), (.str "_law_spoilt" 976), (.str "/claim/cut.py" 977), (.int 292 0), (.int 2 0), (.int 0 0), (.int 0 0), (.int 3 0), (.ref 628), (.bool true), (.int 181 0), (.ref 629), .none, (.ref 630), (.ref 631), (.ref 632), (.int 986 0), (.int 292 0), (.str "/claim/cut.py" 987)]), #[]⟩) ::
 (nat_lit 634, ⟨(.type "function"), none, (.func ⟨"_law_spoilt", "_law_spoilt", defArgs (top 53), .stmts (defBody (top 53)), defScope (top 53), 3, [], .none, .none, .none, (.str "law_notefall_k13_words_read" 886), none, (.ref 633), .none, 0⟩), #[]⟩) ::
 (nat_lit 635, ⟨(.type "tuple"), none, (.seq #[] 0), #[]⟩) ::
 (nat_lit 637, ⟨(.type "tuple"), none, (.seq #[(.str "_law_text" 992), (.str "_law_found" 993), (.str "e" 994), (.str "_law_kinds" 995)] 0), #[]⟩) ::
 (nat_lit 638, ⟨(.type "tuple"), none, (.seq #[] 0), #[]⟩) ::
 (nat_lit 640, ⟨(.type "code"), none, (.fields #[(.str "_law_word" 989), (.str "_law_word" 990), (.str "/claim/cut.py" 991), (.int 314 0), (.int 1 0), (.int 0 0), (.int 0 0), (.int 3 0), (.ref 635), (.bool true), (.int 181 0), (.ref 636), .none, (.ref 637), (.ref 638), (.ref 639), (.int 996 0), (.int 314 0), (.str "/claim/cut.py" 997)]), #[]⟩) ::
 (nat_lit 641, ⟨(.type "function"), none, (.func ⟨"_law_word", "_law_word", defArgs (top 54), .stmts (defBody (top 54)), defScope (top 54), 3, [], .none, .none, .none, (.str "law_notefall_k13_words_read" 886), none, (.ref 640), .none, 0⟩), #[]⟩) ::
 (nat_lit 642, ⟨(.type "tuple"), none, (.seq #[] 0), #[]⟩) ::
 (nat_lit 645, ⟨(.type "code"), none, (.fields #[(.str "law" 999), (.str "law" 1000), (.str "/claim/cut.py" 1001), (.int 323 0), (.int 1 0), (.int 0 0), (.int 0 0), (.int 3 0), (.ref 642), (.bool true), (.int 181 0), (.ref 643), .none, .none, .none, (.ref 644), (.int 1002 0), (.int 323 0), (.str "/claim/cut.py" 1003)]), #[]⟩) ::
 (nat_lit 646, ⟨(.type "function"), none, (.func ⟨"law", "law", defArgs (top 55), .stmts (defBody (top 55)), defScope (top 55), 3, [], .none, .none, .none, (.str "law_notefall_k13_words_read" 886), none, (.ref 645), .none, 0⟩), #[]⟩) :: []
def hAs : List Addr := nat_lit 2 :: nat_lit 3 :: nat_lit 15 :: nat_lit 17 :: nat_lit 18 :: nat_lit 20 :: nat_lit 21 :: nat_lit 22 :: nat_lit 29 :: nat_lit 30 :: nat_lit 31 :: nat_lit 32 :: nat_lit 35 :: nat_lit 42 :: nat_lit 43 :: nat_lit 44 :: nat_lit 47 :: nat_lit 54 :: nat_lit 55 :: nat_lit 56 :: nat_lit 59 :: nat_lit 66 :: nat_lit 67 :: nat_lit 68 :: nat_lit 71 :: nat_lit 78 :: nat_lit 79 :: nat_lit 80 :: nat_lit 83 :: nat_lit 90 :: nat_lit 91 :: nat_lit 92 :: nat_lit 95 :: nat_lit 102 :: nat_lit 103 :: nat_lit 104 :: nat_lit 107 :: nat_lit 109 :: nat_lit 110 :: nat_lit 112 :: nat_lit 113 :: nat_lit 114 :: nat_lit 116 :: nat_lit 117 :: nat_lit 119 :: nat_lit 120 :: nat_lit 121 :: nat_lit 123 :: nat_lit 124 :: nat_lit 126 :: nat_lit 127 :: nat_lit 128 :: nat_lit 130 :: nat_lit 131 :: nat_lit 133 :: nat_lit 134 :: nat_lit 135 :: nat_lit 137 :: nat_lit 138 :: nat_lit 140 :: nat_lit 141 :: nat_lit 142 :: nat_lit 143 :: nat_lit 144 :: nat_lit 145 :: nat_lit 146 :: nat_lit 148 :: nat_lit 149 :: nat_lit 151 :: nat_lit 152 :: nat_lit 153 :: nat_lit 155 :: nat_lit 156 :: nat_lit 158 :: nat_lit 159 :: nat_lit 160 :: nat_lit 162 :: nat_lit 163 :: nat_lit 165 :: nat_lit 166 :: nat_lit 167 :: nat_lit 168 :: nat_lit 170 :: nat_lit 171 :: nat_lit 173 :: nat_lit 174 :: nat_lit 175 :: nat_lit 177 :: nat_lit 178 :: nat_lit 180 :: nat_lit 181 :: nat_lit 182 :: nat_lit 184 :: nat_lit 185 :: nat_lit 187 :: nat_lit 188 :: nat_lit 196 :: nat_lit 198 :: nat_lit 199 :: nat_lit 201 :: nat_lit 202 :: nat_lit 203 :: nat_lit 205 :: nat_lit 206 :: nat_lit 208 :: nat_lit 209 :: nat_lit 210 :: nat_lit 212 :: nat_lit 213 :: nat_lit 215 :: nat_lit 216 :: nat_lit 217 :: nat_lit 219 :: nat_lit 220 :: nat_lit 222 :: nat_lit 223 :: nat_lit 224 :: nat_lit 227 :: nat_lit 228 :: nat_lit 229 :: nat_lit 231 :: nat_lit 232 :: nat_lit 234 :: nat_lit 235 :: nat_lit 236 :: nat_lit 237 :: nat_lit 238 :: nat_lit 239 :: nat_lit 240 :: nat_lit 243 :: nat_lit 250 :: nat_lit 251 :: nat_lit 253 :: nat_lit 254 :: nat_lit 256 :: nat_lit 257 :: nat_lit 258 :: nat_lit 260 :: nat_lit 261 :: nat_lit 263 :: nat_lit 264 :: nat_lit 265 :: nat_lit 267 :: nat_lit 268 :: nat_lit 270 :: nat_lit 271 :: nat_lit 272 :: nat_lit 274 :: nat_lit 275 :: nat_lit 277 :: nat_lit 278 :: nat_lit 279 :: nat_lit 280 :: nat_lit 281 :: nat_lit 284 :: nat_lit 291 :: nat_lit 292 :: nat_lit 294 :: nat_lit 295 :: nat_lit 297 :: nat_lit 298 :: nat_lit 299 :: nat_lit 301 :: nat_lit 302 :: nat_lit 304 :: nat_lit 305 :: nat_lit 306 :: nat_lit 308 :: nat_lit 309 :: nat_lit 311 :: nat_lit 312 :: nat_lit 313 :: nat_lit 315 :: nat_lit 316 :: nat_lit 318 :: nat_lit 319 :: nat_lit 320 :: nat_lit 321 :: nat_lit 322 :: nat_lit 325 :: nat_lit 332 :: nat_lit 333 :: nat_lit 335 :: nat_lit 336 :: nat_lit 338 :: nat_lit 339 :: nat_lit 340 :: nat_lit 342 :: nat_lit 343 :: nat_lit 345 :: nat_lit 346 :: nat_lit 347 :: nat_lit 349 :: nat_lit 350 :: nat_lit 352 :: nat_lit 353 :: nat_lit 354 :: nat_lit 356 :: nat_lit 357 :: nat_lit 359 :: nat_lit 360 :: nat_lit 361 :: nat_lit 362 :: nat_lit 363 :: nat_lit 366 :: nat_lit 373 :: nat_lit 374 :: nat_lit 376 :: nat_lit 377 :: nat_lit 379 :: nat_lit 380 :: nat_lit 381 :: nat_lit 383 :: nat_lit 384 :: nat_lit 386 :: nat_lit 387 :: nat_lit 388 :: nat_lit 390 :: nat_lit 391 :: nat_lit 393 :: nat_lit 394 :: nat_lit 395 :: nat_lit 397 :: nat_lit 398 :: nat_lit 400 :: nat_lit 401 :: nat_lit 402 :: nat_lit 403 :: nat_lit 404 :: nat_lit 407 :: nat_lit 414 :: nat_lit 415 :: nat_lit 417 :: nat_lit 418 :: nat_lit 420 :: nat_lit 421 :: nat_lit 422 :: nat_lit 424 :: nat_lit 425 :: nat_lit 427 :: nat_lit 428 :: nat_lit 429 :: nat_lit 431 :: nat_lit 432 :: nat_lit 434 :: nat_lit 435 :: nat_lit 436 :: nat_lit 438 :: nat_lit 439 :: nat_lit 441 :: nat_lit 442 :: nat_lit 443 :: nat_lit 444 :: nat_lit 445 :: nat_lit 448 :: nat_lit 455 :: nat_lit 456 :: nat_lit 458 :: nat_lit 459 :: nat_lit 461 :: nat_lit 462 :: nat_lit 463 :: nat_lit 465 :: nat_lit 466 :: nat_lit 468 :: nat_lit 469 :: nat_lit 470 :: nat_lit 472 :: nat_lit 473 :: nat_lit 475 :: nat_lit 476 :: nat_lit 477 :: nat_lit 479 :: nat_lit 480 :: nat_lit 482 :: nat_lit 483 :: nat_lit 484 :: nat_lit 485 :: nat_lit 486 :: nat_lit 489 :: nat_lit 496 :: nat_lit 497 :: nat_lit 499 :: nat_lit 500 :: nat_lit 502 :: nat_lit 503 :: nat_lit 504 :: nat_lit 506 :: nat_lit 507 :: nat_lit 509 :: nat_lit 510 :: nat_lit 511 :: nat_lit 512 :: nat_lit 513 :: nat_lit 516 :: nat_lit 523 :: nat_lit 524 :: nat_lit 526 :: nat_lit 527 :: nat_lit 529 :: nat_lit 530 :: nat_lit 531 :: nat_lit 533 :: nat_lit 534 :: nat_lit 536 :: nat_lit 537 :: nat_lit 538 :: nat_lit 539 :: nat_lit 540 :: nat_lit 543 :: nat_lit 545 :: nat_lit 546 :: nat_lit 548 :: nat_lit 549 :: nat_lit 550 :: nat_lit 552 :: nat_lit 553 :: nat_lit 555 :: nat_lit 556 :: nat_lit 557 :: nat_lit 560 :: nat_lit 561 :: nat_lit 562 :: nat_lit 564 :: nat_lit 565 :: nat_lit 567 :: nat_lit 568 :: nat_lit 569 :: nat_lit 571 :: nat_lit 572 :: nat_lit 574 :: nat_lit 575 :: nat_lit 576 :: nat_lit 578 :: nat_lit 579 :: nat_lit 581 :: nat_lit 582 :: nat_lit 583 :: nat_lit 585 :: nat_lit 586 :: nat_lit 588 :: nat_lit 589 :: nat_lit 590 :: nat_lit 592 :: nat_lit 593 :: nat_lit 595 :: nat_lit 596 :: nat_lit 597 :: nat_lit 599 :: nat_lit 600 :: nat_lit 602 :: nat_lit 603 :: nat_lit 604 :: nat_lit 606 :: nat_lit 607 :: nat_lit 609 :: nat_lit 610 :: nat_lit 611 :: nat_lit 614 :: nat_lit 615 :: nat_lit 616 :: nat_lit 619 :: nat_lit 620 :: nat_lit 621 :: nat_lit 623 :: nat_lit 624 :: nat_lit 626 :: nat_lit 627 :: nat_lit 628 :: nat_lit 630 :: nat_lit 631 :: nat_lit 633 :: nat_lit 634 :: nat_lit 635 :: nat_lit 637 :: nat_lit 638 :: nat_lit 640 :: nat_lit 641 :: nat_lit 642 :: nat_lit 645 :: nat_lit 646 :: []
def hQ : Program := { PySem.Challenge.pw_notefall_k13_words_read with main := { PySem.Challenge.pw_notefall_k13_words_read.main with body := top 0 :: top 2 :: top 3 :: top 4 :: top 5 :: top 6 :: top 7 :: top 8 :: top 10 :: top 11 :: top 12 :: top 13 :: top 14 :: top 15 :: top 16 :: top 17 :: top 19 :: top 20 :: top 21 :: top 22 :: top 24 :: top 25 :: top 26 :: top 27 :: top 28 :: top 29 :: top 30 :: top 31 :: top 32 :: top 33 :: top 34 :: top 35 :: top 36 :: top 37 :: top 38 :: top 39 :: top 40 :: top 41 :: top 43 :: top 44 :: top 45 :: top 46 :: top 47 :: top 48 :: top 49 :: top 50 :: top 51 :: top 52 :: top 53 :: top 54 :: top 55 :: [] } }
def hLv : List (Str × PySem.W.WData) := [((Str.ofString "END"), PySem.W.WData.int 1000000000000), ((Str.ofString "MOST_VALUE"), PySem.W.WData.int 1000000000000000000000000000000)]
def hLo : List Str := [(Str.ofString "END"), (Str.ofString "MOST_VALUE"), (Str.ofString "THINGS"), (Str.ofString "Put"), (Str.ofString "Drop"), (Str.ofString "Add"), (Str.ofString "Wipe"), (Str.ofString "Raise"), (Str.ofString "Level"), (Str.ofString "Mark"), (Str.ofString "Forget")]
theorem z_hK : K13.hK = K13.hK := rfl
name_quick K13_hK for K13.hK by K13.z_hK
theorem z_hQ : K13.hQ = K13.hQ := rfl
name_quick K13_hQ for K13.hQ by K13.z_hQ
theorem z_pw : PySem.Challenge.pw_notefall_k13_words_read = PySem.Challenge.pw_notefall_k13_words_read := rfl
name_quick K13_pw for PySem.Challenge.pw_notefall_k13_words_read by K13.z_pw
theorem z_hLv : K13.hLv = K13.hLv := rfl
name_quick K13_hLv for K13.hLv by K13.z_hLv
theorem z_hLo : K13.hLo = K13.hLo := rfl
name_quick K13_hLo for K13.hLo by K13.z_hLo
def hYf (s : Shared) : List (Option Obj) := hAs.map s.heap.get?
def hYa (K : Params → PySem.W.Frag) (w : World) : List (Option Obj) := (K w.params).map fun p => some p.2
theorem hE (P : Params) : hAs = (hK P).map (·.1) := by kernel_rfl
abbrev hXt (q : Program) (lv : List (Str × PySem.W.WData)) (s : Shared) : Bool := PySem.W.xlAt q lv s && PySem.W.recOk (PySem.W.RowW.records (PySem.W.OpenRow.toRowW PySem.Challenge.rw_notefall_k13_words_read.row)) s
abbrev hF {t : Type} (tb : String → Option Builtin) (p q : Program) (lo : List Str) (lv : List (Str × PySem.W.WData)) (K : Params → PySem.W.Frag) (sn : Program → List Str → List Str → (Shared → Bool) → Bool → Shared → t) (gd : Program → List Str → t) (im : List Stmt → List Str) (w : World) : Prop :=
  (PySem.W.openEnds tb p w 11266).map (fun s => (sn q lo (im p.main.body) (hXt q lv) true s, hYf s)) = some (gd q lo, hYa K w)
noncomputable def hOth (P : Params) : PySem.W.Frag :=
 (nat_lit 0, PySem.W.boot_o_0 P) ::
 (nat_lit 1, PySem.W.boot_o_1 P) ::
 (nat_lit 4, PySem.W.boot_o_4 P) ::
 (nat_lit 5, PySem.W.boot_o_5 P) ::
 (nat_lit 6, PySem.W.boot_o_6 P) ::
 (nat_lit 7, PySem.W.boot_o_7 P) ::
 (nat_lit 8, PySem.W.boot_o_8 P) ::
 (nat_lit 9, PySem.W.boot_o_9 P) ::
 (nat_lit 10, PySem.W.boot_o_10 P) ::
 (nat_lit 11, ⟨(.type "tuple"), none, (.seq #[] 0), #[]⟩) ::
 (nat_lit 12, ⟨.none, none, (.fields #[(.int 1 0), (.int 0 0), (.ref 20), (.int 5 0), (.int 0 0), (.ref 27), (.int 7 0), (.int 0 0), (.ref 40), (.int 9 0), (.int 0 0), (.ref 52), (.int 11 0), (.int 0 0), (.ref 64), (.int 13 0), (.int 0 0), (.ref 76), (.int 15 0), (.int 0 0), (.ref 88), (.int 17 0), (.int 0 0), (.ref 100), (.int 21 0), (.int 0 0), (.ref 112), (.int 23 0), (.int 0 0), (.ref 119), (.int 25 0), (.int 0 0), (.ref 126), (.int 27 0), (.int 0 0), (.ref 133), (.int 29 0), (.int 0 0), (.ref 140), (.int 35 0), (.int 0 0), (.ref 151), (.int 37 0), (.int 0 0), (.ref 158), (.int 39 0), (.int 0 0), (.ref 165), (.int 52 0), (.int 0 0), (.ref 173), (.int 54 0), (.int 0 0), (.ref 180), (.int 57 0), (.int 0 0), (.ref 187), (.int 59 0), (.int 0 0), (.ref 194), (.int 78 0), (.int 0 0), (.ref 248), (.int 93 0), (.int 0 0), (.ref 289), (.int 107 0), (.int 0 0), (.ref 330), (.int 122 0), (.int 0 0), (.ref 371), (.int 137 0), (.int 0 0), (.ref 412), (.int 153 0), (.int 0 0), (.ref 453), (.int 169 0), (.int 0 0), (.ref 494), (.int 176 0), (.int 0 0), (.ref 521), (.int 184 0), (.int 0 0), (.ref 548), (.int 188 0), (.int 0 0), (.ref 555), (.int 207 0), (.int 0 0), (.ref 560), (.int 213 0), (.int 0 0), (.ref 567), (.int 215 0), (.int 0 0), (.ref 574), (.int 225 0), (.int 0 0), (.ref 581), (.int 231 0), (.int 0 0), (.ref 588), (.int 240 0), (.int 0 0), (.ref 595), (.int 249 0), (.int 0 0), (.ref 602), (.int 258 0), (.int 0 0), (.ref 609), (.int 260 0), (.int 0 0), (.ref 614), (.int 269 0), (.int 0 0), (.ref 619), (.int 287 0), (.int 0 0), (.ref 626), (.int 292 0), (.int 0 0), (.ref 633), (.int 314 0), (.int 0 0), (.ref 640), (.int 323 0), (.int 0 0), (.ref 645)]), #[]⟩) ::
 (nat_lit 13, ⟨(.type "code"), none, (.fields #[(.str "<module>" 182), (.str "<module>" 183), (.str "/claim/cut.py" 184), (.int 1 0), (.int 0 0), (.int 0 0), (.int 0 0), (.int 0 0), (.ref 11), (.bool false), (.int 181 0), (.ref 12), .none, .none, .none, .none, (.int 185 0), (.int 1 0), (.str "/claim/cut.py" 186)]), #[]⟩) ::
 (nat_lit 14, ⟨(.type "frame"), none, .plain, #[(some (.ref 13)), (some (.ref 3)), (some (.ref 3)), none, (some (.str "__main__" 164)), none, (some (.ref 0))]⟩) ::
 (nat_lit 16, ⟨.none, none, (.fields #[]), #[]⟩) ::
 (nat_lit 19, ⟨.none, none, (.func ⟨"_wall", "_wall", defArgs (top 0), .stmts (defBody (top 0)), defScope (top 0), 0, [], .none, .none, .none, .none, none, .none, .none, 0⟩), #[]⟩) ::
 (nat_lit 23, ⟨(.type "builtin_function_or_method"), none, (.fields #[(.builtin "type.__prepare__"), (.type "type")]), #[]⟩) ::
 (nat_lit 24, ⟨(.type "dict"), none, (.dict (List.toArray (⟨kh P "__module__", (.str "__module__" 203), (.str "notefall.errors" 194)⟩ :: ⟨kh P "__qualname__", (.str "__qualname__" 205), (.str "FallError" 204)⟩ :: ⟨kh P "__firstlineno__", (.str "__firstlineno__" 207), (.int 5 206)⟩ :: ⟨kh P "__static_attributes__", (.str "__static_attributes__" 208), (.ref 29)⟩ :: [])) 4), #[]⟩) ::
 (nat_lit 25, ⟨(.type "tuple"), none, (.seq #[] 0), #[]⟩) ::
 (nat_lit 26, ⟨.none, none, (.fields #[]), #[]⟩) ::
 (nat_lit 27, ⟨(.type "code"), none, (.fields #[(.str "FallError" 198), (.str "FallError" 199), (.str "/claim/cut.py" 200), (.int 5 0), (.int 0 0), (.int 0 0), (.int 0 0), (.int 0 0), (.ref 25), (.bool false), (.int 181 0), (.ref 26), .none, .none, .none, .none, (.int 201 0), (.int 5 0), (.str "/claim/cut.py" 202)]), #[]⟩) ::
 (nat_lit 28, ⟨(.type "frame"), none, .plain, #[(some (.ref 27)), (some (.ref 3)), (some (.ref 24)), none, (some (.str "notefall.errors" 194)), none, (some (.ref 0))]⟩) ::
 (nat_lit 33, ⟨(.type "super"), none, (.fields #[(.ref 31), (.ref 31), (.ref 31)]), #[]⟩) ::
 (nat_lit 34, ⟨(.type "builtin_function_or_method"), none, (.fields #[(.builtin "object.__init_subclass__"), (.ref 31)]), #[]⟩) ::
 (nat_lit 36, ⟨(.type "builtin_function_or_method"), none, (.fields #[(.builtin "type.__prepare__"), (.type "type")]), #[]⟩) ::
 (nat_lit 37, ⟨(.type "dict"), none, (.dict (List.toArray (⟨kh P "__module__", (.str "__module__" 221), (.str "notefall.errors" 194)⟩ :: ⟨kh P "__qualname__", (.str "__qualname__" 223), (.str "NoAction" 222)⟩ :: ⟨kh P "__firstlineno__", (.str "__firstlineno__" 225), (.int 7 224)⟩ :: ⟨kh P "__static_attributes__", (.str "__static_attributes__" 226), (.ref 42)⟩ :: [])) 4), #[]⟩) ::
 (nat_lit 38, ⟨(.type "tuple"), none, (.seq #[] 0), #[]⟩) ::
 (nat_lit 39, ⟨.none, none, (.fields #[]), #[]⟩) ::
 (nat_lit 40, ⟨(.type "code"), none, (.fields #[(.str "NoAction" 216), (.str "NoAction" 217), (.str "/claim/cut.py" 218), (.int 7 0), (.int 0 0), (.int 0 0), (.int 0 0), (.int 0 0), (.ref 38), (.bool false), (.int 181 0), (.ref 39), .none, .none, .none, .none, (.int 219 0), (.int 7 0), (.str "/claim/cut.py" 220)]), #[]⟩) ::
 (nat_lit 41, ⟨(.type "frame"), none, .plain, #[(some (.ref 40)), (some (.ref 3)), (some (.ref 37)), none, (some (.str "notefall.errors" 194)), none, (some (.ref 0))]⟩) ::
 (nat_lit 45, ⟨(.type "super"), none, (.fields #[(.ref 44), (.ref 44), (.ref 44)]), #[]⟩) ::
 (nat_lit 46, ⟨(.type "builtin_function_or_method"), none, (.fields #[(.builtin "object.__init_subclass__"), (.ref 44)]), #[]⟩) ::
 (nat_lit 48, ⟨(.type "builtin_function_or_method"), none, (.fields #[(.builtin "type.__prepare__"), (.type "type")]), #[]⟩) ::
 (nat_lit 49, ⟨(.type "dict"), none, (.dict (List.toArray (⟨kh P "__module__", (.str "__module__" 237), (.str "notefall.errors" 194)⟩ :: ⟨kh P "__qualname__", (.str "__qualname__" 239), (.str "NoDeed" 238)⟩ :: ⟨kh P "__firstlineno__", (.str "__firstlineno__" 241), (.int 9 240)⟩ :: ⟨kh P "__static_attributes__", (.str "__static_attributes__" 242), (.ref 54)⟩ :: [])) 4), #[]⟩) ::
 (nat_lit 50, ⟨(.type "tuple"), none, (.seq #[] 0), #[]⟩) ::
 (nat_lit 51, ⟨.none, none, (.fields #[]), #[]⟩) ::
 (nat_lit 52, ⟨(.type "code"), none, (.fields #[(.str "NoDeed" 232), (.str "NoDeed" 233), (.str "/claim/cut.py" 234), (.int 9 0), (.int 0 0), (.int 0 0), (.int 0 0), (.int 0 0), (.ref 50), (.bool false), (.int 181 0), (.ref 51), .none, .none, .none, .none, (.int 235 0), (.int 9 0), (.str "/claim/cut.py" 236)]), #[]⟩) ::
 (nat_lit 53, ⟨(.type "frame"), none, .plain, #[(some (.ref 52)), (some (.ref 3)), (some (.ref 49)), none, (some (.str "notefall.errors" 194)), none, (some (.ref 0))]⟩) ::
 (nat_lit 57, ⟨(.type "super"), none, (.fields #[(.ref 56), (.ref 56), (.ref 56)]), #[]⟩) ::
 (nat_lit 58, ⟨(.type "builtin_function_or_method"), none, (.fields #[(.builtin "object.__init_subclass__"), (.ref 56)]), #[]⟩) ::
 (nat_lit 60, ⟨(.type "builtin_function_or_method"), none, (.fields #[(.builtin "type.__prepare__"), (.type "type")]), #[]⟩) ::
 (nat_lit 61, ⟨(.type "dict"), none, (.dict (List.toArray (⟨kh P "__module__", (.str "__module__" 253), (.str "notefall.errors" 194)⟩ :: ⟨kh P "__qualname__", (.str "__qualname__" 255), (.str "NoKey" 254)⟩ :: ⟨kh P "__firstlineno__", (.str "__firstlineno__" 257), (.int 11 256)⟩ :: ⟨kh P "__static_attributes__", (.str "__static_attributes__" 258), (.ref 66)⟩ :: [])) 4), #[]⟩) ::
 (nat_lit 62, ⟨(.type "tuple"), none, (.seq #[] 0), #[]⟩) ::
 (nat_lit 63, ⟨.none, none, (.fields #[]), #[]⟩) ::
 (nat_lit 64, ⟨(.type "code"), none, (.fields #[(.str "NoKey" 248), (.str "NoKey" 249), (.str "/claim/cut.py" 250), (.int 11 0), (.int 0 0), (.int 0 0), (.int 0 0), (.int 0 0), (.ref 62), (.bool false), (.int 181 0), (.ref 63), .none, .none, .none, .none, (.int 251 0), (.int 11 0), (.str "/claim/cut.py" 252)]), #[]⟩) ::
 (nat_lit 65, ⟨(.type "frame"), none, .plain, #[(some (.ref 64)), (some (.ref 3)), (some (.ref 61)), none, (some (.str "notefall.errors" 194)), none, (some (.ref 0))]⟩) ::
 (nat_lit 69, ⟨(.type "super"), none, (.fields #[(.ref 68), (.ref 68), (.ref 68)]), #[]⟩) ::
 (nat_lit 70, ⟨(.type "builtin_function_or_method"), none, (.fields #[(.builtin "object.__init_subclass__"), (.ref 68)]), #[]⟩) ::
 (nat_lit 72, ⟨(.type "builtin_function_or_method"), none, (.fields #[(.builtin "type.__prepare__"), (.type "type")]), #[]⟩) ::
 (nat_lit 73, ⟨(.type "dict"), none, (.dict (List.toArray (⟨kh P "__module__", (.str "__module__" 269), (.str "notefall.errors" 194)⟩ :: ⟨kh P "__qualname__", (.str "__qualname__" 271), (.str "NoStretch" 270)⟩ :: ⟨kh P "__firstlineno__", (.str "__firstlineno__" 273), (.int 13 272)⟩ :: ⟨kh P "__static_attributes__", (.str "__static_attributes__" 274), (.ref 78)⟩ :: [])) 4), #[]⟩) ::
 (nat_lit 74, ⟨(.type "tuple"), none, (.seq #[] 0), #[]⟩) ::
 (nat_lit 75, ⟨.none, none, (.fields #[]), #[]⟩) ::
 (nat_lit 76, ⟨(.type "code"), none, (.fields #[(.str "NoStretch" 264), (.str "NoStretch" 265), (.str "/claim/cut.py" 266), (.int 13 0), (.int 0 0), (.int 0 0), (.int 0 0), (.int 0 0), (.ref 74), (.bool false), (.int 181 0), (.ref 75), .none, .none, .none, .none, (.int 267 0), (.int 13 0), (.str "/claim/cut.py" 268)]), #[]⟩) ::
 (nat_lit 77, ⟨(.type "frame"), none, .plain, #[(some (.ref 76)), (some (.ref 3)), (some (.ref 73)), none, (some (.str "notefall.errors" 194)), none, (some (.ref 0))]⟩) ::
 (nat_lit 81, ⟨(.type "super"), none, (.fields #[(.ref 80), (.ref 80), (.ref 80)]), #[]⟩) ::
 (nat_lit 82, ⟨(.type "builtin_function_or_method"), none, (.fields #[(.builtin "object.__init_subclass__"), (.ref 80)]), #[]⟩) ::
 (nat_lit 84, ⟨(.type "builtin_function_or_method"), none, (.fields #[(.builtin "type.__prepare__"), (.type "type")]), #[]⟩) ::
 (nat_lit 85, ⟨(.type "dict"), none, (.dict (List.toArray (⟨kh P "__module__", (.str "__module__" 285), (.str "notefall.errors" 194)⟩ :: ⟨kh P "__qualname__", (.str "__qualname__" 287), (.str "NoMark" 286)⟩ :: ⟨kh P "__firstlineno__", (.str "__firstlineno__" 289), (.int 15 288)⟩ :: ⟨kh P "__static_attributes__", (.str "__static_attributes__" 290), (.ref 90)⟩ :: [])) 4), #[]⟩) ::
 (nat_lit 86, ⟨(.type "tuple"), none, (.seq #[] 0), #[]⟩) ::
 (nat_lit 87, ⟨.none, none, (.fields #[]), #[]⟩) ::
 (nat_lit 88, ⟨(.type "code"), none, (.fields #[(.str "NoMark" 280), (.str "NoMark" 281), (.str "/claim/cut.py" 282), (.int 15 0), (.int 0 0), (.int 0 0), (.int 0 0), (.int 0 0), (.ref 86), (.bool false), (.int 181 0), (.ref 87), .none, .none, .none, .none, (.int 283 0), (.int 15 0), (.str "/claim/cut.py" 284)]), #[]⟩) ::
 (nat_lit 89, ⟨(.type "frame"), none, .plain, #[(some (.ref 88)), (some (.ref 3)), (some (.ref 85)), none, (some (.str "notefall.errors" 194)), none, (some (.ref 0))]⟩) ::
 (nat_lit 93, ⟨(.type "super"), none, (.fields #[(.ref 92), (.ref 92), (.ref 92)]), #[]⟩) ::
 (nat_lit 94, ⟨(.type "builtin_function_or_method"), none, (.fields #[(.builtin "object.__init_subclass__"), (.ref 92)]), #[]⟩) ::
 (nat_lit 96, ⟨(.type "builtin_function_or_method"), none, (.fields #[(.builtin "type.__prepare__"), (.type "type")]), #[]⟩) ::
 (nat_lit 97, ⟨(.type "dict"), none, (.dict (List.toArray (⟨kh P "__module__", (.str "__module__" 301), (.str "notefall.errors" 194)⟩ :: ⟨kh P "__qualname__", (.str "__qualname__" 303), (.str "NoPage" 302)⟩ :: ⟨kh P "__firstlineno__", (.str "__firstlineno__" 305), (.int 17 304)⟩ :: ⟨kh P "__static_attributes__", (.str "__static_attributes__" 306), (.ref 102)⟩ :: [])) 4), #[]⟩) ::
 (nat_lit 98, ⟨(.type "tuple"), none, (.seq #[] 0), #[]⟩) ::
 (nat_lit 99, ⟨.none, none, (.fields #[]), #[]⟩) ::
 (nat_lit 100, ⟨(.type "code"), none, (.fields #[(.str "NoPage" 296), (.str "NoPage" 297), (.str "/claim/cut.py" 298), (.int 17 0), (.int 0 0), (.int 0 0), (.int 0 0), (.int 0 0), (.ref 98), (.bool false), (.int 181 0), (.ref 99), .none, .none, .none, .none, (.int 299 0), (.int 17 0), (.str "/claim/cut.py" 300)]), #[]⟩) ::
 (nat_lit 101, ⟨(.type "frame"), none, .plain, #[(some (.ref 100)), (some (.ref 3)), (some (.ref 97)), none, (some (.str "notefall.errors" 194)), none, (some (.ref 0))]⟩) ::
 (nat_lit 105, ⟨(.type "super"), none, (.fields #[(.ref 104), (.ref 104), (.ref 104)]), #[]⟩) ::
 (nat_lit 106, ⟨(.type "builtin_function_or_method"), none, (.fields #[(.builtin "object.__init_subclass__"), (.ref 104)]), #[]⟩) ::
 (nat_lit 108, ⟨.none, none, (.fields #[]), #[]⟩) ::
 (nat_lit 111, ⟨.none, none, (.func ⟨"is_number", "is_number", defArgs (top 11), .stmts (defBody (top 11)), defScope (top 11), 0, [], .none, .none, .none, .none, none, .none, .none, 0⟩), #[]⟩) ::
 (nat_lit 115, ⟨.none, none, (.fields #[]), #[]⟩) ::
 (nat_lit 118, ⟨.none, none, (.func ⟨"is_whole", "is_whole", defArgs (top 12), .stmts (defBody (top 12)), defScope (top 12), 0, [], .none, .none, .none, .none, none, .none, .none, 0⟩), #[]⟩) ::
 (nat_lit 122, ⟨.none, none, (.fields #[]), #[]⟩) ::
 (nat_lit 125, ⟨.none, none, (.func ⟨"is_whole_from", "is_whole_from", defArgs (top 13), .stmts (defBody (top 13)), defScope (top 13), 0, [], .none, .none, .none, .none, none, .none, .none, 0⟩), #[]⟩) ::
 (nat_lit 129, ⟨.none, none, (.fields #[]), #[]⟩) ::
 (nat_lit 132, ⟨.none, none, (.func ⟨"is_key", "is_key", defArgs (top 14), .stmts (defBody (top 14)), defScope (top 14), 0, [], .none, .none, .none, .none, none, .none, .none, 0⟩), #[]⟩) ::
 (nat_lit 136, ⟨.none, none, (.fields #[]), #[]⟩) ::
 (nat_lit 139, ⟨.none, none, (.func ⟨"is_stretch", "is_stretch", defArgs (top 15), .stmts (defBody (top 15)), defScope (top 15), 0, [], .none, .none, .none, .none, none, .none, .none, 0⟩), #[]⟩) ::
 (nat_lit 147, ⟨.none, none, (.fields #[]), #[]⟩) ::
 (nat_lit 150, ⟨.none, none, (.func ⟨"figures_of", "figures_of", defArgs (top 20), .stmts (defBody (top 20)), defScope (top 20), 0, [], .none, .none, .none, .none, none, .none, .none, 0⟩), #[]⟩) ::
 (nat_lit 154, ⟨.none, none, (.fields #[]), #[]⟩) ::
 (nat_lit 157, ⟨.none, none, (.func ⟨"are_figures", "are_figures", defArgs (top 21), .stmts (defBody (top 21)), defScope (top 21), 0, [], .none, .none, .none, .none, none, .none, .none, 0⟩), #[]⟩) ::
 (nat_lit 161, ⟨.none, none, (.fields #[]), #[]⟩) ::
 (nat_lit 164, ⟨.none, none, (.func ⟨"read_figures", "read_figures", defArgs (top 22), .stmts (defBody (top 22)), defScope (top 22), 0, [], .none, .none, .none, .none, none, .none, .none, 0⟩), #[]⟩) ::
 (nat_lit 169, ⟨.none, none, (.fields #[]), #[]⟩) ::
 (nat_lit 172, ⟨.none, none, (.func ⟨"is_amount", "is_amount", defArgs (top 27), .stmts (defBody (top 27)), defScope (top 27), 0, [], .none, .none, .none, .none, none, .none, .none, 0⟩), #[]⟩) ::
 (nat_lit 176, ⟨.none, none, (.fields #[]), #[]⟩) ::
 (nat_lit 179, ⟨.none, none, (.func ⟨"check_things", "check_things", defArgs (top 28), .stmts (defBody (top 28)), defScope (top 28), 0, [], .none, .none, .none, .none, none, .none, .none, 0⟩), #[]⟩) ::
 (nat_lit 183, ⟨.none, none, (.fields #[]), #[]⟩) ::
 (nat_lit 186, ⟨.none, none, (.func ⟨"word_of", "word_of", defArgs (top 29), .stmts (defBody (top 29)), defScope (top 29), 0, [], .none, .none, .none, .none, none, .none, .none, 0⟩), #[]⟩) ::
 (nat_lit 189, ⟨(.type "tuple"), none, (.seq #[] 0), #[]⟩) ::
 (nat_lit 190, ⟨(.type "builtin_function_or_method"), none, (.fields #[(.builtin "type.__prepare__"), (.type "type")]), #[]⟩) ::
 (nat_lit 191, ⟨(.type "dict"), none, (.dict (List.toArray (⟨kh P "__module__", (.str "__module__" 448), (.str "notefall.deeds" 386)⟩ :: ⟨kh P "__qualname__", (.str "__qualname__" 450), (.str "Deed" 449)⟩ :: ⟨kh P "__firstlineno__", (.str "__firstlineno__" 452), (.int 59 451)⟩ :: ⟨kh P "told", (.str "told" 459), (.ref 202)⟩ :: ⟨kh P "action", (.str "action" 466), (.ref 209)⟩ :: ⟨kh P "span", (.str "span" 473), (.ref 216)⟩ :: ⟨kh P "note", (.str "note" 481), (.ref 223)⟩ :: ⟨kh P "__str__", (.str "__str__" 487), (.ref 228)⟩ :: ⟨kh P "__eq__", (.str "__eq__" 495), (.ref 235)⟩ :: ⟨kh P "__static_attributes__", (.str "__static_attributes__" 496), (.ref 236)⟩ :: [])) 10), #[]⟩) ::
 (nat_lit 192, ⟨(.type "tuple"), none, (.seq #[] 0), #[]⟩) ::
 (nat_lit 193, ⟨.none, none, (.fields #[(.int 61 0), (.int 4 0), (.ref 201), (.int 64 0), (.int 4 0), (.ref 208), (.int 67 0), (.int 4 0), (.ref 215), (.int 70 0), (.int 4 0), (.ref 222), (.int 73 0), (.int 4 0), (.ref 227), (.int 76 0), (.int 4 0), (.ref 234)]), #[]⟩) ::
 (nat_lit 194, ⟨(.type "code"), none, (.fields #[(.str "Deed" 443), (.str "Deed" 444), (.str "/claim/cut.py" 445), (.int 59 0), (.int 0 0), (.int 0 0), (.int 0 0), (.int 0 0), (.ref 192), (.bool false), (.int 181 0), (.ref 193), .none, .none, .none, .none, (.int 446 0), (.int 59 0), (.str "/claim/cut.py" 447)]), #[]⟩) ::
 (nat_lit 195, ⟨(.type "frame"), none, .plain, #[(some (.ref 194)), (some (.ref 3)), (some (.ref 191)), none, (some (.str "notefall.deeds" 386)), none, (some (.ref 0))]⟩) ::
 (nat_lit 197, ⟨.none, none, (.fields #[]), #[]⟩) ::
 (nat_lit 200, ⟨.none, none, (.func ⟨"told", "Deed.told", defArgs (inClass (top 30) 0), .stmts (defBody (inClass (top 30) 0)), defScope (inClass (top 30) 0), 0, [], .none, .none, .none, .none, none, .none, .none, 0⟩), #[]⟩) ::
 (nat_lit 204, ⟨.none, none, (.fields #[]), #[]⟩) ::
 (nat_lit 207, ⟨.none, none, (.func ⟨"action", "Deed.action", defArgs (inClass (top 30) 1), .stmts (defBody (inClass (top 30) 1)), defScope (inClass (top 30) 1), 0, [], .none, .none, .none, .none, none, .none, .none, 0⟩), #[]⟩) ::
 (nat_lit 211, ⟨.none, none, (.fields #[]), #[]⟩) ::
 (nat_lit 214, ⟨.none, none, (.func ⟨"span", "Deed.span", defArgs (inClass (top 30) 2), .stmts (defBody (inClass (top 30) 2)), defScope (inClass (top 30) 2), 0, [], .none, .none, .none, .none, none, .none, .none, 0⟩), #[]⟩) ::
 (nat_lit 218, ⟨.none, none, (.fields #[]), #[]⟩) ::
 (nat_lit 221, ⟨.none, none, (.func ⟨"note", "Deed.note", defArgs (inClass (top 30) 3), .stmts (defBody (inClass (top 30) 3)), defScope (inClass (top 30) 3), 0, [], .none, .none, .none, .none, none, .none, .none, 0⟩), #[]⟩) ::
 (nat_lit 225, ⟨.none, none, (.fields #[]), #[]⟩) ::
 (nat_lit 226, ⟨.none, none, (.func ⟨"__str__", "Deed.__str__", defArgs (inClass (top 30) 4), .stmts (defBody (inClass (top 30) 4)), defScope (inClass (top 30) 4), 0, [], .none, .none, .none, .none, none, .none, .none, 0⟩), #[]⟩) ::
 (nat_lit 230, ⟨.none, none, (.fields #[]), #[]⟩) ::
 (nat_lit 233, ⟨.none, none, (.func ⟨"__eq__", "Deed.__eq__", defArgs (inClass (top 30) 5), .stmts (defBody (inClass (top 30) 5)), defScope (inClass (top 30) 5), 0, [], .none, .none, .none, .none, none, .none, .none, 0⟩), #[]⟩) ::
 (nat_lit 241, ⟨(.type "super"), none, (.fields #[(.ref 238), (.ref 238), (.ref 238)]), #[]⟩) ::
 (nat_lit 242, ⟨(.type "builtin_function_or_method"), none, (.fields #[(.builtin "object.__init_subclass__"), (.ref 238)]), #[]⟩) ::
 (nat_lit 244, ⟨(.type "builtin_function_or_method"), none, (.fields #[(.builtin "type.__prepare__"), (.type "type")]), #[]⟩) ::
 (nat_lit 245, ⟨(.type "dict"), none, (.dict (List.toArray (⟨kh P "__module__", (.str "__module__" 512), (.str "notefall.deeds" 386)⟩ :: ⟨kh P "__qualname__", (.str "__qualname__" 514), (.str "Put" 513)⟩ :: ⟨kh P "__firstlineno__", (.str "__firstlineno__" 516), (.int 78 515)⟩ :: ⟨kh P "__init__", (.str "__init__" 526), (.ref 257)⟩ :: ⟨kh P "told", (.str "told" 533), (.ref 264)⟩ :: ⟨kh P "action", (.str "action" 540), (.ref 271)⟩ :: ⟨kh P "span", (.str "span" 547), (.ref 278)⟩ :: ⟨kh P "__static_attributes__", (.str "__static_attributes__" 550), (.ref 279)⟩ :: [])) 8), #[]⟩) ::
 (nat_lit 246, ⟨(.type "tuple"), none, (.seq #[] 0), #[]⟩) ::
 (nat_lit 247, ⟨.none, none, (.fields #[(.int 80 0), (.int 4 0), (.ref 256), (.int 85 0), (.int 4 0), (.ref 263), (.int 88 0), (.int 4 0), (.ref 270), (.int 91 0), (.int 4 0), (.ref 277)]), #[]⟩) ::
 (nat_lit 248, ⟨(.type "code"), none, (.fields #[(.str "Put" 507), (.str "Put" 508), (.str "/claim/cut.py" 509), (.int 78 0), (.int 0 0), (.int 0 0), (.int 0 0), (.int 0 0), (.ref 246), (.bool false), (.int 181 0), (.ref 247), .none, .none, .none, .none, (.int 510 0), (.int 78 0), (.str "/claim/cut.py" 511)]), #[]⟩) ::
 (nat_lit 249, ⟨(.type "frame"), none, .plain, #[(some (.ref 248)), (some (.ref 3)), (some (.ref 245)), none, (some (.str "notefall.deeds" 386)), none, (some (.ref 0))]⟩) ::
 (nat_lit 252, ⟨.none, none, (.fields #[]), #[]⟩) ::
 (nat_lit 255, ⟨.none, none, (.func ⟨"__init__", "Put.__init__", defArgs (inClass (top 31) 0), .stmts (defBody (inClass (top 31) 0)), defScope (inClass (top 31) 0), 0, [], .none, .none, .none, .none, none, .none, .none, 0⟩), #[]⟩) ::
 (nat_lit 259, ⟨.none, none, (.fields #[]), #[]⟩) ::
 (nat_lit 262, ⟨.none, none, (.func ⟨"told", "Put.told", defArgs (inClass (top 31) 1), .stmts (defBody (inClass (top 31) 1)), defScope (inClass (top 31) 1), 0, [], .none, .none, .none, .none, none, .none, .none, 0⟩), #[]⟩) ::
 (nat_lit 266, ⟨.none, none, (.fields #[]), #[]⟩) ::
 (nat_lit 269, ⟨.none, none, (.func ⟨"action", "Put.action", defArgs (inClass (top 31) 2), .stmts (defBody (inClass (top 31) 2)), defScope (inClass (top 31) 2), 0, [], .none, .none, .none, .none, none, .none, .none, 0⟩), #[]⟩) ::
 (nat_lit 273, ⟨.none, none, (.fields #[]), #[]⟩) ::
 (nat_lit 276, ⟨.none, none, (.func ⟨"span", "Put.span", defArgs (inClass (top 31) 3), .stmts (defBody (inClass (top 31) 3)), defScope (inClass (top 31) 3), 0, [], .none, .none, .none, .none, none, .none, .none, 0⟩), #[]⟩) ::
 (nat_lit 282, ⟨(.type "super"), none, (.fields #[(.ref 281), (.ref 281), (.ref 281)]), #[]⟩) ::
 (nat_lit 283, ⟨(.type "builtin_function_or_method"), none, (.fields #[(.builtin "object.__init_subclass__"), (.ref 281)]), #[]⟩) ::
 (nat_lit 285, ⟨(.type "builtin_function_or_method"), none, (.fields #[(.builtin "type.__prepare__"), (.type "type")]), #[]⟩) ::
 (nat_lit 286, ⟨(.type "dict"), none, (.dict (List.toArray (⟨kh P "__module__", (.str "__module__" 561), (.str "notefall.deeds" 386)⟩ :: ⟨kh P "__qualname__", (.str "__qualname__" 563), (.str "Drop" 562)⟩ :: ⟨kh P "__firstlineno__", (.str "__firstlineno__" 565), (.int 93 564)⟩ :: ⟨kh P "__init__", (.str "__init__" 574), (.ref 298)⟩ :: ⟨kh P "told", (.str "told" 581), (.ref 305)⟩ :: ⟨kh P "action", (.str "action" 588), (.ref 312)⟩ :: ⟨kh P "span", (.str "span" 595), (.ref 319)⟩ :: ⟨kh P "__static_attributes__", (.str "__static_attributes__" 597), (.ref 320)⟩ :: [])) 8), #[]⟩) ::
 (nat_lit 287, ⟨(.type "tuple"), none, (.seq #[] 0), #[]⟩) ::
 (nat_lit 288, ⟨.none, none, (.fields #[(.int 95 0), (.int 4 0), (.ref 297), (.int 99 0), (.int 4 0), (.ref 304), (.int 102 0), (.int 4 0), (.ref 311), (.int 105 0), (.int 4 0), (.ref 318)]), #[]⟩) ::
 (nat_lit 289, ⟨(.type "code"), none, (.fields #[(.str "Drop" 556), (.str "Drop" 557), (.str "/claim/cut.py" 558), (.int 93 0), (.int 0 0), (.int 0 0), (.int 0 0), (.int 0 0), (.ref 287), (.bool false), (.int 181 0), (.ref 288), .none, .none, .none, .none, (.int 559 0), (.int 93 0), (.str "/claim/cut.py" 560)]), #[]⟩) ::
 (nat_lit 290, ⟨(.type "frame"), none, .plain, #[(some (.ref 289)), (some (.ref 3)), (some (.ref 286)), none, (some (.str "notefall.deeds" 386)), none, (some (.ref 0))]⟩) ::
 (nat_lit 293, ⟨.none, none, (.fields #[]), #[]⟩) ::
 (nat_lit 296, ⟨.none, none, (.func ⟨"__init__", "Drop.__init__", defArgs (inClass (top 32) 0), .stmts (defBody (inClass (top 32) 0)), defScope (inClass (top 32) 0), 0, [], .none, .none, .none, .none, none, .none, .none, 0⟩), #[]⟩) ::
 (nat_lit 300, ⟨.none, none, (.fields #[]), #[]⟩) ::
 (nat_lit 303, ⟨.none, none, (.func ⟨"told", "Drop.told", defArgs (inClass (top 32) 1), .stmts (defBody (inClass (top 32) 1)), defScope (inClass (top 32) 1), 0, [], .none, .none, .none, .none, none, .none, .none, 0⟩), #[]⟩) ::
 (nat_lit 307, ⟨.none, none, (.fields #[]), #[]⟩) ::
 (nat_lit 310, ⟨.none, none, (.func ⟨"action", "Drop.action", defArgs (inClass (top 32) 2), .stmts (defBody (inClass (top 32) 2)), defScope (inClass (top 32) 2), 0, [], .none, .none, .none, .none, none, .none, .none, 0⟩), #[]⟩) ::
 (nat_lit 314, ⟨.none, none, (.fields #[]), #[]⟩) ::
 (nat_lit 317, ⟨.none, none, (.func ⟨"span", "Drop.span", defArgs (inClass (top 32) 3), .stmts (defBody (inClass (top 32) 3)), defScope (inClass (top 32) 3), 0, [], .none, .none, .none, .none, none, .none, .none, 0⟩), #[]⟩) ::
 (nat_lit 323, ⟨(.type "super"), none, (.fields #[(.ref 322), (.ref 322), (.ref 322)]), #[]⟩) ::
 (nat_lit 324, ⟨(.type "builtin_function_or_method"), none, (.fields #[(.builtin "object.__init_subclass__"), (.ref 322)]), #[]⟩) ::
 (nat_lit 326, ⟨(.type "builtin_function_or_method"), none, (.fields #[(.builtin "type.__prepare__"), (.type "type")]), #[]⟩) ::
 (nat_lit 327, ⟨(.type "dict"), none, (.dict (List.toArray (⟨kh P "__module__", (.str "__module__" 608), (.str "notefall.deeds" 386)⟩ :: ⟨kh P "__qualname__", (.str "__qualname__" 610), (.str "Add" 609)⟩ :: ⟨kh P "__firstlineno__", (.str "__firstlineno__" 612), (.int 107 611)⟩ :: ⟨kh P "__init__", (.str "__init__" 622), (.ref 339)⟩ :: ⟨kh P "told", (.str "told" 629), (.ref 346)⟩ :: ⟨kh P "action", (.str "action" 636), (.ref 353)⟩ :: ⟨kh P "span", (.str "span" 643), (.ref 360)⟩ :: ⟨kh P "__static_attributes__", (.str "__static_attributes__" 646), (.ref 361)⟩ :: [])) 8), #[]⟩) ::
 (nat_lit 328, ⟨(.type "tuple"), none, (.seq #[] 0), #[]⟩) ::
 (nat_lit 329, ⟨.none, none, (.fields #[(.int 109 0), (.int 4 0), (.ref 338), (.int 114 0), (.int 4 0), (.ref 345), (.int 117 0), (.int 4 0), (.ref 352), (.int 120 0), (.int 4 0), (.ref 359)]), #[]⟩) ::
 (nat_lit 330, ⟨(.type "code"), none, (.fields #[(.str "Add" 603), (.str "Add" 604), (.str "/claim/cut.py" 605), (.int 107 0), (.int 0 0), (.int 0 0), (.int 0 0), (.int 0 0), (.ref 328), (.bool false), (.int 181 0), (.ref 329), .none, .none, .none, .none, (.int 606 0), (.int 107 0), (.str "/claim/cut.py" 607)]), #[]⟩) ::
 (nat_lit 331, ⟨(.type "frame"), none, .plain, #[(some (.ref 330)), (some (.ref 3)), (some (.ref 327)), none, (some (.str "notefall.deeds" 386)), none, (some (.ref 0))]⟩) ::
 (nat_lit 334, ⟨.none, none, (.fields #[]), #[]⟩) ::
 (nat_lit 337, ⟨.none, none, (.func ⟨"__init__", "Add.__init__", defArgs (inClass (top 33) 0), .stmts (defBody (inClass (top 33) 0)), defScope (inClass (top 33) 0), 0, [], .none, .none, .none, .none, none, .none, .none, 0⟩), #[]⟩) ::
 (nat_lit 341, ⟨.none, none, (.fields #[]), #[]⟩) ::
 (nat_lit 344, ⟨.none, none, (.func ⟨"told", "Add.told", defArgs (inClass (top 33) 1), .stmts (defBody (inClass (top 33) 1)), defScope (inClass (top 33) 1), 0, [], .none, .none, .none, .none, none, .none, .none, 0⟩), #[]⟩) ::
 (nat_lit 348, ⟨.none, none, (.fields #[]), #[]⟩) ::
 (nat_lit 351, ⟨.none, none, (.func ⟨"action", "Add.action", defArgs (inClass (top 33) 2), .stmts (defBody (inClass (top 33) 2)), defScope (inClass (top 33) 2), 0, [], .none, .none, .none, .none, none, .none, .none, 0⟩), #[]⟩) ::
 (nat_lit 355, ⟨.none, none, (.fields #[]), #[]⟩) ::
 (nat_lit 358, ⟨.none, none, (.func ⟨"span", "Add.span", defArgs (inClass (top 33) 3), .stmts (defBody (inClass (top 33) 3)), defScope (inClass (top 33) 3), 0, [], .none, .none, .none, .none, none, .none, .none, 0⟩), #[]⟩) ::
 (nat_lit 364, ⟨(.type "super"), none, (.fields #[(.ref 363), (.ref 363), (.ref 363)]), #[]⟩) ::
 (nat_lit 365, ⟨(.type "builtin_function_or_method"), none, (.fields #[(.builtin "object.__init_subclass__"), (.ref 363)]), #[]⟩) ::
 (nat_lit 367, ⟨(.type "builtin_function_or_method"), none, (.fields #[(.builtin "type.__prepare__"), (.type "type")]), #[]⟩) ::
 (nat_lit 368, ⟨(.type "dict"), none, (.dict (List.toArray (⟨kh P "__module__", (.str "__module__" 657), (.str "notefall.deeds" 386)⟩ :: ⟨kh P "__qualname__", (.str "__qualname__" 659), (.str "Wipe" 658)⟩ :: ⟨kh P "__firstlineno__", (.str "__firstlineno__" 661), (.int 122 660)⟩ :: ⟨kh P "__init__", (.str "__init__" 671), (.ref 380)⟩ :: ⟨kh P "told", (.str "told" 678), (.ref 387)⟩ :: ⟨kh P "action", (.str "action" 685), (.ref 394)⟩ :: ⟨kh P "span", (.str "span" 692), (.ref 401)⟩ :: ⟨kh P "__static_attributes__", (.str "__static_attributes__" 695), (.ref 402)⟩ :: [])) 8), #[]⟩) ::
 (nat_lit 369, ⟨(.type "tuple"), none, (.seq #[] 0), #[]⟩) ::
 (nat_lit 370, ⟨.none, none, (.fields #[(.int 124 0), (.int 4 0), (.ref 379), (.int 129 0), (.int 4 0), (.ref 386), (.int 132 0), (.int 4 0), (.ref 393), (.int 135 0), (.int 4 0), (.ref 400)]), #[]⟩) ::
 (nat_lit 371, ⟨(.type "code"), none, (.fields #[(.str "Wipe" 652), (.str "Wipe" 653), (.str "/claim/cut.py" 654), (.int 122 0), (.int 0 0), (.int 0 0), (.int 0 0), (.int 0 0), (.ref 369), (.bool false), (.int 181 0), (.ref 370), .none, .none, .none, .none, (.int 655 0), (.int 122 0), (.str "/claim/cut.py" 656)]), #[]⟩) ::
 (nat_lit 372, ⟨(.type "frame"), none, .plain, #[(some (.ref 371)), (some (.ref 3)), (some (.ref 368)), none, (some (.str "notefall.deeds" 386)), none, (some (.ref 0))]⟩) ::
 (nat_lit 375, ⟨.none, none, (.fields #[]), #[]⟩) ::
 (nat_lit 378, ⟨.none, none, (.func ⟨"__init__", "Wipe.__init__", defArgs (inClass (top 34) 0), .stmts (defBody (inClass (top 34) 0)), defScope (inClass (top 34) 0), 0, [], .none, .none, .none, .none, none, .none, .none, 0⟩), #[]⟩) ::
 (nat_lit 382, ⟨.none, none, (.fields #[]), #[]⟩) ::
 (nat_lit 385, ⟨.none, none, (.func ⟨"told", "Wipe.told", defArgs (inClass (top 34) 1), .stmts (defBody (inClass (top 34) 1)), defScope (inClass (top 34) 1), 0, [], .none, .none, .none, .none, none, .none, .none, 0⟩), #[]⟩) ::
 (nat_lit 389, ⟨.none, none, (.fields #[]), #[]⟩) ::
 (nat_lit 392, ⟨.none, none, (.func ⟨"action", "Wipe.action", defArgs (inClass (top 34) 2), .stmts (defBody (inClass (top 34) 2)), defScope (inClass (top 34) 2), 0, [], .none, .none, .none, .none, none, .none, .none, 0⟩), #[]⟩) ::
 (nat_lit 396, ⟨.none, none, (.fields #[]), #[]⟩) ::
 (nat_lit 399, ⟨.none, none, (.func ⟨"span", "Wipe.span", defArgs (inClass (top 34) 3), .stmts (defBody (inClass (top 34) 3)), defScope (inClass (top 34) 3), 0, [], .none, .none, .none, .none, none, .none, .none, 0⟩), #[]⟩) ::
 (nat_lit 405, ⟨(.type "super"), none, (.fields #[(.ref 404), (.ref 404), (.ref 404)]), #[]⟩) ::
 (nat_lit 406, ⟨(.type "builtin_function_or_method"), none, (.fields #[(.builtin "object.__init_subclass__"), (.ref 404)]), #[]⟩) ::
 (nat_lit 408, ⟨(.type "builtin_function_or_method"), none, (.fields #[(.builtin "type.__prepare__"), (.type "type")]), #[]⟩) ::
 (nat_lit 409, ⟨(.type "dict"), none, (.dict (List.toArray (⟨kh P "__module__", (.str "__module__" 706), (.str "notefall.deeds" 386)⟩ :: ⟨kh P "__qualname__", (.str "__qualname__" 708), (.str "Raise" 707)⟩ :: ⟨kh P "__firstlineno__", (.str "__firstlineno__" 710), (.int 137 709)⟩ :: ⟨kh P "__init__", (.str "__init__" 721), (.ref 421)⟩ :: ⟨kh P "told", (.str "told" 728), (.ref 428)⟩ :: ⟨kh P "action", (.str "action" 735), (.ref 435)⟩ :: ⟨kh P "span", (.str "span" 742), (.ref 442)⟩ :: ⟨kh P "__static_attributes__", (.str "__static_attributes__" 746), (.ref 443)⟩ :: [])) 8), #[]⟩) ::
 (nat_lit 410, ⟨(.type "tuple"), none, (.seq #[] 0), #[]⟩) ::
 (nat_lit 411, ⟨.none, none, (.fields #[(.int 139 0), (.int 4 0), (.ref 420), (.int 145 0), (.int 4 0), (.ref 427), (.int 148 0), (.int 4 0), (.ref 434), (.int 151 0), (.int 4 0), (.ref 441)]), #[]⟩) ::
 (nat_lit 412, ⟨(.type "code"), none, (.fields #[(.str "Raise" 701), (.str "Raise" 702), (.str "/claim/cut.py" 703), (.int 137 0), (.int 0 0), (.int 0 0), (.int 0 0), (.int 0 0), (.ref 410), (.bool false), (.int 181 0), (.ref 411), .none, .none, .none, .none, (.int 704 0), (.int 137 0), (.str "/claim/cut.py" 705)]), #[]⟩) ::
 (nat_lit 413, ⟨(.type "frame"), none, .plain, #[(some (.ref 412)), (some (.ref 3)), (some (.ref 409)), none, (some (.str "notefall.deeds" 386)), none, (some (.ref 0))]⟩) ::
 (nat_lit 416, ⟨.none, none, (.fields #[]), #[]⟩) ::
 (nat_lit 419, ⟨.none, none, (.func ⟨"__init__", "Raise.__init__", defArgs (inClass (top 35) 0), .stmts (defBody (inClass (top 35) 0)), defScope (inClass (top 35) 0), 0, [], .none, .none, .none, .none, none, .none, .none, 0⟩), #[]⟩) ::
 (nat_lit 423, ⟨.none, none, (.fields #[]), #[]⟩) ::
 (nat_lit 426, ⟨.none, none, (.func ⟨"told", "Raise.told", defArgs (inClass (top 35) 1), .stmts (defBody (inClass (top 35) 1)), defScope (inClass (top 35) 1), 0, [], .none, .none, .none, .none, none, .none, .none, 0⟩), #[]⟩) ::
 (nat_lit 430, ⟨.none, none, (.fields #[]), #[]⟩) ::
 (nat_lit 433, ⟨.none, none, (.func ⟨"action", "Raise.action", defArgs (inClass (top 35) 2), .stmts (defBody (inClass (top 35) 2)), defScope (inClass (top 35) 2), 0, [], .none, .none, .none, .none, none, .none, .none, 0⟩), #[]⟩) ::
 (nat_lit 437, ⟨.none, none, (.fields #[]), #[]⟩) ::
 (nat_lit 440, ⟨.none, none, (.func ⟨"span", "Raise.span", defArgs (inClass (top 35) 3), .stmts (defBody (inClass (top 35) 3)), defScope (inClass (top 35) 3), 0, [], .none, .none, .none, .none, none, .none, .none, 0⟩), #[]⟩) ::
 (nat_lit 446, ⟨(.type "super"), none, (.fields #[(.ref 445), (.ref 445), (.ref 445)]), #[]⟩) ::
 (nat_lit 447, ⟨(.type "builtin_function_or_method"), none, (.fields #[(.builtin "object.__init_subclass__"), (.ref 445)]), #[]⟩) ::
 (nat_lit 449, ⟨(.type "builtin_function_or_method"), none, (.fields #[(.builtin "type.__prepare__"), (.type "type")]), #[]⟩) ::
 (nat_lit 450, ⟨(.type "dict"), none, (.dict (List.toArray (⟨kh P "__module__", (.str "__module__" 757), (.str "notefall.deeds" 386)⟩ :: ⟨kh P "__qualname__", (.str "__qualname__" 759), (.str "Level" 758)⟩ :: ⟨kh P "__firstlineno__", (.str "__firstlineno__" 761), (.int 153 760)⟩ :: ⟨kh P "__init__", (.str "__init__" 772), (.ref 462)⟩ :: ⟨kh P "told", (.str "told" 779), (.ref 469)⟩ :: ⟨kh P "action", (.str "action" 786), (.ref 476)⟩ :: ⟨kh P "span", (.str "span" 793), (.ref 483)⟩ :: ⟨kh P "__static_attributes__", (.str "__static_attributes__" 797), (.ref 484)⟩ :: [])) 8), #[]⟩) ::
 (nat_lit 451, ⟨(.type "tuple"), none, (.seq #[] 0), #[]⟩) ::
 (nat_lit 452, ⟨.none, none, (.fields #[(.int 155 0), (.int 4 0), (.ref 461), (.int 161 0), (.int 4 0), (.ref 468), (.int 164 0), (.int 4 0), (.ref 475), (.int 167 0), (.int 4 0), (.ref 482)]), #[]⟩) ::
 (nat_lit 453, ⟨(.type "code"), none, (.fields #[(.str "Level" 752), (.str "Level" 753), (.str "/claim/cut.py" 754), (.int 153 0), (.int 0 0), (.int 0 0), (.int 0 0), (.int 0 0), (.ref 451), (.bool false), (.int 181 0), (.ref 452), .none, .none, .none, .none, (.int 755 0), (.int 153 0), (.str "/claim/cut.py" 756)]), #[]⟩) ::
 (nat_lit 454, ⟨(.type "frame"), none, .plain, #[(some (.ref 453)), (some (.ref 3)), (some (.ref 450)), none, (some (.str "notefall.deeds" 386)), none, (some (.ref 0))]⟩) ::
 (nat_lit 457, ⟨.none, none, (.fields #[]), #[]⟩) ::
 (nat_lit 460, ⟨.none, none, (.func ⟨"__init__", "Level.__init__", defArgs (inClass (top 36) 0), .stmts (defBody (inClass (top 36) 0)), defScope (inClass (top 36) 0), 0, [], .none, .none, .none, .none, none, .none, .none, 0⟩), #[]⟩) ::
 (nat_lit 464, ⟨.none, none, (.fields #[]), #[]⟩) ::
 (nat_lit 467, ⟨.none, none, (.func ⟨"told", "Level.told", defArgs (inClass (top 36) 1), .stmts (defBody (inClass (top 36) 1)), defScope (inClass (top 36) 1), 0, [], .none, .none, .none, .none, none, .none, .none, 0⟩), #[]⟩) ::
 (nat_lit 471, ⟨.none, none, (.fields #[]), #[]⟩) ::
 (nat_lit 474, ⟨.none, none, (.func ⟨"action", "Level.action", defArgs (inClass (top 36) 2), .stmts (defBody (inClass (top 36) 2)), defScope (inClass (top 36) 2), 0, [], .none, .none, .none, .none, none, .none, .none, 0⟩), #[]⟩) ::
 (nat_lit 478, ⟨.none, none, (.fields #[]), #[]⟩) ::
 (nat_lit 481, ⟨.none, none, (.func ⟨"span", "Level.span", defArgs (inClass (top 36) 3), .stmts (defBody (inClass (top 36) 3)), defScope (inClass (top 36) 3), 0, [], .none, .none, .none, .none, none, .none, .none, 0⟩), #[]⟩) ::
 (nat_lit 487, ⟨(.type "super"), none, (.fields #[(.ref 486), (.ref 486), (.ref 486)]), #[]⟩) ::
 (nat_lit 488, ⟨(.type "builtin_function_or_method"), none, (.fields #[(.builtin "object.__init_subclass__"), (.ref 486)]), #[]⟩) ::
 (nat_lit 490, ⟨(.type "builtin_function_or_method"), none, (.fields #[(.builtin "type.__prepare__"), (.type "type")]), #[]⟩) ::
 (nat_lit 491, ⟨(.type "dict"), none, (.dict (List.toArray (⟨kh P "__module__", (.str "__module__" 808), (.str "notefall.deeds" 386)⟩ :: ⟨kh P "__qualname__", (.str "__qualname__" 810), (.str "Mark" 809)⟩ :: ⟨kh P "__firstlineno__", (.str "__firstlineno__" 812), (.int 169 811)⟩ :: ⟨kh P "__init__", (.str "__init__" 820), (.ref 503)⟩ :: ⟨kh P "told", (.str "told" 827), (.ref 510)⟩ :: ⟨kh P "__static_attributes__", (.str "__static_attributes__" 828), (.ref 511)⟩ :: [])) 6), #[]⟩) ::
 (nat_lit 492, ⟨(.type "tuple"), none, (.seq #[] 0), #[]⟩) ::
 (nat_lit 493, ⟨.none, none, (.fields #[(.int 171 0), (.int 4 0), (.ref 502), (.int 174 0), (.int 4 0), (.ref 509)]), #[]⟩) ::
 (nat_lit 494, ⟨(.type "code"), none, (.fields #[(.str "Mark" 803), (.str "Mark" 804), (.str "/claim/cut.py" 805), (.int 169 0), (.int 0 0), (.int 0 0), (.int 0 0), (.int 0 0), (.ref 492), (.bool false), (.int 181 0), (.ref 493), .none, .none, .none, .none, (.int 806 0), (.int 169 0), (.str "/claim/cut.py" 807)]), #[]⟩) ::
 (nat_lit 495, ⟨(.type "frame"), none, .plain, #[(some (.ref 494)), (some (.ref 3)), (some (.ref 491)), none, (some (.str "notefall.deeds" 386)), none, (some (.ref 0))]⟩) ::
 (nat_lit 498, ⟨.none, none, (.fields #[]), #[]⟩) ::
 (nat_lit 501, ⟨.none, none, (.func ⟨"__init__", "Mark.__init__", defArgs (inClass (top 37) 0), .stmts (defBody (inClass (top 37) 0)), defScope (inClass (top 37) 0), 0, [], .none, .none, .none, .none, none, .none, .none, 0⟩), #[]⟩) ::
 (nat_lit 505, ⟨.none, none, (.fields #[]), #[]⟩) ::
 (nat_lit 508, ⟨.none, none, (.func ⟨"told", "Mark.told", defArgs (inClass (top 37) 1), .stmts (defBody (inClass (top 37) 1)), defScope (inClass (top 37) 1), 0, [], .none, .none, .none, .none, none, .none, .none, 0⟩), #[]⟩) ::
 (nat_lit 514, ⟨(.type "super"), none, (.fields #[(.ref 513), (.ref 513), (.ref 513)]), #[]⟩) ::
 (nat_lit 515, ⟨(.type "builtin_function_or_method"), none, (.fields #[(.builtin "object.__init_subclass__"), (.ref 513)]), #[]⟩) ::
 (nat_lit 517, ⟨(.type "builtin_function_or_method"), none, (.fields #[(.builtin "type.__prepare__"), (.type "type")]), #[]⟩) ::
 (nat_lit 518, ⟨(.type "dict"), none, (.dict (List.toArray (⟨kh P "__module__", (.str "__module__" 839), (.str "notefall.deeds" 386)⟩ :: ⟨kh P "__qualname__", (.str "__qualname__" 841), (.str "Forget" 840)⟩ :: ⟨kh P "__firstlineno__", (.str "__firstlineno__" 843), (.int 176 842)⟩ :: ⟨kh P "__init__", (.str "__init__" 852), (.ref 530)⟩ :: ⟨kh P "told", (.str "told" 859), (.ref 537)⟩ :: ⟨kh P "__static_attributes__", (.str "__static_attributes__" 861), (.ref 538)⟩ :: [])) 6), #[]⟩) ::
 (nat_lit 519, ⟨(.type "tuple"), none, (.seq #[] 0), #[]⟩) ::
 (nat_lit 520, ⟨.none, none, (.fields #[(.int 178 0), (.int 4 0), (.ref 529), (.int 182 0), (.int 4 0), (.ref 536)]), #[]⟩) ::
 (nat_lit 521, ⟨(.type "code"), none, (.fields #[(.str "Forget" 834), (.str "Forget" 835), (.str "/claim/cut.py" 836), (.int 176 0), (.int 0 0), (.int 0 0), (.int 0 0), (.int 0 0), (.ref 519), (.bool false), (.int 181 0), (.ref 520), .none, .none, .none, .none, (.int 837 0), (.int 176 0), (.str "/claim/cut.py" 838)]), #[]⟩) ::
 (nat_lit 522, ⟨(.type "frame"), none, .plain, #[(some (.ref 521)), (some (.ref 3)), (some (.ref 518)), none, (some (.str "notefall.deeds" 386)), none, (some (.ref 0))]⟩) ::
 (nat_lit 525, ⟨.none, none, (.fields #[]), #[]⟩) ::
 (nat_lit 528, ⟨.none, none, (.func ⟨"__init__", "Forget.__init__", defArgs (inClass (top 38) 0), .stmts (defBody (inClass (top 38) 0)), defScope (inClass (top 38) 0), 0, [], .none, .none, .none, .none, none, .none, .none, 0⟩), #[]⟩) ::
 (nat_lit 532, ⟨.none, none, (.fields #[]), #[]⟩) ::
 (nat_lit 535, ⟨.none, none, (.func ⟨"told", "Forget.told", defArgs (inClass (top 38) 1), .stmts (defBody (inClass (top 38) 1)), defScope (inClass (top 38) 1), 0, [], .none, .none, .none, .none, none, .none, .none, 0⟩), #[]⟩) ::
 (nat_lit 541, ⟨(.type "super"), none, (.fields #[(.ref 540), (.ref 540), (.ref 540)]), #[]⟩) ::
 (nat_lit 542, ⟨(.type "builtin_function_or_method"), none, (.fields #[(.builtin "object.__init_subclass__"), (.ref 540)]), #[]⟩) ::
 (nat_lit 544, ⟨.none, none, (.fields #[]), #[]⟩) ::
 (nat_lit 547, ⟨.none, none, (.func ⟨"has_form", "has_form", defArgs (top 39), .stmts (defBody (top 39)), defScope (top 39), 0, [], .none, .none, .none, .none, none, .none, .none, 0⟩), #[]⟩) ::
 (nat_lit 551, ⟨.none, none, (.fields #[]), #[]⟩) ::
 (nat_lit 554, ⟨.none, none, (.func ⟨"deed_of", "deed_of", defArgs (top 40), .stmts (defBody (top 40)), defScope (top 40), 0, [], .none, .none, .none, .none, none, .none, .none, 0⟩), #[]⟩) ::
 (nat_lit 558, ⟨.none, none, (.fields #[]), #[]⟩) ::
 (nat_lit 559, ⟨.none, none, (.func ⟨"read_words", "read_words", defArgs (top 41), .stmts (defBody (top 41)), defScope (top 41), 0, [], .none, .none, .none, .none, none, .none, .none, 0⟩), #[]⟩) ::
 (nat_lit 563, ⟨.none, none, (.fields #[]), #[]⟩) ::
 (nat_lit 566, ⟨.none, none, (.func ⟨"_law_well", "_law_well", defArgs (top 43), .stmts (defBody (top 43)), defScope (top 43), 0, [], .none, .none, .none, .none, none, .none, .none, 0⟩), #[]⟩) ::
 (nat_lit 570, ⟨.none, none, (.fields #[]), #[]⟩) ::
 (nat_lit 573, ⟨.none, none, (.func ⟨"_law_draw", "_law_draw", defArgs (top 44), .stmts (defBody (top 44)), defScope (top 44), 0, [], .none, .none, .none, .none, none, .none, .none, 0⟩), #[]⟩) ::
 (nat_lit 577, ⟨.none, none, (.fields #[]), #[]⟩) ::
 (nat_lit 580, ⟨.none, none, (.func ⟨"_law_key", "_law_key", defArgs (top 45), .stmts (defBody (top 45)), defScope (top 45), 0, [], .none, .none, .none, .none, none, .none, .none, 0⟩), #[]⟩) ::
 (nat_lit 584, ⟨.none, none, (.fields #[]), #[]⟩) ::
 (nat_lit 587, ⟨.none, none, (.func ⟨"_law_amount", "_law_amount", defArgs (top 46), .stmts (defBody (top 46)), defScope (top 46), 0, [], .none, .none, .none, .none, none, .none, .none, 0⟩), #[]⟩) ::
 (nat_lit 591, ⟨.none, none, (.fields #[]), #[]⟩) ::
 (nat_lit 594, ⟨.none, none, (.func ⟨"_law_stretch", "_law_stretch", defArgs (top 47), .stmts (defBody (top 47)), defScope (top 47), 0, [], .none, .none, .none, .none, none, .none, .none, 0⟩), #[]⟩) ::
 (nat_lit 598, ⟨.none, none, (.fields #[]), #[]⟩) ::
 (nat_lit 601, ⟨.none, none, (.func ⟨"_law_deed", "_law_deed", defArgs (top 48), .stmts (defBody (top 48)), defScope (top 48), 0, [], .none, .none, .none, .none, none, .none, .none, 0⟩), #[]⟩) ::
 (nat_lit 605, ⟨.none, none, (.fields #[]), #[]⟩) ::
 (nat_lit 608, ⟨.none, none, (.func ⟨"_law_whole", "_law_whole", defArgs (top 49), .stmts (defBody (top 49)), defScope (top 49), 0, [], .none, .none, .none, .none, none, .none, .none, 0⟩), #[]⟩) ::
 (nat_lit 612, ⟨.none, none, (.fields #[]), #[]⟩) ::
 (nat_lit 613, ⟨.none, none, (.func ⟨"_law_number", "_law_number", defArgs (top 50), .stmts (defBody (top 50)), defScope (top 50), 0, [], .none, .none, .none, .none, none, .none, .none, 0⟩), #[]⟩) ::
 (nat_lit 617, ⟨.none, none, (.fields #[]), #[]⟩) ::
 (nat_lit 618, ⟨.none, none, (.func ⟨"_law_read", "_law_read", defArgs (top 51), .stmts (defBody (top 51)), defScope (top 51), 0, [], .none, .none, .none, .none, none, .none, .none, 0⟩), #[]⟩) ::
 (nat_lit 622, ⟨.none, none, (.fields #[]), #[]⟩) ::
 (nat_lit 625, ⟨.none, none, (.func ⟨"_law_sign", "_law_sign", defArgs (top 52), .stmts (defBody (top 52)), defScope (top 52), 0, [], .none, .none, .none, .none, none, .none, .none, 0⟩), #[]⟩) ::
 (nat_lit 629, ⟨.none, none, (.fields #[]), #[]⟩) ::
 (nat_lit 632, ⟨.none, none, (.func ⟨"_law_spoilt", "_law_spoilt", defArgs (top 53), .stmts (defBody (top 53)), defScope (top 53), 0, [], .none, .none, .none, .none, none, .none, .none, 0⟩), #[]⟩) ::
 (nat_lit 636, ⟨.none, none, (.fields #[]), #[]⟩) ::
 (nat_lit 639, ⟨.none, none, (.func ⟨"_law_word", "_law_word", defArgs (top 54), .stmts (defBody (top 54)), defScope (top 54), 0, [], .none, .none, .none, .none, none, .none, .none, 0⟩), #[]⟩) ::
 (nat_lit 643, ⟨.none, none, (.fields #[]), #[]⟩) ::
 (nat_lit 644, ⟨.none, none, (.func ⟨"law", "law", defArgs (top 55), .stmts (defBody (top 55)), defScope (top 55), 0, [], .none, .none, .none, .none, none, .none, .none, 0⟩), #[]⟩) :: []
noncomputable def hAo (P : Params) : List Obj :=
 (PySem.W.boot_o_0 P) ::
 (PySem.W.boot_o_1 P) ::
 (PySem.W.boot_o_2 P) ::
 (PySem.W.boot_o_3 P) ::
 (PySem.W.boot_o_4 P) ::
 (PySem.W.boot_o_5 P) ::
 (PySem.W.boot_o_6 P) ::
 (PySem.W.boot_o_7 P) ::
 (PySem.W.boot_o_8 P) ::
 (PySem.W.boot_o_9 P) ::
 (PySem.W.boot_o_10 P) ::
 (⟨(.type "tuple"), none, (.seq #[] 0), #[]⟩) ::
 (⟨.none, none, (.fields #[]), #[]⟩) ::
 (⟨(.type "code"), none, (.fields #[(.str "<module>" 182), (.str "<module>" 183), (.str "/claim/cut.py" 184), (.int 1 0), (.int 0 0), (.int 0 0), (.int 0 0), (.int 0 0), (.ref 11), (.bool false), (.int 181 0), (.ref 12), .none, .none, .none, .none, (.int 185 0), (.int 1 0), (.str "/claim/cut.py" 186)]), #[]⟩) ::
 (⟨(.type "frame"), none, .plain, #[(some (.ref 13)), (some (.ref 3)), (some (.ref 3)), none, (some (.str "__main__" 164)), none, (some (.ref 0))]⟩) :: []
theorem z_hOth : K13.hOth = K13.hOth := rfl
name_quick K13_hOth for K13.hOth by K13.z_hOth
theorem z_hAo : K13.hAo = K13.hAo := rfl
name_quick K13_hAo for K13.hAo by K13.z_hAo
def hMrg : Nat → PySem.W.Frag → PySem.W.Frag → List Obj
  | 0, _, _ => []
  | n + 1, (a, o) :: r, (b, p) :: s => match Nat.blt a b with
    | true => o :: hMrg n r ((b, p) :: s)
    | false => p :: hMrg n ((a, o) :: r) s
  | n + 1, (_, o) :: r, [] => o :: hMrg n r []
  | n + 1, [], (_, p) :: s => p :: hMrg n [] s
  | _ + 1, [], [] => []
def hIns : List Obj → Nat → PySem.W.BT → PySem.W.BT
  | [], _, t => t
  | o :: r, n, t => hIns r (n + 1) (t.ins n o)
noncomputable def hTr (P : Params) : PySem.W.BT := hIns (hMrg 647 (PySem.W.Fast.K13_hK P) (PySem.W.Fast.K13_hOth P)) 0 .nil
noncomputable def hEnv : Env := { scope := PySem.W.Fast.K13_pw.main.scope, locals := mainNs, globals := mainNs, cells := [], code := (.ref 13), frame := some 14 }
noncomputable abbrev hCd : Code := Code.body (PySem.W.behindTheImports PySem.W.Fast.K13_pw) hEnv
noncomputable abbrev hSa (P : Params) (os : OsState) : PySem.W.SharedT := ⟨hIns (PySem.W.Fast.K13_hAo P) 0 .nil, 15, {}, Array.mk [], ⟨0, 0, 0, 0⟩, 187, os⟩
noncomputable abbrev hSm (P : Params) (os : OsState) : PySem.W.SharedT := ⟨hTr P, 647, {}, Array.mk [], ⟨0, 0, 0, 0⟩, 1005, os⟩
set_option maxRecDepth 100000 in
set_option maxHeartbeats 0 in
theorem hPre (w : World) (os : OsState) : PySem.W.topGo PySem.W.Fast.tw14364793385576792824 PySem.W.Fast.K13_pw w 11 (some (.ref 6)) 12 ⟨PySem.W.boot_heap w.params, Array.mk [], PySem.W.boot_drawn, PySem.W.boot_toks, os⟩ (PySem.W.topStub PySem.W.Fast.K13_pw) = some ((hSa w.params os).abs, ⟨denote PySem.W.Fast.tw14364793385576792824 hCd, hCd, ⟨0, 0, 0, 0⟩, [PySem.W.topFrame ⟨0, 0, 0, 0⟩]⟩) := by kernel_rfl
set_option maxRecDepth 100000 in
set_option maxHeartbeats 0 in
theorem hBlk (w : World) (os : OsState) : PySem.W.segRun PySem.W.Fast.tw14364793385576792824 PySem.W.Fast.K13_pw w 11 (some (.ref 6)) 1 1 (hSa w.params os).abs (PySem.W.blockOf (PySem.W.behindTheImports PySem.W.Fast.K13_pw) hEnv hCd ⟨0, 0, 0, 0⟩ [PySem.W.topFrame ⟨0, 0, 0, 0⟩]) = some (.next, (hSa w.params os).abs, hCd, ⟨0, 0, 0, 0⟩) := by kernel_rfl
noncomputable abbrev hH1 (P : Params) : Heap := PySem.W.absHeap (hTr P) 647 {}
abbrev hAP (w : World) : Prop := ∀ os : OsState, PySem.W.Fast.tw10110043849684766642 PySem.W.Fast.tw14364793385576792824 PySem.W.Fast.K13_pw w 11 (some (.ref 6)) 1 5580 (hSa w.params os) ⟨(PySem.W.Fast.tw12563942051412417395 (PySem.W.behindTheImports PySem.W.Fast.K13_pw) hEnv).wrap PySem.W.doneF PySem.W.deadEnd id id, hCd, ⟨0, 0, 0, 0⟩, [PySem.W.topFrame ⟨0, 0, 0, 0⟩]⟩ = some (.next, hSm w.params os, hCd, ⟨323, 0, 338, 15⟩)
set_option maxRecDepth 100000 in
set_option maxHeartbeats 0 in
theorem hA_false (w : World) (os : OsState) : PySem.W.Fast.tw10110043849684766642 PySem.W.Fast.tw14364793385576792824 PySem.W.Fast.K13_pw (w.withFollow "special-get-raises" false) 11 (some (.ref 6)) 1 5580 (hSa (w.withFollow "special-get-raises" false).params os) ⟨(PySem.W.Fast.tw12563942051412417395 (PySem.W.behindTheImports PySem.W.Fast.K13_pw) hEnv).wrap PySem.W.doneF PySem.W.deadEnd id id, hCd, ⟨0, 0, 0, 0⟩, [PySem.W.topFrame ⟨0, 0, 0, 0⟩]⟩ = some (.next, hSm (w.withFollow "special-get-raises" false).params os, hCd, ⟨323, 0, 338, 15⟩) := by kernel_rfl
set_option maxRecDepth 100000 in
set_option maxHeartbeats 0 in
theorem hA_true (w : World) (os : OsState) : PySem.W.Fast.tw10110043849684766642 PySem.W.Fast.tw14364793385576792824 PySem.W.Fast.K13_pw (w.withFollow "special-get-raises" true) 11 (some (.ref 6)) 1 5580 (hSa (w.withFollow "special-get-raises" true).params os) ⟨(PySem.W.Fast.tw12563942051412417395 (PySem.W.behindTheImports PySem.W.Fast.K13_pw) hEnv).wrap PySem.W.doneF PySem.W.deadEnd id id, hCd, ⟨0, 0, 0, 0⟩, [PySem.W.topFrame ⟨0, 0, 0, 0⟩]⟩ = some (.next, hSm (w.withFollow "special-get-raises" true).params os, hCd, ⟨323, 0, 338, 15⟩) := by kernel_rfl
theorem hAllq (w : World) : hAP w := PySem.W.byRow2 "special-get-raises" (P := hAP) (fun w os => hA_false w os) (fun w os => hA_true w os) w
set_option maxRecDepth 100000 in
set_option maxHeartbeats 0 in
theorem hFin (w : World) (os : OsState) : PySem.W.topRun PySem.W.Fast.tw14364793385576792824 PySem.W.Fast.K13_pw w 11 (some (.ref 6)) 2 (hSm w.params os).abs (PySem.W.restOf [] hEnv hCd ⟨323, 0, 338, 15⟩ [PySem.W.topFrame ⟨0, 0, 0, 0⟩]) = some ⟨hH1 w.params, Array.mk [], ⟨0, 0, 0, 0⟩, 1005, os⟩ := by kernel_rfl
theorem all_of {F F' : (String → Option Builtin) → Program → World → Nat → Option Value → Nat → Nat → PySem.W.SharedT → Thread → Option (Flow × PySem.W.SharedT × Code × Pos)} {G G' : List Stmt → Env → Sem Flow} {tb : String → Option Builtin} {p : Program} {w : World} {m n : Nat} {ann : Option Value} {S : PySem.W.SharedT} {l : List Stmt} {env : Env} {c : Code} {pos : Pos} {B : List Frame} {r : Option (Flow × PySem.W.SharedT × Code × Pos)}
    (h : F' tb p w m ann 1 n S ⟨(G' l env).wrap PySem.W.doneF PySem.W.deadEnd id id, c, pos, B⟩ = r) (eF : F = F') (eG : G = G') : F tb p w m ann 1 n S ⟨(G l env).wrap PySem.W.doneF PySem.W.deadEnd id id, c, pos, B⟩ = r := by
  subst eF eG; exact h
theorem run_chain {tb : String → Option Builtin} {p : Program} {w : World} {m n0 n1 n2 n3 : Nat} {ann : Option Value} {env : Env} {q : Pos} {b : List Stmt} {S0 Sa R : Shared} {SA SM : PySem.W.SharedT} {stub : Thread} {pos0 pos1 pos2 : Pos} (ea : SA.abs = Sa)
    (h1 : PySem.W.topGo tb p w m ann n0 S0 stub = some (Sa, ⟨denote tb (Code.body b env), Code.body b env, pos0, [PySem.W.topFrame q]⟩))
    (h2 : PySem.W.segRun tb p w m ann 1 n1 Sa (PySem.W.blockOf b env (Code.body b env) pos0 [PySem.W.topFrame q]) = some (.next, Sa, Code.body b env, pos1))
    (h3 : PySem.W.segRunT tb p w m ann 1 n2 SA (PySem.W.piecesOf b env (Code.body b env) pos1 [PySem.W.topFrame q]) = some (.next, SM, Code.body b env, pos2))
    (h4 : PySem.W.topRun tb p w m ann n3 SM.abs (PySem.W.restOf [] env (Code.body b env) pos2 [PySem.W.topFrame q]) = some R) : PySem.W.topRun tb p w m ann (n0 + (n1 + (n2 + n3))) S0 stub = some R := by
  subst ea
  refine PySem.W.go_top h1 (PySem.W.piece_block h2 ?_)
  have h := PySem.W.piece_app (rest := []) (PySem.W.segRun_of h3) h4
  rw [List.append_nil] at h
  exact h
set_option maxRecDepth 100000 in
set_option maxHeartbeats 0 in
theorem hRun (w : World) (os : OsState) : PySem.W.topRun PySem.W.Fast.tw14364793385576792824 PySem.W.Fast.K13_pw w 11 (some (.ref 6)) (12 + (1 + (5580 + 2))) ⟨PySem.W.boot_heap w.params, Array.mk [], PySem.W.boot_drawn, PySem.W.boot_toks, os⟩ (PySem.W.topStub PySem.W.Fast.K13_pw) = some ⟨hH1 w.params, Array.mk [], ⟨0, 0, 0, 0⟩, 1005, os⟩ :=
  run_chain rfl (hPre w os) (hBlk w os) (all_of (hAllq w os) PySem.W.Fast.te10110043849684766642 PySem.W.Fast.te12563942051412417395) (hFin w os)
abbrev hG {t : Type} (p q : Program) (lo : List Str) (lv : List (Str × PySem.W.WData)) (K : Params → PySem.W.Frag) (sn : Program → List Str → List Str → (Shared → Bool) → Bool → Shared → t) (gd : Program → List Str → t) (im : List Stmt → List Str) (w : World) : Prop :=
  (fun os : OsState => ((PySem.W.staticsOk (im p.main.body) (PySem.W.boot_heap w.params) (hH1 w.params) && PySem.W.namesBound p (hH1 w.params) && PySem.W.gensDone ⟨hH1 w.params, Array.mk [], ⟨0, 0, 0, 0⟩, 1005, os⟩ && PySem.W.laidKept (PySem.W.boot_heap w.params) (hH1 w.params)), sn q lo (im p.main.body) (hXt q lv) true ⟨hH1 w.params, Array.mk [], ⟨0, 0, 0, 0⟩, 1005, os⟩, hYf ⟨hH1 w.params, Array.mk [], ⟨0, 0, 0, 0⟩, 1005, os⟩)) = fun _ => (true, gd q lo, hYa K w)
theorem hG_of {t : Type} {p p' q q' : Program} {lo lo' : List Str} {lv lv' : List (Str × PySem.W.WData)} {K K' : Params → PySem.W.Frag} {sn sn' : Program → List Str → List Str → (Shared → Bool) → Bool → Shared → t} {gd : Program → List Str → t} {im im' : List Stmt → List Str} {w : World}
    (h : hG p' q' lo' lv' K' sn' gd im' w) (e2 : p = p') (e3 : q = q') (e4 : lo = lo') (e5 : lv = lv') (e6 : K = K') (e7 : sn = sn') (e8 : im = im') : hG p q lo lv K sn gd im w := by
  subst e2 e3 e4 e5 e6 e7 e8; exact h
set_option maxRecDepth 100000 in
set_option maxHeartbeats 0 in
theorem hLk (w : World) : hG PySem.W.Fast.K13_pw PySem.W.Fast.K13_hQ PySem.W.Fast.K13_hLo PySem.W.Fast.K13_hLv PySem.W.Fast.K13_hK PySem.W.Fast.tw4187177175401517315 PySem.W.openGood PySem.W.Fast.tw5923862056798008813 w := by kernel_rfl
theorem hR_of {tb tb' : String → Option Builtin} {p p' : Program} {M : Nat} {S R : World → OsState → Shared} (h : ∀ w os, PySem.W.topRun tb' p' w 11 (some (.ref 6)) M (S w os) (PySem.W.topStub p') = some (R w os)) (e1 : tb = tb') (e2 : p = p') : ∀ w os, PySem.W.topRun tb p w 11 (some (.ref 6)) M (S w os) (PySem.W.topStub p) = some (R w os) := by
  subst e1 e2; exact h
set_option maxRecDepth 100000 in
set_option maxHeartbeats 0 in
theorem hSz (w : World) : ((PySem.W.boot_heap w.params).isNs mainGlobals && (Array.mk [] : Array GenState).size == 0, (PySem.W.boot_heap w.params).objs.size, (PySem.W.boot_heap w.params).nsMap mainGlobals "__annotations__") = (true, 11, (some (.ref 6))) := by kernel_rfl
set_option maxRecDepth 100000 in
set_option maxHeartbeats 0 in
theorem hl : PySem.W.LeftO PySem.Challenge.pw_notefall_k13_words_read hQ hLo (hXt hQ hLv) hYf (hYa hK) 11266 :=
  PySem.W.LeftO.of_pieces (H₁ := hH1) (gs₁ := Array.mk []) (d₁ := ⟨0, 0, 0, 0⟩) (k₁ := 1005) (PySem.W.boot_open (by kernel_rfl) (by decide +kernel) (fun s => by kernel_rfl)) hSz (hR_of (M := (12 + (1 + (5580 + 2)))) hRun PySem.W.Fast.te14364793385576792824 PySem.W.Fast.K13_pw_eq) (by decide +kernel)
    (fun w => hG_of (hLk w) PySem.W.Fast.K13_pw_eq PySem.W.Fast.K13_hQ_eq PySem.W.Fast.K13_hLo_eq PySem.W.Fast.K13_hLv_eq PySem.W.Fast.K13_hK_eq PySem.W.Fast.te4187177175401517315 PySem.W.Fast.te5923862056798008813)
end K13
open PySem PySem.W PyProof.Rows
set_option maxRecDepth 100000 in
set_option maxHeartbeats 0 in
theorem PySem.Challenge.cw_notefall_k13_words_read_holds : PySem.Challenge.rw_notefall_k13_words_read.Holds := by
  w_on; o_law
  refine holds_open (q := K13.hQ) (loose := K13.hLo) (Xt := K13.hXt K13.hQ K13.hLv) (XP := XL K13.hQ K13.hLv) (Yf := K13.hYf) (Ya := K13.hYa K13.hK) (YP := Hook.says (PySem.W.kHook K13.hK K13.hAs K13.hE)) (N := 11266) K13.hl (Hook.of (PySem.W.kHook K13.hK K13.hAs K13.hE)) (Hook.keeps (PySem.W.kHook K13.hK K13.hAs K13.hE)) (fun s e => xl_of s (Bool.and_eq_true_iff.mp e).1) XL.keeps (by rfl) (by rfl) (by rfl) (fun s e => recFacts_of (Bool.and_eq_true_iff.mp e).2) (by rfl) (by first | assumption | decide +kernel) (by decide +kernel) ⟨rfl, rfl, rfl, rfl, rfl, by decide +kernel⟩ ?hw ?hc
  case hw => w_witness2
  k_fill
  refine K13.walk (l := PySem.Challenge.rw_notefall_k13_words_read) rfl rfl (fun w h Y => PySem.W.kIn_of Y) ?F
  case F =>
    intro w mg fa h KX G hmg
    refine' K13.all_mk KX G hmg ?na_Put_key ?na_Put_value ?qa_Put ?qb_Put ?qc_Put ?qd_Put ?na_Drop_key ?qa_Drop ?qb_Drop ?qc_Drop ?qd_Drop ?na_Add_by ?na_Add_key ?qa_Add ?qb_Add ?qc_Add ?qd_Add ?na_Wipe_high ?na_Wipe_low ?qa_Wipe ?qb_Wipe ?qc_Wipe ?qd_Wipe ?na_Raise_by ?na_Raise_high ?na_Raise_low ?qa_Raise ?qb_Raise ?qc_Raise ?qd_Raise ?na_Level_high ?na_Level_low ?na_Level_value ?qa_Level ?qb_Level ?qc_Level ?qd_Level ?qa_Mark ?qb_Mark ?qc_Mark ?qd_Mark ?na_Forget_mark ?qa_Forget ?qb_Forget ?qc_Forget ?qd_Forget ?qa_Deed ?qb_Deed ?qc_Deed ?qd_Deed ?a1 ?l1 ?c1 ?k1 ?a2 ?l2 ?c2 ?k2 ?a3 ?l3 ?c3 ?k3 ?a4 ?l4 ?c4 ?k4 ?a5 ?l5 ?c5 ?k5 ?a6 ?l6 ?c6 ?k6 ?a7 ?l7 ?c7 ?k7 ?a8 ?l8 ?c8 ?k8 ?a9 ?l9 ?c9 ?k9 ?a10 ?l10 ?c10 ?k10 ?a11 ?l11 ?c11 ?k11 ?l12 ?c12 ?ld12 ?k12 ?i12 ?n12 ?p12 ?bd12 ?q12a ?q12b ?q12c ?q12d ?na12key ?na12value ?i13 ?l13 ?c13 ?k13 ?n13 ?l14 ?c14 ?ld14 ?k14 ?i14 ?n14 ?p14 ?bd14 ?q14a ?q14b ?q14c ?q14d ?na14key ?i15 ?l15 ?c15 ?k15 ?n15 ?l16 ?c16 ?ld16 ?k16 ?i16 ?n16 ?p16 ?bd16 ?q16a ?q16b ?q16c ?q16d ?na16key ?na16by ?i17 ?l17 ?c17 ?k17 ?n17 ?l18 ?c18 ?ld18 ?k18 ?i18 ?n18 ?p18 ?bd18 ?q18a ?q18b ?q18c ?q18d ?na18low ?na18high ?i19 ?l19 ?c19 ?k19 ?n19 ?l20 ?c20 ?ld20 ?k20 ?i20 ?n20 ?p20 ?bd20 ?q20a ?q20b ?q20c ?q20d ?na20low ?na20high ?na20by ?i21 ?l21 ?c21 ?k21 ?n21 ?l22 ?c22 ?ld22 ?k22 ?i22 ?n22 ?p22 ?bd22 ?q22a ?q22b ?q22c ?q22d ?na22low ?na22high ?na22value ?i23 ?l23 ?c23 ?k23 ?n23 ?l24 ?c24 ?ld24 ?k24 ?i24 ?n24 ?p24 ?bd24 ?q24a ?q24b ?q24c ?q24d ?i25 ?l25 ?c25 ?k25 ?n25 ?l26 ?c26 ?ld26 ?k26 ?i26 ?n26 ?p26 ?bd26 ?q26a ?q26b ?q26c ?q26d ?na26mark ?i27 ?l27 ?c27 ?k27 ?n27 ?i28 ?l28 ?c28 ?k28 ?n28 ?i29 ?l29 ?c29 ?k29 ?n29 ?a30 ?l30 ?c30 ?k30 ?a31 ?l31 ?c31 ?k31 ?a32 ?l32 ?c32 ?k32 ?a33 ?l33 ?c33 ?k33 ?a34 ?l34 ?c34 ?k34 ?a35 ?l35 ?c35 ?k35 ?a36 ?l36 ?c36 ?k36 ?a37 ?l37 ?c37 ?k37 ?a38 ?l38 ?c38 ?k38 ?a39 ?l39 ?c39 ?k39 ?a40 ?l40 ?c40 ?k40 ?a41 ?l41 ?c41 ?k41 ?a42 ?l42 ?c42 ?k42 ?a43 ?l43 ?c43 ?k43 ?a44 ?l44 ?c44 ?k44 ?a45 ?l45 ?c45 ?k45 ?z_len ?z_isinstance ?z_int ?z_bool ?z_tuple ?z_str ?z_min ?z_END ?z_MOST_VALUE ?z_MOST_FIGURES ?z_NO_MORE ?z_THINGS ?z_FallError ?z_NoDeed ?z_NoKey ?z_NoStretch ?z_NoMark ?z_NoAction ?z_NoPage ?z_Deed ?z_Put ?z_Drop ?z_Add ?z_Wipe ?z_Raise ?z_Level ?z_Mark ?z_Forget ?z_kT ?z_tne ?z_gt ?z_tk ?z_xD ?z_gaD ?z_ghD ?z_clD ?z_moD ?z_mbD ?z_isD ?z_mD ?z_kx0 ?z_kx1 ?z_kx2 ?z_kx3 ?z_kx4 ?z_kx5 ?z_caPut ?z_moPut ?z_kDPut ?z_nePut ?z_nfPutDrop ?z_nfPutAdd ?z_nfPutWipe ?z_nfPutRaise ?z_nfPutLevel ?z_nfPutMark ?z_nfPutForget ?z_mtPutstr ?z_mtPuteq ?z_caDrop ?z_moDrop ?z_kDDrop ?z_neDrop ?z_nfDropPut ?z_nfDropAdd ?z_nfDropWipe ?z_nfDropRaise ?z_nfDropLevel ?z_nfDropMark ?z_nfDropForget ?z_mtDropstr ?z_mtDropeq ?z_caAdd ?z_moAdd ?z_kDAdd ?z_neAdd ?z_nfAddPut ?z_nfAddDrop ?z_nfAddWipe ?z_nfAddRaise ?z_nfAddLevel ?z_nfAddMark ?z_nfAddForget ?z_mtAddstr ?z_mtAddeq ?z_caWipe ?z_moWipe ?z_kDWipe ?z_neWipe ?z_nfWipePut ?z_nfWipeDrop ?z_nfWipeAdd ?z_nfWipeRaise ?z_nfWipeLevel ?z_nfWipeMark ?z_nfWipeForget ?z_mtWipestr ?z_mtWipeeq ?z_caRaise ?z_moRaise ?z_kDRaise ?z_neRaise ?z_nfRaisePut ?z_nfRaiseDrop ?z_nfRaiseAdd ?z_nfRaiseWipe ?z_nfRaiseLevel ?z_nfRaiseMark ?z_nfRaiseForget ?z_mtRaisestr ?z_mtRaiseeq ?z_caLevel ?z_moLevel ?z_kDLevel ?z_neLevel ?z_nfLevelPut ?z_nfLevelDrop ?z_nfLevelAdd ?z_nfLevelWipe ?z_nfLevelRaise ?z_nfLevelMark ?z_nfLevelForget ?z_mtLevelstr ?z_mtLeveleq ?z_caMark ?z_moMark ?z_kDMark ?z_neMark ?z_nfMarkPut ?z_nfMarkDrop ?z_nfMarkAdd ?z_nfMarkWipe ?z_nfMarkRaise ?z_nfMarkLevel ?z_nfMarkForget ?z_mtMarkstr ?z_mtMarkeq ?z_caForget ?z_moForget ?z_kDForget ?z_neForget ?z_nfForgetPut ?z_nfForgetDrop ?z_nfForgetAdd ?z_nfForgetWipe ?z_nfForgetRaise ?z_nfForgetLevel ?z_nfForgetMark ?z_mtForgetstr ?z_mtForgeteq
    (case z_END => k_is)
    (case z_MOST_VALUE => k_is)
    (case z_MOST_FIGURES => k_is)
    (case z_NO_MORE => k_is)
    (case z_THINGS => k_is)
    (case z_FallError => k_is)
    (case z_NoDeed => k_is)
    (case z_NoKey => k_is)
    (case z_NoStretch => k_is)
    (case z_NoMark => k_is)
    (case z_NoAction => k_is)
    (case z_NoPage => k_is)
    (case z_Deed => k_is)
    (case z_Put => k_is)
    (case z_Drop => k_is)
    (case z_Add => k_is)
    (case z_Wipe => k_is)
    (case z_Raise => k_is)
    (case z_Level => k_is)
    (case z_Mark => k_is)
    (case z_Forget => k_is)
    (case na_Put_key => k_is)
    (case na_Put_value => k_is)
    (case qa_Put => k_is)
    (case qb_Put => k_is)
    (case qc_Put => k_is)
    (case qd_Put => k_is)
    (case na_Drop_key => k_is)
    (case qa_Drop => k_is)
    (case qb_Drop => k_is)
    (case qc_Drop => k_is)
    (case qd_Drop => k_is)
    (case na_Add_by => k_is)
    (case na_Add_key => k_is)
    (case qa_Add => k_is)
    (case qb_Add => k_is)
    (case qc_Add => k_is)
    (case qd_Add => k_is)
    (case na_Wipe_high => k_is)
    (case na_Wipe_low => k_is)
    (case qa_Wipe => k_is)
    (case qb_Wipe => k_is)
    (case qc_Wipe => k_is)
    (case qd_Wipe => k_is)
    (case na_Raise_by => k_is)
    (case na_Raise_high => k_is)
    (case na_Raise_low => k_is)
    (case qa_Raise => k_is)
    (case qb_Raise => k_is)
    (case qc_Raise => k_is)
    (case qd_Raise => k_is)
    (case na_Level_high => k_is)
    (case na_Level_low => k_is)
    (case na_Level_value => k_is)
    (case qa_Level => k_is)
    (case qb_Level => k_is)
    (case qc_Level => k_is)
    (case qd_Level => k_is)
    (case qa_Mark => k_is)
    (case qb_Mark => k_is)
    (case qc_Mark => k_is)
    (case qd_Mark => k_is)
    (case na_Forget_mark => k_is)
    (case qa_Forget => k_is)
    (case qb_Forget => k_is)
    (case qc_Forget => k_is)
    (case qd_Forget => k_is)
    (case qa_Deed => k_is)
    (case qb_Deed => k_is)
    (case qc_Deed => k_is)
    (case qd_Deed => k_is)
    (case a1 => k_is)
    (case l1 => k_is)
    (case c1 => k_is)
    (case k1 => k_is)
    (case a2 => k_is)
    (case l2 => k_is)
    (case c2 => k_is)
    (case k2 => k_is)
    (case a3 => k_is)
    (case l3 => k_is)
    (case c3 => k_is)
    (case k3 => k_is)
    (case a4 => k_is)
    (case l4 => k_is)
    (case c4 => k_is)
    (case k4 => k_is)
    (case a5 => k_is)
    (case l5 => k_is)
    (case c5 => k_is)
    (case k5 => k_is)
    (case a6 => k_is)
    (case l6 => k_is)
    (case c6 => k_is)
    (case k6 => k_is)
    (case a7 => k_is)
    (case l7 => k_is)
    (case c7 => k_is)
    (case k7 => k_is)
    (case a8 => k_is)
    (case l8 => k_is)
    (case c8 => k_is)
    (case k8 => k_is)
    (case a9 => k_is)
    (case l9 => k_is)
    (case c9 => k_is)
    (case k9 => k_is)
    (case a10 => k_is)
    (case l10 => k_is)
    (case c10 => k_is)
    (case k10 => k_is)
    (case a11 => k_is)
    (case l11 => k_is)
    (case c11 => k_is)
    (case k11 => k_is)
    (case i12 => k_is)
    (case l12 => k_is)
    (case c12 => k_is)
    (case ld12 => k_is)
    (case k12 => k_is)
    (case n12 => k_is)
    (case p12 => k_is)
    (case bd12 => intros; kernel_rfl)
    (case q12a => k_is)
    (case q12b => k_is)
    (case q12c => k_is)
    (case q12d => k_is)
    (case na12key => k_is)
    (case na12value => k_is)
    (case i13 => k_is)
    (case l13 => k_is)
    (case c13 => k_is)
    (case k13 => k_is)
    (case n13 => k_is)
    (case i14 => k_is)
    (case l14 => k_is)
    (case c14 => k_is)
    (case ld14 => k_is)
    (case k14 => k_is)
    (case n14 => k_is)
    (case p14 => k_is)
    (case bd14 => intros; kernel_rfl)
    (case q14a => k_is)
    (case q14b => k_is)
    (case q14c => k_is)
    (case q14d => k_is)
    (case na14key => k_is)
    (case i15 => k_is)
    (case l15 => k_is)
    (case c15 => k_is)
    (case k15 => k_is)
    (case n15 => k_is)
    (case i16 => k_is)
    (case l16 => k_is)
    (case c16 => k_is)
    (case ld16 => k_is)
    (case k16 => k_is)
    (case n16 => k_is)
    (case p16 => k_is)
    (case bd16 => intros; kernel_rfl)
    (case q16a => k_is)
    (case q16b => k_is)
    (case q16c => k_is)
    (case q16d => k_is)
    (case na16key => k_is)
    (case na16by => k_is)
    (case i17 => k_is)
    (case l17 => k_is)
    (case c17 => k_is)
    (case k17 => k_is)
    (case n17 => k_is)
    (case i18 => k_is)
    (case l18 => k_is)
    (case c18 => k_is)
    (case ld18 => k_is)
    (case k18 => k_is)
    (case n18 => k_is)
    (case p18 => k_is)
    (case bd18 => intros; kernel_rfl)
    (case q18a => k_is)
    (case q18b => k_is)
    (case q18c => k_is)
    (case q18d => k_is)
    (case na18low => k_is)
    (case na18high => k_is)
    (case i19 => k_is)
    (case l19 => k_is)
    (case c19 => k_is)
    (case k19 => k_is)
    (case n19 => k_is)
    (case i20 => k_is)
    (case l20 => k_is)
    (case c20 => k_is)
    (case ld20 => k_is)
    (case k20 => k_is)
    (case n20 => k_is)
    (case p20 => k_is)
    (case bd20 => intros; kernel_rfl)
    (case q20a => k_is)
    (case q20b => k_is)
    (case q20c => k_is)
    (case q20d => k_is)
    (case na20low => k_is)
    (case na20high => k_is)
    (case na20by => k_is)
    (case i21 => k_is)
    (case l21 => k_is)
    (case c21 => k_is)
    (case k21 => k_is)
    (case n21 => k_is)
    (case i22 => k_is)
    (case l22 => k_is)
    (case c22 => k_is)
    (case ld22 => k_is)
    (case k22 => k_is)
    (case n22 => k_is)
    (case p22 => k_is)
    (case bd22 => intros; kernel_rfl)
    (case q22a => k_is)
    (case q22b => k_is)
    (case q22c => k_is)
    (case q22d => k_is)
    (case na22low => k_is)
    (case na22high => k_is)
    (case na22value => k_is)
    (case i23 => k_is)
    (case l23 => k_is)
    (case c23 => k_is)
    (case k23 => k_is)
    (case n23 => k_is)
    (case i24 => k_is)
    (case l24 => k_is)
    (case c24 => k_is)
    (case ld24 => k_is)
    (case k24 => k_is)
    (case n24 => k_is)
    (case p24 => k_is)
    (case bd24 => intros; kernel_rfl)
    (case q24a => k_is)
    (case q24b => k_is)
    (case q24c => k_is)
    (case q24d => k_is)
    (case i25 => k_is)
    (case l25 => k_is)
    (case c25 => k_is)
    (case k25 => k_is)
    (case n25 => k_is)
    (case i26 => k_is)
    (case l26 => k_is)
    (case c26 => k_is)
    (case ld26 => k_is)
    (case k26 => k_is)
    (case n26 => k_is)
    (case p26 => k_is)
    (case bd26 => intros; kernel_rfl)
    (case q26a => k_is)
    (case q26b => k_is)
    (case q26c => k_is)
    (case q26d => k_is)
    (case na26mark => k_is)
    (case i27 => k_is)
    (case l27 => k_is)
    (case c27 => k_is)
    (case k27 => k_is)
    (case n27 => k_is)
    (case i28 => k_is)
    (case l28 => k_is)
    (case c28 => k_is)
    (case k28 => k_is)
    (case n28 => k_is)
    (case i29 => k_is)
    (case l29 => k_is)
    (case c29 => k_is)
    (case k29 => k_is)
    (case n29 => k_is)
    (case a30 => k_is)
    (case l30 => k_is)
    (case c30 => k_is)
    (case k30 => k_is)
    (case a31 => k_is)
    (case l31 => k_is)
    (case c31 => k_is)
    (case k31 => k_is)
    (case a32 => k_is)
    (case l32 => k_is)
    (case c32 => k_is)
    (case k32 => k_is)
    (case a33 => k_is)
    (case l33 => k_is)
    (case c33 => k_is)
    (case k33 => k_is)
    (case a34 => k_is)
    (case l34 => k_is)
    (case c34 => k_is)
    (case k34 => k_is)
    (case a35 => k_is)
    (case l35 => k_is)
    (case c35 => k_is)
    (case k35 => k_is)
    (case a36 => k_is)
    (case l36 => k_is)
    (case c36 => k_is)
    (case k36 => k_is)
    (case a37 => k_is)
    (case l37 => k_is)
    (case c37 => k_is)
    (case k37 => k_is)
    (case a38 => k_is)
    (case l38 => k_is)
    (case c38 => k_is)
    (case k38 => k_is)
    (case a39 => k_is)
    (case l39 => k_is)
    (case c39 => k_is)
    (case k39 => k_is)
    (case a40 => k_is)
    (case l40 => k_is)
    (case c40 => k_is)
    (case k40 => k_is)
    (case a41 => k_is)
    (case l41 => k_is)
    (case c41 => k_is)
    (case k41 => k_is)
    (case a42 => k_is)
    (case l42 => k_is)
    (case c42 => k_is)
    (case k42 => k_is)
    (case a43 => k_is)
    (case l43 => k_is)
    (case c43 => k_is)
    (case k43 => k_is)
    (case a44 => k_is)
    (case l44 => k_is)
    (case c44 => k_is)
    (case k44 => k_is)
    (case a45 => k_is)
    (case l45 => k_is)
    (case c45 => k_is)
    (case k45 => k_is)
    (case z_len => k_is)
    (case z_isinstance => k_is)
    (case z_int => k_is)
    (case z_bool => k_is)
    (case z_tuple => k_is)
    (case z_str => k_is)
    (case z_min => k_is)
    (case z_kT => k_is)
    (case z_tne => decide)
    (case z_gt => k_is)
    (case z_tk => k_is)
    (case z_xD => k_exc)
    (case z_gaD => k_is)
    (case z_ghD => k_is)
    (case z_clD => k_is)
    (case z_moD => k_is)
    (case z_mbD => k_is)
    (case z_isD => k_is)
    (case z_mD => kts_exm)
    (case z_kx0 => kit_is)
    (case z_kx1 => kit_is)
    (case z_kx2 => kit_is)
    (case z_kx3 => kit_is)
    (case z_kx4 => kit_is)
    (case z_kx5 => kit_is)
    (case z_caPut => k_is)
    (case z_moPut => k_is)
    (case z_kDPut => kit_is)
    (case z_nePut => k_is)
    (case z_nfPutDrop => k_is)
    (case z_nfPutAdd => k_is)
    (case z_nfPutWipe => k_is)
    (case z_nfPutRaise => k_is)
    (case z_nfPutLevel => k_is)
    (case z_nfPutMark => k_is)
    (case z_nfPutForget => k_is)
    (case z_mtPutstr => k_is)
    (case z_mtPuteq => k_is)
    (case z_caDrop => k_is)
    (case z_moDrop => k_is)
    (case z_kDDrop => kit_is)
    (case z_neDrop => k_is)
    (case z_nfDropPut => k_is)
    (case z_nfDropAdd => k_is)
    (case z_nfDropWipe => k_is)
    (case z_nfDropRaise => k_is)
    (case z_nfDropLevel => k_is)
    (case z_nfDropMark => k_is)
    (case z_nfDropForget => k_is)
    (case z_mtDropstr => k_is)
    (case z_mtDropeq => k_is)
    (case z_caAdd => k_is)
    (case z_moAdd => k_is)
    (case z_kDAdd => kit_is)
    (case z_neAdd => k_is)
    (case z_nfAddPut => k_is)
    (case z_nfAddDrop => k_is)
    (case z_nfAddWipe => k_is)
    (case z_nfAddRaise => k_is)
    (case z_nfAddLevel => k_is)
    (case z_nfAddMark => k_is)
    (case z_nfAddForget => k_is)
    (case z_mtAddstr => k_is)
    (case z_mtAddeq => k_is)
    (case z_caWipe => k_is)
    (case z_moWipe => k_is)
    (case z_kDWipe => kit_is)
    (case z_neWipe => k_is)
    (case z_nfWipePut => k_is)
    (case z_nfWipeDrop => k_is)
    (case z_nfWipeAdd => k_is)
    (case z_nfWipeRaise => k_is)
    (case z_nfWipeLevel => k_is)
    (case z_nfWipeMark => k_is)
    (case z_nfWipeForget => k_is)
    (case z_mtWipestr => k_is)
    (case z_mtWipeeq => k_is)
    (case z_caRaise => k_is)
    (case z_moRaise => k_is)
    (case z_kDRaise => kit_is)
    (case z_neRaise => k_is)
    (case z_nfRaisePut => k_is)
    (case z_nfRaiseDrop => k_is)
    (case z_nfRaiseAdd => k_is)
    (case z_nfRaiseWipe => k_is)
    (case z_nfRaiseLevel => k_is)
    (case z_nfRaiseMark => k_is)
    (case z_nfRaiseForget => k_is)
    (case z_mtRaisestr => k_is)
    (case z_mtRaiseeq => k_is)
    (case z_caLevel => k_is)
    (case z_moLevel => k_is)
    (case z_kDLevel => kit_is)
    (case z_neLevel => k_is)
    (case z_nfLevelPut => k_is)
    (case z_nfLevelDrop => k_is)
    (case z_nfLevelAdd => k_is)
    (case z_nfLevelWipe => k_is)
    (case z_nfLevelRaise => k_is)
    (case z_nfLevelMark => k_is)
    (case z_nfLevelForget => k_is)
    (case z_mtLevelstr => k_is)
    (case z_mtLeveleq => k_is)
    (case z_caMark => k_is)
    (case z_moMark => k_is)
    (case z_kDMark => kit_is)
    (case z_neMark => k_is)
    (case z_nfMarkPut => k_is)
    (case z_nfMarkDrop => k_is)
    (case z_nfMarkAdd => k_is)
    (case z_nfMarkWipe => k_is)
    (case z_nfMarkRaise => k_is)
    (case z_nfMarkLevel => k_is)
    (case z_nfMarkForget => k_is)
    (case z_mtMarkstr => k_is)
    (case z_mtMarkeq => k_is)
    (case z_caForget => k_is)
    (case z_moForget => k_is)
    (case z_kDForget => kit_is)
    (case z_neForget => k_is)
    (case z_nfForgetPut => k_is)
    (case z_nfForgetDrop => k_is)
    (case z_nfForgetAdd => k_is)
    (case z_nfForgetWipe => k_is)
    (case z_nfForgetRaise => k_is)
    (case z_nfForgetLevel => k_is)
    (case z_nfForgetMark => k_is)
    (case z_mtForgetstr => k_is)
    (case z_mtForgeteq => k_is)
